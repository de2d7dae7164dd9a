import PyProof.Rows.All
import Wide.All
import OpenK.AllK
import Wide.FinOn
import Lean
import PyProof.EqAt
import PyProof.EqKinds
import PyProof.TupleCall
import PyProof.P3Eq
import PyProof.P3In
import PyProof.NeData
import KE.KSortTup
import KE.LcSums
import PyProof.Rows.TupAdd
import KE.KTryMore
import OpenK.KOwn
import PyProof.NsDelKeeps
import PyProof.ExcArgsOwn
import KE.KIsAll
import KE.KDictList
import KE.KLam
import KE.KMinKey
import KE.KNest
import KE.KNestM
import KE.KRevIter
import PyProof.Draws
import PyProof.EnumMake
import PyProof.FactsAll.tuple
import PyProof.ListMulRoad
import PyProof.ListRange
import PyProof.MinMaxWalk
import PyProof.Rows.MinMaxN
import PyProof.Rows.SetFrom
import PyProof.Rows.SumAny
import PyProof.SliceList
import PyProof.TupleOfSeq
import PyProof.WalkInts
import PyProof.WalksMore
import PyProof.ZipIter
import PySem.Challenge.RW_noticed_k14_whole_widest
set_option Elab.async false
set_option linter.all false
set_option maxRecDepth 100000
namespace L2
open PySem PySem.Spec PyProof.Rows
noncomputable abbrev Key:=Sum Int Str
noncomputable def keyIs:Key→Value→Bool
 | .inl k,v=>Value.isInt k v
 | .inr x,v=>Value.isStrOf x v
noncomputable def keyH (w:World):Key→Int
 | .inl k=>hashInt k
 | .inr x=>hashStr w x
theorem keyIs_shape:∀ {k:Key} {v:Value},keyIs k v=true→(∃ i t,k=Sum.inl i∧v=Value.int i t)∨(∃ x t,k=Sum.inr x∧v=Value.str x t)
 | .inl i,v,h=>by
  obtain ⟨t,e⟩:=Value.isInt_shape (k:=i) (v:=v) h
  exact .inl ⟨i,t,rfl,e⟩
 | .inr x,v,h=>by
  obtain ⟨t,e⟩:=Value.isStrOf_shape (x:=x) (v:=v) h
  exact .inr ⟨x,t,rfl,e⟩
theorem keyIs_int (i:Int) (t:Tok):keyIs (.inl i) (.int i t)=true:=by simp [keyIs,Value.isInt]
theorem keyIs_str (x:Str) (t:Tok):keyIs (.inr x) (.str x t)=true:=by simp [keyIs,Value.isStrOf]
theorem key_ll (a b:Int):decide ((Sum.inl a:Key)=Sum.inl b)=(a==b):=by
 by_cases e:a=b
 ·subst e;simp
 ·have h:¬(Sum.inl a:Key)=Sum.inl b:=fun q=>e (Sum.inl.inj q)
  rw [decide_eq_false h]
  exact (beq_eq_false_iff_ne.mpr e).symm
theorem key_rr (a b:Str):decide ((Sum.inr a:Key)=Sum.inr b)=decide (a=b):=by
 by_cases e:a=b
 ·subst e;simp
 ·have h:¬(Sum.inr a:Key)=Sum.inr b:=fun q=>e (Sum.inr.inj q)
  rw [decide_eq_false h,decide_eq_false e]
theorem key_lr (a:Int) (b:Str):decide ((Sum.inl a:Key)=Sum.inr b)=false:=decide_eq_false (fun q=>nomatch q)
theorem key_rl (a:Str) (b:Int):decide ((Sum.inr a:Key)=Sum.inl b)=false:=decide_eq_false (fun q=>nomatch q)
noncomputable def mixKind (prog:Program) (w:World):PySem.KeyKind prog w Key where
 is:=keyIs
 hash:=keyH w
 inj:=fun v a b ha hb=>by
  rcases keyIs_shape ha with ⟨i,t,rfl,rfl⟩ | ⟨x,t,rfl,rfl⟩
  ·rcases keyIs_shape hb with ⟨j,u,rfl,e⟩ | ⟨y,u,rfl,e⟩
   ·injection e with e1 _;rw [e1]
   ·exact nomatch e
  ·rcases keyIs_shape hb with ⟨j,u,rfl,e⟩ | ⟨y,u,rfl,e⟩
   ·exact nomatch e
   ·injection e with e1 _;rw [e1]
 byValue:=fun k v h=>by
  rcases keyIs_shape h with ⟨i,t,rfl,rfl⟩ | ⟨x,t,rfl,rfl⟩ <;> rfl
 pyHash:=fun hv h=>by
  rcases keyIs_shape hv with ⟨i,t,rfl,rfl⟩ | ⟨x,t,rfl,rfl⟩
  ·exact wpAny_pyHash_int h
  ·exact wpAny_pyHash_str h
 eqBool:=fun hu hv h=>by
  rcases keyIs_shape hu with ⟨i,t,rfl,rfl⟩ | ⟨x,t,rfl,rfl⟩
  ·rcases keyIs_shape hv with ⟨j,u,rfl,rfl⟩ | ⟨y,u,rfl,rfl⟩
   ·rw [key_ll] at h;exact wpAny_eqBool_int h
   ·rw [key_lr] at h;exact SeqAt.EqAt.int_str i t y u _ _ _ _ h
  ·rcases keyIs_shape hv with ⟨j,u,rfl,rfl⟩ | ⟨y,u,rfl,rfl⟩
   ·rw [key_rl] at h;exact SeqAt.EqAt.str_int x t j u _ _ _ _ h
   ·rw [key_rr] at h;exact wpAny_eqBool_str h
 «strs»:=fun k x t v h=>by
  rcases keyIs_shape h with ⟨i,u,rfl,e⟩ | ⟨y,u,rfl,e⟩
  ·exact nomatch e
  ·injection e with e1 _
   subst e1
   cases v <;> rfl
theorem mixKind_int (prog:Program) (w:World) (i:Int) (t:Tok):(mixKind prog w).is (.inl i) (.int i t)=true:=keyIs_int i t
theorem mixKind_str (prog:Program) (w:World) (x:Str) (t:Tok):(mixKind prog w).is (.inr x) (.str x t)=true:=keyIs_str x t
end L2
namespace L2
open PySem PySem.Spec PyProof.Rows
inductive V where
 | non | bl (b:Bool) | int (i:Int) | str (x:Str) | byt (b:Array UInt8) | flt (b:UInt64) | ref (a:Addr) | ty (n:String)
 deriving DecidableEq
noncomputable def RelV:V→Value→Prop
 | .non,u=>u=Value.none
 | .bl b,u=>u=Value.bool b
 | .int i,u=>∃ t,u=Value.int i t
 | .str x,u=>∃ t,u=Value.str x t
 | .byt b,u=>∃ t,u=Value.bytes b t
 | .flt b,u=>∃ t,u=Value.float b t
 | .ref a,u=>u=Value.ref a
 | .ty n,u=>u=Value.type n
noncomputable abbrev Vals:List V→List Value→Prop:=Paired RelV
theorem Vals.length {xs:List V} {us:List Value} (r:Vals xs us):xs.length=us.length:=Paired.length r
theorem Vals.get:∀ {xs:List V} {us:List Value} {i:Nat} {x:V},Vals xs us→xs[i]? =some x→∃ u,us[i]? =some u∧RelV x u
 | _,_,_,_,.nil,e=>by simp at e
 | _,_,0,_,.cons r _,e=>by simp at e;subst e;exact ⟨_,rfl,r⟩
 | _,_,i + 1,x,.cons _ t,e=>by
  obtain ⟨u,h1,h2⟩:=Vals.get (i:=i) (x:=x) t (by simpa using e)
  exact ⟨u,by simpa using h1,h2⟩
theorem Vals.set {x:V} {u:Value} (r:RelV x u):∀ {xs:List V} {us:List Value} (i:Nat),Vals xs us→Vals (xs.set i x) (us.set i u)
 | _,_,_,.nil=>.nil
 | _,_,0,.cons _ t=>.cons r t
 | _,_,i + 1,.cons q t=>.cons q (Vals.set r i t)
theorem Vals.append:∀ {xs ys:List V} {us ws:List Value},Vals xs us→Vals ys ws→Vals (xs++ys) (us++ws)
 | _,_,_,_,.nil,s=>s
 | _,_,_,_,.cons r t,s=>.cons r (Vals.append t s)
theorem Vals.take:∀ {xs:List V} {us:List Value} (n:Nat),Vals xs us→Vals (xs.take n) (us.take n)
 | _,_,0,_=>.nil
 | _,_,_ + 1,.nil=>.nil
 | _,_,n + 1,.cons r t=>.cons r (Vals.take n t)
theorem Vals.drop:∀ {xs:List V} {us:List Value} (n:Nat),Vals xs us→Vals (xs.drop n) (us.drop n)
 | _,_,0,r=>r
 | _,_,_ + 1,.nil=>.nil
 | _,_,n + 1,.cons _ t=>Vals.drop n t
theorem Vals.none_of:∀ {xs:List V} {us:List Value} {i:Nat},Vals xs us→xs[i]? =none→us[i]? =none:=fun {xs us i} r e=>by
 have h1:=r.length
 have h2:xs.length≤i:=List.getElem?_eq_none_iff.mp e
 exact List.getElem?_eq_none_iff.mpr (by omega)
noncomputable def RelO:Option V→Option Value→Prop
 | some v,some u=>RelV v u
 | none,none=>True
 | _,_=>False
noncomputable def KV {κ:Type}:List (κ×V)→List (κ×Value)→Prop:=Paired fun (p:κ×V) (q:κ×Value)=>p.1=q.1∧RelV p.2 q.2
noncomputable def kV:Key→V
 | .inl i=>.int i
 | .inr x=>.str x
inductive HO where
 | lst (xs:List V)
 | tup (xs:List V)
 | dK (kvs:List (Key×V)) | dT (kvs:List (List Key×V))
 | set (S:Int→Bool) (n:Nat)
 | ins (C dx:Addr) (fs:List (Str×V))
 | own (x:Addr)
 | xd (fs:List (Str×V))
 | met (f x:Addr)
 | rng (lo hi:Int)
 | frz (o:Obj) (u:HO)
 | tbl (ps:Array Value)
 | ext (φ:Heap→Prop)
noncomputable abbrev Hp:=Addr→Option HO
noncomputable def upd (H:Hp) (a:Addr) (o:HO):Hp:=fun b=>if b=a then some o else H b
theorem upd_same {H:Hp} {a:Addr} {o:HO}:upd H a o a=some o:=by unfold upd;rw [if_pos rfl]
theorem upd_ne {H:Hp} {a b:Addr} {o:HO} (h:b≠a):upd H a o b=H b:=by unfold upd;rw [if_neg h]
theorem ne_of {H:Hp} {a b:Addr} {o u:HO} (h:H a=some o) (h':H b=some u) (d:o≠u):a≠b:=by
 intro e;subst e;rw [h] at h';exact d (Option.some.inj h')
theorem ne_of_none {H:Hp} {a b:Addr} {o:HO} (h:H a=some o) (h':H b=none):a≠b:=by
 intro e;subst e;rw [h] at h';cases h'
noncomputable def IsTupN (h:Heap) (a:Addr) (items:Array Value):Prop:=IsTup h a items∧∃ o,h.get? a=some o∧o.dict=none
theorem IsTupN.new (h:Heap) (items:Array Value):IsTupN (h.push { cls:=.type "tuple",data:=.seq items }) h.objs.size items:=⟨IsTup.new h items,_,Heap.get?_push_size _ rfl,rfl⟩
section
variable (P:Program) (w:World)
noncomputable def ObjOk (H:Hp) (h:Heap) (a:Addr):HO→Prop
 | .lst xs=>xs.length≤sizeLine∧∃ (its:List Value) (n:Nat),Vals xs its∧h.get? a=some { cls:=.type "list",data:=.seq its.toArray n }
 | .tup xs=>xs.length≤sizeLine∧∃ its:List Value,Vals xs its∧IsTupN h a its.toArray
 | .dK kvs=>kvs.length≤sizeLine∧(a==sysModules)=false∧∃ vs,KV kvs vs∧h.DictOf (mixKind P w) a vs
 | .dT kvs=>kvs.length≤sizeLine∧(a==sysModules)=false∧∃ xs:List (List Key×Addr×Value),
   Paired (fun (p:List Key×V) (q:List Key×Addr×Value)=>p.1=q.1∧H q.2.1=some (.tup (p.1.map kV))∧RelV p.2 q.2.2) kvs xs∧
   ∃ o es ep,h.get? a=some o∧o.ExactDict∧o.data=.dict es ep∧es.toList=xs.map (entryOfKey (tupleKind (mixKind P w)))∧(xs.map (·.1)).Nodup
 | .set S n=>h.SetOf (intKind P w) a S n
 | .ins C dx fs=>H dx=some (.own a)∧fs.length≤1000∧dx≠a∧h.get? a=some (PySem.W.instObj C dx)∧
   ∃ mA,h.Ns1 dx mA∧(∀ f,RelO (fs.lookup f) (mA f))∧PySem.Within mA (fs.map (·.1))
 | .own _=>∃ o,h.get? a=some o
 | .xd fs=>∃ mA,h.Ns1 a mA∧∀ f,RelO (fs.lookup f) (mA f)
 | .rng lo hi=>∃ t u v,h.get? a=some { cls:=.type "range",data:=.fields #[.int lo t,.int hi u,.int 1 v] }
 | .frz o u=>h.get? a=some o∧ObjOk H h a u
 | .tbl ps=>h.get? a=some { cls:=.none,data:=.fields ps }
 | .met f x=>h.get? a=some (PySem.W.methodObj (.ref f) (.ref x))
 | .ext φ=>φ h∧(∃ o,h.get? a=some o)∧∀ h1 h2:Heap,φ h1→(∀ o,h1.get? a=some o→h2.get? a=some o)→φ h2
noncomputable def HOk (H:Hp) (h:Heap):Prop:=∀ a o,H a=some o→ObjOk P w H h a o
end
section
variable {P:Program} {w:World} {H H':Hp} {h h':Heap} {a:Addr} {o:HO}
theorem ObjOk.lt (x:ObjOk P w H h a o):a < h.objs.size:=by
 cases o with
 | lst xs=>obtain ⟨_,_,_,_,e⟩:=x;exact Heap.lt_size e
 | tup xs=>obtain ⟨_,_,_,p⟩:=x;exact p.1.lt
 | dK kvs=>obtain ⟨_,_,_,_,o,_,_,e,_⟩:=x;exact Heap.lt_size e
 | dT kvs=>obtain ⟨_,_,_,_,o,_,_,e,_⟩:=x;exact Heap.lt_size e
 | set S n=>obtain ⟨o,_,_,_,e,_⟩:=x;exact Heap.lt_size e
 | ins C dx fs=>obtain ⟨_,_,_,e,_⟩:=x;exact Heap.lt_size e
 | own y=>obtain ⟨_,e⟩:=x;exact Heap.lt_size e
 | xd fs=>obtain ⟨_,⟨_,_,_,e,_⟩,_⟩:=x;exact Heap.lt_size e
 | rng lo hi=>obtain ⟨_,_,_,e⟩:=x;exact Heap.lt_size e
 | frz ob u=>obtain ⟨e,_⟩:=x;exact Heap.lt_size e
 | tbl ps=>exact Heap.lt_size (show h.get? a=some _ from x)
 | met f y=>exact Heap.lt_size (show h.get? a=some _ from x)
 | ext φ=>obtain ⟨_,⟨_,e⟩,_⟩:=x;exact Heap.lt_size e
theorem Paired.mapP {α β:Type} {F G:α→β→Prop}:∀ {l₁:List α} {l₂:List β},Paired F l₁ l₂→(∀ a b,F a b→G a b)→Paired G l₁ l₂
 | _,_,.nil,_=>.nil
 | _,_,.cons r t,f=>.cons (f _ _ r) (Paired.mapP t f)
theorem ObjOk.stay (x:ObjOk P w H h a o) (k:∀ b u,(b=a∨H b=some (.own a))→h.get? b=some u→h'.get? b=some u)
  (ho:∀ b,H b=some (.own a)→H' b=some (.own a)) (ht:∀ b xs,H b=some (.tup xs)→H' b=some (.tup xs)):ObjOk P w H' h' a o:=by
 induction o with
 | lst xs=>obtain ⟨z,its,n,r,e⟩:=x;exact ⟨z,its,n,r,k _ _ (.inl rfl) e⟩
 | tup xs=>obtain ⟨z,its,r,⟨ob,e,c⟩,ob2,e2,c2⟩:=x;exact ⟨z,its,r,⟨ob,k _ _ (.inl rfl) e,c⟩,ob2,k _ _ (.inl rfl) e2,c2⟩
 | dK kvs=>obtain ⟨z,y,vs,r,ob,es,ep,e,c⟩:=x;exact ⟨z,y,vs,r,ob,es,ep,k _ _ (.inl rfl) e,c⟩
 | dT kvs=>
  obtain ⟨z,y,xs,r,ob,es,ep,e,c⟩:=x
  exact ⟨z,y,xs,Paired.mapP r fun p q z=>⟨z.1,ht _ _ z.2.1,z.2.2⟩,ob,es,ep,k _ _ (.inl rfl) e,c⟩
 | set S n=>obtain ⟨ob,es,ep,t,e,c⟩:=x;exact ⟨ob,es,ep,t,k _ _ (.inl rfl) e,c⟩
 | ins C dx fs=>
  obtain ⟨d,z,ne,e,mA,⟨od,es,ep,e2,c⟩,r⟩:=x
  exact ⟨ho _ d,z,ne,k _ _ (.inl rfl) e,mA,⟨od,es,ep,k _ _ (.inr d) e2,c⟩,r⟩
 | own y=>obtain ⟨ob,e⟩:=x;exact ⟨ob,k _ _ (.inl rfl) e⟩
 | xd fs=>obtain ⟨mA,⟨od,es,ep,e,c⟩,r⟩:=x;exact ⟨mA,⟨od,es,ep,k _ _ (.inl rfl) e,c⟩,r⟩
 | rng lo hi=>obtain ⟨t,u,v,e⟩:=x;exact ⟨t,u,v,k _ _ (.inl rfl) e⟩
 | frz ob u ih=>obtain ⟨e,q⟩:=x;exact ⟨k _ _ (.inl rfl) e,ih q⟩
 | tbl ps=>
  have e:h.get? a=some { cls:=.none,data:=.fields ps }:=x
  show h'.get? a=some { cls:=.none,data:=.fields ps }
  exact k a _ (.inl rfl) e
 | met f y=>
  have e:h.get? a=some (PySem.W.methodObj (.ref f) (.ref y)):=x
  show h'.get? a=some (PySem.W.methodObj (.ref f) (.ref y))
  exact k a _ (.inl rfl) e
 | ext φ=>obtain ⟨p,⟨o,e⟩,st⟩:=x;exact ⟨st _ _ p fun o q=>k _ _ (.inl rfl) q,⟨o,k _ _ (.inl rfl) e⟩,st⟩
theorem HOk.lt (x:HOk P w H h) (e:H a=some o):a < h.objs.size:=(x a o e).lt
theorem HOk.fresh (x:HOk P w H h) (e:h.objs.size≤a):H a=none:=by
 cases q:H a with
 | none=>rfl
 | some u=>exact absurd (Nat.lt_of_lt_of_le (x.lt q) e) (Nat.lt_irrefl _)
theorem HOk.kept (x:HOk P w H h) (k:∀ b u,h.get? b=some u→h'.get? b=some u):HOk P w H h':=fun a o e=>
 (x a o e).stay (fun b u _ q=>k b u q) (fun _ q=>q) fun _ _ q=>q
theorem HOk.laid (x:HOk P w H h) (k:∀ b u,h.get? b=some u→h'.get? b=some u) (hp:h.objs.size≤a) (new:ObjOk P w (upd H a o) h' a o):HOk P w (upd H a o) h':=fun b u e=>by
 have hn:=x.fresh hp
 by_cases hb:b=a
 ·subst hb;rw [upd_same] at e;cases e;exact new
 ·rw [upd_ne hb] at e
  exact (x b u e).stay (fun c v _ q=>k c v q) (fun c q=>by rw [upd_ne (ne_of_none q hn)];exact q) fun c xs q=>by rw [upd_ne (ne_of_none q hn)];exact q
end
noncomputable def Rd (H:Hp) (a:Addr) (u:HO):Prop:=H a=some u∨∃ o,H a=some (.frz o u)
theorem Rd.of {H:Hp} {a:Addr} {u:HO} (h:H a=some u):Rd H a u:=.inl h
theorem Rd.ok {P:Program} {w:World} {H:Hp} {h:Heap} {a:Addr} {u:HO} (r:Rd H a u) (x:HOk P w H h):ObjOk P w H h a u:=by
 rcases r with r | ⟨o,r⟩
 ·exact x a u r
 ·obtain ⟨_,q⟩:=x a _ r
  exact q
noncomputable def Mut:Option HO→Prop
 | some (.lst _)=>True
 | some (.dK _)=>True
 | some (.dT _)=>True
 | some (.set _ _)=>True
 | some (.ins _ _ _)=>True
 | some (.ext _)=>True
 | _=>False
section
variable {P:Program} {w:World} {H:Hp} {h h':Heap} {x e:Addr} {o':HO}
theorem HOk.write (ok:HOk P w H h) (mu:Mut (H x)) (he:e=x∨H e=some (.own x)) (k:∀ b u,b≠e→h.get? b=some u→h'.get? b=some u) (heo:∃ u,h'.get? e=some u)
  (new:ObjOk P w (upd H x o') h' x o'):HOk P w (upd H x o') h':=fun b u q=>by
 have nown:∀ c y,H c=some (.own y)→c≠x:=fun c y r z=>by subst z;rw [r] at mu;exact mu
 have ntup:∀ c xs,H c=some (.tup xs)→c≠x:=fun c xs r z=>by subst z;rw [r] at mu;exact mu
 by_cases hb:b=x
 ·subst hb;rw [upd_same] at q;cases q;exact new
 ·rw [upd_ne hb] at q
  by_cases hbe:b=e
  ·have q':H b=some (.own x):=by
    rcases he with z | z
    ·exact absurd (hbe.trans z) hb
    ·rw [hbe];exact z
   rw [q] at q';cases q'
   obtain ⟨v,hv⟩:=heo
   exact ⟨v,by rw [hbe];exact hv⟩
  ·refine (ok b u q).stay (fun c v hc r=>k c v ?_ r) (fun c r=>by rw [upd_ne (nown c b r)];exact r) fun c xs r=>by rw [upd_ne (ntup c xs r)];exact r
   rcases hc with rfl | hc
   ·exact hbe
   ·rintro rfl
    rcases he with z | z
    ·exact nown c b hc z
    ·rw [hc] at z;cases z;exact hb rfl
end
structure Un (fs ex:List Addr) (H H':Hp) (h h':Heap):Prop where
 keep:∀ b o,h.get? b=some o→H b=none→b∉fs→b∉ex→h'.get? b=some o
 slot:∀ b o,h.get? b=some o→H b=none→b∈fs→b∉ex→∃ sl,h'.get? b=some { o with slots:=sl }
 free:∀ b o,h.get? b=some o→H b=none→b∉ex→H' b=none
 there:∀ b o,h.get? b=some o→b∉ex→∃ o',h'.get? b=some o'
 tups:∀ b xs,H b=some (.tup xs)→H' b=some (.tup xs)
 frzs:∀ b o u,H b=some (.frz o u)→H' b=some (.frz o u)
 tbls:∀ b ps,H b=some (.tbl ps)→∃ more,H' b=some (.tbl (ps++more))
section
variable {fs fs' ex ex':List Addr} {H H1 H2:Hp} {h h1 h2 h':Heap} {a x e:Addr} {o:HO}
theorem Un.any (u:Un fs ex H H1 h h1) {b:Addr} {ob:Obj} (q:h.get? b=some ob) (n:H b=none) (hx:b∉ex):∃ sl,h1.get? b=some { ob with slots:=sl }:=by
 by_cases hb:b∈fs
 ·exact u.slot b ob q n hb hx
 ·exact ⟨ob.slots,u.keep b ob q n hb hx⟩
theorem Un.trans (a:Un fs ex H H1 h h1) (b:Un fs ex H1 H2 h1 h2):Un fs ex H H2 h h2 where
 keep:=fun c ob q n hc hx=>b.keep c ob (a.keep c ob q n hc hx) (a.free c ob q n hx) hc hx
 slot:=fun c ob q n hc hx=>by
  obtain ⟨sl,e1⟩:=a.slot c ob q n hc hx
  obtain ⟨sl',e2⟩:=b.slot c _ e1 (a.free c ob q n hx) hc hx
  exact ⟨sl',e2⟩
 free:=fun c ob q n hx=>by
  obtain ⟨o',e1⟩:=a.there c ob q hx
  exact b.free c o' e1 (a.free c ob q n hx) hx
 there:=fun c ob q hx=>by
  obtain ⟨o',e1⟩:=a.there c ob q hx
  exact b.there c o' e1 hx
 tups:=fun c xs q=>b.tups c xs (a.tups c xs q)
 frzs:=fun c ob xs q=>b.frzs c ob xs (a.frzs c ob xs q)
 tbls:=fun c ps q=>by
  obtain ⟨m1,e1⟩:=a.tbls c ps q
  obtain ⟨m2,e2⟩:=b.tbls c _ e1
  exact ⟨m1++m2,by rw [e2,Array.append_assoc]⟩
theorem Un.kept (k:∀ b u,h.get? b=some u→h'.get? b=some u):Un fs ex H H h h':=
 ⟨fun b ob q _ _ _=>k b ob q,fun b ob q _ _ _=>⟨ob.slots,k b ob q⟩,fun _ _ _ n _=>n,fun b ob q _=>⟨ob,k b ob q⟩,fun _ _ q=>q,fun _ _ _ q=>q,fun _ ps q=>⟨#[],by rw [q];simp⟩⟩
theorem Un.refl:Un fs ex H H h h:=Un.kept fun _ _ q=>q
theorem Un.laid (k:∀ b u,h.get? b=some u→h'.get? b=some u) (hp:h.objs.size≤a) (hn:H a=none):Un fs ex H (upd H a o) h h' where
 keep:=fun b u q _ _ _=>k b u q
 slot:=fun b u q _ _ _=>⟨u.slots,k b u q⟩
 free:=fun b u q n _=>by rw [upd_ne (Nat.ne_of_lt (Nat.lt_of_lt_of_le (Heap.lt_size q) hp))];exact n
 there:=fun b u q _=>⟨u,k b u q⟩
 tups:=fun b xs q=>by rw [upd_ne (ne_of_none q hn)];exact q
 frzs:=fun b u xs q=>by rw [upd_ne (ne_of_none q hn)];exact q
 tbls:=fun b ps q=>⟨#[],by rw [upd_ne (ne_of_none q hn),q];simp⟩
theorem Un.write (mu:Mut (H x)) (he:e=x∨H e=some (.own x)) (k:∀ b u,b≠e→h.get? b=some u→h'.get? b=some u) (heo:∃ u,h'.get? e=some u):Un fs ex H (upd H x o) h h':=by
 have hx:∀ b,H b=none→b≠x:=fun b n z=>by subst z;rw [n] at mu;exact mu
 have hb:∀ b,H b=none→b≠e:=fun b n z=>by
  subst z
  rcases he with r | r
  ·exact hx b n r
  ·rw [n] at r;cases r
 have hm:∀ b u,H b=some u→¬Mut (some u)→b≠x:=fun b u q nm z=>by subst z;rw [q] at mu;exact nm mu
 refine ⟨fun b u q n _ _=>k b u (hb b n) q,fun b u q n _ _=>⟨u.slots,k b u (hb b n) q⟩,fun b u q n _=>by rw [upd_ne (hx b n)];exact n,fun b u q _=>?_,
  fun b xs q=>by rw [upd_ne (hm b _ q fun z=>z)];exact q,fun b u xs q=>by rw [upd_ne (hm b _ q fun z=>z)];exact q,fun b ps q=>⟨#[],by rw [upd_ne (hm b _ q fun z=>z),q];simp⟩⟩
 by_cases hbe:b=e
 ·subst hbe;exact heo
 ·exact ⟨u,k b u hbe q⟩
theorem Un.mono (u:Un fs ex H H1 h h1) (hs:∀ b∈fs,b∈fs') (hx:∀ b∈ex,b∈ex'):Un fs' ex' H H1 h h1:=
 ⟨fun b ob q n hb he=>u.keep b ob q n (fun z=>hb (hs b z)) fun z=>he (hx b z),fun _ _ q n _ he=>u.any q n fun z=>he (hx _ z),fun b ob q n he=>u.free b ob q n fun z=>he (hx b z),fun b ob q he=>u.there b ob q fun z=>he (hx b z),u.tups,u.frzs,u.tbls⟩
end
noncomputable def trk (h:Heap) (H:Hp):List Addr:=(List.range h.objs.size).filter fun a=>(H a).isSome
noncomputable def hidT (h:Heap) (H:Hp):Heap:=PySem.W.hideAll h (trk h H)
theorem hidT_size (h:Heap) (H:Hp):(hidT h H).objs.size=h.objs.size:=PySem.W.hideAll_size _ _
theorem hidT_get {h:Heap} {H:Hp} {b:Addr} {o:Obj} (e:h.get? b=some o) (n:H b=none):(hidT h H).get? b=some o:=
 PySem.W.hideAll_get _ e fun hm=>by
  have q:(H b).isSome=true:=(List.mem_filter.mp hm).2
  rw [n] at q;simp at q
theorem of_hidT {h:Heap} {H:Hp} {b:Addr} {o:Obj} (e:(hidT h H).get? b=some o):h.get? b=some o∧H b=none:=by
 have e':h.get? b=some o:=PySem.W.of_hideAll (trk h H) e
 refine ⟨e',?_⟩
 cases q:H b with
 | none=>rfl
 | some x=>
  have hm:b∈trk h H:=List.mem_filter.mpr ⟨List.mem_range.mpr (Heap.lt_size e'),by simp [q]⟩
  have z:(hidT h H).get? b=none:=PySem.W.hideAll_none (trk h H) hm
  rw [z] at e;cases e
noncomputable def allNews (g h:Heap) (L:Addr):List (Addr×Obj):=(List.range h.objs.size).filterMap fun a=>if a=L∨(g.get? a).isSome=true then none else (h.get? a).map fun o=>(a,o)
theorem mem_allNews {g h:Heap} {L a:Addr} {o:Obj} (h1:a≠L) (h2:g.get? a=none) (h3:h.get? a=some o):(a,o)∈allNews g h L:=
 List.mem_filterMap.mpr ⟨a,List.mem_range.mpr (Heap.lt_size h3),by simp [h1,h2,h3]⟩
theorem of_mem_allNews {g h:Heap} {L:Addr} {p:Addr×Obj} (hp:p∈allNews g h L):p.1≠L∧g.get? p.1=none∧h.get? p.1=some p.2:=by
 obtain ⟨b,_,e⟩:=List.mem_filterMap.mp hp
 split at e
 ·cases e
 ·rename_i hn
  cases q:h.get? b with
  | none=>rw [q] at e;simp at e
  | some u=>
   rw [q] at e
   simp only [Option.map_some,Option.some.injEq] at e
   subst e
   refine ⟨fun z=>hn (.inl z),?_,q⟩
   show g.get? b=none
   cases r:g.get? b with
   | none=>rfl
   | some v=>exact (hn (.inr (by simp [r]))).elim
noncomputable def rest (g h:Heap) (L d:Addr):List (Addr×Obj):=(allNews g h L).filter fun p=>decide (p.1≠d)
theorem news_all {g h:Heap} {L:Addr}:News g L h (allNews g h L):=fun p hp=>let ⟨a,b,c⟩:=of_mem_allNews hp;⟨c,a,b⟩
end L2
namespace L2
open PySem PySem.Spec PyProof.Rows
structure Mod (K:PySem.W.Frag) (mg:Str→Option Value) (base:Heap):Prop where
 kin:K.In base
 glob:base.Ns mainGlobals mg
 blt:∃ mb,base.Ns builtinsNs mb∧∀ x:Str,x≠"__name__"→mb x=bootBuiltins x
 nolimit:base.NoLimit
structure Cx where
 prog:Program
 w:World
 K:PySem.W.Frag
 mg:Str→Option Value
 base:Heap
 A:Around
 N:List Str
 s₀:Shared
 H₀:Hp
 env:Env
 outer:List Env
 stack:List Env
 ex:List Addr
 fn:Str→Bool
 calm:Bool
 pn:List (Addr×Obj)
 xe:Value→Shared→Prop
noncomputable def frs (l:List Env):List Addr:=l.filterMap (·.frame)
noncomputable abbrev Cx.fs (X:Cx):List Addr:=frs X.outer
noncomputable def Vis (sc:Scope) (x:Str):Prop:=sc.names.lookup x=some .local∨sc.names.lookup x=some .cell∨sc.names.lookup x=some .free
noncomputable def Loc (sc:Scope) (x:Str):Prop:=sc.names.lookup x=some .local∨sc.names.lookup x=some .cell
noncomputable def Look (env:Env) (h:Heap) (m:Str→Option Value) (x:Str) (u:Value):Prop:=
 (env.kindOf x=some .local∧m x=some u)∨((env.kindOf x=some .cell∨env.kindOf x=some .free)∧∃ c,env.cells.lookup x=some c∧h.IsCell c (some u))
structure Cx.Ok (X:Cx):Prop where
 mod:Mod X.K X.mg X.base
 kind:X.env.scope.kind=.function
 glob:X.env.globals=mainGlobals
 blt:X.env.builtins=builtinsNs
 above:X.s₀.heap.objs.size≤X.env.locals
 inj:∀ x y c,X.env.cells.lookup x=some c→X.env.cells.lookup y=some c→x=y
 has:∀ x,(X.env.kindOf x=some .cell∨X.env.kindOf x=some .free)→∃ c,X.env.cells.lookup x=some c
 cab:∀ x c,X.fn x=true→X.env.cells.lookup x=some c→X.s₀.heap.objs.size≤c
 hd:X.calm=true→X.A.handled=none
 frames:X.A.frames=some X.stack
 stk:X.stack=X.outer∨(X.stack=X.env::X.outer∧X.env.frame=some X.env.locals)
 exf:∀ b∈X.ex,b≠X.env.locals∧∀ x c,X.env.cells.lookup x=some c→c≠b
 bs:∀ b o,X.base.get? b=some o→X.s₀.heap.get? b=some o∧X.H₀ b=none
 bsz:X.base.objs.size≤X.s₀.heap.objs.size
 noex:∀ b o,X.base.get? b=some o→b∉X.ex
 exfs:∀ b∈X.ex,b∉X.fs
 funs:X.s₀.heap.FunFrames X.base X.outer
 frf:∀ b∈X.fs,X.H₀ b=none
structure Inv (X:Cx) (pins:List (Addr×Obj)) (σ:List (Option V)) (H:Hp) (s:Shared):Prop where
 ok:X.Ok
 os:s.os=X.s₀.os
 bare:AllBare s.gens
 base:Un X.fs X.ex X.H₀ H X.s₀.heap s.heap
 loc:∃ m,s.heap.Ns X.env.locals m∧∀ (i:Nat) (x:Str) (v:V),X.N[i]? =some x→σ[i]? =some (some v)→Vis X.env.scope x→∃ u,RelV v u∧Look X.env s.heap m x u
 cell:∀ x c,X.env.cells.lookup x=some c→∃ v,s.heap.IsCell c v
 free:H X.env.locals=none
 freeC:∀ x c,X.env.cells.lookup x=some c→H c=none
 pin:∀ p∈X.pn++pins,s.heap.get? p.1=some p.2∧H p.1=none∧p.1≠X.env.locals∧p.1∉X.fs∧∀ v,p.2.data≠.cell v
 hok:HOk X.prog X.w H s.heap
 len:σ.length=X.N.length
section
variable {X:Cx} {pins:List (Addr×Obj)} {σ:List (Option V)} {H H':Hp} {s:Shared} {h':Heap}
theorem Cx.Ok.nofr (ok:X.Ok) {b:Addr} {o:Obj} (e:X.base.get? b=some o):b∉X.fs:=fun hb=>by
 have:=(ok.funs.mem hb).1
 rw [e] at this;cases this
theorem Inv.bs (I:Inv X pins σ H s):∀ b o,X.base.get? b=some o→s.heap.get? b=some o∧H b=none:=fun b o e=>
 ⟨I.base.keep b o (I.ok.bs b o e).1 (I.ok.bs b o e).2 (I.ok.nofr e) (I.ok.noex b o e),I.base.free b o (I.ok.bs b o e).1 (I.ok.bs b o e).2 (I.ok.noex b o e)⟩
theorem Inv.bk (I:Inv X pins σ H s):∀ b o,X.base.get? b=some o→s.heap.get? b=some o:=fun b o e=>(I.bs b o e).1
theorem Inv.mod (I:Inv X pins σ H s):Mod X.K X.mg X.base:=I.ok.mod
theorem Inv.kIn (I:Inv X pins σ H s):X.K.In s.heap:=I.ok.mod.kin.keeps I.bk
theorem Inv.nolimit (I:Inv X pins σ H s):s.heap.NoLimit:=I.ok.mod.nolimit.keeps I.bk
theorem Inv.fr (I:Inv X pins σ H s):∃ m,Fr X.base X.env.locals s.heap m:=
 let ⟨m,hn,_⟩:=I.loc
 ⟨m,hn,I.bk,Nat.le_trans I.ok.bsz I.ok.above⟩
theorem Inv.lt (I:Inv X pins σ H s):X.env.locals < s.heap.objs.size:=let ⟨_,hn,_⟩:=I.loc;hn.lt
theorem Inv.sz (I:Inv X pins σ H s):X.s₀.heap.objs.size≤s.heap.objs.size:=Nat.le_trans I.ok.above (Nat.le_of_lt I.lt)
theorem Inv.nofs (I:Inv X pins σ H s) {a:Addr} (h:s.heap.objs.size≤a):a∉X.fs:=fun hb=>by
 obtain ⟨_,o,ho,_⟩:=I.ok.funs.mem hb
 exact absurd (Nat.lt_of_lt_of_le (Heap.lt_size ho) (Nat.le_trans I.sz h)) (Nat.lt_irrefl _)
theorem Inv.cne (I:Inv X pins σ H s):∀ x c,X.env.cells.lookup x=some c→c≠X.env.locals:=fun x c e z=>by
 obtain ⟨v,o,ho,hd⟩:=I.cell x c e
 obtain ⟨m,⟨o',es,ep,ho',hd',_⟩,_⟩:=I.loc
 rw [z,ho'] at ho;cases ho;rw [hd'] at hd;cases hd
theorem Inv.funs (I:Inv X pins σ H s):s.heap.FunFrames X.base X.outer:=by
 have all:∀ (l:List Env),(∀ b∈frs l,b∈X.fs)→X.s₀.heap.FunFrames X.base l→s.heap.FunFrames X.base l:=by
  intro l
  induction l with
  | nil=>intro _ _;trivial
  | cons env r ih=>
   intro hs hl
   obtain ⟨hk,⟨L,o,hf,hn,ho,hd⟩,hr⟩:=hl
   have hL:L∈X.fs:=hs L (by unfold frs;rw [List.filterMap_cons,hf];exact List.mem_cons_self)
   obtain ⟨sl,e⟩:=I.base.slot L o ho (I.ok.frf L hL) hL fun z=>I.ok.exfs L z hL
   exact ⟨hk,⟨L,_,hf,hn,e,hd⟩,ih (fun b hb=>hs b (by unfold frs;rw [List.filterMap_cons,hf];exact List.mem_cons_of_mem _ hb)) hr⟩
 exact all X.outer (fun _ hb=>hb) I.ok.funs
theorem Inv.stack (I:Inv X pins σ H s):s.heap.FunFrames X.base X.stack:=by
 rcases I.ok.stk with e | ⟨e,hf⟩
 ·rw [e];exact I.funs
 ·rw [e]
  obtain ⟨m,hn,_⟩:=I.loc
  refine .cons (by rw [I.ok.kind];decide) hf hn ?_ I.funs
  exact Heap.get?_none_of_le (Nat.le_trans I.ok.bsz I.ok.above)
theorem Inv.stkSub (I:Inv X pins σ H s):∀ b∈frs X.stack,b∈X.env.locals::X.fs:=fun b hb=>by
 rcases I.ok.stk with e | ⟨e,hf⟩
 ·rw [e] at hb;exact List.mem_cons_of_mem _ hb
 ·rw [e] at hb
  unfold frs at hb
  rw [List.filterMap_cons,hf] at hb
  exact hb
theorem Inv.stkFree (I:Inv X pins σ H s):∀ b∈frs X.stack,H b=none:=fun b hb=>by
 rcases List.mem_cons.mp (I.stkSub b hb) with e | hb
 ·rw [e];exact I.free
 ·obtain ⟨_,o,ho,_⟩:=I.ok.funs.mem hb
  exact I.base.free b o ho (I.ok.frf b hb) fun z=>I.ok.exfs b z hb
theorem Inv.step {g':Array GenState} {t':Nat} {d':Drawn} {ch:List Addr} (I:Inv X pins σ H s)
  (hch:∀ b∈ch,(b∈X.ex∨X.s₀.heap.objs.size≤b)∧b≠X.env.locals∧(∀ x c,X.env.cells.lookup x=some c→c≠b)∧∀ p∈X.pn++pins,p.1≠b)
  (keep:∀ b o,b≠X.env.locals→b∉X.fs→b∉ch→s.heap.get? b=some o→H b=none→h'.get? b=some o)
  (slot:∀ b o,b≠X.env.locals→b∈X.fs→b∉ch→s.heap.get? b=some o→H b=none→∃ sl,h'.get? b=some { o with slots:=sl }) (free:∀ b o,b∉ch→s.heap.get? b=some o→H b=none→H' b=none)
  (there:∀ b o,b∉ch→s.heap.get? b=some o→∃ o',h'.get? b=some o')
  (tups:∀ b xs,H b=some (.tup xs)→H' b=some (.tup xs)) (frzs:∀ b o u,H b=some (.frz o u)→H' b=some (.frz o u)) (tbls:∀ b ps,H b=some (.tbl ps)→∃ more,H' b=some (.tbl (ps++more)))
  (ns:∀ m,s.heap.Ns X.env.locals m→h'.Ns X.env.locals m) (hok:HOk X.prog X.w H' h') (hg:AllBare g'):
  Inv X pins σ H' { s with heap:=h',gens:=g',drawn:=d',toks:=t' }:=by
 have neL:∀ b o,X.s₀.heap.get? b=some o→b≠X.env.locals:=fun b o e=>Nat.ne_of_lt (Nat.lt_of_lt_of_le (Heap.lt_size e) I.ok.above)
 have neC:∀ b o,X.s₀.heap.get? b=some o→b∉X.ex→b∉ch:=fun b o e hx hb=>by
  rcases (hch b hb).1 with z | z
  ·exact hx z
  ·exact absurd (Nat.lt_of_lt_of_le (Heap.lt_size e) z) (Nat.lt_irrefl _)
 have cellK:∀ x c,X.env.cells.lookup x=some c→∀ v,s.heap.IsCell c v→h'.IsCell c v:=fun x c e v ⟨o,ho,hd⟩=>by
  have nch:c∉ch:=fun z=>(hch c z).2.2.1 x c e rfl
  by_cases hc:c∈X.fs
  ·obtain ⟨sl,q⟩:=slot c o (I.cne x c e) hc nch ho (I.freeC x c e)
   exact ⟨_,q,hd⟩
  ·exact ⟨o,keep c o (I.cne x c e) hc nch ho (I.freeC x c e),hd⟩
 refine ⟨I.ok,I.os,hg,⟨fun b o e n hb hx=>?_,fun b o e n hb hx=>?_,fun b o e n hx=>?_,fun b o e hx=>?_,fun b xs e=>tups b xs (I.base.tups b xs e),fun b o xs e=>frzs b o xs (I.base.frzs b o xs e),fun b ps e=>?_⟩,?_,fun x c e=>?_,?_,fun x c e=>?_,fun p hp=>?_,hok,I.len⟩
 ·exact keep b o (neL b o e) hb (neC b o e hx) (I.base.keep b o e n hb hx) (I.base.free b o e n hx)
 ·obtain ⟨sl,e1⟩:=I.base.slot b o e n hb hx
  obtain ⟨sl',e2⟩:=slot b _ (neL b o e) hb (neC b o e hx) e1 (I.base.free b o e n hx)
  exact ⟨sl',e2⟩
 ·obtain ⟨o',e1⟩:=I.base.there b o e hx
  exact free b o' (neC b o e hx) e1 (I.base.free b o e n hx)
 ·obtain ⟨o',e1⟩:=I.base.there b o e hx
  exact there b o' (neC b o e hx) e1
 ·obtain ⟨m1,e1⟩:=I.base.tbls b ps e
  obtain ⟨m2,e2⟩:=tbls b _ e1
  exact ⟨m1++m2,by rw [e2,Array.append_assoc]⟩
 ·obtain ⟨m,hn,hl⟩:=I.loc
  refine ⟨m,ns m hn,fun i x v e1 e2 e3=>?_⟩
  obtain ⟨u,r,l⟩:=hl i x v e1 e2 e3
  refine ⟨u,r,?_⟩
  rcases l with l | ⟨k,c,e,z⟩
  ·exact .inl l
  ·exact .inr ⟨k,c,e,cellK x c e _ z⟩
 ·obtain ⟨v,z⟩:=I.cell x c e
  exact ⟨v,cellK x c e v z⟩
 ·obtain ⟨m,⟨o,_,_,ho,_⟩,_⟩:=I.loc
  exact free _ o (fun z=>(hch _ z).2.1 rfl) ho I.free
 ·obtain ⟨v,o,ho,hd⟩:=I.cell x c e
  exact free c o (fun z=>(hch c z).2.2.1 x c e rfl) ho (I.freeC x c e)
 ·obtain ⟨e,n,ne,nf,d⟩:=I.pin p hp
  have nch:p.1∉ch:=fun z=>(hch p.1 z).2.2.2 p hp rfl
  exact ⟨keep p.1 p.2 ne nf nch e n,free p.1 p.2 nch e n,ne,nf,d⟩
theorem Inv.un {t':Nat} (I:Inv X pins σ H s) (u:Un X.fs [] H H' s.heap h') (hok:HOk X.prog X.w H' h'):Inv X pins σ H' { s with heap:=h',toks:=t' }:=by
 obtain ⟨m,⟨o,es,ep,ho,r⟩,_⟩:=id I.loc
 obtain ⟨sl,hL⟩:=u.any ho I.free (by simp)
 exact I.step (g':=s.gens) (d':=s.drawn) (ch:=[]) (fun _ z=>nomatch z) (fun b o _ hb _ e n=>u.keep b o e n hb (by simp)) (fun b o _ hb _ e n=>u.slot b o e n hb (by simp)) (fun b o _ e n=>u.free b o e n (by simp)) (fun b o _ e=>u.there b o e (by simp)) u.tups u.frzs u.tbls (fun m' hm=>by
  obtain ⟨o',es',ep',ho',r'⟩:=hm
  rw [ho] at ho';cases ho'
  exact ⟨_,es',ep',hL,r'⟩) hok I.bare
theorem Inv.call {g':Array GenState} {t':Nat} {d':Drawn} {ch:List Addr} (I:Inv X pins σ H s) (u:Un (frs X.stack) ch H H' s.heap h') (hok:HOk X.prog X.w H' h') (hg:AllBare g')
  (hch:∀ b∈ch,(b∈X.ex∨X.s₀.heap.objs.size≤b)∧b≠X.env.locals∧(∀ x c,X.env.cells.lookup x=some c→c≠b)∧∀ p∈X.pn++pins,p.1≠b):
  Inv X pins σ H' { s with heap:=h',gens:=g',drawn:=d',toks:=t' }:=by
 obtain ⟨m,⟨o,es,ep,ho,r⟩,_⟩:=id I.loc
 obtain ⟨sl,hL⟩:=u.any ho I.free fun z=>(hch _ z).2.1 rfl
 exact I.step (ch:=ch) hch (fun b o hL hb hc e n=>u.keep b o e n (fun z=>(List.mem_cons.mp (I.stkSub b z)).elim hL hb) hc) (fun b o _ _ hc e n=>u.any e n hc) (fun b o hc e n=>u.free b o e n hc) (fun b o hc e=>u.there b o e hc) u.tups u.frzs u.tbls (fun m' hm=>by
  obtain ⟨o',es',ep',ho',r'⟩:=hm
  rw [ho] at ho';cases ho'
  exact ⟨_,es',ep',hL,r'⟩) hok hg
theorem Inv.turned {t':Nat} {it:Addr} (I:Inv X pins σ H s) (k:∀ b o,b≠it→s.heap.get? b=some o→h'.get? b=some o) (hn:H it=none) (hL:it≠X.env.locals)
  (h1:it∈X.ex∨X.s₀.heap.objs.size≤it) (h2:∀ x c,X.env.cells.lookup x=some c→c≠it) (h3:∀ p∈X.pn++pins,p.1≠it):Inv X pins σ H { s with heap:=h',toks:=t' }:=by
 have nit:∀ b u,H b=some u→b≠it:=fun b u e z=>by rw [z,hn] at e;cases e
 refine I.step (g':=s.gens) (d':=s.drawn) (ch:=[it]) (fun b hb=>?_) (fun b o _ _ hc e _=>k b o (fun z=>hc (by simp [z])) e) (fun b o _ _ hc e _=>⟨o.slots,k b o (fun z=>hc (by simp [z])) e⟩) (fun _ _ _ _ n=>n)
  (fun b o hc e=>⟨o,k b o (fun z=>hc (by simp [z])) e⟩) (fun _ _ e=>e) (fun _ _ _ e=>e) (fun b ps e=>⟨#[],by rw [e];simp⟩) (fun m hm=>?_) (fun b u e=>?_) I.bare
 ·have e:b=it:=by simpa using hb
  subst e
  exact ⟨h1,hL,h2,h3⟩
 ·obtain ⟨o,es,ep,ho,r⟩:=hm
  exact ⟨o,es,ep,k _ o (Ne.symm hL) ho,r⟩
 ·refine (I.hok b u e).stay (fun c v hc q=>k c v ?_ q) (fun _ q=>q) fun _ _ q=>q
  rcases hc with z | z
  ·rw [z];exact nit b u e
  ·exact nit c _ z
theorem Inv.tok (I:Inv X pins σ H s) (t:Nat):Inv X pins σ H { s with toks:=t }:=I.un (h':=s.heap) (t':=t) Un.refl I.hok
theorem Inv.kept {t':Nat} (I:Inv X pins σ H s) (k:∀ b u,s.heap.get? b=some u→h'.get? b=some u):Inv X pins σ H { s with heap:=h',toks:=t' }:=I.un (Un.kept k) (I.hok.kept k)
theorem Inv.laid {a:Addr} {o:HO} {t':Nat} (I:Inv X pins σ H s) (k:∀ b u,s.heap.get? b=some u→h'.get? b=some u) (hp:s.heap.objs.size≤a) (new:ObjOk X.prog X.w (upd H a o) h' a o):
  Inv X pins σ (upd H a o) { s with heap:=h',toks:=t' }:=I.un (Un.laid k hp (I.hok.fresh hp)) (I.hok.laid k hp new)
theorem Inv.write {x e:Addr} {o:HO} {t':Nat} (I:Inv X pins σ H s) (mu:Mut (H x)) (he:e=x∨H e=some (.own x)) (k:∀ b u,b≠e→s.heap.get? b=some u→h'.get? b=some u) (heo:∃ u,h'.get? e=some u)
  (new:ObjOk X.prog X.w (upd H x o) h' x o):Inv X pins σ (upd H x o) { s with heap:=h',toks:=t' }:=I.un (Un.write mu he k heo) (I.hok.write mu he k heo new)
theorem Inv.weak {σ':List (Option V)} (I:Inv X pins σ H s) (hl:σ'.length=σ.length) (w:∀ (i:Nat) v,σ'[i]? =some (some v)→σ[i]? =some (some v)):Inv X pins σ' H s:=
 ⟨I.ok,I.os,I.bare,I.base,let ⟨m,hn,hl'⟩:=I.loc;⟨m,hn,fun i x v e1 e2 e3=>hl' i x v e1 (w i v e2) e3⟩,I.cell,I.free,I.freeC,I.pin,I.hok,hl.trans I.len⟩
theorem Inv.pins_of {pins':List (Addr×Obj)} (I:Inv X pins σ H s) (h:∀ p∈pins',s.heap.get? p.1=some p.2∧H p.1=none∧p.1≠X.env.locals∧p.1∉X.fs∧∀ v,p.2.data≠.cell v):Inv X pins' σ H s:=
 ⟨I.ok,I.os,I.bare,I.base,I.loc,I.cell,I.free,I.freeC,fun p hp=>(List.mem_append.mp hp).elim (fun z=>I.pin p (List.mem_append_left _ z)) (h p),I.hok,I.len⟩
theorem nodup_ix {N:List Str} (hN:N.Nodup) {i j:Nat} {x:Str} (a:N[i]? =some x) (b:N[j]? =some x):i=j:=by
 obtain ⟨h1,e1⟩:=List.getElem?_eq_some_iff.mp a
 obtain ⟨h2,e2⟩:=List.getElem?_eq_some_iff.mp b
 exact (List.getElem_inj hN).mp (e1.trans e2.symm)
theorem store_ok2 {M:Model} {A:Around} {E:Value→Shared→Prop} {i:Nat} {x:Str} {v:V} {u:Value} {Q:Unit→Shared→Prop} (I:Inv X pins σ H s) (hN:X.N.Nodup) (hi:X.N[i]? =some x) (hx:Loc X.env.scope x) (r:RelV v u)
  (h:∀ s',Inv X pins (σ.set i (some v)) H s'→(∃ a,Heap.SameBut a s.heap s'.heap∧(a=X.env.locals∨X.env.cells.lookup x=some a))→Q () s') (hf:X.fn x=true∨X.env.scope.names.lookup x=some .local:=by first | exact .inl rfl | exact .inr rfl | assumption):wpAny M A (storeName X.env x u) Q E s:=by
 obtain ⟨m,hn,hl⟩:=id I.loc
 have hcls:(X.env.scope.kind==.class||(X.env.scope.kind==.module&&X.env.locals != X.env.globals))=false:=by rw [I.ok.kind];rfl
 have hiσ:i < σ.length:=by rw [I.len];exact (List.getElem?_eq_some_iff.mp hi).1
 have cne:=I.cne
 have tracked:∀ {a:Addr} {h':Heap},(∃ o,s.heap.get? a=some o∧H a=none)→Heap.SameBut a s.heap h'→HOk X.prog X.w H h':=fun {a h'} ha hs b ob e=>by
  obtain ⟨_,_,hfree⟩:=ha
  refine (I.hok b ob e).stay (fun c w' hc q=>(hs.2 c ?_).trans q) (fun _ q=>q) fun _ _ q=>q
  rintro rfl
  rcases hc with rfl | hc
  ·rw [hfree] at e;cases e
  ·rw [hfree] at hc;cases hc
 rcases hx with hk | hk
 ·refine wpAny_storeName_local hk hn (fun h' hn' hs=>?_) hcls
  obtain ⟨oL,_,_,hoL,_⟩:=id hn
  refine h _ ⟨I.ok,I.os,I.bare,⟨fun b o e n hb hx=>?_,fun b o e n hb hx=>?_,I.base.free,fun b o e hx=>?_,I.base.tups,I.base.frzs,I.base.tbls⟩,⟨_,hn',fun j y v' e1 e2 e3=>?_⟩,fun y c e=>?_,I.free,I.freeC,fun p hp=>?_,tracked ⟨oL,hoL,I.free⟩ hs,by simpa using I.len⟩ ⟨_,hs,.inl rfl⟩
  ·exact (hs.2 b (Nat.ne_of_lt (Nat.lt_of_lt_of_le (Heap.lt_size e) I.ok.above))).trans (I.base.keep b o e n hb hx)
  ·obtain ⟨sl,e1⟩:=I.base.slot b o e n hb hx
   exact ⟨sl,(hs.2 b (Nat.ne_of_lt (Nat.lt_of_lt_of_le (Heap.lt_size e) I.ok.above))).trans e1⟩
  ·obtain ⟨o',e1⟩:=I.base.there b o e hx
   exact ⟨o',(hs.2 b (Nat.ne_of_lt (Nat.lt_of_lt_of_le (Heap.lt_size e) I.ok.above))).trans e1⟩
  ·by_cases hj:j=i
   ·subst hj
    rw [hi] at e1;cases e1
    rw [List.getElem?_set_self hiσ] at e2
    cases e2
    exact ⟨u,r,.inl ⟨hk,by simp⟩⟩
   ·rw [List.getElem?_set_ne (Ne.symm hj)] at e2
    obtain ⟨u',r',q⟩:=hl j y v' e1 e2 e3
    refine ⟨u',r',?_⟩
    rcases q with ⟨k,e⟩ | ⟨k,c,e,z⟩
    ·refine .inl ⟨k,?_⟩
     have:y≠x:=fun e=>hj (nodup_ix hN e1 (e▸hi))
     simp [this,e]
    ·exact .inr ⟨k,c,e,z.sameBut hs (cne y c e)⟩
  ·obtain ⟨w',z⟩:=I.cell y c e
   exact ⟨w',z.sameBut hs (cne y c e)⟩
  ·obtain ⟨e,n,ne,nf,d⟩:=I.pin p hp
   exact ⟨(hs.2 p.1 ne).trans e,n,ne,nf,d⟩
 ·have hfn:X.fn x=true:=by
   rcases hf with z | z
   ·exact z
   ·rw [z] at hk;cases hk
  obtain ⟨c,hc⟩:=I.ok.has x (.inl hk)
  obtain ⟨w',z⟩:=I.cell x c hc
  refine wpAny_storeName_cell I.ok.kind hk hc z (fun h' hc' hs=>?_)
  obtain ⟨oc,hoc,hocd⟩:=id z
  refine h { s with heap:=h' } ⟨I.ok,I.os,I.bare,⟨fun b o e n hb hx=>?_,fun b o e n hb hx=>?_,I.base.free,fun b o e hx=>?_,I.base.tups,I.base.frzs,I.base.tbls⟩,⟨m,hn.sameBut hs (Ne.symm (cne x c hc)),fun j y v' e1 e2 e3=>?_⟩,fun y c' e=>?_,I.free,I.freeC,fun p hp=>?_,tracked ⟨oc,hoc,I.freeC x c hc⟩ hs,by simpa using I.len⟩ ⟨c,hs,.inr hc⟩
  ·exact (hs.2 b (Nat.ne_of_lt (Nat.lt_of_lt_of_le (Heap.lt_size e) (I.ok.cab x c hfn hc)))).trans (I.base.keep b o e n hb hx)
  ·obtain ⟨sl,e1⟩:=I.base.slot b o e n hb hx
   exact ⟨sl,(hs.2 b (Nat.ne_of_lt (Nat.lt_of_lt_of_le (Heap.lt_size e) (I.ok.cab x c hfn hc)))).trans e1⟩
  ·obtain ⟨o',e1⟩:=I.base.there b o e hx
   exact ⟨o',(hs.2 b (Nat.ne_of_lt (Nat.lt_of_lt_of_le (Heap.lt_size e) (I.ok.cab x c hfn hc)))).trans e1⟩
  ·by_cases hj:j=i
   ·subst hj
    rw [hi] at e1;cases e1
    rw [List.getElem?_set_self hiσ] at e2
    cases e2
    exact ⟨u,r,.inr ⟨.inl hk,c,hc,hc'⟩⟩
   ·rw [List.getElem?_set_ne (Ne.symm hj)] at e2
    obtain ⟨u',r',q⟩:=hl j y v' e1 e2 e3
    refine ⟨u',r',?_⟩
    rcases q with q | ⟨k,c',e,z'⟩
    ·exact .inl q
    ·refine .inr ⟨k,c',e,z'.sameBut hs ?_⟩
     rintro rfl
     exact hj (nodup_ix hN e1 (I.ok.inj _ _ _ e hc▸hi))
  ·by_cases hcc:c'=c
   ·subst hcc;exact ⟨_,hc'⟩
   ·obtain ⟨w2,z2⟩:=I.cell y c' e
    exact ⟨w2,z2.sameBut hs hcc⟩
  ·obtain ⟨e,n,ne,nf,d⟩:=I.pin p hp
   refine ⟨(hs.2 p.1 ?_).trans e,n,ne,nf,d⟩
   intro q
   rw [q,hoc] at e
   have q':oc=p.2:=Option.some.inj e
   exact d w' (by rw [←q'];exact hocd)
theorem store_ok {M:Model} {A:Around} {E:Value→Shared→Prop} {i:Nat} {x:Str} {v:V} {u:Value} {Q:Unit→Shared→Prop} (I:Inv X pins σ H s) (hN:X.N.Nodup) (hi:X.N[i]? =some x) (hx:Loc X.env.scope x) (r:RelV v u)
  (h:∀ s',Inv X pins (σ.set i (some v)) H s'→Q () s') (hf:X.fn x=true∨X.env.scope.names.lookup x=some .local:=by first | exact .inl rfl | exact .inr rfl | assumption):wpAny M A (storeName X.env x u) Q E s:=
 store_ok2 I hN hi hx r (fun s' I' _=>h s' I') hf
theorem Inv.call' {s':Shared} {ch:List Addr} (I:Inv X pins σ H s) (ho:s'.os=s.os) (u:Un (frs X.stack) ch H H' s.heap s'.heap) (hok:HOk X.prog X.w H' s'.heap) (hg:AllBare s'.gens)
  (hch:∀ b∈ch,(b∈X.ex∨X.s₀.heap.objs.size≤b)∧b≠X.env.locals∧(∀ x c,X.env.cells.lookup x=some c→c≠b)∧∀ p∈X.pn++pins,p.1≠b):Inv X pins σ H' s':=by
 obtain ⟨h',g',d',t',o'⟩:=s'
 have e:o'=s.os:=ho
 subst e
 exact I.call (g':=g') (t':=t') (d':=d') u hok hg hch
end
noncomputable abbrev XK:=Value→Option Addr→Hp→Prop
noncomputable abbrev St:=List (Option V)
noncomputable abbrev VK:=V→Hp→Prop
noncomputable abbrev TE:=St→Hp→VK→Prop
noncomputable abbrev TT:=St→Hp→(Bool→Hp→Prop)→Prop
noncomputable abbrev TA:=St→Hp→(List V→Hp→Prop)→Prop
structure Ends where
 nx:St→Hp→Prop
 rt:VK
 bk:St→Hp→Prop:=fun _ _=>False
 ct:St→Hp→Prop:=fun _ _=>False
noncomputable abbrev TS:=Ends→St→Hp→Prop
noncomputable def EP (X:Cx) (pins:List (Addr×Obj)) (σ:St) (Q:VK) (u:Value) (s':Shared):Prop:=∃ v H',Inv X pins σ H' s'∧RelV v u∧Q v H'
noncomputable def TP (X:Cx) (pins:List (Addr×Obj)) (σ:St) (Q:Bool→Hp→Prop) (b:Bool) (s':Shared):Prop:=∃ H',Inv X pins σ H' s'∧Q b H'
noncomputable def AP (X:Cx) (pins:List (Addr×Obj)) (σ:St) (Q:List V→Hp→Prop) (us:List Value) (s':Shared):Prop:=∃ vs H',Inv X pins σ H' s'∧Vals vs us∧Q vs H'
noncomputable def SP (X:Cx) (pins:List (Addr×Obj)) (D:Ends) (f:Flow) (s':Shared):Prop:=
 match f with
 | .next=>∃ σ' H',Inv X pins σ' H' s'∧D.nx σ' H'
 | .brk=>∃ σ' H',Inv X pins σ' H' s'∧D.bk σ' H'
 | .cont=>∃ σ' H',Inv X pins σ' H' s'∧D.ct σ' H'
 | .ret u=>∃ v σ' H',Inv X pins σ' H' s'∧RelV v u∧D.rt v H'
noncomputable def PE (X:Cx) (e:Expr) (t:TE):Prop:=
 ∀ (pins:List (Addr×Obj)) (s:Shared) (σ:St) (H:Hp) (Q:VK),Inv X pins σ H s→t σ H Q→wpAny (model X.prog X.w) X.A (eval e X.env) (EP X pins σ Q) X.xe s
noncomputable def PT (X:Cx) (e:Expr) (t:TT):Prop:=
 ∀ (pins:List (Addr×Obj)) (s:Shared) (σ:St) (H:Hp) (Q:Bool→Hp→Prop),Inv X pins σ H s→t σ H Q→wpAny (model X.prog X.w) X.A (isTrue e X.env (eval e X.env)) (TP X pins σ Q) X.xe s
noncomputable def PW (X:Cx) (e:Expr) (t:TT):Prop:=
 ∀ (whole:Sem Value) (pins:List (Addr×Obj)) (s:Shared) (σ:St) (H:Hp) (Q:Bool→Hp→Prop),Inv X pins σ H s→t σ H Q→wpAny (model X.prog X.w) X.A (isTrue e X.env whole) (TP X pins σ Q) X.xe s
theorem PW.pt {X:Cx} {e:Expr} {t:TT} (h:PW X e t):PT X e t:=h _
noncomputable def PA (X:Cx) (es:List Expr) (t:TA):Prop:=
 ∀ (pos:Pos) (pins:List (Addr×Obj)) (s:Shared) (σ:St) (H:Hp) (Q:List V→Hp→Prop),Inv X pins σ H s→t σ H Q→wpAny (model X.prog X.w) X.A (spliced (backTo pos (starEach es X.env))) (AP X pins σ Q) X.xe s
noncomputable def PS (X:Cx) (st:Stmt) (t:TS):Prop:=
 ∀ (pins:List (Addr×Obj)) (s:Shared) (σ:St) (H:Hp) (D:Ends),Inv X pins σ H s→t D σ H→wpAny (model X.prog X.w) X.A (exec st X.env) (SP X pins D) X.xe s
noncomputable def PSs (X:Cx) (st:List Stmt) (t:TS):Prop:=
 ∀ (pins:List (Addr×Obj)) (s:Shared) (σ:St) (H:Hp) (D:Ends),Inv X pins σ H s→t D σ H→wpAny (model X.prog X.w) X.A (execs st X.env) (SP X pins D) X.xe s
theorem thn {α:Type} {t:Sem α} {Q Q':α→Shared→Prop} {M:Model} {A:Around} {E:Value→Shared→Prop} {s:Shared} (h:wpAny M A t Q E s) (hQ:∀ a s,Q a s→Q' a s):wpAny M A t Q' E s:=wpAny_mono h hQ fun _ _ x=>x
end L2
namespace L2
open PySem PySem.Spec PyProof.Rows
section
variable {X:Cx}
noncomputable def tVar (i:Nat):TE:=fun σ H Q=>∃ v,σ[i]? =some (some v)∧Q v H
noncomputable def tC (v:V):TE:=fun _ H Q=>Q v H
theorem pe_var {i:Nat} {x:Str} {pos:Pos} (hN:X.N[i]? =some x) (hv:Vis X.env.scope x) (hd:(x==("__debug__":Str))=false:=by decide) (hcd:(x==("__classdict__":Str))=false:=by decide):PE X (.Name x pos) (tVar i):=by
 intro pins s σ H Q I h
 obtain ⟨v,e,h⟩:=h
 obtain ⟨m,hn,hl⟩:=I.loc
 obtain ⟨u,r,l⟩:=hl i x v hN e hv
 have fin:EP X pins σ Q u s:=⟨v,H,I,r,h⟩
 rcases l with ⟨hk,hm⟩ | ⟨hk,c,hc,hcell⟩
 ·exact wpAny_Name (wpAny_loadName_local I.ok.kind hk hn hm fin) hd
 ·rcases hk with hk | hk
  ·exact wpAny_Name (wpAny_loadName_cell I.ok.kind hk hc hcell fin) hd
  ·exact wpAny_Name (wpAny_loadName_free I.ok.kind hk hc hcell fin hcd) hd
theorem pe_int {i j pos}:PE X (.Constant (.int i) j pos) (tC (.int i)):=fun _ _ _ H _ I h=>wpAny_Constant_int ⟨.int i,H,I.tok _,⟨_,rfl⟩,h⟩
theorem pe_bl {b j pos}:PE X (.Constant (.bool b) j pos) (tC (.bl b)):=fun _ _ _ H _ I h=>Constant_bool ⟨.bl b,H,I,rfl,h⟩
theorem pe_non {j pos}:PE X (.Constant .none j pos) (tC .non):=fun _ _ _ H _ I h=>Constant_none ⟨.non,H,I,rfl,h⟩
theorem pe_str {x j pos}:PE X (.Constant (.str x) j pos) (tC (.str x)):=fun _ _ _ H _ I h=>Calls.Constant_str ⟨.str x,H,I.tok _,⟨_,rfl⟩,h⟩
noncomputable def Gl (X:Cx) (x:Str):Prop:=X.env.kindOf x=some .globalImplicit
theorem ld_glob {E:Value→Shared→Prop} {pins:List (Addr×Obj)} {s:Shared} {σ:St} {H:Hp} {x:Str} {u:Value} {pos:Pos} {Q:Value→Shared→Prop} (I:Inv X pins σ H s) (hg:Gl X x) (hm:X.mg x=some u) (h:Q u s)
  (hd:(x==("__debug__":Str))=false:=by decide):wpAny (model X.prog X.w) X.A (eval (.Name x pos) X.env) Q E s:=
 Calls.Name_function_global I.ok.kind hg (Calls.loadGlobal_global (by rw [I.ok.glob];exact I.mod.glob.keeps I.bk) hm h) hd
theorem ld_blt {E:Value→Shared→Prop} {pins:List (Addr×Obj)} {s:Shared} {σ:St} {H:Hp} {x:Str} {u:Value} {pos:Pos} {Q:Value→Shared→Prop} (I:Inv X pins σ H s) (hg:Gl X x) (hm:X.mg x=none) (hv:bootBuiltins x=some u) (h:Q u s)
  (hn:x≠"__name__":=by decide) (hd:(x==("__debug__":Str))=false:=by decide):wpAny (model X.prog X.w) X.A (eval (.Name x pos) X.env) Q E s:=by
 obtain ⟨mb,h1,h2⟩:=I.mod.blt
 exact Calls.Name_function_global I.ok.kind hg (Calls.loadGlobal_builtin (by rw [I.ok.glob];exact I.mod.glob.keeps I.bk) hm (by rw [I.ok.blt];exact h1.keeps I.bk) ((h2 x hn).trans hv) h) hd
theorem pe_bltn {x:Str} {v:V} {u:Value} {pos:Pos} (hg:Gl X x) (hm:X.mg x=none) (hv:bootBuiltins x=some u) (r:RelV v u) (hn:x≠"__name__":=by decide) (hd:(x==("__debug__":Str))=false:=by decide):PE X (.Name x pos) (tC v):=
 fun _ _ _ H _ I h=>ld_blt I hg hm hv ⟨v,H,I,r,h⟩ hn hd
variable {a b:Expr} {ta tb:TE} {pos:Pos}
noncomputable def tB (t:TE):TT:=fun σ H Q=>t σ H fun x H1=>∃ c,x=.bl c∧Q c H1
theorem pt_val {e:Expr} {t:TE} (h:PE X e t) (he:∀ whole,isTrue e X.env whole=(do let v ←whole;standAt e.pos;holding [v] (truthy v)):=by intro _;rfl):PT X e (tB t):=by
 intro pins s σ H Q I hw
 refine isTrue_plain (thn (h pins s σ H _ I hw) fun v s1 ⟨x,H1,I1,r1,q1⟩=>?_) (he _)
 obtain ⟨d,rfl,q⟩:=q1
 cases r1
 exact wpAny_truthy_bool ⟨H1,I1,q⟩
variable {tA tB':TT} {rest:List Expr}
noncomputable def tAnd (t u:TT):TT:=fun σ H Q=>t σ H fun c H1=>if c=true then u σ H1 Q else Q false H1
noncomputable def tOr (t u:TT):TT:=fun σ H Q=>t σ H fun c H1=>if c=true then Q true H1 else u σ H1 Q
noncomputable def tNot (t:TT):TT:=fun σ H Q=>t σ H fun c H1=>Q (!c) H1
theorem pw_and1 (ha:PT X a tA):PW X (.BoolOp .And [a] pos) tA:=by
 intro wh pins s σ H Q I h
 refine isTrue_and (thn (ha pins s σ H Q I h) fun c s1 e=>?_)
 cases c with
 | true=>exact isTrue_and_nil e
 | false=>exact e
theorem pw_or1 (ha:PT X a tA):PW X (.BoolOp .Or [a] pos) tA:=by
 intro wh pins s σ H Q I h
 refine isTrue_or (thn (ha pins s σ H Q I h) fun c s1 e=>?_)
 cases c with
 | false=>exact isTrue_or_nil e
 | true=>exact e
theorem pw_and (ha:PT X a tA) (hb:PW X (.BoolOp .And (b::rest) pos) tB'):PW X (.BoolOp .And (a::b::rest) pos) (tAnd tA tB'):=by
 intro wh pins s σ H Q I h
 refine isTrue_and (thn (ha pins s σ H _ I h) fun c s1 ⟨H1,I1,q1⟩=>?_)
 cases c with
 | true=>exact hb wh pins s1 σ H1 Q I1 q1
 | false=>exact ⟨H1,I1,q1⟩
theorem pw_or (ha:PT X a tA) (hb:PW X (.BoolOp .Or (b::rest) pos) tB'):PW X (.BoolOp .Or (a::b::rest) pos) (tOr tA tB'):=by
 intro wh pins s σ H Q I h
 refine isTrue_or (thn (ha pins s σ H _ I h) fun c s1 ⟨H1,I1,q1⟩=>?_)
 cases c with
 | true=>exact ⟨H1,I1,q1⟩
 | false=>exact hb wh pins s1 σ H1 Q I1 q1
theorem pt_not (ha:PT X a tA):PT X (.UnaryOp .Not a pos) (tNot tA):=by
 intro pins s σ H Q I h
 exact isTrue_not (ha pins s σ H (fun c H1=>Q (!c) H1) I h)
noncomputable def tAndV (ta tb:TE):TE:=fun σ H Q=>ta σ H fun x H1=>∃ c,x=.bl c∧if c=true then tb σ H1 Q else Q (.bl false) H1
noncomputable def tOrV (ta tb:TE):TE:=fun σ H Q=>ta σ H fun x H1=>∃ c,x=.bl c∧if c=true then Q (.bl true) H1 else tb σ H1 Q
noncomputable def tNotV (ta:TE):TE:=fun σ H Q=>ta σ H fun x H1=>∃ c,x=.bl c∧Q (.bl (!c)) H1
theorem pe_one {op} {t:TE} (h:PE X a t):PE X (.BoolOp op [a] pos) t:=fun pins s σ H Q I hw=>BoolOp_one (h pins s σ H Q I hw)
theorem pe_and (ha:PE X a ta) (hb:PE X (.BoolOp .And (b::rest) pos) tb):PE X (.BoolOp .And (a::b::rest) pos) (tAndV ta tb):=by
 intro pins s σ H Q I h
 refine BoolOp_and (thn (ha pins s σ H _ I h) fun v s1 ⟨x,H1,I1,r1,q1⟩=>?_)
 obtain ⟨c,rfl,q1⟩:=q1
 cases r1
 refine wpAny_truthy_bool ?_
 cases c with
 | true=>exact hb pins s1 σ H1 Q I1 q1
 | false=>exact ⟨.bl false,H1,I1,rfl,q1⟩
noncomputable def tIf (t:TT) (ta tb:TE):TE:=fun σ H Q=>t σ H fun c H1=>if c=true then ta σ H1 Q else tb σ H1 Q
end
end L2
namespace L2
open PySem PySem.Spec PyProof.Rows
noncomputable def SqL (K:PySem.W.Frag) (H:Hp) (a:Addr) (xs:List V):Prop:=
 Rd H a (.lst xs)∨
  ∃ (o:Obj) (its:Array Value) (n:Nat),K.lookup a=some o∧o.cls=.type "list"∧o.dict=none∧o.data=.seq its n∧its.size≤sizeLine∧Vals xs its.toList
noncomputable def SqT (K:PySem.W.Frag) (H:Hp) (a:Addr) (xs:List V):Prop:=
 Rd H a (.tup xs)∨
  ∃ (o:Obj) (its:Array Value) (n:Nat),K.lookup a=some o∧o.cls=.type "tuple"∧o.data=.seq its n∧its.size≤sizeLine∧Vals xs its.toList
noncomputable def absV:Value→Option V
 | .none=>some .non
 | .bool b=>some (.bl b)
 | .int i _=>some (.int i)
 | .str x _=>some (.str x)
 | .bytes b _=>some (.byt b)
 | .float b _=>some (.flt b)
 | .ref a=>some (.ref a)
 | .type n=>some (.ty n)
 | _=>none
theorem RelV.abs {x:V} {u:Value} (r:RelV x u):absV u=some x:=by
 cases x with
 | non=>cases r;rfl
 | bl _=>cases r;rfl
 | int _=>obtain ⟨t,rfl⟩:=r;rfl
 | str _=>obtain ⟨t,rfl⟩:=r;rfl
 | byt _=>obtain ⟨t,rfl⟩:=r;rfl
 | flt _=>obtain ⟨t,rfl⟩:=r;rfl
 | ref _=>cases r;rfl
 | ty _=>cases r;rfl
theorem RelV.inj {x y:V} {u:Value} (r:RelV x u) (q:RelV y u):x=y:=Option.some.inj (r.abs.symm.trans q.abs)
theorem Vals.inj:∀ {xs ys:List V} {us:List Value},Vals xs us→Vals ys us→xs=ys
 | _,_,_,.nil,.nil=>rfl
 | _,_,_,.cons r t,.cons r' t'=>by rw [r.inj r',Vals.inj t t']
section
variable {X:Cx} {pins:List (Addr×Obj)} {σ:St} {H:Hp} {s:Shared} {a:Addr} {xs ys:List V}
theorem SqL.of {K:PySem.W.Frag} (h:H a=some (.lst xs)):SqL K H a xs:=.inl (.inl h)
theorem SqT.of {K:PySem.W.Frag} (h:H a=some (.tup xs)):SqT K H a xs:=.inl (.inl h)
theorem Inv.list (I:Inv X pins σ H s) (h:SqL X.K H a xs):∃ its:List Value,Vals xs its∧PlainL s.heap a its.toArray∧xs.length≤sizeLine:=by
 rcases h with h | ⟨o,its,n,hk,hc,hd,hs,hz,r⟩
 ·obtain ⟨z,its,n,r,e⟩:=h.ok I.hok
  exact ⟨its,r,⟨_,n,e,rfl,rfl,rfl⟩,z⟩
 ·refine ⟨its.toList,r,⟨o,n,I.kIn a o hk,hc,hd,by simpa using hs⟩,?_⟩
  have e:=r.length
  simp only [Array.length_toList] at e
  omega
theorem Inv.tuple (I:Inv X pins σ H s) (h:SqT X.K H a xs):∃ its:List Value,Vals xs its∧IsTup s.heap a its.toArray∧xs.length≤sizeLine:=by
 rcases h with h | ⟨o,its,n,hk,hc,hs,hz,r⟩
 ·obtain ⟨z,its,r,p⟩:=h.ok I.hok
  exact ⟨its,r,p.1,z⟩
 ·refine ⟨its.toList,r,⟨o,I.kIn a o hk,hc,n,by simpa using hs⟩,?_⟩
  have e:=r.length
  simp only [Array.length_toList] at e
  omega
theorem Inv.list_inj (I:Inv X pins σ H s) (h:SqL X.K H a xs) (h':SqL X.K H a ys):xs=ys:=by
 obtain ⟨its,r,⟨o,n,e,_,_,d⟩,_⟩:=I.list h
 obtain ⟨its',r',⟨o',n',e',_,_,d'⟩,_⟩:=I.list h'
 rw [e] at e';cases e'
 rw [d] at d'
 injection d' with d1 _
 have:its=its':=by simpa using congrArg Array.toList d1
 subst this
 exact r.inj r'
theorem Inv.tuple_inj (I:Inv X pins σ H s) (h:SqT X.K H a xs) (h':SqT X.K H a ys):xs=ys:=by
 obtain ⟨its,r,⟨o,e,_,n,d⟩,_⟩:=I.tuple h
 obtain ⟨its',r',⟨o',e',_,n',d'⟩,_⟩:=I.tuple h'
 rw [e] at e';cases e'
 rw [d] at d'
 injection d' with d1 _
 have:its=its':=by simpa using congrArg Array.toList d1
 subst this
 exact r.inj r'
end
noncomputable abbrev Cx.wish (X:Cx) (E:Value→Shared→Prop):Cx:={ X with xe:=E }
noncomputable abbrev Cx.nox (X:Cx):Cx:=X.wish fun _ _=>False
theorem Cx.Ok.wish {X:Cx} (ok:X.Ok) (E:Value→Shared→Prop):(X.wish E).Ok:=
 ⟨ok.mod,ok.kind,ok.glob,ok.blt,ok.above,ok.inj,ok.has,ok.cab,ok.hd,ok.frames,ok.stk,ok.exf,ok.bs,ok.bsz,ok.noex,ok.exfs,ok.funs,ok.frf⟩
theorem Cx.Ok.unwish {X:Cx} {E:Value→Shared→Prop} (ok:(X.wish E).Ok):X.Ok:=
 ⟨ok.mod,ok.kind,ok.glob,ok.blt,ok.above,ok.inj,ok.has,ok.cab,ok.hd,ok.frames,ok.stk,ok.exf,ok.bs,ok.bsz,ok.noex,ok.exfs,ok.funs,ok.frf⟩
section
variable {X:Cx} {pins:List (Addr×Obj)} {σ:St} {H:Hp} {s:Shared} {E:Value→Shared→Prop}
theorem Inv.wish (I:Inv X pins σ H s) (E:Value→Shared→Prop):Inv (X.wish E) pins σ H s:=⟨I.ok.wish E,I.os,I.bare,I.base,I.loc,I.cell,I.free,I.freeC,I.pin,I.hok,I.len⟩
theorem Inv.unwish (I:Inv (X.wish E) pins σ H s):Inv X pins σ H s:=⟨I.ok.unwish,I.os,I.bare,I.base,I.loc,I.cell,I.free,I.freeC,I.pin,I.hok,I.len⟩
theorem SP.unwish {D:Ends} {f:Flow} {s':Shared} (h:SP (X.wish E) pins D f s'):SP X pins D f s':=by
 cases f with
 | next=>obtain ⟨σ',H',I,q⟩:=h;exact ⟨σ',H',I.unwish,q⟩
 | brk=>obtain ⟨σ',H',I,q⟩:=h;exact ⟨σ',H',I.unwish,q⟩
 | cont=>obtain ⟨σ',H',I,q⟩:=h;exact ⟨σ',H',I.unwish,q⟩
 | ret u=>obtain ⟨v,σ',H',I,r,q⟩:=h;exact ⟨v,σ',H',I.unwish,r,q⟩
theorem PE.nox {e:Expr} {t:TE} (h:PE X.nox e t):PE X e t:=fun pins s σ H Q I hw=>
 wpAny_mono (h pins s σ H Q (I.wish _) hw) (fun _ _ ⟨v,H',I',r,q⟩=>⟨v,H',I'.unwish,r,q⟩) fun _ _ z=>False.elim z
theorem PT.nox {e:Expr} {t:TT} (h:PT X.nox e t):PT X e t:=fun pins s σ H Q I hw=>
 wpAny_mono (h pins s σ H Q (I.wish _) hw) (fun _ _ ⟨H',I',q⟩=>⟨H',I'.unwish,q⟩) fun _ _ z=>False.elim z
theorem PSs.nox {st:List Stmt} {t:TS} (h:PSs X.nox st t):PSs X st t:=fun pins s σ H D I hw=>
 wpAny_mono (h pins s σ H D (I.wish _) hw) (fun _ _ q=>q.unwish) fun _ _ z=>False.elim z
end
section
variable {X:Cx} {st:Stmt} {rest:List Stmt} {t u:TS} {e:Expr} {te:TE} {pos:Pos}
noncomputable def tNext:TS:=fun D σ H=>D.nx σ H
noncomputable def tSeq (t u:TS):TS:=fun D σ H=>t { D with nx:=u D } σ H
theorem pss_nil:PSs X [] tNext:=fun _ _ σ H _ I h=>wpAny_execs_nil ⟨σ,H,I,h⟩
theorem pss_cons (h1:PS X st t) (h2:PSs X rest u):PSs X (st::rest) (tSeq t u):=by
 intro pins s σ H D I h
 refine wpAny_execs_cons (thn (h1 pins s σ H { D with nx:=u D } I h) fun f s1 q=>?_)
 cases f with
 | next=>
  obtain ⟨σ',H',I',q⟩:=q
  exact h2 pins s1 σ' H' D I' q
 | ret v=>exact q
 | brk=>exact q
 | cont=>exact q
theorem pss_one (h1:PS X st t):PSs X [st] t:=by
 intro pins s σ H D I h
 refine wpAny_execs_cons (thn (h1 pins s σ H D I h) fun f s1 q=>?_)
 cases f with
 | next=>exact wpAny_execs_nil q
 | ret v=>exact q
 | brk=>exact q
 | cont=>exact q
theorem Inv.quiet {pins:List (Addr×Obj)} {σ:St} {H:Hp} {s:Shared} (I:Inv X pins σ H s):interactive X.env=false:=by simp [interactive,I.ok.kind]
noncomputable def tDrop (te:TE):TS:=fun D σ H=>te σ H fun _ H1=>D.nx σ H1
theorem ps_expr (he:PE X e te) (hs:swapsWith e none pos.line X.env=pure false:=by rfl):PS X (.Expr e pos) (tDrop te):=by
 intro pins s σ H D I h
 exact wpAny_Expr_any (thn (he pins s σ H _ I h) fun v s1 ⟨x,H1,I1,r1,q1⟩=>⟨σ,H1,I1,q1⟩) I.quiet hs
noncomputable def tRet (te:TE):TS:=fun D σ H=>te σ H D.rt
theorem ps_ret (he:PE X e te):PS X (.Return (some e) pos) (tRet te):=by
 intro pins s σ H D I h
 exact wpAny_Return_some (thn (he pins s σ H _ I h) fun v s1 ⟨x,H1,I1,r1,q1⟩=>⟨x,σ,H1,I1,r1,q1⟩)
noncomputable def tIfS (c:TT) (t u:TS):TS:=fun D σ H=>c σ H fun b H1=>if b=true then t D σ H1 else u D σ H1
theorem ps_if {c:Expr} {a b:List Stmt} {tc:TT} (hc:PT X c tc) (ha:PSs X a t) (hb:PSs X b u):PS X (.If c a b pos) (tIfS tc t u):=by
 intro pins s σ H D I h
 refine wpAny_If (thn (hc pins s σ H _ I h) fun d s1 ⟨H1,I1,q1⟩=>?_)
 cases d with
 | true=>exact ha pins s1 σ H1 D I1 q1
 | false=>exact hb pins s1 σ H1 D I1 q1
noncomputable def tNever:TS:=fun _ _ _=>False
theorem ps_never:PS X st tNever:=fun _ _ _ _ _ _ h=>h.elim
end
noncomputable abbrev TG:=V→St→Hp→(St→Hp→Prop)→Prop
noncomputable abbrev TGs:=List V→St→Hp→(St→Hp→Prop)→Prop
noncomputable def PG (X:Cx) (target:Expr) (t:TG):Prop:=
 ∀ (pins:List (Addr×Obj)) (s:Shared) (σ:St) (H:Hp) (v:V) (u:Value) (Q:St→Hp→Prop),Inv X pins σ H s→RelV v u→t v σ H Q→
  wpAny (model X.prog X.w) X.A (assign target X.env u) (fun _ s'=>∃ σ' H',Inv X pins σ' H' s'∧Q σ' H') X.xe s
noncomputable def PGs (X:Cx) (ts:List Expr) (t:TGs):Prop:=
 ∀ (pins:List (Addr×Obj)) (s:Shared) (σ:St) (H:Hp) (vs:List V) (us:List Value) (Q:St→Hp→Prop),Inv X pins σ H s→Vals vs us→t vs σ H Q→
  wpAny (model X.prog X.w) X.A (assignInOrder ((assignEach ts X.env).map (·.2)) us) (fun _ s'=>∃ σ' H',Inv X pins σ' H' s'∧Q σ' H') X.xe s
noncomputable abbrev TSet:=V→V→V→Hp→(Hp→Prop)→Prop
section
variable {X:Cx} {pos:Pos}
noncomputable def gName (i:Nat):TG:=fun v σ H Q=>Q (σ.set i (some v)) H
theorem pg_name {i:Nat} {x:Str} (hN:X.N.Nodup) (hi:X.N[i]? =some x) (hx:Loc X.env.scope x) (hf:X.fn x=true∨X.env.scope.names.lookup x=some .local:=by first | exact .inl rfl | exact .inr rfl | assumption):PG X (.Name x pos) (gName i):=by
 intro pins s σ H v u Q I r h
 exact wpAny_assign_Name (store_ok I hN hi hx r (fun s' I'=>⟨_,H,I',h⟩) hf)
noncomputable def gNil:TGs:=fun vs σ H Q=>vs=[]∧Q σ H
noncomputable def gCons (t:TG) (u:TGs):TGs:=fun vs σ H Q=>∃ v r,vs=v::r∧t v σ H fun σ' H'=>u r σ' H' Q
theorem pgs_nil:PGs X [] gNil:=by
 intro pins s σ H vs us Q I r h
 obtain ⟨e,h⟩:=h
 subst e
 cases r
 exact assignInOrder_nil ⟨σ,H,I,h⟩
theorem pgs_cons {e:Expr} {es:List Expr} {t:TG} {u:TGs} (h1:PG X e t) (h2:PGs X es u)
  (hs:(assignEach (e::es) X.env).map (·.2)=assign e X.env::(assignEach es X.env).map (·.2):=by rfl):PGs X (e::es) (gCons t u):=by
 intro pins s σ H vs us Q I r h
 obtain ⟨v,vr,e1,h⟩:=h
 subst e1
 cases r with
 | cons r rr=>
  rw [hs]
  refine assignInOrder_cons (thn (h1 pins s σ H _ _ _ I r h) fun _ s1 ⟨σ1,H1,I1,q1⟩=>?_)
  exact h2 pins s1 σ1 H1 _ _ Q I1 rr q1
noncomputable def gTup (K:PySem.W.Frag) (n:Nat) (t:TGs):TG:=fun v σ H Q=>∃ a xs,v=.ref a∧SqT K H a xs∧xs.length=n∧t xs σ H Q
theorem pg_tup {es:List Expr} {k:Nat} {t:TGs} {n:Nat} (hc:X.calm=true) (h:PGs X es t)
  (hn:(assignEach es X.env).length=n:=by rfl) (hst:(assignEach es X.env).findIdx? (·.1)=none:=by rfl):PG X (.Tuple es k pos) (gTup X.K n t):=by
 intro pins s σ H v u Q I r hw
 obtain ⟨a,xs,e1,hq,hl,hw⟩:=hw
 subst e1
 cases r
 obtain ⟨its,rv,ht,hz⟩:=I.tuple hq
 refine assign_Tuple_tuple (I.ok.hd hc) ht (by simp [hn,←hl,rv.length]) hst fun h' hx=>?_
 have I1:Inv X pins σ H { s with heap:=h' }:=I.kept (t':=s.toks) fun b o e=>hx b o (Nat.ne_of_lt (Heap.lt_size e)) e
 exact h pins _ σ H xs _ Q I1 (by simpa using rv) hw
noncomputable def gSub (to ti:TE) (t:TSet):TG:=fun v σ H Q=>to σ H fun o H1=>ti σ H1 fun i H2=>t o i v H2 fun H3=>Q σ H3
noncomputable def tAsg (te:TE) (g:TG):TS:=fun D σ H=>te σ H fun x H1=>g x σ H1 D.nx
theorem ps_set {i:Nat} {x:Str} {e:Expr} {te:TE} {pos':Pos} (hN:X.N.Nodup) (hi:X.N[i]? =some x) (hx:Loc X.env.scope x) (he:PE X e te) (hs:swapsWith e (some (.Name x pos')) pos.line X.env=pure false:=by rfl) (hf:X.fn x=true∨X.env.scope.names.lookup x=some .local:=by first | exact .inl rfl | exact .inr rfl | assumption):
  PS X (.Assign [.Name x pos'] e pos) (tAsg te (gName i)):=by
 intro pins s σ H D I h
 refine wpAny_Assign_Name (thn (he pins s σ H _ I h) fun v s1 ⟨y,H1,I1,r1,q1⟩=>?_) hs
 exact store_ok I1 hN hi hx r1 (fun s2 I2=>⟨_,H1,I2,q1⟩) hf
end
section
variable {X:Cx} {pos:Pos}
noncomputable def tWhile (c:TT) (tb:TS):TS:=fun D σ H=>∃ W:Nat→St→Hp→Prop,(∃ m,W m σ H)∧∀ m σ H,W m σ H→
 c σ H fun b H1=>if b=true then ∃ N:St→Hp→Prop,(∀ σ' H',N σ' H'→∃ m',m' < m∧W m' σ' H')∧tb { D with nx:=N,ct:=N,bk:=D.nx } σ H1 else D.nx σ H1
theorem ps_while {c:Expr} {body:List Stmt} {tc:TT} {tb:TS} (hp:PassesOwn (model X.prog X.w) X.A X.env X.xe) (hc:PT X c tc) (hb:PSs X body tb):PS X (.While c body [] pos) (tWhile tc tb):=by
 intro pins s σ H D I h
 obtain ⟨W,⟨m0,w0⟩,turn⟩:=h
 refine wpAny_While (codeAny_whileLoop (fun n s'=>∃ σ' H',Inv X pins σ' H' s'∧W n σ' H') ?_ m0 ⟨σ,H,I,w0⟩)
 rintro n s1 ⟨σ1,H1,I1,w1⟩
 refine wpAny_passesOwn hp (thn (hc pins s1 σ1 H1 _ I1 (turn n σ1 H1 w1)) fun b s2 ⟨H2,I2,q2⟩=>?_)
 cases b with
 | true=>
  obtain ⟨N,hN,q2⟩:=q2
  rw [if_pos rfl]
  refine wpAny_passesOwn hp (thn (hb pins s2 σ1 H2 _ I2 q2) fun f s3 q3=>?_)
  cases f with
  | next=>
   obtain ⟨σ3,H3,I3,n3⟩:=q3
   obtain ⟨m',hm,w3⟩:=hN σ3 H3 n3
   exact ⟨m',hm,σ3,H3,I3,w3⟩
  | cont=>
   obtain ⟨σ3,H3,I3,n3⟩:=q3
   obtain ⟨m',hm,w3⟩:=hN σ3 H3 n3
   exact ⟨m',hm,σ3,H3,I3,w3⟩
  | brk=>exact q3
  | ret v=>exact q3
 | false=>
  rw [if_neg Bool.false_ne_true]
  exact wpAny_execs_nil ⟨σ1,H2,I2,q2⟩
end
structure It where
 go:Nat→Hp→Prop
 yld:Nat→Hp→V→Hp→Prop
 stop:Nat→Hp→Prop
noncomputable def FpOk (X:Cx) (pins:List (Addr×Obj)) (H:Hp) (b:Addr):Prop:=
 H b=none∧b≠X.env.locals∧b∉X.fs∧(b∈X.ex∨X.s₀.heap.objs.size≤b)∧(∀ x c,X.env.cells.lookup x=some c→c≠b)∧∀ p∈X.pn++pins,p.1≠b
theorem Inv.fpOk {X:Cx} {pins:List (Addr×Obj)} {σ:St} {H H':Hp} {s:Shared} {b:Addr} (I:Inv X pins σ H s) (hb:s.heap.objs.size≤b) (hn:H' b=none):FpOk X pins H' b:=by
 refine ⟨hn,Nat.ne_of_gt (Nat.lt_of_lt_of_le I.lt hb),I.nofs hb,.inr (Nat.le_trans I.sz hb),fun x c e z=>?_,fun p hp z=>?_⟩
 ·obtain ⟨v,q⟩:=I.cell x c e
  exact absurd (Nat.lt_of_lt_of_le q.lt (by rw [z];exact hb)) (Nat.lt_irrefl _)
 ·exact absurd (Nat.lt_of_lt_of_le (Heap.lt_size (I.pin p hp).1) (by rw [z];exact hb)) (Nat.lt_irrefl _)
structure Turn (P:Program) (w:World) (K:PySem.W.Frag) (tg:Expr) (J:It) (fp:List Addr) (it:Addr) (tn:Nat→Heap→Prop):Prop where
 mem:it∈fp
 obj:∀ i h,tn i h→∀ b∈fp,∃ o,h.get? b=some o∧∀ v,o.data≠.cell v
 keep:∀ i h h',tn i h→(∀ b∈fp,∀ o,h.get? b=some o→h'.get? b=some o)→tn i h'
 item:∀ (X:Cx),X.prog=P→X.w=w→X.K=K→X.calm=true→∀ (i:Nat) (pins:List (Addr×Obj)) (s:Shared) (σ:St) (H:Hp) (E:Value→Shared→Prop),Inv X pins σ H s→(∀ b∈fp,FpOk X pins H b)→tn i s.heap→J.go i H→
  wpAny (model P w) X.A (pyNext (.ref it)) (fun r s1=>∃ u,r=some u∧
   wpAny (model P w) X.A (letOwnedTupleGo tg (.ref it) u) (fun _ s2=>∃ x H',Inv X pins σ H' s2∧RelV x u∧J.yld i H x H'∧tn (i + 1) s2.heap∧∀ b∈fp,H' b=none) E s1) E s
 done:∀ (X:Cx),X.prog=P→X.w=w→X.K=K→X.calm=true→∀ (i:Nat) (pins:List (Addr×Obj)) (s:Shared) (σ:St) (H:Hp) (E:Value→Shared→Prop),Inv X pins σ H s→(∀ b∈fp,FpOk X pins H b)→tn i s.heap→J.stop i H→
  wpAny (model P w) X.A (pyNext (.ref it)) (fun r s1=>r=none∧Inv X pins σ H s1) E s
 self:∀ (A:Around) (i:Nat) (s:Shared) (Q:Value→Shared→Prop) (E:Value→Shared→Prop),tn i s.heap→Q (.ref it) s→wpAny (model P w) A (pyIter (.ref it)) Q E s
noncomputable abbrev TI:=St→Hp→(It→Hp→Prop)→Prop
noncomputable def PIE (X:Cx) (pins:List (Addr×Obj)) (σ:St) (tg:Expr) (R:It→Hp→Prop) (itv:Value) (s2:Shared):Prop:=
 ∃ (it:Addr) (fp:List Addr) (tn:Nat→Heap→Prop) (J:It) (H':Hp),itv=.ref it∧Inv X pins σ H' s2∧Turn X.prog X.w X.K tg J fp it tn∧tn 0 s2.heap∧(∀ b∈fp,FpOk X pins H' b)∧R J H'
noncomputable def PI (X:Cx) (tg iter:Expr) (wi:TI):Prop:=
 ∀ (pins:List (Addr×Obj)) (s:Shared) (σ:St) (H:Hp) (R:It→Hp→Prop),Inv X pins σ H s→wi σ H R→
  wpAny (model X.prog X.w) X.A (eval iter X.env) (fun v s1=>wpAny (model X.prog X.w) X.A (pyIter v) (PIE X pins σ tg R) X.xe s1) X.xe s
theorem go_of {M:Model} {A:Around} {E:Value→Shared→Prop} {s:Shared} {tg:Expr} {it:Addr} {u:Value} {o:Obj} {n:String} {vs:Array Value} {Q:Unit→Shared→Prop} (ho:s.heap.get? it=some o) (hc:o.cls=.type n) (hd:o.data=.fields vs)
    (hn:["enumerate","zip","dict_itemiterator","dict_reverseitemiterator","odict_iterator","itertools.zip_longest","itertools.pairwise"].contains n=false) (hQ:Q () s):wpAny M A (letOwnedTupleGo tg (.ref it) u) Q E s:=by
  unfold letOwnedTupleGo
  cases tg <;> first
    | exact wpAny_pure hQ
    | (cases u <;> first
        | exact wpAny_pure hQ
        | (refine wpAny_bind (wpAny_load ho ?_)
           rw [hc,hd]
           show wpAny M A (if (["enumerate","zip","dict_itemiterator","dict_reverseitemiterator","odict_iterator","itertools.zip_longest","itertools.pairwise"].contains n&&vs[0]? ==some (rawInt _))=true then _ else _) Q E s
           rw [if_neg (by intro h;rw [hn,Bool.false_and] at h;cases h)]
           exact wpAny_pure hQ))
noncomputable def Itl (K:PySem.W.Frag) (a:Addr):It:=
 ⟨fun i H=>∃ xs x,SqL K H a xs∧xs[i]? =some x,fun i H x H'=>H'=H∧∀ xs,SqL K H a xs→xs[i]? =some x,fun i H=>∃ xs,SqL K H a xs∧xs.length≤i⟩
noncomputable def Itt (K:PySem.W.Frag) (a:Addr):It:=
 ⟨fun i H=>∃ xs x,SqT K H a xs∧xs[i]? =some x,fun i H x H'=>H'=H∧∀ xs,SqT K H a xs→xs[i]? =some x,fun i H=>∃ xs,SqT K H a xs∧xs.length≤i⟩
noncomputable def Itr (lo:Int) (n:Nat):It:=⟨fun i _=>i < n,fun i H x H'=>H'=H∧x=.int (lo + i),fun i _=>n≤i⟩
theorem turn_list {P:Program} {w:World} {K:PySem.W.Frag} {tg:Expr} (a it:Addr):Turn P w K tg (Itl K a) [it] it (fun i h=>h.IsListIter it a i) where
 mem:=by simp
 obj:=fun i h st b hb=>by
  have e:b=it:=by simpa using hb
  subst e
  obtain ⟨o,e,c,d⟩:=st
  exact ⟨o,e,fun v z=>by rw [d] at z;cases z⟩
 keep:=fun i h h' st k=>st.at fun o e=>k it (by simp) o e
 item:=by
  intro X hP hw hK hc i pins s σ H E I hf st hg
  subst hP hw hK
  obtain ⟨xs,x,hq,hx⟩:=hg
  obtain ⟨its,rv,p,hz⟩:=I.list hq
  obtain ⟨u,hu,ru⟩:=rv.get hx
  obtain ⟨f0,f1,f2,f3,f4,f5⟩:=hf it (by simp)
  refine wpAny_pyNext_list_item st p.isList (x:=u) (by simpa using hu) fun h' st' sb=>?_
  have I1:Inv X pins σ H { s with heap:=h' }:=I.turned (t':=s.toks) (fun b o hb e=>(sb.2 b hb).trans e) f0 f1 f3 f4 f5
  obtain ⟨o,e,c,d⟩:=id st'
  exact ⟨u,rfl,go_of (s:={ s with heap:=h' }) e c d (by decide) ⟨x,H,I1,ru,⟨rfl,fun ys hy=>by rw [I.list_inj hy hq];exact hx⟩,st',fun b hb=>(hf b hb).1⟩⟩
 done:=by
  intro X hP hw hK hc i pins s σ H E I hf st hg
  subst hP hw hK
  obtain ⟨xs,hq,hx⟩:=hg
  obtain ⟨its,rv,p,hz⟩:=I.list hq
  obtain ⟨f0,f1,f2,f3,f4,f5⟩:=hf it (by simp)
  have hl:=rv.length
  exact wpAny_pyNext_list_end (I.ok.hd hc) st p.isList (by simp;omega) fun h' eb=>⟨rfl,I.turned (t':=s.toks) (fun b o hb e=>eb b o hb e) f0 f1 f3 f4 f5⟩
 self:=fun _ _ _ _ _ st h=>wpAny_pyIter_listiter st h
theorem turn_tuple {P:Program} {w:World} {K:PySem.W.Frag} {tg:Expr} (a it:Addr):Turn P w K tg (Itt K a) [it] it (fun i h=>h.IsTupleIter it a i) where
 mem:=by simp
 obj:=fun i h st b hb=>by
  have e:b=it:=by simpa using hb
  subst e
  obtain ⟨o,e,c,d⟩:=st
  exact ⟨o,e,fun v z=>by rw [d] at z;cases z⟩
 keep:=fun i h h' st k=>st.at fun o e=>k it (by simp) o e
 item:=by
  intro X hP hw hK hc i pins s σ H E I hf st hg
  subst hP hw hK
  obtain ⟨xs,x,hq,hx⟩:=hg
  obtain ⟨its,rv,p,hz⟩:=I.tuple hq
  obtain ⟨u,hu,ru⟩:=rv.get hx
  obtain ⟨f0,f1,f2,f3,f4,f5⟩:=hf it (by simp)
  refine wpAny_pyNext_tuple_item st (show s.heap.IsTuple a its.toArray from p) (x:=u) (by simpa using hu) fun h' st' sb=>?_
  have I1:Inv X pins σ H { s with heap:=h' }:=I.turned (t':=s.toks) (fun b o hb e=>(sb.2 b hb).trans e) f0 f1 f3 f4 f5
  obtain ⟨o,e,c,d⟩:=id st'
  exact ⟨u,rfl,go_of (s:={ s with heap:=h' }) e c d (by decide) ⟨x,H,I1,ru,⟨rfl,fun ys hy=>by rw [I.tuple_inj hy hq];exact hx⟩,st',fun b hb=>(hf b hb).1⟩⟩
 done:=by
  intro X hP hw hK hc i pins s σ H E I hf st hg
  subst hP hw hK
  obtain ⟨xs,hq,hx⟩:=hg
  obtain ⟨its,rv,p,hz⟩:=I.tuple hq
  obtain ⟨f0,f1,f2,f3,f4,f5⟩:=hf it (by simp)
  have hl:=rv.length
  exact wpAny_pyNext_tuple_end (I.ok.hd hc) st (show s.heap.IsTuple a its.toArray from p) (by simp;omega) fun h' eb=>⟨rfl,I.turned (t':=s.toks) (fun b o hb e=>eb b o hb e) f0 f1 f3 f4 f5⟩
 self:=fun _ _ _ _ _ st h=>wpAny_pyIter_tupleiter st h
theorem turn_range {P:Program} {w:World} {K:PySem.W.Frag} {tg:Expr} (it:Addr) (lo:Int) (n:Nat):Turn P w K tg (Itr lo n) [it] it (fun i h=>IsRangeIter h it (lo + (i:Nat) * 1) ((n:Int) - (i:Nat)) 1) where
 mem:=by simp
 obj:=fun i h st b hb=>by
  have e:b=it:=by simpa using hb
  subst e
  exact ⟨_,st,fun v z=>by
   have z':Data.fields _=Data.cell v:=z
   cases z'⟩
 keep:=fun i h h' st k=>k it (by simp) _ st
 item:=by
  intro X hP hw hK hc i pins s σ H E I hf st hg
  subst hP hw hK
  obtain ⟨f0,f1,f2,f3,f4,f5⟩:=hf it (by simp)
  have W:=Walks.range (prog:=X.prog) (w:=X.w) (I.ok.hd hc) it lo 1 n
  refine W.item i s _ _ hg st fun v h' tk hv st' kk=>?_
  obtain ⟨t,rfl⟩:=hv
  have I1:Inv X pins σ H { s with heap:=h',toks:=tk }:=I.turned (fun b o hb e=>kk b o (by simpa using hb) e) f0 f1 f3 f4 f5
  refine ⟨_,rfl,go_of (s:={ s with heap:=h',toks:=tk }) (n:="range_iterator") st' rfl rfl (by decide) ⟨.int (lo + i),H,I1,⟨t,?_⟩,⟨rfl,rfl⟩,st',fun b hb=>(hf b hb).1⟩⟩
  rw [Int.mul_one]
 done:=by
  intro X hP hw hK hc i pins s σ H E I hf st hg
  subst hP hw hK
  obtain ⟨f0,f1,f2,f3,f4,f5⟩:=hf it (by simp)
  exact wpAny_pyNext_range_end (I.ok.hd hc) st (by have:n≤i:=hg;omega) fun h' eb=>⟨rfl,I.turned (t':=s.toks) (fun b o hb e=>eb b o hb e) f0 f1 f3 f4 f5⟩
 self:=fun _ _ _ _ _ st h=>wpAny_pyIter_rangeiter st h
end L2
namespace L2
open PySem PySem.Spec PyProof.Rows
section
variable {X:Cx} {tg:Expr}
noncomputable def iList (K:PySem.W.Frag) (tl:TE):TI:=fun σ H R=>tl σ H fun x H1=>∃ a,x=.ref a∧(∃ xs,SqL K H1 a xs)∧R (Itl K a) H1
noncomputable def iTup (K:PySem.W.Frag) (tl:TE):TI:=fun σ H R=>tl σ H fun x H1=>∃ a,x=.ref a∧(∃ xs,SqT K H1 a xs)∧R (Itt K a) H1
theorem pi_list {l:Expr} {tl:TE} (hl:PE X l tl):PI X tg l (iList X.K tl):=by
 intro pins s σ H R I h
 refine thn (hl pins s σ H _ I h) fun v s1 ⟨x,H1,I1,r1,q1⟩=>?_
 obtain ⟨a,e,⟨xs,hq⟩,q⟩:=q1
 subst e
 cases r1
 obtain ⟨its,rv,p,hz⟩:=I1.list hq
 refine wpAny_pyIter_list p.isList ?_
 refine ⟨s1.heap.objs.size,[s1.heap.objs.size],_,_,H1,rfl,I1.kept (t':=s1.toks) fun b o e=>Heap.get?_push_of_some _ e,turn_list a _,⟨_,Heap.get?_push_size _ rfl,rfl,rfl⟩,fun b hb=>?_,q⟩
 have e:b=s1.heap.objs.size:=by simpa using hb
 subst e
 exact I1.fpOk (Nat.le_refl _) (I1.hok.fresh (Nat.le_refl _))
theorem pi_tup {l:Expr} {tl:TE} (hl:PE X l tl):PI X tg l (iTup X.K tl):=by
 intro pins s σ H R I h
 refine thn (hl pins s σ H _ I h) fun v s1 ⟨x,H1,I1,r1,q1⟩=>?_
 obtain ⟨a,e,⟨xs,hq⟩,q⟩:=q1
 subst e
 cases r1
 obtain ⟨its,rv,p,hz⟩:=I1.tuple hq
 refine wpAny_pyIter_tuple (show s1.heap.IsTuple a its.toArray from p) ?_
 refine ⟨s1.heap.objs.size,[s1.heap.objs.size],_,_,H1,rfl,I1.kept (t':=s1.toks) fun b o e=>Heap.get?_push_of_some _ e,turn_tuple a _,⟨_,Heap.get?_push_size _ rfl,rfl,rfl⟩,fun b hb=>?_,q⟩
 have e:b=s1.heap.objs.size:=by simpa using hb
 subst e
 exact I1.fpOk (Nat.le_refl _) (I1.hok.fresh (Nat.le_refl _))
theorem range_it {pins:List (Addr×Obj)} {σ:St} {H:Hp} {s:Shared} {R:It→Hp→Prop} {E:Value→Shared→Prop} {lo hi:Int} {t u v:Tok} {tk:Nat} (I:Inv X pins σ H s) (h1:-(2 ^ 62)≤lo) (h2:lo < 2 ^ 62) (h3:-(2 ^ 62)≤hi) (h4:hi < 2 ^ 62)
  (q:R (Itr lo (hi - lo).toNat) H):wpAny (model X.prog X.w) X.A (pyIter (.ref s.heap.objs.size)) (PIE X pins σ tg R) E { s with heap:=s.heap.push { cls:=.type "range",data:=.fields #[.int lo t,.int hi u,.int 1 v] },toks:=tk }:=by
 refine wpAny_pyIter_range (IsRange.new ..) (small_one h1 h2 h3 h4) ?_
 have I1:Inv X pins σ H { s with heap:=s.heap.push { cls:=.type "range",data:=.fields #[.int lo t,.int hi u,.int 1 v] },toks:=tk }:=I.kept fun b o e=>Heap.get?_push_of_some _ e
 refine ⟨(s.heap.push { cls:=.type "range",data:=.fields #[.int lo t,.int hi u,.int 1 v] }).objs.size,[(s.heap.push { cls:=.type "range",data:=.fields #[.int lo t,.int hi u,.int 1 v] }).objs.size],_,_,H,rfl,
  I1.kept (t':=tk) fun b o e=>Heap.get?_push_of_some _ e,turn_range _ lo (hi - lo).toNat,?_,fun b hb=>?_,q⟩
 ·have e1:lo + ((0:Nat):Int) * 1=lo:=by simp
  have e2:(((hi - lo).toNat:Nat):Int) - ((0:Nat):Int)=Builtin.Range.rangeSize lo hi 1:=by rw [rangeSize_one];split <;> omega
  show IsRangeIter _ _ (lo + ((0:Nat):Int) * 1) ((((hi - lo).toNat:Nat):Int) - ((0:Nat):Int)) 1
  rw [e1,e2]
  exact Heap.get?_push_size _ rfl
 ·have e:b=(s.heap.push { cls:=.type "range",data:=.fields #[.int lo t,.int hi u,.int 1 v] }).objs.size:=by simpa using hb
  subst e
  exact I1.fpOk (Nat.le_refl _) (I1.hok.fresh (Nat.le_refl _))
noncomputable def iRng1 (ta:TA):TI:=fun σ H R=>ta σ H fun vs H1=>∃ j:Int,vs=[.int j]∧-(2 ^ 62)≤j∧j < 2 ^ 62∧R (Itr 0 j.toNat) H1
noncomputable def iRng2 (ta:TA):TI:=fun σ H R=>ta σ H fun vs H1=>∃ i j:Int,vs=[.int i,.int j]∧(-(2 ^ 62)≤i∧i < 2 ^ 62∧-(2 ^ 62)≤j∧j < 2 ^ 62)∧R (Itr i (j - i).toNat) H1
theorem pi_range1 {a:Expr} {ta:TA} {p pos:Pos} (hg:Gl X "range") (hm:X.mg "range"=none) (ha:PA X [a] ta) (hs:starEach [a] X.env=[(false,eval a X.env)]:=by rfl):PI X tg (.Call (.Name "range" p) [a] [] pos) (iRng1 ta):=by
 intro pins s σ H R I h
 refine Call_ (ld_blt I hg hm boot_range (PyProof.Rows.callWith_type1 (thn (ha pos pins s σ H _ I h) fun us s1 ⟨vs,H1,I1,r1,q1⟩=>?_) hs rfl))
 obtain ⟨j,e,q1,q2,q⟩:=q1
 subst e
 cases r1 with
 | cons r rr=>
  cases rr
  obtain ⟨t,rfl⟩:=r
  exact call_range_1 (range_it I1 (by omega) (by omega) q1 q2 (by simpa using q))
theorem pi_range2 {a b:Expr} {ta:TA} {p pos:Pos} (hg:Gl X "range") (hm:X.mg "range"=none) (ha:PA X [a,b] ta) (hs:starEach [a,b] X.env=[(false,eval a X.env),(false,eval b X.env)]:=by rfl) (hs2:starEach [b] X.env=[(false,eval b X.env)]:=by rfl):
  PI X tg (.Call (.Name "range" p) [a,b] [] pos) (iRng2 ta):=by
 intro pins s σ H R I h
 refine Call_ (ld_blt I hg hm boot_range (PyProof.Rows.callWith_type1 (thn (ha pos pins s σ H _ I h) fun us s1 ⟨vs,H1,I1,r1,q1⟩=>?_) (by rw [hs,hs2]) (by rw [hs2];rfl)))
 obtain ⟨i,j,e,⟨q1,q2,q3,q4⟩,q⟩:=q1
 subst e
 cases r1 with
 | cons r rr=>
  cases rr with
  | cons r' rr=>
   cases rr
   obtain ⟨t,rfl⟩:=r
   obtain ⟨t',rfl⟩:=r'
   exact call_range_2 (range_it I1 q1 q2 q3 q4 q)
noncomputable def tFor (wi:TI) (g:TG) (tb:TS):TS:=fun D σ H=>wi σ H fun J H1=>∃ W:Nat→Nat→St→Hp→Prop,(∃ m,W 0 m σ H1)∧∀ i m σ H,W i m σ H→
 (J.stop i H∧D.nx σ H)∨(J.go i H∧∃ N:St→Hp→Prop,(∀ σ' H',N σ' H'→∃ m',m' < m∧W (i + 1) m' σ' H')∧∀ x H',J.yld i H x H'→g x σ H' fun σ2 H2=>tb { D with nx:=N,ct:=N,bk:=D.nx } σ2 H2)
noncomputable def pinsAt (fp:List Addr) (h:Heap):List (Addr×Obj):=fp.filterMap fun b=>(h.get? b).map fun o=>(b,o)
theorem mem_pinsAt {fp:List Addr} {h:Heap} {b:Addr} {o:Obj} (hb:b∈fp) (e:h.get? b=some o):(b,o)∈pinsAt fp h:=List.mem_filterMap.mpr ⟨b,hb,by rw [e];rfl⟩
theorem of_pinsAt {fp:List Addr} {h:Heap} {p:Addr×Obj} (hp:p∈pinsAt fp h):p.1∈fp∧h.get? p.1=some p.2:=by
 obtain ⟨b,hb,e⟩:=List.mem_filterMap.mp hp
 cases q:h.get? b with
 | none=>rw [q] at e;cases e
 | some o=>
  rw [q] at e
  have e':(b,o)=p:=Option.some.inj e
  subst e'
  exact ⟨hb,q⟩
theorem Inv.pinned {pins:List (Addr×Obj)} {σ:St} {H:Hp} {s:Shared} {fp:List Addr} (I:Inv X pins σ H s) (hf:∀ b∈fp,FpOk X pins H b) (ho:∀ b∈fp,∃ o,s.heap.get? b=some o∧∀ v,o.data≠.cell v):Inv X (pins++pinsAt fp s.heap) σ H s:=
 I.pins_of fun p hp=>(List.mem_append.mp hp).elim (fun z=>I.pin p (List.mem_append_right _ z)) fun z=>by
  obtain ⟨hb,e⟩:=of_pinsAt z
  obtain ⟨f0,f1,f2,_⟩:=hf p.1 hb
  obtain ⟨o,e',d⟩:=ho p.1 hb
  rw [e] at e';cases e'
  exact ⟨e,f0,f1,f2,d⟩
theorem Inv.unpinned {pins pl:List (Addr×Obj)} {σ:St} {H:Hp} {s:Shared} (I:Inv X (pins++pl) σ H s):Inv X pins σ H s:=I.pins_of fun p hp=>I.pin p (List.mem_append_right _ (List.mem_append_left _ hp))
theorem ps_for {iter:Expr} {body:List Stmt} {wi:TI} {g:TG} {tb:TS} {pos:Pos} (hp:PassesOwn (model X.prog X.w) X.A X.env X.xe) (hc:X.calm=true) (hi:PI X tg iter wi) (hg:PG X tg g) (hb:PSs X body tb)
  (hs:∀ x,foldedSetIterable iter X.env x=pure x:=by intro _;rfl):PS X (.For tg iter body [] pos) (tFor wi g tb):=by
 intro pins s σ H D I h
 refine wpAny_For (thn (hi pins s σ H _ I h) fun v s1 h1=>thn h1 fun itv s2 h2=>?_) hs
 obtain ⟨it,fp,tn,J,H2,e,I2,T,st2,f2,W,⟨m0,w0⟩,turn⟩:=h2
 subst e
 have stat:∀ {H':Hp},(∀ b∈fp,H' b=none)→∀ b∈fp,FpOk X pins H' b:=fun hn b hb=>⟨hn b hb,(f2 b hb).2⟩
 refine codeAny_forLoop_any (fun n s'=>∃ i σ' H',Inv X pins σ' H' s'∧tn i s'.heap∧(∀ b∈fp,H' b=none)∧W i n σ' H') ?_ m0 ⟨0,σ,H2,I2,st2,fun b hb=>(f2 b hb).1,w0⟩
 rintro n s3 ⟨i,σ3,H3,I3,st3,fr3,w3⟩
 rcases turn i n σ3 H3 w3 with ⟨stop,qn⟩ | ⟨go,N,hN,step⟩
 ·refine wpAny_passesOwn hp (thn (T.done X rfl rfl rfl hc i pins s3 σ3 H3 X.xe I3 (stat fr3) st3 stop) fun r s4 ⟨hr,I4⟩=>?_)
  subst hr
  exact wpAny_execs_nil ⟨σ3,H3,I4,qn⟩
 ·refine wpAny_passesOwn hp (thn (T.item X rfl rfl rfl hc i pins s3 σ3 H3 X.xe I3 (stat fr3) st3 go) fun r s4 ⟨u,hr,h4⟩=>?_)
  subst hr
  refine wpAny_passesOwn hp (thn h4 fun _ s5 ⟨x,H5,I5,r5,y5,st5,fr5⟩=>?_)
  have I5':=I5.pinned (stat fr5) (T.obj _ _ st5)
  refine wpAny_passesOwn hp (thn (hg _ s5 σ3 H5 x u _ I5' r5 (step x H5 y5)) fun _ s6 ⟨σ6,H6,I6,q6⟩=>?_)
  refine wpAny_passesOwn hp (thn (hb _ s6 σ6 H6 _ I6 q6) fun f s7 q7=>?_)
  have again:∀ {σ7:St} {H7:Hp},Inv X (pins++pinsAt fp s5.heap) σ7 H7 s7→N σ7 H7→∃ m,m < n∧∃ i σ' H',Inv X pins σ' H' s7∧tn i s7.heap∧(∀ b∈fp,H' b=none)∧W i m σ' H':=fun {σ7 H7} I7 n7=>by
   obtain ⟨m',hm,w7⟩:=hN σ7 H7 n7
   refine ⟨m',hm,i + 1,σ7,H7,I7.unpinned,T.keep _ _ _ st5 fun b hb o e=>(I7.pin (b,o) (List.mem_append_right _ (List.mem_append_right _ (mem_pinsAt hb e)))).1,fun b hb=>?_,w7⟩
   obtain ⟨o,e,d⟩:=T.obj _ _ st5 b hb
   exact (I7.pin (b,o) (List.mem_append_right _ (List.mem_append_right _ (mem_pinsAt hb e)))).2.1
  cases f with
  | next=>obtain ⟨σ7,H7,I7,n7⟩:=q7;exact again I7 n7
  | cont=>obtain ⟨σ7,H7,I7,n7⟩:=q7;exact again I7 n7
  | brk=>obtain ⟨σ7,H7,I7,q7⟩:=q7;exact ⟨σ7,H7,I7.unpinned,q7⟩
  | ret v=>obtain ⟨x7,σ7,H7,I7,r7,q7⟩:=q7;exact ⟨x7,σ7,H7,I7.unpinned,r7,q7⟩
end
end L2
namespace L2
open PySem PySem.Spec PyProof.Rows
noncomputable abbrev R2:=V→V→Hp→VK→Prop
noncomputable def OpR (X:Cx) (f:Value→Value→Sem Value) (r:R2):Prop:=
 ∀ (pins:List (Addr×Obj)) (s:Shared) (σ:St) (H:Hp) (x y:V) (v u:Value) (Q:VK),Inv X pins σ H s→RelV x v→RelV y u→r x y H Q→
  wpAny (model X.prog X.w) X.A (f v u) (EP X pins σ Q) X.xe s
noncomputable def UnR (X:Cx) (f:Value→Sem Value) (r:V→Hp→VK→Prop):Prop:=
 ∀ (pins:List (Addr×Obj)) (s:Shared) (σ:St) (H:Hp) (x:V) (v:Value) (Q:VK),Inv X pins σ H s→RelV x v→r x H Q→
  wpAny (model X.prog X.w) X.A (f v) (EP X pins σ Q) X.xe s
noncomputable def CallR (X:Cx) (f:Value) (r:List V→Hp→VK→Prop):Prop:=
 ∀ (pins:List (Addr×Obj)) (s:Shared) (σ:St) (H:Hp) (xs:List V) (us:List Value) (Q:VK),Inv X pins σ H s→Vals xs us→r xs H Q→
  wpAny (model X.prog X.w) X.A (call f us) (EP X pins σ Q) X.xe s
noncomputable def tOp (r:R2) (ta tb:TE):TE:=fun σ H Q=>ta σ H fun x H1=>tb σ H1 fun y H2=>r x y H2 Q
noncomputable def tUn (r:V→Hp→VK→Prop) (ta:TE):TE:=fun σ H Q=>ta σ H fun x H1=>r x H1 Q
noncomputable def rI (C:Int→Int→Prop) (g:Int→Int→V):R2:=fun x y H Q=>∃ i j,x=.int i∧y=.int j∧C i j∧Q (g i j) H
noncomputable def rI0 (g:Int→Int→V):R2:=fun x y H Q=>∃ i j,x=.int i∧y=.int j∧Q (g i j) H
noncomputable def rU (g:Int→V):V→Hp→VK→Prop:=fun x H Q=>∃ i,x=.int i∧Q (g i) H
section
variable {X:Cx} {a b c:Expr} {ta tb tc:TE} {pos:Pos}
theorem binT (ha:PE X a ta) (hb:PE X b tb) {pins:List (Addr×Obj)} {s:Shared} {σ:St} {H:Hp} {R:V→V→Hp→Prop} (I:Inv X pins σ H s)
  (h:ta σ H fun x H1=>tb σ H1 fun y H2=>R x y H2) {Q:Value→Shared→Prop} {f:Value→Value→Sem Value}
  (hf:∀ v u s2 x y H2,Inv X pins σ H2 s2→RelV x v→RelV y u→R x y H2→wpAny (model X.prog X.w) X.A (f v u) Q X.xe s2):
  wpAny (model X.prog X.w) X.A (eval a X.env) (fun v s₁=>wpAny (model X.prog X.w) X.A (eval b X.env) (fun u s₂=>wpAny (model X.prog X.w) X.A (f v u) Q X.xe s₂) X.xe s₁) X.xe s:=by
 refine thn (ha pins s σ H _ I h) fun v s1 ⟨x,H1,I1,r1,q1⟩=>?_
 refine thn (hb pins s1 σ H1 _ I1 q1) fun u s2 ⟨y,H2,I2,r2,q2⟩=>?_
 exact hf v u s2 x y H2 I2 r1 r2 q2
theorem pe_op {op:Operator} {r:R2} (ho:OpR X (binaryOp op) r) (ha:PE X a ta) (hb:PE X b tb):PE X (.BinOp a op b pos) (tOp r ta tb):=by
 intro pins s σ H Q I h
 exact wpAny_BinOp (binT ha hb I h fun v u s2 x y H2 I2 rx ry q=>ho pins s2 σ H2 x y v u Q I2 rx ry q)
theorem pe_un {op:UnaryOp} {r:V→Hp→VK→Prop} (ho:UnR X (unaryOp op) r) (ha:PE X a ta):PE X (.UnaryOp op a pos) (tUn r ta):=by
 intro pins s σ H Q I h
 exact UnaryOp_ (thn (ha pins s σ H _ I h) fun v s1 ⟨x,H1,I1,r1,q1⟩=>ho pins s1 σ H1 x v Q I1 r1 q1)
theorem opI {f:Value→Value→Sem Value} {C:Int→Int→Prop} {g:Int→Int→Int}
  (rule:∀ (i j:Int) (t u:Tok) (s:Shared) (Q:Value→Shared→Prop) (E:Value→Shared→Prop),C i j→Q (.int (g i j) s.toks) { s with toks:=s.toks + 1 }→wpAny (model X.prog X.w) X.A (f (.int i t) (.int j u)) Q E s):
  OpR X f (rI C fun i j=>.int (g i j)):=by
 intro pins s σ H x y v u Q I rx ry h
 obtain ⟨i,j,rfl,rfl,hc,q⟩:=h
 obtain ⟨t,rfl⟩:=rx
 obtain ⟨t',rfl⟩:=ry
 exact rule i j t t' s _ _ hc ⟨.int (g i j),H,I.tok _,⟨_,rfl⟩,q⟩
theorem opI0 {f:Value→Value→Sem Value} {g:Int→Int→Int}
  (rule:∀ (i j:Int) (t u:Tok) (s:Shared) (Q:Value→Shared→Prop) (E:Value→Shared→Prop),Q (.int (g i j) s.toks) { s with toks:=s.toks + 1 }→wpAny (model X.prog X.w) X.A (f (.int i t) (.int j u)) Q E s):
  OpR X f (rI0 fun i j=>.int (g i j)):=by
 intro pins s σ H x y v u Q I rx ry h
 obtain ⟨i,j,rfl,rfl,q⟩:=h
 obtain ⟨t,rfl⟩:=rx
 obtain ⟨t',rfl⟩:=ry
 exact rule i j t t' s _ _ ⟨.int (g i j),H,I.tok _,⟨_,rfl⟩,q⟩
theorem opB0 {f:Value→Value→Sem Value} {g:Int→Int→Bool}
  (rule:∀ (i j:Int) (t u:Tok) (s:Shared) (Q:Value→Shared→Prop) (E:Value→Shared→Prop),Q (.bool (g i j)) s→wpAny (model X.prog X.w) X.A (f (.int i t) (.int j u)) Q E s):
  OpR X f (rI0 fun i j=>.bl (g i j)):=by
 intro pins s σ H x y v u Q I rx ry h
 obtain ⟨i,j,rfl,rfl,q⟩:=h
 obtain ⟨t,rfl⟩:=rx
 obtain ⟨t',rfl⟩:=ry
 exact rule i j t t' s _ _ ⟨.bl (g i j),H,I,rfl,q⟩
noncomputable def CPow (i j:Int):Prop:=0≤j∧j≤1000000∧i.natAbs < 2 ^ 64
noncomputable def CMul (i j:Int):Prop:=(-(2 ^ 64) < i∧i < 2 ^ 64)∨(-(2 ^ 64) < j∧j < 2 ^ 64)
theorem CMul.ok {i j:Int} (h:CMul i j):IntMulOk i j:=by
 rcases h with ⟨h1,h2⟩ | ⟨h1,h2⟩
 ·exact .of_left (intBits_le_64 h1 h2)
 ·exact .of_right (intBits_le_64 h1 h2)
theorem op_add:OpR X (binaryOp .Add) (rI0 fun i j=>.int (i + j)):=opI0 fun _ _ _ _ _ _ _ q=>add_int q
theorem op_sub:OpR X (binaryOp .Sub) (rI0 fun i j=>.int (i - j)):=opI0 fun _ _ _ _ _ _ _ q=>sub_int q
theorem op_mul:OpR X (binaryOp .Mult) (rI CMul fun i j=>.int (i * j)):=opI fun _ _ _ _ _ _ _ hc q=>mul_int q hc.ok
theorem op_mod:OpR X (binaryOp .Mod) (rI (fun _ j=>0 < j) fun i j=>.int (i % j)):=opI fun i j _ _ _ _ _ hc q=>by
 have h1:(0:Int) < j:=hc
 exact mod_int' (by omega) (by rw [Int.fmod_eq_emod_of_nonneg i (by omega)];exact q)
theorem op_pow:OpR X (binaryOp .Pow) (rI CPow fun i j=>.int (i ^ j.toNat)):=opI fun _ _ _ _ _ _ _ hc q=>pow_int_small hc.1 hc.2.1 hc.2.2 q
theorem unI {f:Value→Sem Value} {g:Int→Int}
  (rule:∀ (i:Int) (t:Tok) (s:Shared) (Q:Value→Shared→Prop) (E:Value→Shared→Prop),Q (.int (g i) s.toks) { s with toks:=s.toks + 1 }→wpAny (model X.prog X.w) X.A (f (.int i t)) Q E s):
  UnR X f (rU fun i=>.int (g i)):=by
 intro pins s σ H x v Q I rx h
 obtain ⟨i,rfl,q⟩:=h
 obtain ⟨t,rfl⟩:=rx
 exact rule i t s _ _ ⟨.int (g i),H,I.tok _,⟨_,rfl⟩,q⟩
theorem un_neg:UnR X (unaryOp .USub) (rU fun i=>.int (-i)):=unI fun _ _ _ _ _ q=>neg_int q
end
section
variable {X:Cx} {a b c:Expr} {ta tb tc:TE} {pos:Pos}
theorem fin_bl {pins:List (Addr×Obj)} {σ:St} {H:Hp} {s:Shared} {Q:VK} {k k':Bool} (I:Inv X pins σ H s) (q:Q (.bl k) H) (e:k=k'):EP X pins σ Q (.bool k') s:=by
 subst e
 exact ⟨.bl k,H,I,rfl,q⟩
theorem op_lt:OpR X (compareOp .Lt) (rI0 fun i j=>.bl (decide (i < j))):=opB0 fun _ _ _ _ _ _ _ q=>lt_int q
theorem op_le:OpR X (compareOp .LtE) (rI0 fun i j=>.bl (decide (i≤j))):=opB0 fun _ _ _ _ _ _ _ q=>le_int q
theorem op_gt:OpR X (compareOp .Gt) (rI0 fun i j=>.bl (decide (j < i))):=opB0 fun _ _ _ _ _ _ _ q=>gt_int q
theorem op_ge:OpR X (compareOp .GtE) (rI0 fun i j=>.bl (decide (j≤i))):=opB0 fun _ _ _ _ _ _ _ q=>ge_int q
theorem op_isN:OpR X (compareOp .Is) (fun x y H Q=>y=.non∧Q (.bl (decide (x=.non))) H):=by
 intro pins s σ H x y v u Q I rx ry h
 obtain ⟨rfl,q⟩:=h
 cases ry
 refine is_none_gen (fin_bl I q ?_)
 cases x <;> first
  | (cases rx;rfl)
  | (obtain ⟨t,rfl⟩:=rx;rfl)
theorem op_notN:OpR X (compareOp .IsNot) (fun x y H Q=>y=.non∧Q (.bl (!decide (x=.non))) H):=by
 intro pins s σ H x y v u Q I rx ry h
 obtain ⟨rfl,q⟩:=h
 cases ry
 refine isnot_none_gen (fin_bl I q ?_)
 cases x <;> first
  | (cases rx;rfl)
  | (obtain ⟨t,rfl⟩:=rx;rfl)
theorem nomark (b:Expr) {op:CmpOp} (h:op≠.In:=by decide) (h2:op≠.NotIn:=by decide):behindInMarks op b=false:=by
 have e1:(op==CmpOp.In)=false:=by cases op <;> first | rfl | exact absurd rfl h
 have e2:(op==CmpOp.NotIn)=false:=by cases op <;> first | rfl | exact absurd rfl h2
 cases b <;> simp [behindInMarks,e1,e2]
theorem pe_cmpR {op:CmpOp} {r:R2} (ho:OpR X (compareOp op) r) (ha:PE X a ta) (hb:PE X b tb) (hm:behindInMarks op b=false):PE X (.Compare a [op] [b] pos) (tOp r ta tb):=by
 intro pins s σ H Q I h
 exact wpAny_Compare1 (binT ha hb I h fun v u s2 x y H2 I2 rx ry q=>ho pins s2 σ H2 x y v u Q I2 rx ry q) hm
noncomputable def tTest (t:TE):TT:=fun σ H Q=>t σ H fun x H'=>∃ k,x=.bl k∧Q k H'
theorem pt_cmpR {op:CmpOp} {r:R2} (ho:OpR X (compareOp op) r) (ha:PE X a ta) (hb:PE X b tb) (hm:behindInMarks op b=false):PT X (.Compare a [op] [b] pos) (tTest (tOp r ta tb)):=by
 intro pins s σ H Q I h
 refine wpAny_isTrue_Compare1 (thn (ha pins s σ H _ I h) fun v s1 ⟨x,H1,I1,r1,q1⟩=>thn (hb pins s1 σ H1 _ I1 q1) fun u s2 ⟨y,H2,I2,r2,q2⟩=>
  thn (ho pins s2 σ H2 x y v u _ I2 r1 r2 q2) fun c s3 ⟨z,H3,I3,r3,k,e,q3⟩=>?_) hm
 subst e
 cases r3
 exact wpAny_truthy_bool ⟨H3,I3,q3⟩
noncomputable def tChain (r r':R2) (ta tb tc:TE):TE:=fun σ H Q=>ta σ H fun x H1=>tb σ H1 fun y H2=>r x y H2 fun z H3=>∃ k,z=.bl k∧
 (if k=true then tc σ H3 fun w' H4=>r' y w' H4 Q else Q (.bl false) H3)
theorem pe_chain {op op':CmpOp} {r r':R2} (ho:OpR X (compareOp op) r) (ho':OpR X (compareOp op') r') (ha:PE X a ta) (hb:PE X b tb) (hc:PE X c tc)
  (hm:lastMarks [op,op'] [b,c]=false:=by with_unfolding_all rfl):PE X (.Compare a [op,op'] [b,c] pos) (tChain r r' ta tb tc):=by
 intro pins s σ H Q I h
 refine Compare_chain (thn (ha pins s σ H _ I h) fun v s1 ⟨x,H1,I1,r1,q1⟩=>chain_link (thn (hb pins s1 σ H1 _ I1 q1) fun u s2 ⟨y,H2,I2,r2,q2⟩=>
  thn (ho pins s2 σ H2 x y v u _ I2 r1 r2 q2) fun d s3 ⟨z,H3,I3,r3,k,e,q3⟩=>?_)) hm
 subst e
 cases r3
 refine wpAny_truthy_bool ?_
 cases k with
 | false=>exact ite_ff ⟨.bl false,H3,I3,rfl,q3⟩
 | true=>exact ite_tt (chain_last (thn (hc pins s3 σ H3 _ I3 q3) fun w' s4 ⟨z',H4,I4,r4,q4⟩=>ho' pins s4 σ H4 y z' u w' Q I4 r2 r4 q4))
theorem line63:(sizeLine:Nat) < 2 ^ 63:=by rw [sizeLine_eq];decide
theorem vals1 {x:V} {us:List Value} (r:Vals [x] us):∃ u,us=[u]∧RelV x u:=by
 cases r with
 | cons r1 r2=>cases r2;exact ⟨_,rfl,r1⟩
end
end L2
namespace L2
open PySem PySem.Spec PyProof.Rows
structure ObjM (h:Heap) (x dx C:Addr) (mA:Str→Option Value):Prop where
 obj:h.get? x=some (PySem.W.instObj C dx)
 ns:h.Ns1 dx mA
 ne:dx≠x
theorem lookIn_ns {h:Heap} {dx:Addr} {mA:Str→Option Value} (n:h.Ns1 dx mA):∃ od,h.get? dx=some od∧∀ name,PySem.W.lookIn name od=some (mA name):=by
 obtain ⟨o,es,ep,ho,hd,hk,_,hm⟩:=n
 refine ⟨o,ho,fun name=>?_⟩
 have e:=hm name
 unfold nsFind findBy at e
 rw [←Array.find?_toList] at e
 unfold PySem.W.lookIn
 rw [hd]
 dsimp only
 split
 ·rename_i y q
  rw [q] at e
  exact congrArg some e
 ·rename_i q
  rw [q] at e
  have a:es.toList.any (·.refKey)=false:=by
   rw [List.any_eq_false]
   intro y hy
   obtain ⟨z,t,hkey⟩:=hk y (Array.mem_toList_iff.mp hy)
   simp [DictEntry.refKey,hkey]
  have a':¬es.toList.any (·.refKey)=true:=by rw [a];exact Bool.false_ne_true
  rw [if_neg a']
  exact congrArg some e
theorem ObjM.look {h:Heap} {x dx C:Addr} {mA:Str→Option Value} (I:ObjM h x dx C mA):∃ od,PySem.W.InstAt h x (PySem.W.instObj C dx) C (some od)∧∀ name,PySem.W.lookIn name od=some (mA name):=
 let ⟨od,ho,hl⟩:=lookIn_ns I.ns
 ⟨od,⟨I.obj,rfl,rfl,ho⟩,hl⟩
section
variable {prog:Program} {w:World} {A:Around} {E:Value→Shared→Prop} {s:Shared} {K:PySem.W.Frag} {x dx C f:Addr} {mA:Str→Option Value} {name:Str} {v:Value}
end
theorem RelO.some_of {v:V} {o:Option Value} (r:RelO (some v) o):∃ u,o=some u∧RelV v u:=by
 cases o with
 | none=>exact (show False from r).elim
 | some u=>exact ⟨u,rfl,r⟩
theorem RelO.none_of {o:Option Value} (r:RelO none o):o=none:=by
 cases o with
 | none=>rfl
 | some u=>exact (show False from r).elim
section
variable {P:Program} {w:World} {H H':Hp} {h h':Heap} {a C dx:Addr} {fs fs':List (Str×V)}
theorem ins_get (hok:HOk P w H h) (e:H a=some (.ins C dx fs)):∃ mA,ObjM h a dx C mA∧(∀ f,RelO (fs.lookup f) (mA f))∧PySem.Within mA (fs.map (·.1))∧fs.length≤1000∧H dx=some (.own a):=by
 obtain ⟨d,z,ne,ob,mA,n,r,q⟩:=(show ObjOk P w H h a (.ins C dx fs) from hok a _ e)
 exact ⟨mA,⟨ob,n,ne⟩,r,q,z,d⟩
end
structure Cls (K:PySem.W.Frag) (C:Addr):Prop where
 pg:PySem.W.plainGet K C Str.empty=true
 hd:PySem.W.hasDictIn K C=true
 po:PySem.W.plainOver K C=true
 sa:PySem.W.findIn K (.ref C) "__setattr__"=some (some (.builtin "object.__setattr__"))
theorem Cls.get {K:PySem.W.Frag} {C:Addr} (c:Cls K C) (f:Str):PySem.W.plainGet K C f=true:=c.pg
structure Con (K:PySem.W.Frag) (C:Addr) (f:Str) (v:V) (u:Value):Prop where
 at_:PySem.W.findIn K (.ref C) f=some (some u)
 rel:RelV v u
 get:PySem.W.specialIn K u "__get__"=some none
 cp:PySem.W.copiedNames.contains f=false
structure Meth (K:PySem.W.Frag) (C:Addr) (m:Str) (f:Addr):Prop where
 at_:PySem.W.findIn K (.ref C) m=some (some (.ref f))
 fn:PySem.W.isFn K (.ref f)=true
 kp:PySem.W.keepIn K (.ref f)=true
section
variable {X:Cx} {pins:List (Addr×Obj)} {σ:St} {H:Hp} {s:Shared} {a C dx:Addr} {fs:List (Str×V)} {f:Str} {v:V} {A:Around} {E:Value→Shared→Prop}
theorem Inv.made (I:Inv X pins σ H s):Inv X pins σ (upd (upd H s.heap.objs.size (.own (s.heap.objs.size + 1))) (s.heap.objs.size + 1) (.ins C s.heap.objs.size []))
  { s with heap:=(s.heap.push PySem.W.emptyDict).push (PySem.W.instObj C s.heap.objs.size) }:=by
 have e1:(s.heap.push PySem.W.emptyDict).get? s.heap.objs.size=some PySem.W.emptyDict:=Heap.get?_push_size s.heap rfl
 have e2:((s.heap.push PySem.W.emptyDict).push (PySem.W.instObj C s.heap.objs.size)).get? (s.heap.objs.size + 1)=some (PySem.W.instObj C s.heap.objs.size):=by
  have:=Heap.get?_push_size (s.heap.push PySem.W.emptyDict) (o:=PySem.W.instObj C s.heap.objs.size) rfl
  rwa [Heap.size_push] at this
 have e3:(s.heap.push PySem.W.emptyDict).Ns s.heap.objs.size (fun _=>none):=⟨PySem.W.emptyDict,#[],_,e1,rfl,(fun e he=>absurd he (by simp)),fun _=>rfl⟩
 have I1:=I.laid (a:=s.heap.objs.size) (o:=.own (s.heap.objs.size + 1)) (h':=s.heap.push PySem.W.emptyDict) (t':=s.toks) (fun b u q=>Heap.get?_push_of_some _ q) (Nat.le_refl _) ⟨_,e1⟩
 refine I1.laid (a:=s.heap.objs.size + 1) (o:=.ins C s.heap.objs.size []) (t':=s.toks) (fun b u q=>Heap.get?_push_of_some _ q) (Nat.le_of_eq (Heap.size_push _ _)) ?_
 have ne:s.heap.objs.size≠s.heap.objs.size + 1:=Nat.ne_of_lt (Nat.lt_succ_self _)
 refine ⟨by rw [upd_ne ne,upd_same],Nat.zero_le _,ne,e2,fun _=>none,(Heap.Ns1.of_empty e3).at fun o q=>Heap.get?_push_of_some _ q,fun _=>True.intro,fun y hy=>absurd rfl hy⟩
end
section
variable {X:Cx} {o e value:Expr} {f:Str} {pos pos' tpos:Pos} {ta tv:TE}
end
section
variable {X:Cx} {pins:List (Addr×Obj)} {σ:St} {H:Hp} {s:Shared} {A:Around} {E:Value→Shared→Prop} {Q:Value→Shared→Prop} {c:Value} {b:Bool}
inductive TyOf (K:PySem.W.Frag) (H:Hp):V→Value→Prop where
 | non:TyOf K H .non (.type "NoneType")
 | bl (x:Bool):TyOf K H (.bl x) (.type "bool")
 | int (i:Int):TyOf K H (.int i) (.type "int")
 | str (x:Str):TyOf K H (.str x) (.type "str")
 | flt (x:UInt64):TyOf K H (.flt x) (.type "float")
 | lst {a:Addr} {xs:List V} (e:H a=some (.lst xs)):TyOf K H (.ref a) (.type "list")
 | frz {a:Addr} {o:Obj} {xs:List V} (e:H a=some (.frz o (.lst xs))):TyOf K H (.ref a) (.type "list")
 | tup {a:Addr} {xs:List V} (e:H a=some (.tup xs)):TyOf K H (.ref a) (.type "tuple")
 | dK {a:Addr} {kvs:List (Key×V)} (e:H a=some (.dK kvs)):TyOf K H (.ref a) (.type "dict")
 | dT {a:Addr} {kvs:List (List Key×V)} (e:H a=some (.dT kvs)):TyOf K H (.ref a) (.type "dict")
 | ins {a C dx:Addr} {fs:List (Str×V)} (e:H a=some (.ins C dx fs)) (cl:Cls K C) (ha:PySem.W.findIn K (.ref C) "__class__"=some (some (.builtin "object.__class__")))
   (hn:PySem.W.specialIn K (.builtin "object.__class__") "__get__"=some (some (.builtin "getset_descriptor.__get__"))) (htk:PySem.W.takesIn K (.builtin "object.__class__")=some true)
   (hm:PySem.W.mroIn K C (.type "object")=some true):TyOf K H (.ref a) (.ref C)
theorem isinst_ok {x:V} {u t:Value} (I:Inv X pins σ H s) (rx:RelV x u) (ty:TyOf X.K H x t) (e:PySem.W.kitOne X.K t c=some b) (h:∀ tk,Q (.bool b) { s with toks:=tk }):
  wpAny (model X.prog X.w) A (call (.builtin "isinstance") [u,c]) Q E s:=by
 cases ty with
 | non=>cases (show u=Value.none from rx);exact PySem.W.kia_one PySem.W.kitx_none I.kIn True.intro e (fun z=>nomatch z) h
 | bl y=>cases (show u=Value.bool y from rx);exact PySem.W.kia_one PySem.W.kitx_bool I.kIn True.intro e (fun z=>nomatch z) h
 | int i=>obtain ⟨t,q⟩:=(show ∃ t,u=Value.int i t from rx);cases q;exact PySem.W.kia_one PySem.W.kitx_int I.kIn True.intro e (fun z=>nomatch z) h
 | str y=>obtain ⟨t,q⟩:=(show ∃ t,u=Value.str y t from rx);cases q;exact PySem.W.kia_one PySem.W.kitx_str I.kIn True.intro e (fun z=>nomatch z) h
 | flt y=>obtain ⟨t,q⟩:=(show ∃ t,u=Value.float y t from rx);cases q;exact PySem.W.kia_one PySem.W.kitx_float I.kIn True.intro e (fun z=>nomatch z) h
 | @lst a xs ea=>
  cases (show u=Value.ref a from rx)
  obtain ⟨_,_,n,_,h1⟩:=(show ObjOk X.prog X.w H s.heap a (.lst xs) from I.hok a _ ea)
  exact PySem.W.kia_one PySem.W.kitx_list I.kIn ⟨_,h1,rfl⟩ e (fun z=>nomatch z) h
 | @frz a ob xs ea=>
  cases (show u=Value.ref a from rx)
  obtain ⟨_,_,_,n,_,h1⟩:=(show ObjOk X.prog X.w H s.heap a (.frz ob (.lst xs)) from I.hok a _ ea)
  exact PySem.W.kia_one PySem.W.kitx_list I.kIn ⟨_,h1,rfl⟩ e (fun z=>nomatch z) h
 | @tup a xs ea=>
  cases (show u=Value.ref a from rx)
  obtain ⟨_,_,_,p⟩:=(show ObjOk X.prog X.w H s.heap a (.tup xs) from I.hok a _ ea)
  obtain ⟨o,h1,h2,_⟩:=p.1
  exact PySem.W.kia_one PySem.W.kitx_tuple I.kIn ⟨o,h1,h2⟩ e (fun z=>nomatch z) h
 | @dK a kvs ea=>
  cases (show u=Value.ref a from rx)
  obtain ⟨_,_,vs,_,p⟩:=(show ObjOk X.prog X.w H s.heap a (.dK kvs) from I.hok a _ ea)
  obtain ⟨o,es,ep,h1,h2,_⟩:=p
  exact PySem.W.kia_one PySem.W.kitx_dict I.kIn ⟨o,h1,h2.1⟩ e (fun z=>nomatch z) h
 | @dT a kvs ea=>
  cases (show u=Value.ref a from rx)
  obtain ⟨_,_,xs,_,o,es,ep,h1,h2,_⟩:=(show ObjOk X.prog X.w H s.heap a (.dT kvs) from I.hok a _ ea)
  exact PySem.W.kia_one PySem.W.kitx_dict I.kIn ⟨o,h1,h2.1⟩ e (fun z=>nomatch z) h
 | @ins a C dx fs ea cl ha hn htk hm=>
  cases (show u=Value.ref a from rx)
  obtain ⟨mA,O,_⟩:=ins_get I.hok ea
  obtain ⟨od,J,_⟩:=O.look
  exact PySem.W.kia_one (PySem.W.kitx_own (cl.get _) cl.hd ha hn htk hm) I.kIn J e (fun z=>nomatch z) h
end
end L2
namespace L2
open PySem PySem.Spec PyProof.Rows
structure Room (k:Nat) (A:Around):Prop where
 hd:A.handled=none
 dp:A.depth + 3 * k + 5 < recursionLimit
 un:A.units + 16 * k + 200 < cLine
theorem Room.mono {j k:Nat} {A:Around} (r:Room k A) (h:j≤k):Room j A:=⟨r.hd,by have:=r.dp;omega,by have:=r.un;omega⟩
theorem Room.deeper {k:Nat} {A:Around} (r:Room (k + 1) A) (env:Env):Room k (A.deeper env):=
 ⟨r.hd,by have:=r.dp;show A.depth + 1 + 3 * k + 5 < _;omega,by have:=r.un;show A.units + 3 + 16 * k + 200 < _;omega⟩
theorem Room.in1 {k:Nat} {A:Around} (r:Room (k + 1) A):Room k A.in1:=
 ⟨r.hd,by have:=r.dp;show A.depth + 3 * k + 5 < _;omega,by have:=r.un;show A.units + 1 + 16 * k + 200 < _;omega⟩
theorem Room.depth {k:Nat} {A:Around} (r:Room k A):A.depth < recursionLimit:=by have:=r.dp;omega
theorem Room.units {k:Nat} {A:Around} (r:Room k A):A.units + 64 < cLine:=by have:=r.un;omega
theorem Room.units0 {k:Nat} {A:Around} (r:Room k A):A.units < cLine:=by have:=r.un;omega
noncomputable def tNil:TA:=fun _ H Q=>Q [] H
noncomputable def tCons (ta:TE) (tr:TA):TA:=fun σ H Q=>ta σ H fun x H1=>tr σ H1 fun xs H2=>Q (x::xs) H2
section
variable {X:Cx} {e:Expr} {es:List Expr} {te:TE} {t:TA} {pos:Pos}
theorem pa_nil:PA X [] tNil:=fun _ _ _ _ H Q I h=>Calls.spliced_nil ⟨[],H,I,.nil,h⟩
theorem pa_cons (ha:PE X e te) (hr:PA X es t) (hs:starEach (e::es) X.env=(false,eval e X.env)::starEach es X.env:=by rfl):PA X (e::es) (tCons te t):=by
 intro pos pins s σ H Q I h
 rw [hs]
 show wpAny _ _ (spliced ((false,eval e X.env)::backTo pos (starEach es X.env))) _ _ s
 refine Calls.spliced_cons (thn (ha pins s σ H _ I h) fun u s1 ⟨x,H1,I1,r1,q1⟩=>?_)
 exact thn (hr pos pins s1 σ H1 _ I1 q1) fun us s2 ⟨xs,H2,I2,r2,q2⟩=>⟨x::xs,H2,I2,.cons r1 r2,q2⟩
noncomputable def tTup (t:TA):TE:=fun σ H Q=>t σ H fun xs H1=>xs.length≤sizeLine∧∀ p,H1 p=none→Q (.ref p) (upd H1 p (.tup xs))
noncomputable def tLst (t:TA):TE:=fun σ H Q=>t σ H fun xs H1=>xs.length≤sizeLine∧∀ p,H1 p=none→Q (.ref p) (upd H1 p (.lst xs))
theorem pe_tup {x1} (h:PA X es t):PE X (.Tuple es x1 pos) (tTup t):=by
 intro pins s σ H Q I hq
 refine wpAny_Tuple_spliced (thn (h pos pins s σ H _ I hq) fun us s1 ⟨xs,H1,I1,r,z,q⟩=>⟨by rw [←r.length];exact z,?_⟩)
 have hf:H1 s1.heap.objs.size=none:=I1.hok.fresh (Nat.le_refl _)
 refine ⟨.ref s1.heap.objs.size,upd H1 s1.heap.objs.size (.tup xs),I1.laid (t':=s1.toks) (fun b u e=>Heap.get?_push_of_some _ e) (Nat.le_refl _) ?_,rfl,q _ hf⟩
 exact ⟨z,us,r,⟨_,Heap.get?_push_size _ rfl,rfl,_,rfl⟩,_,Heap.get?_push_size _ rfl,rfl⟩
theorem pe_lst (h:PA X es t):PE X (.List es pos) (tLst t):=by
 intro pins s σ H Q I hq
 refine wpAny_List_spliced (thn (h pos pins s σ H _ I hq) fun us s1 ⟨xs,H1,I1,r,z,q⟩=>⟨by rw [←r.length];exact z,?_⟩)
 have hf:H1 s1.heap.objs.size=none:=I1.hok.fresh (Nat.le_refl _)
 refine ⟨.ref s1.heap.objs.size,upd H1 s1.heap.objs.size (.lst xs),I1.laid (t':=s1.toks) (fun b u e=>Heap.get?_push_of_some _ e) (Nat.le_refl _) ?_,rfl,q _ hf⟩
 exact ⟨z,us,0,r,Heap.get?_push_size _ rfl⟩
end
noncomputable abbrev Sp:=List V→Hp→VK→XK→Prop
noncomputable abbrev CXT:=List Env→Hp→Shared→XK→Value→Shared→Prop
structure Env0 (P:Program) (w:World) (K:PySem.W.Frag) (mg:Str→Option Value) (base:Heap) (A:Around) (outer:List Env) (s:Shared) (H:Hp):Prop where
 frames:A.frames=some outer
 mod:Mod K mg base
 bs:∀ b o,base.get? b=some o→s.heap.get? b=some o∧H b=none
 bsz:base.objs.size≤s.heap.objs.size
 funs:s.heap.FunFrames base outer
 frf:∀ b∈frs outer,H b=none
 hok:HOk P w H s.heap
 bare:AllBare s.gens
noncomputable def CE (outer:List Env) (P:Program) (w:World) (H:Hp) (s:Shared) (Q:VK) (u:Value) (s':Shared):Prop:=
 ∃ v H',s'.os=s.os∧AllBare s'.gens∧Un (frs outer) [] H H' s.heap s'.heap∧HOk P w H' s'.heap∧RelV v u∧Q v H'
noncomputable def CR (CX:CXT) (outer:List Env) (P:Program) (w:World) (H:Hp) (s:Shared) (Q:VK) (E:XK) (r:Result) (s':Shared):Prop:=
 match r with
 | .ok (.ret u)=>CE outer P w H s Q u s'
 | .ok _=>False
 | .error e=>CX outer H s E e s'
structure FnOk (P:Program) (w:World) (K:PySem.W.Frag) (mg:Str→Option Value) (base:Heap) (CX:CXT) (k:Nat) (f:Addr) (fd:FuncData) (ps:List Str) (sp:Sp):Prop where
 len:∀ vs H Q E,sp vs H Q E→vs.length=ps.length
 run:∀ (A:Around) (outer:List Env) (s:Shared) (H:Hp) (args:Args) (us:List Value) (vs:List V) (Q:VK) (E:XK),Room k A→Env0 P w K mg base A outer s H→BindsTo s fd args (ps.zip us)→Vals vs us→sp vs H Q E→
  codeAny (model P w) A (.call (.ref f) args) (CR CX outer P w H s Q E) s
theorem FnOk.mono {P:Program} {w:World} {K:PySem.W.Frag} {mg:Str→Option Value} {base:Heap} {CX:CXT} {j k:Nat} {f:Addr} {fd:FuncData} {ps:List Str} {sp:Sp} (F:FnOk P w K mg base CX j f fd ps sp) (h:j≤k):
  FnOk P w K mg base CX k f fd ps sp:=⟨F.len,fun A outer s H args us vs Q E hr=>F.run A outer s H args us vs Q E (hr.mono h)⟩
theorem FnOk.imp {P:Program} {w:World} {K:PySem.W.Frag} {mg:Str→Option Value} {base:Heap} {CX:CXT} {k:Nat} {f:Addr} {fd:FuncData} {ps:List Str} {sp sp':Sp} (F:FnOk P w K mg base CX k f fd ps sp)
  (h:∀ vs H Q E,sp' vs H Q E→sp vs H Q E):FnOk P w K mg base CX k f fd ps sp':=
 ⟨fun vs H Q E q=>F.len vs H Q E (h _ _ _ _ q),fun A outer s H args us vs Q E hr he hb hv hs=>F.run A outer s H args us vs Q E hr he hb hv (h _ _ _ _ hs)⟩
theorem Env0.in1 {P:Program} {w:World} {K:PySem.W.Frag} {mg:Str→Option Value} {base:Heap} {A:Around} {outer:List Env} {s:Shared} {H:Hp} (e:Env0 P w K mg base A outer s H):
  Env0 P w K mg base A.in1 outer s H:=⟨e.frames,e.mod,e.bs,e.bsz,e.funs,e.frf,e.hok,e.bare⟩
section
variable {X:Cx} {pins:List (Addr×Obj)} {σ:St} {H:Hp} {s s':Shared}
theorem Inv.env0 (I:Inv X pins σ H s):Env0 X.prog X.w X.K X.mg X.base X.A X.stack s H:=
 ⟨I.ok.frames,I.ok.mod,I.bs,Nat.le_trans I.ok.bsz I.sz,I.stack,I.stkFree,I.hok,I.bare⟩
theorem Inv.after {Q:VK} {u:Value} (I:Inv X pins σ H s) (h:CE X.stack X.prog X.w H s Q u s'):EP X pins σ Q u s':=by
 obtain ⟨v,H',os,bare,un,hok,r,q⟩:=h
 obtain ⟨hh,g,d,t,os'⟩:=s'
 obtain rfl:os'=s.os:=os
 exact ⟨v,H',I.call (h':=hh) (g':=g) (d':=d) (t':=t) (ch:=[]) un hok bare (fun b z=>absurd z (by simp)),r,q⟩
end
noncomputable def tCall (sp:Sp) (dvs:List V) (E:XK) (t:TA):TE:=fun σ H Q=>t σ H fun vs H1=>sp (vs++dvs) H1 Q E
noncomputable def Binds (K:PySem.W.Frag) (fd:FuncData) (ps:List Str) (ds:List Value):Prop:=
 ∀ (s:Shared) (us:List Value),K.In s.heap→(us++ds).length=ps.length→BindsTo s fd ⟨us,[]⟩ (ps.zip (us++ds))
theorem Binds.all {K:PySem.W.Frag} {fd:FuncData} {ps:List Str} (h:∀ us:List Value,us.length=ps.length→bindArgs fd ⟨us,[]⟩=pure (ps.zip us)):Binds K fd ps []:=fun s us _ hl=>by
 rw [List.append_nil] at hl ⊢
 exact .of_eq (h us hl)
noncomputable def Passes (CX:CXT) (X:Cx) (E:XK):Prop:=∀ (pins:List (Addr×Obj)) (σ:St) (H:Hp) (s:Shared) (e:Value) (s':Shared),Inv X pins σ H s→CX X.stack H s E e s'→X.xe e s'
section
variable {X:Cx} {CX:CXT} {k:Nat} {f C:Addr} {fd:FuncData} {ps:List Str} {sp:Sp} {dvs:List V} {ds:List Value} {E:XK} {x m:Str} {p pos apos:Pos} {e o:Expr} {es:List Expr} {ta:TE} {t:TA}
theorem run_fn {pins:List (Addr×Obj)} {σ:St} {H:Hp} {s:Shared} {Q:VK} {us:List Value} {vs:List V} (F:FnOk X.prog X.w X.K X.mg X.base CX k f fd ps sp) (hr:Room k X.A) (hb:Binds X.K fd ps ds) (hd:Vals dvs ds) (hx:Passes CX X E)
  (I:Inv X pins σ H s) (r:Vals vs us) (h:sp (vs++dvs) H Q E):wpAny (model X.prog X.w) X.A (call (.ref f) us) (EP X pins σ Q) X.xe s:=by
 have r2:Vals (vs++dvs) (us++ds):=r.append hd
 have hl:(us++ds).length=ps.length:=by rw [←r2.length];exact F.len _ _ _ _ h
 refine wpAny_call (codeAny_mono (F.run X.A X.stack s H ⟨us,[]⟩ (us++ds) (vs++dvs) Q E hr I.env0 (hb s us I.kIn hl) r2 h) fun r s' hq=>?_)
 cases r with
 | error e=>exact hx pins σ H s e s' I hq
 | ok fl=>
  cases fl with
  | ret u=>exact I.after hq
  | next=>exact False.elim hq
  | brk=>exact False.elim hq
  | cont=>exact False.elim hq
theorem pe_call (F:FnOk X.prog X.w X.K X.mg X.base CX k f fd ps sp) (hr:Room k X.A) (hg:Gl X x) (hm:X.mg x=some (.ref f)) (hk:PySem.W.keepIn X.K (.ref f)=true) (hb:Binds X.K fd ps ds) (hd:Vals dvs ds) (hx:Passes CX X E)
  (ha:PA X (e::es) t) (hdb:(x==("__debug__":Str))=false:=by decide) (he:starEach (e::es) X.env=(false,eval e X.env)::starEach es X.env:=by rfl) (hpl:(backTo pos (starEach es X.env)).any (·.1)=false:=by rfl):
  PE X (.Call (.Name x p) (e::es) [] pos) (tCall sp dvs E t):=by
 intro pins s σ H Q I h
 refine wpAny_Call_Name_kw (ld_glob I hg hm ?_ hdb)
 refine PySem.W.callWith_K (h₀:=X.base) I.ok.mod.kin hk (thn (ha pos pins s σ H _ I h) fun us s1 ⟨vs,H1,I1,r,q⟩=>⟨I1.kIn,?_⟩) he hpl
 exact run_fn F hr hb hd hx I1 r q
structure Mk (K:PySem.W.Frag) (C f:Addr):Prop where
 makes:PySem.W.makesIn K C=true
 init:PySem.W.findIn K (.ref C) "__init__"=some (some (.ref f))
 fn:PySem.W.isFn K (.ref f)=true
 kp:PySem.W.keepIn K (.ref C)=true
end
section
variable {X:Cx} {CX:CXT} {k:Nat} {f C:Addr} {fd:FuncData} {ps ks:List Str} {sp:Sp} {E:XK} {x m:Str} {p pos apos kpos:Pos} {e o:Expr} {es:List Expr} {kws:List Keyword} {te ta:TE} {t tk:TA} {nm:Option Str}
structure KBinds (K:PySem.W.Frag) (fd:FuncData) (ps ks:List Str) (g:List Value→List Value→List Value) (gV:List V→List V→List V):Prop where
 to:∀ (s:Shared) (us ws:List Value),K.In s.heap→(g us ws).length=ps.length→BindsTo s fd ⟨us,ks.zip ws⟩ (ps.zip (g us ws))
 rel:∀ {vs:List V} {us:List Value} {zs:List V} {ws:List Value},Vals vs us→Vals zs ws→Vals (gV vs zs) (g us ws)
variable {g:List Value→List Value→List Value} {gV:List V→List V→List V}
end
structure FnScope (N P:List Str) (sc:Scope):Prop where
 kind:sc.kind=.function
 co:sc.isCoroutine=false
 gen:sc.isGenerator=false
 nd:N.Nodup
 pre:N.take P.length=P
 par:∀ x∈P,sc.names.lookup x=some .local∨sc.names.lookup x=some .cell
 nofree:∀ y∈sc.names,y.2≠.free
theorem bindL_out {kindOf:Str→Option NameKind} {x:Str}:∀ {binds:List (Str×Value)} {m:Str→Option Value},(∀ v,(x,v)∉binds)→bindL kindOf binds m x=m x
 | [],_,_=>rfl
 | (n,v)::r,m,h=>by
  unfold bindL
  rw [bindL_out fun w hw=>h w (List.mem_cons_of_mem _ hw)]
  split
  ·have:x≠n:=by rintro rfl;exact h v List.mem_cons_self
   simp [this]
  ·rfl
theorem bindC_out {kindOf:Str→Option NameKind} {x:Str}:∀ {binds:List (Str×Value)} {m:Str→Option Value},(∀ v,(x,v)∉binds)→bindC kindOf binds m x=m x
 | [],_,_=>rfl
 | (n,v)::r,m,h=>by
  unfold bindC
  rw [bindC_out fun w hw=>h w (List.mem_cons_of_mem _ hw)]
  split
  ·rfl
  ·have:x≠n:=by rintro rfl;exact h v List.mem_cons_self
   simp [this]
theorem bindL_get {kindOf:Str→Option NameKind} {x:Str} {v:Value}:∀ {P:List Str} {vs:List Value} {i:Nat} {m:Str→Option Value},P.Nodup→P[i]? =some x→vs[i]? =some v→kindOf x=some .local→
  bindL kindOf (P.zip vs) m x=some v
 | [],_,_,_,_,h,_,_=>by simp at h
 | _::_,[],_,_,_,_,h,_=>by simp at h
 | p::P,w::vs,0,m,nd,h1,h2,hk=>by
  simp at h1 h2;subst h1;subst h2
  show bindL kindOf ((p,w)::P.zip vs) m p=_
  unfold bindL
  rw [bindL_out fun v hv=>(List.nodup_cons.mp nd).1 (List.of_mem_zip hv).1,if_pos hk]
  simp
 | p::P,w::vs,i + 1,m,nd,h1,h2,hk=>by
  show bindL kindOf ((p,w)::P.zip vs) m x=_
  unfold bindL
  exact bindL_get (i:=i) (List.nodup_cons.mp nd).2 (by simpa using h1) (by simpa using h2) hk
theorem bindC_get {kindOf:Str→Option NameKind} {x:Str} {v:Value}:∀ {P:List Str} {vs:List Value} {i:Nat} {m:Str→Option Value},P.Nodup→P[i]? =some x→vs[i]? =some v→kindOf x≠some .local→
  bindC kindOf (P.zip vs) m x=some v
 | [],_,_,_,_,h,_,_=>by simp at h
 | _::_,[],_,_,_,_,h,_=>by simp at h
 | p::P,w::vs,0,m,nd,h1,h2,hk=>by
  simp at h1 h2;subst h1;subst h2
  show bindC kindOf ((p,w)::P.zip vs) m p=_
  unfold bindC
  rw [bindC_out fun v hv=>(List.nodup_cons.mp nd).1 (List.of_mem_zip hv).1,if_neg hk]
  simp
 | p::P,w::vs,i + 1,m,nd,h1,h2,hk=>by
  show bindC kindOf ((p,w)::P.zip vs) m x=_
  unfold bindC
  exact bindC_get (i:=i) (List.nodup_cons.mp nd).2 (by simpa using h1) (by simpa using h2) hk
noncomputable def start (N:List Str) (vs:List V):St:=vs.map some++List.replicate (N.length - vs.length) none
noncomputable def cxOf (CX:CXT) (P:Program) (w:World) (K:PySem.W.Frag) (mg:Str→Option Value) (base:Heap) (N:List Str) (qual:Str) (scope:Scope) (f:Addr) (cd:Value) (A:Around) (outer:List Env) (s:Shared) (H:Hp) (E:XK):Cx where
 prog:=P
 w:=w
 K:=K
 mg:=mg
 base:=base
 A:=A.deeper (envOfC qual scope s.heap.objs.size f cd)
 N:=N
 s₀:=s
 H₀:=H
 env:=envOfC qual scope s.heap.objs.size f cd
 outer:=outer
 stack:=envOfC qual scope s.heap.objs.size f cd::outer
 ex:=[]
 calm:=true
 fn:=fun _=>true
 pn:=[]
 xe:=fun e s'=>wpAny (model P w) (A.deeper (envOfC qual scope s.heap.objs.size f cd)) (leaving (envOfC qual scope s.heap.objs.size f cd) e) (fun _ s''=>CX outer H s E e s'') (fun e' s''=>CX outer H s E e' s'') s'
theorem cell_has {sc:Scope} {n:Nat} {x:Str} (h:sc.names.lookup x=some .cell):∃ c,(cellsFrom n sc.names []).lookup x=some c:=by
 have q:=PySem.W.cellsFrom_some sc.names n [] (.inl h)
 exact Option.isSome_iff_exists.mp q
theorem inv_start {CX:CXT} {P:Program} {w:World} {K:PySem.W.Frag} {mg:Str→Option Value} {base:Heap} {N ps:List Str} {qual:Str} {scope:Scope} {f:Addr} {cd:Value} {A:Around} {outer:List Env} {s s1:Shared} {H:Hp} {E:XK} {us:List Value} {vs:List V}
  (S:FnScope N ps scope) (hd:A.handled=none) (e0:Env0 P w K mg base A outer s H) (hl:vs.length=ps.length) (r:Vals vs us)
  (x:InCallC s s.heap.objs.size (bindL (envOfC qual scope s.heap.objs.size f cd).kindOf (ps.zip us) fun _=>none) (cellsFrom (s.heap.objs.size + 1) scope.names []) (bindC (envOfC qual scope s.heap.objs.size f cd).kindOf (ps.zip us) fun _=>none) s1):
  Inv (cxOf CX P w K mg base N qual scope f cd A outer s H E) [] (start N vs) H s1:=by
 have hpl:ps.length≤N.length:=by have:=congrArg List.length S.pre;rw [List.length_take] at this;omega
 obtain ⟨h1,tk,rfl,hk⟩:=x.done
 have noA:∀ b:Addr,b∉(cxOf CX P w K mg base N qual scope f cd A outer s H E).ex:=fun b z=>absurd (show b∈([]:List Addr) from z) (by simp)
 refine ⟨⟨e0.mod,S.kind,rfl,rfl,Nat.le_refl _,fun y z c h1 h2=>?_,fun y hy=>?_,fun y c _ h=>?_,fun _=>hd,Around.frames_deeper e0.frames,.inr ⟨rfl,rfl⟩,fun b z=>absurd z (noA b),e0.bs,e0.bsz,fun b _ _=>noA b,fun b z=>absurd z (noA b),e0.funs,e0.frf⟩,
  rfl,e0.bare,Un.kept hk,⟨_,x.toInCall.ns,fun i y v h1 h2 h3=>?_⟩,fun y c h=>⟨_,x.cell y c h⟩,e0.hok.fresh (Nat.le_refl _),fun y c h=>?_,fun p hp=>absurd (show p∈([]:List (Addr×Obj)) from hp) (by simp),e0.hok.kept hk,?_⟩
 ·exact name_of_addr x.apart (PySem.mem_of_lookup h1) (PySem.mem_of_lookup h2)
 ·have hy:scope.names.lookup y=some .cell∨scope.names.lookup y=some .free:=hy
  rcases hy with hy | hy
  ·exact cell_has hy
  ·exact absurd rfl (S.nofree _ (PySem.mem_of_lookup hy))
 ·exact Nat.le_of_lt (x.above y c (PySem.mem_of_lookup h))
 ·have hi:i < vs.length:=by
   unfold start at h2
   by_cases hi:i < vs.length
   ·exact hi
   ·rw [List.getElem?_append_right (by simpa using hi)] at h2
    rw [List.getElem?_replicate] at h2
    split at h2 <;> cases h2
  have ha:vs[i]? =some v:=by
   unfold start at h2
   rw [List.getElem?_append_left (by simpa using hi),List.getElem?_map] at h2
   cases e:vs[i]? with
   | none=>rw [e] at h2;cases h2
   | some a=>rw [e] at h2;cases h2;rfl
  obtain ⟨u,hu,rv⟩:=r.get ha
  have hp:ps[i]? =some y:=by
   rw [←S.pre,List.getElem?_take_of_lt (by omega)];exact h1
  have ndP:ps.Nodup:=by rw [←S.pre];exact S.nd.sublist (List.take_sublist _ _)
  refine ⟨u,rv,?_⟩
  rcases S.par y (List.mem_of_getElem? hp) with k | k
  ·exact .inl ⟨k,bindL_get ndP hp hu k⟩
  ·obtain ⟨c,e⟩:=cell_has (n:=s.heap.objs.size + 1) k
   refine .inr ⟨.inl k,c,e,?_⟩
   have q:=x.cell y c e
   rw [bindC_get ndP hp hu (by show scope.names.lookup y≠_;rw [k];decide)] at q
   exact q
 ·exact e0.hok.fresh (Nat.le_of_lt (x.above y c (PySem.mem_of_lookup h)))
 ·unfold start
  show _=N.length
  rw [List.length_append,List.length_map,List.length_replicate]
  omega
theorem fn_of {CX:CXT} {P:Program} {w:World} {K:PySem.W.Frag} {mg:Str→Option Value} {base:Heap} {k:Nat} {f:Addr} {name qual:Str} {params:Arguments} {body:List Stmt} {scope:Scope} {dV kV doc pm cdv ct oc:Value} {an od:Option Addr}
  {osl:Array (Option Value)} {N ps:List Str} {sp:Sp} (lk:K.lookup f=some ⟨oc,od,.func (PySem.W.fnOf name qual params body scope dV kV doc pm an cdv ct),osl⟩) (hcd:PySem.W.codeIn K cdv qual=true) (S:FnScope N ps scope)
  (len:∀ vs H Q E,sp vs H Q E→vs.length=ps.length)
  (hbody:∀ (A:Around) (outer:List Env) (s:Shared) (H:Hp) (vs:List V) (Q:VK) (E:XK),Room k (A.deeper (envOfC qual scope s.heap.objs.size f cdv))→sp vs H Q E→
   ∃ t,PSs (cxOf CX P w K mg base N qual scope f cdv A outer s H E) body t∧t { nx:=fun _ H'=>Q .non H',rt:=Q } (start N vs) H):
  FnOk P w K mg base CX (k + 1) f (PySem.W.fnOf name qual params body scope dV kV doc pm an cdv ct) ps sp:=by
 refine ⟨len,fun A outer s H args us vs Q E hr e0 hb r hsp=>?_⟩
 have hl:=len _ _ _ _ hsp
 have KX:K.In s.heap:=e0.mod.kin.keeps fun b o e=>(e0.bs b o e).1
 have lim:s.heap.NoLimit:=e0.mod.nolimit.keeps fun b o e=>(e0.bs b o e).1
 have hkind:∀ y∈ps.zip us,scope.names.lookup y.1=some .local∨(scope.names.lookup y.1=some .cell∧((cellsFrom (s.heap.objs.size + 1) scope.names []).lookup y.1).isSome=true):=fun ⟨n,v⟩ hy=>by
  rcases S.par n (List.of_mem_zip hy).1 with q | q
  ·exact .inl q
  ·exact .inr ⟨q,PySem.W.cellsFrom_some _ _ _ (.inl q)⟩
 refine codeAny_call_function hr.depth (KX _ _ lk) rfl S.co S.gen rfl (PySem.W.codeRec_of KX hcd) (hb _ _ _ _ ?_)
 refine wpAny_newFunctionEnv_cells S.kind hkind fun env he s1 x=>?_
 subst he
 refine ⟨lim.keeps x.toInCall.keep,codeAny_func ?_⟩
 obtain ⟨t,ht,hq⟩:=hbody A outer s H vs Q E (hr.deeper _) hsp
 have I:Inv (cxOf CX P w K mg base N qual scope f cdv A outer s H E) [] (start N vs) H s1:=inv_start S hr.hd e0 hl r x
 refine wpAny_mono (ht [] s1 (start N vs) H _ I hq) (fun fl s' hs=>?_) fun e s' hs=>hs
 have fin:∀ {σ':St} {H':Hp} {v:V} {u:Value},Inv (cxOf CX P w K mg base N qual scope f cdv A outer s H E) [] σ' H' s'→RelV v u→Q v H'→CE outer P w H s Q u s':=
  fun {σ' H' v u} J rv q=>⟨v,H',J.os,J.bare,J.base,J.hok,rv,q⟩
 cases fl with
 | ret u=>
  obtain ⟨v,σ',H',J,rv,q⟩:=hs
  exact fin J rv q
 | next=>
  obtain ⟨σ',H',J,q⟩:=hs
  exact fin (v:=V.non) (u:=Value.none) J rfl q
 | brk=>
  obtain ⟨_,_,_,q⟩:=hs
  exact False.elim q
 | cont=>
  obtain ⟨_,_,_,q⟩:=hs
  exact False.elim q
end L2
namespace L2
open PySem PySem.Spec PyProof.Rows
section
variable {X:Cx} {x:Str} {p pos:Pos} {e:Expr} {es:List Expr} {t:TA} {id T:String} {r:List V→Hp→VK→Prop}
noncomputable def tCB (r:List V→Hp→VK→Prop) (t:TA):TE:=fun σ H Q=>t σ H fun vs H1=>r vs H1 Q
theorem pe_callB (hc:CallR X (.builtin id) r) (hg:Gl X x) (hm:X.mg x=none) (hv:bootBuiltins x=some (.builtin id)) (ha:PA X (e::es) t) (hn:x≠"__name__":=by decide) (hdb:(x==("__debug__":Str))=false:=by decide)
  (he:starEach (e::es) X.env=(false,eval e X.env)::starEach es X.env:=by rfl) (hpl:(backTo pos (starEach es X.env)).any (·.1)=false:=by rfl):PE X (.Call (.Name x p) (e::es) [] pos) (tCB r t):=by
 intro pins s σ H Q I h
 refine wpAny_Call_Name_kw (ld_blt I hg hm hv ?_ hn hdb)
 exact PyProof.Rows.callWith_builtin1 (thn (ha pos pins s σ H _ I h) fun us s1 ⟨vs,H1,I1,r1,q1⟩=>hc pins s1 σ H1 vs us Q I1 r1 q1) he hpl
theorem pe_callTy (hc:CallR X (.type T) r) (hg:Gl X x) (hm:X.mg x=none) (hv:bootBuiltins x=some (.type T)) (ha:PA X (e::es) t) (hn:x≠"__name__":=by decide) (hdb:(x==("__debug__":Str))=false:=by decide)
  (he:starEach (e::es) X.env=(false,eval e X.env)::starEach es X.env:=by rfl) (hpl:(backTo pos (starEach es X.env)).any (·.1)=false:=by rfl):PE X (.Call (.Name x p) (e::es) [] pos) (tCB r t):=by
 intro pins s σ H Q I h
 refine wpAny_Call_Name_kw (ld_blt I hg hm hv ?_ hn hdb)
 exact PyProof.Rows.callWith_type1 (thn (ha pos pins s σ H _ I h) fun us s1 ⟨vs,H1,I1,r1,q1⟩=>hc pins s1 σ H1 vs us Q I1 r1 q1) he hpl
end
end L2
namespace HT
open PySem PyProof.Rows
noncomputable def lexLt:List Int→List Int→Bool
 | [],[]=>false
 | [],_::_=>true
 | _::_,[]=>false
 | x::xs,y::ys=>if x=y then lexLt xs ys else decide (x < y)
theorem lexLt_cons (x y:Int) (xs ys:List Int):lexLt (x::xs) (y::ys)=if x=y then lexLt xs ys else decide (x < y):=rfl
theorem lexLt_nil_nil:lexLt [] []=false:=rfl
theorem lexLt_nil_cons (y:Int) (ys:List Int):lexLt [] (y::ys)=true:=rfl
theorem lexLt_cons_nil (x:Int) (xs:List Int):lexLt (x::xs) []=false:=rfl
theorem eqAt_int (A:Around) (s:Shared) (a:Int) (t:Tok) (c:Int) (u:Tok):∃ e,SeqAt.EqAt A s (.int a t) (.int c u) e∧(e=true↔a=c):=
 ⟨(a==c),SeqAt.EqAt.int_int a t c u,by simp⟩
theorem rcLt_int (A:Around) (s:Shared) (a:Int) (t:Tok) (c:Int) (u:Tok) (prog:Program) (w:World) (E:Value→Shared→Prop) (Q:Value→Shared→Prop) (h:Q (.bool (decide (a < c))) s):
  wpAny (model prog w) A (richCompare .Lt (.int a t) (.int c u)) Q E s:=
 (PyProof.Rows.lt_int h:wpAny (model prog w) A (compareOp .Lt (.int a t) (.int c u)) Q E s)
section
open PySem.SeqAt
open PySem.AutoSeq1 (wpAny_loadPart')
open PySem.MeetsSeq PySem.MeetsSeq2 PySem.MeetsSeq3
theorem tuple_lt_ints (l b:Addr) (items items2:Array Value) (n n2:Nat) (dd dd2:Option Addr) (sl sl2:Array (Option Value)) (ns ms:List Int) (hi:IntsAre items.toList ns) (hj:IntsAre items2.toList ms):
  Meets (Builtin.«tuple.__lt__» ⟨[.ref l,.ref b],[]⟩)
   (fun _ R s=>s.heap.get? l=some { cls:=.type "tuple",dict:=dd,data:=.seq items n,slots:=sl }∧s.heap.get? b=some { cls:=.type "tuple",dict:=dd2,data:=.seq items2 n2,slots:=sl2 }∧
    R (.ok (.ret (.bool (lexLt ns ms)))) s):=
 .of_wp fun prog w A R s h=>by
  obtain ⟨hp,g,d,tk,os⟩:=s;obtain ⟨hl,hb,h⟩:=h
  have f2:=AutoSeq1.sub_tuple_tuple
  have z1:items.size=ns.length:=by rw [←hi.length];simp
  have z2:items2.size=ms.length:=by rw [←hj.length];simp
  wp_walk using wpAny_loadPart' hl,wpAny_loadPart' hb,wpAny_forIn_list _ (fun rest b s'=>b.1=none∧s'=⟨hp,g,d,tk,os⟩∧∃ (vs ws:List Value) (ns' ms':List Int),rest=vs.zip ws∧
   IntsAre vs ns'∧IntsAre ws ms'∧ns'.length + items2.size=ms'.length + items.size∧R (.ok (.ret (.bool (lexLt ns' ms')))) ⟨hp,g,d,tk,os⟩) _
  case turn=>
   rintro ⟨y,x⟩ rest b s' ⟨hb',rfl,vs,ws,ns',ms',hz,hvi,hwi,hlen,hR⟩
   cases hvi with
   | nil=>rw [List.zip_nil_left] at hz;cases hz
   | cons a t hvi'=>
    cases hwi with
    | nil=>rw [List.zip_nil_right] at hz;cases hz
    | cons c u hwi'=>
     rw [List.zip_cons_cons] at hz
     injection hz with hyx hrest
     injection hyx with hy hx
     subst hy hx
     rw [lexLt_cons] at hR
     simp only [List.length_cons] at hlen
     obtain ⟨e,he,hiff⟩:=eqAt_int A.in1 ⟨hp,g,d,tk,os⟩ a t c u
     refine wpAny_bind (he prog w _ _ ?_)
     cases e with
     | true=>
      rw [if_pos (hiff.mp rfl)] at hR
      wp_walk
      exact ⟨rfl,rfl,_,_,_,_,hrest,hvi',hwi',by omega,hR⟩
     | false=>
      rw [if_neg (fun q=>absurd (hiff.mpr q) Bool.false_ne_true)] at hR
      have hri:=rcLt_int A.in1 ⟨hp,g,d,tk,os⟩ a t c u prog w
      wp_walk using hri
      exact ⟨_,rfl,by simpa using hR⟩
  case fin=>
   rintro ⟨b1,b2⟩ s' ⟨hb',rfl,vs,ws,ns',ms',hz,hvi,hwi,hlen,hR⟩
   simp only at hb'
   subst hb'
   have hv:lexLt ns' ms'=decide (items.size < items2.size):=by
    cases hvi with
    | nil=>
     cases hwi with
     | nil=>
      simp only [List.length_nil] at hlen
      rw [lexLt_nil_nil]
      exact (decide_eq_false (by omega)).symm
     | cons c u hw=>
      simp only [List.length_nil,List.length_cons] at hlen
      rw [lexLt_nil_cons]
      exact (decide_eq_true (by omega)).symm
    | cons a t hv=>
     cases hwi with
     | nil=>
      simp only [List.length_nil,List.length_cons] at hlen
      rw [lexLt_cons_nil]
      exact (decide_eq_false (by omega)).symm
     | cons c u hw=>
      rw [List.zip_cons_cons] at hz
      cases hz
   rw [hv] at hR
   wp_walk
   exact ⟨_,rfl,by simpa [Builtin.Tuple.tupleCompareSizes] using hR⟩
  case h=>
   exact ⟨rfl,rfl,items.toList,items2.toList,ns,ms,rfl,hi,hj,by omega,h⟩
end
section
variable {prog:Program} {w:World} {A:Around} {E:Value→Shared→Prop} {s:Shared}
theorem lt_tupInts {l b:Addr} {items items2:Array Value} {ns ms:List Int} {Q:Value→Shared→Prop} (hl:IsTup s.heap l items) (hb:IsTup s.heap b items2) (hi:IntsAre items.toList ns) (hj:IntsAre items2.toList ms)
  (hu:A.units < cLine) (h:Q (.bool (lexLt ns ms)) s):wpAny (model prog w) A (compareOp .Lt (.ref l) (.ref b)) Q E s:=by
 obtain ⟨⟨cls,dd,data,sl⟩,ho,hc,n,hd⟩:=id hl
 obtain ⟨⟨cls2,dd2,data2,sl2⟩,ho2,hc2,n2,hd2⟩:=id hb
 simp only at hc hd hc2 hd2
 subst hc hd hc2 hd2
 exact richCompare_meets_room (op:=.Lt) ⟨_,ho,rfl⟩ ⟨_,ho2,rfl⟩ PySem.F.slot_tuple_lt PySem.F.entry_tuple_lt (PySem.F.args_tuple_lt_2 _ _) (tuple_lt_ints l b items items2 n n2 dd dd2 sl sl2 ns ms hi hj)
  ⟨ho,ho2,show Value.bool (lexLt ns ms)≠Value.notImplemented∧Q (.bool (lexLt ns ms)) s from ⟨(fun x=>nomatch x),h⟩⟩ hu
theorem cat_tup {t b:Addr} {vs ws:List Value} {Q:Value→Shared→Prop} (ht:IsTup s.heap t vs.toArray) (hb:IsTup s.heap b ws.toArray) (hv:vs≠[])
  (h1:ws=[]→Q (.ref t) s) (h2:ws≠[]→Q (.ref s.heap.objs.size) { s with heap:=s.heap.push { cls:=.type "tuple",data:=.seq (vs++ws).toArray } })
  (hsz:vs.length + ws.length≤sizeLine):wpAny (model prog w) A (binaryOp .Add (.ref t) (.ref b)) Q E s:=by
 obtain ⟨⟨cls,dd,data,sl⟩,ho,hc,n,hd⟩:=id ht
 obtain ⟨⟨cls2,dd2,data2,sl2⟩,ho2,hc2,n2,hd2⟩:=id hb
 simp only at hc hd hc2 hd2
 subst hc hd hc2 hd2
 have e:vs.toArray++ws.toArray=(vs++ws).toArray:=by simp
 by_cases hw:ws=[]
 ·exact concat_meets ⟨_,ho,rfl⟩ ⟨_,ho2,rfl⟩ noFill_tuple_add seq_tuple_add PySem.F.slot_tuple_add PySem.F.entry_tuple_add (PySem.F.args_tuple_add_2 _ _)
   (tuple_addW1 t b vs.toArray ws.toArray n n2 dd dd2 sl sl2 (by simpa using hv) (by simp [hw])) ⟨ho,ho2,h1 hw⟩
 ·refine concat_meets ⟨_,ho,rfl⟩ ⟨_,ho2,rfl⟩ noFill_tuple_add seq_tuple_add PySem.F.slot_tuple_add PySem.F.entry_tuple_add (PySem.F.args_tuple_add_2 _ _)
   (tuple_addW2 t b vs.toArray ws.toArray n n2 dd dd2 sl sl2 (by simpa using hv) (by simpa using hw) (by rw [List.size_toArray,List.size_toArray];exact hsz)) ⟨ho,ho2,?_⟩
  rw [e]
  exact h2 hw
noncomputable def sIx (n d:Nat):Option Int→Nat
 | none=>d
 | some v=>if v < 0 then (v + (n:Int)).toNat else min v.toNat n
theorem sIx_none (n d:Nat):sIx n d none=d:=rfl
theorem sIx_nat (n d k:Nat):sIx n d (some (k:Int))=min k n:=by
 show (if (k:Int) < 0 then ((k:Int) + (n:Int)).toNat else min (k:Int).toNat n)=min k n
 rw [if_neg (by omega),Int.toNat_natCast]
end
end HT
namespace L2
open PySem PySem.Spec PyProof.Rows
noncomputable abbrev TO:=St→Hp→(Option Int→Hp→Prop)→Prop
noncomputable def PO (X:Cx) (e:Option Expr) (t:TO):Prop:=
 ∀ (pins:List (Addr×Obj)) (s:Shared) (σ:St) (H:Hp) (Q:Option Int→Hp→Prop),Inv X pins σ H s→t σ H Q→
  wpAny (model X.prog X.w) X.A (evalPart e X.env) (fun u s'=>∃ o H',Inv X pins σ H' s'∧IsPart u o∧Q o H') X.xe s
noncomputable def tNoPart:TO:=fun _ H Q=>Q none H
noncomputable def tPart (t:TE):TO:=fun σ H Q=>t σ H fun x H1=>∃ i,x=.int i∧Q (some i) H1
theorem intsAre_of {ns:List Int}:∀ {us:List Value},Vals (ns.map V.int) us→IntsAre us ns:=by
 induction ns with
 | nil=>intro us r;rw [List.map_nil] at r;cases r;exact .nil
 | cons n ns ih=>
  intro us r
  rw [List.map_cons] at r
  cases r with
  | cons r1 r2=>
   obtain ⟨t,e⟩:=r1
   subst e
   exact .cons n t (ih r2)
section
variable {X:Cx} {e:Expr} {te:TE} {lo hi:Option Expr} {tl th:TO} {pos p2:Pos}
theorem po_none:PO X none tNoPart:=by
 intro pins s σ H Q I h
 rw [evalPart_none]
 exact wpAny_pure ⟨none,H,I,.none,h⟩
theorem po_some (h:PE X e te):PO X (some e) (tPart te):=by
 intro pins s σ H Q I hw
 rw [evalPart_some]
 refine thn (h pins s σ H _ I hw) fun u s1 ⟨x,H1,I1,r1,q1⟩=>?_
 obtain ⟨i,rfl,q⟩:=q1
 obtain ⟨t,rfl⟩:=r1
 exact ⟨some i,H1,I1,.int i t,q⟩
noncomputable def SlR (X:Cx) (r:V→Option Int→Option Int→Hp→VK→Prop):Prop:=
 ∀ (pins:List (Addr×Obj)) (s:Shared) (σ:St) (H:Hp) (x:V) (v vl vu:Value) (lo hi:Option Int) (sl:Addr) (Q:VK),Inv X pins σ H s→RelV x v→s.heap.IsSliceOf sl vl vu .none→IsPart vl lo→IsPart vu hi→r x lo hi H Q→
  ∃ T id,typeLookup (.type T) "__getitem__"=pure (some (.builtin id))∧s.TypeIs v T∧wpAny (model X.prog X.w) X.A (getItem v (.ref sl)) (EP X pins σ Q) X.xe s
noncomputable def tSl (r:V→Option Int→Option Int→Hp→VK→Prop) (te:TE) (tl th:TO):TE:=fun σ H Q=>te σ H fun x H1=>tl σ H1 fun l H2=>th σ H2 fun u H3=>r x l u H3 Q
theorem pe_slice {r:V→Option Int→Option Int→Hp→VK→Prop} (hr:SlR X r) (he:PE X e te) (hl:PO X lo tl) (hu:PO X hi th):PE X (.Subscript e (.Slice lo hi none p2) pos) (tSl r te tl th):=by
 intro pins s σ H Q I h
 refine Subscript_ (thn (he pins s σ H _ I h) fun v s1 ⟨x,H1,I1,r1,q1⟩=>?_)
 refine wpAny_Slice (thn (hl pins s1 σ H1 _ I1 q1) fun vl s2 ⟨l,H2,I2,pl,q2⟩=>thn (hu pins s2 σ H2 _ I2 q2) fun vu s3 ⟨u,H3,I3,pu,q3⟩=>?_)
 rw [evalPart_none]
 refine wpAny_pure ?_
 have I4:Inv X pins σ H3 { s3 with heap:=s3.heap.push { cls:=.type "slice",data:=.fields #[vl,vu,.none] } }:=I3.kept (t':=s3.toks) fun b ob q=>Heap.get?_push_of_some _ q
 obtain ⟨T,id,hT,ht,hg⟩:=hr pins { s3 with heap:=s3.heap.push { cls:=.type "slice",data:=.fields #[vl,vu,.none] } } σ H3 x v vl vu l u s3.heap.objs.size Q I4 r1 (Heap.IsSliceOf.new ..) pl pu q3
 show wpAny (model X.prog X.w) X.A (subscriptTail e (.Slice lo hi none p2) v (.ref s3.heap.objs.size)) (EP X pins σ Q) X.xe { s3 with heap:=s3.heap.push { cls:=.type "slice",data:=.fields #[vl,vu,.none] } }
 exact tail_any (ops:=[.ref s3.heap.objs.size,v]) ht hT hg (by with_unfolding_all rfl)
noncomputable def cutV (xs:List V) (lo hi:Option Int):List V:=(xs.drop (HT.sIx xs.length 0 lo)).take (HT.sIx xs.length xs.length hi - HT.sIx xs.length 0 lo)
theorem cutV_length (xs:List V) (lo hi:Option Int):(cutV xs lo hi).length≤xs.length:=by
 unfold cutV
 rw [List.length_take,List.length_drop]
 omega
noncomputable def rLtT (K:PySem.W.Frag):R2:=fun x y H Q=>∃ a b ns ms,x=.ref a∧y=.ref b∧SqT K H a (ns.map V.int)∧SqT K H b (ms.map V.int)∧Q (.bl (HT.lexLt ns ms)) H
theorem op_ltT (hu:X.A.units < cLine):OpR X (compareOp .Lt) (rLtT X.K):=by
 intro pins s σ H x y v u Q I rx ry h
 obtain ⟨a,b,ns,ms,rfl,rfl,ha,hb,q⟩:=h
 cases rx
 cases ry
 obtain ⟨its,r1,p1,_⟩:=I.tuple ha
 obtain ⟨its2,r2,p2,_⟩:=I.tuple hb
 have i1:IntsAre its.toArray.toList ns:=intsAre_of r1
 have i2:IntsAre its2.toArray.toList ms:=intsAre_of r2
 exact HT.lt_tupInts p1 p2 i1 i2 hu ⟨.bl (HT.lexLt ns ms),H,I,rfl,q⟩
noncomputable def rCatT (K:PySem.W.Frag):R2:=fun x y H Q=>∃ a b xs ys,x=.ref a∧y=.ref b∧SqT K H a xs∧SqT K H b ys∧xs≠[]∧xs.length + ys.length≤sizeLine∧
 (ys=[]→Q (.ref a) H)∧(ys≠[]→∀ p,H p=none→Q (.ref p) (upd H p (.tup (xs++ys))))
theorem Vals.nil_iff {xs:List V} {us:List Value} (r:Vals xs us):us=[]↔xs=[]:=by
 cases r with
 | nil=>simp
 | cons _ _=>simp
theorem op_catT:OpR X (binaryOp .Add) (rCatT X.K):=by
 intro pins s σ H x y v u Q I rx ry h
 obtain ⟨a,b,xs,ys,rfl,rfl,ha,hb,hx,hz,q1,q2⟩:=h
 cases rx
 cases ry
 obtain ⟨its,r1,p1,_⟩:=I.tuple ha
 obtain ⟨its2,r2,p2,_⟩:=I.tuple hb
 refine HT.cat_tup p1 p2 (fun z=>hx (r1.nil_iff.mp z)) (fun z=>⟨.ref a,H,I,rfl,q1 (r2.nil_iff.mp z)⟩) (fun z=>?_) (by rw [←r1.length,←r2.length];exact hz)
 refine ⟨.ref s.heap.objs.size,_,I.laid (t':=s.toks) (o:=.tup (xs++ys)) (fun b ob q=>Heap.get?_push_of_some _ q) (Nat.le_refl _) ?_,rfl,q2 (fun w=>z (r2.nil_iff.mpr w)) _ (I.hok.fresh (Nat.le_refl _))⟩
 exact ⟨by rw [List.length_append];exact hz,_,r1.append r2,IsTupN.new _ _⟩
end
end L2
namespace L2
open PySem PySem.Spec PyProof.Rows
noncomputable def ixN (n:Nat) (i:Int):Option Nat:=if 0≤i then (if i < n then some i.toNat else none) else if -(n:Int)≤i then some (i + n).toNat else none
noncomputable def atI {α:Type} (xs:List α) (i:Int):Option α:=(ixN xs.length i).bind fun j=>xs[j]?
theorem ixN_seq {n:Nat} {i:Int} {j:Nat} (h:ixN n i=some j):seqIndex? i n=some j∧j < n∧-(n:Int)≤i∧i < n:=by
 unfold ixN at h
 by_cases h0:0≤i
 ·rw [if_pos h0] at h
  by_cases h1:i < n
  ·rw [if_pos h1] at h
   have e:i.toNat=j:=Option.some.inj h
   exact ⟨by rw [seqIndex_of h0 h1,e],by omega,by omega,h1⟩
  ·rw [if_neg h1] at h;cases h
 ·rw [if_neg h0] at h
  by_cases h1:-(n:Int)≤i
  ·rw [if_pos h1] at h
   have e:(i + n).toNat=j:=Option.some.inj h
   exact ⟨by rw [seqIndex_neg (by omega) h1,e],by omega,h1,by omega⟩
  ·rw [if_neg h1] at h;cases h
theorem atI_get {α:Type} {xs:List α} {i:Int} {v:α} (h:atI xs i=some v):∃ j,seqIndex? i xs.length=some j∧xs[j]? =some v∧j < xs.length∧-(xs.length:Int)≤i∧i < xs.length:=by
 unfold atI at h
 cases e:ixN xs.length i with
 | none=>rw [e] at h;cases h
 | some j=>
  rw [e] at h
  obtain ⟨h1,h2,h3,h4⟩:=ixN_seq e
  exact ⟨j,h1,h,h2,h3,h4⟩
theorem atI_nat {α:Type} {xs:List α} {j:Nat} {v:α} (h:xs[j]? =some v):atI xs (j:Int)=some v:=by
 have hj:j < xs.length:=(List.getElem?_eq_some_iff.mp h).1
 have e:ixN xs.length (j:Int)=some j:=by
  unfold ixN
  rw [if_pos (by omega),if_pos (by omega)];simp
 unfold atI;rw [e];exact h
theorem atI_last {α:Type} (xs:List α) (v:α):atI (xs++[v]) (-1)=some v:=by
 have hl:(xs++[v]).length=xs.length + 1:=by simp
 have e:ixN (xs++[v]).length (-1)=some xs.length:=by
  unfold ixN
  rw [hl,if_neg (by decide),if_pos (by omega)]
  congr 1
  omega
 unfold atI
 rw [e]
 show (xs++[v])[xs.length]? =some v
 simp
noncomputable def PlainIx (b:Expr):Prop:=∀ o i,subscripted b false o i=operate [o,i] (getItem o i)
noncomputable def IxR (X:Cx) (r:R2):Prop:=
 ∀ (value slice:Expr) (pins:List (Addr×Obj)) (s:Shared) (σ:St) (H:Hp) (x y:V) (v u:Value) (Q:VK),Inv X pins σ H s→RelV x v→RelV y u→r x y H Q→
  subscripted slice false v u=operate [v,u] (getItem v u)→wpAny (model X.prog X.w) X.A (subscriptTail value slice v u) (EP X pins σ Q) X.xe s
noncomputable def MtR (X:Cx) (id:String) (r:V→List V→Hp→VK→Prop):Prop:=
 ∀ (pins:List (Addr×Obj)) (s:Shared) (σ:St) (H:Hp) (x:V) (xs:List V) (v:Value) (us:List Value) (Q:VK),Inv X pins σ H s→RelV x v→Vals xs us→r x xs H Q→
  wpAny (model X.prog X.w) X.A (call (.builtin id) (v::us)) (EP X pins σ Q) X.xe s
section
variable {X:Cx} {a b:Expr} {ta tb:TE} {pos:Pos}
theorem pe_ix {r:R2} (hr:IxR X r) (ha:PE X a ta) (hb:PE X b tb) (hs:PlainIx b):PE X (.Subscript a b pos) (tOp r ta tb):=by
 intro pins s σ H Q I h
 exact Subscript_ (binT ha hb I h fun v u s2 x y H2 I2 rx ry q=>hr a b pins s2 σ H2 x y v u Q I2 rx ry q (hs _ _))
noncomputable def rIxL (K:PySem.W.Frag):R2:=fun x y H Q=>∃ p xs i v,x=.ref p∧y=.int i∧SqL K H p xs∧atI xs i=some v∧Q v H
noncomputable def rIxT (K:PySem.W.Frag):R2:=fun x y H Q=>∃ p xs i v,x=.ref p∧y=.int i∧SqT K H p xs∧atI xs i=some v∧Q v H
theorem ix_list:IxR X (rIxL X.K):=by
 intro value slice pins s σ H x y v u Q I rx ry h hs
 obtain ⟨p,xs,i,z,rfl,rfl,hq,he,q⟩:=h
 cases rx
 obtain ⟨t,rfl⟩:=ry
 obtain ⟨its,r,pl,hz⟩:=I.list hq
 obtain ⟨j,h1,h2,h3,h4,h5⟩:=atI_get he
 obtain ⟨w,ew,rw'⟩:=r.get h2
 have hl:=r.length
 have hn:=line63
 have fin:EP X pins σ Q w s:=⟨z,H,I,rw',q⟩
 by_cases h0:0≤i
 ·have hj:i.toNat=j:=by
   rw [seqIndex_of h0 h5] at h1
   exact Option.some.inj h1
  exact item_listR pl.isList h0 (by omega) (by rw [hj];simpa using ew) fin hs
 ·have hj:(i + (its.toArray.size:Int)).toNat=j:=by
   rw [seqIndex_neg (by omega) h4] at h1
   rw [List.size_toArray,←hl]
   exact Option.some.inj h1
  exact subscriptTail_builtinR (x:=w) pl.isList.typeIs slot_list_getitem.lookup
   (wpAny_getItem_list_neg (Q:=fun r s'=>r=w∧EP X pins σ Q r s') pl.isList (by omega) (by rw [List.size_toArray] <;> omega) (by omega) (by rw [hj];simpa using ew) ⟨rfl,fin⟩) hs
theorem ix_tup:IxR X (rIxT X.K):=by
 intro value slice pins s σ H x y v u Q I rx ry h hs
 obtain ⟨p,xs,i,z,rfl,rfl,hq,he,q⟩:=h
 cases rx
 obtain ⟨t,rfl⟩:=ry
 obtain ⟨its,r,pl,hz⟩:=I.tuple hq
 obtain ⟨j,h1,h2,h3,h4,h5⟩:=atI_get he
 obtain ⟨w,ew,rw'⟩:=r.get h2
 have hl:=r.length
 have hn:=line63
 have fin:EP X pins σ Q w s:=⟨z,H,I,rw',q⟩
 exact subscriptTail_builtinR (x:=w) pl.typeIs slot_tuple_getitem.lookup
  (getItem_tuple (j:=j) (Q:=fun r s'=>r=w∧EP X pins σ Q r s') pl (by omega) (by omega) (by rw [List.size_toArray,←hl];exact h1) (by simpa using ew) ⟨rfl,fin⟩) hs
theorem Inv.lst {pins:List (Addr×Obj)} {σ:St} {H:Hp} {s:Shared} {p:Addr} {xs:List V} (I:Inv X pins σ H s) (h:H p=some (.lst xs)):
  ∃ (its:List Value) (n:Nat),Vals xs its∧s.heap.get? p=some { cls:=.type "list",data:=.seq its.toArray n }∧xs.length≤sizeLine:=by
 obtain ⟨z,its,n,r,e⟩:=I.hok p _ h
 exact ⟨its,n,r,e,z⟩
theorem slice_bounds (lo hi:Option Int) (n:Nat):(sliceBounds lo hi none n).1=((HT.sIx n 0 lo:Nat):Int)∧(sliceBounds lo hi none n).2.1=((HT.sIx n n hi:Nat):Int)∧(sliceBounds lo hi none n).2.2=1:=by
 refine ⟨?_,?_,rfl⟩
 ·cases lo with
  | none=>simp [sliceBounds,HT.sIx]
  | some i=>
   simp only [sliceBounds,HT.sIx,Option.getD_none,show (1:Int) > 0 by decide,if_true]
   by_cases h:i < 0
   ·simp only [h,if_true] <;> omega
   ·simp only [h,if_false] <;> omega
 ·cases hi with
  | none=>simp [sliceBounds,HT.sIx]
  | some i=>
   simp only [sliceBounds,HT.sIx,Option.getD_none,show (1:Int) > 0 by decide,if_true]
   by_cases h:i < 0
   ·simp only [h,if_true] <;> omega
   ·simp only [h,if_false] <;> omega
theorem slicePick_cut (its:List Value) (lo hi:Option Int):slicePick its.toArray lo hi none=((its.drop (HT.sIx its.length 0 lo)).take (HT.sIx its.length its.length hi - HT.sIx its.length 0 lo)).toArray:=by
 obtain ⟨h1,h2,h3⟩:=slice_bounds lo hi its.toArray.size
 unfold slicePick
 rw [h1,h2,h3]
 simp only [sliceRange_one,pick_run,List.size_toArray] <;> rfl
noncomputable def rSlL (K:PySem.W.Frag):V→Option Int→Option Int→Hp→VK→Prop:=fun x lo hi H Q=>∃ a xs,x=.ref a∧SqL K H a xs∧∀ p,H p=none→Q (.ref p) (upd H p (.lst (cutV xs lo hi)))
theorem sl_list:SlR X (rSlL X.K):=by
 intro pins s σ H x v vl vu lo hi sl Q I rx hs pl pu h
 obtain ⟨a,xs,rfl,hx,q⟩:=h
 cases rx
 obtain ⟨its,r,ht,hz⟩:=I.list hx
 have hlen:=r.length
 refine ⟨"list",_,slot_list_getitem.lookup,ht.isList.typeIs,?_⟩
 refine wpAny_getItem_list_slice ht.isList hs pl pu .none (by simp) ?_ (by rw [List.size_toArray] <;> omega)
 rw [slicePick_cut,←hlen]
 refine ⟨.ref s.heap.objs.size,_,I.laid (t':=s.toks) (o:=.lst (cutV xs lo hi)) (fun b ob q=>Heap.get?_push_of_some _ q) (Nat.le_refl _) ?_,rfl,q _ (I.hok.fresh (Nat.le_refl _))⟩
 exact ⟨Nat.le_trans (cutV_length xs lo hi) hz,_,0,(r.drop (HT.sIx xs.length 0 lo)).take (HT.sIx xs.length xs.length hi - HT.sIx xs.length 0 lo),Heap.get?_push_size _ rfl⟩
theorem call_len_seq:CallR X (.builtin "len") (fun xs H Q=>∃ p ys,xs=[.ref p]∧(SqL X.K H p ys∨SqT X.K H p ys)∧Q (.int ys.length) H):=by
 intro pins s σ H xs us Q I r h
 obtain ⟨p,ys,rfl,hq,q⟩:=h
 obtain ⟨u,rfl,rx⟩:=vals1 r
 cases rx
 have hn:=line63
 rcases hq with hq | hq
 ·obtain ⟨its,r',pl,hz⟩:=I.list hq
  have hlen:=r'.length
  exact Calls.call_len_list pl.isList (by simp only [List.size_toArray] <;> omega) ⟨.int ys.length,H,I.tok _,⟨s.toks + 1,by rw [List.size_toArray,hlen]⟩,q⟩
 ·obtain ⟨its,r',pl,hz⟩:=I.tuple hq
  have hlen:=r'.length
  exact len_tuple pl (by simp only [List.size_toArray] <;> omega) ⟨.int ys.length,H,I.tok _,⟨s.toks + 1,by rw [List.size_toArray,hlen]⟩,q⟩
theorem call_tuple_of:CallR X (.type "tuple") (fun xs H Q=>∃ p ys,xs=[.ref p]∧((SqL X.K H p ys∧∀ l,H l=none→Q (.ref l) (upd H l (.tup ys)))∨(SqT X.K H p ys∧Q (.ref p) H))):=by
 intro pins s σ H xs us Q I r h
 obtain ⟨p,ys,rfl,h⟩:=h
 obtain ⟨u,rfl,rx⟩:=vals1 r
 cases rx
 rcases h with ⟨hq,q⟩ | ⟨hq,q⟩
 ·obtain ⟨its,r',pl,hz⟩:=I.list hq
  have hlen:=r'.length
  refine call_tuple_list pl.isList (fun h' kp=>?_) (by simp only [List.size_toArray] <;> omega)
  have I1:Inv X pins σ H { s with heap:=h' }:=I.kept (t':=s.toks) kp
  have I2:Inv X pins σ (upd H h'.objs.size (.tup ys)) { s with heap:=h'.push { cls:=.type "tuple",data:=.seq its.toArray } }:=
   I1.laid (t':=s.toks) (fun b o e=>Heap.get?_push_of_some _ e) (Nat.le_refl _) (show ObjOk X.prog X.w _ _ _ (.tup ys) from ⟨hz,its,r',IsTupN.new _ _⟩)
  exact ⟨.ref h'.objs.size,_,I2,rfl,q _ (I1.hok.fresh (Nat.le_refl _))⟩
 ·obtain ⟨its,r',pl,hz⟩:=I.tuple hq
  exact call_tuple_same pl ⟨.ref p,H,I,rfl,q⟩
noncomputable def tyV (K:PySem.W.Frag) (T:String) (x:V) (H:Hp):Prop:=match x with
 | .str _=>T="str"
 | .int _=>T="int"
 | .ref p=>(T="list"∧∃ xs,SqL K H p xs)∨(T="tuple"∧∃ o,K.lookup p=some o∧o.cls=.type "tuple"∧o.dict=none)∨
   (T="dict"∧((∃ kvs,H p=some (.dK kvs))∨∃ kvs,H p=some (.dT kvs)))∨(T="set"∧∃ S n,H p=some (.set S n))
 | _=>False
theorem tyV_is {pins:List (Addr×Obj)} {σ:St} {H:Hp} {s:Shared} {T:String} {x:V} {v:Value} (I:Inv X pins σ H s) (r:RelV x v) (ty:tyV X.K T x H):
  s.TypeIs v T∧∀ a,v=.ref a→∃ ob,s.heap.get? a=some ob∧ob.dict=none:=by
 cases x with
 | str z=>
  obtain ⟨t,rfl⟩:=r
  cases (show T="str" from ty)
  exact ⟨typeIs_str s z t,fun _ e=>nomatch e⟩
 | int i=>
  obtain ⟨t,rfl⟩:=r
  cases (show T="int" from ty)
  exact ⟨typeIs_int s i t,fun _ e=>nomatch e⟩
 | ref p=>
  cases r
  rcases ty with ⟨rfl,xs,hq⟩ | ⟨rfl,o,hk,hc,hd⟩ | ⟨rfl,hk⟩ | ⟨rfl,S,n,hk⟩
  ·obtain ⟨its,_,pl,_⟩:=I.list hq
   refine ⟨pl.isList.typeIs,fun a e=>?_⟩
   cases e
   obtain ⟨o,n,e,c,hd,_⟩:=pl
   exact ⟨o,e,hd⟩
  ·refine ⟨⟨o,I.kIn p o hk,hc⟩,fun a e=>?_⟩
   cases e
   exact ⟨o,I.kIn _ o hk,hd⟩
  ·have z:∃ o,s.heap.get? p=some o∧o.ExactDict:=by
    rcases hk with ⟨kvs,hk⟩ | ⟨kvs,hk⟩
    ·obtain ⟨_,_,_,_,o,_,_,e,ex,_⟩:=I.hok p _ hk
     exact ⟨o,e,ex⟩
    ·obtain ⟨_,_,_,_,o,_,_,e,ex,_⟩:=I.hok p _ hk
     exact ⟨o,e,ex⟩
   obtain ⟨o,e,ex⟩:=z
   refine ⟨⟨o,e,ex.1⟩,fun a e2=>?_⟩
   cases e2
   exact ⟨o,e,ex.2.1⟩
  ·obtain ⟨o,_,_,_,e,ex,_⟩:=I.hok p _ hk
   refine ⟨⟨o,e,ex.1⟩,fun a e2=>?_⟩
   cases e2
   exact ⟨o,e,ex.2.1⟩
 | _=>exact False.elim ty
noncomputable def tBM (K:PySem.W.Frag) (T:String) (r:V→List V→Hp→VK→Prop) (to:TE) (t:TA):TE:=fun σ H Q=>to σ H fun x H1=>tyV K T x H1∧t σ H1 fun xs H2=>r x xs H2 Q
variable {o e:Expr} {es:List Expr} {to:TE} {t:TA} {name:Str} {apos cpos:Pos} {T id:String} {r:V→List V→Hp→VK→Prop}
theorem pe_bm (pa:PlainAttrs T) (slot:Slot T name id) (hty:typeOf (.builtin id)=pure (.type "method_descriptor")) (hm:MtR X id r) (ho:PE X o to) (ha:PA X (e::es) t)
  (hbase:attributeBase o name X.env (eval o X.env)=eval o X.env:=by rfl)
  (hfew:((backTo cpos (starEach (e::es) X.env)).all (fun x=> !x.1)&&(backToKw cpos (keywordEach [] X.env)).all (fun x=>x.1.isSome)
   &&decide ((e::es).length + ([]:List Keyword).length + (if ([]:List Keyword).isEmpty then 0 else 1) < 30))=true:=by rfl)
  (hline:(apos.endLine==cpos.line)=true:=by rfl) (hs:starEach (e::es) X.env=(false,eval e X.env)::starEach es X.env:=by rfl) (hplain:(backTo cpos (starEach es X.env)).any (·.1)=false:=by rfl):
  PE X (.Call (.Attribute o name apos) (e::es) [] cpos) (tBM X.K T r to t):=by
 intro pins s σ H Q I h
 refine wpAny_Call_method_late hbase hfew hline rfl (thn (ho pins s σ H _ I h) fun v s1 ⟨x,H1,I1,r1,ty,q1⟩=>?_)
 obtain ⟨h1,h2⟩:=tyV_is I1 r1 ty
 refine ⟨T,id,pa,slot,hty,h1,h2,?_⟩
 have hA:=ha cpos pins s1 σ H1 _ I1 q1
 rw [hs] at hA ⊢
 refine Calls.callWith_builtin (by show (false||(backTo cpos (starEach es X.env)).any (·.1))=false;rw [hplain] <;> rfl) (Calls.evalArgs_plain ?_)
 exact thn hA fun us s2 ⟨vs,H2,I2,r2,q2⟩=>hm pins s2 σ H2 x vs v us Q I2 r1 r2 q2
end
end L2
namespace L2
open PySem PySem.Spec PyProof.Rows
noncomputable def MtM (X:Cx) (id:String) (r:V→List V→Hp→VK→Prop):Prop:=
 ∀ (pins:List (Addr×Obj)) (s:Shared) (σ:St) (H:Hp) (x:V) (xs:List V) (v:Value) (us:List Value) (Q:VK),Inv X pins σ H s→RelV x v→Vals xs us→r x xs H Q→
  wpAny (model X.prog X.w) X.A (call (.builtin id) (v::us)) (EP X pins σ Q) X.xe s
theorem Vals.one:∀ {x:V} {us:List Value},Vals [x] us→∃ u,us=[u]∧RelV x u
 | _,_,.cons r .nil=>⟨_,rfl,r⟩
theorem Vals.two {x y:V} {us:List Value} (h:Vals [x,y] us):∃ u v,us=[u,v]∧RelV x u∧RelV y v:=by
 cases h with
 | cons r t=>
 cases t with
 | cons q t=>
 cases t
 exact ⟨_,_,rfl,r,q⟩
theorem Vals.dropLast {xs:List V} {us:List Value} (h:Vals xs us):Vals xs.dropLast us.dropLast:=by
 induction h with
 | nil=>exact .nil
 | cons r t ih=>
  cases t with
  | nil=>exact .nil
  | cons q t'=>exact .cons r ih
theorem Vals.eraseIdx:∀ {xs:List V} {us:List Value} (i:Nat),Vals xs us→Vals (xs.eraseIdx i) (us.eraseIdx i)
 | _,_,_,.nil=>.nil
 | _,_,0,.cons _ t=>t
 | _,_,i + 1,.cons r t=>.cons r (Vals.eraseIdx i t)
theorem Vals.reverse {xs:List V} {us:List Value} (h:Vals xs us):Vals xs.reverse us.reverse:=by
 induction h with
 | nil=>exact .nil
 | cons r t ih=>rw [List.reverse_cons,List.reverse_cons];exact Vals.append ih (.cons r .nil)
section
variable {X:Cx} {pins:List (Addr×Obj)} {σ:St} {H:Hp} {s:Shared} {l b:Addr} {xs ys zs:List V}
theorem Inv.lset {its its':List Value} {n:Nat} {f:Array Value→Array Value} {t':Nat} (I:Inv X pins σ H s) (hH:H l=some (.lst xs))
  (e:s.heap.get? l=some { cls:=.type "list",data:=.seq its.toArray n }) (hf:f its.toArray=its'.toArray) (hv:Vals ys its') (hz:ys.length≤sizeLine):
  Inv X pins σ (upd H l (.lst ys)) { s with heap:=s.heap.update l (Obj.mapSeq f),toks:=t' }:=by
 have q:=PySem.IsL.update e f
 rw [hf] at q
 refine I.write (x:=l) (e:=l) (by rw [hH];exact trivial) (.inl rfl) (fun b' u hb hu=>(Heap.get?_update_other s.heap (Obj.mapSeq f) (Ne.symm hb)).trans hu) ⟨_,q⟩ ?_
 exact ⟨hz,its',_,hv,q⟩
theorem Inv.lnew {its:List Value} {t':Nat} (I:Inv X pins σ H s) (hv:Vals ys its) (hz:ys.length≤sizeLine):
  Inv X pins σ (upd H s.heap.objs.size (.lst ys)) { s with heap:=s.heap.push { cls:=.type "list",data:=.seq its.toArray },toks:=t' }:=
 I.laid (fun _ _ q=>Heap.get?_push_of_some _ q) (Nat.le_refl _) ⟨hz,its,0,hv,Heap.get?_push_size _ rfl⟩
theorem Inv.fresh (I:Inv X pins σ H s):H s.heap.objs.size=none:=I.hok.fresh (Nat.le_refl _)
theorem Inv.lstM (I:Inv X pins σ H s) (hH:H l=some (.lst xs)):xs.length≤sizeLine∧∃ (its:List Value) (n:Nat),Vals xs its∧xs.length=its.length∧s.heap.get? l=some { cls:=.type "list",data:=.seq its.toArray n }:=by
 obtain ⟨z,its,n,r,e⟩:=I.hok l _ hH
 exact ⟨z,its,n,r,r.length,e⟩
theorem notLongL {n:Nat} (h:n≤sizeLine):Builtin.List.listTooLong n=false:=by
 unfold Builtin.List.listTooLong
 exact decide_eq_false (by omega)
end
section
variable {X:Cx}
noncomputable def rAppend:V→List V→Hp→VK→Prop:=fun x vs H Q=>∃ l xs y,x=.ref l∧vs=[y]∧H l=some (.lst xs)∧xs.length < sizeLine∧Q .non (upd H l (.lst (xs++[y])))
theorem mt_append:MtM X "list.append" rAppend:=by
 intro pins s σ H x vs v us Q I rx rv h
 obtain ⟨l,xs,y,rfl,rfl,hH,hz,q⟩:=h
 cases rx
 obtain ⟨u,rfl,ru⟩:=rv.one
 obtain ⟨z,its,n,r,hl,e⟩:=I.lstM hH
 refine call_meets F.slot_list_append ⟨_,e,rfl⟩ F.entry_list_append (F.args_list_append_2 _ _) (PySem.list_append l its.toArray n u (by rw [List.size_toArray];omega)) ⟨e,?_⟩
 refine ⟨.non,_,I.lset (its':=its++[u]) hH e (by simp) (r.append (.cons ru .nil)) ?_,rfl,q⟩
 rw [List.length_append,List.length_singleton]
 omega
noncomputable def rExtend:V→List V→Hp→VK→Prop:=fun x vs H Q=>∃ l b xs zs,x=.ref l∧vs=[.ref b]∧H l=some (.lst xs)∧H b=some (.lst zs)∧xs.length + zs.length≤sizeLine∧Q .non (upd H l (.lst (xs++zs)))
theorem mt_extend:MtM X "list.extend" rExtend:=by
 intro pins s σ H x vs v us Q I rx rv h
 obtain ⟨l,b,xs,zs,rfl,rfl,hH,hB,hz,q⟩:=h
 cases rx
 obtain ⟨u,rfl,ru⟩:=rv.one
 cases ru
 obtain ⟨z,its,n,r,hl,e⟩:=I.lstM hH
 obtain ⟨z2,its2,n2,r2,hl2,e2⟩:=I.lstM hB
 have hsz:its.toArray.size + its2.toArray.size≤sizeLine:=by rw [List.size_toArray,List.size_toArray];omega
 have hlong:¬(!its.toArray.isEmpty&&Builtin.List.listTooLong (its.toArray.size + its2.toArray.size))=true:=by
  rw [notLongL hsz,Bool.and_false]
  exact Bool.false_ne_true
 refine call_meets F.slot_list_extend ⟨_,e,rfl⟩ F.entry_list_extend (F.args_list_extend_2 _ _)
  (AutoSeq1.list_extend_list_list_0 l its.toArray n b its2.toArray n2 hlong (by rw [List.size_toArray];omega) (by omega)) ⟨e,e2,?_⟩
 refine ⟨.non,_,I.lset (its':=its++its2) hH e (by simp) (r.append r2) ?_,rfl,q⟩
 rw [List.length_append]
 omega
noncomputable def rCat:R2:=fun x y H Q=>∃ l b xs zs,x=.ref l∧y=.ref b∧H l=some (.lst xs)∧H b=some (.lst zs)∧xs.length + zs.length≤sizeLine∧∀ p,H p=none→Q (.ref p) (upd H p (.lst (xs++zs)))
theorem op_cat:OpR X (binaryOp .Add) rCat:=by
 intro pins s σ H x y v u Q I rx ry h
 obtain ⟨l,b,xs,zs,rfl,rfl,hH,hB,hz,q⟩:=h
 cases rx
 cases ry
 obtain ⟨z,its,n,r,hl,e⟩:=I.lstM hH
 obtain ⟨z2,its2,n2,r2,hl2,e2⟩:=I.lstM hB
 refine PySem.P.add_list e e2 ?_ (by rw [List.size_toArray,List.size_toArray];omega)
 have ea:its.toArray++its2.toArray=(its++its2).toArray:=by simp
 rw [ea]
 exact ⟨.ref _,_,I.lnew (t':=s.toks) (r.append r2) (by rw [List.length_append];omega),rfl,q _ I.fresh⟩
end
section
variable {prog:Program} {w:World} {A:Around} {E:Value→Shared→Prop} {s:Shared}
end
section
variable {X:Cx}
end
end L2
namespace Att
open PySem PySem.W PySem.Calls PyProof.Rows
theorem ints_of_wellAll {P:Params} {h:Heap}:∀ (ns:List Int) (vs:List Value),WellAll P h vs (ns.map WData.int)→IntsAre vs ns:=by
 intro ns
 induction ns with
 | nil=>
  intro vs w
  rw [List.map_nil] at w
  cases w
  exact .nil
 | cons n ns ih=>
  intro vs w
  rw [List.map_cons] at w
  cases w with
  | cons a b=>
   cases a
   exact .cons _ _ (ih _ b)
theorem script_of {l:OpenLaw} {n:Nat} (hn:l.most=some n) {P:Params} {h:Heap} {args:List WData} {vals:List Value}
  (hpre:l.row.toRowW.claim.pre args=true) (hwl:WellAll P h vals args):
  ∃ a vs ns,vals=[Value.ref a]∧args=[WData.list (ns.map WData.int)]∧h.get? a=some { cls:=.type "list",data:=.seq vs.toArray }∧IntsAre vs ns∧ns.length≤n:=by
 have hsh:WShape.hasAll [] args [.list .int]=true:=(pre_splitW hpre).1
 have hc:l.pre.holds [] { args:=args }=true:=(pre_splitW hpre).2
 obtain ⟨d,r,rfl,h1,h2⟩:=hasAllW_cons hsh
 obtain rfl:=hasAllW_nil h2
 obtain ⟨xs,rfl,h3⟩:=hasW_list h1
 obtain ⟨ns,rfl⟩:=items_int h3
 have hlen:ns.length≤n:=by
  unfold OpenLaw.pre at hc
  have h4:(WTm.not (.lt (.lit (.int (n:Int))) (.len (.arg 0)))).holds [] { args:=[.list (ns.map .int)] }=true:=by
   have h4:=(holds_andW hc).1
   rw [hn] at h4
   exact h4
  have h5:=condW_of h4 (w_not (w_lt w_lit (w_len_list (w_arg rfl))))
  rw [List.length_map] at h5
  refine Nat.le_of_not_lt fun q=>?_
  have q':(n:Int) < ((ns.length:Nat):Int):=by omega
  first
   | (rw [decide_eq_true q'] at h5;exact absurd h5 (by decide))
   | (simp at h5;omega)
 cases hwl with
 | cons w1 w2=>
  cases w2
  cases w1 with
  | list ho hall=>exact ⟨_,_,ns,rfl,rfl,ho,ints_of_wellAll ns _ hall,hlen⟩
theorem post_true (l:OpenLaw) (args:List WData):l.row.toRowW.claim.post args (.bool true) args=true:=
 postW_of (r:=l.row.toRowW) (X:=(true==true))
  (show WShape.has [] (.bool true) .bool=true by first | rfl | decide | simp [WShape.has,WShape.arms,WShape.armsAll])
  (show (WTm.eq .res (.lit (.bool true))).value [] { args:=args,res:=some (.bool true),after:=args }=some (.bool (true==true)) from w_eq_bool (w_res rfl) w_lit) rfl
theorem attach_call {l:OpenLaw} {n:Nat} {q:Program} {loose:List Str} {XP:(Str→Option Value)→Heap→Prop} {YP:World→Heap→Prop} {d:DefRec}
  (hn:l.most=some n) (hdf:d.params.defaults=[])
  (call:∀ (w:World) (s₀ s₁:Shared) (mg mb:Str→Option Value) (fa:Addr) (o:Obj) (pm cd doc:Value) (a:Addr) (vs:List Value) (ns:List Int),
   Ground q loose [] XP w s₀ mg mb s₁.heap→YP w s₁.heap→
   s₁.heap.get? fa=some o→o.data=.func (docDef d.name d.params d.body d.scope pm cd doc)→s₁.heap.CodeRec cd d.name→mg d.name=some (.ref fa)→
   s₁.heap.get? a=some { cls:=.type "list",data:=.seq vs.toArray }→IntsAre vs ns→ns.length≤n→s₁.gens=#[]→
   codeAny (model l.prog w) callerA (.call (.ref fa) ⟨[.ref a],[]⟩) (fun r s'=>r=.ok (.ret (.bool true))∧OldK s₁.heap s'.heap∧s'.os=s₁.os∧AllBare s'.gens) s₁):
  WalkO q loose XP YP l.row.toRowW d [] (fun f vs=>PySem.call f vs):=by
 intro w s₀ s₁ mg mb G Y fa o pm cd doc dV kV ho hd hcd hD hmg hg args vals as hpre hlay hrd hwl hlo
 obtain rfl:dV=.none:=Dflts.none hD hdf
 obtain rfl:kV=.none:=Dflts.noKw hD
 obtain ⟨a,vs,ns,rfl,rfl,hobj,hints,hlen⟩:=script_of hn hpre hwl
 refine enter_call (codeAny_mono (call w s₀ s₁ mg mb fa o pm cd doc a vs ns G Y ho (fd_plain hd) hcd hmg hobj hints hlen hg) fun r s' hq=>?_)
 obtain ⟨rfl,h2,h3,h4⟩:=hq
 exact ⟨.inl ⟨.bool true,.bool true,[],rfl,fun _=>rfl,.bool true,post_true l _,fun _=>⟨List.Pairwise.nil,fun _ hm=>(nomatch hm)⟩⟩,h2,h3,h4⟩
section
variable {prog:Program} {w:World} {A:Around} {E:Value→Shared→Prop} {s:Shared} {K:Frag}
end
end Att
namespace L2
open PySem PySem.Spec PyProof.Rows
theorem vals_ints:∀ {vs:List Value} {ns:List Int},IntsAre vs ns→Vals (ns.map V.int) vs
 | _,_,.nil=>.nil
 | _,_,.cons n t h=>.cons ⟨t,rfl⟩ (vals_ints h)
noncomputable def Only (H:Hp):Prop:=∀ b,H b=none∨∃ o xs,H b=some (.frz o (.lst xs))
theorem law_call {P:Program} {w:World} {K:PySem.W.Frag} {mg mb:Str→Option Value} {CX:CXT} {k:Nat} {fa a:Addr} {fd:FuncData} {x:Str} {sp:Sp} {s₁:Shared} {vs:List Value} {ns:List Int}
  (KX:K.In s₁.heap) (hns:s₁.heap.Ns mainGlobals mg) (hb:s₁.heap.Ns builtinsNs mb) (hbb:∀ x:Str,x≠"__name__"→mb x=bootBuiltins x) (hlim:s₁.heap.NoLimit) (hg:s₁.gens=#[])
  (ha:s₁.heap.get? a=some { cls:=.type "list",data:=.seq vs.toArray }) (hi:IntsAre vs ns) (hl:ns.length≤sizeLine) (hr:Room k callerA)
  (F:∀ base:Heap,K.In base→base.Ns mainGlobals mg→FnOk P w K mg base CX k fa fd [x] sp) (hbind:∀ (s:Shared) (u:Value),BindsTo s fd ⟨[u],[]⟩ [(x,u)])
  (hsp:∀ H:Hp,Only H→SqL K H a (ns.map V.int)→sp [.ref a] H (fun v _=>v=.bl true) fun _ _ _=>False)
  (hCX:∀ H e s',CX [] H s₁ (fun _ _ _=>False) e s'→False):
  codeAny (model P w) callerA (.call (.ref fa) ⟨[.ref a],[]⟩) (fun r s'=>r=.ok (.ret (.bool true))∧OldK s₁.heap s'.heap∧s'.os=s₁.os∧AllBare s'.gens) s₁:=by
 have rv:=vals_ints hi
 have lenV:=hi.length
 have core:∀ H:Hp,Only H→SqL K H a (ns.map V.int)→HOk P w H s₁.heap→(∀ b,H b≠none→b=a)→(H a≠none→K.lookup a=none)→
   codeAny (model P w) callerA (.call (.ref fa) ⟨[.ref a],[]⟩) (fun r s'=>r=.ok (.ret (.bool true))∧OldK s₁.heap s'.heap∧s'.os=s₁.os∧AllBare s'.gens) s₁:=by
  intro H hO hS hok hA hK
  have base_of:∀ {b:Addr} {o:Obj},s₁.heap.get? b=some o→H b=none→(hidT s₁.heap H).get? b=some o:=fun e n=>hidT_get e n
  have noA:∀ {b:Addr} {o:Obj} {es:Array DictEntry} {ep:Nat},s₁.heap.get? b=some o→o.data=.dict es ep→H b=none:=fun {b o es ep} e d=>by
   cases q:H b with
   | none=>rfl
   | some u=>
    have e':b=a:=hA b (by rw [q];simp)
    subst e'
    rw [ha] at e;cases e
    have d':Data.seq vs.toArray _=Data.dict es ep:=d
    cases d'
  have nsK:∀ {b:Addr} {m:Str→Option Value},s₁.heap.Ns b m→(hidT s₁.heap H).Ns b m:=fun {b m} ⟨o,es,ep,e,d,r⟩=>⟨o,es,ep,base_of e (noA e d),d,r⟩
  have hKb:K.In (hidT s₁.heap H):=fun b o e=>base_of (KX b o e) (by
   cases q:H b with
   | none=>rfl
   | some u=>
    have e':b=a:=hA b (by rw [q];simp)
    subst e'
    rw [hK (by rw [q];simp)] at e;cases e)
  have hM:Mod K mg (hidT s₁.heap H):=⟨hKb,nsK hns,⟨mb,nsK hb,hbb⟩,let ⟨mc,h1,h2⟩:=hlim;⟨mc,nsK h1,h2⟩⟩
  have e0:Env0 P w K mg (hidT s₁.heap H) callerA [] s₁ H:=⟨rfl,hM,fun b o e=>of_hidT e,Nat.le_of_eq (hidT_size _ _),trivial,fun b hb=>absurd (show b∈([]:List Addr) from hb) (by simp),hok,.of_eq hg⟩
  refine codeAny_mono ((F _ hKb (nsK hns)).run callerA [] s₁ H ⟨[.ref a],[]⟩ [.ref a] [.ref a] _ _ hr e0 (hbind s₁ (.ref a)) (.cons rfl .nil) (hsp H hO hS)) fun r s' h=>?_
  cases r with
  | error e=>exact (hCX H e s' h).elim
  | ok fl=>
   cases fl with
   | next=>exact False.elim h
   | brk=>exact False.elim h
   | cont=>exact False.elim h
   | ret u=>
    obtain ⟨v,H',os,bare,un,hok',r',q⟩:=h
    have q':v=.bl true:=q
    subst q'
    obtain rfl:u=Value.bool true:=r'
    refine ⟨rfl,OldK.of_keep fun b o e=>?_,os,bare⟩
    cases q:H b with
    | none=>exact un.keep b o e q (by intro z;exact absurd (show b∈([]:List Addr) from z) (by simp)) (by simp)
    | some u=>
     rcases hO b with z | ⟨ob,xs,z⟩
     ·rw [q] at z;cases z
     ·have z2:=un.frzs b ob _ z
      obtain ⟨e1,_⟩:=hok b _ z
      obtain ⟨e2,_⟩:=hok' b _ z2
      rw [e] at e1;cases e1
      exact e2
 cases hk:K.lookup a with
 | some o=>
  have e:=KX a o hk
  rw [ha] at e
  cases e
  refine core (fun _=>none) (fun _=>.inl rfl) (.inr ⟨_,vs.toArray,_,hk,rfl,rfl,rfl,by rw [List.size_toArray,lenV];exact hl,by simpa using rv⟩) (fun b u z=>by have z':(none:Option HO)=some u:=z;cases z') (fun b z=>absurd rfl z) fun z=>absurd rfl z
 | none=>
  refine core (fun b=>if b=a then some (.frz { cls:=.type "list",data:=.seq vs.toArray } (.lst (ns.map V.int))) else none) (fun b=>?_) (.inl (.inr ⟨{ cls:=.type "list",data:=.seq vs.toArray },if_pos rfl⟩)) (fun b u z=>?_) (fun b z=>?_) fun _=>hk
  ·by_cases hb:b=a
   ·exact .inr ⟨_,_,if_pos hb⟩
   ·exact .inl (if_neg hb)
  ·by_cases hb:b=a
   ·have z':=(if_pos hb).symm.trans z
    cases z'
    subst hb
    exact ⟨ha,by rw [List.length_map];exact hl,vs,_,rv,ha⟩
   ·have z':=(if_neg hb).symm.trans z
    cases z'
  ·by_cases hb:b=a
   ·exact hb
   ·exact absurd (if_neg hb) z
end L2
namespace L2
open PySem PySem.Spec PyProof.Rows
noncomputable abbrev KOf {K:PySem.W.Frag} {h:Heap} (_:K.In h):PySem.W.Frag:=K
theorem walk_of {l:PySem.W.OpenLaw} {n k:Nat} {q:Program} {loose:List Str} {XP:(Str→Option Value)→Heap→Prop} {YP:World→Heap→Prop} {d:DefRec} {K:Params→PySem.W.Frag} {CX:World→CXT} {sp:World→Sp} {x:Str}
  (hn:l.most=some n) (hn2:n≤sizeLine) (hdf:d.params.defaults=[]) (hr:Room k callerA)
  (hY:∀ (w:World) (h:Heap),YP w h→(K w.params).In h)
  (F:∀ (w:World) (mg:Str→Option Value) (fa:Addr) (h:Heap),(K w.params).In h→h.Ns mainGlobals mg→mg d.name=some (.ref fa)→
   ∃ fd:FuncData,(∀ (s:Shared) (u:Value),BindsTo s fd ⟨[u],[]⟩ [(x,u)])∧
    ∀ base:Heap,(K w.params).In base→base.Ns mainGlobals mg→FnOk l.prog w (K w.params) mg base (CX w) k fa fd [x] (sp w))
  (hsp:∀ (w:World) (H:Hp) (a:Addr) (ns:List Int),ns.length≤n→Only H→SqL (K w.params) H a (ns.map V.int)→sp w [.ref a] H (fun v _=>v=.bl true) fun _ _ _=>False)
  (hCX:∀ (w:World) (H:Hp) (s:Shared) (e:Value) (s':Shared),CX w [] H s (fun _ _ _=>False) e s'→False):
  PySem.W.WalkO q loose XP YP l.row.toRowW d [] (fun f vs=>PySem.call f vs):=by
 refine Att.attach_call hn hdf fun w s₀ s₁ mg mb fa o pm cd doc a vs ns G Y ho hd hcd hmg hobj hints hlen hg=>?_
 have KX:=hY w _ Y
 obtain ⟨fd,hb,hF⟩:=F w mg fa _ KX G.T.g hmg
 exact law_call KX G.T.g G.T.b G.T.builtins G.T.nolimit hg hobj hints (Nat.le_trans hlen hn2) hr hF hb (fun H hO hS=>hsp w H a ns hlen hO hS) fun H e s'=>hCX w H s₁ e s'
end L2
namespace L2
open PySem PySem.Spec PyProof.Rows
noncomputable def defArgs (s:Stmt):Arguments:=match s with
 | .FunctionDef _ a _ _ _ _ _ _ _ _=>a
 | _=>{ posonlyargs:=[],args:=[],vararg:=none,kwonlyargs:=[],kw_defaults:=[],kwarg:=none,defaults:=[] }
noncomputable def defBody (s:Stmt):List Stmt:=match s with
 | .FunctionDef _ _ b _ _ _ _ _ _ _=>b
 | _=>[]
noncomputable def defScope (s:Stmt):Scope:=match s with
 | .FunctionDef _ _ _ _ _ _ sc _ _ _=>sc
 | _=>{ kind:=.function,names:=[],isGenerator:=false,isCoroutine:=false }
noncomputable abbrev CX0:CXT:=fun _ _ _ _ _ _=>False
noncomputable abbrev E0:XK:=fun _ _ _=>False
theorem pass0 {X:Cx}:Passes CX0 X E0:=fun _ _ _ _ _ _ _ h=>h.elim
structure Fun (K:PySem.W.Frag) (x qual:Str) (st:Stmt) (f:Addr) (fd:FuncData):Prop where
 ex:∃ (oc:Value) (od:Option Addr) (kV doc pm:Value) (an:Option Addr) (cdv ct:Value) (osl:Array (Option Value)),
  fd=PySem.W.fnOf x qual (defArgs st) (defBody st) (defScope st) .none kV doc pm an cdv ct∧K.lookup f=some ⟨oc,od,.func fd,osl⟩∧PySem.W.codeIn K cdv qual=true
 kp:PySem.W.keepIn K (.ref f)=true
section
variable {P:Program} {w:World} {K:PySem.W.Frag} {mg:Str→Option Value} {base:Heap}
theorem Fun.ok {x qual:Str} {st:Stmt} {f:Addr} {fd:FuncData} {N ps:List Str} {k:Nat} {sp:Sp} (F:Fun K x qual st f fd) (S:FnScope N ps (defScope st)) (len:∀ vs H Q E,sp vs H Q E→vs.length=ps.length)
  (hbody:∀ (cdv:Value) (A:Around) (outer:List Env) (s:Shared) (H:Hp) (vs:List V) (Q:VK) (E:XK),Room k (A.deeper (envOfC qual (defScope st) s.heap.objs.size f cdv))→sp vs H Q E→
   ∃ t,PSs (cxOf CX0 P w K mg base N qual (defScope st) f cdv A outer s H E).nox (defBody st) t∧t { nx:=fun _ H'=>Q .non H',rt:=Q } (start N vs) H):FnOk P w K mg base CX0 (k + 1) f fd ps sp:=by
 obtain ⟨oc,od,kV,doc,pm,an,cdv,ct,osl,rfl,lk,hcd⟩:=F.ex
 refine fn_of lk hcd S len fun A outer s H vs Q E hr hsp=>?_
 obtain ⟨t,h,q⟩:=hbody cdv A outer s H vs Q E hr hsp
 exact ⟨t,h.nox,q⟩
theorem Fun.binds {x qual:Str} {st:Stmt} {f:Addr} {fd:FuncData} {ps:List Str} (F:Fun K x qual st f fd)
  (h:∀ (kV doc pm:Value) (an:Option Addr) (cdv ct:Value) (us:List Value),us.length=ps.length→bindArgs (PySem.W.fnOf x qual (defArgs st) (defBody st) (defScope st) .none kV doc pm an cdv ct) ⟨us,[]⟩=pure (ps.zip us)):Binds K fd ps []:=by
 obtain ⟨oc,od,kV,doc,pm,an,cdv,ct,osl,rfl,lk,hcd⟩:=F.ex
 exact .all (h kV doc pm an cdv ct)
theorem fun_mk {x qual:Str} {st:Stmt} {f:Addr} {oc:Value} {od an:Option Addr} {osl:Array (Option Value)} {kV doc pm cdv ct:Value} (l:K.lookup f=some ⟨oc,od,.func (PySem.W.fnOf x qual (defArgs st) (defBody st) (defScope st) .none kV doc pm an cdv ct),osl⟩)
  (c:PySem.W.codeIn K cdv qual=true) (k:PySem.W.keepIn K (.ref f)=true):Fun K x qual st f (PySem.W.fnOf x qual (defArgs st) (defBody st) (defScope st) .none kV doc pm an cdv ct):=⟨⟨oc,od,kV,doc,pm,an,cdv,ct,osl,rfl,l,c⟩,k⟩
end
theorem hu_of {A:Around} {k:Nat} (hr:Room k A):A.units + 1 < cLine:=Nat.lt_of_le_of_lt (Nat.add_le_add_left (by decide:1≤64) _) hr.units
theorem small1000 {n:Nat} (h:n≤1000):n < sizeLine:=Nat.lt_of_le_of_lt h (by decide)
section
variable {X:Cx}
theorem pv (i:Nat) {x:Str} {pos:Pos} (hN:X.N[i]? =some x:=by rfl) (hv:Vis X.env.scope x:=by first | exact Or.inl rfl | exact Or.inr (Or.inl rfl) | exact Or.inr (Or.inr rfl)) (hd:(x==("__debug__":Str))=false:=by decide)
  (hcd:(x==("__classdict__":Str))=false:=by decide):PE X (.Name x pos) (tVar i):=pe_var hN hv hd hcd
end
theorem iteF {A B:Prop} (h:B):if false=true then A else B:=by
 rw [if_neg Bool.false_ne_true]
 exact h
theorem iteT {A B:Prop} (h:A):if true=true then A else B:=by
 rw [if_pos rfl]
 exact h
noncomputable def Same (H H':Hp):Prop:=∀ b o,H b=some o→H' b=some o
theorem Same.refl (H:Hp):Same H H:=fun _ _ h=>h
theorem Same.trans {H H1 H2:Hp} (a:Same H H1) (b:Same H1 H2):Same H H2:=fun c o h=>b c o (a c o h)
theorem Same.free {H H':Hp} (e:Same H H') {l:Addr} (h:H' l=Option.none):H l=Option.none:=by
 cases q:H l with
 | none=>rfl
 | some o=>
  rw [e l o q] at h
  cases h
theorem Same.seq {K:PySem.W.Frag} {H H':Hp} {a:Addr} {xs:List V} (e:Same H H') (h:SqL K H a xs):SqL K H' a xs:=by
 rcases h with (h | ⟨o,h⟩) | h
 ·exact .inl (.inl (e _ _ h))
 ·exact .inl (.inr ⟨o,e _ _ h⟩)
 ·exact .inr h
end L2
namespace L2
open PySem PySem.Spec PyProof.Rows
noncomputable def closL (env:Env):List (Str×NameKind)→List (Str×Addr)→List (Str×Addr)
 | [],cs=>cs
 | (n,k)::r,cs=>closL env r (if k==.free then (match env.cells.lookup n with | some a=>(n,a)::cs | none=>cs) else cs)
noncomputable def FrOk (env:Env):List (Str×NameKind)→Prop
 | []=>True
 | (n,k)::r=>(match k with | .free=>(env.kindOf n=some .cell∨env.kindOf n=some .free) | .cell=>False | _=>True)∧FrOk env r
theorem FrOk.free {env:Env}:∀ {ns:List (Str×NameKind)} {n:Str},FrOk env ns→(n,NameKind.free)∈ns→env.kindOf n=some .cell∨env.kindOf n=some .free
 | [],_,_,h=>by cases h
 | (m,k)::r,n,f,h=>by
  obtain ⟨a,b⟩:=f
  rcases List.mem_cons.mp h with e | e
  ·cases e;exact a
  ·exact b.free e
theorem FrOk.nocell {env:Env}:∀ {ns:List (Str×NameKind)},FrOk env ns→∀ y∈ns,y.2≠.cell
 | [],_,_,h=>by cases h
 | (m,k)::r,f,y,h=>by
  obtain ⟨a,b⟩:=f
  rcases List.mem_cons.mp h with e | e
  ·subst e
   intro e
   have e':k=.cell:=e
   subst e'
   exact a
  ·exact b.nocell y e
theorem closure_go {env:Env}:∀ (ns:List (Str×NameKind)) (cs:List (Str×Addr)),(∀ n,(n,NameKind.free)∈ns→∃ a,env.cells.lookup n=some a)→
  (forIn (m:=Sem) ns cs fun x r=>match x with | (name,kind)=>(if (kind==NameKind.free)=true then (do let a ←cellOf env name;pure (ForInStep.yield ((name,a)::r))) else pure (ForInStep.yield r)))=pure (closL env ns cs)
 | [],cs,_=>rfl
 | (n,k)::r,cs,h=>by
  rw [List.forIn_cons]
  cases hk:(k==NameKind.free) with
  | false=>
   simp only [hk,Bool.false_eq_true,if_false]
   rw [pure_bind]
   show forIn (m:=Sem) r cs _=pure (closL env r (if (k==NameKind.free)=true then _ else cs))
   rw [hk]
   exact closure_go r cs fun n hn=>h n (List.mem_cons_of_mem _ hn)
  | true=>
   have ek:k=.free:=by simpa using hk
   subst ek
   obtain ⟨a,ha⟩:=h n List.mem_cons_self
   simp only [hk,if_true]
   unfold cellOf
   rw [ha]
   simp only [pure_bind]
   show forIn (m:=Sem) r ((n,a)::cs) _=pure (closL env r (if (NameKind.free==NameKind.free)=true then (match env.cells.lookup n with | some a=>(n,a)::cs | none=>cs) else cs))
   rw [hk,if_pos rfl,ha]
   exact closure_go r _ fun n hn=>h n (List.mem_cons_of_mem _ hn)
theorem closure_eq {env:Env} {sc:Scope} (h:∀ n,(n,NameKind.free)∈sc.names→∃ a,env.cells.lookup n=some a):closureFor sc env=pure (closL env sc.names []):=by
 unfold closureFor
 exact (congrArg (fun z=>z >>=fun r=>pure r) (closure_go sc.names [] h)).trans (by simp)
theorem closL_sub {env:Env}:∀ {ns:List (Str×NameKind)} {cs:List (Str×Addr)},(∀ x c,cs.lookup x=some c→env.cells.lookup x=some c)→∀ x c,(closL env ns cs).lookup x=some c→env.cells.lookup x=some c
 | [],_,h,x,c,e=>h x c e
 | (n,k)::r,cs,h,x,c,e=>by
  refine closL_sub (ns:=r) (fun y d q=>?_) x c e
  by_cases hk:(k==NameKind.free)=true
  ·rw [if_pos hk] at q
   cases hn:env.cells.lookup n with
   | none=>rw [hn] at q;exact h y d q
   | some a=>
    rw [hn] at q
    simp only [List.lookup_cons] at q
    cases hy:(y==n) with
    | true=>
     rw [hy] at q
     have:y=n:=by simpa using hy
     subst this
     rw [hn];exact q
    | false=>rw [hy] at q;exact h y d q
  ·rw [if_neg hk] at q;exact h y d q
theorem closL_has {env:Env}:∀ {ns:List (Str×NameKind)} {cs:List (Str×Addr)} {x:Str},((∃ c,cs.lookup x=some c)∨((x,NameKind.free)∈ns∧∃ a,env.cells.lookup x=some a))→∃ c,(closL env ns cs).lookup x=some c
 | [],cs,x,h=>by
  rcases h with h | ⟨h,_⟩
  ·exact h
  ·cases h
 | (n,k)::r,cs,x,h=>by
  refine closL_has (ns:=r) ?_
  rcases h with ⟨c,h⟩ | ⟨h,a,ha⟩
  ·left
   by_cases hk:(k==NameKind.free)=true
   ·rw [if_pos hk]
    cases hn:env.cells.lookup n with
    | none=>exact ⟨c,h⟩
    | some a=>
     simp only [List.lookup_cons]
     cases hy:(x==n) with
     | true=>exact ⟨a,rfl⟩
     | false=>exact ⟨c,h⟩
   ·rw [if_neg hk];exact ⟨c,h⟩
  ·rcases List.mem_cons.mp h with e | e
   ·left
    cases e
    rw [if_pos (by rfl),ha]
    exact ⟨a,by simp⟩
   ·exact .inr ⟨e,a,ha⟩
theorem lookup_mem {α:Type}:∀ {ns:List (Str×α)} {x:Str} {k:α},ns.lookup x=some k→(x,k)∈ns
 | [],_,_,h=>by cases h
 | (n,j)::r,x,k,h=>by
  simp only [List.lookup_cons] at h
  cases hx:(x==n) with
  | true=>
   rw [hx] at h
   cases h
   have:x=n:=by simpa using hx
   subst this
   exact List.mem_cons_self
  | false=>rw [hx] at h;exact List.mem_cons_of_mem _ (lookup_mem h)
noncomputable def rlb (env:Env) (p:Str×NameKind):Str×NameKind:=if (p.2==NameKind.free&&env.scope.kind==.function&&env.kindOf p.1==some .cell) then (p.1,NameKind.cell) else (p.1,p.2)
theorem rlb_fst (env:Env) (p:Str×NameKind):(rlb env p).1=p.1:=by
 unfold rlb
 split <;> rfl
theorem rlb_free (env:Env) (n:Str):(rlb env (n,.free)).2=.cell∨(rlb env (n,.free)).2=.free:=by
 unfold rlb
 split
 ·exact .inl rfl
 ·exact .inr rfl
theorem rlb_back (env:Env) (p:Str×NameKind) (hn:p.2≠.cell) (h:(rlb env p).2=.cell∨(rlb env p).2=.free):p.2=.free:=by
 unfold rlb at h
 split at h
 ·rename_i hc
  have h1:=(Bool.and_eq_true _ _).mp hc
  have h2:=(Bool.and_eq_true _ _).mp h1.1
  simpa using h2.1
 ·rcases h with h | h
  ·exact absurd h hn
  ·exact h
theorem lookup_consP {α:Type} (x:Str) (p:Str×α) (r:List (Str×α)):(p::r).lookup x=if (x==p.1)=true then some p.2 else r.lookup x:=by
 obtain ⟨n,k⟩:=p
 rw [List.lookup_cons]
 cases (x==n) <;> rfl
theorem relabel_free {env:Env}:∀ {names:List (Str×NameKind)} {x:Str},names.lookup x=some .free→(names.map (rlb env)).lookup x=some .cell∨(names.map (rlb env)).lookup x=some .free
 | [],_,h=>by cases h
 | (n,k)::r,x,h=>by
  have ih:=@relabel_free env r x
  rw [List.map_cons,lookup_consP,rlb_fst]
  rw [lookup_consP] at h
  by_cases hx:(x==n)=true
  ·rw [if_pos hx] at h ⊢
   cases h
   rcases rlb_free env n with e | e
   ·exact .inl (congrArg some e)
   ·exact .inr (congrArg some e)
  ·rw [if_neg hx] at h ⊢
   exact ih h
theorem relabel_back {env:Env}:∀ {names:List (Str×NameKind)} {x:Str},(∀ y∈names,y.2≠.cell)→((names.map (rlb env)).lookup x=some .cell∨(names.map (rlb env)).lookup x=some .free)→(x,NameKind.free)∈names
 | [],_,_,h=>by rcases h with h | h <;> cases h
 | (n,k)::r,x,hn,h=>by
  have ih:=@relabel_back env r x (fun y hy=>hn y (List.mem_cons_of_mem _ hy))
  rw [List.map_cons,lookup_consP,rlb_fst] at h
  by_cases hx:(x==n)=true
  ·rw [if_pos hx] at h
   have ex:x=n:=by simpa using hx
   subst ex
   have e:=rlb_back env (x,k) (hn _ List.mem_cons_self) (h.imp Option.some.inj Option.some.inj)
   have e':k=.free:=e
   subst e'
   exact List.mem_cons_self
  ·rw [if_neg hx] at h
   exact List.mem_cons_of_mem _ (ih h)
noncomputable def blk (X:Cx) (sc:Scope) (M:List Str) (C:Addr) (fp:List Addr) (s:Shared) (H:Hp):Cx:=
 { X with N:=M,s₀:=s,H₀:=H,env:=compEnvC sc (closL X.env sc.names []) C X.env,outer:=X.stack,stack:=X.stack,ex:=fp,fn:=fun _=>false,pn:=[],xe:=fun _ _=>False }
inductive FmOk (N:List Str) (sc:Scope):List Str→List (Option Nat)→Prop
 | nil:FmOk N sc [] []
 | own {x M fm}:FmOk N sc M fm→FmOk N sc (x::M) (none::fm)
 | free {x M fm} (j:Nat):N[j]? =some x→sc.names.lookup x=some .free→FmOk N sc M fm→FmOk N sc (x::M) (some j::fm)
noncomputable def fmSt (fm:List (Option Nat)) (σ:St):St:=fm.map fun o=>match o with | none=>none | some j=>(σ[j]?).join
theorem FmOk.len {N:List Str} {sc:Scope}:∀ {M:List Str} {fm:List (Option Nat)},FmOk N sc M fm→fm.length=M.length
 | _,_,.nil=>rfl
 | _,_,.own h=>by simp [h.len]
 | _,_,.free _ _ _ h=>by simp [h.len]
theorem FmOk.get {N:List Str} {sc:Scope} {σ:St}:∀ {M:List Str} {fm:List (Option Nat)} {i:Nat} {x:Str} {v:V},FmOk N sc M fm→M[i]? =some x→(fmSt fm σ)[i]? =some (some v)→∃ (j:Nat),N[j]? =some x∧sc.names.lookup x=some .free∧σ[j]? =some (some v)
 | _,_,i,x,v,.nil,e,_=>by simp at e
 | _,_,0,x,v,.own h,e,q=>by simp [fmSt] at q
 | _,_,0,x,v,.free j a b h,e,q=>by
  simp at e
  subst e
  refine ⟨j,a,b,?_⟩
  have q':(σ[j]?).join=some v:=by simpa [fmSt] using q
  cases hs:σ[j]? with
  | none=>rw [hs] at q';cases q'
  | some o=>
   rw [hs] at q'
   have:o=some v:=q'
   rw [this]
 | _,_,i + 1,x,v,.own h,e,q=>h.get (i:=i) (by simpa using e) (by simpa [fmSt] using q)
 | _,_,i + 1,x,v,.free j a b h,e,q=>h.get (i:=i) (by simpa using e) (by simpa [fmSt] using q)
section
variable {X:Cx} {pins:List (Addr×Obj)} {σ:St} {H:Hp} {s:Shared} {sc:Scope} {M:List Str} {C:Addr} {fp:List Addr}
theorem blk_ok (I:Inv X pins σ H s) (hf:∀ b∈fp,FpOk X pins H b) (hl:∀ b∈fp,b < s.heap.objs.size) (hC:s.heap.objs.size≤C) (fr:FrOk X.env sc.names) (hk:sc.kind=.function):(blk X sc M C fp s H).Ok where
 mod:=I.ok.mod
 kind:=hk
 glob:=I.ok.glob
 blt:=I.ok.blt
 above:=hC
 inj:=fun x y c e1 e2=>I.ok.inj x y c (closL_sub (fun _ _ z=>by cases z) x c e1) (closL_sub (fun _ _ z=>by cases z) y c e2)
 has:=fun x h=>by
  have hm:(x,NameKind.free)∈sc.names:=relabel_back (env:=X.env) fr.nocell h
  exact closL_has (.inr ⟨hm,I.ok.has x (fr.free hm)⟩)
 cab:=fun x c h _=>by cases h
 hd:=I.ok.hd
 frames:=I.ok.frames
 stk:=.inl rfl
 exf:=fun b hb=>⟨Nat.ne_of_lt (Nat.lt_of_lt_of_le (hl b hb) hC),fun x c e=>(hf b hb).2.2.2.2.1 x c (closL_sub (fun _ _ z=>by cases z) x c e)⟩
 bs:=I.bs
 bsz:=Nat.le_trans I.ok.bsz I.sz
 noex:=fun b o e hb=>by
  rcases (hf b hb).2.2.2.1 with z | z
  ·exact I.ok.noex b o e z
  ·exact absurd (Nat.lt_of_lt_of_le (Heap.lt_size (I.ok.bs b o e).1) z) (Nat.lt_irrefl _)
 exfs:=fun b hb hs=>by
  rcases List.mem_cons.mp (I.stkSub b hs) with e | e
  ·exact (hf b hb).2.1 e
  ·exact (hf b hb).2.2.1 e
 funs:=I.stack
 frf:=I.stkFree
theorem blk_in {h₁:Heap} {t:Nat} {pl:List (Addr×Obj)} {m:Str→Option Value} {fm:List (Option Nat)} (I:Inv X pins σ H s) (hf:∀ b∈fp,FpOk X pins H b) (hl:∀ b∈fp,b < s.heap.objs.size) (hC:s.heap.objs.size≤C) (fr:FrOk X.env sc.names) (hk:sc.kind=.function)
  (hfm:FmOk X.N sc M fm) (k:∀ b o,s.heap.get? b=some o→h₁.get? b=some o) (hn:h₁.Ns C m)
  (hp:∀ p∈pl,h₁.get? p.1=some p.2∧H p.1=none∧p.1≠C∧p.1∉frs X.stack∧∀ v,p.2.data≠.cell v):Inv (blk X sc M C fp s H) pl (fmSt fm σ) H { s with heap:=h₁,toks:=t } where
 ok:=blk_ok I hf hl hC fr hk
 os:=rfl
 bare:=I.bare
 base:=Un.kept k
 loc:=⟨m,hn,fun i x v e1 e2 e3=>by
  obtain ⟨j,a,b,c⟩:=hfm.get e1 e2
  obtain ⟨m',hn',hl'⟩:=I.loc
  have hm:=lookup_mem b
  have hk':=fr.free hm
  have vis:Vis X.env.scope x:=by
   rcases hk' with z | z
   ·exact .inr (.inl z)
   ·exact .inr (.inr z)
  obtain ⟨u,r,l⟩:=hl' j x v a c vis
  refine ⟨u,r,.inr ⟨relabel_free b,?_⟩⟩
  rcases l with ⟨z,_⟩ | ⟨_,cc,hcc,hcell⟩
  ·rcases hk' with y | y <;> (rw [z] at y;cases y)
  ·obtain ⟨c2,e2⟩:=closL_has (env:=X.env) (ns:=sc.names) (cs:=[]) (x:=x) (.inr ⟨hm,cc,hcc⟩)
   have e3:=closL_sub (fun _ _ z=>by cases z) x c2 e2
   rw [hcc] at e3
   cases e3
   refine ⟨cc,e2,?_⟩
   obtain ⟨o,ho,hd⟩:=hcell
   exact ⟨o,k _ _ ho,hd⟩⟩
 cell:=fun x c e=>by
  obtain ⟨v,o,ho,hd⟩:=I.cell x c (closL_sub (fun _ _ z=>by cases z) x c e)
  exact ⟨v,o,k _ _ ho,hd⟩
 free:=I.hok.fresh hC
 freeC:=fun x c e=>I.freeC x c (closL_sub (fun _ _ z=>by cases z) x c e)
 pin:=fun p hp'=>by
  have hp':p∈pl:=by simpa [blk] using hp'
  exact hp p hp'
 hok:=I.hok.kept k
 len:=by simp [fmSt,hfm.len,blk]
end
end L2
namespace L2
open PySem PySem.Spec PyProof.Rows
theorem compLoop_any {prog:Program} {w:World} {A:Around} {R:Result→Shared→Prop} {s:Shared} {elt target iter:Expr} {ifs:List Expr} {scope:Scope} {pos:Pos} {it acc:Value} {env:Env} (I:Nat→Shared→Prop)
  (turn:∀ n s,I n s→wpAny (model prog w) A (pyNext it) (fun r s₁=>match r with
   | none=>R (.ok .next) s₁
   | some v=>wpAny (model prog w) A (letOwnedTupleGo target it v) (fun _ s₁'=>wpAny (model prog w) A (assign target env v) (fun _ s₂=>
     wpAny (model prog w) A (forIn ifs true fun c r=>if r=true then do let ok ←isTrue c env (eval c env);pure (ForInStep.yield ok) else pure (ForInStep.yield r)) (fun ok s₃=>
      if ok=true then wpAny (model prog w) A (eval elt env) (fun x s₄=>
       wpAny (model prog w) A (call (.builtin "list.append") [acc,x]) (fun _ s₅=>∃ m,m < n∧I m s₅) (fun _ _=>False) s₄) (fun _ _=>False) s₃
      else ∃ m,m < n∧I m s₃) (fun _ _=>False) s₂) (fun _ _=>False) s₁') (fun _ _=>False) s₁) (fun _ _=>False) s)
  (n:Nat) (h:I n s):
  codeAny (model prog w) A (.compLoop (.ListComp elt [⟨target,iter,ifs,0⟩] scope pos) 0 it acc env) R s:=by
 refine codeAny_loop rfl I (fun n s hI=>?_) n h
 show wpAny _ A ((compTurn (.ListComp elt [⟨target,iter,ifs,0⟩] scope pos) 0 it acc env).onRaise (fun x=>do noteFrame x env;theTreesLotGoes x)) _ _ s
 refine wpAny_noted ?_
 rw [compTurn_list]
 refine wpAny_bind (wpAny_standAt (wpAny_bind (wpAny_mono (turn n s hI) (fun r s₁ h₁=>?_) fun _ _ h'=>h'.elim)))
 cases r with
 | none=>exact wpAny_pure h₁
 | some v=>
  refine wpAny_bind (wpAny_mono h₁ (fun _ s₁' h₁'=>?_) fun _ _ h'=>h'.elim)
  refine wpAny_bind (wpAny_mono h₁' (fun _ s₂ h₂=>wpAny_bind (wpAny_mono h₂ (fun ok s₃ h₃=>?_) fun _ _ h'=>h'.elim)) fun _ _ h'=>h'.elim)
  cases ok with
  | false=>exact wpAny_pure ⟨rfl,h₃⟩
  | true=>
   exact wpAny_bind (wpAny_bind (wpAny_mono h₃ (fun x s₄ h₄=>wpAny_bind (wpAny_mono h₄ (fun _ s₅ h₅=>wpAny_pure (wpAny_pure ⟨rfl,h₅⟩)) fun _ _ h'=>h'.elim)) fun _ _ h'=>h'.elim))
noncomputable def PIf (X:Cx) (ifs:List Expr) (t:TT):Prop:=
 ∀ (pins:List (Addr×Obj)) (s:Shared) (σ:St) (H:Hp) (Q:Bool→Hp→Prop),Inv X pins σ H s→t σ H Q→
  wpAny (model X.prog X.w) X.A (forIn ifs true fun c r=>if r=true then do let ok ←isTrue c X.env (eval c X.env);pure (ForInStep.yield ok) else pure (ForInStep.yield r)) (TP X pins σ Q) X.xe s
noncomputable def tYes:TT:=fun _ H Q=>Q true H
theorem pif_nil {X:Cx}:PIf X [] tYes:=fun pins s σ H Q I h=>wpAny_tests_nil ⟨H,I,h⟩
theorem pif_one {X:Cx} {c:Expr} {t:TT} (h:PT X c t):PIf X [c] t:=fun pins s σ H Q I hw=>wpAny_tests_one (h pins s σ H Q I hw)
noncomputable def GK (fm:List (Option Nat)) (g:TG):Prop:=∀ (x:V) (σ:St) (H:Hp) (Q:St→Hp→Prop),g x σ H Q→g x σ H fun σ' H'=>Q σ' H'∧∀ (i j:Nat),fm[i]? =some (some j)→σ'[i]? =σ[i]?
noncomputable def GKs (fm:List (Option Nat)) (g:TGs):Prop:=∀ (xs:List V) (σ:St) (H:Hp) (Q:St→Hp→Prop),g xs σ H Q→g xs σ H fun σ' H'=>Q σ' H'∧∀ (i j:Nat),fm[i]? =some (some j)→σ'[i]? =σ[i]?
theorem gk_name {fm:List (Option Nat)} {i:Nat} (h:fm[i]? =some none):GK fm (gName i):=fun x σ H Q q=>⟨q,fun i' j e=>by
 by_cases hi:i=i'
 ·subst hi;rw [h] at e;cases e
 ·exact List.getElem?_set_ne hi⟩
theorem gks_nil {fm:List (Option Nat)}:GKs fm gNil:=fun xs σ H Q ⟨e,q⟩=>⟨e,q,fun _ _ _=>rfl⟩
theorem gks_cons {fm:List (Option Nat)} {i:Nat} {u:TGs} (h:fm[i]? =some none) (h2:GKs fm u):GKs fm (gCons (gName i) u):=fun xs σ H Q ⟨v,r,e,q⟩=>⟨v,r,e,by
 have q2:=h2 r (σ.set i (some v)) H Q q
 have mono:∀ (σ0 σ1:St),σ1=σ0.set i (some v)→(u r σ1 H fun σ' H'=>Q σ' H'∧∀ (i j:Nat),fm[i]? =some (some j)→σ'[i]? =σ1[i]?)=(u r σ1 H fun σ' H'=>Q σ' H'∧∀ (i j:Nat),fm[i]? =some (some j)→σ'[i]? =σ0[i]?):=fun σ0 σ1 e1=>by
  subst e1
  congr 1
  funext σ' H'
  apply propext
  constructor
  ·rintro ⟨a,b⟩
   refine ⟨a,fun i' j e=>(b i' j e).trans ?_⟩
   by_cases hi:i=i'
   ·subst hi;rw [h] at e;cases e
   ·exact List.getElem?_set_ne hi
  ·rintro ⟨a,b⟩
   refine ⟨a,fun i' j e=>(b i' j e).trans ?_⟩
   by_cases hi:i=i'
   ·subst hi;rw [h] at e;cases e
   ·exact (List.getElem?_set_ne hi).symm
 show u r (σ.set i (some v)) H _
 rw [←mono σ _ rfl]
 exact q2⟩
theorem gk_tup {K:PySem.W.Frag} {fm:List (Option Nat)} {n:Nat} {t:TGs} (h:GKs fm t):GK fm (gTup K n t):=fun x σ H Q ⟨a,xs,e,q,l,r⟩=>⟨a,xs,e,q,l,h xs σ H Q r⟩
theorem fm_slot {fm:List (Option Nat)} {σ:St} {i:Nat} {v:V} (e:(fmSt fm σ)[i]? =some (some v)):∃ j,fm[i]? =some (some j):=by
 unfold fmSt at e
 rw [List.getElem?_map] at e
 cases h:fm[i]? with
 | none=>rw [h] at e;cases e
 | some o=>
  cases o with
  | none=>rw [h] at e;cases e
  | some j=>exact ⟨j,rfl⟩
noncomputable def tLC (wi:TI) (fm:List (Option Nat)) (g:TG) (tt:TT) (te:TE):TE:=fun σ H Q=>wi σ H fun J H1=>∃ W:Nat→Nat→List V→Hp→Prop,(∃ m,W 0 m [] H1)∧∀ i m ys H,W i m ys H→
 (J.stop i H∧∀ p,H p=none→Q (.ref p) (upd H p (.lst ys)))∨
 (J.go i H∧ys.length < sizeLine∧∃ N:List V→Hp→Prop,(∀ ys' H',N ys' H'→∃ m',m' < m∧W (i + 1) m' ys' H')∧
  ∀ x H',J.yld i H x H'→g x (fmSt fm σ) H' fun σ2 H2=>tt σ2 H2 fun ok H3=>if ok=true then te σ2 H3 fun v H4=>N (ys++[v]) H4 else N ys H3)
section
variable {X:Cx} {pins:List (Addr×Obj)} {σ:St} {sc:Scope} {M:List Str} {fm:List (Option Nat)} {tg iter elt:Expr} {ifs:List Expr} {pos:Pos} {g:TG} {tt:TT} {te:TE}
theorem comp_core {it:Addr} {fp:List Addr} {tn:Nat→Heap→Prop} {J:It} {H2:Hp} {s2:Shared} {E:Value→Shared→Prop} {RR:Value→Addr→Result→Shared→Prop} {Q:VK} (hc:X.calm=true)
  (I2:Inv X pins σ H2 s2) (T:Turn X.prog X.w X.K tg J fp it tn) (st:tn 0 s2.heap) (hf:∀ b∈fp,FpOk X pins H2 b) (fr:FrOk X.env sc.names) (hk:sc.kind=.function) (hfm:FmOk X.N sc M fm) (hgk:GK fm g)
  (hB:∀ C fp s H,PG (blk X sc M C fp s H) tg g∧PIf (blk X sc M C fp s H) ifs tt∧PE (blk X sc M C fp s H) elt te)
  (W:Nat→Nat→List V→Hp→Prop) (hw:∃ m,W 0 m [] H2)
  (turn:∀ i m ys H,W i m ys H→(J.stop i H∧∀ p,H p=none→Q (.ref p) (upd H p (.lst ys)))∨
   (J.go i H∧ys.length < sizeLine∧∃ N:List V→Hp→Prop,(∀ ys' H',N ys' H'→∃ m',m' < m∧W (i + 1) m' ys' H')∧
    ∀ x H',J.yld i H x H'→g x (fmSt fm σ) H' fun σ2 H2=>tt σ2 H2 fun ok H3=>if ok=true then te σ2 H3 fun v H4=>N (ys++[v]) H4 else N ys H3))
  (hRR:∀ D C H' m s',s'.heap.Ns C m→Inv X pins σ H' s'→FpOk X pins H' C→Q (.ref D) H'→RR (.ref D) C (.ok .next) s'):
  wpAny (model X.prog X.w) X.A (newList []) (fun acc s₃=>wpAny (model X.prog X.w) X.A (newFunctionEnv sc X.env.globals (closL X.env sc.names []) [] X.env.qual none .none (some X.env)) (fun cenv s₄=>
   codeAny (model X.prog X.w) X.A (.compStart (.ListComp elt [⟨tg,iter,ifs,0⟩] sc pos) 0 (.ref it) acc { cenv with scope:=relabel sc X.env }) (RR acc cenv.locals) s₄) E s₃) E s2:=by
 have hl:∀ b∈fp,b < s2.heap.objs.size:=fun b hb=>by
  obtain ⟨o,e,_⟩:=T.obj _ _ st b hb
  exact Heap.lt_size e
 refine wpAny_newObj_type (wpAny_newFunctionEnv fr.nocell (by intro y hy;simp at hy) (fun h₁ hns₁ hsb₁=>?_) hk)
 dsimp only at hns₁ hsb₁ ⊢
 generalize hH2:s2.heap.push { cls:=.type "list",dict:=none,data:=.seq ([]:List Value).toArray }=G2 at hns₁ hsb₁ ⊢
 have hC:G2.objs.size=s2.heap.objs.size + 1:=by rw [←hH2,Heap.size_push]
 have hCle:s2.heap.objs.size≤G2.objs.size:=by rw [hC];exact Nat.le_succ _
 have hDC:s2.heap.objs.size≠G2.objs.size:=by rw [hC];exact Nat.ne_of_lt (Nat.lt_succ_self _)
 have below:∀ b,b < s2.heap.objs.size→b≠G2.objs.size:=fun b hb=>Nat.ne_of_lt (Nat.lt_of_lt_of_le hb hCle)
 have old:∀ b o,s2.heap.get? b=some o→h₁.get? b=some o:=fun b o e=>hsb₁.extBut b o (below b (Heap.lt_size e)) (Heap.get?_push_of_some _ (hH2▸Heap.get?_push_of_some _ e))
 have hacc:h₁.PlainList s2.heap.objs.size #[]:=⟨_,hsb₁.extBut _ _ hDC (Heap.get?_push_of_some _ (hH2▸Heap.get?_push_size _ rfl))⟩
 have hst₁:tn 0 h₁:=T.keep _ _ _ st fun b _ o e=>old b o e
 obtain ⟨B1,B2,B3⟩:=hB G2.objs.size fp s2 H2
 have hDfs:s2.heap.objs.size∉frs X.stack:=fun hb=>by
  rcases List.mem_cons.mp (I2.stkSub _ hb) with e | e
  ·exact absurd I2.lt (by rw [←e];exact Nat.lt_irrefl _)
  ·exact I2.nofs (Nat.le_refl _) e
 have hDf:s2.heap.objs.size∉fp:=fun hb=>Nat.lt_irrefl _ (hl _ hb)
 have fpB:∀ {pl:List (Addr×Obj)} {H':Hp},(∀ b∈fp,H' b=none)→(∀ p∈pl,p.1∉fp)→∀ b∈fp,FpOk (blk X sc M G2.objs.size fp s2 H2) pl H' b:=fun {pl H'} hn hp b hb=>by
  refine ⟨hn b hb,below b (hl b hb),fun z=>?_,.inl hb,fun x c e=>(hf b hb).2.2.2.2.1 x c (closL_sub (fun _ _ z=>by cases z) x c e),fun p hp' z=>?_⟩
  ·rcases List.mem_cons.mp (I2.stkSub b z) with e | e
   ·exact (hf b hb).2.1 e
   ·exact (hf b hb).2.2.1 e
  ·have hp'':p∈pl:=by simpa [blk] using hp'
   exact hp p hp'' (z▸hb)
 have loop:∀ s₃:Shared,s₃={ s2 with heap:=h₁,toks:=s2.toks + ([]:List (Str×Value)).length }→
   codeAny (model X.prog X.w) X.A (.compLoop (.ListComp elt [⟨tg,iter,ifs,0⟩] sc pos) 0 (.ref it) (.ref s2.heap.objs.size) (compEnvC sc (closL X.env sc.names []) G2.objs.size X.env)) (RR (.ref s2.heap.objs.size) G2.objs.size) s₃:=by
  rintro s₃ rfl
  obtain ⟨m0,w0⟩:=hw
  refine compLoop_any (fun n s'=>∃ (i:Nat) (ys:List V) (its:List Value) (k:Nat) (H':Hp),Inv (blk X sc M G2.objs.size fp s2 H2) [(s2.heap.objs.size,{ cls:=.type "list",data:=.seq its.toArray k })] (fmSt fm σ) H' s'∧Vals ys its∧ys.length≤sizeLine∧
   tn i s'.heap∧(∀ b∈fp,H' b=none)∧W i n ys H') ?_ m0 ?_
  ·rintro n s' ⟨i,ys,its,k,H',I',rv,hz,st',fn',w'⟩
   have np:∀ p∈[((s2.heap.objs.size,{ cls:=.type "list",data:=.seq its.toArray k }):Addr×Obj)],p.1∉fp:=fun p hp=>by
    rcases List.mem_singleton.mp hp with rfl
    exact hDf
   rcases turn i n ys H' w' with ⟨stop,qn⟩ | ⟨go,hz',N,hN,step⟩
   ·refine thn (T.done (blk X sc M G2.objs.size fp s2 H2) rfl rfl rfl hc i _ s' _ H' _ I' (fpB fn' np) st' stop) fun r s4 ⟨hr,I4⟩=>?_
    subst hr
    obtain ⟨eD,nD,_,_,_⟩:=I4.pin _ (List.mem_append_right _ List.mem_cons_self)
    obtain ⟨m4,hn4,_⟩:=I4.loc
    have u4:Un (frs X.stack) fp H2 H' s2.heap s4.heap:=I4.base
    have eD':s4.heap.get? s2.heap.objs.size=some { cls:=.type "list",data:=.seq its.toArray k }:=eD
    have nD':H' s2.heap.objs.size=none:=nD
    have ne:∀ b,b < s2.heap.objs.size→b≠s2.heap.objs.size:=fun b hb=>Nat.ne_of_lt hb
    have hok:HOk X.prog X.w (upd H' s2.heap.objs.size (.lst ys)) s4.heap:=fun b ob e=>by
     by_cases hb:b=s2.heap.objs.size
     ·subst hb
      rw [upd_same] at e
      cases e
      exact ⟨hz,its,k,rv,eD'⟩
     ·rw [upd_ne hb] at e
      exact (I4.hok b ob e).stay (fun _ _ _ q=>q) (fun c q=>by rw [upd_ne (ne_of_none q nD')];exact q) fun c xs q=>by rw [upd_ne (ne_of_none q nD')];exact q
    have u5:Un (frs X.stack) fp H2 (upd H' s2.heap.objs.size (.lst ys)) s2.heap s4.heap:=
     ⟨u4.keep,u4.slot,fun b o e n hx=>by rw [upd_ne (ne b (Heap.lt_size e))];exact u4.free b o e n hx,u4.there,
      fun b xs e=>by have:=u4.tups b xs e;rw [upd_ne (ne_of_none this nD')];exact this,
      fun b o u e=>by have:=u4.frzs b o u e;rw [upd_ne (ne_of_none this nD')];exact this,
      fun b ps e=>by obtain ⟨mo,this⟩:=u4.tbls b ps e;exact ⟨mo,by rw [upd_ne (ne_of_none this nD')];exact this⟩⟩
    have I5:Inv X pins σ (upd H' s2.heap.objs.size (.lst ys)) s4:=
     I2.call' I4.os u5 hok I4.bare fun b hb=>⟨(hf b hb).2.2.2.1,(hf b hb).2.1,(hf b hb).2.2.2.2.1,(hf b hb).2.2.2.2.2⟩
    refine hRR _ _ _ m4 s4 hn4 I5 (I2.fpOk hCle ?_) (qn _ nD')
    rw [upd_ne (Ne.symm hDC)]
    exact I4.free
   ·refine thn (T.item (blk X sc M G2.objs.size fp s2 H2) rfl rfl rfl hc i _ s' _ H' _ I' (fpB fn' np) st' go) fun r s4 ⟨u,hr,h4⟩=>?_
    subst hr
    refine thn h4 fun _ s5 ⟨x,H5,I5,r5,y5,st5,fr5⟩=>?_
    have I5':=I5.pinned (fpB fr5 np) (T.obj _ _ st5)
    refine thn (B1 _ s5 _ H5 x u _ I5' r5 (hgk _ _ _ _ (step x H5 y5))) fun _ s6 ⟨σ6,H6,I6,q6,k6⟩=>?_
    refine thn (B2 _ s6 σ6 H6 _ I6 q6) fun ok s7 ⟨H7,I7,q7⟩=>?_
    have len6:(fmSt fm σ).length=σ6.length:=I'.len.trans I6.len.symm
    have wk:∀ (j:Nat) (v:V),(fmSt fm σ)[j]? =some (some v)→σ6[j]? =some (some v):=fun j v e=>by
     obtain ⟨j',e'⟩:=fm_slot e
     rw [k6 j j' e']
     exact e
    have back:∀ {σ8:St} {H8:Hp} {s8:Shared},Inv (blk X sc M G2.objs.size fp s2 H2) ([(s2.heap.objs.size,{ cls:=.type "list",data:=.seq its.toArray k })]++pinsAt fp s5.heap) σ8 H8 s8→tn (i + 1) s8.heap∧∀ b∈fp,H8 b=none:=fun {σ8 H8 s8} I8=>by
     refine ⟨T.keep _ _ _ st5 fun b hb o e=>(I8.pin (b,o) (List.mem_append_right _ (List.mem_append_right _ (mem_pinsAt hb e)))).1,fun b hb=>?_⟩
     obtain ⟨o,e,d⟩:=T.obj _ _ st5 b hb
     exact (I8.pin (b,o) (List.mem_append_right _ (List.mem_append_right _ (mem_pinsAt hb e)))).2.1
    cases ok with
    | false=>
     rw [if_neg Bool.false_ne_true] at q7
     rw [if_neg Bool.false_ne_true]
     obtain ⟨m',hm,w7⟩:=hN ys H7 q7
     exact ⟨m',hm,i + 1,ys,its,k,H7,(I7.weak len6 wk).unpinned,rv,hz,(back I7).1,(back I7).2,w7⟩
    | true=>
     rw [if_pos rfl] at q7
     rw [if_pos rfl]
     refine thn (B3 _ s7 σ6 H7 _ I7 q7) fun y s8 ⟨v,H8,I8,r8,q8⟩=>?_
     obtain ⟨st8,fr8⟩:=back I8
     obtain ⟨m',hm,w8⟩:=hN _ H8 q8
     obtain ⟨eD,nD,_,_,_⟩:=I8.pin _ (List.mem_append_right _ (List.mem_append_left _ List.mem_cons_self))
     have hits:its.toArray.size=ys.length:=by simp [rv.length]
     refine wpAny_list_append_plain (items:=its.toArray) ⟨k,eD⟩ (fun h' hpl hsb=>?_) (by rw [hits];exact hz)
     obtain ⟨k',ek⟩:=hpl
     have ek':h'.get? s2.heap.objs.size=some { cls:=.type "list",data:=.seq (its++[y]).toArray k' }:=by simpa using ek
     have np8:∀ p∈pinsAt fp s5.heap,p.1≠s2.heap.objs.size:=fun p hp z=>hDf (z▸(of_pinsAt hp).1)
     have I9:Inv (blk X sc M G2.objs.size fp s2 H2) (pinsAt fp s5.heap) σ6 H8 s8:=I8.pins_of fun p hp=>I8.pin p (List.mem_append_right _ (List.mem_append_right _ hp))
     have I10:Inv (blk X sc M G2.objs.size fp s2 H2) (pinsAt fp s5.heap) σ6 H8 { s8 with heap:=h',toks:=s8.toks }:=
      I9.turned (it:=s2.heap.objs.size) (fun b o hb e=>hsb.extBut b o hb e) nD hDC (.inr (Nat.le_refl _)) (fun x c e z=>by
       obtain ⟨v',q⟩:=I2.cell x c (closL_sub (fun _ _ z=>by cases z) x c e)
       exact absurd (show c < s2.heap.objs.size from q.lt) (by rw [z];exact Nat.lt_irrefl _)) fun p hp=>np8 p (by simpa [blk] using hp)
     have I11:Inv (blk X sc M G2.objs.size fp s2 H2) [(s2.heap.objs.size,{ cls:=.type "list",data:=.seq (its++[y]).toArray k' })] (fmSt fm σ) H8 { s8 with heap:=h',toks:=s8.toks }:=
      (I10.weak len6 wk).pins_of fun p hp=>by
       rcases List.mem_singleton.mp hp with rfl
       exact ⟨ek',nD,hDC,hDfs,fun _ z=>nomatch z⟩
     refine ⟨m',hm,i + 1,ys++[v],its++[y],k',H8,I11,rv.append (.cons r8 .nil),?_,?_,fr8,w8⟩
     ·rw [List.length_append];exact hz'
     ·exact T.keep _ _ _ st8 fun b hb o e=>hsb.extBut b o (fun z=>hDf (z▸hb)) e
  ·obtain ⟨k0,e0⟩:=hacc
   refine ⟨0,[],[],k0,H2,blk_in I2 hf hl hCle fr hk hfm old hns₁ fun p hp=>?_,.nil,Nat.zero_le _,hst₁,fun b hb=>(hf b hb).1,w0⟩
   rcases List.mem_singleton.mp hp with rfl
   exact ⟨e0,I2.hok.fresh (Nat.le_refl _),hDC,hDfs,fun _ z=>nomatch z⟩
 exact codeAny_compStart_list (loop _ rfl) (T.self _ 0 _ _ _ hst₁ (loop _ rfl))
end
end L2
namespace L2
open PySem PySem.Spec PyProof.Rows
section
variable {X:Cx} {sc:Scope} {M:List Str} {fm:List (Option Nat)} {tg iter elt:Expr} {ifs:List Expr} {pos:Pos} {g:TG} {tt:TT} {te:TE} {wi:TI}
theorem Inv.letGo {pins:List (Addr×Obj)} {σ:St} {H:Hp} {s:Shared} {C:Addr} {h':Heap} (I:Inv X pins σ H s) (f:FpOk X pins H C) (hs:Heap.SameBut C s.heap h'):Inv X pins σ H { s with heap:=h' }:=
 I.turned (t':=s.toks) (it:=C) (fun b o hb e=>hs.extBut b o hb e) f.1 f.2.1 f.2.2.2.1 f.2.2.2.2.1 f.2.2.2.2.2
theorem pe_lc (hc:X.calm=true) (fr:FrOk X.env sc.names) (hfm:FmOk X.N sc M fm) (hgk:GK fm g) (hk:sc.kind=.function) (hnm:∀ y∈sc.names,y.2=.local→sc.names.lookup y.1=some .local) (hi:PI X tg iter wi)
  (hB:∀ C fp s H,PG (blk X sc M C fp s H) tg g∧PIf (blk X sc M C fp s H) ifs tt∧PE (blk X sc M C fp s H) elt te) (hs:∀ x,foldedSetIterable iter X.env x=pure x:=by intro _;rfl):
  PE X (.ListComp elt [⟨tg,iter,ifs,0⟩] sc pos) (tLC wi fm g tt te):=by
 intro pins s σ H Q I h
 rw [eval_ListComp]
 have hclos:=closure_eq (env:=X.env) (sc:=sc) fun n hn=>I.ok.has n (fr.free hn)
 refine wpAny_comprehension_free (use:=none) rfl hs hclos hk hnm (thn (hi pins s σ H _ I h) fun v s1 h1=>thn h1 fun itv s2 h2=>?_)
 obtain ⟨it,fp,tn,J,H2,e,I2,T,st2,f2,W,w0,turn⟩:=h2
 subst e
 refine comp_core (Q:=Q) (RR:=fun acc C=>compPost (model X.prog X.w) X.A X.xe none (EP X pins σ Q) acc C) hc I2 T st2 f2 fr hk hfm hgk hB W w0 turn ?_
 intro D C H' m s' hn I' f' q
 exact ⟨m,hn,fun h' hs'=>⟨.ref D,H',I'.letGo f' hs',rfl,q⟩⟩
theorem ps_set_lc {i:Nat} {x:Str} {px pst:Pos} (hN:X.N.Nodup) (hix:X.N[i]? =some x) (hx:X.env.kindOf x=some .local) (hsw:swapsWith (.ListComp elt [⟨tg,iter,ifs,0⟩] sc pos) (some (.Name x px)) pst.line X.env=pure true)
  (hc:X.calm=true) (fr:FrOk X.env sc.names) (hfm:FmOk X.N sc M fm) (hgk:GK fm g) (hk:sc.kind=.function) (hnm:∀ y∈sc.names,y.2=.local→sc.names.lookup y.1=some .local) (hi:PI X tg iter wi)
  (hB:∀ C fp s H,PG (blk X sc M C fp s H) tg g∧PIf (blk X sc M C fp s H) ifs tt∧PE (blk X sc M C fp s H) elt te) (hs:∀ x,foldedSetIterable iter X.env x=pure x:=by intro _;rfl):
  PS X (.Assign [.Name x px] (.ListComp elt [⟨tg,iter,ifs,0⟩] sc pos) pst) (tAsg (tLC wi fm g tt te) (gName i)):=by
 intro pins s σ H D I h
 rw [exec_Assign_Name_used _ _ _ _ hsw]
 refine wpAny_bind (wpAny_standAt (wpAny_bind ?_))
 show wpAny _ _ (do let _ ←comprehension (.ListComp elt [⟨tg,iter,ifs,0⟩] sc pos) sc X.env _ (newList []) false (eval iter X.env) (some (assign (.Name x px) X.env))) _ _ s
 have hclos:=closure_eq (env:=X.env) (sc:=sc) fun n hn=>I.ok.has n (fr.free hn)
 refine wpAny_bind (wpAny_mono (wpAny_comprehension_free (use:=some (assign (.Name x px) X.env)) (Q:=fun _ s'=>SP X pins D .next s') rfl hs hclos hk hnm (thn (hi pins s σ H _ I h) fun v s1 h1=>thn h1 fun itv s2 h2=>?_))
  (fun _ s' hq=>wpAny_pure (wpAny_pure hq)) fun _ _ e=>e)
 obtain ⟨it,fp,tn,J,H2,e,I2,T,st2,f2,W,w0,turn⟩:=h2
 subst e
 refine comp_core (Q:=fun v H'=>gName i v σ H' D.nx) (RR:=fun acc C=>compPost (model X.prog X.w) X.A X.xe (some (assign (.Name x px) X.env)) (fun _ s'=>SP X pins D .next s') acc C) hc I2 T st2 f2 fr hk hfm hgk hB W w0 turn ?_
 intro Da C H' m s' hn I' f' q
 show wpAny _ _ (assign (.Name x px) X.env (.ref Da)) _ _ s'
 refine wpAny_assign_Name (store_ok2 (v:=.ref Da) I' hN hix (.inl hx) rfl (fun s2 I2' hs2=>?_) (.inr hx))
 obtain ⟨a,hsb,ha⟩:=hs2
 have hCa:C≠a:=by
  rcases ha with rfl | ha
  ·exact f'.2.1
  ·exact (f'.2.2.2.2.1 x a ha).symm
 exact ⟨m,hn.sameBut hsb hCa,fun h' hs'=>⟨_,H',I2'.letGo f' hs',q⟩⟩
end
end L2
namespace L2
open PySem PySem.Spec PyProof.Rows
mutual
inductive Is (H:Hp):V→PyData→Prop
 | non:Is H .non .none
 | bl (b:Bool):Is H (.bl b) (.bool b)
 | int (i:Int):Is H (.int i) (.int i)
 | str (x:Str):Is H (.str x) (.str x)
 | tup {a:Addr} {xs:List V} {ds:List PyData}:H a=some (.tup xs)→IsAll H xs ds→Is H (.ref a) (.tuple ds)
 | lst {a:Addr} {xs:List V} {ds:List PyData}:Rd H a (.lst xs)→IsAll H xs ds→Is H (.ref a) (.list ds)
inductive IsAll (H:Hp):List V→List PyData→Prop
 | nil:IsAll H [] []
 | cons {v:V} {d:PyData} {vs:List V} {ds:List PyData}:Is H v d→IsAll H vs ds→IsAll H (v::vs) (d::ds)
end
theorem IsAll.length {H:Hp}:∀ {vs:List V} {ds:List PyData},IsAll H vs ds→vs.length=ds.length
 | _,_,.nil=>rfl
 | _,_,.cons _ t=>by simp [t.length]
theorem IsAll.get {H:Hp}:∀ {vs:List V} {ds:List PyData} {i:Nat} {d:PyData},IsAll H vs ds→ds[i]? =some d→∃ v,vs[i]? =some v∧Is H v d
 | _,_,_,_,.nil,e=>by simp at e
 | _,_,0,_,.cons h t,e=>by simp at e;subst e;exact ⟨_,rfl,h⟩
 | _,_,i + 1,d,.cons h t,e=>by
  obtain ⟨v,a,b⟩:=t.get (i:=i) (d:=d) (by simpa using e)
  exact ⟨v,by simpa using a,b⟩
theorem IsAll.get' {H:Hp}:∀ {vs:List V} {ds:List PyData} {i:Nat} {v:V},IsAll H vs ds→vs[i]? =some v→∃ d,ds[i]? =some d∧Is H v d
 | _,_,_,_,.nil,e=>by simp at e
 | _,_,0,_,.cons h t,e=>by simp at e;subst e;exact ⟨_,rfl,h⟩
 | _,_,i + 1,d,.cons h t,e=>by
  obtain ⟨v,a,b⟩:=t.get' (i:=i) (v:=d) (by simpa using e)
  exact ⟨v,by simpa using a,b⟩
theorem IsAll.append {H:Hp}:∀ {vs:List V} {ds:List PyData} {us:List V} {es:List PyData},IsAll H vs ds→IsAll H us es→IsAll H (vs++us) (ds++es)
 | _,_,_,_,.nil,s=>s
 | _,_,_,_,.cons h t,s=>.cons h (t.append s)
theorem IsAll.snoc {H:Hp} {vs:List V} {ds:List PyData} {v:V} {d:PyData} (h:IsAll H vs ds) (q:Is H v d):IsAll H (vs++[v]) (ds++[d]):=h.append (.cons q .nil)
theorem IsAll.take {H:Hp}:∀ {vs:List V} {ds:List PyData} (n:Nat),IsAll H vs ds→IsAll H (vs.take n) (ds.take n)
 | _,_,0,_=>.nil
 | _,_,_ + 1,.nil=>.nil
 | _,_,n + 1,.cons h t=>.cons h (t.take n)
theorem IsAll.drop {H:Hp}:∀ {vs:List V} {ds:List PyData} (n:Nat),IsAll H vs ds→IsAll H (vs.drop n) (ds.drop n)
 | _,_,0,h=>h
 | _,_,_ + 1,.nil=>.nil
 | _,_,n + 1,.cons h t=>t.drop n
theorem IsAll.ints {H:Hp}:∀ ns:List Int,IsAll H (ns.map V.int) (ns.map PyData.int)
 | []=>.nil
 | n::ns=>.cons (.int n) (IsAll.ints ns)
theorem IsAll.of_ints {H:Hp}:∀ {vs:List V} {ns:List Int},IsAll H vs (ns.map PyData.int)→vs=ns.map V.int
 | _,[],h=>by cases h;rfl
 | _,n::ns,h=>by
  rw [List.map_cons] at h
  cases h with
  | cons h1 t=>
  cases h1
  rw [List.map_cons,t.of_ints]
mutual
theorem Is.mono {H H':Hp} (ht:∀ a xs,H a=some (.tup xs)→H' a=some (.tup xs)) (hl:∀ a xs,Rd H a (.lst xs)→Rd H' a (.lst xs)):∀ {v:V} {d:PyData},Is H v d→Is H' v d
 | _,_,.non=>.non
 | _,_,.bl b=>.bl b
 | _,_,.int i=>.int i
 | _,_,.str x=>.str x
 | _,_,.tup e h=>.tup (ht _ _ e) (IsAll.mono ht hl h)
 | _,_,.lst e h=>.lst (hl _ _ e) (IsAll.mono ht hl h)
theorem IsAll.mono {H H':Hp} (ht:∀ a xs,H a=some (.tup xs)→H' a=some (.tup xs)) (hl:∀ a xs,Rd H a (.lst xs)→Rd H' a (.lst xs)):∀ {vs:List V} {ds:List PyData},IsAll H vs ds→IsAll H' vs ds
 | _,_,.nil=>.nil
 | _,_,.cons h t=>.cons (Is.mono ht hl h) (IsAll.mono ht hl t)
end
mutual
noncomputable def noL:PyData→Bool
 | .none | .bool _ | .int _ | .str _=>true
 | .tuple xs=>noLs xs
 | .list _ | .dict _=>false
noncomputable def noLs:List PyData→Bool
 | []=>true
 | x::xs=>noL x&&noLs xs
end
mutual
theorem Is.tmono {H H':Hp} (ht:∀ a xs,H a=some (.tup xs)→H' a=some (.tup xs)):∀ {v:V} {d:PyData},noL d=true→Is H v d→Is H' v d
 | _,_,_,.non=>.non
 | _,_,_,.bl b=>.bl b
 | _,_,_,.int i=>.int i
 | _,_,_,.str x=>.str x
 | _,_,n,.tup e h=>.tup (ht _ _ e) (IsAll.tmono ht (by simpa [noL] using n) h)
 | _,_,n,.lst e h=>by simp [noL] at n
theorem IsAll.tmono {H H':Hp} (ht:∀ a xs,H a=some (.tup xs)→H' a=some (.tup xs)):∀ {vs:List V} {ds:List PyData},noLs ds=true→IsAll H vs ds→IsAll H' vs ds
 | _,_,_,.nil=>.nil
 | _,_,n,.cons h t=>by
  rw [noLs,Bool.and_eq_true] at n
  exact .cons (Is.tmono ht n.1 h) (IsAll.tmono ht n.2 t)
end
theorem Same.rd {H H':Hp} (e:Same H H') {a:Addr} {u:HO} (h:Rd H a u):Rd H' a u:=by
 rcases h with h | ⟨o,h⟩
 ·exact .inl (e _ _ h)
 ·exact .inr ⟨o,e _ _ h⟩
theorem Is.same {H H':Hp} (e:Same H H') {v:V} {d:PyData} (h:Is H v d):Is H' v d:=h.mono (fun _ _ q=>e _ _ q) fun _ _ q=>e.rd q
theorem IsAll.same {H H':Hp} (e:Same H H') {v:List V} {d:List PyData} (h:IsAll H v d):IsAll H' v d:=h.mono (fun _ _ q=>e _ _ q) fun _ _ q=>e.rd q
section
variable {X:Cx} {pins:List (Addr×Obj)} {σ:St} {H:Hp} {s:Shared}
mutual
theorem Is.reads (I:Inv X pins σ H s):∀ {v:V} {d:PyData} {u:Value},Is H v d→RelV v u→∃ as,Reads s.heap u d as
 | _,_,_,.non,r=>by cases (show _=Value.none from r);exact ⟨_,.none⟩
 | _,_,_,.bl b,r=>by cases (show _=Value.bool b from r);exact ⟨_,.bool b⟩
 | _,_,_,.int i,r=>by obtain ⟨t,rfl⟩:=r;exact ⟨_,.int i t⟩
 | _,_,_,.str x,r=>by obtain ⟨t,rfl⟩:=r;exact ⟨_,.str x t⟩
 | _,_,_,.tup (a:=a) e h,r=>by
  cases (show _=Value.ref a from r)
  obtain ⟨its,rv,⟨o,h1,h2,n,h3⟩,_⟩:=I.tuple (SqT.of e)
  obtain ⟨as,ra⟩:=IsAll.reads I h rv
  exact ⟨_,.tuple h1 h2 h3 (by simpa using ra)⟩
 | _,_,_,.lst (a:=a) e h,r=>by
  cases (show _=Value.ref a from r)
  obtain ⟨its,rv,⟨o,n,h1,h2,_,h3⟩,_⟩:=I.list (.inl e)
  obtain ⟨as,ra⟩:=IsAll.reads I h rv
  exact ⟨_,.list h1 h2 h3 (by simpa using ra)⟩
theorem IsAll.reads (I:Inv X pins σ H s):∀ {vs:List V} {ds:List PyData} {us:List Value},IsAll H vs ds→Vals vs us→∃ as,ReadsAll s.heap us ds as
 | _,_,_,.nil,.nil=>⟨_,.nil⟩
 | _,_,_,.cons h t,.cons r q=>by
  obtain ⟨as,ra⟩:=Is.reads I h r
  obtain ⟨bs,rb⟩:=IsAll.reads I t q
  exact ⟨_,.cons ra rb⟩
end
end
noncomputable def okD (d:PyData):Prop:=d.canLay0=true∧d.depth≤40
noncomputable def okDs (ds:List PyData):Prop:=PyData.canLayAll0 ds=true∧PyData.depthAll ds≤40
section
variable {X:Cx}
noncomputable def rEqD (neg:Bool):R2:=fun x y H Q=>∃ d e,Is H x d∧Is H y e∧okD d∧okD e∧Q (.bl (if neg then !PyData.eqv d e else PyData.eqv d e)) H
theorem op_eqD (hu:X.A.units + 64 < cLine):OpR X (compareOp .Eq) (rEqD false):=by
 intro pins s σ H x y v u Q I rx ry h
 obtain ⟨d,e,hx,hy,od,oe,q⟩:=h
 obtain ⟨as,ra⟩:=hx.reads I rx
 obtain ⟨bs,rb⟩:=hy.reads I ry
 exact SeqAt.compareEq_reads ra rb od.1 oe.1 (by have:=od.2;omega) ⟨.bl _,H,I,rfl,q⟩
theorem op_neD (hu:X.A.units + 64 < cLine):OpR X (compareOp .NotEq) (rEqD true):=by
 intro pins s σ H x y v u Q I rx ry h
 obtain ⟨d,e,hx,hy,od,oe,q⟩:=h
 obtain ⟨as,ra⟩:=hx.reads I rx
 obtain ⟨bs,rb⟩:=hy.reads I ry
 exact SeqAt.compareNe_reads ra rb od.1 oe.1 (by have:=od.2;omega) ⟨.bl _,H,I,rfl,q⟩
noncomputable def inD (d:PyData) (ds:List PyData):Bool:=ds.any fun y=>PyData.eqv y d
noncomputable def rInD (neg:Bool):R2:=fun x y H Q=>∃ d ds,Is H x d∧(Is H y (.tuple ds)∨Is H y (.list ds))∧okD d∧okDs ds∧Q (.bl (if neg then !inD d ds else inD d ds)) H
theorem op_inD (hu:X.A.units + 64 < cLine):OpR X (compareOp .In) (rInD false):=by
 intro pins s σ H x y v u Q I rx ry h
 obtain ⟨d,ds,hx,hy,od,oe,q⟩:=h
 obtain ⟨as,ra⟩:=hx.reads I rx
 rcases hy with hy | hy
 ·obtain ⟨bs,rb⟩:=hy.reads I ry
  exact SeqAt.in_tuple_reads rb ra oe.1 od.1 (by have:=od.2;omega) ⟨.bl _,H,I,rfl,q⟩
 ·obtain ⟨bs,rb⟩:=hy.reads I ry
  exact SeqAt.in_list_reads rb ra oe.1 od.1 (by have:=od.2;omega) ⟨.bl _,H,I,rfl,q⟩
theorem op_notInD (hu:X.A.units + 64 < cLine):OpR X (compareOp .NotIn) (rInD true):=by
 intro pins s σ H x y v u Q I rx ry h
 obtain ⟨d,ds,hx,hy,od,oe,q⟩:=h
 obtain ⟨as,ra⟩:=hx.reads I rx
 rcases hy with hy | hy
 ·obtain ⟨bs,rb⟩:=hy.reads I ry
  exact SeqAt.notIn_tuple_reads rb ra oe.1 od.1 (by have:=od.2;omega) ⟨.bl _,H,I,rfl,q⟩
 ·obtain ⟨bs,rb⟩:=hy.reads I ry
  exact SeqAt.notIn_list_reads rb ra oe.1 od.1 (by have:=od.2;omega) ⟨.bl _,H,I,rfl,q⟩
end
noncomputable def tyD:PyData→String
 | .none=>"NoneType"
 | .bool _=>"bool"
 | .int _=>"int"
 | .str _=>"str"
 | .list _=>"list"
 | .tuple _=>"tuple"
 | .dict _=>"dict"
theorem Is.ty {K:PySem.W.Frag} {H:Hp} {v:V} {d:PyData} (h:Is H v d):TyOf K H v (.type (tyD d)):=by
 cases h with
 | non=>exact .non
 | bl b=>exact .bl b
 | int i=>exact .int i
 | str x=>exact .str x
 | tup e _=>exact .tup e
 | lst e _=>
  rcases e with e | ⟨o,e⟩
  ·exact .lst e
  ·exact .frz e
noncomputable def isTy (T:String) (d:PyData):Bool:=tyD d==T||(T=="int"&&tyD d=="bool")
theorem kit_bool {K:PySem.W.Frag} (d:PyData):PySem.W.kitOne K (.type (tyD d)) (.type "bool")=some (isTy "bool" d):=by cases d <;> with_unfolding_all rfl
theorem kit_int {K:PySem.W.Frag} (d:PyData):PySem.W.kitOne K (.type (tyD d)) (.type "int")=some (isTy "int" d):=by cases d <;> with_unfolding_all rfl
theorem kit_tuple {K:PySem.W.Frag} (d:PyData):PySem.W.kitOne K (.type (tyD d)) (.type "tuple")=some (isTy "tuple" d):=by cases d <;> with_unfolding_all rfl
theorem kit_list {K:PySem.W.Frag} (d:PyData):PySem.W.kitOne K (.type (tyD d)) (.type "list")=some (isTy "list" d):=by cases d <;> with_unfolding_all rfl
theorem kit_str {K:PySem.W.Frag} (d:PyData):PySem.W.kitOne K (.type (tyD d)) (.type "str")=some (isTy "str" d):=by cases d <;> with_unfolding_all rfl
theorem kit_dict {K:PySem.W.Frag} (d:PyData):PySem.W.kitOne K (.type (tyD d)) (.type "dict")=some (isTy "dict" d):=by cases d <;> with_unfolding_all rfl
section
variable {X:Cx}
theorem call_isinst:CallR X (.builtin "isinstance") (fun xs H Q=>∃ x T d,xs=[x,.ty T]∧T∈(["bool","int","tuple","list","str","dict"]:List String)∧Is H x d∧Q (.bl (isTy T d)) H):=by
 intro pins s σ H xs us Q I r h
 obtain ⟨x,T,d,rfl,hT,hx,q⟩:=h
 obtain ⟨u,v,rfl,rx,ry⟩:=Vals.two r
 cases (show v=Value.type T from ry)
 have fin:∀ {b:Bool},PySem.W.kitOne X.K (.type (tyD d)) (.type T)=some b→b=isTy T d→wpAny (model X.prog X.w) X.A (call (.builtin "isinstance") [u,.type T]) (EP X pins σ Q) X.xe s:=fun {b} e eb=>by
  subst eb
  exact isinst_ok I rx hx.ty e fun tk=>⟨.bl _,H,I.tok tk,rfl,q⟩
 simp only [List.mem_cons,List.not_mem_nil,or_false] at hT
 rcases hT with rfl | rfl | rfl | rfl | rfl | rfl
 ·exact fin (kit_bool d) rfl
 ·exact fin (kit_int d) rfl
 ·exact fin (kit_tuple d) rfl
 ·exact fin (kit_list d) rfl
 ·exact fin (kit_str d) rfl
 ·exact fin (kit_dict d) rfl
end
end L2
set_option maxHeartbeats 4000000
namespace L2
open PySem PySem.Spec PyProof.Rows
noncomputable def Run {α:Type} (lt:Nat→Nat→Bool) (n:Nat):PySem.W.KasT α→(α→Prop)→Prop
 | .ret a,Q=>Q a
 | .ask i j k,Q=>i < n∧j < n∧Run lt n (k (lt i j)) Q
section
variable {lt:Nat→Nat→Bool} {n:Nat}
theorem Run.mono {α:Type} {Q Q':α→Prop} (h:∀ a,Q a→Q' a):∀ {t:PySem.W.KasT α},Run lt n t Q→Run lt n t Q'
 | .ret a,q=>h a q
 | .ask i j k,⟨a,b,q⟩=>⟨a,b,Run.mono h q⟩
theorem Run.bind {α β:Type} {f:α→PySem.W.KasT β} {Q:β→Prop}:∀ {t:PySem.W.KasT α},Run lt n t (fun a=>Run lt n (f a) Q)→Run lt n (t.bind f) Q
 | .ret a,q=>q
 | .ask i j k,⟨a,b,q⟩=>⟨a,b,Run.bind q⟩
theorem Run.wp {α:Type} {cmp:Nat→Nat→(Bool→Shared→Prop)→Shared→Prop} {Q:α→Prop} {R:α→Shared→Prop} {s:Shared} (hc:∀ i j C,i < n→j < n→C (lt i j) s→cmp i j C s) (hR:∀ a,Q a→R a s):
  ∀ {t:PySem.W.KasT α},Run lt n t Q→t.kasWp cmp R s
 | .ret a,q=>hR a q
 | .ask i j k,⟨a,b,q⟩=>hc i j _ a b (Run.wp hc hR q)
structure Str1 (lt:Nat→Nat→Bool) (n:Nat):Prop where
 tr:∀ i j k,i < n→j < n→k < n→lt i j=true→lt j k=true→lt i k=true
 tot:∀ i j,i < n→j < n→i≠j→lt i j=false→lt j i=true
 irr:∀ i j,i < n→j < n→lt i j=true→lt j i=false
structure Plc (n:Nat) (p:Array Nat):Prop where
 sz:p.size=n
 lt:∀ i,i < n→p.getD i 0 < n
 ne:∀ i j,i < n→j < n→i≠j→p.getD i 0≠p.getD j 0
 pm:p.toList.Perm (List.range n)
noncomputable def Up (lt:Nat→Nat→Bool) (p:Array Nat) (k:Nat):Prop:=∀ i j,i < j→j < k→lt (p.getD i 0) (p.getD j 0)=true
noncomputable def Dn (lt:Nat→Nat→Bool) (p:Array Nat) (k:Nat):Prop:=∀ i j,i < j→j < k→lt (p.getD j 0) (p.getD i 0)=true
variable (S:Str1 lt n)
include S
theorem up_next {p:Array Nat} {k:Nat} (P:Plc n p) (h1:1≤k) (hk:k < n) (u:Up lt p k) (h:lt (p.getD (k - 1) 0) (p.getD k 0)=true):Up lt p (k + 1):=fun i j hij hj=>by
 by_cases e:j=k
 ·subst e
  by_cases e2:i=j - 1
  ·subst e2;exact h
  ·exact S.tr _ _ _ (P.lt _ (by omega)) (P.lt _ (by omega)) (P.lt _ (by omega)) (u i (j - 1) (by omega) (by omega)) h
 ·exact u i j hij (by omega)
theorem dn_next {p:Array Nat} {k:Nat} (P:Plc n p) (h1:1≤k) (hk:k < n) (u:Dn lt p k) (h:lt (p.getD k 0) (p.getD (k - 1) 0)=true):Dn lt p (k + 1):=fun i j hij hj=>by
 by_cases e:j=k
 ·subst e
  by_cases e2:i=j - 1
  ·subst e2;exact h
  ·exact S.tr _ _ _ (P.lt _ (by omega)) (P.lt _ (by omega)) (P.lt _ (by omega)) h (u i (j - 1) (by omega) (by omega))
 ·exact u i j hij (by omega)
theorem run_asc {p:Array Nat} (P:Plc n p):∀ (f k:Nat),1≤k→k + f≤n→Up lt p k→Run lt n (PySem.W.kas_asc p f k) fun r=>k≤r∧r≤k + f∧Up lt p r∧(r < k + f→lt (p.getD r 0) (p.getD (r - 1) 0)=true)
 | 0,k,_,_,u=>⟨Nat.le_refl _,Nat.le_refl _,u,fun h=>absurd h (Nat.lt_irrefl _)⟩
 | f + 1,k,h1,hn,u=>by
  refine ⟨P.lt _ (by omega),P.lt _ (by omega),?_⟩
  cases c:lt (p.getD k 0) (p.getD (k - 1) 0) with
  | true=>exact ⟨Nat.le_refl _,by omega,u,fun _=>c⟩
  | false=>
   have c':=S.tot _ _ (P.lt _ (by omega)) (P.lt _ (by omega)) (P.ne k (k - 1) (by omega) (by omega) (by omega)) c
   exact (run_asc P f (k + 1) (by omega) (by omega) (up_next S P h1 (by omega) u c')).mono fun r ⟨a,b,c,d⟩=>⟨by omega,by omega,c,fun h=>d (by omega)⟩
theorem run_desc {p:Array Nat} (P:Plc n p):∀ (f k:Nat),1≤k→k + f≤n→Dn lt p k→Run lt n (PySem.W.kas_desc f p k 0) fun r=>r.1=p∧r.2.2=0∧k≤r.2.1∧r.2.1≤k + f∧Dn lt p r.2.1
 | 0,k,_,_,u=>⟨rfl,rfl,Nat.le_refl _,Nat.le_refl _,u⟩
 | f + 1,k,h1,hn,u=>by
  refine ⟨P.lt _ (by omega),P.lt _ (by omega),?_⟩
  cases c:lt (p.getD k 0) (p.getD (k - 1) 0) with
  | true=>
   show Run lt n (if (0:Nat) > 0 then PySem.W.kas_desc f (PySem.W.kas_rev p (k - (0 + 1)) k) (k + 1) 0 else PySem.W.kas_desc f p (k + 1) 0) _
   rw [if_neg (Nat.lt_irrefl 0)]
   exact (run_desc P f (k + 1) (by omega) (by omega) (dn_next S P h1 (by omega) u c)).mono fun r ⟨a,b,c,d,e⟩=>⟨a,b,by omega,by omega,e⟩
  | false=>
   have c':=S.tot _ _ (P.lt _ (by omega)) (P.lt _ (by omega)) (P.ne k (k - 1) (by omega) (by omega) (by omega)) c
   refine ⟨P.lt _ (by omega),P.lt _ (by omega),?_⟩
   rw [c']
   exact ⟨rfl,rfl,Nat.le_refl _,Nat.le_add_right _ _,u⟩
omit S in
theorem getD_rev {p:Array Nat} {k:Nat} (hk:k≤p.size) (i:Nat):(PySem.W.kas_rev p 0 k).getD i 0=if i < k then p.getD (k - 1 - i) 0 else p.getD i 0:=by
 have e:∀ (q:Array Nat) (i:Nat),q.getD i 0=(q[i]?).getD 0:=fun q i=>by
  by_cases h:i < q.size
  ·simp [Array.getD,h]
  ·simp [Array.getD,h]
 rw [e,e,e]
 unfold PySem.W.kas_rev
 rw [getElem?_mirror hk _ (by omega)]
 by_cases h:i < k
 ·rw [if_pos h]
  by_cases h2:(0≤i∧i < 0 + (k - 0) / 2)∨(k - (k - 0) / 2≤i∧i < k)
  ·rw [if_pos h2]
   congr 2
   omega
  ·rw [if_neg h2]
   have:k - 1 - i=i:=by omega
   rw [this]
 ·rw [if_neg h,if_neg (by omega)]
omit S in
theorem rev_plc {p:Array Nat} (P:Plc n p) {k:Nat} (hk:k≤n):Plc n (PySem.W.kas_rev p 0 k) where
 sz:=(mirror_size _ _ _ _).trans P.sz
 lt:=fun i hi=>by
  rw [getD_rev (by rw [P.sz];exact hk)]
  split
  ·exact P.lt _ (by omega)
  ·exact P.lt _ hi
 ne:=fun i j hi hj hne=>by
  rw [getD_rev (by rw [P.sz];exact hk),getD_rev (by rw [P.sz];exact hk)]
  split <;> split <;> exact P.ne _ _ (by omega) (by omega) (by omega)
 pm:=(Array.perm_iff_toList_perm.mp (mirror_perm _ _ _ _)).trans P.pm
omit S in
theorem rev_up {p:Array Nat} (P:Plc n p) {k:Nat} (hk:k≤n) (d:Dn lt p k):Up lt (PySem.W.kas_rev p 0 k) k:=fun i j hij hj=>by
 rw [getD_rev (by rw [P.sz];exact hk),getD_rev (by rw [P.sz];exact hk),if_pos (by omega),if_pos hj]
 exact d _ _ (by omega) (by omega)
theorem run_tail3 {p:Array Nat} (P:Plc n p) {k:Nat} (h1:1≤k) (hk:k≤n) (d:Dn lt p k):Run lt n (PySem.W.kas_tail3 k n p) fun r=>1≤r.1∧r.1≤n∧Plc n r.2∧Up lt r.2 r.1:=by
 unfold PySem.W.kas_tail3
 refine Run.bind ((run_asc S (rev_plc P hk) (n - k) k h1 (by omega) (rev_up P hk d)).mono fun r ⟨a,b,c,_⟩=>?_)
 exact ⟨by omega,by omega,rev_plc P hk,c⟩
theorem run_count {p:Array Nat} (P:Plc n p) (h1:1≤n):Run lt n (PySem.W.kas_count n p) fun r=>1≤r.1∧r.1≤n∧Plc n r.2∧Up lt r.2 r.1:=by
 unfold PySem.W.kas_count
 refine Run.bind ((run_asc S P (n - 1) 1 (Nat.le_refl _) (by omega) (fun i j hij hj=>by omega)).mono fun r ⟨a,b,u,c⟩=>?_)
 by_cases hr:(r==n)=true
 ·rw [if_pos hr]
  exact ⟨a,by omega,P,u⟩
 ·rw [if_neg hr]
  have hr':r≠n:=by simpa using hr
  by_cases h2:r > 1
  ·rw [if_pos h2]
   refine ⟨P.lt _ (by omega),P.lt _ (by omega),?_⟩
   rw [u 0 (r - 1) (by omega) (by omega)]
   exact ⟨a,by omega,P,u⟩
  ·rw [if_neg h2]
   have er:r=1:=by omega
   subst er
   unfold PySem.W.kas_descPart
   have c0:=c (by omega)
   have d2:Dn lt p 2:=fun i j hij hj=>by
    have ei:i=0:=by omega
    have ej:j=1:=by omega
    subst ei ej
    exact c0
   refine Run.bind ((run_desc S P (n - (1 + 1)) (1 + 1) (by omega) (by omega) d2).mono fun q ⟨e1,e2,e3,e4,e5⟩=>?_)
   rw [e2,if_neg (Nat.lt_irrefl 0),e1]
   exact run_tail3 S P (by omega) (by omega) e5
theorem run_place {p:Array Nat} (P:Plc n p) {k:Nat} (hk:k < n):∀ (f l r:Nat),r≤l + f→l≤r→r≤k→(∀ i,i < l→lt (p.getD i 0) (p.getD k 0)=true)→(∀ i,r≤i→i < k→lt (p.getD k 0) (p.getD i 0)=true)→Up lt p k→
  Run lt n (PySem.W.kas_place p k f l r) fun x=>x≤k∧(∀ i,i < x→lt (p.getD i 0) (p.getD k 0)=true)∧(∀ i,x≤i→i < k→lt (p.getD k 0) (p.getD i 0)=true)
 | 0,l,r,h1,h2,h3,hl,hr,_=>by
  have e:l=r:=by omega
  subst e
  exact ⟨h3,hl,hr⟩
 | f + 1,l,r,h1,h2,h3,hl,hr,u=>by
  unfold PySem.W.kas_place
  by_cases h:l≥r
  ·rw [if_pos h]
   have e:l=r:=by omega
   subst e
   exact ⟨h3,hl,hr⟩
  ·rw [if_neg h]
   refine ⟨P.lt _ (by omega),P.lt _ (by omega),?_⟩
   cases c:lt (p.getD k 0) (p.getD ((l + r) / 2) 0) with
   | true=>
    refine run_place P hk f l ((l + r) / 2) (by omega) (by omega) (by omega) hl (fun i hi1 hi2=>?_) u
    by_cases e:i=(l + r) / 2
    ·subst e;exact c
    ·exact S.tr _ _ _ (P.lt _ (by omega)) (P.lt _ (by omega)) (P.lt _ (by omega)) c (u _ _ (by omega) (by omega))
   | false=>
    have c':=S.tot _ _ (P.lt _ (by omega)) (P.lt _ (by omega)) (P.ne k ((l + r) / 2) (by omega) (by omega) (by omega)) c
    refine run_place P hk f ((l + r) / 2 + 1) r (by omega) (by omega) h3 (fun i hi=>?_) hr u
    by_cases e:i=(l + r) / 2
    ·subst e;exact c'
    ·exact S.tr _ _ _ (P.lt _ (by omega)) (P.lt _ (by omega)) (P.lt _ (by omega)) (u _ _ (by omega) (by omega)) c'
omit S in
theorem getD_bubble {p:Array Nat} {k d:Nat} (hk:k < p.size) (hd:d≤k) (i:Nat):(bubble p k d).getD i 0=if i=k - d then p.getD k 0 else if k - d < i∧i≤k then p.getD (i - 1) 0 else p.getD i 0:=by
 have e:∀ (q:Array Nat) (i:Nat),q.getD i 0=(q[i]?).getD 0:=fun q i=>by
  by_cases h:i < q.size
  ·simp [Array.getD,h]
  ·simp [Array.getD,h]
 rw [e,e,e,e,getElem?_bubble hk d hd]
 split
 ·rfl
 ·split <;> rfl
omit S in
theorem bubble_plc {p:Array Nat} (P:Plc n p) {k d:Nat} (hk:k < n) (hd:d≤k):Plc n (bubble p k d) where
 sz:=(bubble_size _ _ _).trans P.sz
 lt:=fun i hi=>by
  rw [getD_bubble (by rw [P.sz];exact hk) hd]
  split
  ·exact P.lt _ hk
  ·split
   ·exact P.lt _ (by omega)
   ·exact P.lt _ hi
 ne:=fun i j hi hj hne=>by
  rw [getD_bubble (by rw [P.sz];exact hk) hd,getD_bubble (by rw [P.sz];exact hk) hd]
  split <;> split <;> first | (split <;> first | exact P.ne _ _ (by omega) (by omega) (by omega) | (split <;> exact P.ne _ _ (by omega) (by omega) (by omega))) | exact P.ne _ _ (by omega) (by omega) (by omega) | omega
 pm:=(Array.perm_iff_toList_perm.mp (bubble_perm _ _ _)).trans P.pm
theorem run_bin:∀ (f:Nat) (p:Array Nat) (k:Nat),Plc n p→k + f=n→1≤k→Up lt p k→Run lt n (PySem.W.kas_bin f p k) fun q=>Plc n q∧Up lt q n
 | 0,p,k,P,e,_,u=>by
  have e':k=n:=by omega
  subst e'
  exact ⟨P,u⟩
 | f + 1,p,k,P,e,h1,u=>by
  unfold PySem.W.kas_bin
  refine Run.bind ((run_place S P (by omega:k < n) k 0 k (by omega) (by omega) (Nat.le_refl _) (fun i hi=>by omega) (fun i h1 h2=>by omega) u).mono fun l ⟨hl,ha,hb⟩=>?_)
  have hp:k < p.size:=by rw [P.sz];omega
  refine run_bin f _ (k + 1) (bubble_plc P (by omega) (by omega)) (by omega) (by omega) fun i j hij hj=>?_
  rw [getD_bubble hp (by omega),getD_bubble hp (by omega)]
  have el:k - (k - l)=l:=by omega
  rw [el]
  by_cases hi:i=l
  ·rw [if_pos hi]
   rw [if_neg (by omega:¬j=l),if_pos (by omega)]
   exact hb _ (by omega) (by omega)
  ·rw [if_neg hi]
   by_cases hj':j=l
   ·rw [if_pos hj',if_neg (by omega)]
    exact ha _ (by omega)
   ·rw [if_neg hj']
    by_cases c1:l < i∧i≤k
    ·rw [if_pos c1,if_pos (by omega)]
     exact u _ _ (by omega) (by omega)
    ·rw [if_neg c1]
     by_cases c2:l < j∧j≤k
     ·rw [if_pos c2]
      exact u _ _ (by omega) (by omega)
     ·rw [if_neg c2]
      exact u _ _ (by omega) (by omega)
theorem run_sort (h1:1≤n):Run lt n (PySem.W.kas_sort n) fun q=>Plc n q∧Up lt q n:=by
 unfold PySem.W.kas_sort
 have P0:Plc n (List.toArray (List.range n)):=by
  have e:∀ i,i < n→(List.toArray (List.range n)).getD i 0=i:=fun i hi=>by simp [Array.getD,hi]
  exact ⟨by simp,fun i hi=>by rw [e i hi];exact hi,fun i j hi hj hne=>by rw [e i hi,e j hj];exact hne,List.Perm.refl _⟩
 refine Run.bind ((run_count S P0 h1).mono fun r ⟨a,b,P,u⟩=>?_)
 by_cases h:r.1 < n
 ·rw [if_pos h]
  have em:max r.1 1=r.1:=by omega
  rw [em]
  exact run_bin S _ _ _ P (by omega) a u
 ·rw [if_neg h]
  have e:r.1=n:=by omega
  rw [e] at u
  exact ⟨P,u⟩
end
end L2
namespace L2
open PySem PySem.Spec PyProof.Rows
theorem ns_one {h:Heap} {a:Addr} {m m':Str→Option Value} (x:h.Ns a m) (y:h.Ns a m'):m=m':=by
 obtain ⟨o,es,ep,e,d,_,f⟩:=x
 obtain ⟨o',es',ep',e',d',_,f'⟩:=y
 rw [e] at e';cases e'
 rw [d] at d';cases d'
 funext z
 rw [←f z,←f' z]
theorem ObjOk.there {P:Program} {w:World} {H:Hp} {h:Heap} {a:Addr} {o:HO} (x:ObjOk P w H h a o):∃ u,h.get? a=some u:=by
 cases o with
 | lst xs=>obtain ⟨_,_,_,_,e⟩:=x;exact ⟨_,e⟩
 | tup xs=>obtain ⟨_,_,_,_,o,e,_⟩:=x;exact ⟨_,e⟩
 | dK kvs=>obtain ⟨_,_,_,_,o,_,_,e,_⟩:=x;exact ⟨_,e⟩
 | dT kvs=>obtain ⟨_,_,_,_,o,_,_,e,_⟩:=x;exact ⟨_,e⟩
 | set S n=>obtain ⟨o,_,_,_,e,_⟩:=x;exact ⟨_,e⟩
 | ins C dx fs=>obtain ⟨_,_,_,e,_⟩:=x;exact ⟨_,e⟩
 | own y=>obtain ⟨_,e⟩:=x;exact ⟨_,e⟩
 | xd fs=>obtain ⟨_,⟨_,_,_,e,_⟩,_⟩:=x;exact ⟨_,e⟩
 | rng lo hi=>obtain ⟨_,_,_,e⟩:=x;exact ⟨_,e⟩
 | frz ob u=>obtain ⟨e,_⟩:=x;exact ⟨_,e⟩
 | tbl ps=>exact ⟨_,show h.get? a=some _ from x⟩
 | met f y=>exact ⟨_,show h.get? a=some _ from x⟩
 | ext φ=>obtain ⟨_,⟨_,e⟩,_⟩:=x;exact ⟨_,e⟩
section
variable {X:Cx} {pins:List (Addr×Obj)} {σ:St} {H:Hp} {s:Shared}
theorem Inv.none_of (I:Inv X pins σ H s) {a:Addr} (h:s.heap.get? a=none):H a=none:=by
 cases q:H a with
 | none=>rfl
 | some o=>
  obtain ⟨u,e⟩:=(I.hok a o q).there
  rw [h] at e;cases e
theorem Inv.laidBut {a:Addr} {xs:List V} {its:List Value} {n t':Nat} {h':Heap} {m:Str→Option Value} (I:Inv X pins σ H s) (k:∀ b u,b≠X.env.locals→s.heap.get? b=some u→h'.get? b=some u) (hm:s.heap.Ns X.env.locals m) (hm':h'.Ns X.env.locals m)
  (hp:s.heap.get? a=none) (rv:Vals xs its) (hz:xs.length≤sizeLine) (ho:h'.get? a=some { cls:=.type "list",data:=.seq its.toArray n }):Inv X pins σ (upd H a (.lst xs)) { s with heap:=h',toks:=t' }:=by
 have hn:H a=none:=I.none_of hp
 have neL:∀ b u,H b=some u→b≠X.env.locals:=fun b u e z=>by rw [z,I.free] at e;cases e
 refine I.step (g':=s.gens) (d':=s.drawn) (ch:=[]) (fun _ z=>nomatch z) (fun b o h1 _ _ e _=>k b o h1 e) (fun b o h1 _ _ e _=>⟨o.slots,k b o h1 e⟩)
  (fun b o _ e q=>by rw [upd_ne (fun z=>by rw [z,hp] at e;cases e)];exact q) (fun b o _ e=>?_)
  (fun b xs q=>by rw [upd_ne (ne_of_none q hn)];exact q) (fun b o u q=>by rw [upd_ne (ne_of_none q hn)];exact q) (fun b ps q=>⟨#[],by rw [upd_ne (ne_of_none q hn),q];simp⟩) (fun m2 h2=>?_) (fun b u e=>?_) I.bare
 ·by_cases hb:b=X.env.locals
  ·subst hb
   obtain ⟨o',_,_,e',_⟩:=hm'
   exact ⟨o',e'⟩
  ·exact ⟨o,k b o hb e⟩
 ·rw [ns_one h2 hm];exact hm'
 ·by_cases hb:b=a
  ·subst hb
   rw [upd_same] at e
   cases e
   exact ⟨hz,its,n,rv,ho⟩
  ·rw [upd_ne hb] at e
   refine (I.hok b u e).stay (fun c v hc q=>k c v ?_ q) (fun c q=>by rw [upd_ne (ne_of_none q hn)];exact q) fun c xs q=>by rw [upd_ne (ne_of_none q hn)];exact q
   rcases hc with rfl | hc
   ·exact neL _ _ e
   ·exact neL _ _ hc
end
section
variable {X:Cx}
theorem bools_of:∀ {bs:List Bool} {vs:List Value},Vals (bs.map V.bl) vs→LSm.BoolsAre vs bs
 | [],_,.nil=>.nil
 | b::bs,_,.cons r t=>by
  cases (show _=Value.bool b from r)
  exact .cons b (bools_of t)
theorem call_all (hc:X.calm=true):CallR X (.builtin "all") (fun xs H Q=>∃ (p:Addr) (bs:List Bool),xs=[.ref p]∧SqL X.K H p (bs.map V.bl)∧Q (.bl (bs.all id)) H):=by
 intro pins s σ H xs us Q I r h
 obtain ⟨p,bs,rfl,hq,q⟩:=h
 obtain ⟨u,rfl,rx⟩:=Vals.one r
 cases (show u=Value.ref p from rx)
 obtain ⟨its,rv,pl,hz⟩:=I.list hq
 obtain ⟨m,F⟩:=I.fr
 have hb:=bools_of rv
 have hl:s.heap.IsList p its.toArray:=pl.isList
 have hlt:p < s.heap.objs.size:=by obtain ⟨_,e,_⟩:=hl;exact Heap.lt_size e
 refine call_all_walk (wpAny_pyIter_list hl ?_)
 refine ⟨s.heap.objs.size,[s.heap.objs.size,p],[s.heap.objs.size],its.toArray.size,_,_,fun i=>(bs[i]?).getD true,rfl,Walks.list (A:=X.A.in1) (I.ok.hd hc) _ p (Nat.ne_of_lt hlt) its.toArray,
  ⟨⟨_,Heap.get?_push_size _ rfl,rfl,rfl⟩,hl.push _⟩,fun i v s' Q' E' hP hQ=>?_,fun h' tk hk=>?_⟩
 ·obtain ⟨b,e,rfl⟩:=hb.get i v (by simpa using hP)
  simp only [e,Option.getD_some] at hQ
  exact wpAny_truthy_bool hQ
 ·have e:((List.range its.toArray.size).all fun i=>(bs[i]?).getD true)=bs.all id:=by
   rw [List.size_toArray,hb.length];exact LSm.range_all bs
  rw [e]
  exact ⟨.bl _,H,I.kept (LSm.kept_iter hk),rfl,q⟩
end
section
variable {prog:Program} {w:World} {A:Around} {E:Value→Shared→Prop} {s:Shared}
noncomputable def Col (prog:Program) (w:World) (s:Shared) (l:Addr) (vs:List Value):Prop:=∀ (A:Around) (E:Value→Shared→Prop) (Q:List Value→Shared→Prop),
 Q vs { s with heap:=(s.heap.push (seqObj "list" #[] 0)).update s.heap.objs.size (Obj.mapSeq (· ++vs.toArray)) }→wpAny (model prog w) A (collect (.ref l)) Q E s
theorem Col.list {l:Addr} {vs:List Value} (hl:s.heap.IsList l vs.toArray) (hz:vs.length≤sizeLine):Col prog w s l vs:=fun _ _ _ h=>collect_list hl h hz
theorem Col.tup {l:Addr} {vs:List Value} (hl:IsTup s.heap l vs.toArray) (hz:vs.length≤sizeLine):Col prog w s l vs:=by
 intro A E Q h
 obtain ⟨o,ho,hc,n,hd⟩:=hl
 have ho':(s.heap.push (seqObj "list" #[] 0)).get? l=some o:=Heap.get?_push_of_some _ ho
 have e0:((#[]:Array Value)++vs.toArray).toList=vs:=by simp
 unfold collect
 refine wpAny_bind (wpAny_runValue (codeAny_builtin entry_proto_collect' ?_))
 show wpAny _ _ (do again (.builtin "list.__iadd__" ⟨[←newList [],.ref l],[]⟩)) _ _ s
 refine wpAny_bind (wpAny_newList (wpAny_pure ⟨Code.quiet_builtin _ (by decide +kernel),codeAny_builtin entry_list_iadd' ?_⟩))
 show wpAny _ _ (Builtin.List.listExtendWith (.ref s.heap.objs.size) (.ref l) (.ref s.heap.objs.size)) _ _ { s with heap:=s.heap.push (seqObj "list" #[] 0) }
 unfold Builtin.List.listExtendWith
 refine wpAny_bind (wpAny_typeOf (T:="tuple") ⟨o,ho',hc⟩ ?_)
 have ht2:(Value.type "tuple"==Value.type "tuple")=true:=by rfl
 rw [if_pos (by rw [ht2];simp)]
 refine wpAny_bind (listItems_at ho' hd ?_)
 refine wpAny_bind (listItems_at (xs:=#[]) (n:=0) (Heap.get?_push_size _ rfl) rfl ?_)
 rw [if_neg (by simp)]
 refine wpAny_bind (listUpdate_at (xs:=#[]) (n:=0) (Heap.get?_push_size _ rfl) rfl ?_ (Nat.zero_le _) (Nat.le_trans (Nat.le_of_eq (by rw [←Array.length_toList,e0])) (Nat.le_succ_of_le hz)))
 refine wpAny_pure ?_
 show wpAny (model prog w) A (do
   let ob ←load s.heap.objs.size
   match ob.data with
   | .seq xs _=>pure xs.toList
   | _=>unsupported "internal:collect") Q E { s with heap:=(s.heap.push (seqObj "list" #[] 0)).update s.heap.objs.size (Obj.mapSeq (· ++vs.toArray)) }
 refine wpAny_bind (wpAny_load (get?_update_seq (Heap.get?_push_size _ rfl) _) ?_)
 show wpAny _ _ (pure ((#[]:Array Value)++vs.toArray).toList) Q E _
 rw [e0]
 exact wpAny_pure h
theorem sorted_many {l:Addr} {vs:List Value} {Q:Value→Shared→Prop} {h₀:Heap} {L:Addr} {m:Str→Option Value} {news:List (Addr×Obj)} (F:Fr h₀ L s.heap m) (N:News h₀ L s.heap news) (hl:Col prog w s l vs) (h2:2≤vs.length) (h64:vs.length < 64)
  (h:∀ D e1 h',Fr h₀ L h' m→News h₀ L h' ((D,seqObj "list" #[] e1)::news)→(∀ q∈news,q.1 < D)→
   wpAny (model prog w) A.in1.in1 (keyKind' vs.toArray) (fun κ s'=>(PySem.W.kas_sort vs.length).kasWp (PySem.W.kas_ask prog w A.in1.in1 κ vs) (fun p s''=>PySem.W.KasFin h₀ L m D e1 (p.toList.map fun i=>vs.getD i Value.none) (fun s3=>Q (.ref D) s3) s'') s') (fun _ _=>False) { s with heap:=h' }):
  wpAny (model prog w) A (call (.builtin "sorted") [.ref l]) Q E s:=by
 have hsl:vs.length≤sizeLine:=by rw [sizeLine_eq];omega
 refine Calls.call_function_entry kind_sorted plain_sorted entry_sorted (args_sorted1 _) ?_
 unfold Builtin.«sorted»
 refine wpAny_bind (m:=checkCount "sorted" 1 1 _) (wpAny_pure ?_)
 refine wpAny_bind (hl _ _ _ ?_)
 refine wpAny_bind (wpAny_newList ?_ hsl)
 have hsz:((s.heap.push (seqObj "list" #[] 0)).update s.heap.objs.size (Obj.mapSeq (· ++vs.toArray))).objs.size=s.heap.objs.size + 1:=by
  rw [Heap.size_update,size_push']
 have hoL:(((s.heap.push (seqObj "list" #[] 0)).update s.heap.objs.size (Obj.mapSeq (· ++vs.toArray))).push (seqObj "list" vs.toArray 0)).get? (s.heap.objs.size + 1)=some (seqObj "list" vs.toArray 0):=by
  rw [←hsz];exact Heap.get?_push_size _ rfl
 have keep:∀ b o,s.heap.get? b=some o→(((s.heap.push (seqObj "list" #[] 0)).update s.heap.objs.size (Obj.mapSeq (· ++vs.toArray))).push (seqObj "list" vs.toArray 0)).get? b=some o:=fun b o q=>by
  have hlt:b < s.heap.objs.size:=Heap.lt_size q
  rw [Heap.get?_push_ne _ _ _ (by rw [hsz];exact Nat.ne_of_lt (Nat.lt_succ_of_lt hlt)),Heap.get?_update_ne _ _ _ _ (Nat.ne_of_lt hlt),Heap.get?_push_ne _ _ _ (Nat.ne_of_lt hlt)]
  exact q
 have hL:L < s.heap.objs.size:=F.ns.lt
 show wpAny _ _ _ _ _ { s with heap:=((s.heap.push (seqObj "list" #[] 0)).update s.heap.objs.size (Obj.mapSeq (· ++vs.toArray))).push (seqObj "list" vs.toArray 0) }
 rw [hsz]
 refine wpAny_bind (wpAny_holding (wpAny_call_entry slot_list_sort ⟨_,hoL,rfl⟩ entry_list_sort ?body (args_list_sort _)))
 case body=>
  refine PySem.W.kat_list_sort (s:={ s with heap:=((s.heap.push (seqObj "list" #[] 0)).update s.heap.objs.size (Obj.mapSeq (· ++vs.toArray))).push (seqObj "list" vs.toArray 0) })
   (F.kept keep) (N.grown keep) hoL (Nat.ne_of_gt (Nat.lt_succ_of_lt hL)) (Heap.get?_none_of_le (Nat.le_trans F.above (Nat.le_succ_of_le (Nat.le_of_lt hL))))
   (fun p hp=>Nat.ne_of_lt (Nat.lt_succ_of_lt (Heap.lt_size (N p hp).1))) h2 h64 fun e1 h' F' N'=>?_
  refine wpAny_mono (h _ e1 h' F' N' fun q hq=>Nat.lt_succ_of_lt (Heap.lt_size (N q hq).1)) (fun κ s' hk=>?_) fun _ _ x=>x
  rw [PySem.W.kat_ask_eq rfl] at hk ⊢
  exact PySem.W.kas_wp_mono hk fun p s'' hk'=>hk'.mono fun s3 hq=>⟨_,rfl,wpAny_pure ⟨_,rfl,hq⟩⟩
theorem sorted_few {l:Addr} {vs:List Value} {Q:Value→Shared→Prop} (hl:Col prog w s l vs) (h2:vs.length < 2)
  (h:∀ D h' n,s.heap.objs.size≤D→(∀ b o,s.heap.get? b=some o→h'.get? b=some o)→h'.get? D=some { cls:=.type "list",data:=.seq vs.toArray n }→Q (.ref D) { s with heap:=h' }):
  wpAny (model prog w) A (call (.builtin "sorted") [.ref l]) Q E s:=by
 have hsl:vs.length≤sizeLine:=by rw [sizeLine_eq];omega
 refine Calls.call_function_entry kind_sorted plain_sorted entry_sorted (args_sorted1 _) ?_
 unfold Builtin.«sorted»
 refine wpAny_bind (m:=checkCount "sorted" 1 1 _) (wpAny_pure ?_)
 refine wpAny_bind (hl _ _ _ ?_)
 refine wpAny_bind (wpAny_newList ?_ hsl)
 have hsz:((s.heap.push (seqObj "list" #[] 0)).update s.heap.objs.size (Obj.mapSeq (· ++vs.toArray))).objs.size=s.heap.objs.size + 1:=by
  rw [Heap.size_update,size_push']
 have hoL:(((s.heap.push (seqObj "list" #[] 0)).update s.heap.objs.size (Obj.mapSeq (· ++vs.toArray))).push (seqObj "list" vs.toArray 0)).get? (s.heap.objs.size + 1)=some (seqObj "list" vs.toArray 0):=by
  rw [←hsz];exact Heap.get?_push_size _ rfl
 have keep:∀ b o,s.heap.get? b=some o→(((s.heap.push (seqObj "list" #[] 0)).update s.heap.objs.size (Obj.mapSeq (· ++vs.toArray))).push (seqObj "list" vs.toArray 0)).get? b=some o:=fun b o q=>by
  have hlt:b < s.heap.objs.size:=Heap.lt_size q
  rw [Heap.get?_push_ne _ _ _ (by rw [hsz];exact Nat.ne_of_lt (Nat.lt_succ_of_lt hlt)),Heap.get?_update_ne _ _ _ _ (Nat.ne_of_lt hlt),Heap.get?_push_ne _ _ _ (Nat.ne_of_lt hlt)]
  exact q
 show wpAny _ _ _ _ _ { s with heap:=((s.heap.push (seqObj "list" #[] 0)).update s.heap.objs.size (Obj.mapSeq (· ++vs.toArray))).push (seqObj "list" vs.toArray 0) }
 rw [hsz]
 generalize ((s.heap.push (seqObj "list" #[] 0)).update s.heap.objs.size (Obj.mapSeq (· ++vs.toArray))).push (seqObj "list" vs.toArray 0)=g at hoL keep ⊢
 refine wpAny_bind (wpAny_holding (wpAny_call_entry slot_list_sort ⟨_,hoL,rfl⟩ entry_list_sort ?body (args_list_sort _)))
 case body=>
  rw [list_sort_plain]
  have ha:s.heap.objs.size + 1 < g.objs.size:=Heap.lt_size hoL
  refine wpAny_bind (listItems_at hoL rfl ?_)
  refine wpAny_bind (listUpdate_at hoL rfl ?_ (by rw [List.size_toArray];exact hsl) (Nat.zero_le _))
  obtain ⟨e1,ho1⟩:∃ e1,(g.update (s.heap.objs.size + 1) (Obj.mapSeq fun _=>(#[]:Array Value))).get? (s.heap.objs.size + 1)=some (seqObj "list" #[] e1):=⟨_,get?_update_seq hoL (fun _=>#[])⟩
  refine wpAny_bind (seqEpoch_at ho1 rfl ?_)
  refine wpAny_bind (wpAny_newTuple ?_ hsl)
  refine wpAny_bind (wpAny_newList ?_ (Nat.zero_le _))
  refine wpAny_holding ?_
  have ho6:(((g.update (s.heap.objs.size + 1) (Obj.mapSeq fun _=>(#[]:Array Value))).push (seqObj "tuple" vs.toArray 0)).push (seqObj "list" #[] 0)).get? (s.heap.objs.size + 1)=some (seqObj "list" #[] e1):=by
   rw [Heap.get?_push_ne _ _ _ (by rw [size_push',Heap.size_update];exact Nat.ne_of_lt (Nat.lt_succ_of_lt ha)),Heap.get?_push_ne _ _ _ (by rw [Heap.size_update];exact Nat.ne_of_lt ha)]
   exact ho1
  show wpAny (model prog w) _ _ _ _ { s with heap:=((g.update (s.heap.objs.size + 1) (Obj.mapSeq fun _=>(#[]:Array Value))).push (seqObj "tuple" vs.toArray 0)).push (seqObj "list" #[] 0) }
  dsimp only
  have h2':vs.toArray.size < 2:=by simpa using h2
  rw [if_pos h2',if_pos h2']
  refine wpAny_bind (wpAny_pure ?_)
  rw [StateT.run_pure]
  refine wpAny_bind (wpAny_pure ?_)
  dsimp only
  refine wpAny_bind (seqEpoch_at ho6 rfl ?_)
  have earr:(arrOf (SortSt.mk' general' (vs.toArray.zip vs.toArray) #[] 7 none)).map (·.2)=vs.toArray:=by
   show (pairsOf vs).map (·.2)=vs.toArray
   apply Array.toList_inj.mp
   rw [Array.toList_map,pairsOf_toList]
   have e:∀ l:List Value,(l.zip l).map (·.2)=l:=fun l=>by
    induction l with
    | nil=>rfl
    | cons a r ih=>rw [List.zip_cons_cons,List.map_cons,ih]
   rw [e]
  refine wpAny_bind (listUpdate_at ho6 rfl ?_ (Nat.zero_le _) (hsz2:=by rw [earr,List.size_toArray];exact Nat.le_succ_of_le hsl))
  simp only [bne_self_eq_false,Bool.false_eq_true,if_false]
  refine wpAny_pure ⟨_,rfl,wpAny_pure ⟨_,rfl,?_⟩⟩
  have s2:=get?_update_seq ho6 fun _=>vs.toArray
  rw [earr]
  refine h _ _ _ (Nat.le_succ _) (fun b o q=>?_) s2
  have hlt:b < s.heap.objs.size:=Heap.lt_size q
  have hlt2:b < g.objs.size:=Heap.lt_size (keep b o q)
  rw [Heap.get?_update_ne _ _ _ _ (Nat.ne_of_lt (Nat.lt_succ_of_lt hlt)),Heap.get?_push_ne _ _ _ (by rw [size_push',Heap.size_update];exact Nat.ne_of_lt (Nat.lt_succ_of_lt hlt2)),Heap.get?_push_ne _ _ _ (by rw [Heap.size_update];exact Nat.ne_of_lt hlt2),
   Heap.get?_update_ne _ _ _ _ (Nat.ne_of_lt (Nat.lt_succ_of_lt hlt))]
  exact keep b o q
end
end L2
namespace L2
open PySem PySem.Spec PyProof.Rows
theorem lex_irr:∀ a:List Int,HT.lexLt a a=false
 | []=>rfl
 | x::a=>by rw [HT.lexLt_cons,if_pos rfl];exact lex_irr a
theorem lex_asym:∀ {a b:List Int},HT.lexLt a b=true→HT.lexLt b a=false
 | [],[],h=>by cases h
 | [],_::_,_=>rfl
 | _::_,[],h=>by cases h
 | x::a,y::b,h=>by
  rw [HT.lexLt_cons] at h ⊢
  by_cases e:x=y
  ·rw [if_pos e] at h
   rw [if_pos e.symm]
   exact lex_asym h
  ·rw [if_neg e] at h
   rw [if_neg (Ne.symm e)]
   have:=of_decide_eq_true h
   exact decide_eq_false (by omega)
theorem lex_tot:∀ {a b:List Int},a≠b→HT.lexLt a b=false→HT.lexLt b a=true
 | [],[],h,_=>(h rfl).elim
 | [],_::_,_,h=>by cases h
 | _::_,[],_,_=>rfl
 | x::a,y::b,hne,h=>by
  rw [HT.lexLt_cons] at h ⊢
  by_cases e:x=y
  ·rw [if_pos e] at h
   rw [if_pos e.symm]
   exact lex_tot (fun z=>hne (by rw [e,z])) h
  ·rw [if_neg e] at h
   rw [if_neg (Ne.symm e)]
   have:=of_decide_eq_false h
   exact decide_eq_true (by omega)
theorem lex_tr:∀ {a b c:List Int},HT.lexLt a b=true→HT.lexLt b c=true→HT.lexLt a c=true
 | [],_,[],h1,h2=>by
  rename_i b
  cases b
  ·exact h1
  ·cases h2
 | [],_,_::_,_,_=>rfl
 | _::_,[],_,h,_=>by cases h
 | _::_,_::_,[],_,h=>by cases h
 | x::a,y::b,z::c,h1,h2=>by
  rw [HT.lexLt_cons] at h1 h2 ⊢
  by_cases e1:x=y
  ·rw [if_pos e1] at h1
   by_cases e2:y=z
   ·rw [if_pos e2] at h2
    rw [if_pos (e1.trans e2)]
    exact lex_tr h1 h2
   ·rw [if_neg e2] at h2
    rw [if_neg (by rw [e1];exact e2),e1]
    exact h2
  ·rw [if_neg e1] at h1
   by_cases e2:y=z
   ·rw [if_pos e2] at h2
    rw [if_neg (by rw [←e2];exact e1),←e2]
    exact h1
   ·rw [if_neg e2] at h2
    have p:=of_decide_eq_true h1
    have q:=of_decide_eq_true h2
    rw [if_neg (by omega)]
    exact decide_eq_true (by omega)
section
variable {prog:Program} {w:World} {A:Around} {E:Value→Shared→Prop} {s:Shared}
theorem lex_ints {b:Bool} {Q:Bool→Shared→Prop}:∀ {ns ms:List Int} {vs us:List Value} (i:Nat),Vals (ns.map V.int) vs→Vals (ms.map V.int) us→ns.length=ms.length→Q (HT.lexLt ns ms) s→
  PySem.W.KatLex prog w A b false Q (vs.zip us) i s
 | [],[],_,_,_,.nil,.nil,_,q=>q
 | [],_::_,_,_,_,_,_,h,_=>by simp at h
 | _::_,[],_,_,_,_,_,h,_=>by simp at h
 | n::ns,m::ms,_,_,i,.cons r1 t1,.cons r2 t2,h,q=>by
  obtain ⟨t,rfl⟩:=r1
  obtain ⟨u,rfl⟩:=r2
  rw [List.zip_cons_cons]
  refine PySem.W.kat_cons (SeqAt.EqAt.int_int n t m u prog w _ _ ?_)
  rw [HT.lexLt_cons] at q
  by_cases e:n=m
  ·rw [if_pos e] at q
   rw [show (n==m)=true by simpa using e]
   exact PySem.W.kat_yes (lex_ints (i + 1) t1 t2 (by simpa using h) q)
  ·rw [if_neg e] at q
   rw [show (n==m)=false by simpa using e]
   refine PySem.W.kat_no ?_
   cases hb:(b&&i==0) with
   | true=>exact oneLt_int q
   | false=>exact PySem.W.kat_one _ _ (lt_int (show PySem.W.BoolBack Q (.bool (decide (n < m))) s from q))
theorem lex_pre {b:Bool} {Q:Bool→Shared→Prop} {ns ms:List Int}:∀ {ps:List Str} {vs us:List Value} (i:Nat),Vals (ps.map V.str++ns.map V.int) vs→Vals (ps.map V.str++ms.map V.int) us→ns.length=ms.length→Q (HT.lexLt ns ms) s→
  PySem.W.KatLex prog w A b false Q (vs.zip us) i s
 | [],_,_,i,h1,h2,h,q=>lex_ints i h1 h2 h q
 | p::ps,_,_,i,.cons r1 t1,.cons r2 t2,h,q=>by
  obtain ⟨t,rfl⟩:=r1
  obtain ⟨u,rfl⟩:=r2
  rw [List.zip_cons_cons]
  refine PySem.W.kat_cons (SeqAt.EqAt.str_str p t p u prog w _ _ ?_)
  rw [beq_self_eq_true]
  exact PySem.W.kat_yes (lex_pre (i + 1) t1 t2 h q)
end
noncomputable def tupOf (ps:List Str) (ns:List Int):PyData:=.tuple (ps.map .str++ns.map .int)
theorem IsAll.preInts {H:Hp} {ns:List Int}:∀ {ps:List Str} {vs:List V},IsAll H vs (ps.map PyData.str++ns.map PyData.int)→vs=ps.map V.str++ns.map V.int
 | [],_,h=>h.of_ints
 | p::ps,_,h=>by
  rw [List.map_cons,List.cons_append] at h
  cases h with
  | cons h1 t=>
  cases h1
  have:=IsAll.preInts (ps:=ps) t
  rw [this]
  rfl
theorem katTups_of {h:Heap} {G:Value→Prop}:∀ (its:List Value),(∀ (i:Nat) u,its[i]? =some u→∃ (a:Addr) (o:Obj) (zs:Array Value) (n:Nat) (f:Value),u=.ref a∧h.get? a=some o∧o.cls=.type "tuple"∧o.data=.seq zs n∧zs[0]? =some f∧G f)→
  ∃ fs,PySem.W.KatTups h its fs∧fs.length=its.length∧∀ v∈fs,G v
 | [],_=>⟨[],PySem.W.KatTups.nil,rfl,fun _ h=>nomatch h⟩
 | u::its,hi=>by
  obtain ⟨fs,t,l,g⟩:=katTups_of its fun i u e=>hi (i + 1) u (by simpa using e)
  obtain ⟨a,o,zs,n,f,rfl,h1,h2,h3,h4,h5⟩:=hi 0 u rfl
  refine ⟨f::fs,PySem.W.KatTups.cons h1 h2 h3 h4 t,by simp [l],fun v hv=>?_⟩
  rcases List.mem_cons.mp hv with rfl | hv
  ·exact h5
  ·exact g v hv
theorem map_getD_range {α:Type} (d:α) (l:List α):(List.range l.length).map (fun i=>l.getD i d)=l:=by
 apply List.ext_getElem?
 intro i
 rw [List.getElem?_map]
 by_cases h:i < l.length
 ·rw [List.getElem?_range h]
  simp [h]
 ·rw [List.getElem?_eq_none (by simpa using h),List.getElem?_eq_none (by simpa using h)]
  rfl
section
variable {X:Cx}
noncomputable def rSorted (K:PySem.W.Frag):List V→Hp→VK→Prop:=fun xs H Q=>∃ (p:Addr) (vs:List V) (ps:List Str) (nss:List (List Int)) (k:Nat),xs=[.ref p]∧(SqL K H p vs∨SqT K H p vs)∧IsAll H vs (nss.map (tupOf ps))∧(∀ ns∈nss,ns.length=k)∧0 < ps.length + k∧nss.Nodup∧nss.length < 64∧
 ∀ (l:Addr) (vs':List V) (nss':List (List Int)),H l=none→IsAll H vs' (nss'.map (tupOf ps))→nss'.Perm nss→nss'.Pairwise (fun a b=>HT.lexLt a b=true)→Q (.ref l) (upd H l (.lst vs'))
theorem call_sorted:CallR X (.builtin "sorted") (rSorted X.K):=by
 intro pins s σ H xs us Q I r h
 obtain ⟨p,vs,ps,nss,k,rfl,hq,ha,hk,hpos,hnd,h64,q⟩:=h
 obtain ⟨u,rfl,rx⟩:=Vals.one r
 cases (show u=Value.ref p from rx)
 obtain ⟨its,rv,hl,hz⟩:∃ its,Vals vs its∧Col X.prog X.w s p its∧vs.length≤sizeLine:=by
  rcases hq with hq | hq
  ·obtain ⟨its,rv,pl,hz⟩:=I.list hq
   exact ⟨its,rv,Col.list pl.isList (by rw [←rv.length];exact hz),hz⟩
  ·obtain ⟨its,rv,pl,hz⟩:=I.tuple hq
   exact ⟨its,rv,Col.tup pl (by rw [←rv.length];exact hz),hz⟩
 have e1:vs.length=nss.length:=by rw [ha.length,List.length_map]
 have e2:its.length=nss.length:=by rw [←rv.length,e1]
 by_cases h2:its.length < 2
 ·refine sorted_few hl h2 fun D h' n hD hkeep ho=>?_
  refine ⟨.ref D,_,I.laid (t':=s.toks) (o:=.lst vs) hkeep hD ⟨hz,its,n,rv,ho⟩,rfl,q D vs nss (I.hok.fresh hD) ha (List.Perm.refl _) ?_⟩
  match nss,e2,h2 with
  | [],_,_=>exact .nil
  | [a],_,_=>exact List.pairwise_singleton _ _
  | a::b::r,e2,h2=>simp at e2;omega
 ·obtain ⟨m,F⟩:=I.fr
  refine sorted_many F (news:=allNews X.base s.heap X.env.locals) news_all hl (by omega) (by omega) fun D e0 h' F' N' hD=>?_
  have hkeep:∀ b o,b≠X.env.locals→s.heap.get? b=some o→h'.get? b=some o:=fun b o hb e=>by
   cases qb:X.base.get? b with
   | some u=>
    have:=I.bk b u qb
    rw [e] at this;cases this
    exact F'.keep b _ qb
   | none=>exact (N' (b,o) (List.mem_cons_of_mem _ (mem_allNews hb qb e))).1
  have item:∀ (i:Nat) (ns:List Int),nss[i]? =some ns→∃ (a:Addr) (o:Obj) (zs:List Value) (n:Nat),its.getD i Value.none=.ref a∧h'.get? a=some o∧o.cls=.type "tuple"∧o.data=.seq zs.toArray n∧Vals (ps.map V.str++ns.map V.int) zs:=fun i ns e=>by
   obtain ⟨v,ev,iv⟩:=ha.get (i:=i) (d:=tupOf ps ns) (by rw [List.getElem?_map,e];rfl)
   obtain ⟨u,eu,ru⟩:=rv.get ev
   unfold tupOf at iv
   cases iv with
   | @tup a xs _ ea hxs=>
    obtain rfl:=hxs.preInts
    obtain ⟨zs,rz,⟨o,h1,h2,n,h3⟩,_⟩:=I.tuple (SqT.of ea)
    have hL:a≠X.env.locals:=fun z=>by rw [z,I.free] at ea;cases ea
    refine ⟨a,o,zs,n,?_,hkeep a o hL h1,h2,h3,rz⟩
    rw [List.getD_eq_getElem?_getD,eu]
    exact ru
  obtain ⟨T,fs,tups,hfl,hT,hTT⟩:∃ (T:String) (fs:List Value),PySem.W.KatTups h' its fs∧fs.length=its.length∧(∀ v∈fs,typeOf v=pure (Value.type T))∧(Value.type T==Value.type T)=true:=by
   have go:∀ T:String,(∀ (ns:List Int) (zs:List Value),ns.length=k→Vals (ps.map V.str++ns.map V.int) zs→∃ f,zs.toArray[0]? =some f∧typeOf f=pure (Value.type T))→
     ∃ (fs:List Value),PySem.W.KatTups h' its fs∧fs.length=its.length∧(∀ v∈fs,typeOf v=pure (Value.type T)):=fun T hf=>
    katTups_of its fun i u eu=>by
     have hi:i < nss.length:=by rw [←e2];exact (List.getElem?_eq_some_iff.mp eu).1
     obtain ⟨a,o,zs,n,g1,g2,g3,g4,g5⟩:=item i nss[i] (List.getElem?_eq_getElem hi)
     rw [List.getD_eq_getElem?_getD,eu] at g1
     obtain ⟨f,f1,f2⟩:=hf _ zs (hk _ (List.getElem_mem hi)) g5
     exact ⟨a,o,zs.toArray,n,f,g1,g2,g3,g4,f1,f2⟩
   cases hps:ps with
   | nil=>
    obtain ⟨fs,a,b,c⟩:=go "int" fun ns zs hn rz=>by
     subst hps
     match ns,zs,rz,hn with
     | [],_,_,hn=>simp at hpos;subst hn;simp at hpos
     | n::ns,_,.cons r _,_=>
      obtain ⟨t,rfl⟩:=r
      exact ⟨_,rfl,rfl⟩
    exact ⟨"int",fs,a,b,c,rfl⟩
   | cons p1 pr=>
    obtain ⟨fs,a,b,c⟩:=go "str" fun ns zs hn rz=>by
     subst hps
     match zs,rz with
     | _,.cons r _=>
      obtain ⟨t,rfl⟩:=r
      exact ⟨_,rfl,rfl⟩
    exact ⟨"str",fs,a,b,c,rfl⟩
  refine PySem.W.kat_kind tups (by omega) (fun v hv=>PySem.W.Looks.of_pure (hT v hv)) hTT ?_
  have S:Str1 (fun i j=>HT.lexLt (nss.getD i []) (nss.getD j [])) its.length:=⟨fun i j k _ _ _ a b=>lex_tr a b,fun i j hi hj hne a=>lex_tot (fun z=>hne ?_) a,fun i j _ _ a=>lex_asym a⟩
  ·rw [e2]
   rw [e2] at S
   refine Run.wp (fun i j C hi hj hC=>?_) (fun pq hpq=>?_) (run_sort S (by omega))
   ·show wpAny _ _ (keyLt' _ (its.getD i Value.none) (its.getD j Value.none)) C _ _
    obtain ⟨a,o,zs,n,g1,g2,g3,g4,g5⟩:=item i nss[i] (List.getElem?_eq_getElem hi)
    obtain ⟨a',o',zs',n',g1',g2',g3',g4',g5'⟩:=item j nss[j] (List.getElem?_eq_getElem hj)
    rw [g1,g1']
    refine PySem.W.kat_lt g2 g4 g2' g4' ?_
    have hn1:=hk _ (List.getElem_mem hi)
    have hn2:=hk _ (List.getElem_mem hj)
    have ez:decide (zs.toArray.size < zs'.toArray.size)=false:=by
     have l1:=g5.length
     have l2:=g5'.length
     simp only [List.length_append,List.length_map] at l1 l2
     simp only [List.size_toArray]
     exact decide_eq_false (by omega)
    rw [ez]
    refine lex_pre 0 (by simpa using g5) (by simpa using g5') (by omega) ?_
    have e1':nss.getD i []=nss[i]:=by simp [hi]
    have e2':nss.getD j []=nss[j]:=by simp [hj]
    rw [←e1',←e2']
    exact hC
   ·obtain ⟨P,up⟩:=hpq
    refine PySem.W.KasFin.intro F' N' (.head fun x hx=>Nat.ne_of_lt (hD x hx)) fun h'' c F'' N''=>?_
    have hnD:s.heap.get? D=none:=by
     cases qd:s.heap.get? D with
     | none=>rfl
     | some o=>
      have hh:=N' (D,_) List.mem_cons_self
      have hm:=hD (D,o) (mem_allNews hh.2.1 hh.2.2 qd)
      exact absurd hm (Nat.lt_irrefl _)
    have hkeep2:∀ b o,b≠X.env.locals→s.heap.get? b=some o→h''.get? b=some o:=fun b o hb e=>by
     cases qb:X.base.get? b with
     | some u=>
      have:=I.bk b u qb
      rw [e] at this;cases this
      exact F''.keep b _ qb
     | none=>exact (N'' (b,o) (List.mem_cons_of_mem _ (mem_allNews hb qb e))).1
    have hlt:∀ x∈pq.toList,x < nss.length:=fun x hx=>List.mem_range.mp (P.pm.mem_iff.mp hx)
    have rv2:∀ l:List Nat,(∀ x∈l,x < nss.length)→Vals (l.map fun i=>vs.getD i .non) (l.map fun i=>its.getD i Value.none)∧IsAll H (l.map fun i=>vs.getD i .non) ((l.map fun i=>nss.getD i []).map (tupOf ps)):=fun l=>by
     induction l with
     | nil=>exact fun _=>⟨.nil,.nil⟩
     | cons x l ih=>
      intro hx
      obtain ⟨ih1,ih2⟩:=ih fun y hy=>hx y (List.mem_cons_of_mem _ hy)
      have hxn:=hx x List.mem_cons_self
      obtain ⟨v,ev,iv⟩:=ha.get (i:=x) (d:=tupOf ps nss[x]) (by rw [List.getElem?_map,List.getElem?_eq_getElem hxn];rfl)
      obtain ⟨u,eu,ru⟩:=rv.get ev
      have a1:vs.getD x .non=v:=by rw [List.getD_eq_getElem?_getD,ev];rfl
      have a2:its.getD x Value.none=u:=by rw [List.getD_eq_getElem?_getD,eu];rfl
      have a3:nss.getD x []=nss[x]:=by simp [hxn]
      simp only [List.map_cons,a1,a2,a3]
      exact ⟨.cons ru ih1,.cons iv ih2⟩
    obtain ⟨rv3,ia3⟩:=rv2 pq.toList hlt
    have ho:=(N'' (D,_) List.mem_cons_self).1
    have hpl:pq.toList.length=nss.length:=by rw [Array.length_toList];exact P.sz
    refine ⟨.ref D,_,I.laidBut (t':=s.toks) hkeep2 F.ns F''.ns hnD rv3 (by rw [List.length_map,hpl,sizeLine_eq];omega) ho,rfl,q D _ _ (I.none_of hnD) ia3 ?_ ?_⟩
    ·have:=P.pm.map fun i=>nss.getD i []
     rw [map_getD_range] at this
     exact this
    ·rw [List.pairwise_iff_getElem]
     intro i j hi hj hij
     simp only [List.length_map] at hi hj
     have:=up i j hij (by rw [←hpl];exact hj)
     have z:∀ x (hx:x < pq.toList.length),pq.getD x 0=pq.toList[x]:=fun x hx=>by
      have hx':x < pq.size:=by simpa using hx
      simp [Array.getD,hx']
     rw [z i hi,z j hj] at this
     simpa using this
  ·rw [e2] at hi hj
   have e1':nss.getD i []=nss[i]:=by simp [hi]
   have e2':nss.getD j []=nss[j]:=by simp [hj]
   rw [e1',e2'] at z
   exact (List.getElem_inj hnd).mp z
end
end L2
namespace L2
open PySem PySem.Spec PyProof.Rows
theorem bt_len:bootBuiltins "len"=some (.builtin "len"):=by decide +kernel
theorem bt_isinstance:bootBuiltins "isinstance"=some (.builtin "isinstance"):=by decide +kernel
theorem bt_all:bootBuiltins "all"=some (.builtin "all"):=by decide +kernel
theorem bt_sorted:bootBuiltins "sorted"=some (.builtin "sorted"):=by decide +kernel
theorem bt_max:bootBuiltins "max"=some (.builtin "max"):=by decide +kernel
theorem bt_min:bootBuiltins "min"=some (.builtin "min"):=by decide +kernel
theorem bt_tuple:bootBuiltins "tuple"=some (.type "tuple"):=by decide +kernel
theorem bt_int:bootBuiltins "int"=some (.type "int"):=by decide +kernel
theorem bt_bool:bootBuiltins "bool"=some (.type "bool"):=by decide +kernel
theorem bt_set:bootBuiltins "set"=some (.type "set"):=by decide +kernel
theorem pe_gint {X:Cx} {x:Str} {n:Int} {pos:Pos} (hg:Gl X x) (hm:∃ tk,X.mg x=some (.int n tk)) (hd:(x==("__debug__":Str))=false:=by decide):PE X (.Name x pos) (tC (.int n)):=
 fun _ _ _ H _ I h=>let ⟨tk,e⟩:=hm;ld_glob I hg e ⟨.int n,H,I,⟨tk,rfl⟩,h⟩ hd
noncomputable def rIxA (K:PySem.W.Frag):R2:=fun x y H Q=>∃ p xs i v,x=.ref p∧y=.int i∧(SqL K H p xs∨SqT K H p xs)∧atI xs i=some v∧Q v H
theorem ix_any {X:Cx}:IxR X (rIxA X.K):=by
 intro value slice pins s σ H x y v u Q I rx ry h hs
 obtain ⟨p,xs,i,w,e1,e2,hq,ha,q⟩:=h
 rcases hq with hq | hq
 ·exact ix_list value slice pins s σ H x y v u Q I rx ry ⟨p,xs,i,w,e1,e2,hq,ha,q⟩ hs
 ·exact ix_tup value slice pins s σ H x y v u Q I rx ry ⟨p,xs,i,w,e1,e2,hq,ha,q⟩ hs
noncomputable def rIsinst:List V→Hp→VK→Prop:=fun xs H Q=>∃ x T d,xs=[x,.ty T]∧T∈(["bool","int","tuple","list","str","dict"]:List String)∧Is H x d∧Q (.bl (isTy T d)) H
noncomputable def rLen (K:PySem.W.Frag):List V→Hp→VK→Prop:=fun xs H Q=>∃ p ys,xs=[.ref p]∧(SqL K H p ys∨SqT K H p ys)∧Q (.int ys.length) H
noncomputable def rAll (K:PySem.W.Frag):List V→Hp→VK→Prop:=fun xs H Q=>∃ (p:Addr) (bs:List Bool),xs=[.ref p]∧SqL K H p (bs.map V.bl)∧Q (.bl (bs.all id)) H
noncomputable def rAny (K:PySem.W.Frag):List V→Hp→VK→Prop:=fun xs H Q=>∃ (p:Addr) (bs:List Bool),xs=[.ref p]∧SqL K H p (bs.map V.bl)∧Q (.bl (bs.any id)) H
noncomputable def rIsN:R2:=fun x y H Q=>y=.non∧Q (.bl (decide (x=.non))) H
noncomputable def rNotN:R2:=fun x y H Q=>y=.non∧Q (.bl (!decide (x=.non))) H
section
variable {X:Cx}
theorem c_isinst:CallR X (.builtin "isinstance") rIsinst:=call_isinst
theorem c_len:CallR X (.builtin "len") (rLen X.K):=call_len_seq
theorem c_all (hc:X.calm=true):CallR X (.builtin "all") (rAll X.K):=call_all hc
theorem o_isN:OpR X (compareOp .Is) rIsN:=op_isN
theorem o_notN:OpR X (compareOp .IsNot) rNotN:=op_notN
noncomputable def rTupOf (K:PySem.W.Frag):List V→Hp→VK→Prop:=fun xs H Q=>∃ p ys,xs=[.ref p]∧((SqL K H p ys∧∀ l,H l=none→Q (.ref l) (upd H l (.tup ys)))∨(SqT K H p ys∧Q (.ref p) H))
theorem c_tuple:CallR X (.type "tuple") (rTupOf X.K):=call_tuple_of
noncomputable def rMax2:List V→Hp→VK→Prop:=fun xs H Q=>∃ i j:Int,xs=[.int i,.int j]∧Q (.int (if j > i then j else i)) H
noncomputable def rInt1:List V→Hp→VK→Prop:=fun xs H Q=>(∃ i,xs=[.int i]∧Q (.int i) H)∨∃ k,xs=[.bl k]∧Q (.int (if k then 1 else 0)) H
end
@[reducible] def isBoolD:PyData→Bool | .bool _=>true | _=>false
@[reducible] def isIntD:PyData→Bool | .bool _=>true | .int _=>true | _=>false
@[reducible] def isTupD:PyData→Bool | .tuple _=>true | _=>false
@[reducible] def isLstD:PyData→Bool | .list _=>true | _=>false
@[reducible] def isStrD:PyData→Bool | .str _=>true | _=>false
section
variable {σ:St} {H:Hp} {Q:VK} {D:Ends} {K:PySem.W.Frag}
theorem rd_seq {t u:TS} (h:t { D with nx:=u D } σ H):tSeq t u D σ H:=h
theorem rd_next (h:D.nx σ H):tNext D σ H:=h
theorem rd_ifS {c:TT} {t u:TS} (h:c σ H fun b H1=>if b=true then t D σ H1 else u D σ H1):tIfS c t u D σ H:=h
theorem rd_ret {te:TE} (h:te σ H D.rt):tRet te D σ H:=h
theorem rd_drop {te:TE} (h:te σ H fun _ H1=>D.nx σ H1):tDrop te D σ H:=h
theorem rd_asg {te:TE} {g:TG} (h:te σ H fun x H1=>g x σ H1 D.nx):tAsg te g D σ H:=h
theorem rd_gname {i:Nat} {v:V} {P:St→Hp→Prop} (h:P (σ.set i (some v)) H):gName i v σ H P:=h
theorem rd_var {i:Nat} {v:V} (e:σ[i]? =some (some v)) (h:Q v H):tVar i σ H Q:=⟨v,e,h⟩
theorem rd_C {v:V} (h:Q v H):tC v σ H Q:=h
theorem rd_test {te:TE} {P:Bool→Hp→Prop} (h:te σ H fun x H'=>∃ k,x=.bl k∧P k H'):tTest te σ H P:=h
theorem rd_B {te:TE} {P:Bool→Hp→Prop} (h:te σ H fun x H'=>∃ k,x=.bl k∧P k H'):tB te σ H P:=h
theorem rd_bl {b:Bool} {P:Bool→Hp→Prop} (h:P b H):∃ k,V.bl b=.bl k∧P k H:=⟨b,rfl,h⟩
theorem rd_op {r:R2} {ta tb:TE} (h:ta σ H fun x H1=>tb σ H1 fun y H2=>r x y H2 Q):tOp r ta tb σ H Q:=h
theorem rd_un {r:V→Hp→VK→Prop} {ta:TE} (h:ta σ H fun x H1=>r x H1 Q):tUn r ta σ H Q:=h
theorem rd_I0 {g:Int→Int→V} {i j:Int} (h:Q (g i j) H):rI0 g (.int i) (.int j) H Q:=⟨i,j,rfl,rfl,h⟩
theorem rd_I {C:Int→Int→Prop} {g:Int→Int→V} {i j:Int} (hc:C i j) (h:Q (g i j) H):rI C g (.int i) (.int j) H Q:=⟨i,j,rfl,rfl,hc,h⟩
theorem rd_and {t u:TT} {P:Bool→Hp→Prop} (h:t σ H fun c H1=>if c=true then u σ H1 P else P false H1):tAnd t u σ H P:=h
theorem rd_or {t u:TT} {P:Bool→Hp→Prop} (h:t σ H fun c H1=>if c=true then P true H1 else u σ H1 P):tOr t u σ H P:=h
theorem rd_not {t:TT} {P:Bool→Hp→Prop} (h:t σ H fun c H1=>P (!c) H1):tNot t σ H P:=h
theorem rd_andV {ta tb:TE} (h:ta σ H fun x H1=>∃ c,x=.bl c∧if c=true then tb σ H1 Q else Q (.bl false) H1):tAndV ta tb σ H Q:=h
theorem rd_orV {ta tb:TE} (h:ta σ H fun x H1=>∃ c,x=.bl c∧if c=true then Q (.bl true) H1 else tb σ H1 Q):tOrV ta tb σ H Q:=h
theorem rd_notV {ta:TE} (h:ta σ H fun x H1=>∃ c,x=.bl c∧Q (.bl (!c)) H1):tNotV ta σ H Q:=h
theorem rd_blE {b:Bool} {P:Bool→Prop} (h:P b):∃ c,V.bl b=.bl c∧P c:=⟨b,rfl,h⟩
theorem rd_nil {P:List V→Hp→Prop} (h:P [] H):tNil σ H P:=h
theorem rd_cons {ta:TE} {tr:TA} {P:List V→Hp→Prop} (h:ta σ H fun x H1=>tr σ H1 fun xs H2=>P (x::xs) H2):tCons ta tr σ H P:=h
theorem rd_tup {t:TA} (h:t σ H fun xs H1=>xs.length≤sizeLine∧∀ p,H1 p=none→Q (.ref p) (upd H1 p (.tup xs))):tTup t σ H Q:=h
theorem rd_lst {t:TA} (h:t σ H fun xs H1=>xs.length≤sizeLine∧∀ p,H1 p=none→Q (.ref p) (upd H1 p (.lst xs))):tLst t σ H Q:=h
theorem rd_call {sp:Sp} {dvs:List V} {E:XK} {t:TA} (h:t σ H fun vs H1=>sp (vs++dvs) H1 Q E):tCall sp dvs E t σ H Q:=h
theorem rd_cb {r:List V→Hp→VK→Prop} {t:TA} (h:t σ H fun vs H1=>r vs H1 Q):tCB r t σ H Q:=h
theorem rd_ixT {p:Addr} {xs:List V} {i:Int} {v:V} (e:H p=some (.tup xs)) (a:atI xs i=some v) (h:Q v H):rIxA K (.ref p) (.int i) H Q:=⟨p,xs,i,v,rfl,rfl,.inr (SqT.of e),a,h⟩
theorem rd_ixL {p:Addr} {xs:List V} {i:Int} {v:V} (e:H p=some (.lst xs)) (a:atI xs i=some v) (h:Q v H):rIxA K (.ref p) (.int i) H Q:=⟨p,xs,i,v,rfl,rfl,.inl (SqL.of e),a,h⟩
theorem rd_chain {r r':R2} {ta tb tc:TE} (h:ta σ H fun x H1=>tb σ H1 fun y H2=>r x y H2 fun z H3=>∃ k,z=.bl k∧(if k=true then tc σ H3 fun w' H4=>r' y w' H4 Q else Q (.bl false) H3)):tChain r r' ta tb tc σ H Q:=h
theorem ifT {b:Bool} {A B:Prop} (h:b=true) (x:A):if b=true then A else B:=by rw [if_pos h];exact x
theorem ifF {b:Bool} {A B:Prop} (h:b=false) (x:B):if b=true then A else B:=by rw [if_neg (by rw [h];exact Bool.false_ne_true)];exact x
theorem ifB {b:Bool} {A B:Prop} (h1:b=true→A) (h0:b=false→B):if b=true then A else B:=by
 cases b with
 | true=>rw [if_pos rfl];exact h1 rfl
 | false=>rw [if_neg Bool.false_ne_true];exact h0 rfl
theorem rd_isN {x:V} (h:Q (.bl (decide (x=.non))) H):rIsN x .non H Q:=⟨rfl,h⟩
theorem rd_notN {x:V} (h:Q (.bl (!decide (x=.non))) H):rNotN x .non H Q:=⟨rfl,h⟩
theorem rd_isBool {x:V} {d:PyData} (hx:Is H x d) (h:Q (.bl (isBoolD d)) H):rIsinst [x,.ty "bool"] H Q:=⟨x,"bool",d,rfl,by decide,hx,by cases d <;> exact h⟩
theorem rd_isInt {x:V} {d:PyData} (hx:Is H x d) (h:Q (.bl (isIntD d)) H):rIsinst [x,.ty "int"] H Q:=⟨x,"int",d,rfl,by decide,hx,by cases d <;> exact h⟩
theorem rd_isTup {x:V} {d:PyData} (hx:Is H x d) (h:Q (.bl (isTupD d)) H):rIsinst [x,.ty "tuple"] H Q:=⟨x,"tuple",d,rfl,by decide,hx,by cases d <;> exact h⟩
theorem rd_isLst {x:V} {d:PyData} (hx:Is H x d) (h:Q (.bl (isLstD d)) H):rIsinst [x,.ty "list"] H Q:=⟨x,"list",d,rfl,by decide,hx,by cases d <;> exact h⟩
theorem rd_isStr {x:V} {d:PyData} (hx:Is H x d) (h:Q (.bl (isStrD d)) H):rIsinst [x,.ty "str"] H Q:=⟨x,"str",d,rfl,by decide,hx,by cases d <;> exact h⟩
theorem ifNT {A B:Prop} (h:B):if (!true)=true then A else B:=iteF h
theorem ifNF {A B:Prop} (h:A):if (!false)=true then A else B:=iteT h
theorem rd_all {p:Addr} {bs:List Bool} (e:H p=some (.lst (bs.map V.bl))) (h:Q (.bl (bs.all id)) H):rAll K [.ref p] H Q:=⟨p,bs,rfl,SqL.of e,h⟩
theorem rd_any {p:Addr} {bs:List Bool} (e:H p=some (.lst (bs.map V.bl))) (h:Q (.bl (bs.any id)) H):rAny K [.ref p] H Q:=⟨p,bs,rfl,SqL.of e,h⟩
theorem rd_max2 {i j:Int} (h:Q (.int (if j > i then j else i)) H):rMax2 [.int i,.int j] H Q:=⟨i,j,rfl,h⟩
theorem rd_int1 {k:Bool} (h:Q (.int (if k then 1 else 0)) H):rInt1 [.bl k] H Q:=.inr ⟨k,rfl,h⟩
theorem rd_tupL {p:Addr} {ys:List V} (e:H p=some (.lst ys)) (h:∀ l,H l=none→Q (.ref l) (upd H l (.tup ys))):rTupOf K [.ref p] H Q:=⟨p,ys,rfl,.inl ⟨SqL.of e,h⟩⟩
theorem rd_eqD {neg:Bool} {x y:V} {d e:PyData} (hx:Is H x d) (hy:Is H y e) (od:okD d) (oe:okD e) (h:Q (.bl (if neg then !PyData.eqv d e else PyData.eqv d e)) H):rEqD neg x y H Q:=⟨d,e,hx,hy,od,oe,h⟩
theorem rd_eqI {x y:Int} (h:Q (.bl (x==y)) H):rEqD false (.int x) (.int y) H Q:=⟨.int x,.int y,.int x,.int y,⟨rfl,Nat.zero_le _⟩,⟨rfl,Nat.zero_le _⟩,h⟩
theorem rd_neI {x y:Int} (h:Q (.bl (!(x==y))) H):rEqD true (.int x) (.int y) H Q:=⟨.int x,.int y,.int x,.int y,⟨rfl,Nat.zero_le _⟩,⟨rfl,Nat.zero_le _⟩,h⟩
theorem rd_eqB {x y:Bool} (h:Q (.bl (x==y)) H):rEqD false (.bl x) (.bl y) H Q:=⟨.bool x,.bool y,.bl x,.bl y,⟨rfl,Nat.zero_le _⟩,⟨rfl,Nat.zero_le _⟩,h⟩
theorem rd_neB {x y:Bool} (h:Q (.bl (!(x==y))) H):rEqD true (.bl x) (.bl y) H Q:=⟨.bool x,.bool y,.bl x,.bl y,⟨rfl,Nat.zero_le _⟩,⟨rfl,Nat.zero_le _⟩,h⟩
theorem rd_inD {neg:Bool} {x y:V} {d:PyData} {ds:List PyData} (hx:Is H x d) (hy:Is H y (.tuple ds)) (od:okD d) (oe:okDs ds) (h:Q (.bl (if neg then !inD d ds else inD d ds)) H):rInD neg x y H Q:=⟨d,ds,hx,.inl hy,od,oe,h⟩
theorem rd_lenT {p:Addr} {xs:List V} (e:H p=some (.tup xs)) (h:Q (.int xs.length) H):rLen K [.ref p] H Q:=⟨p,xs,rfl,.inr (SqT.of e),h⟩
theorem rd_lenL {p:Addr} {xs:List V} (e:H p=some (.lst xs)) (h:Q (.int xs.length) H):rLen K [.ref p] H Q:=⟨p,xs,rfl,.inl (SqL.of e),h⟩
end
end L2
namespace L2
open PySem PySem.Spec PyProof.Rows
section
variable {σ:St} {H:Hp} {Q:VK} {D:Ends} {K:PySem.W.Frag} {R:It→Hp→Prop}
theorem rd_for {wi:TI} {g:TG} {tb:TS} (h:wi σ H fun J H1=>∃ W:Nat→Nat→St→Hp→Prop,(∃ m,W 0 m σ H1)∧∀ i m σ H,W i m σ H→
 (J.stop i H∧D.nx σ H)∨(J.go i H∧∃ N:St→Hp→Prop,(∀ σ' H',N σ' H'→∃ m',m' < m∧W (i + 1) m' σ' H')∧∀ x H',J.yld i H x H'→g x σ H' fun σ2 H2=>tb { D with nx:=N,ct:=N,bk:=D.nx } σ2 H2)):tFor wi g tb D σ H:=h
theorem rd_lc {wi:TI} {fm:List (Option Nat)} {g:TG} {tt:TT} {te:TE} (h:wi σ H fun J H1=>∃ W:Nat→Nat→List V→Hp→Prop,(∃ m,W 0 m [] H1)∧∀ i m ys H,W i m ys H→
 (J.stop i H∧∀ p,H p=none→Q (.ref p) (upd H p (.lst ys)))∨
 (J.go i H∧ys.length < sizeLine∧∃ N:List V→Hp→Prop,(∀ ys' H',N ys' H'→∃ m',m' < m∧W (i + 1) m' ys' H')∧
  ∀ x H',J.yld i H x H'→g x (fmSt fm σ) H' fun σ2 H2=>tt σ2 H2 fun ok H3=>if ok=true then te σ2 H3 fun v H4=>N (ys++[v]) H4 else N ys H3)):tLC wi fm g tt te σ H Q:=h
theorem rd_rng1 {ta:TA} (h:ta σ H fun vs H1=>∃ j:Int,vs=[.int j]∧-(2 ^ 62)≤j∧j < 2 ^ 62∧R (Itr 0 j.toNat) H1):iRng1 ta σ H R:=h
theorem rd_itup {tl:TE} (h:tl σ H fun x H1=>∃ a,x=.ref a∧(∃ xs,SqT K H1 a xs)∧R (Itt K a) H1):iTup K tl σ H R:=h
theorem rd_ilst {tl:TE} (h:tl σ H fun x H1=>∃ a,x=.ref a∧(∃ xs,SqL K H1 a xs)∧R (Itl K a) H1):iList K tl σ H R:=h
theorem rd_yes {P:Bool→Hp→Prop} (h:P true H):tYes σ H P:=h
theorem rd_gtup {n:Nat} {t:TGs} {a:Addr} {xs:List V} {P:St→Hp→Prop} (e:H a=some (.tup xs)) (l:xs.length=n) (h:t xs σ H P):gTup K n t (.ref a) σ H P:=⟨a,xs,rfl,SqT.of e,l,h⟩
theorem rd_gcons {t:TG} {u:TGs} {v:V} {r:List V} {P:St→Hp→Prop} (h:t v σ H fun σ' H'=>u r σ' H' P):gCons t u (v::r) σ H P:=⟨v,r,rfl,h⟩
theorem rd_gnil {P:St→Hp→Prop} (h:P σ H):gNil [] σ H P:=⟨rfl,h⟩
end
theorem Same.upd {H:Hp} {l:Addr} {o:HO} (h:H l=none):Same H (upd H l o):=fun b u e=>by rw [upd_ne (ne_of_none e h)];exact e
theorem Same.tup {H H':Hp} (e:Same H H') {a:Addr} {xs:List V} (h:H a=some (.tup xs)):H' a=some (.tup xs):=e _ _ h
end L2
namespace L2
open PySem PySem.Spec PyProof.Rows
section
variable {X:Cx}
theorem k_ix (K:PySem.W.Frag) (h:X.K=K:=by rfl):IxR X (rIxA K):=h▸ix_any
theorem k_len (K:PySem.W.Frag) (h:X.K=K:=by rfl):CallR X (.builtin "len") (rLen K):=h▸c_len
theorem k_all (K:PySem.W.Frag) (hc:X.calm=true:=by rfl) (h:X.K=K:=by rfl):CallR X (.builtin "all") (rAll K):=h▸c_all hc
theorem k_tuple (K:PySem.W.Frag) (h:X.K=K:=by rfl):CallR X (.type "tuple") (rTupOf K):=h▸c_tuple
theorem k_sorted (K:PySem.W.Frag) (h:X.K=K:=by rfl):CallR X (.builtin "sorted") (rSorted K):=h▸call_sorted
theorem k_ltT (K:PySem.W.Frag) (hu:X.A.units < cLine) (h:X.K=K:=by rfl):OpR X (compareOp .Lt) (rLtT K):=h▸op_ltT hu
theorem k_slL (K:PySem.W.Frag) (h:X.K=K:=by rfl):SlR X (rSlL K):=h▸sl_list
theorem k_ptup (K:PySem.W.Frag) {tg l:Expr} {tl:TE} (hl:PE X l tl) (h:X.K=K:=by rfl):PI X tg l (iTup K tl):=h▸pi_tup hl
theorem k_plst (K:PySem.W.Frag) {tg l:Expr} {tl:TE} (hl:PE X l tl) (h:X.K=K:=by rfl):PI X tg l (iList K tl):=h▸pi_list hl
theorem k_gtup (K:PySem.W.Frag) {pos:Pos} {es:List Expr} {k:Nat} {t:TGs} {n:Nat} (hc:X.calm=true) (hh:PGs X es t)
  (hn:(assignEach es X.env).length=n:=by rfl) (hst:(assignEach es X.env).findIdx? (·.1)=none:=by rfl) (h:X.K=K:=by rfl):PG X (.Tuple es k pos) (gTup K n t):=h▸pg_tup hc hh hn hst
theorem k_bm (K:PySem.W.Frag) {o e:Expr} {es:List Expr} {to:TE} {t:TA} {name:Str} {apos cpos:Pos} {T id:String} {r:V→List V→Hp→VK→Prop} (pa:PlainAttrs T) (slot:Slot T name id) (hty:typeOf (.builtin id)=pure (.type "method_descriptor")) (hm:MtR X id r) (ho:PE X o to) (ha:PA X (e::es) t)
  (hbase:attributeBase o name X.env (eval o X.env)=eval o X.env:=by rfl)
  (hfew:((backTo cpos (starEach (e::es) X.env)).all (fun x=> !x.1)&&(backToKw cpos (keywordEach [] X.env)).all (fun x=>x.1.isSome)
   &&decide ((e::es).length + ([]:List Keyword).length + (if ([]:List Keyword).isEmpty then 0 else 1) < 30))=true:=by rfl)
  (hline:(apos.endLine==cpos.line)=true:=by rfl) (hs:starEach (e::es) X.env=(false,eval e X.env)::starEach es X.env:=by rfl) (hplain:(backTo cpos (starEach es X.env)).any (·.1)=false:=by rfl) (h:X.K=K:=by rfl):
  PE X (.Call (.Attribute o name apos) (e::es) [] cpos) (tBM K T r to t):=h▸pe_bm pa slot hty hm ho ha hbase hfew hline hs hplain
end
section
variable {σ:St} {H:Hp} {Q:VK} {D:Ends} {K:PySem.W.Frag}
theorem rd_ltT {a b:Addr} {i j k l:Int} (h1:H a=some (.tup [.int i,.int j])) (h2:H b=some (.tup [.int k,.int l])) (h:Q (.bl (HT.lexLt [i,j] [k,l])) H):rLtT K (.ref a) (.ref b) H Q:=
 ⟨a,b,[i,j],[k,l],rfl,rfl,SqT.of h1,SqT.of h2,h⟩
theorem rd_bm {T:String} {r:V→List V→Hp→VK→Prop} {to:TE} {t:TA} (h:to σ H fun x H1=>tyV K T x H1∧t σ H1 fun xs H2=>r x xs H2 Q):tBM K T r to t σ H Q:=h
theorem rd_append {l:Addr} {xs:List V} {v:V} (e:H l=some (.lst xs)) (hz:xs.length < sizeLine) (h:Q .non (upd H l (.lst (xs++[v])))):rAppend (.ref l) [v] H Q:=⟨l,xs,v,rfl,rfl,e,hz,h⟩
theorem tyV_lst {l:Addr} {xs:List V} (e:H l=some (.lst xs)):tyV K "list" (.ref l) H:=.inl ⟨rfl,_,SqL.of e⟩
end
theorem if_nn {A B:Prop} (h:A):if decide (V.non=V.non)=true then A else B:=by rw [decide_eq_true rfl];exact iteT h
theorem if_rn {a:Addr} {A B:Prop} (h:B):if decide (V.ref a=V.non)=true then A else B:=by rw [decide_eq_false (fun z=>nomatch z)];exact iteF h
theorem if_in {a:Int} {A B:Prop} (h:B):if decide (V.int a=V.non)=true then A else B:=by rw [decide_eq_false (fun z=>nomatch z)];exact iteF h
theorem if_nnN {A B:Prop} (h:B):if (!decide (V.non=V.non))=true then A else B:=by rw [decide_eq_true rfl];exact iteF h
theorem if_rnN {a:Addr} {A B:Prop} (h:A):if (!decide (V.ref a=V.non))=true then A else B:=by rw [decide_eq_false (fun z=>nomatch z)];exact iteT h
theorem if_inN {a:Int} {A B:Prop} (h:A):if (!decide (V.int a=V.non))=true then A else B:=by rw [decide_eq_false (fun z=>nomatch z)];exact iteT h
section
variable {σ:St} {H:Hp} {Q:VK} {D:Ends}
theorem rd_while {c:TT} {tb:TS} (h:∃ W:Nat→St→Hp→Prop,(∃ m,W m σ H)∧∀ m σ H,W m σ H→c σ H fun b H1=>if b=true then ∃ N:St→Hp→Prop,(∀ σ' H',N σ' H'→∃ m',m' < m∧W m' σ' H')∧tb { D with nx:=N,ct:=N,bk:=D.nx } σ H1 else D.nx σ H1):tWhile c tb D σ H:=h
theorem rd_gsub {to ti:TE} {t:TSet} {v:V} {P:St→Hp→Prop} (h:to σ H fun o H1=>ti σ H1 fun i H2=>t o i v H2 fun H3=>P σ H3):gSub to ti t v σ H P:=h
end
section
variable {H:Hp} {K:PySem.W.Frag}
theorem lp_range {lo:Int} {n:Nat} {G:List V→Hp→Prop} {B:(List V→Hp→Prop)→List V→V→Hp→Prop} (hn:n≤sizeLine) (Pv:Nat→List V→Hp→Prop) (h0:Pv 0 [] H) (hlen:∀ i ys H,Pv i ys H→ys.length≤i)
  (hs:∀ i ys H,i < n→Pv i ys H→B (Pv (i + 1)) ys (.int (lo + i)) H) (hd:∀ ys H,Pv n ys H→G ys H):
  ∃ W:Nat→Nat→List V→Hp→Prop,(∃ m,W 0 m [] H)∧∀ i m ys H,W i m ys H→((Itr lo n).stop i H∧G ys H)∨((Itr lo n).go i H∧ys.length < sizeLine∧
   ∃ N:List V→Hp→Prop,(∀ ys' H',N ys' H'→∃ m',m' < m∧W (i + 1) m' ys' H')∧∀ x H',(Itr lo n).yld i H x H'→B N ys x H'):=by
 refine ⟨fun i m ys H=>m=n - i∧i≤n∧Pv i ys H,⟨n,by simp,Nat.zero_le _,h0⟩,?_⟩
 rintro i m ys H ⟨rfl,hi,p⟩
 have hl:=hlen i ys H p
 by_cases hlt:i < n
 ·refine .inr ⟨hlt,by omega,Pv (i + 1),fun ys' H' p'=>⟨n - (i + 1),by omega,rfl,hlt,p'⟩,fun x H' y=>?_⟩
  obtain ⟨e,y⟩:=y
  subst e y
  exact hs i ys _ hlt p
 ·have e:i=n:=by omega
  subst e
  exact .inl ⟨Nat.le_refl _,hd ys H p⟩
theorem lp_tup {a:Addr} {xs:List V} {G:List V→Hp→Prop} {B:(List V→Hp→Prop)→List V→V→Hp→Prop} (hn:xs.length≤sizeLine) (Pv:Nat→List V→Hp→Prop) (h0:Pv 0 [] H) (hlen:∀ i ys H,Pv i ys H→ys.length≤i)
  (hl:∀ i ys H,i≤xs.length→Pv i ys H→SqT K H a xs) (hs:∀ i x ys H,xs[i]? =some x→Pv i ys H→B (Pv (i + 1)) ys x H) (hd:∀ ys H,Pv xs.length ys H→G ys H):
  ∃ W:Nat→Nat→List V→Hp→Prop,(∃ m,W 0 m [] H)∧∀ i m ys H,W i m ys H→((Itt K a).stop i H∧G ys H)∨((Itt K a).go i H∧ys.length < sizeLine∧
   ∃ N:List V→Hp→Prop,(∀ ys' H',N ys' H'→∃ m',m' < m∧W (i + 1) m' ys' H')∧∀ x H',(Itt K a).yld i H x H'→B N ys x H'):=by
 refine ⟨fun i m ys H=>m=xs.length - i∧i≤xs.length∧Pv i ys H,⟨xs.length,by simp,Nat.zero_le _,h0⟩,?_⟩
 rintro i m ys H ⟨rfl,hi,p⟩
 have hly:=hlen i ys H p
 have q:=hl i ys H hi p
 by_cases hlt:i < xs.length
 ·refine .inr ⟨⟨xs,xs[i],q,by simp [hlt]⟩,by omega,Pv (i + 1),fun ys' H' p'=>⟨xs.length - (i + 1),by omega,rfl,hlt,p'⟩,fun x H' y=>?_⟩
  obtain ⟨e,y⟩:=y
  subst e
  exact hs i x ys _ (y xs q) p
 ·have e:i=xs.length:=by omega
  subst e
  exact .inl ⟨⟨xs,q,Nat.le_refl _⟩,hd ys H p⟩
theorem lp_list {a:Addr} {xs:List V} {G:List V→Hp→Prop} {B:(List V→Hp→Prop)→List V→V→Hp→Prop} (hn:xs.length≤sizeLine) (Pv:Nat→List V→Hp→Prop) (h0:Pv 0 [] H) (hlen:∀ i ys H,Pv i ys H→ys.length≤i)
  (hl:∀ i ys H,i≤xs.length→Pv i ys H→SqL K H a xs) (hs:∀ i x ys H,xs[i]? =some x→Pv i ys H→B (Pv (i + 1)) ys x H) (hd:∀ ys H,Pv xs.length ys H→G ys H):
  ∃ W:Nat→Nat→List V→Hp→Prop,(∃ m,W 0 m [] H)∧∀ i m ys H,W i m ys H→((Itl K a).stop i H∧G ys H)∨((Itl K a).go i H∧ys.length < sizeLine∧
   ∃ N:List V→Hp→Prop,(∀ ys' H',N ys' H'→∃ m',m' < m∧W (i + 1) m' ys' H')∧∀ x H',(Itl K a).yld i H x H'→B N ys x H'):=by
 refine ⟨fun i m ys H=>m=xs.length - i∧i≤xs.length∧Pv i ys H,⟨xs.length,by simp,Nat.zero_le _,h0⟩,?_⟩
 rintro i m ys H ⟨rfl,hi,p⟩
 have hly:=hlen i ys H p
 have q:=hl i ys H hi p
 by_cases hlt:i < xs.length
 ·refine .inr ⟨⟨xs,xs[i],q,by simp [hlt]⟩,by omega,Pv (i + 1),fun ys' H' p'=>⟨xs.length - (i + 1),by omega,rfl,hlt,p'⟩,fun x H' y=>?_⟩
  obtain ⟨e,y⟩:=y
  subst e
  exact hs i x ys _ (y xs q) p
 ·have e:i=xs.length:=by omega
  subst e
  exact .inl ⟨⟨xs,q,Nat.le_refl _⟩,hd ys H p⟩
theorem fp_range {σ:St} {lo:Int} {n:Nat} {G:St→Hp→Prop} {B:(St→Hp→Prop)→V→St→Hp→Prop} (Pv:Nat→St→Hp→Prop) (h0:Pv 0 σ H) (hs:∀ i σ H,i < n→Pv i σ H→B (Pv (i + 1)) (.int (lo + i)) σ H) (hd:∀ σ H,Pv n σ H→G σ H):
  ∃ W:Nat→Nat→St→Hp→Prop,(∃ m,W 0 m σ H)∧∀ i m σ H,W i m σ H→((Itr lo n).stop i H∧G σ H)∨((Itr lo n).go i H∧
   ∃ N:St→Hp→Prop,(∀ σ' H',N σ' H'→∃ m',m' < m∧W (i + 1) m' σ' H')∧∀ x H',(Itr lo n).yld i H x H'→B N x σ H'):=by
 refine ⟨fun i m σ H=>m=n - i∧i≤n∧Pv i σ H,⟨n,by simp,Nat.zero_le _,h0⟩,?_⟩
 rintro i m σ H ⟨rfl,hi,p⟩
 by_cases hlt:i < n
 ·refine .inr ⟨hlt,Pv (i + 1),fun σ' H' p'=>⟨n - (i + 1),by omega,rfl,hlt,p'⟩,fun x H' y=>?_⟩
  obtain ⟨e,y⟩:=y
  subst e y
  exact hs i σ _ hlt p
 ·have e:i=n:=by omega
  subst e
  exact .inl ⟨Nat.le_refl _,hd σ H p⟩
theorem fp_tup {σ:St} {a:Addr} {xs:List V} {G:St→Hp→Prop} {B:(St→Hp→Prop)→V→St→Hp→Prop} (Pv:Nat→St→Hp→Prop) (h0:Pv 0 σ H) (hl:∀ i σ H,i≤xs.length→Pv i σ H→SqT K H a xs)
  (hs:∀ i x σ H,xs[i]? =some x→Pv i σ H→B (Pv (i + 1)) x σ H) (hd:∀ σ H,Pv xs.length σ H→G σ H):
  ∃ W:Nat→Nat→St→Hp→Prop,(∃ m,W 0 m σ H)∧∀ i m σ H,W i m σ H→((Itt K a).stop i H∧G σ H)∨((Itt K a).go i H∧
   ∃ N:St→Hp→Prop,(∀ σ' H',N σ' H'→∃ m',m' < m∧W (i + 1) m' σ' H')∧∀ x H',(Itt K a).yld i H x H'→B N x σ H'):=by
 refine ⟨fun i m σ H=>m=xs.length - i∧i≤xs.length∧Pv i σ H,⟨xs.length,by simp,Nat.zero_le _,h0⟩,?_⟩
 rintro i m σ H ⟨rfl,hi,p⟩
 have q:=hl i σ H hi p
 by_cases hlt:i < xs.length
 ·refine .inr ⟨⟨xs,xs[i],q,by simp [hlt]⟩,Pv (i + 1),fun σ' H' p'=>⟨xs.length - (i + 1),by omega,rfl,hlt,p'⟩,fun x H' y=>?_⟩
  obtain ⟨e,y⟩:=y
  subst e
  exact hs i x σ _ (y xs q) p
 ·have e:i=xs.length:=by omega
  subst e
  exact .inl ⟨⟨xs,q,Nat.le_refl _⟩,hd σ H p⟩
theorem fp_list {σ:St} {a:Addr} {xs:List V} {G:St→Hp→Prop} {B:(St→Hp→Prop)→V→St→Hp→Prop} (Pv:Nat→St→Hp→Prop) (h0:Pv 0 σ H) (hl:∀ i σ H,i≤xs.length→Pv i σ H→SqL K H a xs)
  (hs:∀ i x σ H,xs[i]? =some x→Pv i σ H→B (Pv (i + 1)) x σ H) (hd:∀ σ H,Pv xs.length σ H→G σ H):
  ∃ W:Nat→Nat→St→Hp→Prop,(∃ m,W 0 m σ H)∧∀ i m σ H,W i m σ H→((Itl K a).stop i H∧G σ H)∨((Itl K a).go i H∧
   ∃ N:St→Hp→Prop,(∀ σ' H',N σ' H'→∃ m',m' < m∧W (i + 1) m' σ' H')∧∀ x H',(Itl K a).yld i H x H'→B N x σ H'):=by
 refine ⟨fun i m σ H=>m=xs.length - i∧i≤xs.length∧Pv i σ H,⟨xs.length,by simp,Nat.zero_le _,h0⟩,?_⟩
 rintro i m σ H ⟨rfl,hi,p⟩
 have q:=hl i σ H hi p
 by_cases hlt:i < xs.length
 ·refine .inr ⟨⟨xs,xs[i],q,by simp [hlt]⟩,Pv (i + 1),fun σ' H' p'=>⟨xs.length - (i + 1),by omega,rfl,hlt,p'⟩,fun x H' y=>?_⟩
  obtain ⟨e,y⟩:=y
  subst e
  exact hs i x σ _ (y xs q) p
 ·have e:i=xs.length:=by omega
  subst e
  exact .inl ⟨⟨xs,q,Nat.le_refl _⟩,hd σ H p⟩
end
end L2
namespace L2
open PySem PySem.Spec PyProof.Rows
noncomputable def rEqNil (K:PySem.W.Frag):R2:=fun x y H Q=>∃ p q ns,x=.ref p∧y=.ref q∧SqL K H p (ns.map V.int)∧SqL K H q []∧Q (.bl (decide (ns=[]))) H
theorem op_eqNil {X:Cx} (hu:X.A.units < cLine):OpR X (compareOp .Eq) (rEqNil X.K):=by
 intro pins s σ H x y v u Q I rx ry h
 obtain ⟨p,q,ns,rfl,rfl,h1,h2,hq⟩:=h
 cases (show v=Value.ref p from rx)
 cases (show u=Value.ref q from ry)
 obtain ⟨its,r1,p1,_⟩:=I.list h1
 obtain ⟨its2,r2,p2,_⟩:=I.list h2
 have e2:its2=[]:=by cases r2;rfl
 subst e2
 have hl:=r1.length
 rw [List.length_map] at hl
 match ns,hl with
 | [],hl=>
  have e1:its=[]:=by
   have:its.length=0:=by simpa using hl.symm
   exact List.length_eq_zero_iff.mp this
  subst e1
  exact SeqAt.eq_listAt (e:=fun _=>true) p1.isList p2.isList rfl hu (fun j g _=>absurd g (Nat.not_lt_zero _)) ⟨.bl true,H,I,rfl,hq⟩
 | n::ns,hl=>
  refine SeqAt.eq_list_lengthsAt p1.isList p2.isList ?_ hu ⟨.bl false,H,I,rfl,hq⟩
  have:its.length=ns.length + 1:=by simpa using hl.symm
  simp [this]
theorem k_eqNil {X:Cx} (K:PySem.W.Frag) (hu:X.A.units < cLine) (h:X.K=K:=by rfl):OpR X (compareOp .Eq) (rEqNil K):=h▸op_eqNil hu
section
variable {σ:St} {H:Hp} {Q:VK} {K:PySem.W.Frag}
theorem rd_rng2 {ta:TA} {R:It→Hp→Prop} (h:ta σ H fun vs H1=>∃ i j:Int,vs=[.int i,.int j]∧(-(2 ^ 62)≤i∧i < 2 ^ 62∧-(2 ^ 62)≤j∧j < 2 ^ 62)∧R (Itr i (j - i).toNat) H1):iRng2 ta σ H R:=h
theorem rd_lenS {p:Addr} {xs:List V} (e:SqL K H p xs) (h:Q (.int xs.length) H):rLen K [.ref p] H Q:=⟨p,xs,rfl,.inl e,h⟩
theorem rd_ixS {p:Addr} {xs:List V} {i:Int} {v:V} (e:SqL K H p xs) (a:atI xs i=some v) (h:Q v H):rIxA K (.ref p) (.int i) H Q:=⟨p,xs,i,v,rfl,rfl,.inl e,a,h⟩
theorem rd_extend {l b:Addr} {xs zs:List V} (e:H l=some (.lst xs)) (e2:H b=some (.lst zs)) (hz:xs.length + zs.length≤sizeLine) (h:Q .non (upd H l (.lst (xs++zs)))):rExtend (.ref l) [.ref b] H Q:=⟨l,b,xs,zs,rfl,rfl,e,e2,hz,h⟩
end
noncomputable def Scr (K:PySem.W.Frag) (H:Hp) (a:Addr) (ns:List Int):Prop:=(∃ o,H a=some (.frz o (.lst (ns.map V.int))))∨
 ∃ (o:Obj) (its:Array Value) (n:Nat),K.lookup a=some o∧o.cls=.type "list"∧o.dict=none∧o.data=.seq its n∧its.size≤sizeLine∧Vals (ns.map V.int) its.toList
theorem Scr.sq {K:PySem.W.Frag} {H:Hp} {a:Addr} {ns:List Int} (h:Scr K H a ns):SqL K H a (ns.map V.int):=by
 rcases h with ⟨o,h⟩ | h
 ·exact .inl (.inr ⟨o,h⟩)
 ·exact .inr h
theorem Scr.of {K:PySem.W.Frag} {H:Hp} {a:Addr} {ns:List Int} (hO:Only H) (h:SqL K H a (ns.map V.int)):Scr K H a ns:=by
 rcases h with (h | ⟨o,h⟩) | h
 ·rcases hO a with g | ⟨o,xs,g⟩
  ·rw [g] at h;cases h
  ·rw [g] at h;cases h
 ·exact .inl ⟨o,h⟩
 ·exact .inr h
noncomputable def SameT (w:Addr) (H H':Hp):Prop:=∀ b u,H b=some u→b≠w→H' b=some u
theorem SameT.refl (w:Addr) (H:Hp):SameT w H H:=fun _ _ h _=>h
theorem SameT.trans {w:Addr} {H H1 H2:Hp} (a:SameT w H H1) (b:SameT w H1 H2):SameT w H H2:=fun c u h g=>b c u (a c u h g) g
theorem Same.t {w:Addr} {H H':Hp} (h:Same H H'):SameT w H H':=fun b u e _=>h b u e
theorem Scr.t {K:PySem.W.Frag} {H H':Hp} {w a:Addr} {ns:List Int} {ts:List V} (hw:H w=some (.lst ts)) (s:SameT w H H') (h:Scr K H a ns):Scr K H' a ns:=by
 rcases h with ⟨o,h⟩ | h
 ·exact .inl ⟨o,s _ _ h (ne_of h hw (by intro z;cases z))⟩
 ·exact .inr h
theorem Scr.same {K:PySem.W.Frag} {H H':Hp} {a:Addr} {ns:List Int} (s:Same H H') (h:Scr K H a ns):Scr K H' a ns:=by
 rcases h with ⟨o,h⟩ | h
 ·exact .inl ⟨o,s _ _ h⟩
 ·exact .inr h
end L2
namespace L2
open PySem PySem.Spec PyProof.Rows
noncomputable def rCatU:R2:=fun x y H Q=>∃ a b xs ys,x=.ref a∧y=.ref b∧H a=some (.tup xs)∧H b=some (.tup ys)∧xs.length + ys.length≤sizeLine∧∀ r H',Same H H'→H' r=some (.tup (xs++ys))→Q (.ref r) H'
theorem op_catU {X:Cx}:OpR X (binaryOp .Add) rCatU:=by
 intro pins s σ H x y v u Q I rx ry h
 obtain ⟨a,b,xs,ys,rfl,rfl,ha,hb,hz,q⟩:=h
 by_cases hx:xs=[]
 ·subst hx
  cases (show v=Value.ref a from rx)
  cases (show u=Value.ref b from ry)
  obtain ⟨its,r1,p1,_⟩:=I.tuple (SqT.of ha)
  obtain ⟨its2,r2,p2,_⟩:=I.tuple (SqT.of hb)
  obtain ⟨⟨cls,dd,data,sl⟩,ho,hc,n,hd⟩:=p1
  obtain ⟨⟨cls2,dd2,data2,sl2⟩,ho2,hc2,n2,hd2⟩:=p2
  simp only at hc hd hc2 hd2
  subst hc hd hc2 hd2
  have e0:its=[]:=r1.nil_iff.mpr rfl
  exact concat_meets ⟨_,ho,rfl⟩ ⟨_,ho2,rfl⟩ noFill_tuple_add seq_tuple_add PySem.F.slot_tuple_add PySem.F.entry_tuple_add (PySem.F.args_tuple_add_2 _ _)
   (tuple_addW0 a b its.toArray its2.toArray n n2 dd dd2 sl sl2 (by simp [e0])) ⟨ho,ho2,⟨.ref b,H,I,rfl,q b H (Same.refl H) hb⟩⟩
 ·refine op_catT pins s σ H _ _ v u Q I rx ry ⟨a,b,xs,ys,rfl,rfl,SqT.of ha,SqT.of hb,hx,hz,fun e=>?_,fun e p hp=>?_⟩
  ·subst e
   exact q a H (Same.refl H) (by rw [List.append_nil];exact ha)
  ·exact q p _ (fun b u e=>by rw [upd_ne (ne_of_none e hp)];exact e) upd_same
section
variable {σ:St} {H:Hp} {Q:VK} {D:Ends} {K:PySem.W.Frag}
theorem rd_ifE {t:TT} {ta tb:TE} (h:t σ H fun c H1=>if c=true then ta σ H1 Q else tb σ H1 Q):tIf t ta tb σ H Q:=h
theorem rd_catU {a b:Addr} {xs ys:List V} (ha:H a=some (.tup xs)) (hb:H b=some (.tup ys)) (hz:xs.length + ys.length≤sizeLine) (h:∀ r H',Same H H'→H' r=some (.tup (xs++ys))→Q (.ref r) H'):rCatU (.ref a) (.ref b) H Q:=
 ⟨a,b,xs,ys,rfl,rfl,ha,hb,hz,h⟩
theorem rd_cat {a b:Addr} {xs ys:List V} (ha:H a=some (.lst xs)) (hb:H b=some (.lst ys)) (hz:xs.length + ys.length≤sizeLine) (h:∀ p,H p=none→Q (.ref p) (upd H p (.lst (xs++ys)))):rCat (.ref a) (.ref b) H Q:=
 ⟨a,b,xs,ys,rfl,rfl,ha,hb,hz,h⟩
end
end L2
namespace Nt
section
variable {n:Nat} {R:Nat→Nat→Prop}
noncomputable def Con (n:Nat) (R:Nat→Nat→Prop) (s:Int) (x:Nat→Int):Prop:=∀ i j,i < n→j < n→(x j - x i≥s↔R i j)
structure TP (n:Nat) (R:Nat→Nat→Prop) (s:Int) (x:Nat→Int) (N:Nat) (v:Nat→Nat) (k:Nat→Bool):Prop where
 lt:∀ t,t≤N→v t < n
 st:x (v 0)=0
 up:∀ t,t < N→k t=true→R (v t) (v (t + 1))∧x (v (t + 1))=x (v t) + s
 dn:∀ t,t < N→k t=false→¬R (v (t + 1)) (v t)∧x (v (t + 1))=x (v t) + 1 - s
noncomputable def D (k:Nat→Bool):Nat→Int
 | 0=>0
 | t + 1=>D k t + (if k t=true then 1 else -1)
noncomputable def Mc (k:Nat→Bool):Nat→Int
 | 0=>0
 | t + 1=>Mc k t + (if k t=true then 0 else 1)
theorem TP.val {s:Int} {x:Nat→Int} {N:Nat} {v:Nat→Nat} {k:Nat→Bool} (p:TP n R s x N v k):∀ t,t≤N→x (v t)=D k t * s + Mc k t
 | 0,_=>by rw [p.st];simp [D,Mc]
 | t + 1,h=>by
  have ih:=p.val t (by omega)
  simp only [D,Mc]
  cases hk:k t with
  | true=>
   rw [(p.up t (by omega) hk).2,ih,if_pos rfl,if_pos rfl,Int.add_mul]
   omega
  | false=>
   rw [(p.dn t (by omega) hk).2,ih,if_neg Bool.false_ne_true,if_neg Bool.false_ne_true,Int.add_mul]
   omega
theorem met (f:Nat→Int) (c:Int):∀ m:Nat,f 0 < c→c≤f m→(∀ j,f (j + 1)≤f j + 1)→∃ j,j≤m∧f j=c
 | 0,h1,h2,_=>by omega
 | m + 1,h1,h2,h3=>by
  by_cases h:c≤f m
  ·obtain ⟨j,a,b⟩:=met f c m h1 h h3
   exact ⟨j,by omega,b⟩
  ·have:=h3 m
   exact ⟨m + 1,Nat.le_refl _,by omega⟩
end
end Nt
namespace Nt
section
variable {n:Nat} {R:Nat→Nat→Prop}
theorem no_two {s:Int} {x:Nat→Int} (h:Con n R s x) {a b c d:Nat} (ha:a < n) (hb:b < n) (hc:c < n) (hd:d < n) (h1:R a b) (h2:R c d) (h3:¬R a d) (h4:¬R c b):False:=by
 have g1:=(h a b ha hb).mpr h1
 have g2:=(h c d hc hd).mpr h2
 have g3:¬(x d - x a≥s):=fun z=>h3 ((h a d ha hd).mp z)
 have g4:¬(x b - x c≥s):=fun z=>h4 ((h c b hc hb).mp z)
 omega
theorem no_three {s:Int} {x:Nat→Int} (h:Con n R s x) {a b c d:Nat} (ha:a < n) (hb:b < n) (hc:c < n) (hd:d < n) (h1:R a b) (h2:R b c) (h3:¬R a d) (h4:¬R d c):False:=by
 have g1:=(h a b ha hb).mpr h1
 have g2:=(h b c hb hc).mpr h2
 have g3:¬(x d - x a≥s):=fun z=>h3 ((h a d ha hd).mp z)
 have g4:¬(x c - x d≥s):=fun z=>h4 ((h d c hd hc).mp z)
 omega
end
theorem countP_lt {p q:Nat→Bool}:∀ {l:List Nat} {v:Nat},(∀ i∈l,p i=true→q i=true)→v∈l→p v=false→q v=true→l.countP p < l.countP q
 | [],v,_,hv,_,_=>by cases hv
 | a::l,v,h,hv,h1,h2=>by
  have le:∀ m:List Nat,(∀ i∈m,p i=true→q i=true)→m.countP p≤m.countP q:=fun m=>by
   induction m with
   | nil=>intro _;exact Nat.le_refl _
   | cons b m ih=>
    intro g
    have i1:=ih fun i hi=>g i (List.mem_cons_of_mem _ hi)
    have i2:=g b List.mem_cons_self
    simp only [List.countP_cons]
    cases hb:p b with
    | true=>rw [i2 hb];simp;exact i1
    | false=>simp;omega
  simp only [List.countP_cons]
  by_cases e:v=a
  ·subst e
   have i1:=le l fun i hi=>h i (List.mem_cons_of_mem _ hi)
   rw [h1,h2]
   simp
   omega
  ·have hv':v∈l:=by
    rcases List.mem_cons.mp hv with g | g
    ·exact absurd g e
    ·exact g
   have ih:=countP_lt (l:=l) (fun i hi=>h i (List.mem_cons_of_mem _ hi)) hv' h1 h2
   have i2:=h a List.mem_cons_self
   cases ha:p a with
   | true=>rw [i2 ha];simp;exact ih
   | false=>simp;omega
end Nt
namespace L2
open PySem PySem.Spec PyProof.Rows
structure XEnd (P:Program) (w:World) (outer:List Env) (H:Hp) (s:Shared) (e C t:Addr) (H':Hp) (B:Heap) (s':Shared):Prop where
 os:s'.os=s.os
 bare:AllBare s'.gens
 un:Un (frs outer) [] H H' s.heap s'.heap
 cov:∀ b o,s.heap.get? b=some o→H b=none→b∉frs outer→B.get? b=some o
 thr:∀ b o,s.heap.get? b=some o→b∉frs outer→∃ o',B.get? b=some o'
 hok:HOk P w H' B
 fl:Heap.FlyingW B outer e (.ref C) (.ref t) s'.heap
section
variable {CX:CXT} {P:Program} {w:World} {K:PySem.W.Frag} {mg:Str→Option Value} {base:Heap} {N:List Str} {qual:Str} {scope:Scope} {f:Addr} {cd:Value} {A:Around} {outer:List Env} {s₀:Shared} {H₀:Hp} {E:XK}
 {pins:List (Addr×Obj)} {σ:St} {H:Hp} {s:Shared}
abbrev bmV:List Value:=[.type "ValueError",.type "Exception",.type "BaseException",.type "object"]
noncomputable def tRaise (E:XK) (C:Addr) (t:TA):TS:=fun _ σ H=>t σ H fun vs H1=>vs.length≤sizeLine∧E (.ref C) none H1
end
end L2
namespace L2
open PySem PySem.Spec PyProof.Rows
section
variable {P:Program} {w:World} {l:List Env} {H H':Hp} {s s':Shared} {e C t:Addr} {B h':Heap}
theorem XEnd.new (x:XEnd P w l H s e C t H' B s'):s.heap.get? e=none:=by
 cases q:s.heap.get? e with
 | none=>rfl
 | some o=>
  exfalso
  by_cases nb:e∈frs l
  ·obtain ⟨_,o3,e3,d3⟩:=x.fl.2.2.1.mem nb
   obtain ⟨oe,vs,he,_,hd,_⟩:=x.fl.first
   rw [e3] at he
   cases he
   exact d3 vs hd
  ·obtain ⟨o',e1⟩:=x.thr e o q nb
   rw [x.fl.2.1] at e1
   cases e1
theorem XEnd.free (x:XEnd P w l H s e C t H' B s'):H' e=none:=by
 cases q:H' e with
 | none=>rfl
 | some o=>
  obtain ⟨u,e1⟩:=(x.hok e o q).there
  rw [x.fl.2.1] at e1
  cases e1
end
section
variable {X:Cx} {pins:List (Addr×Obj)} {σ:St} {H H':Hp} {s s':Shared} {e C t:Addr} {B:Heap}
noncomputable abbrev Cx.pinned (X:Cx) (pn:List (Addr×Obj)) (E1:Value→Shared→Prop):Cx:={ X with pn:=pn,xe:=E1 }
theorem Inv.unpn1 {E1:Value→Shared→Prop} {pins':List (Addr×Obj)} (I:Inv (X.pinned (X.pn++pins) E1) pins' σ H s):Inv X pins σ H s:=
 ⟨⟨I.ok.mod,I.ok.kind,I.ok.glob,I.ok.blt,I.ok.above,I.ok.inj,I.ok.has,I.ok.cab,I.ok.hd,I.ok.frames,I.ok.stk,I.ok.exf,I.ok.bs,I.ok.bsz,I.ok.noex,I.ok.exfs,I.ok.funs,I.ok.frf⟩,I.os,I.bare,I.base,I.loc,I.cell,I.free,I.freeC,fun p hp=>I.pin p (List.mem_append_left _ hp),I.hok,I.len⟩
theorem SP.unpinned {E1:Value→Shared→Prop} {pins':List (Addr×Obj)} {D:Ends} {f:Flow} (h:SP (X.pinned (X.pn++pins) E1) pins' D f s'):SP X pins D f s':=by
 cases f with
 | next=>obtain ⟨σ',H',I,q⟩:=h;exact ⟨σ',H',I.unpn1,q⟩
 | brk=>obtain ⟨σ',H',I,q⟩:=h;exact ⟨σ',H',I.unpn1,q⟩
 | cont=>obtain ⟨σ',H',I,q⟩:=h;exact ⟨σ',H',I.unpn1,q⟩
 | ret u=>obtain ⟨v,σ',H',I,r,q⟩:=h;exact ⟨v,σ',H',I.unpn1,r,q⟩
end
end L2
namespace L2
open PySem PySem.Spec PyProof.Rows
structure ExcC (K:PySem.W.Frag) (C:Addr):Prop where
 exc:PySem.W.excIn K C bmV "ValueError.__new__"=true
 ga:PySem.W.findIn K (.ref C) "__getattribute__"=some (some (.builtin "BaseException.__getattribute__"))
 gn:PySem.W.findIn K (.ref C) "__getattr__"=some none
 gc:PySem.W.findIn K (.ref C) "__class__"=some (some (.builtin "object.__class__"))
 sb:PySem.W.subIn K (.ref C) (.type "BaseException")=some true
 so:PySem.W.subIn K (.ref C) (.type "object")=some true
 cl:∃ cd,PySem.W.clsIn K C=some cd
section
variable {prog:Program} {w:World} {A:Around} {E:Value→Shared→Prop} {h:Heap} {g:Array GenState} {d:Drawn} {t:Nat} {os:OsState} {a C:Addr} {o:Obj} {K:PySem.W.Frag}
end
end L2
namespace L2
open PySem PySem.Spec PyProof.Rows
section
variable {X:Cx}
end
structure RoomH (k:Nat) (A:Around):Prop where
 dp:A.depth + 3 * k + 5 < recursionLimit
 un:A.units + 16 * k + 200 < cLine
theorem RoomH.mono {j k:Nat} {A:Around} (r:RoomH k A) (h:j≤k):RoomH j A:=⟨by have:=r.dp;omega,by have:=r.un;omega⟩
theorem RoomH.deeper {k:Nat} {A:Around} (r:RoomH (k + 1) A) (env:Env):RoomH k (A.deeper env):=⟨by have:=r.dp;show A.depth + 1 + 3 * k + 5 < _;omega,by have:=r.un;show A.units + 3 + 16 * k + 200 < _;omega⟩
theorem RoomH.units {k:Nat} {A:Around} (r:RoomH k A):A.units + 64 < cLine:=by have:=r.un;omega
theorem RoomH.units0 {k:Nat} {A:Around} (r:RoomH k A):A.units < cLine:=by have:=r.un;omega
structure FnOkH (P:Program) (w:World) (K:PySem.W.Frag) (mg:Str→Option Value) (base:Heap) (k:Nat) (f:Addr) (fd:FuncData) (ps:List Str) (sp:Sp):Prop where
 len:∀ vs H Q E,sp vs H Q E→vs.length=ps.length
 run:∀ (A:Around) (outer:List Env) (s:Shared) (H:Hp) (args:Args) (us:List Value) (vs:List V) (Q:VK),RoomH k A→Env0 P w K mg base A outer s H→BindsTo s fd args (ps.zip us)→Vals vs us→sp vs H Q E0→
  codeAny (model P w) A (.call (.ref f) args) (CR CX0 outer P w H s Q E0) s
section
variable {P:Program} {w:World} {K:PySem.W.Frag} {mg:Str→Option Value} {base:Heap}
end
section
variable {X:Cx} {k:Nat} {f:Addr} {fd:FuncData} {ps:List Str} {sp:Sp} {x:Str} {p pos:Pos} {e:Expr} {es:List Expr} {t:TA}
end
section
variable {σ:St} {H:Hp} {Q:VK} {D:Ends} {K:PySem.W.Frag}
theorem rd_raise {E:XK} {C:Addr} {t:TA} (h:t σ H fun vs H1=>vs.length≤sizeLine∧E (.ref C) none H1):tRaise E C t D σ H:=h
end
end L2
namespace L2
open PySem PySem.Spec PyProof.Rows
section
variable {P:Program} {w:World} {A:Around} {E:Value→Shared→Prop}
end
section
variable {X:Cx}
end
section
variable {K:PySem.W.Frag} {σ:St} {H:Hp}
end
end L2
namespace L2
open PySem PySem.Spec PyProof.Rows
section
variable {P:Program} {w:World} {A:Around} {E:Value→Shared→Prop} {s:Shared}
theorem max_lst {l:Addr} {us:List Value} {ns:List Int} {Q:Value→Shared→Prop} (hh:A.handled=none) (hl:s.heap.IsList l us.toArray) (hi:IntsAre us ns) (ne:0 < ns.length)
  (q:∀ g M (t:Tok) tk,(∀ b o,s.heap.get? b=some o→g.get? b=some o)→M∈ns→(∀ a∈ns,a≤M)→Q (.int M t) { s with heap:=g,toks:=tk }):wpAny (model P w) A (call (.builtin "max") [.ref l]) Q E s:=by
 obtain ⟨zs,e⟩:=hi.allInts.items
 have en:ns=zs.toList.map (·.1):=by rw [←hi.numsOf,←nums_intItems,←e]
 have zz:0 < zs.size:=by rw [en,List.length_map,Array.length_toList] at ne;exact ne
 rw [e] at hl
 refine max_intList hh hl zz fun v g tk hv hk=>?_
 obtain ⟨t,rfl⟩:=intItems_at hv
 obtain ⟨k1,k2⟩:=argBest_gt (numAt zs) (zs.size - 1)
 refine q g _ t tk hk ?_ fun a ha=>?_
 ·rw [en,numAt_eq]
  exact getD_mem (by rw [List.length_map,Array.length_toList];omega)
 ·rw [en] at ha
  obtain ⟨j,hj,rfl⟩:=mem_getD ha
  rw [List.length_map,Array.length_toList] at hj
  rw [←numAt_eq]
  exact k2 j (by omega)
end
section
variable {X:Cx}
noncomputable def rMaxL (K:PySem.W.Frag):List V→Hp→VK→Prop:=fun xs H Q=>∃ (p:Addr) (ns:List Int),xs=[.ref p]∧SqL K H p (ns.map V.int)∧0 < ns.length∧∀ M,M∈ns→(∀ a∈ns,a≤M)→Q (.int M) H
theorem call_maxL (hc:X.calm=true):CallR X (.builtin "max") (rMaxL X.K):=by
 intro pins s σ H xs us Q I r h
 obtain ⟨p,ns,rfl,hq,ne,q⟩:=h
 obtain ⟨u,rfl,rx⟩:=Vals.one r
 cases (show u=Value.ref p from rx)
 obtain ⟨its,rv,pl,hz⟩:=I.list hq
 exact max_lst (I.ok.hd hc) pl.isList (intsAre_of rv) ne fun g M t tk hk hM hA=>⟨.int M,H,I.kept (t':=tk) hk,⟨t,rfl⟩,q M hM hA⟩
theorem k_maxL (K:PySem.W.Frag) (hc:X.calm=true:=by rfl) (h:X.K=K:=by rfl):CallR X (.builtin "max") (rMaxL K):=h▸call_maxL hc
end
section
variable {K:PySem.W.Frag} {σ:St} {H:Hp} {Q:VK}
theorem rd_maxL {p:Addr} {ns:List Int} (e:H p=some (.lst (ns.map V.int))) (ne:0 < ns.length) (h:∀ M,M∈ns→(∀ a∈ns,a≤M)→Q (.int M) H):rMaxL K [.ref p] H Q:=⟨p,ns,rfl,SqL.of e,ne,h⟩
end
end L2
namespace L2
open PySem PySem.Spec PyProof.Rows
noncomputable def Fresh (H H':Hp) (v:V) (d:PyData):Prop:=∀ H2:Hp,(∀ a u,H a=none→H' a=some u→H2 a=some u)→Is H2 v d
inductive FreshAll (H H':Hp):List V→List PyData→Prop
 | nil:FreshAll H H' [] []
 | cons {v:V} {d:PyData} {vs:List V} {ds:List PyData}:Fresh H H' v d→FreshAll H H' vs ds→FreshAll H H' (v::vs) (d::ds)
theorem Fresh.mono {H H1 H2 H3:Hp} {v:V} {d:PyData} (s1:Same H H1) (s2:Same H2 H3) (h:Fresh H1 H2 v d):Fresh H H3 v d:=fun K k=>h K fun a u n e=>k a u (by
 cases q:H a with
 | none=>rfl
 | some w=>rw [s1 _ _ q] at n;cases n) (s2 _ _ e)
theorem FreshAll.mono {H H1 H2 H3:Hp} (s1:Same H H1) (s2:Same H2 H3):∀ {vs:List V} {ds:List PyData},FreshAll H1 H2 vs ds→FreshAll H H3 vs ds
 | _,_,.nil=>.nil
 | _,_,.cons h t=>.cons (h.mono s1 s2) (t.mono s1 s2)
theorem FreshAll.length {H H':Hp}:∀ {vs:List V} {ds:List PyData},FreshAll H H' vs ds→vs.length=ds.length
 | _,_,.nil=>rfl
 | _,_,.cons _ t=>by rw [List.length_cons,List.length_cons,t.length]
theorem FreshAll.is {H H' H2:Hp} (k:∀ a u,H a=none→H' a=some u→H2 a=some u):∀ {vs:List V} {ds:List PyData},FreshAll H H' vs ds→IsAll H2 vs ds
 | _,_,.nil=>.nil
 | _,_,.cons h t=>.cons (h H2 k) (t.is k)
theorem FreshAll.mem {H H':Hp}:∀ {vs:List V} {ds:List PyData} {v:V},FreshAll H H' vs ds→v∈vs→∃ d∈ds,Fresh H H' v d
 | _,_,_,.nil,h=>nomatch h
 | _,_,_,.cons h t,hv=>by
  rcases List.mem_cons.mp hv with rfl | hv
  ·exact ⟨_,List.mem_cons_self,h⟩
  ·obtain ⟨d,hd,f⟩:=t.mem hv
   exact ⟨d,List.mem_cons_of_mem _ hd,f⟩
noncomputable def tLit (d:PyData):TE:=fun _ H Q=>∀ v H',Same H H'→Fresh H H' v d→Q v H'
noncomputable def tLits (ds:List PyData):TA:=fun _ H P=>∀ vs H',Same H H'→FreshAll H H' vs ds→P vs H'
section
variable {X:Cx} {e:Expr} {es:List Expr} {pos:Pos} {d:PyData} {ds:List PyData}
theorem PE.imp {t t':TE} (h:PE X e t) (k:∀ σ H Q,t' σ H Q→t σ H Q):PE X e t':=fun pins s σ H Q I q=>h pins s σ H Q I (k σ H Q q)
theorem PA.imp {t t':TA} (h:PA X es t) (k:∀ σ H Q,t' σ H Q→t σ H Q):PA X es t':=fun pos pins s σ H Q I q=>h pos pins s σ H Q I (k σ H Q q)
theorem pl_int {i:Int} {j}:PE X (.Constant (.int i) j pos) (tLit (.int i)):=pe_int.imp fun _ H Q q=>q _ H (Same.refl H) fun _ _=>.int i
theorem pl_bl {b:Bool} {j}:PE X (.Constant (.bool b) j pos) (tLit (.bool b)):=pe_bl.imp fun _ H Q q=>q _ H (Same.refl H) fun _ _=>.bl b
theorem pl_non {j}:PE X (.Constant .none j pos) (tLit .none):=pe_non.imp fun _ H Q q=>q _ H (Same.refl H) fun _ _=>.non
theorem pl_str {x:Str} {j}:PE X (.Constant (.str x) j pos) (tLit (.str x)):=pe_str.imp fun _ H Q q=>q _ H (Same.refl H) fun _ _=>.str x
theorem pl_neg {i:Int} {j p2}:PE X (.UnaryOp .USub (.Constant (.int i) j p2) pos) (tLit (.int (-i))):=(pe_un un_neg pe_int).imp fun _ H Q q=>⟨i,rfl,q _ H (Same.refl H) fun _ _=>.int (-i)⟩
theorem pls_nil:PA X [] (tLits []):=pa_nil.imp fun _ H P q=>q [] H (Same.refl H) .nil
theorem pls_cons (ha:PE X e (tLit d)) (hr:PA X es (tLits ds)) (hs:starEach (e::es) X.env=(false,eval e X.env)::starEach es X.env:=by rfl):PA X (e::es) (tLits (d::ds)):=
 (pa_cons ha hr hs).imp fun _ H P q v H1 s1 f1 vs H2 s2 f2=>q (v::vs) H2 (s1.trans s2) (.cons (f1.mono (Same.refl _) s2) (f2.mono s1 (Same.refl _)))
theorem pl_tup {x1} (h:PA X es (tLits ds)) (hz:ds.length≤sizeLine:=by decide):PE X (.Tuple es x1 pos) (tLit (.tuple ds)):=
 (pe_tup h).imp fun _ H Q q vs H1 s1 f1=>⟨by rw [f1.length];exact hz,fun p hp=>q _ _ (s1.trans (Same.upd hp)) fun H2 k=>.tup (k p _ (by
  cases e:H p with
  | none=>rfl
  | some u=>rw [s1 _ _ e] at hp;cases hp) upd_same) (f1.is fun a u n e=>k a u n (by rw [upd_ne (ne_of_none e hp)];exact e))⟩
theorem pl_lst (h:PA X es (tLits ds)) (hz:ds.length≤sizeLine:=by decide):PE X (.List es pos) (tLit (.list ds)):=
 (pe_lst h).imp fun _ H Q q vs H1 s1 f1=>⟨by rw [f1.length];exact hz,fun p hp=>q _ _ (s1.trans (Same.upd hp)) fun H2 k=>.lst (Rd.of (k p _ (by
  cases e:H p with
  | none=>rfl
  | some u=>rw [s1 _ _ e] at hp;cases hp) upd_same)) (f1.is fun a u n e=>k a u n (by rw [upd_ne (ne_of_none e hp)];exact e))⟩
end
inductive CallL (X:Cx) (E:XK):List (Addr×Sp)→Prop
 | nil:CallL X E []
 | cons {CX:CXT} {k:Nat} {f:Addr} {fd:FuncData} {ps:List Str} {sp:Sp} {l:List (Addr×Sp)} (F:FnOk X.prog X.w X.K X.mg X.base CX k f fd ps sp) (hr:Room k X.A) (hk:PySem.W.keepIn X.K (.ref f)=true) (hb:Binds X.K fd ps []) (hx:Passes CX X E) (r:CallL X E l):CallL X E ((f,sp)::l)
theorem CallL.get {X:Cx} {E:XK}:∀ {l:List (Addr×Sp)} {i:Nat} {f:Addr} {sp:Sp},CallL X E l→l[i]? =some (f,sp)→∃ (CX:CXT) (k:Nat) (fd:FuncData) (ps:List Str),FnOk X.prog X.w X.K X.mg X.base CX k f fd ps sp∧Room k X.A∧PySem.W.keepIn X.K (.ref f)=true∧Binds X.K fd ps []∧Passes CX X E
 | _,_,_,_,.nil,e=>by simp at e
 | _,0,_,_,.cons F hr hk hb hx r,e=>by simp at e;obtain ⟨rfl,rfl⟩:=e;exact ⟨_,_,_,_,F,hr,hk,hb,hx⟩
 | _,i + 1,_,_,.cons F hr hk hb hx r,e=>r.get (i:=i) (by simpa using e)
end L2
namespace L2
open PySem PySem.Spec PyProof.Rows
section
variable {prog:Program} {w:World} {A:Around} {E:Value→Shared→Prop} {s:Shared}
end
theorem vals_intsA {us:List Value} {ns:List Int} (h:IntsAre us ns):Vals (ns.map V.int) us:=by
 induction h with
 | nil=>exact .nil
 | cons _ _ _ ih=>exact .cons ⟨_,rfl⟩ ih
section
variable {X:Cx}
noncomputable def upTo (n:Nat):List Int:=(List.range n).map fun (i:Nat)=>(i:Int)
theorem upTo_len (n:Nat):(upTo n).length=n:=by unfold upTo;simp
end
end L2
namespace L2
open PySem PySem.Spec PyProof.Rows
open AutoSeq1 (wpAny_loadPart')
section
variable {prog:Program} {w:World} {A:Around} {E:Value→Shared→Prop} {s:Shared}
end
section
variable {X:Cx}
end
section
variable {σ:St} {H:Hp} {Q:VK} {K:PySem.W.Frag}
end
end L2
namespace L2
open PySem PySem.Spec PyProof.Rows
section
variable {K:PySem.W.Frag} {σ:St} {H:Hp} {Q:VK}
theorem rd_sl {r:V→Option Int→Option Int→Hp→VK→Prop} {te:TE} {tl th:TO} (h:te σ H fun x H1=>tl σ H1 fun l H2=>th σ H2 fun u H3=>r x l u H3 Q):tSl r te tl th σ H Q:=h
theorem rd_noP {P:Option Int→Hp→Prop} (h:P none H):tNoPart σ H P:=h
theorem rd_part {te:TE} {P:Option Int→Hp→Prop} (h:te σ H fun x H1=>∃ i,x=.int i∧P (some i) H1):tPart te σ H P:=h
theorem FreshAll.append {H H':Hp}:∀ {vs:List V} {ds:List PyData} {ws:List V} {es:List PyData},FreshAll H H' vs ds→FreshAll H H' ws es→FreshAll H H' (vs++ws) (ds++es)
 | _,_,_,_,.nil,h=>h
 | _,_,_,_,.cons a t,h=>.cons a (t.append h)
theorem mem_upTo {n:Nat} {i:Int}:i∈upTo n↔0≤i∧i < n:=by
 unfold upTo
 rw [List.mem_map]
 constructor
 ·rintro ⟨k,hk,rfl⟩
  have:=List.mem_range.mp hk
  omega
 ·intro h
  exact ⟨i.toNat,List.mem_range.mpr (by omega),by omega⟩
theorem upTo_nd (n:Nat):(upTo n).Nodup:=by
 unfold upTo List.Nodup
 rw [List.pairwise_map]
 refine List.Pairwise.imp (fun h=>?_) (List.nodup_range (n:=n))
 omega
end
inductive Lit:List Expr→List PyData→Prop
 | nil:Lit [] []
 | int {i:Int} {j p es ds}:Lit es ds→Lit (.Constant (.int i) j p::es) (.int i::ds)
 | bl {b:Bool} {j p es ds}:Lit es ds→Lit (.Constant (.bool b) j p::es) (.bool b::ds)
 | non {j p es ds}:Lit es ds→Lit (.Constant .none j p::es) (.none::ds)
 | str {x:Str} {j p es ds}:Lit es ds→Lit (.Constant (.str x) j p::es) (.str x::ds)
 | neg {i:Int} {j p p2 es ds}:Lit es ds→Lit (.UnaryOp .USub (.Constant (.int i) j p2) p::es) (.int (-i)::ds)
 | tup {es' ds' x p es ds}:Lit es' ds'→ds'.length≤100→Lit es ds→Lit (.Tuple es' x p::es) (.tuple ds'::ds)
 | lst {es' ds' p es ds}:Lit es' ds'→ds'.length≤100→Lit es ds→Lit (.List es' p::es) (.list ds'::ds)
theorem Lit.pa {X:Cx} {es:List Expr} {ds:List PyData} (h:Lit es ds):PA X es (tLits ds):=by
 have hz:100≤sizeLine:=by decide
 induction h with
 | nil=>exact pls_nil
 | int _ ih=>exact pls_cons pl_int ih
 | bl _ ih=>exact pls_cons pl_bl ih
 | non _ ih=>exact pls_cons pl_non ih
 | str _ ih=>exact pls_cons pl_str ih
 | neg _ ih=>exact pls_cons pl_neg ih
 | tup _ h _ ih1 ih2=>exact pls_cons (pl_tup ih1 (Nat.le_trans h hz)) ih2
 | lst _ h _ ih1 ih2=>exact pls_cons (pl_lst ih1 (Nat.le_trans h hz)) ih2
end L2
namespace L2
open PySem PySem.Spec PyProof.Rows
section
variable {κ:Type} [DecidableEq κ]
noncomputable def valV (kvs:List (κ×V)) (k:κ):Option V:=(kvs.find? fun kv=>decide (kv.1=k)).map (·.2)
noncomputable def putK (kvs:List (κ×V)) (k:κ) (v:V):List (κ×V):=
 if (kvs.any fun kv=>decide (kv.1=k))=true then kvs.map (fun kv=>if kv.1=k then (kv.1,v) else kv) else kvs++[(k,v)]
noncomputable def dropK (kvs:List (κ×V)) (k:κ):List (κ×V):=kvs.filter fun kv=>decide (kv.1≠k)
theorem valV_pos {p:κ×V} {r:List (κ×V)} {k:κ} (e:p.1=k):valV (p::r) k=some p.2:=by simp [valV,List.find?_cons,e]
theorem valV_neg {p:κ×V} {r:List (κ×V)} {k:κ} (e:¬p.1=k):valV (p::r) k=valV r k:=by simp [valV,List.find?_cons,e]
theorem valV_any (k:κ):∀ kvs:List (κ×V),(kvs.any fun kv=>decide (kv.1=k))=(valV kvs k).isSome
 | []=>rfl
 | p::r=>by
  rw [List.any_cons]
  by_cases e:p.1=k
  ·simp only [valV_pos e,decide_eq_true e,Bool.true_or,Option.isSome_some]
  ·rw [valV_neg e,decide_eq_false e,Bool.false_or];exact valV_any k r
theorem length_putK (kvs:List (κ×V)) (k:κ) (v:V):(putK kvs k v).length≤kvs.length + 1:=by
 unfold putK
 split
 ·rw [List.length_map];omega
 ·rw [List.length_append,List.length_cons,List.length_nil];omega
theorem putK_new {kvs:List (κ×V)} {k:κ} (v:V) (h:valV kvs k=none):putK kvs k v=kvs++[(k,v)]:=by
 unfold putK
 rw [valV_any,h]
 exact if_neg (by decide)
theorem RelO.isSome_eq {o:Option V} {u:Option Value} (r:RelO o u):o.isSome=u.isSome:=by
 cases o with
 | none=>cases u with
  | none=>rfl
  | some _=>exact (show False from r).elim
 | some _=>cases u with
  | none=>exact (show False from r).elim
  | some _=>rfl
theorem RelO.getD {o:Option V} {u:Option Value} {d:V} {d':Value} (r:RelO o u) (rd:RelV d d'):RelV (o.getD d) (u.getD d'):=by
 cases o with
 | none=>cases u with
  | none=>exact rd
  | some _=>exact (show False from r).elim
 | some _=>cases u with
  | none=>exact (show False from r).elim
  | some _=>exact r
theorem KV.val {kvs:List (κ×V)} {vs:List (κ×Value)} (r:KV kvs vs) (k:κ):RelO (valV kvs k) (valueAt vs k):=by
 unfold KV at r
 induction r with
 | nil=>exact True.intro
 | @cons p q ps qs h t ih=>
  obtain ⟨h1,h2⟩:=h
  by_cases e:p.1=k
  ·have e':q.1=k:=h1.symm.trans e
   have b:valueAt (q::qs) k=some q.2:=by simp [valueAt,List.find?_cons,e']
   rw [valV_pos e,b];exact h2
  ·have e':¬q.1=k:=fun z=>e (h1.trans z)
   have b:valueAt (q::qs) k=valueAt qs k:=by simp [valueAt,List.find?_cons,e']
   rw [valV_neg e,b];exact ih
theorem KV.any {kvs:List (κ×V)} {vs:List (κ×Value)} (r:KV kvs vs) (k:κ):(kvs.any fun kv=>decide (kv.1=k))=vs.any fun kv=>decide (kv.1=k):=by
 unfold KV at r
 induction r with
 | nil=>rfl
 | cons h t ih=>rw [List.any_cons,List.any_cons,ih,h.1]
theorem KV.repl {kvs:List (κ×V)} {vs:List (κ×Value)} (r:KV kvs vs) (k:κ) {y:V} {u:Value} (ry:RelV y u):
  KV (kvs.map fun kv=>if kv.1=k then (kv.1,y) else kv) (vs.map fun kv=>if kv.1=k then (kv.1,u) else kv):=by
 unfold KV at r ⊢
 induction r with
 | nil=>exact .nil
 | @cons p q ps qs h t ih=>
  rw [List.map_cons,List.map_cons]
  refine .cons ?_ ih
  obtain ⟨h1,h2⟩:=h
  by_cases e:p.1=k
  ·rw [if_pos e,if_pos (h1.symm.trans e)];exact ⟨h1,ry⟩
  ·rw [if_neg e,if_neg (fun z=>e (h1.trans z))];exact ⟨h1,h2⟩
theorem KV.put {kvs:List (κ×V)} {vs:List (κ×Value)} (r:KV kvs vs) (k:κ) {y:V} {u:Value} (ry:RelV y u):KV (putK kvs k y) (stored vs k u):=by
 unfold putK stored
 rw [r.any k]
 by_cases e:(vs.any fun kv=>decide (kv.1=k))=true
 ·rw [if_pos e,if_pos e];exact r.repl k ry
 ·rw [if_neg e,if_neg e];exact Paired.snoc r ⟨rfl,ry⟩
theorem KV.drop {kvs:List (κ×V)} {vs:List (κ×Value)} (r:KV kvs vs) (k:κ):KV (dropK kvs k) (without vs k):=by
 unfold KV at r ⊢
 unfold dropK without
 induction r with
 | nil=>exact .nil
 | @cons p q ps qs h t ih=>
  obtain ⟨h1,h2⟩:=h
  rw [List.filter_cons,List.filter_cons]
  by_cases e:p.1=k
  ·have a:¬decide (p.1≠k)=true:=by simp [e]
   have b:¬decide (q.1≠k)=true:=by simp [h1.symm.trans e]
   rw [if_neg a,if_neg b];exact ih
  ·have e':¬q.1=k:=fun z=>e (h1.trans z)
   have a:decide (p.1≠k)=true:=by simp [e]
   have b:decide (q.1≠k)=true:=by simp [e']
   rw [if_pos a,if_pos b];exact .cons ⟨h1,h2⟩ ih
theorem KV.length {kvs:List (κ×V)} {vs:List (κ×Value)} (r:KV kvs vs):kvs.length=vs.length:=Paired.length r
end
theorem kV_is {P:Program} {w:World} {k:Key} {u:Value} (r:RelV (kV k) u):(mixKind P w).is k u=true:=by
 cases k with
 | inl i=>obtain ⟨t,e⟩:=(show ∃ t,u=Value.int i t from r);subst e;exact mixKind_int P w i t
 | inr x=>obtain ⟨t,e⟩:=(show ∃ t,u=Value.str x t from r);subst e;exact mixKind_str P w x t
theorem items_are {P:Program} {w:World}:∀ {ks:List Key} {us:List Value},Vals (ks.map kV) us→ItemsAre (mixKind P w) ks us
 | [],_,r=>by rw [List.map_nil] at r;cases r;exact .nil
 | k::ks,_,r=>by
  rw [List.map_cons] at r
  cases r with
  | cons h t=>exact .cons (kV_is h) (items_are t)
noncomputable abbrev KT (H:Hp):List (List Key×V)→List (List Key×Addr×Value)→Prop:=Paired fun p q=>p.1=q.1∧H q.2.1=some (.tup (p.1.map kV))∧RelV p.2 q.2.2
theorem KT.val {H:Hp} {kvs:List (List Key×V)} {xs:List (List Key×Addr×Value)} (r:KT H kvs xs) (k:List Key):RelO (valV kvs k) ((atKey xs k).map (·.2)):=by
 induction r with
 | nil=>exact True.intro
 | @cons p q ps qs h t ih=>
  obtain ⟨h1,_,h2⟩:=h
  by_cases e:p.1=k
  ·have e':q.1=k:=h1.symm.trans e
   have b:atKey (q::qs) k=some q.2:=by simp [atKey,List.find?_cons,e']
   rw [valV_pos e,b];exact h2
  ·have e':¬q.1=k:=fun z=>e (h1.trans z)
   have b:atKey (q::qs) k=atKey qs k:=by simp [atKey,List.find?_cons,e']
   rw [valV_neg e,b];exact ih
theorem KT.repl {H:Hp} {kvs:List (List Key×V)} {xs:List (List Key×Addr×Value)} (r:KT H kvs xs) (k:List Key) {y:V} {u:Value} (ry:RelV y u):
  KT H (kvs.map fun kv=>if kv.1=k then (kv.1,y) else kv) (xs.map (putAt k u)):=by
 induction r with
 | nil=>exact .nil
 | @cons p q ps qs h t ih=>
  rw [List.map_cons,List.map_cons]
  refine .cons ?_ ih
  obtain ⟨h1,h2,h3⟩:=h
  unfold putAt
  by_cases e:p.1=k
  ·rw [if_pos e,if_pos (h1.symm.trans e)];exact ⟨h1,h2,ry⟩
  ·rw [if_neg e,if_neg (fun z=>e (h1.trans z))];exact ⟨h1,h2,h3⟩
theorem KT.put {H:Hp} {kvs:List (List Key×V)} {xs:List (List Key×Addr×Value)} (r:KT H kvs xs) (k:List Key) {b:Addr} {y:V} {u:Value} (hb:H b=some (.tup (k.map kV))) (ry:RelV y u):
  KT H (putK kvs k y) (storedH xs k b u):=by
 have e:(kvs.any fun kv=>decide (kv.1=k))=(atKey xs k).isSome:=by
  rw [valV_any,(r.val k).isSome_eq,Option.isSome_map]
 unfold putK storedH
 rw [e]
 by_cases q:(atKey xs k).isSome=true
 ·rw [if_pos q,if_pos q];exact r.repl k ry
 ·rw [if_neg q,if_neg q];exact Paired.snoc r ⟨rfl,hb,ry⟩
theorem KT.keeps {H H':Hp} {kvs:List (List Key×V)} {xs:List (List Key×Addr×Value)} (r:KT H kvs xs) (ht:∀ b ys,H b=some (.tup ys)→H' b=some (.tup ys)):KT H' kvs xs:=
 Paired.mapP r fun _ _ z=>⟨z.1,ht _ _ z.2.1,z.2.2⟩
section
variable {P:Program} {w:World} {H:Hp} {h:Heap} {a:Addr}
theorem rd_of {u:HO} (ok:HOk P w H h) (e:Rd H a u):ObjOk P w H h a u:=e.ok ok
theorem dk_rd {kvs:List (Key×V)} (ok:HOk P w H h) (e:Rd H a (.dK kvs)):kvs.length≤sizeLine∧(a==sysModules)=false∧∃ vs,KV kvs vs∧h.DictOf (mixKind P w) a vs:=
 show ObjOk P w H h a (.dK kvs) from rd_of ok e
theorem dk_of {kvs:List (Key×V)} (ok:HOk P w H h) (e:H a=some (.dK kvs)):kvs.length≤sizeLine∧(a==sysModules)=false∧∃ vs,KV kvs vs∧h.DictOf (mixKind P w) a vs:=dk_rd ok (.inl e)
theorem key_of {ks:List Key} (ok:HOk P w H h) (e:H a=some (.tup (ks.map kV))):(tupleKind (mixKind P w)).is h ks a:=by
 obtain ⟨_,its,r,⟨o,h1,h2,n,h3⟩,_⟩:=(show ObjOk P w H h a (.tup (ks.map kV)) from ok a _ e)
 exact ⟨o,its.toArray,n,h1,h2,h3,by simpa using items_are r⟩
theorem dt_rd {kvs:List (List Key×V)} (ok:HOk P w H h) (e:Rd H a (.dT kvs)):kvs.length≤sizeLine∧(a==sysModules)=false∧
  ∃ xs,KT H kvs xs∧h.DictOfH (tupleKind (mixKind P w)) a xs:=by
 obtain ⟨z,y,xs,r,o,es,ep,h1,h2,h3,h4,h5⟩:=(show ObjOk P w H h a (.dT kvs) from rd_of ok e)
 refine ⟨z,y,xs,r,o,es,ep,h1,h2,h3,h4,fun x hx=>?_,h5⟩
 have all:∀ {l:List (List Key×V)} {m:List (List Key×Addr×Value)},KT H l m→∀ x∈m,(tupleKind (mixKind P w)).is h x.1 x.2.1:=by
  intro l m q
  induction q with
  | nil=>intro x hx;exact nomatch hx
  | @cons p q ps qs hq t ih=>
   intro x hx
   rcases List.mem_cons.mp hx with e | hx
   ·subst e
    exact key_of ok (by rw [←hq.1];exact hq.2.1)
   ·exact ih x hx
 exact all r x hx
theorem dt_of {kvs:List (List Key×V)} (ok:HOk P w H h) (e:H a=some (.dT kvs)):kvs.length≤sizeLine∧(a==sysModules)=false∧
  ∃ xs,KT H kvs xs∧h.DictOfH (tupleKind (mixKind P w)) a xs:=dt_rd ok (.inl e)
end
noncomputable def DGet (H:Hp) (a:Addr) (y:V) (r:Option V):Prop:=
 (∃ kvs k,Rd H a (.dK kvs)∧y=kV k∧r=valV kvs k)∨∃ kvs k b,Rd H a (.dT kvs)∧y=.ref b∧H b=some (.tup (k.map kV))∧r=valV kvs k
noncomputable def DPut (H:Hp) (a:Addr) (y v:V) (H':Hp):Prop:=
 (∃ kvs k,H a=some (.dK kvs)∧y=kV k∧kvs.length < sizeLine∧H'=upd H a (.dK (putK kvs k v)))∨
 ∃ kvs k b,H a=some (.dT kvs)∧y=.ref b∧H b=some (.tup (k.map kV))∧kvs.length < sizeLine∧H'=upd H a (.dT (putK kvs k v))
theorem DGet.k {H:Hp} {a:Addr} {kvs:List (Key×V)} {k:Key} (e:H a=some (.dK kvs)):DGet H a (kV k) (valV kvs k):=.inl ⟨kvs,k,.inl e,rfl,rfl⟩
theorem DGet.t {H:Hp} {a b:Addr} {kvs:List (List Key×V)} {k:List Key} (e:H a=some (.dT kvs)) (eb:H b=some (.tup (k.map kV))):DGet H a (.ref b) (valV kvs k):=.inr ⟨kvs,k,b,.inl e,rfl,eb,rfl⟩
theorem DPut.k {H:Hp} {a:Addr} {kvs:List (Key×V)} {k:Key} {v:V} (e:H a=some (.dK kvs)) (hl:kvs.length < sizeLine):DPut H a (kV k) v (upd H a (.dK (putK kvs k v))):=.inl ⟨kvs,k,e,rfl,hl,rfl⟩
theorem DPut.t {H:Hp} {a b:Addr} {kvs:List (List Key×V)} {k:List Key} {v:V} (e:H a=some (.dT kvs)) (eb:H b=some (.tup (k.map kV))) (hl:kvs.length < sizeLine):
  DPut H a (.ref b) v (upd H a (.dT (putK kvs k v))):=.inr ⟨kvs,k,b,e,rfl,eb,hl,rfl⟩
section
variable {X:Cx} {pins:List (Addr×Obj)} {σ:St} {H:Hp} {s:Shared} {a:Addr} {y v:V} {u r:Value} {o:Option V} {A:Around} {E:Value→Shared→Prop}
theorem Inv.big (I:Inv X pins σ H s):sysModules < s.heap.objs.size:=by
 have h:mainGlobals < s.heap.objs.size:=(I.mod.glob.keeps I.bk).lt
 exact Nat.lt_trans (by decide) h
theorem d_getItem {Q:Value→Shared→Prop} (hu:A.units + 1 < cLine) (I:Inv X pins σ H s) (g:DGet H a y (some v)) (ry:RelV y u) (h:∀ w' s',Inv X pins σ H s'→RelV v w'→Q w' s'):
  wpAny (model X.prog X.w) A (getItem (.ref a) u) Q E s:=by
 rcases g with ⟨kvs,k,e,ey,l⟩ | ⟨kvs,k,b,e,ey,eb,l⟩
 ·subst ey
  obtain ⟨z,hd,vs,rel,dd⟩:=dk_rd I.hok e
  obtain ⟨w',hw,rw'⟩:=RelO.some_of (v:=v) (o:=valueAt vs k) (by rw [l];exact rel.val k)
  exact wpAny_getItem_of (kV_is ry) dd.mapOf hw (h w' _ (I.tok _) rw')
 ·subst ey
  cases (show u=Value.ref b from ry)
  obtain ⟨z,hd,xs,rel,dd⟩:=dt_rd I.hok e
  obtain ⟨w',hw,rw'⟩:=RelO.some_of (v:=v) (o:=(atKey xs k).map (·.2)) (by rw [l];exact rel.val k)
  obtain ⟨p,hp,hp2⟩:=Option.map_eq_some_iff.mp hw
  refine wpAny_getItem_heap (tupleKind_room_in1 hu) (key_of I.hok eb) dd hp ?_
  rw [hp2]
  exact h w' _ (I.tok _) rw'
theorem d_write {h':Heap} {t':Nat} {ob:HO} (I:Inv X pins σ H s) (mu:Mut (H a)) (hs:Heap.SameBut a s.heap h') (he:∃ q,h'.get? a=some q) (new:ObjOk X.prog X.w (upd H a ob) h' a ob):
  Inv X pins σ (upd H a ob) { s with heap:=h',toks:=t' }:=
 I.write (x:=a) (e:=a) mu (.inl rfl) (fun b q hb z=>(hs.2 b hb).trans z) he new
theorem dk_new {P:Program} {w:World} {H':Hp} {h':Heap} {kvs:List (Key×V)} {vs:List (Key×Value)} (z:kvs.length≤sizeLine) (hd:(a==sysModules)=false) (rel:KV kvs vs) (dd:h'.DictOf (mixKind P w) a vs):
  ObjOk P w H' h' a (.dK kvs):=⟨z,hd,vs,rel,dd⟩
theorem d_setItem {H':Hp} {Q:Unit→Shared→Prop} (hu:A.units + 1 < cLine) (I:Inv X pins σ H s) (g:DPut H a y v H') (ry:RelV y u) (rv:RelV v r) (h:∀ s',Inv X pins σ H' s'→Q () s'):
  wpAny (model X.prog X.w) A (setItem (.ref a) u r) Q E s:=by
 rcases g with ⟨kvs,k,e,ey,l,eH⟩ | ⟨kvs,k,b,e,ey,eb,l,eH⟩
 ·subst ey eH
  obtain ⟨z,hd,vs,rel,dd⟩:=dk_of I.hok e
  have hz:vs.length≤sizeLine:=by rw [←rel.length];exact z
  have hl:(putK kvs k v).length≤sizeLine:=by have:=length_putK kvs k v;omega
  refine wpAny_setItem_pairs (hsz:=hz) (kV_is ry) dd fun h' dd' hs=>h _ ?_
  have he:∃ q,h'.get? a=some q:=let ⟨q,_,_,hq,_⟩:=dd';⟨q,hq⟩
  exact d_write I (by rw [e];exact True.intro) hs he (dk_new hl hd (rel.put k rv) dd')
 ·subst ey eH
  cases (show u=Value.ref b from ry)
  obtain ⟨z,hd,xs,rel,dd⟩:=dt_of I.hok e
  have hz:xs.length≤sizeLine:=by rw [←Paired.length rel];exact z
  have hl:(putK kvs k v).length≤sizeLine:=by have:=length_putK kvs k v;omega
  refine wpAny_setItem_heap (hsz:=hz) (tupleKind_room_in1 hu) (key_of I.hok eb) dd fun h' dd' hs=>h _ ?_
  obtain ⟨q,es,ep,hq,h2,h3,h4,_,h5⟩:=dd'
  refine d_write I (by rw [e];exact True.intro) hs ⟨q,hq⟩ ⟨hl,hd,_,(rel.put k eb rv).keeps fun c ys ec=>?_,q,es,ep,hq,h2,h3,h4,h5⟩
  rw [upd_ne (ne_of ec e (fun z=>nomatch z))]
  exact ec
end
section
variable {X:Cx} {pins:List (Addr×Obj)} {σ:St} {H:Hp} {s:Shared} {a:Addr} {kvs:List (Key×V)} {k:Key} {u:Value} {A:Around} {E:Value→Shared→Prop}
end
noncomputable def NoSl (i:Expr):Prop:=∀ ov iv,subscripted i false ov iv=operate [ov,iv] (getItem ov iv)
theorem subD_of {prog:Program} {w:World} {A:Around} {E:Value→Shared→Prop} {s:Shared} {env:Env} {value slice:Expr} {pos:Pos} {T id:String} {Q:Value→Shared→Prop}
  (hl:typeLookup (.type T) "__getitem__"=pure (some (.builtin id))) (hs:NoSl slice)
  (h:wpAny (model prog w) A (eval value env) (fun o s₁=>wpAny (model prog w) A (eval slice env) (fun i s₂=>s₂.TypeIs o T∧wpAny (model prog w) A (getItem o i) Q E s₂) E s₁) E s):
  wpAny (model prog w) A (eval (.Subscript value slice pos) env) Q E s:=by
 refine Subscript_ (wpAny_mono h (fun o s₁ h₁=>wpAny_mono h₁ (fun i s₂ h₂=>?_) fun _ _ x=>x) fun _ _ x=>x)
 obtain ⟨hT,h₂⟩:=h₂
 unfold subscriptTail
 refine wpAny_bind ?_
 rw [getitemInPython_of_ne hT.not_modules]
 refine wpAny_bind (wpAny_specialOf hT hl ?_)
 have fin:wpAny (model prog w) A (subscripted slice false o i) (fun r s₃=>wpAny (model prog w) A (letTemporaryGo value o r >>=fun _=>pure r) Q E s₃) E s₂:=by
  rw [hs o i]
  exact wpAny_operating (wpAny_mono h₂ (fun r s₃ h₃=>wpAny_bind (wpAny_letTemporaryGo (wpAny_pure h₃))) fun _ _ x=>x)
 first
  | exact wpAny_pure (wpAny_bind fin)
  | exact wpAny_bind (wpAny_pure (wpAny_bind fin))
  | exact wpAny_bind fin
theorem dict_typeIs {X:Cx} {pins:List (Addr×Obj)} {σ:St} {H:Hp} {s:Shared} {a:Addr} {y:V} {o:Option V} (I:Inv X pins σ H s) (g:DGet H a y o):s.TypeIs (.ref a) "dict":=by
 rcases g with ⟨kvs,k,e,_,_⟩ | ⟨kvs,k,b,e,_,_,_⟩
 ·obtain ⟨_,_,vs,_,dd⟩:=dk_rd I.hok e
  exact dd.typeIs
 ·obtain ⟨_,_,xs,_,dd⟩:=dt_rd I.hok e
  exact dd.typeIs
noncomputable def tDGet (td ty:TE):TE:=fun σ H Q=>td σ H fun x H1=>ty σ H1 fun y H2=>∃ a v,x=.ref a∧DGet H2 a y (some v)∧Q v H2
noncomputable def sDPut (td ty tv:TE):TS:=fun D σ H=>tv σ H fun v H1=>td σ H1 fun x H2=>ty σ H2 fun y H3=>∃ a H4,x=.ref a∧DPut H3 a y v H4∧D.nx σ H4
section
variable {X:Cx} {o i e value:Expr} {pos pos' tpos:Pos} {td ty tv:TE}
theorem pe_dget (hu:X.A.units + 1 < cLine) (ho:PE X o td) (hi:PE X i ty) (hs:NoSl i):PE X (.Subscript o i pos) (tDGet td ty):=by
 intro pins s σ H Q I h
 refine subD_of PySem.F.slot_dict_getitem.lookup hs (thn (ho pins s σ H _ I h) fun u s1 ⟨x,H1,I1,rx,q1⟩=>thn (hi pins s1 σ H1 _ I1 q1) fun iv s2 ⟨y,H2,I2,ry,a,v,ex,g,q2⟩=>?_)
 subst ex
 obtain rfl:u=Value.ref a:=rx
 exact ⟨dict_typeIs I2 g,d_getItem hu I2 g ry fun w' s3 I3 rw'=>⟨v,H2,I3,rw',q2⟩⟩
theorem ps_dput (hu:X.A.units + 1 < cLine) (ho:PE X o td) (hi:PE X i ty) (hv:PE X value tv) (hs:swapsWith value (some (.Subscript o i pos')) pos.line X.env=pure false):
  PS X (.Assign [.Subscript o i pos'] value pos) (sDPut td ty tv):=by
 intro pins s σ H D I h
 refine wpAny_Assign_Subscript (thn (hv pins s σ H _ I h) fun r s1 ⟨v,H1,I1,rv,q1⟩=>thn (ho pins s1 σ H1 _ I1 q1) fun u s2 ⟨x,H2,I2,rx,q2⟩=>thn (hi pins s2 σ H2 _ I2 q2) fun iv s3 ⟨y,H3,I3,ry,a,H4,ex,g,q3⟩=>?_) hs
 subst ex
 obtain rfl:u=Value.ref a:=rx
 exact d_setItem hu I3 g ry rv fun s4 I4=>⟨σ,H4,I4,q3⟩
end
theorem dk_empty {P:Program} {w:World} {H:Hp} (h:Heap) (hb:sysModules < h.objs.size):ObjOk P w H (h.push { cls:=.type "dict",data:=.dict #[] }) h.objs.size (.dK []):=
 ⟨Nat.zero_le _,beq_eq_false_iff_ne.mpr (Ne.symm (Nat.ne_of_lt hb)),[],.nil,Heap.DictOf.new h⟩
noncomputable def tDNewK:TE:=fun _ H Q=>∀ p,H p=none→Q (.ref p) (upd H p (.dK []))
section
variable {X:Cx} {pos:Pos}
theorem pe_dnewK:PE X (.Dict [] [] pos) tDNewK:=fun pins s σ H Q I h=>
 wpAny_Dict_empty ⟨.ref s.heap.objs.size,_,I.laid (a:=s.heap.objs.size) (o:=.dK []) (t':=s.toks) (fun _ _ q=>Heap.get?_push_of_some _ q) (Nat.le_refl _) (dk_empty s.heap I.big),rfl,h _ (I.hok.fresh (Nat.le_refl _))⟩
end
noncomputable def mergeK (kvs more:List (Key×V)):List (Key×V):=more.foldl (fun acc kv=>putK acc kv.1 kv.2) kvs
theorem KV.merge:∀ {more:List (Key×V)} {rs:List (Key×Value)} {kvs:List (Key×V)} {vs:List (Key×Value)},KV more rs→KV kvs vs→KV (mergeK kvs more) (merged vs rs):=by
 intro more rs kvs vs r
 unfold KV at r
 induction r generalizing kvs vs with
 | nil=>intro q;exact q
 | @cons p q ps qs h t ih=>
  intro r0
  have e:KV (putK kvs p.1 p.2) (stored vs q.1 q.2):=by
   have:=r0.put p.1 h.2
   rw [←h.1];exact this
  exact ih e
structure M1 (X:Cx) (o:Expr) (m:Str) (apos:Pos) (e:Expr) (cpos:Pos):Prop where
 base:attributeBase o m X.env (eval o X.env)=eval o X.env
 few:((backTo cpos (starEach [e] X.env)).all (fun x=> !x.1)&&(backToKw cpos (keywordEach [] X.env)).all (fun x=>x.1.isSome)
  &&decide (([e]:List Expr).length + ([]:List Keyword).length + (if ([]:List Keyword).isEmpty then 0 else 1) < 30))=true
 line:(apos.endLine==cpos.line)=true
 trees:backTo cpos (starEach [e] X.env)=[(false,eval e X.env)]
structure M2 (X:Cx) (o:Expr) (m:Str) (apos:Pos) (e f:Expr) (cpos:Pos):Prop where
 base:attributeBase o m X.env (eval o X.env)=eval o X.env
 few:((backTo cpos (starEach [e,f] X.env)).all (fun x=> !x.1)&&(backToKw cpos (keywordEach [] X.env)).all (fun x=>x.1.isSome)
  &&decide (([e,f]:List Expr).length + ([]:List Keyword).length + (if ([]:List Keyword).isEmpty then 0 else 1) < 30))=true
 line:(apos.endLine==cpos.line)=true
 trees:backTo cpos (starEach [e,f] X.env)=[(false,eval e X.env),(false,eval f X.env)]
noncomputable def IsD (H:Hp) (a:Addr):Prop:=(∃ kvs,Rd H a (.dK kvs))∨∃ kvs,Rd H a (.dT kvs)
theorem isD_at {X:Cx} {pins:List (Addr×Obj)} {σ:St} {H:Hp} {s:Shared} {a:Addr} (I:Inv X pins σ H s) (d:IsD H a):
  s.TypeIs (.ref a) "dict"∧(∀ b,Value.ref a=.ref b→∃ ob,s.heap.get? b=some ob∧ob.dict=none)∧(a==sysModules)=false:=by
 rcases d with ⟨kvs,e⟩ | ⟨kvs,e⟩
 ·obtain ⟨_,hd,vs,_,dd⟩:=dk_rd I.hok e
  refine ⟨dd.typeIs,fun b q=>?_,hd⟩
  cases q
  obtain ⟨ob,_,_,h1,h2,_⟩:=dd
  exact ⟨ob,h1,h2.2.1⟩
 ·obtain ⟨_,hd,xs,_,dd⟩:=dt_rd I.hok e
  refine ⟨dd.typeIs,fun b q=>?_,hd⟩
  cases q
  obtain ⟨ob,_,_,h1,h2,_⟩:=dd
  exact ⟨ob,h1,h2.2.1⟩
section
variable {X:Cx} {pins:List (Addr×Obj)} {σ:St} {H:Hp} {s:Shared} {a:Addr} {y d:V} {u r:Value} {o:Option V} {A:Around} {E:Value→Shared→Prop}
end
section
variable {X:Cx} {o e f:Expr} {apos cpos:Pos} {td ty tx:TE}
end
section
variable {X:Cx} {pins:List (Addr×Obj)} {σ:St} {H:Hp} {s:Shared} {a:Addr} {kvs:List (Key×V)} {A:Around} {E:Value→Shared→Prop}
end
section
variable {X:Cx} {pins:List (Addr×Obj)} {σ:St} {H:Hp} {s:Shared} {a:Addr} {y:V} {u:Value} {A:Around} {E:Value→Shared→Prop}
end
end L2
namespace L2
open PySem PySem.Spec PyProof.Rows
section
variable {X:Cx}
end
section
variable {K:PySem.W.Frag} {σ:St} {H:Hp} {Q:VK}
theorem rd_dget {td ty:TE} (h:td σ H fun x H1=>ty σ H1 fun y H2=>∃ a v,x=.ref a∧DGet H2 a y (some v)∧Q v H2):tDGet td ty σ H Q:=h
theorem rd_dput {td ty tv:TE} {D:Ends} (h:tv σ H fun v H1=>td σ H1 fun x H2=>ty σ H2 fun y H3=>∃ a H4,x=.ref a∧DPut H3 a y v H4∧D.nx σ H4):sDPut td ty tv D σ H:=h
end
end L2
namespace L2
open PySem PyProof.Rows
noncomputable def RcLt (A:Around) (s:Shared) (u v:Value) (r:Bool):Prop:=∀ (prog:Program) (w:World) (E Q:Value→Shared→Prop),Q (.bool r) s→wpAny (model prog w) A (richCompare .Lt u v) Q E s
inductive LtAt (A:Around) (s:Shared):List Value→List Value→Bool→Prop
 | nn:LtAt A s [] [] false
 | nc {v vs}:LtAt A s [] (v::vs) true
 | cn {u us}:LtAt A s (u::us) [] false
 | eq {u v us vs r}:SeqAt.EqAt A s u v true→LtAt A s us vs r→LtAt A s (u::us) (v::vs) r
 | ne {u v us vs r}:SeqAt.EqAt A s u v false→RcLt A s u v r→LtAt A s (u::us) (v::vs) r
section
open PySem.SeqAt
open PySem.AutoSeq1 (wpAny_loadPart')
open PySem.MeetsSeq PySem.MeetsSeq2 PySem.MeetsSeq3
end
end L2
namespace L2
open PySem PySem.Spec PyProof.Rows
noncomputable abbrev Cx.in1 (X:Cx):Cx:={ X with A:=X.A.in1 }
section
variable {X:Cx} {pins:List (Addr×Obj)} {σ:St} {H:Hp} {s:Shared}
theorem Cx.Ok.in1 (ok:X.Ok):X.in1.Ok:=⟨ok.mod,ok.kind,ok.glob,ok.blt,ok.above,ok.inj,ok.has,ok.cab,ok.hd,ok.frames,ok.stk,ok.exf,ok.bs,ok.bsz,ok.noex,ok.exfs,ok.funs,ok.frf⟩
theorem Cx.Ok.out1 (ok:X.in1.Ok):X.Ok:=⟨ok.mod,ok.kind,ok.glob,ok.blt,ok.above,ok.inj,ok.has,ok.cab,ok.hd,ok.frames,ok.stk,ok.exf,ok.bs,ok.bsz,ok.noex,ok.exfs,ok.funs,ok.frf⟩
theorem Inv.in1 (I:Inv X pins σ H s):Inv X.in1 pins σ H s:=⟨I.ok.in1,I.os,I.bare,I.base,I.loc,I.cell,I.free,I.freeC,I.pin,I.hok,I.len⟩
theorem Inv.out1 (I:Inv X.in1 pins σ H s):Inv X pins σ H s:=⟨I.ok.out1,I.os,I.bare,I.base,I.loc,I.cell,I.free,I.freeC,I.pin,I.hok,I.len⟩
end
section
variable {X:Cx} {pins:List (Addr×Obj)} {σ:St} {H:Hp} {s:Shared} {qual:Str} {sc:Scope} {M:List Str} {q:Addr} {cd:Value}
end
end L2
namespace L2
open PySem PySem.Spec PyProof.Rows
structure TabB (base:Heap) (mg:Str→Option Value) (c P:Addr):Prop where
 hd:PySem.W.CodeHd base c P
 bl:base.BuiltinsAt mg P
section
variable {X:Cx} {pins:List (Addr×Obj)} {σ:St} {H:Hp} {s:Shared}
theorem Inv.pinNew {H0:Hp} (I:Inv X pins σ H0 s) {q:Addr} {o:Obj} {h':Heap} {t':Nat} (I':Inv X pins σ H { s with heap:=h',toks:=t' }) (hq:h'.get? q=some o) (hs:s.heap.objs.size≤q) (hn:H q=none) (hd:∀ v,o.data≠.cell v):Inv X ((q,o)::pins) σ H { s with heap:=h',toks:=t' }:=
 ⟨I'.ok,I'.os,I'.bare,I'.base,I'.loc,I'.cell,I'.free,I'.freeC,fun p hp=>by
  rcases List.mem_append.mp hp with z | z
  ·exact I'.pin p (List.mem_append_left _ z)
  ·rcases List.mem_cons.mp z with rfl | z
   ·exact ⟨hq,hn,Nat.ne_of_gt (Nat.lt_of_lt_of_le I.lt hs),I.nofs hs,hd⟩
   ·exact I'.pin p (List.mem_append_right _ z),I'.hok,I'.len⟩
end
end L2
namespace L2
open PySem PySem.Spec PyProof.Rows
structure Ow (X:Cx) (pins:List (Addr×Obj)) (a:Addr):Prop where
 loc:a≠X.env.locals
 fs:a∉X.fs
 new:a∈X.ex∨X.s₀.heap.objs.size≤a
 cel:∀ x c,X.env.cells.lookup x=some c→c≠a
 pin:∀ p∈X.pn++pins,p.1≠a
section
variable {X:Cx} {pins p1 p2:List (Addr×Obj)} {σ:St} {H:Hp} {s:Shared}
theorem Inv.ow (I:Inv X pins σ H s) {a:Addr} (h:s.heap.objs.size≤a):Ow X pins a where
 loc:=Nat.ne_of_gt (Nat.lt_of_lt_of_le I.lt h)
 fs:=I.nofs h
 new:=.inr (Nat.le_trans I.sz h)
 cel:=fun x c e z=>by
  obtain ⟨v,o,ho,_⟩:=I.cell x c e
  exact absurd (Heap.lt_size ho) (by rw [z];exact Nat.not_lt.mpr h)
 pin:=fun p hp z=>absurd (Heap.lt_size (I.pin p hp).1) (by rw [z];exact Nat.not_lt.mpr h)
theorem Ow.sub {a:Addr} {pl:List (Addr×Obj)} (o:Ow X pins a) (h:∀ p∈pl,p∈pins∨p.1≠a):Ow X pl a:=
 ⟨o.loc,o.fs,o.new,o.cel,fun p hp=>by
  rcases List.mem_append.mp hp with z | z
  ·exact o.pin p (List.mem_append_left _ z)
  ·rcases h p z with y | y
   ·exact o.pin p (List.mem_append_right _ y)
   ·exact y⟩
theorem Inv.repin {a:Addr} {o o':Obj} {h':Heap} {t':Nat} (I:Inv X (p1++(a,o)::p2) σ H s) (ow:Ow X (p1++p2) a) (k:∀ b u,b≠a→s.heap.get? b=some u→h'.get? b=some u) (e:h'.get? a=some o') (hd:∀ v,o'.data≠.cell v):
  Inv X (p1++(a,o')::p2) σ H { s with heap:=h',toks:=t' }:=by
 have me:=I.pin (a,o) (List.mem_append_right _ (List.mem_append_right _ List.mem_cons_self))
 have I1:Inv X (p1++p2) σ H s:=I.pins_of fun p hp=>I.pin p (List.mem_append_right _ (by
  rcases List.mem_append.mp hp with z | z
  ·exact List.mem_append_left _ z
  ·exact List.mem_append_right _ (List.mem_cons_of_mem _ z)))
 have I2:=I1.turned (h':=h') (t':=t') k me.2.1 ow.loc ow.new ow.cel ow.pin
 refine ⟨I2.ok,I2.os,I2.bare,I2.base,I2.loc,I2.cell,I2.free,I2.freeC,fun p hp=>?_,I2.hok,I2.len⟩
 rcases List.mem_append.mp hp with z | z
 ·exact I2.pin p (List.mem_append_left _ z)
 ·rcases List.mem_append.mp z with z | z
  ·exact I2.pin p (List.mem_append_right _ (List.mem_append_left _ z))
  ·rcases List.mem_cons.mp z with rfl | z
   ·exact ⟨e,me.2.1,ow.loc,ow.fs,hd⟩
   ·exact I2.pin p (List.mem_append_right _ (List.mem_append_right _ z))
structure MinW (K:PySem.W.Frag) (σ:St) (l:Addr) (xs:List V) (lt:R2) (te:TE) (f:V→St) (G:Hp→Prop) (W:Nat→Nat→V→Hp→Prop) (Q:VK):Prop where
 lst:∀ j b k H,W j b k H→H l=some (.lst xs)∧G H
 turn:∀ j b k H x,W j b k H→xs[j]? =some x→te (f x) H fun k' H'=>lt k' k H' fun z H''=>∃ c,z=.bl c∧if c=true then W (j + 1) j k' H'' else W (j + 1) b k H''
 fin:∀ b k H x,W xs.length b k H→xs[b]? =some x→Q x H
end
end L2
namespace L2
open PySem PySem.Spec PyProof.Rows
structure TabK (K:PySem.W.Frag) (base:Heap) (mg:Str→Option Value) (x:Str) (c P:Addr):Prop where
 kin:K.In base
 ns:base.Ns mainGlobals mg
 tab:PySem.W.tabIn K x=some (c,P)
 b:TabB base mg c P
end L2
namespace L2
open PySem PySem.Spec PyProof.Rows
section
variable {X:Cx} {pins:List (Addr×Obj)} {σ:St} {H:Hp} {s:Shared}
end
end L2
namespace L2
open PySem PySem.Spec PyProof.Rows
section
open PySem.AutoSeq1 (wpAny_loadPart')
variable {prog:Program} {w:World} {A:Around} {E:Value→Shared→Prop} {s:Shared}
end
section
variable {H:Hp} {K:PySem.W.Frag}
end
end L2
namespace L2
open PySem PySem.Spec PyProof.Rows
section
variable {P:Program} {w:World} {K:PySem.W.Frag} {mg:Str→Option Value} {base:Heap} {CX:CXT} {k:Nat} {f:Addr} {fd:FuncData} {ps:List Str} {sp sp':Sp}
end
end L2
namespace L2
open PySem PySem.Spec PyProof.Rows
section
open PySem.F
variable {prog:Program} {w:World} {A:Around} {E:Value→Shared→Prop} {s:Shared}
end
section
variable {X:Cx}
end
end L2
namespace L2
open PySem PySem.Spec PyProof.Rows
section
variable {X:Cx} {pins p1 p2:List (Addr×Obj)} {σ:St} {H:Hp} {s:Shared}
end
end L2
namespace L2
open PySem PySem.Spec PyProof.Rows
structure BestW (l:Addr) (xs:List V) (lt:R2) (te:V→Hp→VK→Prop) (W:Nat→Nat→V→Hp→Prop) (Q:VK):Prop where
 lst:∀ j b k H,W j b k H→H l=some (.lst xs)
 turn:∀ j b k H x,W j b k H→xs[j]? =some x→te x H fun k' H'=>lt k' k H' fun z H''=>∃ c,z=.bl c∧if c=true then W (j + 1) j k' H'' else W (j + 1) b k H''
 fin:∀ b k H x,W xs.length b k H→xs[b]? =some x→Q x H
noncomputable def dO:Obj:=seqObj "list" #[] 0
section
variable {X:Cx} {pins p1 p2:List (Addr×Obj)} {σ:St} {H:Hp} {s:Shared}
theorem minV_loop {l S It:Addr} {xs:List V} {lt:R2} {te:V→Hp→VK→Prop} {W:Nat→Nat→V→Hp→Prop} {Q:VK} {kw:List (Str×Value)} {R:Result→Shared→Prop} (hh:X.A.handled=none)
  (M:BestW l xs lt te W Q) (hlt:OpR X.in1.nox (compareOp .Lt) lt) (hte:∀ x H Q,te x H Q→Q x H) (oS:Ow X.in1 ((It,dO)::pins) S) (oI:Ow X.in1 ((S,dO)::pins) It)
  (hR:∀ (v:V) (u:Value) (H:Hp) (s:Shared),Inv X pins σ H s→RelV v u→Q v H→R (.ok (.ret u)) s):
  ∀ (r j b:Nat) (H:Hp) (s:Shared) (xb k:V) (vb kb:Value) (c:Nat) (ob:Obj),xs.length - j=r→j≤xs.length→Inv X.in1 ((S,seqObj "list" #[vb,kb] c)::(It,ob)::pins) σ H s→s.heap.IsListIter It l j→xs[b]? =some xb→RelV xb vb→RelV k kb→W j b k H→
   codeAny (model X.prog X.w) X.A (.builtin "min.loop" ⟨[.ref It,.none,.ref S],kw⟩) R s:=by
 have hname:(toString "min"++toString ".loop":String)="min.loop":=by decide
 have hSI:S≠It:=fun z=>oS.pin (It,dO) (List.mem_append_right _ List.mem_cons_self) z.symm
 have ofS:∀ {d:Obj},Ow X.in1 ((It,d)::pins) S:=⟨oS.loc,oS.fs,oS.new,oS.cel,fun p hp=>by
  rcases List.mem_append.mp hp with z | z
  ·exact oS.pin p (List.mem_append_left _ z)
  ·rcases List.mem_cons.mp z with rfl | z
   ·exact Ne.symm hSI
   ·exact oS.pin p (List.mem_append_right _ (List.mem_cons_of_mem _ z))⟩
 have ofI:∀ {d:Obj},Ow X.in1 ((S,d)::pins) It:=⟨oI.loc,oI.fs,oI.new,oI.cel,fun p hp=>by
  rcases List.mem_append.mp hp with z | z
  ·exact oI.pin p (List.mem_append_left _ z)
  ·rcases List.mem_cons.mp z with rfl | z
   ·exact hSI
   ·exact oI.pin p (List.mem_append_right _ (List.mem_cons_of_mem _ z))⟩
 have ofS0:Ow X.in1 pins S:=⟨oS.loc,oS.fs,oS.new,oS.cel,fun p hp=>by
  rcases List.mem_append.mp hp with z | z
  ·exact oS.pin p (List.mem_append_left _ z)
  ·exact oS.pin p (List.mem_append_right _ (List.mem_cons_of_mem _ z))⟩
 intro r
 induction r with
 | zero=>
  intro j b H s xb k vb kb c ob hr hj I hit hxb rb rk w
  have hin:j=xs.length:=by omega
  subst hin
  have hl:=M.lst _ _ _ _ w
  obtain ⟨its,rv,pl,_⟩:=I.list (SqL.of hl)
  have lenI:its.length=xs.length:=rv.length.symm
  have hlI:l≠It:=fun z=>by
   have:=(I.pin (It,ob) (List.mem_append_right _ (List.mem_cons_of_mem _ List.mem_cons_self))).2.1
   rw [←z,hl] at this;cases this
  have Wk:=Walks.list (prog:=X.prog) (w:=X.w) (A:=X.A.in1) hh It l hlI its.toArray
  have nS:=(I.pin (S,seqObj "list" #[vb,kb] c) (List.mem_append_right _ List.mem_cons_self)).1
  refine codeAny_builtin PySem.F.entry_min_loop ?_
  rw [Around.under_plainId PySem.F.plain_min_loop _]
  show wpAny _ X.A.in1 (seqItems? (.ref S) >>=_) _ _ _
  refine wpAny_bind (wpAny_seqItems nS rfl ?_)
  show wpAny _ X.A.in1 (tryCatch (pyNext (.ref It)) _ >>=_) _ _ _
  refine wpAny_bind (wpAny_tryCatch (Wk.done _ _ _ ⟨by rw [List.size_toArray,lenI];exact hit,pl.isList⟩ fun h' tk' hk'=>?_))
  have hk:∀ b u,b≠It→s.heap.get? b=some u→h'.get? b=some u:=fun b u hb e=>hk' b u (by simpa using hb) e
  have I1:Inv X.in1 ((S,seqObj "list" #[vb,kb] c)::pins) σ H s:=I.pins_of fun p hp=>I.pin p (List.mem_append_right _ (by
   rcases List.mem_cons.mp hp with rfl | z
   ·exact List.mem_cons_self
   ·exact List.mem_cons_of_mem _ (List.mem_cons_of_mem _ z)))
  have oI':=ofI (d:=seqObj "list" #[vb,kb] c)
  have I2:=I1.turned (h':=h') (t':=tk') hk (I.pin (It,ob) (List.mem_append_right _ (List.mem_cons_of_mem _ List.mem_cons_self))).2.1 oI'.loc oI'.new oI'.cel oI'.pin
  have hS':=hk S _ hSI nS
  have s1:=Heap.SameBut.update h' S (Obj.mapSeq fun _=>(#[]:Array Value))
  show wpAny _ X.A.in1 (updateSeq S (fun _=>#[]) >>=_) _ _ _
  refine wpAny_bind ?_
  refine wpAny_updateSeq hS' rfl (wpAny_bind (wpAny_letGo (wpAny_pure ?_)))
  have I3:Inv X.in1 pins σ H { s with heap:=h',toks:=tk' }:=I2.pins_of fun p hp=>I2.pin p (List.mem_append_right _ (List.mem_cons_of_mem _ hp))
  have hSn:=(I2.pin (S,seqObj "list" #[vb,kb] c) (List.mem_append_right _ List.mem_cons_self)).2.1
  have I4:=I3.turned (h':=h'.update S (Obj.mapSeq fun _=>(#[]:Array Value))) (t':=tk') (fun b u hb e=>s1.extBut b u hb e) hSn ofS0.loc ofS0.new ofS0.cel ofS0.pin
  exact hR xb vb H _ I4.out1 rb (M.fin b k H xb w hxb)
 | succ r ih=>
  intro j b H s xb k vb kb c ob hr hj I hit hxb rb rk w
  have hlt':j < xs.length:=by omega
  have hl:=M.lst _ _ _ _ w
  obtain ⟨its,rv,pl,_⟩:=I.list (SqL.of hl)
  have lenI:its.length=xs.length:=rv.length.symm
  have hlI:l≠It:=fun z=>by
   have:=(I.pin (It,ob) (List.mem_append_right _ (List.mem_cons_of_mem _ List.mem_cons_self))).2.1
   rw [←z,hl] at this;cases this
  have Wk:=Walks.list (prog:=X.prog) (w:=X.w) (A:=X.A.in1) hh It l hlI its.toArray
  have nS:=(I.pin (S,seqObj "list" #[vb,kb] c) (List.mem_append_right _ List.mem_cons_self)).1
  refine codeAny_builtin PySem.F.entry_min_loop ?_
  rw [Around.under_plainId PySem.F.plain_min_loop _]
  show wpAny _ X.A.in1 (seqItems? (.ref S) >>=_) _ _ _
  refine wpAny_bind (wpAny_seqItems nS rfl ?_)
  show wpAny _ X.A.in1 (tryCatch (pyNext (.ref It)) _ >>=_) _ _ _
  refine wpAny_bind (wpAny_tryCatch (Wk.item j _ _ _ (by rw [List.size_toArray,lenI];exact hlt') ⟨hit,pl.isList⟩ fun v h' tk' hP hst' hk'=>?_))
  have hv:its[j]? =some v:=by simpa using hP
  obtain ⟨x,hx⟩:∃ x,xs[j]? =some x:=⟨_,List.getElem?_eq_getElem hlt'⟩
  have rx:RelV x v:=by
   obtain ⟨u,hu,ru⟩:=rv.get hx
   rw [hv] at hu;cases hu;exact ru
  obtain ⟨oI',hoI',hoc,hod⟩:=id hst'.1
  have hk:∀ b u,b≠It→s.heap.get? b=some u→h'.get? b=some u:=fun b u hb e=>hk' b u (by simpa using hb) e
  have I1:Inv X.in1 ((S,seqObj "list" #[vb,kb] c)::(It,oI')::pins) σ H { s with heap:=h',toks:=tk' }:=
   Inv.repin (p1:=[(S,seqObj "list" #[vb,kb] c)]) I ofI hk hoI' (fun v z=>by rw [hod] at z;cases z)
  have mt:=M.turn j b k H x w hx
  refine wpAny_bind (wpAny_pure ?_)
  have q2:=hte _ _ _ mt
  have I2:=I1
  show wpAny _ X.A.in1 (tryCatch (holding [v,v] (richCompare .Lt v kb >>=_)) _ >>=_) _ _ _
  refine wpAny_bind (wpAny_tryCatch (wpAny_holding (wpAny_bind (wpAny_mono (hlt _ ({ s with heap:=h',toks:=tk' }:Shared) σ H x k v kb _ (I2.wish _) rx rk q2) (fun u3 s3 ⟨z,H3,I3w,r3,cc,ez,q3⟩=>?_) fun e s' hF=>(show False from hF).elim))))
  have I3:=I3w.unwish
  subst ez
  obtain rfl:u3=Value.bool cc:=r3
  refine wpAny_bind (wpAny_holding (wpAny_truthy_bool ?_))
  refine wpAny_bind (wpAny_letGo (wpAny_pure ?_))
  have nS3:=(I3.pin (S,seqObj "list" #[vb,kb] c) (List.mem_append_right _ List.mem_cons_self)).1
  have nI3:=(I3.pin (It,oI') (List.mem_append_right _ (List.mem_cons_of_mem _ List.mem_cons_self))).1
  have hit3:s3.heap.IsListIter It l (j + 1):=⟨oI',nI3,hoc,hod⟩
  cases cc with
  | true=>
   have s1:=Heap.SameBut.update s3.heap S (Obj.mapSeq fun _=>#[v,v])
   obtain ⟨c2,hc2⟩:∃ c2,(s3.heap.update S (Obj.mapSeq fun _=>#[v,v])).get? S=some (seqObj "list" #[v,v] c2):=⟨_,get?_update_seq nS3 fun _=>#[v,v]⟩
   simp only [if_true]
   refine wpAny_bind ?_
   refine wpAny_updateSeq nS3 rfl (wpAny_bind (wpAny_letGo ?_))
   rw [hname]
   rw [if_pos rfl] at q3
   have I4:Inv X.in1 ((S,seqObj "list" #[v,v] c2)::(It,oI')::pins) σ H3 { s3 with heap:=s3.heap.update S (Obj.mapSeq fun _=>#[v,v]),toks:=s3.toks }:=
    Inv.repin (p1:=[]) I3 ofS (fun b u hb e=>s1.extBut b u hb e) hc2 (fun v z=>by cases z)
   exact wpAny_pure ⟨plainId_quiet PySem.F.plain_min_loop _,ih (j + 1) j H3 _ x x v v c2 oI' (by omega) hlt' I4 ⟨oI',(s1.2 It (Ne.symm hSI)).trans nI3,hoc,hod⟩ hx rx rx q3⟩
  | false=>
   simp only [Bool.false_eq_true,if_false]
   refine wpAny_bind (wpAny_letGo ?_)
   rw [hname]
   rw [if_neg Bool.false_ne_true] at q3
   exact wpAny_pure ⟨plainId_quiet PySem.F.plain_min_loop _,ih (j + 1) b H3 _ xb k vb kb c oI' (by omega) hlt' I3 hit3 hxb rb rk q3⟩
theorem minV_first {l:Addr} {xs:List V} {lt:R2} {te:V→Hp→VK→Prop} {W:Nat→Nat→V→Hp→Prop} {Q:VK} {kw:List (Str×Value)} {x0:V} (hh:X.A.handled=none)
  (M:BestW l xs lt te W Q) (hlt:OpR X.in1.nox (compareOp .Lt) lt) (hte:∀ x H Q,te x H Q→Q x H) (I2:Inv X pins σ H s) (hl2:H l=some (.lst xs)) (hx0:xs[0]? =some x0) (w0:te x0 H fun k H3=>W 1 0 k H3):
  wpAny (model X.prog X.w) X.A.in1 (do let it ←pyIter (.ref l);again (.builtin "min.loop" ⟨[it,.none,←newList []],kw⟩)) (fun fin s'=>match fin with
   | .done f=>(match (Except.ok f:Result) with | .ok (.ret v)=>EP X pins σ Q v s' | .ok _=>False | .error e=>X.xe e s')
   | .again c'=>c'.quiet=true∧codeAny (model X.prog X.w) X.A c' (fun r s'=>match r with | .ok (.ret v)=>EP X pins σ Q v s' | .ok _=>False | .error e=>X.xe e s') s') X.xe s:=by
 have hname:(toString "min"++toString ".loop":String)="min.loop":=by decide
 have I2':=I2.in1
 obtain ⟨its,rv,pl,_⟩:=I2'.list (SqL.of hl2)
 have lenI:its.length=xs.length:=rv.length.symm
 refine wpAny_bind (wpAny_pyIter_list pl.isList ?_)
 refine wpAny_bind (wpAny_newList ?_ (Nat.zero_le _))
 refine wpAny_pure ⟨plainId_quiet PySem.F.plain_min_loop _,?_⟩
 have gI:(s.heap.push { cls:=.type "list_iterator",data:=.fields #[.ref l,.int 0 0] }).get? s.heap.objs.size=some { cls:=.type "list_iterator",data:=.fields #[.ref l,.int 0 0] }:=Heap.get?_push_size _ rfl
 have I3:Inv X.in1 ((s.heap.objs.size,{ cls:=.type "list_iterator",data:=.fields #[.ref l,.int 0 0] })::pins) σ H { s with heap:=s.heap.push { cls:=.type "list_iterator",data:=.fields #[.ref l,.int 0 0] },toks:=s.toks }:=
  I2'.pinNew (I2'.kept (t':=s.toks) fun b o e=>Heap.get?_push_of_some _ e) gI (Nat.le_refl _) (I2'.hok.fresh (Nat.le_refl _)) fun v z=>by cases z
 have oI0:Ow X.in1 pins s.heap.objs.size:=I2'.ow (Nat.le_refl _)
 generalize hh3:s.heap.push { cls:=.type "list_iterator",data:=.fields #[.ref l,.int 0 0] }=h3 at I3 gI ⊢
 have I4:Inv X.in1 ((h3.objs.size,seqObj "list" #[] 0)::(s.heap.objs.size,{ cls:=.type "list_iterator",data:=.fields #[.ref l,.int 0 0] })::pins) σ H { s with heap:=h3.push (seqObj "list" #[] 0),toks:=s.toks }:=
  I3.pinNew (I3.kept (t':=s.toks) fun b o e=>Heap.get?_push_of_some _ e) (Heap.get?_push_size _ rfl) (Nat.le_refl _) (I3.hok.fresh (Nat.le_refl _)) fun v z=>by cases z
 have oS0:Ow X.in1 ((s.heap.objs.size,{ cls:=.type "list_iterator",data:=.fields #[.ref l,.int 0 0] })::pins) h3.objs.size:=I3.ow (Nat.le_refl _)
 have gS:(h3.push (seqObj "list" #[] 0)).get? h3.objs.size=some (seqObj "list" #[] 0):=Heap.get?_push_size _ rfl
 have gI2:(h3.push (seqObj "list" #[] 0)).get? s.heap.objs.size=some { cls:=.type "list_iterator",data:=.fields #[.ref l,.int 0 0] }:=Heap.get?_push_of_some _ gI
 have hSI:h3.objs.size≠s.heap.objs.size:=fun z=>oS0.pin _ (List.mem_append_right _ List.mem_cons_self) z.symm
 have pl4:(h3.push (seqObj "list" #[] 0)).IsList l its.toArray:=by
  obtain ⟨o,e,r⟩:=pl.isList
  exact ⟨o,Heap.get?_push_of_some _ (by rw [←hh3];exact Heap.get?_push_of_some _ e),r⟩
 have hlI:l≠s.heap.objs.size:=fun z=>by
  have:=I2'.hok.fresh (a:=s.heap.objs.size) (Nat.le_refl _)
  rw [←z,hl2] at this;cases this
 generalize h3.objs.size=S at *
 generalize s.heap.objs.size=It at *
 generalize h3.push (seqObj "list" #[] 0)=h4 at *
 have ofS:∀ {d:Obj},Ow X.in1 ((It,d)::pins) S:=⟨oS0.loc,oS0.fs,oS0.new,oS0.cel,fun p hp=>by
  rcases List.mem_append.mp hp with z | z
  ·exact oS0.pin p (List.mem_append_left _ z)
  ·rcases List.mem_cons.mp z with rfl | z
   ·exact Ne.symm hSI
   ·exact oS0.pin p (List.mem_append_right _ (List.mem_cons_of_mem _ z))⟩
 have ofI:∀ {d:Obj},Ow X.in1 ((S,d)::pins) It:=⟨oI0.loc,oI0.fs,oI0.new,oI0.cel,fun p hp=>by
  rcases List.mem_append.mp hp with z | z
  ·exact oI0.pin p (List.mem_append_left _ z)
  ·rcases List.mem_cons.mp z with rfl | z
   ·exact hSI
   ·exact oI0.pin p (List.mem_append_right _ z)⟩
 have Wk:=Walks.list (prog:=X.prog) (w:=X.w) (A:=X.A.in1) hh It l hlI its.toArray
 have hpos:0 < xs.length:=(List.getElem?_eq_some_iff.mp hx0).1
 refine codeAny_builtin PySem.F.entry_min_loop ?_
 rw [Around.under_plainId PySem.F.plain_min_loop _]
 show wpAny _ X.A.in1 (seqItems? (.ref S) >>=_) _ _ _
 refine wpAny_bind (wpAny_seqItems gS rfl ?_)
 show wpAny _ X.A.in1 (tryCatch (pyNext (.ref It)) _ >>=_) _ _ _
 refine wpAny_bind (wpAny_tryCatch (Wk.item 0 _ _ _ (by rw [List.size_toArray,lenI];exact hpos) ⟨⟨_,gI2,rfl,rfl⟩,pl4⟩ fun v h' tk' hP hst' hk'=>?_))
 have hv:its[0]? =some v:=by simpa using hP
 have rx:RelV x0 v:=by
  obtain ⟨u,hu,ru⟩:=rv.get hx0
  rw [hv] at hu;cases hu;exact ru
 obtain ⟨oI',hoI',hoc,hod⟩:=id hst'.1
 have hk2:∀ b u,b≠It→h4.get? b=some u→h'.get? b=some u:=fun b u hb e=>hk' b u (by simpa using hb) e
 have I1:Inv X.in1 ((S,seqObj "list" #[] 0)::(It,oI')::pins) σ H { s with heap:=h',toks:=tk' }:=
  Inv.repin (s:={ s with heap:=h4,toks:=s.toks }) (p1:=[(S,seqObj "list" #[] 0)]) I4 ofI hk2 hoI' (fun v z=>by rw [hod] at z;cases z)
 have mt:=w0
 refine wpAny_bind (wpAny_pure ?_)
 have q2:=hte _ _ _ mt
 have I2:=I1
 have nS3:=(I2.pin (S,seqObj "list" #[] 0) (List.mem_append_right _ List.mem_cons_self)).1
 have nI3:=(I2.pin (It,oI') (List.mem_append_right _ (List.mem_cons_of_mem _ List.mem_cons_self))).1
 have s1':=Heap.SameBut.update h' S (Obj.mapSeq fun _=>#[v,v])
 obtain ⟨c2,hc2⟩:∃ c2,(h'.update S (Obj.mapSeq fun _=>#[v,v])).get? S=some (seqObj "list" #[v,v] c2):=⟨_,get?_update_seq nS3 fun _=>#[v,v]⟩
 show wpAny _ X.A.in1 (updateSeq S (fun _=>#[v,v]) >>=_) _ _ _
 refine wpAny_bind ?_
 refine wpAny_updateSeq nS3 rfl ?_
 rw [hname]
 have I7:Inv X.in1 ((S,seqObj "list" #[v,v] c2)::(It,oI')::pins) σ H { s with heap:=h'.update S (Obj.mapSeq fun _=>#[v,v]),toks:=tk' }:=
  Inv.repin (s:=({ s with heap:=h',toks:=tk' }:Shared)) (p1:=[]) I2 ofS (fun b u hb e=>s1'.extBut b u hb e) hc2 (fun v z=>by cases z)
 exact wpAny_pure ⟨plainId_quiet PySem.F.plain_min_loop _,minV_loop (pins:=pins) (Q:=Q) hh M hlt hte ofS ofI (fun v u H s J r hq=>⟨v,H,J,r,hq⟩) _ 1 0 H _ x0 x0 v v c2 oI' rfl hpos I7 ⟨oI',(s1'.2 It (Ne.symm hSI)).trans nI3,hoc,hod⟩ hx0 rx rx q2⟩
theorem maxV_loop {l S It:Addr} {xs:List V} {lt:R2} {te:V→Hp→VK→Prop} {W:Nat→Nat→V→Hp→Prop} {Q:VK} {kw:List (Str×Value)} {R:Result→Shared→Prop} (hh:X.A.handled=none)
  (M:BestW l xs lt te W Q) (hlt:OpR X.in1.nox (compareOp .Gt) lt) (hte:∀ x H Q,te x H Q→Q x H) (oS:Ow X.in1 ((It,dO)::pins) S) (oI:Ow X.in1 ((S,dO)::pins) It)
  (hR:∀ (v:V) (u:Value) (H:Hp) (s:Shared),Inv X pins σ H s→RelV v u→Q v H→R (.ok (.ret u)) s):
  ∀ (r j b:Nat) (H:Hp) (s:Shared) (xb k:V) (vb kb:Value) (c:Nat) (ob:Obj),xs.length - j=r→j≤xs.length→Inv X.in1 ((S,seqObj "list" #[vb,kb] c)::(It,ob)::pins) σ H s→s.heap.IsListIter It l j→xs[b]? =some xb→RelV xb vb→RelV k kb→W j b k H→
   codeAny (model X.prog X.w) X.A (.builtin "max.loop" ⟨[.ref It,.none,.ref S],kw⟩) R s:=by
 have hname:(toString "max"++toString ".loop":String)="max.loop":=by decide
 have hSI:S≠It:=fun z=>oS.pin (It,dO) (List.mem_append_right _ List.mem_cons_self) z.symm
 have ofS:∀ {d:Obj},Ow X.in1 ((It,d)::pins) S:=⟨oS.loc,oS.fs,oS.new,oS.cel,fun p hp=>by
  rcases List.mem_append.mp hp with z | z
  ·exact oS.pin p (List.mem_append_left _ z)
  ·rcases List.mem_cons.mp z with rfl | z
   ·exact Ne.symm hSI
   ·exact oS.pin p (List.mem_append_right _ (List.mem_cons_of_mem _ z))⟩
 have ofI:∀ {d:Obj},Ow X.in1 ((S,d)::pins) It:=⟨oI.loc,oI.fs,oI.new,oI.cel,fun p hp=>by
  rcases List.mem_append.mp hp with z | z
  ·exact oI.pin p (List.mem_append_left _ z)
  ·rcases List.mem_cons.mp z with rfl | z
   ·exact hSI
   ·exact oI.pin p (List.mem_append_right _ (List.mem_cons_of_mem _ z))⟩
 have ofS0:Ow X.in1 pins S:=⟨oS.loc,oS.fs,oS.new,oS.cel,fun p hp=>by
  rcases List.mem_append.mp hp with z | z
  ·exact oS.pin p (List.mem_append_left _ z)
  ·exact oS.pin p (List.mem_append_right _ (List.mem_cons_of_mem _ z))⟩
 intro r
 induction r with
 | zero=>
  intro j b H s xb k vb kb c ob hr hj I hit hxb rb rk w
  have hin:j=xs.length:=by omega
  subst hin
  have hl:=M.lst _ _ _ _ w
  obtain ⟨its,rv,pl,_⟩:=I.list (SqL.of hl)
  have lenI:its.length=xs.length:=rv.length.symm
  have hlI:l≠It:=fun z=>by
   have:=(I.pin (It,ob) (List.mem_append_right _ (List.mem_cons_of_mem _ List.mem_cons_self))).2.1
   rw [←z,hl] at this;cases this
  have Wk:=Walks.list (prog:=X.prog) (w:=X.w) (A:=X.A.in1) hh It l hlI its.toArray
  have nS:=(I.pin (S,seqObj "list" #[vb,kb] c) (List.mem_append_right _ List.mem_cons_self)).1
  refine codeAny_builtin PySem.F.entry_max_loop ?_
  rw [Around.under_plainId PySem.F.plain_max_loop _]
  show wpAny _ X.A.in1 (seqItems? (.ref S) >>=_) _ _ _
  refine wpAny_bind (wpAny_seqItems nS rfl ?_)
  show wpAny _ X.A.in1 (tryCatch (pyNext (.ref It)) _ >>=_) _ _ _
  refine wpAny_bind (wpAny_tryCatch (Wk.done _ _ _ ⟨by rw [List.size_toArray,lenI];exact hit,pl.isList⟩ fun h' tk' hk'=>?_))
  have hk:∀ b u,b≠It→s.heap.get? b=some u→h'.get? b=some u:=fun b u hb e=>hk' b u (by simpa using hb) e
  have I1:Inv X.in1 ((S,seqObj "list" #[vb,kb] c)::pins) σ H s:=I.pins_of fun p hp=>I.pin p (List.mem_append_right _ (by
   rcases List.mem_cons.mp hp with rfl | z
   ·exact List.mem_cons_self
   ·exact List.mem_cons_of_mem _ (List.mem_cons_of_mem _ z)))
  have oI':=ofI (d:=seqObj "list" #[vb,kb] c)
  have I2:=I1.turned (h':=h') (t':=tk') hk (I.pin (It,ob) (List.mem_append_right _ (List.mem_cons_of_mem _ List.mem_cons_self))).2.1 oI'.loc oI'.new oI'.cel oI'.pin
  have hS':=hk S _ hSI nS
  have s1:=Heap.SameBut.update h' S (Obj.mapSeq fun _=>(#[]:Array Value))
  show wpAny _ X.A.in1 (updateSeq S (fun _=>#[]) >>=_) _ _ _
  refine wpAny_bind ?_
  refine wpAny_updateSeq hS' rfl (wpAny_bind (wpAny_letGo (wpAny_pure ?_)))
  have I3:Inv X.in1 pins σ H { s with heap:=h',toks:=tk' }:=I2.pins_of fun p hp=>I2.pin p (List.mem_append_right _ (List.mem_cons_of_mem _ hp))
  have hSn:=(I2.pin (S,seqObj "list" #[vb,kb] c) (List.mem_append_right _ List.mem_cons_self)).2.1
  have I4:=I3.turned (h':=h'.update S (Obj.mapSeq fun _=>(#[]:Array Value))) (t':=tk') (fun b u hb e=>s1.extBut b u hb e) hSn ofS0.loc ofS0.new ofS0.cel ofS0.pin
  exact hR xb vb H _ I4.out1 rb (M.fin b k H xb w hxb)
 | succ r ih=>
  intro j b H s xb k vb kb c ob hr hj I hit hxb rb rk w
  have hlt':j < xs.length:=by omega
  have hl:=M.lst _ _ _ _ w
  obtain ⟨its,rv,pl,_⟩:=I.list (SqL.of hl)
  have lenI:its.length=xs.length:=rv.length.symm
  have hlI:l≠It:=fun z=>by
   have:=(I.pin (It,ob) (List.mem_append_right _ (List.mem_cons_of_mem _ List.mem_cons_self))).2.1
   rw [←z,hl] at this;cases this
  have Wk:=Walks.list (prog:=X.prog) (w:=X.w) (A:=X.A.in1) hh It l hlI its.toArray
  have nS:=(I.pin (S,seqObj "list" #[vb,kb] c) (List.mem_append_right _ List.mem_cons_self)).1
  refine codeAny_builtin PySem.F.entry_max_loop ?_
  rw [Around.under_plainId PySem.F.plain_max_loop _]
  show wpAny _ X.A.in1 (seqItems? (.ref S) >>=_) _ _ _
  refine wpAny_bind (wpAny_seqItems nS rfl ?_)
  show wpAny _ X.A.in1 (tryCatch (pyNext (.ref It)) _ >>=_) _ _ _
  refine wpAny_bind (wpAny_tryCatch (Wk.item j _ _ _ (by rw [List.size_toArray,lenI];exact hlt') ⟨hit,pl.isList⟩ fun v h' tk' hP hst' hk'=>?_))
  have hv:its[j]? =some v:=by simpa using hP
  obtain ⟨x,hx⟩:∃ x,xs[j]? =some x:=⟨_,List.getElem?_eq_getElem hlt'⟩
  have rx:RelV x v:=by
   obtain ⟨u,hu,ru⟩:=rv.get hx
   rw [hv] at hu;cases hu;exact ru
  obtain ⟨oI',hoI',hoc,hod⟩:=id hst'.1
  have hk:∀ b u,b≠It→s.heap.get? b=some u→h'.get? b=some u:=fun b u hb e=>hk' b u (by simpa using hb) e
  have I1:Inv X.in1 ((S,seqObj "list" #[vb,kb] c)::(It,oI')::pins) σ H { s with heap:=h',toks:=tk' }:=
   Inv.repin (p1:=[(S,seqObj "list" #[vb,kb] c)]) I ofI hk hoI' (fun v z=>by rw [hod] at z;cases z)
  have mt:=M.turn j b k H x w hx
  refine wpAny_bind (wpAny_pure ?_)
  have q2:=hte _ _ _ mt
  have I2:=I1
  show wpAny _ X.A.in1 (tryCatch (holding [v,v] (richCompare .Gt v kb >>=_)) _ >>=_) _ _ _
  refine wpAny_bind (wpAny_tryCatch (wpAny_holding (wpAny_bind (wpAny_mono (hlt _ ({ s with heap:=h',toks:=tk' }:Shared) σ H x k v kb _ (I2.wish _) rx rk q2) (fun u3 s3 ⟨z,H3,I3w,r3,cc,ez,q3⟩=>?_) fun e s' hF=>(show False from hF).elim))))
  have I3:=I3w.unwish
  subst ez
  obtain rfl:u3=Value.bool cc:=r3
  refine wpAny_bind (wpAny_holding (wpAny_truthy_bool ?_))
  refine wpAny_bind (wpAny_letGo (wpAny_pure ?_))
  have nS3:=(I3.pin (S,seqObj "list" #[vb,kb] c) (List.mem_append_right _ List.mem_cons_self)).1
  have nI3:=(I3.pin (It,oI') (List.mem_append_right _ (List.mem_cons_of_mem _ List.mem_cons_self))).1
  have hit3:s3.heap.IsListIter It l (j + 1):=⟨oI',nI3,hoc,hod⟩
  cases cc with
  | true=>
   have s1:=Heap.SameBut.update s3.heap S (Obj.mapSeq fun _=>#[v,v])
   obtain ⟨c2,hc2⟩:∃ c2,(s3.heap.update S (Obj.mapSeq fun _=>#[v,v])).get? S=some (seqObj "list" #[v,v] c2):=⟨_,get?_update_seq nS3 fun _=>#[v,v]⟩
   simp only [if_true]
   refine wpAny_bind ?_
   refine wpAny_updateSeq nS3 rfl (wpAny_bind (wpAny_letGo ?_))
   rw [hname]
   rw [if_pos rfl] at q3
   have I4:Inv X.in1 ((S,seqObj "list" #[v,v] c2)::(It,oI')::pins) σ H3 { s3 with heap:=s3.heap.update S (Obj.mapSeq fun _=>#[v,v]),toks:=s3.toks }:=
    Inv.repin (p1:=[]) I3 ofS (fun b u hb e=>s1.extBut b u hb e) hc2 (fun v z=>by cases z)
   exact wpAny_pure ⟨plainId_quiet PySem.F.plain_max_loop _,ih (j + 1) j H3 _ x x v v c2 oI' (by omega) hlt' I4 ⟨oI',(s1.2 It (Ne.symm hSI)).trans nI3,hoc,hod⟩ hx rx rx q3⟩
  | false=>
   simp only [Bool.false_eq_true,if_false]
   refine wpAny_bind (wpAny_letGo ?_)
   rw [hname]
   rw [if_neg Bool.false_ne_true] at q3
   exact wpAny_pure ⟨plainId_quiet PySem.F.plain_max_loop _,ih (j + 1) b H3 _ xb k vb kb c oI' (by omega) hlt' I3 hit3 hxb rb rk q3⟩
theorem maxV_first {l:Addr} {xs:List V} {lt:R2} {te:V→Hp→VK→Prop} {W:Nat→Nat→V→Hp→Prop} {Q:VK} {kw:List (Str×Value)} {x0:V} (hh:X.A.handled=none)
  (M:BestW l xs lt te W Q) (hlt:OpR X.in1.nox (compareOp .Gt) lt) (hte:∀ x H Q,te x H Q→Q x H) (I2:Inv X pins σ H s) (hl2:H l=some (.lst xs)) (hx0:xs[0]? =some x0) (w0:te x0 H fun k H3=>W 1 0 k H3):
  wpAny (model X.prog X.w) X.A.in1 (do let it ←pyIter (.ref l);again (.builtin "max.loop" ⟨[it,.none,←newList []],kw⟩)) (fun fin s'=>match fin with
   | .done f=>(match (Except.ok f:Result) with | .ok (.ret v)=>EP X pins σ Q v s' | .ok _=>False | .error e=>X.xe e s')
   | .again c'=>c'.quiet=true∧codeAny (model X.prog X.w) X.A c' (fun r s'=>match r with | .ok (.ret v)=>EP X pins σ Q v s' | .ok _=>False | .error e=>X.xe e s') s') X.xe s:=by
 have hname:(toString "max"++toString ".loop":String)="max.loop":=by decide
 have I2':=I2.in1
 obtain ⟨its,rv,pl,_⟩:=I2'.list (SqL.of hl2)
 have lenI:its.length=xs.length:=rv.length.symm
 refine wpAny_bind (wpAny_pyIter_list pl.isList ?_)
 refine wpAny_bind (wpAny_newList ?_ (Nat.zero_le _))
 refine wpAny_pure ⟨plainId_quiet PySem.F.plain_max_loop _,?_⟩
 have gI:(s.heap.push { cls:=.type "list_iterator",data:=.fields #[.ref l,.int 0 0] }).get? s.heap.objs.size=some { cls:=.type "list_iterator",data:=.fields #[.ref l,.int 0 0] }:=Heap.get?_push_size _ rfl
 have I3:Inv X.in1 ((s.heap.objs.size,{ cls:=.type "list_iterator",data:=.fields #[.ref l,.int 0 0] })::pins) σ H { s with heap:=s.heap.push { cls:=.type "list_iterator",data:=.fields #[.ref l,.int 0 0] },toks:=s.toks }:=
  I2'.pinNew (I2'.kept (t':=s.toks) fun b o e=>Heap.get?_push_of_some _ e) gI (Nat.le_refl _) (I2'.hok.fresh (Nat.le_refl _)) fun v z=>by cases z
 have oI0:Ow X.in1 pins s.heap.objs.size:=I2'.ow (Nat.le_refl _)
 generalize hh3:s.heap.push { cls:=.type "list_iterator",data:=.fields #[.ref l,.int 0 0] }=h3 at I3 gI ⊢
 have I4:Inv X.in1 ((h3.objs.size,seqObj "list" #[] 0)::(s.heap.objs.size,{ cls:=.type "list_iterator",data:=.fields #[.ref l,.int 0 0] })::pins) σ H { s with heap:=h3.push (seqObj "list" #[] 0),toks:=s.toks }:=
  I3.pinNew (I3.kept (t':=s.toks) fun b o e=>Heap.get?_push_of_some _ e) (Heap.get?_push_size _ rfl) (Nat.le_refl _) (I3.hok.fresh (Nat.le_refl _)) fun v z=>by cases z
 have oS0:Ow X.in1 ((s.heap.objs.size,{ cls:=.type "list_iterator",data:=.fields #[.ref l,.int 0 0] })::pins) h3.objs.size:=I3.ow (Nat.le_refl _)
 have gS:(h3.push (seqObj "list" #[] 0)).get? h3.objs.size=some (seqObj "list" #[] 0):=Heap.get?_push_size _ rfl
 have gI2:(h3.push (seqObj "list" #[] 0)).get? s.heap.objs.size=some { cls:=.type "list_iterator",data:=.fields #[.ref l,.int 0 0] }:=Heap.get?_push_of_some _ gI
 have hSI:h3.objs.size≠s.heap.objs.size:=fun z=>oS0.pin _ (List.mem_append_right _ List.mem_cons_self) z.symm
 have pl4:(h3.push (seqObj "list" #[] 0)).IsList l its.toArray:=by
  obtain ⟨o,e,r⟩:=pl.isList
  exact ⟨o,Heap.get?_push_of_some _ (by rw [←hh3];exact Heap.get?_push_of_some _ e),r⟩
 have hlI:l≠s.heap.objs.size:=fun z=>by
  have:=I2'.hok.fresh (a:=s.heap.objs.size) (Nat.le_refl _)
  rw [←z,hl2] at this;cases this
 generalize h3.objs.size=S at *
 generalize s.heap.objs.size=It at *
 generalize h3.push (seqObj "list" #[] 0)=h4 at *
 have ofS:∀ {d:Obj},Ow X.in1 ((It,d)::pins) S:=⟨oS0.loc,oS0.fs,oS0.new,oS0.cel,fun p hp=>by
  rcases List.mem_append.mp hp with z | z
  ·exact oS0.pin p (List.mem_append_left _ z)
  ·rcases List.mem_cons.mp z with rfl | z
   ·exact Ne.symm hSI
   ·exact oS0.pin p (List.mem_append_right _ (List.mem_cons_of_mem _ z))⟩
 have ofI:∀ {d:Obj},Ow X.in1 ((S,d)::pins) It:=⟨oI0.loc,oI0.fs,oI0.new,oI0.cel,fun p hp=>by
  rcases List.mem_append.mp hp with z | z
  ·exact oI0.pin p (List.mem_append_left _ z)
  ·rcases List.mem_cons.mp z with rfl | z
   ·exact hSI
   ·exact oI0.pin p (List.mem_append_right _ z)⟩
 have Wk:=Walks.list (prog:=X.prog) (w:=X.w) (A:=X.A.in1) hh It l hlI its.toArray
 have hpos:0 < xs.length:=(List.getElem?_eq_some_iff.mp hx0).1
 refine codeAny_builtin PySem.F.entry_max_loop ?_
 rw [Around.under_plainId PySem.F.plain_max_loop _]
 show wpAny _ X.A.in1 (seqItems? (.ref S) >>=_) _ _ _
 refine wpAny_bind (wpAny_seqItems gS rfl ?_)
 show wpAny _ X.A.in1 (tryCatch (pyNext (.ref It)) _ >>=_) _ _ _
 refine wpAny_bind (wpAny_tryCatch (Wk.item 0 _ _ _ (by rw [List.size_toArray,lenI];exact hpos) ⟨⟨_,gI2,rfl,rfl⟩,pl4⟩ fun v h' tk' hP hst' hk'=>?_))
 have hv:its[0]? =some v:=by simpa using hP
 have rx:RelV x0 v:=by
  obtain ⟨u,hu,ru⟩:=rv.get hx0
  rw [hv] at hu;cases hu;exact ru
 obtain ⟨oI',hoI',hoc,hod⟩:=id hst'.1
 have hk2:∀ b u,b≠It→h4.get? b=some u→h'.get? b=some u:=fun b u hb e=>hk' b u (by simpa using hb) e
 have I1:Inv X.in1 ((S,seqObj "list" #[] 0)::(It,oI')::pins) σ H { s with heap:=h',toks:=tk' }:=
  Inv.repin (s:={ s with heap:=h4,toks:=s.toks }) (p1:=[(S,seqObj "list" #[] 0)]) I4 ofI hk2 hoI' (fun v z=>by rw [hod] at z;cases z)
 have mt:=w0
 refine wpAny_bind (wpAny_pure ?_)
 have q2:=hte _ _ _ mt
 have I2:=I1
 have nS3:=(I2.pin (S,seqObj "list" #[] 0) (List.mem_append_right _ List.mem_cons_self)).1
 have nI3:=(I2.pin (It,oI') (List.mem_append_right _ (List.mem_cons_of_mem _ List.mem_cons_self))).1
 have s1':=Heap.SameBut.update h' S (Obj.mapSeq fun _=>#[v,v])
 obtain ⟨c2,hc2⟩:∃ c2,(h'.update S (Obj.mapSeq fun _=>#[v,v])).get? S=some (seqObj "list" #[v,v] c2):=⟨_,get?_update_seq nS3 fun _=>#[v,v]⟩
 show wpAny _ X.A.in1 (updateSeq S (fun _=>#[v,v]) >>=_) _ _ _
 refine wpAny_bind ?_
 refine wpAny_updateSeq nS3 rfl ?_
 rw [hname]
 have I7:Inv X.in1 ((S,seqObj "list" #[v,v] c2)::(It,oI')::pins) σ H { s with heap:=h'.update S (Obj.mapSeq fun _=>#[v,v]),toks:=tk' }:=
  Inv.repin (s:=({ s with heap:=h',toks:=tk' }:Shared)) (p1:=[]) I2 ofS (fun b u hb e=>s1'.extBut b u hb e) hc2 (fun v z=>by cases z)
 exact wpAny_pure ⟨plainId_quiet PySem.F.plain_max_loop _,maxV_loop (pins:=pins) (Q:=Q) hh M hlt hte ofS ofI (fun v u H s J r hq=>⟨v,H,J,r,hq⟩) _ 1 0 H _ x0 x0 v v c2 oI' rfl hpos I7 ⟨oI',(s1'.2 It (Ne.symm hSI)).trans nI3,hoc,hod⟩ hx0 rx rx q2⟩
theorem maxF_loop {l S It:Addr} {xs:List V} {lt:R2} {te:V→Hp→VK→Prop} {W:Nat→Nat→V→Hp→Prop} {Q:VK} {kw:List (Str×Value)} {R:Result→Shared→Prop} (hh:X.A.handled=none)
  (M:BestW l xs lt te W Q) (hlt:OpR X.in1.nox (compareOp .Gt) lt) {rk:List V→Hp→VK→Prop} (hkey:CallR X.in1.nox (.builtin "len") rk) (hte:∀ x H Q,te x H Q→rk [x] H Q) (oS:Ow X.in1 ((It,dO)::pins) S) (oI:Ow X.in1 ((S,dO)::pins) It)
  (hR:∀ (v:V) (u:Value) (H:Hp) (s:Shared),Inv X pins σ H s→RelV v u→Q v H→R (.ok (.ret u)) s):
  ∀ (r j b:Nat) (H:Hp) (s:Shared) (xb k:V) (vb kb:Value) (c:Nat) (ob:Obj),xs.length - j=r→j≤xs.length→Inv X.in1 ((S,seqObj "list" #[vb,kb] c)::(It,ob)::pins) σ H s→s.heap.IsListIter It l j→xs[b]? =some xb→RelV xb vb→RelV k kb→W j b k H→
   codeAny (model X.prog X.w) X.A (.builtin "max.loop" ⟨[.ref It,(.builtin "len"),.ref S],kw⟩) R s:=by
 have hname:(toString "max"++toString ".loop":String)="max.loop":=by decide
 have hSI:S≠It:=fun z=>oS.pin (It,dO) (List.mem_append_right _ List.mem_cons_self) z.symm
 have ofS:∀ {d:Obj},Ow X.in1 ((It,d)::pins) S:=⟨oS.loc,oS.fs,oS.new,oS.cel,fun p hp=>by
  rcases List.mem_append.mp hp with z | z
  ·exact oS.pin p (List.mem_append_left _ z)
  ·rcases List.mem_cons.mp z with rfl | z
   ·exact Ne.symm hSI
   ·exact oS.pin p (List.mem_append_right _ (List.mem_cons_of_mem _ z))⟩
 have ofI:∀ {d:Obj},Ow X.in1 ((S,d)::pins) It:=⟨oI.loc,oI.fs,oI.new,oI.cel,fun p hp=>by
  rcases List.mem_append.mp hp with z | z
  ·exact oI.pin p (List.mem_append_left _ z)
  ·rcases List.mem_cons.mp z with rfl | z
   ·exact hSI
   ·exact oI.pin p (List.mem_append_right _ (List.mem_cons_of_mem _ z))⟩
 have ofS0:Ow X.in1 pins S:=⟨oS.loc,oS.fs,oS.new,oS.cel,fun p hp=>by
  rcases List.mem_append.mp hp with z | z
  ·exact oS.pin p (List.mem_append_left _ z)
  ·exact oS.pin p (List.mem_append_right _ (List.mem_cons_of_mem _ z))⟩
 intro r
 induction r with
 | zero=>
  intro j b H s xb k vb kb c ob hr hj I hit hxb rb rk w
  have hin:j=xs.length:=by omega
  subst hin
  have hl:=M.lst _ _ _ _ w
  obtain ⟨its,rv,pl,_⟩:=I.list (SqL.of hl)
  have lenI:its.length=xs.length:=rv.length.symm
  have hlI:l≠It:=fun z=>by
   have:=(I.pin (It,ob) (List.mem_append_right _ (List.mem_cons_of_mem _ List.mem_cons_self))).2.1
   rw [←z,hl] at this;cases this
  have Wk:=Walks.list (prog:=X.prog) (w:=X.w) (A:=X.A.in1) hh It l hlI its.toArray
  have nS:=(I.pin (S,seqObj "list" #[vb,kb] c) (List.mem_append_right _ List.mem_cons_self)).1
  refine codeAny_builtin PySem.F.entry_max_loop ?_
  rw [Around.under_plainId PySem.F.plain_max_loop _]
  show wpAny _ X.A.in1 (seqItems? (.ref S) >>=_) _ _ _
  refine wpAny_bind (wpAny_seqItems nS rfl ?_)
  show wpAny _ X.A.in1 (tryCatch (pyNext (.ref It)) _ >>=_) _ _ _
  refine wpAny_bind (wpAny_tryCatch (Wk.done _ _ _ ⟨by rw [List.size_toArray,lenI];exact hit,pl.isList⟩ fun h' tk' hk'=>?_))
  have hk:∀ b u,b≠It→s.heap.get? b=some u→h'.get? b=some u:=fun b u hb e=>hk' b u (by simpa using hb) e
  have I1:Inv X.in1 ((S,seqObj "list" #[vb,kb] c)::pins) σ H s:=I.pins_of fun p hp=>I.pin p (List.mem_append_right _ (by
   rcases List.mem_cons.mp hp with rfl | z
   ·exact List.mem_cons_self
   ·exact List.mem_cons_of_mem _ (List.mem_cons_of_mem _ z)))
  have oI':=ofI (d:=seqObj "list" #[vb,kb] c)
  have I2:=I1.turned (h':=h') (t':=tk') hk (I.pin (It,ob) (List.mem_append_right _ (List.mem_cons_of_mem _ List.mem_cons_self))).2.1 oI'.loc oI'.new oI'.cel oI'.pin
  have hS':=hk S _ hSI nS
  have s1:=Heap.SameBut.update h' S (Obj.mapSeq fun _=>(#[]:Array Value))
  show wpAny _ X.A.in1 (updateSeq S (fun _=>#[]) >>=_) _ _ _
  refine wpAny_bind ?_
  refine wpAny_updateSeq hS' rfl (wpAny_bind (wpAny_letGo (wpAny_pure ?_)))
  have I3:Inv X.in1 pins σ H { s with heap:=h',toks:=tk' }:=I2.pins_of fun p hp=>I2.pin p (List.mem_append_right _ (List.mem_cons_of_mem _ hp))
  have hSn:=(I2.pin (S,seqObj "list" #[vb,kb] c) (List.mem_append_right _ List.mem_cons_self)).2.1
  have I4:=I3.turned (h':=h'.update S (Obj.mapSeq fun _=>(#[]:Array Value))) (t':=tk') (fun b u hb e=>s1.extBut b u hb e) hSn ofS0.loc ofS0.new ofS0.cel ofS0.pin
  exact hR xb vb H _ I4.out1 rb (M.fin b k H xb w hxb)
 | succ r ih=>
  intro j b H s xb k vb kb c ob hr hj I hit hxb rb rk w
  have hlt':j < xs.length:=by omega
  have hl:=M.lst _ _ _ _ w
  obtain ⟨its,rv,pl,_⟩:=I.list (SqL.of hl)
  have lenI:its.length=xs.length:=rv.length.symm
  have hlI:l≠It:=fun z=>by
   have:=(I.pin (It,ob) (List.mem_append_right _ (List.mem_cons_of_mem _ List.mem_cons_self))).2.1
   rw [←z,hl] at this;cases this
  have Wk:=Walks.list (prog:=X.prog) (w:=X.w) (A:=X.A.in1) hh It l hlI its.toArray
  have nS:=(I.pin (S,seqObj "list" #[vb,kb] c) (List.mem_append_right _ List.mem_cons_self)).1
  refine codeAny_builtin PySem.F.entry_max_loop ?_
  rw [Around.under_plainId PySem.F.plain_max_loop _]
  show wpAny _ X.A.in1 (seqItems? (.ref S) >>=_) _ _ _
  refine wpAny_bind (wpAny_seqItems nS rfl ?_)
  show wpAny _ X.A.in1 (tryCatch (pyNext (.ref It)) _ >>=_) _ _ _
  refine wpAny_bind (wpAny_tryCatch (Wk.item j _ _ _ (by rw [List.size_toArray,lenI];exact hlt') ⟨hit,pl.isList⟩ fun v h' tk' hP hst' hk'=>?_))
  have hv:its[j]? =some v:=by simpa using hP
  obtain ⟨x,hx⟩:∃ x,xs[j]? =some x:=⟨_,List.getElem?_eq_getElem hlt'⟩
  have rx:RelV x v:=by
   obtain ⟨u,hu,ru⟩:=rv.get hx
   rw [hv] at hu;cases hu;exact ru
  obtain ⟨oI',hoI',hoc,hod⟩:=id hst'.1
  have hk:∀ b u,b≠It→s.heap.get? b=some u→h'.get? b=some u:=fun b u hb e=>hk' b u (by simpa using hb) e
  have I1:Inv X.in1 ((S,seqObj "list" #[vb,kb] c)::(It,oI')::pins) σ H { s with heap:=h',toks:=tk' }:=
   Inv.repin (p1:=[(S,seqObj "list" #[vb,kb] c)]) I ofI hk hoI' (fun v z=>by rw [hod] at z;cases z)
  have mt:=M.turn j b k H x w hx
  show wpAny _ X.A.in1 (tryCatch (holding [v] (call (.builtin "len") [v])) _ >>=_) _ _ _
  refine wpAny_bind (wpAny_tryCatch (wpAny_holding (wpAny_mono (hkey _ _ σ H [x] [v] _ (I1.wish _) (.cons rx .nil) (hte _ _ _ mt)) (fun u2 s2 ⟨k2,H2,I2w,r2,q2⟩=>?_) fun _ _ hF=>(show False from hF).elim)))
  have I2:=I2w.unwish
  show wpAny _ X.A.in1 (tryCatch (holding [v,u2] (richCompare .Gt u2 kb >>=_)) _ >>=_) _ _ _
  refine wpAny_bind (wpAny_tryCatch (wpAny_holding (wpAny_bind (wpAny_mono (hlt _ s2 σ H2 k2 k u2 kb _ (I2.wish _) r2 rk q2) (fun u3 s3 ⟨z,H3,I3w,r3,cc,ez,q3⟩=>?_) fun e s' hF=>(show False from hF).elim))))
  have I3:=I3w.unwish
  subst ez
  obtain rfl:u3=Value.bool cc:=r3
  refine wpAny_bind (wpAny_holding (wpAny_truthy_bool ?_))
  refine wpAny_bind (wpAny_letGo (wpAny_pure ?_))
  have nS3:=(I3.pin (S,seqObj "list" #[vb,kb] c) (List.mem_append_right _ List.mem_cons_self)).1
  have nI3:=(I3.pin (It,oI') (List.mem_append_right _ (List.mem_cons_of_mem _ List.mem_cons_self))).1
  have hit3:s3.heap.IsListIter It l (j + 1):=⟨oI',nI3,hoc,hod⟩
  cases cc with
  | true=>
   have s1:=Heap.SameBut.update s3.heap S (Obj.mapSeq fun _=>#[v,u2])
   obtain ⟨c2,hc2⟩:∃ c2,(s3.heap.update S (Obj.mapSeq fun _=>#[v,u2])).get? S=some (seqObj "list" #[v,u2] c2):=⟨_,get?_update_seq nS3 fun _=>#[v,u2]⟩
   simp only [if_true]
   refine wpAny_bind ?_
   refine wpAny_updateSeq nS3 rfl (wpAny_bind (wpAny_letGo ?_))
   rw [hname]
   rw [if_pos rfl] at q3
   have I4:Inv X.in1 ((S,seqObj "list" #[v,u2] c2)::(It,oI')::pins) σ H3 { s3 with heap:=s3.heap.update S (Obj.mapSeq fun _=>#[v,u2]),toks:=s3.toks }:=
    Inv.repin (p1:=[]) I3 ofS (fun b u hb e=>s1.extBut b u hb e) hc2 (fun v z=>by cases z)
   exact wpAny_pure ⟨plainId_quiet PySem.F.plain_max_loop _,ih (j + 1) j H3 _ x k2 v u2 c2 oI' (by omega) hlt' I4 ⟨oI',(s1.2 It (Ne.symm hSI)).trans nI3,hoc,hod⟩ hx rx r2 q3⟩
  | false=>
   simp only [Bool.false_eq_true,if_false]
   refine wpAny_bind (wpAny_letGo ?_)
   rw [hname]
   rw [if_neg Bool.false_ne_true] at q3
   exact wpAny_pure ⟨plainId_quiet PySem.F.plain_max_loop _,ih (j + 1) b H3 _ xb k vb kb c oI' (by omega) hlt' I3 hit3 hxb rb rk q3⟩
theorem maxF_first {l:Addr} {xs:List V} {lt:R2} {te:V→Hp→VK→Prop} {W:Nat→Nat→V→Hp→Prop} {Q:VK} {kw:List (Str×Value)} {x0:V} (hh:X.A.handled=none)
  (M:BestW l xs lt te W Q) (hlt:OpR X.in1.nox (compareOp .Gt) lt) {rk:List V→Hp→VK→Prop} (hkey:CallR X.in1.nox (.builtin "len") rk) (hte:∀ x H Q,te x H Q→rk [x] H Q) (I2:Inv X pins σ H s) (hl2:H l=some (.lst xs)) (hx0:xs[0]? =some x0) (w0:te x0 H fun k H3=>W 1 0 k H3):
  wpAny (model X.prog X.w) X.A.in1 (do let it ←pyIter (.ref l);again (.builtin "max.loop" ⟨[it,(.builtin "len"),←newList []],kw⟩)) (fun fin s'=>match fin with
   | .done f=>(match (Except.ok f:Result) with | .ok (.ret v)=>EP X pins σ Q v s' | .ok _=>False | .error e=>X.xe e s')
   | .again c'=>c'.quiet=true∧codeAny (model X.prog X.w) X.A c' (fun r s'=>match r with | .ok (.ret v)=>EP X pins σ Q v s' | .ok _=>False | .error e=>X.xe e s') s') X.xe s:=by
 have hname:(toString "max"++toString ".loop":String)="max.loop":=by decide
 have I2':=I2.in1
 obtain ⟨its,rv,pl,_⟩:=I2'.list (SqL.of hl2)
 have lenI:its.length=xs.length:=rv.length.symm
 refine wpAny_bind (wpAny_pyIter_list pl.isList ?_)
 refine wpAny_bind (wpAny_newList ?_ (Nat.zero_le _))
 refine wpAny_pure ⟨plainId_quiet PySem.F.plain_max_loop _,?_⟩
 have gI:(s.heap.push { cls:=.type "list_iterator",data:=.fields #[.ref l,.int 0 0] }).get? s.heap.objs.size=some { cls:=.type "list_iterator",data:=.fields #[.ref l,.int 0 0] }:=Heap.get?_push_size _ rfl
 have I3:Inv X.in1 ((s.heap.objs.size,{ cls:=.type "list_iterator",data:=.fields #[.ref l,.int 0 0] })::pins) σ H { s with heap:=s.heap.push { cls:=.type "list_iterator",data:=.fields #[.ref l,.int 0 0] },toks:=s.toks }:=
  I2'.pinNew (I2'.kept (t':=s.toks) fun b o e=>Heap.get?_push_of_some _ e) gI (Nat.le_refl _) (I2'.hok.fresh (Nat.le_refl _)) fun v z=>by cases z
 have oI0:Ow X.in1 pins s.heap.objs.size:=I2'.ow (Nat.le_refl _)
 generalize hh3:s.heap.push { cls:=.type "list_iterator",data:=.fields #[.ref l,.int 0 0] }=h3 at I3 gI ⊢
 have I4:Inv X.in1 ((h3.objs.size,seqObj "list" #[] 0)::(s.heap.objs.size,{ cls:=.type "list_iterator",data:=.fields #[.ref l,.int 0 0] })::pins) σ H { s with heap:=h3.push (seqObj "list" #[] 0),toks:=s.toks }:=
  I3.pinNew (I3.kept (t':=s.toks) fun b o e=>Heap.get?_push_of_some _ e) (Heap.get?_push_size _ rfl) (Nat.le_refl _) (I3.hok.fresh (Nat.le_refl _)) fun v z=>by cases z
 have oS0:Ow X.in1 ((s.heap.objs.size,{ cls:=.type "list_iterator",data:=.fields #[.ref l,.int 0 0] })::pins) h3.objs.size:=I3.ow (Nat.le_refl _)
 have gS:(h3.push (seqObj "list" #[] 0)).get? h3.objs.size=some (seqObj "list" #[] 0):=Heap.get?_push_size _ rfl
 have gI2:(h3.push (seqObj "list" #[] 0)).get? s.heap.objs.size=some { cls:=.type "list_iterator",data:=.fields #[.ref l,.int 0 0] }:=Heap.get?_push_of_some _ gI
 have hSI:h3.objs.size≠s.heap.objs.size:=fun z=>oS0.pin _ (List.mem_append_right _ List.mem_cons_self) z.symm
 have pl4:(h3.push (seqObj "list" #[] 0)).IsList l its.toArray:=by
  obtain ⟨o,e,r⟩:=pl.isList
  exact ⟨o,Heap.get?_push_of_some _ (by rw [←hh3];exact Heap.get?_push_of_some _ e),r⟩
 have hlI:l≠s.heap.objs.size:=fun z=>by
  have:=I2'.hok.fresh (a:=s.heap.objs.size) (Nat.le_refl _)
  rw [←z,hl2] at this;cases this
 generalize h3.objs.size=S at *
 generalize s.heap.objs.size=It at *
 generalize h3.push (seqObj "list" #[] 0)=h4 at *
 have ofS:∀ {d:Obj},Ow X.in1 ((It,d)::pins) S:=⟨oS0.loc,oS0.fs,oS0.new,oS0.cel,fun p hp=>by
  rcases List.mem_append.mp hp with z | z
  ·exact oS0.pin p (List.mem_append_left _ z)
  ·rcases List.mem_cons.mp z with rfl | z
   ·exact Ne.symm hSI
   ·exact oS0.pin p (List.mem_append_right _ (List.mem_cons_of_mem _ z))⟩
 have ofI:∀ {d:Obj},Ow X.in1 ((S,d)::pins) It:=⟨oI0.loc,oI0.fs,oI0.new,oI0.cel,fun p hp=>by
  rcases List.mem_append.mp hp with z | z
  ·exact oI0.pin p (List.mem_append_left _ z)
  ·rcases List.mem_cons.mp z with rfl | z
   ·exact hSI
   ·exact oI0.pin p (List.mem_append_right _ z)⟩
 have Wk:=Walks.list (prog:=X.prog) (w:=X.w) (A:=X.A.in1) hh It l hlI its.toArray
 have hpos:0 < xs.length:=(List.getElem?_eq_some_iff.mp hx0).1
 refine codeAny_builtin PySem.F.entry_max_loop ?_
 rw [Around.under_plainId PySem.F.plain_max_loop _]
 show wpAny _ X.A.in1 (seqItems? (.ref S) >>=_) _ _ _
 refine wpAny_bind (wpAny_seqItems gS rfl ?_)
 show wpAny _ X.A.in1 (tryCatch (pyNext (.ref It)) _ >>=_) _ _ _
 refine wpAny_bind (wpAny_tryCatch (Wk.item 0 _ _ _ (by rw [List.size_toArray,lenI];exact hpos) ⟨⟨_,gI2,rfl,rfl⟩,pl4⟩ fun v h' tk' hP hst' hk'=>?_))
 have hv:its[0]? =some v:=by simpa using hP
 have rx:RelV x0 v:=by
  obtain ⟨u,hu,ru⟩:=rv.get hx0
  rw [hv] at hu;cases hu;exact ru
 obtain ⟨oI',hoI',hoc,hod⟩:=id hst'.1
 have hk2:∀ b u,b≠It→h4.get? b=some u→h'.get? b=some u:=fun b u hb e=>hk' b u (by simpa using hb) e
 have I1:Inv X.in1 ((S,seqObj "list" #[] 0)::(It,oI')::pins) σ H { s with heap:=h',toks:=tk' }:=
  Inv.repin (s:={ s with heap:=h4,toks:=s.toks }) (p1:=[(S,seqObj "list" #[] 0)]) I4 ofI hk2 hoI' (fun v z=>by rw [hod] at z;cases z)
 have mt:=w0
 show wpAny _ X.A.in1 (tryCatch (holding [v] (call (.builtin "len") [v])) _ >>=_) _ _ _
 refine wpAny_bind (wpAny_tryCatch (wpAny_holding (wpAny_mono (hkey _ _ σ H [x0] [v] _ (I1.wish _) (.cons rx .nil) (hte _ _ _ mt)) (fun u2 s2 ⟨k2,H2,I2w,r2,q2⟩=>?_) fun _ _ hF=>(show False from hF).elim)))
 have I2:=I2w.unwish
 have nS3:=(I2.pin (S,seqObj "list" #[] 0) (List.mem_append_right _ List.mem_cons_self)).1
 have nI3:=(I2.pin (It,oI') (List.mem_append_right _ (List.mem_cons_of_mem _ List.mem_cons_self))).1
 have s1':=Heap.SameBut.update s2.heap S (Obj.mapSeq fun _=>#[v,u2])
 obtain ⟨c2,hc2⟩:∃ c2,(s2.heap.update S (Obj.mapSeq fun _=>#[v,u2])).get? S=some (seqObj "list" #[v,u2] c2):=⟨_,get?_update_seq nS3 fun _=>#[v,u2]⟩
 show wpAny _ X.A.in1 (updateSeq S (fun _=>#[v,u2]) >>=_) _ _ _
 refine wpAny_bind ?_
 refine wpAny_updateSeq nS3 rfl ?_
 rw [hname]
 have I7:Inv X.in1 ((S,seqObj "list" #[v,u2] c2)::(It,oI')::pins) σ H2 { s2 with heap:=s2.heap.update S (Obj.mapSeq fun _=>#[v,u2]),toks:=s2.toks }:=
  Inv.repin (s:=s2) (p1:=[]) I2 ofS (fun b u hb e=>s1'.extBut b u hb e) hc2 (fun v z=>by cases z)
 exact wpAny_pure ⟨plainId_quiet PySem.F.plain_max_loop _,maxF_loop (pins:=pins) (Q:=Q) hh M hlt hkey hte ofS ofI (fun v u H s J r hq=>⟨v,H,J,r,hq⟩) _ 1 0 H2 _ x0 k2 v u2 c2 oI' rfl hpos I7 ⟨oI',(s1'.2 It (Ne.symm hSI)).trans nI3,hoc,hod⟩ hx0 rx r2 q2⟩
end
section
variable {X:Cx}
noncomputable def rMinV (lt:R2):List V→Hp→VK→Prop:=fun vs H Q=>∃ l xs x0 W,vs=[.ref l]∧H l=some (.lst xs)∧xs[0]? =some x0∧BestW l xs lt (fun x H Q=>Q x H) W Q∧W 1 0 x0 H
theorem call_minV {lt:R2} (hc:X.calm=true) (hlt:OpR X.in1.nox (compareOp .Lt) lt):CallR X (.builtin "min") (rMinV lt):=by
 intro pins s σ H xs us Q I r h
 have hname:(toString "min"++toString ".loop":String)="min.loop":=by decide
 obtain ⟨l,xs,x0,W,rfl,hl,hx0,M,w0⟩:=h
 obtain ⟨u,rfl,rx⟩:=Vals.one r
 cases (show u=Value.ref l from rx)
 refine kmk_tree PySem.F.kind_min PySem.F.plain_min PySem.F.entry_min (PySem.F.args_min1 _) ?_
 show wpAny _ X.A.in1 (Builtin.Builtins.bindParams "min" ["key","default"] 0 ⟨[],[]⟩ >>=_) _ _ s
 refine wpAny_bind (wpAny_of_eq (show Builtin.Builtins.bindParams "min" ["key","default"] 0 ⟨[],[]⟩=pure [none,none] from rfl) ?_)
 refine wpAny_bind (wpAny_pure ?_)
 rw [hname]
 exact minV_first (kw:=[]) (I.ok.hd hc) M hlt (fun _ _ _ h=>h) I hl hx0 w0
theorem k_minV {lt:R2} (hlt:OpR X.in1.nox (compareOp .Lt) lt) (hc:X.calm=true:=by rfl):CallR X (.builtin "min") (rMinV lt):=call_minV hc hlt
noncomputable def tMaxF (K:PySem.W.Frag) (ta:TA):TE:=fun σ H Q=>ta σ H fun vs H1=>∃ l xs x0 W,vs=[.ref l]∧H1 l=some (.lst xs)∧xs[0]? =some x0∧BestW l xs (rI0 fun i j=>.bl (decide (j < i))) (fun x H Q=>rLen K [x] H Q) W Q∧rLen K [x0] H1 fun k H3=>W 1 0 k H3
theorem pe_maxF {e:Expr} {p p2 pos kpos:Pos} {tl:TA} (hc:X.calm=true) (hg:Gl X "max") (hm:X.mg "max"=none) (hg2:Gl X "len") (hm2:X.mg "len"=none) (hl:PA X [e] tl) (he:starEach [e] X.env=[(false,eval e X.env)]:=by rfl):
  PE X (.Call (.Name "max" p) [e] [⟨some "key",.Name "len" p2,kpos⟩] pos) (tMaxF X.K tl):=by
 intro pins s σ H Q I h
 have hname:(toString "max"++toString ".loop":String)="max.loop":=by decide
 refine wpAny_Call_Name_kw (ld_blt I hg hm (show bootBuiltins "max"=some (.builtin "max") by first | rfl | exact bt_max) ?_ (by decide) (by decide))
 refine callWith_kw ?_ (by rw [he];rfl) (by rw [he];rfl) rfl rfl
 refine thn (hl pos pins s σ H _ I h) fun us s1 ⟨vs,H1,I1,r1,l,xs,x0,W,ex,hl1,hx0,M,w0⟩=>?_
 subst ex
 obtain ⟨u,rfl,rx1⟩:=Vals.one r1
 obtain rfl:u=Value.ref l:=rx1
 show wpAny _ _ (evalAll [(do let v ←eval (.Name "len" p2) X.env;standAt pos;pure v)]) _ _ s1
 refine wpAny_evalAll_cons (wpAny_bind (ld_blt I1 hg2 hm2 bt_len (wpAny_bind (wpAny_standAt (wpAny_pure (wpAny_evalAll_nil ?_))))))
 show wpAny _ _ (call (.builtin "max") [.ref l] [(Str.ofString "key",.builtin "len")]) _ _ s1
 refine kmk_tree PySem.F.kind_max PySem.F.plain_max PySem.F.entry_max (kmk_max_key _ _) ?_
 show wpAny _ X.A.in1 (Builtin.Builtins.bindParams "max" ["key","default"] 0 ⟨[],[(Str.ofString "key",.builtin "len")]⟩ >>=_) _ _ s1
 refine wpAny_bind (wpAny_of_eq (show Builtin.Builtins.bindParams "max" ["key","default"] 0 ⟨[],[(Str.ofString "key",.builtin "len")]⟩=pure [some (.builtin "len"),none] from rfl) ?_)
 refine wpAny_bind (wpAny_pure ?_)
 rw [hname]
 exact maxF_first (kw:=[]) (I1.ok.hd hc) M op_gt (c_len (X:=X.in1.nox)) (fun _ _ _ h=>h) I1 hl1 hx0 w0
theorem k_maxF (K:PySem.W.Frag) {e:Expr} {p p2 pos kpos:Pos} {tl:TA} (hg:Gl X "max") (hm:X.mg "max"=none) (hg2:Gl X "len") (hm2:X.mg "len"=none) (hl:PA X [e] tl) (hc:X.calm=true:=by rfl) (he:starEach [e] X.env=[(false,eval e X.env)]:=by rfl) (h:X.K=K:=by rfl):
  PE X (.Call (.Name "max" p) [e] [⟨some "key",.Name "len" p2,kpos⟩] pos) (tMaxF K tl):=h▸pe_maxF hc hg hm hg2 hm2 hl he
noncomputable def tMaxD (tl:TA) (td:TE):TE:=fun σ H Q=>tl σ H fun vs H1=>td σ H1 fun d H2=>∃ l ns,vs=[.ref l]∧H2 l=some (.lst (ns.map V.int))∧(ns=[]→Q d H2)∧∀ M:Int,M∈ns→(∀ a∈ns,a≤M)→Q (.int M) H2
theorem max_def (a v:Value):argsOk "max" ⟨[a],[(Str.ofString "default",v)]⟩:=by unfold argsOk;kernel_rfl
theorem best_ints {l:Addr} {ns:List Int} {H:Hp} {Q:VK} (hl:H l=some (.lst (ns.map V.int))) (q:∀ M:Int,M∈ns→(∀ a∈ns,a≤M)→Q (.int M) H):
  BestW l (ns.map V.int) (rI0 fun i j=>.bl (decide (j < i))) (fun x H Q=>Q x H) (fun j b k H'=>H'=H∧∃ B:Int,ns[b]? =some B∧k=.int B∧∀ i (z:Int),i < j→ns[i]? =some z→z≤B) Q where
 lst:=fun j b k H' w=>w.1▸hl
 turn:=fun j b k H' x w hx=>by
  obtain ⟨rfl,B,hb,rfl,hB⟩:=w
  rw [List.getElem?_map] at hx
  cases hz:ns[j]? with
  | none=>rw [hz] at hx;cases hx
  | some z=>
   rw [hz] at hx
   cases hx
   refine ⟨z,B,rfl,rfl,_,rfl,?_⟩
   by_cases g:B < z
   ·rw [if_pos (decide_eq_true g)]
    refine ⟨rfl,z,by first | exact hz | rfl,rfl,fun i y hi hy=>?_⟩
    by_cases e:i=j
    ·subst e;rw [hz] at hy;cases hy;exact Int.le_refl _
    ·have:=hB i y (by omega) hy;omega
   ·rw [if_neg (by simpa using g)]
    refine ⟨rfl,B,hb,rfl,fun i y hi hy=>?_⟩
    by_cases e:i=j
    ·subst e;rw [hz] at hy;cases hy;omega
    ·exact hB i y (by omega) hy
 fin:=fun b k H' x w hx=>by
  obtain ⟨rfl,B,hb,rfl,hB⟩:=w
  rw [List.getElem?_map,hb] at hx
  cases hx
  refine q B (List.mem_of_getElem? hb) fun a ha=>?_
  obtain ⟨i,hi,e⟩:=List.mem_iff_getElem.mp ha
  exact hB i a (by rw [List.length_map];exact hi) (by rw [List.getElem?_eq_getElem hi,e])
theorem pe_maxD {e de:Expr} {p pos kpos:Pos} {tl:TA} {td:TE} (hc:X.calm=true) (hg:Gl X "max") (hm:X.mg "max"=none) (hl:PA X [e] tl) (hd:PE X de td) (he:starEach [e] X.env=[(false,eval e X.env)]:=by rfl):
  PE X (.Call (.Name "max" p) [e] [⟨some "default",de,kpos⟩] pos) (tMaxD tl td):=by
 intro pins s σ H Q I h
 have hname:(toString "max"++toString ".loop":String)="max.loop":=by decide
 refine wpAny_Call_Name_kw (ld_blt I hg hm (show bootBuiltins "max"=some (.builtin "max") by first | rfl | exact bt_max) ?_ (by decide) (by decide))
 refine callWith_kw ?_ (by rw [he];rfl) (by rw [he];rfl) rfl rfl
 refine thn (hl pos pins s σ H _ I h) fun us s1 ⟨vs,H1,I1,r1,q1⟩=>?_
 show wpAny _ _ (evalAll [(do let v ←eval de X.env;standAt pos;pure v)]) _ _ s1
 refine wpAny_evalAll_cons (wpAny_bind (thn (hd pins s1 σ H1 _ I1 q1) fun dv s2 ⟨d,H2,I2,rd,l,ns,ex,hl2,q0,q⟩=>?_))
 subst ex
 obtain ⟨u,rfl,rx1⟩:=Vals.one r1
 obtain rfl:u=Value.ref l:=rx1
 refine wpAny_bind (wpAny_standAt (wpAny_pure (wpAny_evalAll_nil ?_)))
 show wpAny _ _ (call (.builtin "max") [.ref l] [(Str.ofString "default",dv)]) _ _ s2
 refine kmk_tree PySem.F.kind_max PySem.F.plain_max PySem.F.entry_max (max_def _ _) ?_
 show wpAny _ X.A.in1 (Builtin.Builtins.bindParams "max" ["key","default"] 0 ⟨[],[(Str.ofString "default",dv)]⟩ >>=_) _ _ s2
 refine wpAny_bind (wpAny_of_eq (show Builtin.Builtins.bindParams "max" ["key","default"] 0 ⟨[],[(Str.ofString "default",dv)]⟩=pure [none,some dv] from rfl) ?_)
 refine wpAny_bind (wpAny_pure ?_)
 rw [hname]
 cases hns:ns with
 | cons n0 ns'=>
  refine maxV_first (kw:=[(Str.ofString "default",dv)]) (I2.ok.hd hc) (best_ints hl2 q) op_gt (fun _ _ _ h=>h) I2 hl2 (x0:=.int n0) (by rw [hns];rfl) ⟨rfl,n0,by rw [hns];rfl,rfl,fun i z hi hz=>?_⟩
  have:i=0:=by omega
  subst this
  rw [hns] at hz
  cases hz
  exact Int.le_refl _
 | nil=>
  rw [hns] at hl2
  have I2':=I2.in1
  have hh:X.A.handled=none:=I2.ok.hd hc
  obtain ⟨its,rv,pl,_⟩:=I2'.list (SqL.of hl2)
  have e0:its.toArray.size=0:=by rw [List.size_toArray];exact rv.length.symm
  refine wpAny_bind (wpAny_pyIter_list pl.isList ?_)
  refine wpAny_bind (wpAny_newList ?_ (Nat.zero_le _))
  refine wpAny_pure ⟨plainId_quiet PySem.F.plain_max_loop _,?_⟩
  have ltl:l < s2.heap.objs.size:=by obtain ⟨o,e,_⟩:=pl.isList;exact Heap.lt_size e
  have gI:((s2.heap.push { cls:=.type "list_iterator",data:=.fields #[.ref l,.int 0 0] }).push (seqObj "list" #[] 0)).get? s2.heap.objs.size=some { cls:=.type "list_iterator",data:=.fields #[.ref l,.int 0 0] }:=Heap.get?_push_of_some _ (Heap.get?_push_size _ rfl)
  have gS:((s2.heap.push { cls:=.type "list_iterator",data:=.fields #[.ref l,.int 0 0] }).push (seqObj "list" #[] 0)).get? (s2.heap.push { cls:=.type "list_iterator",data:=.fields #[.ref l,.int 0 0] }).objs.size=some (seqObj "list" #[] 0):=Heap.get?_push_size _ rfl
  have up:∀ b o,s2.heap.get? b=some o→((s2.heap.push { cls:=.type "list_iterator",data:=.fields #[.ref l,.int 0 0] }).push (seqObj "list" #[] 0)).get? b=some o:=fun b o e=>Heap.get?_push_of_some _ (Heap.get?_push_of_some _ e)
  have pl4:((s2.heap.push { cls:=.type "list_iterator",data:=.fields #[.ref l,.int 0 0] }).push (seqObj "list" #[] 0)).IsList l its.toArray:=by
   obtain ⟨o,e,r⟩:=pl.isList
   exact ⟨o,up _ _ e,r⟩
  refine codeAny_builtin PySem.F.entry_max_loop ?_
  rw [Around.under_plainId PySem.F.plain_max_loop _]
  show wpAny _ X.A.in1 (seqItems? (.ref (s2.heap.push { cls:=.type "list_iterator",data:=.fields #[.ref l,.int 0 0] }).objs.size) >>=_) _ _ _
  refine wpAny_bind (wpAny_seqItems gS rfl ?_)
  have Wk:=Walks.list (prog:=X.prog) (w:=X.w) (A:=X.A.in1) hh s2.heap.objs.size l (Nat.ne_of_lt ltl) its.toArray
  show wpAny _ X.A.in1 (tryCatch (pyNext (.ref s2.heap.objs.size)) _ >>=_) _ _ _
  refine wpAny_bind (wpAny_tryCatch (Wk.done _ _ _ ⟨by rw [e0];exact ⟨_,gI,rfl,rfl⟩,pl4⟩ fun h' tk' hk'=>?_))
  refine wpAny_bind (wpAny_rule (wpAny_pure ?_))
  refine ⟨d,H2,I2.kept (t':=tk') fun b o e=>hk' b o ?_ (up b o e),rd,q0 hns⟩
  intro hm
  rcases List.mem_singleton.mp hm with z
  exact absurd (Heap.lt_size e) (by rw [z];exact Nat.lt_irrefl _)
theorem k_maxD {e de:Expr} {p pos kpos:Pos} {tl:TA} {td:TE} (hg:Gl X "max") (hm:X.mg "max"=none) (hl:PA X [e] tl) (hd:PE X de td) (hc:X.calm=true:=by rfl) (he:starEach [e] X.env=[(false,eval e X.env)]:=by rfl):
  PE X (.Call (.Name "max" p) [e] [⟨some "default",de,kpos⟩] pos) (tMaxD tl td):=pe_maxD hc hg hm hl hd he
section
variable {σ:St} {H:Hp} {Q:VK} {K:PySem.W.Frag}
theorem rd_maxF {tl:TA} (h:tl σ H fun vs H1=>∃ l xs x0 W,vs=[.ref l]∧H1 l=some (.lst xs)∧xs[0]? =some x0∧BestW l xs (rI0 fun i j=>.bl (decide (j < i))) (fun x H Q=>rLen K [x] H Q) W Q∧rLen K [x0] H1 fun k H3=>W 1 0 k H3):tMaxF K tl σ H Q:=h
theorem rd_maxD {tl:TA} {td:TE} (h:tl σ H fun vs H1=>td σ H1 fun d H2=>∃ l ns,vs=[.ref l]∧H2 l=some (.lst (ns.map V.int))∧(ns=[]→Q d H2)∧∀ M:Int,M∈ns→(∀ a∈ns,a≤M)→Q (.int M) H2):tMaxD tl td σ H Q:=h
theorem rd_minTs {l:Addr} {vs:List V} {ps:List (List Int)} (hl:H l=some (.lst vs)) (hv:∀ (i:Nat) (p:List Int),ps[i]? =some p→∃ a,vs[i]? =some (V.ref a)∧H a=some (.tup (p.map V.int))) (hn:vs.length=ps.length) (h0:0 < ps.length)
  (q:∀ (i:Nat) (p:List Int),ps[i]? =some p→(∀ r∈ps,HT.lexLt r p=false)→∀ x,vs[i]? =some x→Q x H):rMinV (rLtT K) [.ref l] H Q:=by
 obtain ⟨p0,hp0⟩:∃ p0,ps[0]? =some p0:=⟨_,List.getElem?_eq_getElem h0⟩
 obtain ⟨a0,hv0,ha0⟩:=hv 0 p0 hp0
 refine ⟨l,vs,.ref a0,fun j b k H'=>H'=H∧∃ p,ps[b]? =some p∧vs[b]? =some k∧∀ i r,i < j→ps[i]? =some r→HT.lexLt r p=false,rfl,hl,hv0,⟨?_,?_,?_⟩,rfl,p0,hp0,hv0,fun i r hi hr=>?_⟩
 ·rintro j b k H' ⟨rfl,_⟩
  exact hl
 ·rintro j b k H' x ⟨rfl,p,hp,hk,hB⟩ hx
  have hj:j < ps.length:=by rw [←hn];exact (List.getElem?_eq_some_iff.mp hx).1
  obtain ⟨r,hr⟩:∃ r,ps[j]? =some r:=⟨_,List.getElem?_eq_getElem hj⟩
  obtain ⟨a1,e1,t1⟩:=hv j r hr
  obtain ⟨a2,e2,t2⟩:=hv b p hp
  rw [hx] at e1
  rw [hk] at e2
  cases e1
  cases e2
  refine ⟨a1,a2,r,p,rfl,rfl,SqT.of t1,SqT.of t2,_,rfl,?_⟩
  cases g:HT.lexLt r p with
  | true=>
   rw [if_pos rfl]
   refine ⟨rfl,r,hr,hx,fun i y hi hy=>?_⟩
   by_cases e:i=j
   ·subst e;rw [hr] at hy;cases hy;exact lex_irr _
   ·have h1:=hB i y (by omega) hy
    cases g2:HT.lexLt y r with
    | false=>rfl
    | true=>rw [lex_tr g2 g] at h1;cases h1
  | false=>
   rw [if_neg Bool.false_ne_true]
   refine ⟨rfl,p,hp,hk,fun i y hi hy=>?_⟩
   by_cases e:i=j
   ·subst e;rw [hr] at hy;cases hy;exact g
   ·exact hB i y (by omega) hy
 ·rintro b k H' x ⟨rfl,p,hp,hk,hB⟩ hx
  refine q b p hp (fun r hr=>?_) x hx
  obtain ⟨i,hi,e⟩:=List.mem_iff_getElem.mp hr
  exact hB i r (by rw [hn];exact hi) (by rw [List.getElem?_eq_getElem hi,e])
 ·have:i=0:=by omega
  subst this
  rw [hp0] at hr
  cases hr
  exact lex_irr _
end
end
end L2
namespace L2
open PySem PySem.Spec PyProof.Rows
section
variable {prog:Program} {w:World} {A:Around} {E:Value→Shared→Prop} {s:Shared}
theorem lex_any {b:Bool} {Q:Bool→Shared→Prop}:∀ {ns ms:List Int} {vs us:List Value} (i:Nat),Vals (ns.map V.int) vs→Vals (ms.map V.int) us→Q (HT.lexLt ns ms) s→
  PySem.W.KatLex prog w A b (decide (ns.length < ms.length)) Q (vs.zip us) i s
 | [],[],_,_,_,.nil,.nil,q=>q
 | [],_::_,_,_,_,.nil,.cons _ _,q=>q
 | _::_,[],_,_,_,.cons _ _,.nil,q=>q
 | n::ns,m::ms,_,_,i,.cons r1 t1,.cons r2 t2,q=>by
  obtain ⟨t,rfl⟩:=r1
  obtain ⟨u,rfl⟩:=r2
  rw [List.zip_cons_cons]
  refine PySem.W.kat_cons (SeqAt.EqAt.int_int n t m u prog w _ _ ?_)
  rw [HT.lexLt_cons] at q
  by_cases e:n=m
  ·rw [if_pos e] at q
   rw [show (n==m)=true by simpa using e]
   have:=lex_any (b:=b) (i + 1) t1 t2 q
   rw [show decide ((n::ns).length < (m::ms).length)=decide (ns.length < ms.length) by simp]
   exact PySem.W.kat_yes this
  ·rw [if_neg e] at q
   rw [show (n==m)=false by simpa using e]
   refine PySem.W.kat_no ?_
   cases hb:(b&&i==0) with
   | true=>exact oneLt_int q
   | false=>exact PySem.W.kat_one _ _ (lt_int (show PySem.W.BoolBack Q (.bool (decide (n < m))) s from q))
end
section
variable {X:Cx}
end
section
variable {H:Hp} {Q:VK} {K:PySem.W.Frag}
end
end L2
namespace GM
noncomputable abbrev Rel:=Int→Int→Bool
noncomputable def InN (n:Nat) (p:List Int):Prop:=∀ t∈p,0≤t∧t < (n:Int)
theorem mf {α:Type} {p:α→Bool} {a:α} {l:List α} (h:a∈l.filter p):a∈l:=(List.mem_filter.mp h).1
noncomputable def Pt (al:Rel) (p:List Int):Prop:=p.Pairwise fun a b=>al a b=true
structure Asy (al:Rel):Prop where
 irr:∀ a,al a a=false
 asy:∀ a b,al a b=true→al b a=false
theorem Pt.nd {al:Rel} (h:Asy al) {p:List Int} (q:Pt al p):p.Nodup:=List.Pairwise.imp (fun {a b} g z=>by
 subst z
 rw [h.irr] at g
 cases g) q
theorem uniq {al:Rel} (h:Asy al):∀ {p q:List Int},Pt al p→Pt al q→(∀ t,t∈p↔t∈q)→p=q
 | [],[],_,_,_=>rfl
 | [],b::q,_,_,e=>by have:=(e b).mpr List.mem_cons_self;cases this
 | a::p,[],_,_,e=>by have:=(e a).mp List.mem_cons_self;cases this
 | a::p,b::q,hp,hq,e=>by
  obtain ⟨hp1,hp2⟩:=List.pairwise_cons.mp hp
  obtain ⟨hq1,hq2⟩:=List.pairwise_cons.mp hq
  by_cases ab:a=b
  ·subst ab
   have np:a∉p:=fun z=>by have:=hp1 a z;rw [h.irr] at this;cases this
   have nq:a∉q:=fun z=>by have:=hq1 a z;rw [h.irr] at this;cases this
   rw [uniq h hp2 hq2 fun t=>⟨fun ht=>?_,fun ht=>?_⟩]
   ·rcases List.mem_cons.mp ((e t).mp (List.mem_cons_of_mem _ ht)) with z | z
    ·subst z;exact absurd ht np
    ·exact z
   ·rcases List.mem_cons.mp ((e t).mpr (List.mem_cons_of_mem _ ht)) with z | z
    ·subst z;exact absurd ht nq
    ·exact z
  ·have h1:a∈q:=by
    rcases List.mem_cons.mp ((e a).mp List.mem_cons_self) with z | z
    ·exact absurd z ab
    ·exact z
   have h2:b∈p:=by
    rcases List.mem_cons.mp ((e b).mpr List.mem_cons_self) with z | z
    ·exact absurd z.symm ab
    ·exact z
   have:=h.asy _ _ (hp1 b h2)
   rw [hq1 a h1] at this
   cases this
noncomputable def mask:List Int→Nat
 | []=>0
 | t::p=>(1 <<< t.toNat)||| mask p
theorem mask_bit:∀ (p:List Int) (i:Nat),(mask p).testBit i=decide (∃ t∈p,t.toNat=i)
 | [],i=>by simp [mask]
 | t::p,i=>by
  have e:(1 <<< t.toNat).testBit i=decide (t.toNat=i):=by
   rw [Nat.one_shiftLeft,Nat.testBit_two_pow]
  rw [mask,Nat.testBit_or,mask_bit p i,e]
  simp [List.mem_cons,or_and_right,exists_or,Bool.decide_or]
theorem mask_mem {n:Nat} {p:List Int} (hp:InN n p) (t:Int) (h0:0≤t):(mask p).testBit t.toNat=decide (t∈p):=by
 rw [mask_bit]
 congr 1
 apply propext
 constructor
 ·rintro ⟨u,hu,e⟩
  have:=hp u hu
  have:u=t:=by omega
  subst this
  exact hu
 ·intro h
  exact ⟨t,h,rfl⟩
theorem mask_lt {n:Nat} {p:List Int} (hp:InN n p):mask p < 2 ^ n:=by
 refine Nat.lt_pow_two_of_testBit _ fun i hi=>?_
 rw [mask_bit]
 refine decide_eq_false ?_
 rintro ⟨t,ht,e⟩
 have:=hp t ht
 omega
theorem mask_pos {n:Nat} {p:List Int} (hp:InN n p) (ne:p≠[]):0 < mask p:=by
 cases p with
 | nil=>exact absurd rfl ne
 | cons t p=>
  refine Nat.pos_of_ne_zero fun z=>?_
  have h:=mask_mem hp t (hp t List.mem_cons_self).1
  rw [z,Nat.zero_testBit] at h
  simp at h
theorem nats {m:Nat}:∀ (l:List Nat),l.Nodup→(∀ x∈l,x < m)→l.length≤m:=by
 induction m with
 | zero=>
  intro l _ h
  cases l with
  | nil=>exact Nat.le_refl _
  | cons x l=>exact absurd (h x List.mem_cons_self) (Nat.not_lt_zero _)
 | succ m ih=>
  intro l nd h
  by_cases hm:m∈l
  ·have h1:=ih (l.erase m) (nd.erase _) fun x hx=>by
    have h2:=h x (List.mem_of_mem_erase hx)
    have h3:x≠m:=fun z=>by
     subst z
     exact (List.Nodup.not_mem_erase nd) hx
    omega
   rw [List.length_erase_of_mem hm] at h1
   omega
  ·have:=ih l nd fun x hx=>by
    have h2:=h x hx
    have h3:x≠m:=fun z=>hm (z▸hx)
    omega
   omega
theorem many {al:Rel} (h:Asy al) {n:Nat} {L:List (List Int)} (nd:L.Nodup) (hL:∀ p∈L,p≠[]∧InN n p∧Pt al p):L.length < 2 ^ n:=by
 have h1:(L.map fun p=>mask p - 1).Nodup:=by
  unfold List.Nodup
  rw [List.pairwise_map]
  refine List.Pairwise.imp_of_mem (fun {p q} hp hq ne e=>?_) nd
  obtain ⟨p1,p2,p3⟩:=hL p hp
  obtain ⟨q1,q2,q3⟩:=hL q hq
  have a:=mask_pos p2 p1
  have b:=mask_pos q2 q1
  have em:mask p=mask q:=by omega
  refine ne (uniq h p3 q3 fun t=>?_)
  by_cases h0:0≤t
  ·have x:=mask_mem p2 t h0
   have y:=mask_mem q2 t h0
   rw [em,y] at x
   exact (decide_eq_decide.mp x).symm
  ·exact ⟨fun z=>absurd (p2 t z).1 h0,fun z=>absurd (q2 t z).1 h0⟩
 have h2:=nats (m:=2 ^ n - 1) _ h1 fun x hx=>by
  obtain ⟨p,hp,rfl⟩:=List.mem_map.mp hx
  have a:=mask_lt (hL p hp).2.1
  have b:=mask_pos (hL p hp).2.1 (hL p hp).1
  show mask p - 1 < 2 ^ n - 1
  omega
 rw [List.length_map] at h2
 have:0 < 2 ^ n:=Nat.two_pow_pos n
 omega
theorem Pt.len {al:Rel} (h:Asy al) {n:Nat} {p:List Int} (q:Pt al p) (hp:InN n p):p.length≤n:=by
 have nd:=q.nd h
 have h1:(p.map Int.toNat).Nodup:=by
  unfold List.Nodup
  rw [List.pairwise_map]
  refine List.Pairwise.imp_of_mem (fun {a b} ha hb ne e=>ne ?_) nd
  have:=hp a ha
  have:=hp b hb
  omega
 have h2:=nats (m:=n) _ h1 fun x hx=>by
  obtain ⟨t,ht,rfl⟩:=List.mem_map.mp hx
  have:=hp t ht
  omega
 rw [List.length_map] at h2
 exact h2
noncomputable def growOne (n:Nat) (al:Rel) (p:List Int):List (List Int):=((L2.upTo n).filter fun t=>p.all fun b=>al b t).map fun t=>p++[t]
noncomputable def grow (n:Nat) (al:Rel) (ps:List (List Int)):List (List Int):=ps.flatMap (growOne n al)
theorem mem_growOne {n:Nat} {al:Rel} {p q:List Int}:q∈growOne n al p↔∃ t:Int,q=p++[t]∧0≤t∧t < (n:Int)∧∀ b∈p,al b t=true:=by
 unfold growOne
 rw [List.mem_map]
 constructor
 ·rintro ⟨t,ht,rfl⟩
  obtain ⟨h1,h2⟩:=List.mem_filter.mp ht
  obtain ⟨a,b⟩:=L2.mem_upTo.mp h1
  exact ⟨t,rfl,a,b,fun b hb=>List.all_eq_true.mp h2 b hb⟩
 ·rintro ⟨t,rfl,a,b,c⟩
  exact ⟨t,List.mem_filter.mpr ⟨L2.mem_upTo.mpr ⟨a,b⟩,List.all_eq_true.mpr c⟩,rfl⟩
structure Lvl (n:Nat) (al:Rel) (k:Nat) (ps:List (List Int)):Prop where
 nd:ps.Nodup
 mem:∀ p,p∈ps↔p.length=k + 1∧InN n p∧Pt al p
theorem lvl_zero (n:Nat) (al:Rel):Lvl n al 0 ((L2.upTo n).map fun t=>[t]) where
 nd:=by
  unfold List.Nodup
  rw [List.pairwise_map]
  exact List.Pairwise.imp (fun {a b} h z=>h (by injection z)) (L2.upTo_nd n)
 mem:=fun p=>by
  rw [List.mem_map]
  constructor
  ·rintro ⟨t,ht,rfl⟩
   refine ⟨rfl,fun u hu=>?_,List.pairwise_singleton _ _⟩
   rcases List.mem_singleton.mp hu with rfl
   exact L2.mem_upTo.mp ht
  ·rintro ⟨h1,h2,h3⟩
   match p,h1 with
   | [t],_=>exact ⟨t,L2.mem_upTo.mpr (h2 t List.mem_cons_self),rfl⟩
theorem Lvl.grow {n:Nat} {al:Rel} {k:Nat} {ps:List (List Int)} (h:Lvl n al k ps):Lvl n al (k + 1) (grow n al ps) where
 nd:=by
  unfold List.Nodup GM.grow
  rw [List.pairwise_flatMap]
  refine ⟨fun p _=>?_,List.Pairwise.imp (fun {p q} ne x hx y hy z=>?_) h.nd⟩
  ·unfold growOne
   rw [List.pairwise_map]
   refine List.Pairwise.imp (fun {a b} h z=>h ?_) (List.Pairwise.filter _ (L2.upTo_nd n))
   have:=List.append_cancel_left z
   injection this
  ·obtain ⟨t,rfl,_⟩:=mem_growOne.mp hx
   obtain ⟨u,rfl,_⟩:=mem_growOne.mp hy
   have:=List.append_inj' z rfl
   exact ne this.1
 mem:=fun q=>by
  unfold GM.grow
  rw [List.mem_flatMap]
  constructor
  ·rintro ⟨p,hp,hq⟩
   obtain ⟨t,rfl,t0,t1,ha⟩:=mem_growOne.mp hq
   obtain ⟨h1,h2,h3⟩:=(h.mem p).mp hp
   refine ⟨by rw [List.length_append,h1];rfl,fun u hu=>?_,?_⟩
   ·rcases List.mem_append.mp hu with z | z
    ·exact h2 u z
    ·rcases List.mem_singleton.mp z with rfl
     exact ⟨t0,t1⟩
   ·unfold Pt
    rw [List.pairwise_append]
    refine ⟨h3,List.pairwise_singleton _ _,fun a ha' b hb=>?_⟩
    rcases List.mem_singleton.mp hb with rfl
    exact ha a ha'
  ·rintro ⟨h1,h2,h3⟩
   have ne:q≠[]:=fun z=>by subst z;cases h1
   have e:=(List.dropLast_concat_getLast ne).symm
   rw [e] at h1 h2 h3
   unfold Pt at h3
   rw [List.pairwise_append] at h3
   refine ⟨q.dropLast,(h.mem _).mpr ⟨by rw [List.length_append] at h1;simpa using h1,fun u hu=>h2 u (List.mem_append_left _ hu),h3.1⟩,?_⟩
   rw [mem_growOne]
   obtain ⟨a,b⟩:=h2 (q.getLast ne) (List.mem_append_right _ List.mem_cons_self)
   exact ⟨q.getLast ne,e,a,b,fun b hb=>h3.2.2 b hb _ List.mem_cons_self⟩
structure Fnd (n:Nat) (al:Rel) (k:Nat) (fs:List (List Int)):Prop where
 nd:fs.Nodup
 mem:∀ p,p∈fs↔p≠[]∧p.length≤k∧InN n p∧Pt al p
theorem fnd_zero (n:Nat) (al:Rel):Fnd n al 0 []:=⟨.nil,fun p=>⟨fun h=>(by cases h),fun ⟨h1,h2,_⟩=>absurd (List.length_eq_zero_iff.mp (Nat.le_zero.mp h2)) h1⟩⟩
theorem Fnd.next {n:Nat} {al:Rel} {k:Nat} {fs ps:List (List Int)} (h:Fnd n al k fs) (l:Lvl n al k ps):Fnd n al (k + 1) (fs++ps) where
 nd:=by
  unfold List.Nodup
  rw [List.pairwise_append]
  refine ⟨h.nd,l.nd,fun p hp q hq z=>?_⟩
  subst z
  have:=((h.mem p).mp hp).2.1
  have:=((l.mem p).mp hq).1
  omega
 mem:=fun p=>by
  rw [List.mem_append,h.mem,l.mem]
  constructor
  ·rintro (⟨a,b,c⟩ | ⟨a,b⟩)
   ·exact ⟨a,by omega,c⟩
   ·exact ⟨fun z=>(by subst z;cases a),by omega,b⟩
  ·rintro ⟨a,b,c⟩
   by_cases e:p.length=k + 1
   ·exact .inr ⟨e,c⟩
   ·exact .inl ⟨a,by omega,c⟩
structure Parts (n:Nat) (al:Rel) (L:List (List Int)):Prop where
 nd:L.Nodup
 mem:∀ p,p∈L↔p≠[]∧InN n p∧Pt al p
theorem Fnd.all {n:Nat} {al:Rel} {k:Nat} {fs:List (List Int)} (h:Fnd n al k fs) (l:Lvl n al k []):Parts n al fs where
 nd:=h.nd
 mem:=fun p=>by
  rw [h.mem]
  refine ⟨fun ⟨a,_,b⟩=>⟨a,b⟩,fun ⟨a,b,c⟩=>⟨a,Nat.le_of_not_lt fun hk=>?_,b,c⟩⟩
  have:p.take (k + 1)∈([]:List (List Int)):=(l.mem _).mpr ⟨by rw [List.length_take];omega,fun t ht=>b t (List.mem_of_mem_take ht),List.Pairwise.sublist (List.take_sublist _ _) c⟩
  cases this
theorem Lvl.few {n:Nat} {al:Rel} (h:Asy al) {k:Nat} {ps:List (List Int)} (l:Lvl n al k ps) (ne:ps≠[]):k < n:=by
 cases ps with
 | nil=>exact absurd rfl ne
 | cons p ps=>
  obtain ⟨a,b,c⟩:=(l.mem p).mp List.mem_cons_self
  have:=c.len h b
  omega
theorem Parts.perm {n:Nat} {al:Rel} {L L':List (List Int)} (h:Parts n al L) (p:L'.Perm L):Parts n al L':=⟨p.nodup_iff.mpr h.nd,fun q=>(p.mem_iff).trans (h.mem q)⟩
noncomputable def wi (S c:List Int):Bool:=c.all fun t=>decide (t∈S)
structure Semi (n:Nat) (lt:Rel):Prop where
 inn:∀ a b,lt a b=true→(0≤a∧a < (n:Int))∧0≤b∧b < (n:Int)
 irr:∀ a,lt a a=false
 two:∀ a b c d,lt a b=true→lt c d=true→lt a d=true∨lt c b=true
 three:∀ a b c d,lt a b=true→lt b c=true→0≤d→d < (n:Int)→lt a d=true∨lt d c=true
section
variable {n:Nat} {lt:Rel}
theorem Semi.tr (h:Semi n lt) {a b c:Int} (h1:lt a b=true) (h2:lt b c=true):lt a c=true:=by
 rcases h.two a b b c h1 h2 with z | z
 ·exact z
 ·rw [h.irr] at z;cases z
theorem Semi.asy (h:Semi n lt):Asy lt:=⟨h.irr,fun a b h1=>by
 cases h2:lt b a with
 | false=>rfl
 | true=>have:=h.tr h1 h2;rw [h.irr] at this;cases this⟩
noncomputable def bes (lt:Rel) (a b:Int):Bool:= !lt a b&& !lt b a
noncomputable def gr (lt:Rel) (a b:Int):Bool:=decide (a < b)&&bes lt a b
theorem gr_asy (lt:Rel):Asy (gr lt):=⟨fun a=>by unfold gr;simp,fun a b h=>by
 unfold gr at *
 rw [Bool.and_eq_true] at h
 have:=of_decide_eq_true h.1
 rw [decide_eq_false (by omega)]
 rfl⟩
noncomputable def le (lt:Rel) (x y:Int):Prop:=(∀ z,lt z x=true→lt z y=true)∧∀ z,lt y z=true→lt x z=true
noncomputable def ins (x:Int):List Int→List Int
 | []=>[x]
 | a::l=>if x < a then x::a::l else a::ins x l
theorem Parts.cl {al:Rel} {C:List (List Int)} (h:Parts n al C):∀ c∈C,∀ f:Int→Bool,c.filter f≠[]→c.filter f∈C:=fun c hc f ne=>by
 obtain ⟨_,a,b⟩:=(h.mem c).mp hc
 exact (h.mem _).mpr ⟨ne,fun t ht=>a t (mf ht),List.Pairwise.filter _ b⟩
end
end GM
namespace L2
open PySem PySem.Spec PyProof.Rows
section
open PySem.SeqAt
open PySem.AutoSeq1 (wpAny_loadPart')
open PySem.MeetsSeq PySem.MeetsSeq2 PySem.MeetsSeq3
end
theorem lay_tI:∀ ps:List (List Int),PyData.canLayAll0 (ps.map (tupOf []))=true∧PyData.depthAll (ps.map (tupOf []))≤1
 | []=>⟨rfl,Nat.zero_le _⟩
 | p::ps=>by
  obtain ⟨a,b⟩:=lay_tI ps
  have h:PyData.canLayAll0 (p.map PyData.int)=true∧PyData.depthAll (p.map PyData.int)=0:=by
   clear a b
   induction p with
   | nil=>exact ⟨rfl,rfl⟩
   | cons c p ih=>rw [List.map_cons,PyData.canLayAll0,PyData.depthAll,ih.1,ih.2];exact ⟨rfl,rfl⟩
  rw [List.map_cons,PyData.canLayAll0,PyData.depthAll,a]
  have h1:(tupOf [] p).canLay0=true:=by show (PyData.tuple (p.map PyData.int)).canLay0=true;rw [PyData.canLay0];exact h.1
  have h2:(tupOf [] p).depth=1:=by show (PyData.tuple (p.map PyData.int)).depth=1;rw [PyData.depth,h.2]
  rw [h1,h2]
  exact ⟨rfl,Nat.max_le.mpr ⟨Nat.le_refl _,b⟩⟩
end L2
namespace GM
open L2
structure Cov (PL:List (List Int)) (S:List Int) (res:List (List Int)):Prop where
 mem:∀ p∈res,p∈PL∧∀ t∈p,t∈S
 all:∀ t∈S,∃ p∈res,t∈p
 dis:res.Pairwise fun p q=>∀ t∈p,t∉q
noncomputable def Srt (res:List (List Int)):Prop:=res.Pairwise fun p q=>HT.lexLt p q=true
end GM
namespace TS
open PySem PySem.Spec PyProof.Rows
noncomputable def gal:Bool→Keyed→Array Keyed→Nat→Nat→Nat→StateT SortSt Sem (Option Nat):=sortPriv% PySem.Builtin.gallop
noncomputable def byd (left:Bool) (key:Keyed) (arr:Array Keyed) (base i:Nat):StateT SortSt Sem (Option Bool):=do
 let x ←elem' arr (base + i)
 if left then lt' x key else return (←lt' key x).map (!·)
theorem gal_eq (left:Bool) (key:Keyed) (arr:Array Keyed) (base n hint:Nat):gal left key arr base n hint=(do
 let mut lastofs:=0
 let mut ofs:=1
 let mut lo:=0
 let mut hi:=0
 let some right ←byd left key arr base hint | return none
 if right then
  let maxofs:=n - hint
  for _ in [0:n] do
   if ofs≥maxofs then break
   let some more ←byd left key arr base (hint + ofs) | return none
   if !more then break
   lastofs:=ofs
   ofs:=2 * ofs + 1
  lo:=hint + lastofs + 1
  hi:=hint + min ofs maxofs
 else
  let maxofs:=hint + 1
  for _ in [0:n] do
   if ofs≥maxofs then break
   let some found ←byd left key arr base (hint - ofs) | return none
   if found then break
   lastofs:=ofs
   ofs:=2 * ofs + 1
  lo:=hint + 1 - min ofs maxofs
  hi:=hint - lastofs
 for _ in [0:n] do
  if lo≥hi then break
  let m:=lo + (hi - lo) / 2
  let some more ←byd left key arr base m | return none
  if more then lo:=m + 1 else hi:=m
 return some hi):=rfl
noncomputable def Cmp (prog:Program) (w:World) (A:Around) (s:Shared) (κ:SortKind) (r:Keyed→Nat) (S:Keyed→Prop):Prop:=
 ∀ x y:Keyed,S x→S y→∀ Q:Bool→Shared→Prop,Q (decide (r x < r y)) s→wpAny (model prog w) A (keyLt' κ x.1 y.1) Q (fun _ _=>False) s
section
variable {prog:Program} {w:World} {A:Around} {E:Value→Shared→Prop} {s:Shared} {κ:SortKind} {r:Keyed→Nat} {S:Keyed→Prop}
theorem wpS_lt (C:Cmp prog w A s κ r S) {st:SortSt} {x y:Keyed} {Q:Option Bool→SortSt→Prop} (hk:kindOf st=κ) (hx:S x) (hy:S y) (h:Q (some (decide (r x < r y))) st):wpS (model prog w) A E s (lt' x y) Q st:=by
 rw [lt'_eq]
 refine wpS_bind (wpS_get ?_)
 rw [hk]
 refine wpS_bind (wpS_lift (wpAny_attempt (wpAny_mono (C x y hx hy (fun b s'=>s'=s∧b=decide (r x < r y)) ⟨rfl,rfl⟩) (fun b s' hb=>?_) fun _ _ e=>e.elim)))
 obtain ⟨rfl,rfl⟩:=hb
 exact ⟨rfl,wpS_pure h⟩
theorem wpS_elem {st:SortSt} {arr:Array Keyed} {i:Nat} {x:Keyed} {Q:Keyed→SortSt→Prop} (e:arr[i]? =some x) (h:Q x st):wpS (model prog w) A E s (elem' arr i) Q st:=by
 rw [elem'_eq,e]
 exact wpS_pure h
noncomputable def bef (left:Bool) (r:Keyed→Nat) (key x:Keyed):Bool:=if left then decide (r x < r key) else !decide (r key < r x)
theorem wpS_byd (C:Cmp prog w A s κ r S) {left:Bool} {st:SortSt} {key x:Keyed} {arr:Array Keyed} {base i:Nat} {Q:Option Bool→SortSt→Prop} (hk:kindOf st=κ) (hx:S x) (hy:S key)
  (e:arr[base + i]? =some x) (h:Q (some (bef left r key x)) st):wpS (model prog w) A E s (byd left key arr base i) Q st:=by
 unfold byd
 refine wpS_bind (wpS_elem e ?_)
 cases left with
 | true=>
  simp only [if_true]
  exact wpS_lt C hk hx hy h
 | false=>
  simp only [Bool.false_eq_true,if_false]
  refine wpS_bind (wpS_lt C hk hy hx ?_)
  exact wpS_pure h
theorem wpS_srch (C:Cmp prog w A s κ r S) {left:Bool} {st:SortSt} {key:Keyed} {arr:Array Keyed} {base n lo hi:Nat} {Q:Option (Option Nat)×Nat×Nat→SortSt→Prop} (hk:kindOf st=κ) (hy:S key) (g:Nat→Keyed)
  (hg:∀ i,i < n→arr[base + i]? =some (g i)∧S (g i)) (mono:∀ i j,i≤j→j < n→bef left r key (g j)=true→bef left r key (g i)=true)
  (h1:lo≤hi) (h2:hi≤n) (h3:∀ i,i < lo→bef left r key (g i)=true) (h4:∀ i,hi≤i→i < n→bef left r key (g i)=false)
  (h:∀ l k,k≤n→(∀ i,i < k→bef left r key (g i)=true)→(∀ i,k≤i→i < n→bef left r key (g i)=false)→Q (none,l,k) st):
  wpS (model prog w) A E s (forIn [:n] ((none,lo,hi):Option (Option Nat)×Nat×Nat) fun x __s=>
        if __s.snd.fst≥__s.snd.snd then pure (ForInStep.done (none,__s.snd.fst,__s.snd.snd))
        else do
         let __x ←byd left key arr base (__s.snd.fst + (__s.snd.snd - __s.snd.fst) / 2)
         match __x with
          | some more=>
           if more=true then
            pure (ForInStep.yield (none,__s.snd.fst + (__s.snd.snd - __s.snd.fst) / 2 + 1,__s.snd.snd))
           else pure (ForInStep.yield (none,__s.snd.fst,__s.snd.fst + (__s.snd.snd - __s.snd.fst) / 2))
          | x=>pure (ForInStep.done (some none,__s.snd.fst,__s.snd.snd))) Q st:=by
 refine wpS_forRange (I:=fun x c st'=>st'=st∧∃ l k,c=(none,l,k)∧l≤k∧k≤n∧k - l≤n - x∧(∀ i,i < l→bef left r key (g i)=true)∧(∀ i,k≤i→i < n→bef left r key (g i)=false)) ?step ?fin ⟨rfl,lo,hi,rfl,h1,h2,by omega,h3,h4⟩
 case fin=>
  rintro c st' ⟨rfl,l,k,rfl,a1,a2,a3,a4,a5⟩
  have:l=k:=by omega
  subst this
  exact h l l a2 a4 a5
 case step=>
  rintro x c st' _ hx ⟨rfl,l,k,rfl,a1,a2,a3,a4,a5⟩
  dsimp only
  by_cases hge:l≥k
  ·rw [if_pos hge]
   have:l=k:=by omega
   subst this
   exact wpS_pure (h l l a2 a4 a5)
  ·rw [if_neg hge]
   have hm:l + (k - l) / 2 < n:=by omega
   refine wpS_bind (wpS_byd C hk (hg _ hm).2 hy (hg _ hm).1 ?_)
   cases e:bef left r key (g (l + (k - l) / 2)) with
   | true=>
    dsimp only
    rw [if_pos rfl]
    exact wpS_pure ⟨rfl,_,_,rfl,by omega,a2,by omega,fun i hi=>mono i _ (by omega) hm e,a5⟩
   | false=>
    dsimp only
    rw [if_neg (by simp)]
    refine wpS_pure ⟨rfl,_,_,rfl,by omega,by omega,by omega,a4,fun i h5 h6=>?_⟩
    cases q:bef left r key (g i) with
    | false=>rfl
    | true=>rw [mono _ i h5 h6 q] at e;cases e
theorem wpS_gal (C:Cmp prog w A s κ r S) {left:Bool} {st:SortSt} {key:Keyed} {arr:Array Keyed} {base n hint:Nat} {Q:Option Nat→SortSt→Prop} (hk:kindOf st=κ) (hy:S key) (g:Nat→Keyed)
  (hg:∀ i,i < n→arr[base + i]? =some (g i)∧S (g i)) (hm:∀ i j,i≤j→j < n→r (g i)≤r (g j)) (hh:hint < n)
  (h:∀ k,k≤n→(∀ i,i < k→bef left r key (g i)=true)→(∀ i,k≤i→i < n→bef left r key (g i)=false)→Q (some k) st):wpS (model prog w) A E s (gal left key arr base n hint) Q st:=by
 have mono:∀ i j,i≤j→j < n→bef left r key (g j)=true→bef left r key (g i)=true:=fun i j hij hj e=>by
  have:=hm i j hij hj
  unfold bef at e ⊢
  cases left <;> simp at e ⊢ <;> omega
 have monoF:∀ i j,i≤j→j < n→bef left r key (g i)=false→bef left r key (g j)=false:=fun i j hij hj e=>by
  cases q:bef left r key (g j) with
  | false=>rfl
  | true=>rw [mono i j hij hj q] at e;cases e
 rw [gal_eq]
 refine wpS_bind (wpS_byd C hk (hg hint hh).2 hy (hg hint hh).1 ?_)
 cases e0:bef left r key (g hint) with
 | true=>
  simp only [if_true]
  refine wpS_bind (wpS_mono (wpS_forRange (I:=fun x c st'=>st'=st∧∃ l o,c=(none,l,o)∧l < o∧x < o∧hint + l < n∧bef left r key (g (hint + l))=true)
   (Q:=fun c st'=>st'=st∧∃ l o,c=(none,l,o)∧l < o∧hint + l < n∧bef left r key (g (hint + l))=true∧∀ i,hint + min o (n - hint)≤i→i < n→bef left r key (g i)=false) ?step ?fin ⟨rfl,0,1,rfl,by omega,by omega,hh,e0⟩) ?post)
  case fin=>
   rintro c st' ⟨rfl,l,o,rfl,a1,a2,a3,a4⟩
   exact ⟨rfl,l,o,rfl,a1,a3,a4,fun i h5 h6=>by omega⟩
  case step=>
   rintro x c st' _ hx ⟨rfl,l,o,rfl,a1,a2,a3,a4⟩
   dsimp only
   by_cases hge:o≥n - hint
   ·rw [if_pos hge]
    exact wpS_pure ⟨rfl,l,o,rfl,a1,a3,a4,fun i h5 h6=>by omega⟩
   ·rw [if_neg hge]
    have hn:hint + o < n:=by omega
    refine wpS_bind (wpS_byd C hk (hg _ hn).2 hy (hg _ hn).1 ?_)
    cases e:bef left r key (g (hint + o)) with
    | true=>
     dsimp only
     rw [if_neg (by simp)]
     exact wpS_pure ⟨rfl,_,_,rfl,by omega,by omega,hn,e⟩
    | false=>
     dsimp only
     rw [if_pos (by simp)]
     exact wpS_pure ⟨rfl,l,o,rfl,a1,a3,a4,fun i h5 h6=>monoF _ i (by omega) h6 e⟩
  case post=>
   rintro c st' ⟨rfl,l,o,rfl,a1,a3,a4,a5⟩
   dsimp only
   refine wpS_bind (wpS_srch C hk hy g hg mono (by omega) (by omega) (fun i hi=>mono i _ (by omega) a3 a4) a5 fun l k b1 b2 b3=>?_)
   exact wpS_pure (h k b1 b2 b3)
 | false=>
  simp only [Bool.false_eq_true,if_false]
  refine wpS_bind (wpS_mono (wpS_forRange (I:=fun x c st'=>st'=st∧∃ l o,c=(none,l,o)∧l < o∧x < o∧l≤hint∧bef left r key (g (hint - l))=false)
   (Q:=fun c st'=>st'=st∧∃ l o,c=(none,l,o)∧l < o∧l≤hint∧bef left r key (g (hint - l))=false∧∀ i,i < hint + 1 - min o (hint + 1)→bef left r key (g i)=true) ?step ?fin ⟨rfl,0,1,rfl,by omega,by omega,by omega,e0⟩) ?post)
  case fin=>
   rintro c st' ⟨rfl,l,o,rfl,a1,a2,a3,a4⟩
   exact ⟨rfl,l,o,rfl,a1,a3,a4,fun i h5=>by omega⟩
  case step=>
   rintro x c st' _ hx ⟨rfl,l,o,rfl,a1,a2,a3,a4⟩
   dsimp only
   by_cases hge:o≥hint + 1
   ·rw [if_pos hge]
    exact wpS_pure ⟨rfl,l,o,rfl,a1,a3,a4,fun i h5=>by omega⟩
   ·rw [if_neg hge]
    have hn:hint - o < n:=by omega
    refine wpS_bind (wpS_byd C hk (hg _ hn).2 hy (hg _ hn).1 ?_)
    cases e:bef left r key (g (hint - o)) with
    | false=>
     dsimp only
     rw [if_neg (by simp)]
     exact wpS_pure ⟨rfl,_,_,rfl,by omega,by omega,by omega,e⟩
    | true=>
     dsimp only
     rw [if_pos rfl]
     exact wpS_pure ⟨rfl,l,o,rfl,a1,a3,a4,fun i h5=>mono i _ (by omega) hn e⟩
  case post=>
   rintro c st' ⟨rfl,l,o,rfl,a1,a3,a4,a5⟩
   dsimp only
   refine wpS_bind (wpS_srch C hk hy g hg mono (by omega) (by omega) a5 (fun i hi h6=>monoF _ i hi h6 a4) fun l k b1 b2 b3=>?_)
   exact wpS_pure (h k b1 b2 b3)
end
end TS
namespace TS
open PySem PySem.Spec PyProof.Rows
noncomputable def mLo:Array Keyed→Array Keyed→StateT SortSt Sem (Array Keyed):=sortPriv% PySem.Builtin.mergeLo
noncomputable def mHi:Array Keyed→Array Keyed→StateT SortSt Sem (Array Keyed):=sortPriv% PySem.Builtin.mergeHi
noncomputable abbrev sg (st:SortSt) (g:Nat):SortSt:=SortSt.mk' (kindOf st) (arrOf st) (pendingOf st) g (failedOf st)
noncomputable def setG (g:Nat):StateT SortSt Sem Unit:=modify fun s=>sg s g
theorem mLo_eq (a b:Array Keyed):mLo a b=(do
 rule "list.sort.merge-lo"
 let total:=a.size + b.size
 let done (out:Array Keyed) (ia ib:Nat):=out++a.extract ia a.size++b.extract ib b.size
 let lastOfA (out:Array Keyed) (ia ib:Nat):=out++b.extract ib b.size++a.extract ia a.size
 let mut out:Array Keyed:=#[←elem' b 0]
 let mut ia:=0
 let mut ib:=1
 if ib==b.size then return done out ia ib
 if ia + 1==a.size then return lastOfA out ia ib
 let mut minGallop:=gallopOf (←get)
 for _ in [0:total] do
  let mut acount:=0
  let mut bcount:=0
  for _ in [0:total] do
   let some bWins ←lt' (←elem' b ib) (←elem' a ia) | return done out ia ib
   if bWins then
    out:=out.push (←elem' b ib);ib:=ib + 1;bcount:=bcount + 1;acount:=0
    if ib==b.size then return done out ia ib
    if bcount≥minGallop then break
   else
    out:=out.push (←elem' a ia);ia:=ia + 1;acount:=acount + 1;bcount:=0
    if ia + 1==a.size then return lastOfA out ia ib
    if acount≥minGallop then break
  rule "list.sort.gallop"
  minGallop:=minGallop + 1
  for _ in [0:total] do
   if minGallop > 1 then minGallop:=minGallop - 1
   setG minGallop
   let some k ←gal false (←elem' b ib) a ia (a.size - ia) 0 | return done out ia ib
   acount:=k
   if k > 0 then
    out:=out++a.extract ia (ia + k);ia:=ia + k
    if ia + 1==a.size then return lastOfA out ia ib
    if ia==a.size then return done out ia ib
   out:=out.push (←elem' b ib);ib:=ib + 1
   if ib==b.size then return done out ia ib
   let some k ←gal true (←elem' a ia) b ib (b.size - ib) 0 | return done out ia ib
   bcount:=k
   if k > 0 then
    out:=out++b.extract ib (ib + k);ib:=ib + k
    if ib==b.size then return done out ia ib
   out:=out.push (←elem' a ia);ia:=ia + 1
   if ia + 1==a.size then return lastOfA out ia ib
   if acount < 7&&bcount < 7 then break
  minGallop:=minGallop + 1
  setG minGallop
 unsupported "internal:list.sort.merge-bound"):=rfl
theorem mHi_eq (a b:Array Keyed):mHi a b=(do
 rule "list.sort.merge-hi"
 let total:=a.size + b.size
 let done (out:Array Keyed) (na nb:Nat):=a.extract 0 na++b.extract 0 nb++out.reverse
 let firstOfB (out:Array Keyed) (na nb:Nat):=b.extract 0 nb++a.extract 0 na++out.reverse
 let mut na:=a.size - 1
 let mut nb:=b.size
 let mut out:Array Keyed:=#[←elem' a na]
 if na==0 then return done out na nb
 if nb==1 then return firstOfB out na nb
 let mut minGallop:=gallopOf (←get)
 for _ in [0:total] do
  let mut acount:=0
  let mut bcount:=0
  for _ in [0:total] do
   let some aWins ←lt' (←elem' b (nb - 1)) (←elem' a (na - 1)) | return done out na nb
   if aWins then
    na:=na - 1;out:=out.push (←elem' a na);acount:=acount + 1;bcount:=0
    if na==0 then return done out na nb
    if acount≥minGallop then break
   else
    nb:=nb - 1;out:=out.push (←elem' b nb);bcount:=bcount + 1;acount:=0
    if nb==1 then return firstOfB out na nb
    if bcount≥minGallop then break
  rule "list.sort.gallop"
  minGallop:=minGallop + 1
  for _ in [0:total] do
   if minGallop > 1 then minGallop:=minGallop - 1
   setG minGallop
   let some at_ ←gal false (←elem' b (nb - 1)) a 0 na (na - 1) | return done out na nb
   let k:=na - at_
   acount:=k
   if k > 0 then
    out:=out++(a.extract at_ na).reverse;na:=at_
    if na==0 then return done out na nb
   nb:=nb - 1;out:=out.push (←elem' b nb)
   if nb==1 then return firstOfB out na nb
   let some at_ ←gal true (←elem' a (na - 1)) b 0 nb (nb - 1) | return done out na nb
   let k:=nb - at_
   bcount:=k
   if k > 0 then
    out:=out++(b.extract at_ nb).reverse;nb:=at_
    if nb==1 then return firstOfB out na nb
    if nb==0 then return done out na nb
   na:=na - 1;out:=out.push (←elem' a na)
   if na==0 then return done out na nb
   if acount < 7&&bcount < 7 then break
  minGallop:=minGallop + 1
  setG minGallop
 unsupported "internal:list.sort.merge-bound"):=rfl
noncomputable def Ml (r:Keyed→Nat) (a b out:List Keyed) (ia ib:Nat):Prop:=
 out.Perm (a.take ia++b.take ib)∧out.Pairwise (fun x y=>r x≤r y)∧∀ u∈out,∀ v,v∈a.drop ia∨v∈b.drop ib→r u≤r v
theorem Ml.swap {r:Keyed→Nat} {a b out:List Keyed} {ia ib:Nat} (h:Ml r a b out ia ib):Ml r b a out ib ia:=
 ⟨h.1.trans List.perm_append_comm,h.2.1,fun u hu v hv=>h.2.2 u hu v hv.symm⟩
theorem Ml.a {r:Keyed→Nat} {a b out:List Keyed} {ia ib:Nat} (h:Ml r a b out ia ib) (sa:a.Pairwise fun x y=>r x≤r y) (k:Nat) (hk:∀ u∈(a.drop ia).take k,∀ v∈b.drop ib,r u≤r v):
  Ml r a b (out++(a.drop ia).take k) (ia + k) ib:=by
 obtain ⟨h1,h2,h3⟩:=h
 have sd:(a.drop ia).Pairwise fun x y=>r x≤r y:=sa.sublist (List.drop_sublist _ _)
 have st:((a.drop ia).take k++(a.drop ia).drop k).Pairwise fun x y=>r x≤r y:=by rw [List.take_append_drop];exact sd
 rw [List.pairwise_append] at st
 refine ⟨?_,?_,?_⟩
 ·rw [List.take_add]
  refine (List.Perm.append_right _ h1).trans ?_
  rw [List.append_assoc,List.append_assoc]
  exact List.Perm.append_left _ List.perm_append_comm
 ·rw [List.pairwise_append]
  exact ⟨h2,st.1,fun u hu v hv=>h3 u hu v (.inl (List.mem_of_mem_take hv))⟩
 ·intro u hu v hv
  rw [←List.drop_drop] at hv
  rcases List.mem_append.mp hu with hu | hu
  ·exact h3 u hu v (hv.imp List.mem_of_mem_drop id)
  ·rcases hv with hv | hv
   ·exact st.2.2 u hu v hv
   ·exact hk u hu v hv
theorem Ml.b {r:Keyed→Nat} {a b out:List Keyed} {ia ib:Nat} (h:Ml r a b out ia ib) (sb:b.Pairwise fun x y=>r x≤r y) (k:Nat) (hk:∀ u∈(b.drop ib).take k,∀ v∈a.drop ia,r u≤r v):
  Ml r a b (out++(b.drop ib).take k) ia (ib + k):=(h.swap.a sb k hk).swap
noncomputable def Mrg (r:Keyed→Nat) (a b out:Array Keyed):Prop:=out.toList.Perm (a.toList++b.toList)∧out.toList.Pairwise fun x y=>r x≤r y
theorem Ml.all {r:Keyed→Nat} {a b out:List Keyed} {ia ib:Nat} (h:Ml r a b out ia ib) (h1:a.length≤ia) (h2:b.length≤ib):out.Perm (a++b)∧out.Pairwise fun x y=>r x≤r y:=by
 obtain ⟨p,q,_⟩:=h
 rw [List.take_of_length_le h1,List.take_of_length_le h2] at p
 exact ⟨p,q⟩
theorem ext_toList (a:Array Keyed) (i j:Nat):(a.extract i j).toList=(a.toList.drop i).take (j - i):=by simp [Array.toList_extract,List.extract_eq_take_drop]
theorem Ml.done {r:Keyed→Nat} {a b out:Array Keyed} {ia ib:Nat} (h:Ml r a.toList b.toList out.toList ia ib) (sa:a.toList.Pairwise fun x y=>r x≤r y) (sb:b.toList.Pairwise fun x y=>r x≤r y) (e:a.size≤ia∨b.size≤ib):
  Mrg r a b (out++a.extract ia a.size++b.extract ib b.size):=by
 have h1:=h.a sa (a.size - ia) fun u hu v hv=>by
  rcases e with e | e
  ·rw [List.drop_of_length_le (by simpa using e)] at hu;simp at hu
  ·rw [List.drop_of_length_le (by simpa using e)] at hv;simp at hv
 have h2:=h1.b sb (b.size - ib) fun u hu v hv=>by
  rw [List.drop_of_length_le (by simp;omega)] at hv;simp at hv
 have:=h2.all (by simp;omega) (by simp;omega)
 unfold Mrg
 rw [Array.toList_append,Array.toList_append,ext_toList,ext_toList]
 exact this
theorem Ml.last {r:Keyed→Nat} {a b out:Array Keyed} {ia ib:Nat} (h:Ml r a.toList b.toList out.toList ia ib) (sa:a.toList.Pairwise fun x y=>r x≤r y) (sb:b.toList.Pairwise fun x y=>r x≤r y)
  (e:∀ u∈b.toList,∀ v∈a.toList.drop ia,r u≤r v):Mrg r a b (out++b.extract ib b.size++a.extract ia a.size):=by
 have h1:=h.b sb (b.size - ib) fun u hu v hv=>e u (List.mem_of_mem_drop (List.mem_of_mem_take hu)) v hv
 have h2:=h1.a sa (a.size - ia) fun u hu v hv=>by
  rw [List.drop_of_length_le (by simp;omega)] at hv;simp at hv
 have:=h2.all (by simp;omega) (by simp;omega)
 unfold Mrg
 rw [Array.toList_append,Array.toList_append,ext_toList,ext_toList]
 exact this
noncomputable def it (a:Array Keyed) (i:Nat):Keyed:=a.getD i (Value.none,Value.none)
theorem it_get {a:Array Keyed} {i:Nat} (h:i < a.size):a[i]? =some (it a i):=by
 unfold it;rw [getElem?_pos a i h];simp [Array.getD,h]
theorem it_eq {a:Array Keyed} {i:Nat} (h:i < a.size):it a i=a[i]:=by unfold it;simp [Array.getD,h]
theorem it_mem {a:Array Keyed} {i:Nat} (h:i < a.size):it a i∈a.toList:=by rw [it_eq h];simp
noncomputable def Srt (r:Keyed→Nat) (a:Array Keyed):Prop:=∀ i j,i≤j→j < a.size→r (it a i)≤r (it a j)
theorem Srt.pw {r:Keyed→Nat} {a:Array Keyed} (h:Srt r a):a.toList.Pairwise fun x y=>r x≤r y:=by
 rw [List.pairwise_iff_getElem]
 intro i j hi hj hij
 have:=h i j (by omega) (by simpa using hj)
 rw [it_eq (by simpa using hi),it_eq (by simpa using hj)] at this
 simpa using this
theorem Srt.of {r:Keyed→Nat} {a:Array Keyed} (h:a.toList.Pairwise fun x y=>r x≤r y):Srt r a:=by
 intro i j hij hj
 rw [it_eq hj,it_eq (by omega:i < a.size)]
 by_cases e:i=j
 ·subst e;exact Nat.le_refl _
 ·rw [List.pairwise_iff_getElem] at h
  have:=h i j (by simp;omega) (by simpa using hj) (by omega)
  simpa using this
theorem mem_dr {a:Array Keyed} {i:Nat} {v:Keyed} (h:v∈a.toList.drop i):∃ j,i≤j∧j < a.size∧v=it a j:=by
 obtain ⟨k,hk,e⟩:=List.mem_iff_getElem.mp h
 rw [List.length_drop,Array.length_toList] at hk
 refine ⟨i + k,by omega,by omega,?_⟩
 rw [it_eq (by omega),←e]
 simp
theorem mem_tk {a:Array Keyed} {i k:Nat} {v:Keyed} (h:v∈(a.toList.drop i).take k):∃ j,i≤j∧j < i + k∧j < a.size∧v=it a j:=by
 obtain ⟨m,hm,e⟩:=List.mem_iff_getElem.mp h
 rw [List.length_take,List.length_drop,Array.length_toList] at hm
 refine ⟨i + m,by omega,by omega,by omega,?_⟩
 rw [it_eq (by omega),←e]
 simp
noncomputable abbrev MA (r:Keyed→Nat) (a b out:Array Keyed) (ia ib:Nat):Prop:=Ml r a.toList b.toList out.toList ia ib
section
variable {r:Keyed→Nat} {a b out:Array Keyed} {ia ib:Nat}
theorem MA.ext (h:MA r a b out ia ib) (sa:Srt r a) (k:Nat) (hk:∀ j,ia≤j→j < ia + k→j < a.size→∀ i,ib≤i→i < b.size→r (it a j)≤r (it b i)):MA r a b (out++a.extract ia (ia + k)) (ia + k) ib:=by
 have:=Ml.a h sa.pw k fun u hu v hv=>by
  obtain ⟨j,h1,h2,h3,rfl⟩:=mem_tk hu
  obtain ⟨i,h4,h5,rfl⟩:=mem_dr hv
  exact hk j h1 h2 h3 i h4 h5
 unfold MA
 rw [Array.toList_append,ext_toList,show ia + k - ia=k by omega]
 exact this
theorem MA.exb (h:MA r a b out ia ib) (sb:Srt r b) (k:Nat) (hk:∀ j,ib≤j→j < ib + k→j < b.size→∀ i,ia≤i→i < a.size→r (it b j)≤r (it a i)):MA r a b (out++b.extract ib (ib + k)) ia (ib + k):=
 Ml.swap (MA.ext (Ml.swap h) sb k hk)
theorem push_ext {a out:Array Keyed} {i:Nat} (h:i < a.size):out.push (it a i)=out++a.extract i (i + 1):=by
 apply Array.toList_inj.mp
 rw [Array.toList_append,ext_toList,Array.toList_push,it_eq h]
 congr 1
 rw [show i + 1 - i=1 by omega,List.take_one]
 simp [List.head?_drop,h]
theorem MA.pa (h:MA r a b out ia ib) (sa:Srt r a) (hi:ia < a.size) (hk:∀ i,ib≤i→i < b.size→r (it a ia)≤r (it b i)):MA r a b (out.push (it a ia)) (ia + 1) ib:=by
 rw [push_ext hi]
 exact h.ext sa 1 fun j h1 h2 h3 i h4 h5=>by
  obtain rfl:j=ia:=by omega
  exact hk i h4 h5
theorem MA.pb (h:MA r a b out ia ib) (sb:Srt r b) (hi:ib < b.size) (hk:∀ i,ia≤i→i < a.size→r (it b ib)≤r (it a i)):MA r a b (out.push (it b ib)) ia (ib + 1):=
 Ml.swap (MA.pa (Ml.swap h) sb hi hk)
theorem MA.lst (h:MA r a b out ia ib) (sa:Srt r a) (sb:Srt r b) (e:ia + 1=a.size) (hl:∀ i,i < b.size→r (it b i)≤r (it a (a.size - 1))):Mrg r a b (out++b.extract ib b.size++a.extract ia a.size):=
 Ml.last h sa.pw sb.pw fun u hu v hv=>by
  obtain ⟨i,h4,h5,rfl⟩:=mem_dr hv
  obtain ⟨j,h1,h2,rfl⟩:=mem_dr (i:=0) (a:=b) (by simpa using hu)
  obtain rfl:i=a.size - 1:=by omega
  exact hl j h2
end
noncomputable abbrev LoC:=Option (Array Keyed)×Array Keyed×Nat×Nat×Nat×Nat×Nat
noncomputable def lo3 (a b out:Array Keyed) (ia ib mg ac k:Nat):StateT SortSt Sem (ForInStep LoC):=do
 let x ←elem' a ia
 if ia + 1 + 1==a.size then pure (.done (some (out.push x++b.extract ib b.size++a.extract (ia + 1) a.size),out.push x,ia + 1,ib,mg,ac,k))
 else if decide (ac < 7)&&decide (k < 7) then pure (.done (none,out.push x,ia + 1,ib,mg,ac,k))
 else pure (.yield (none,out.push x,ia + 1,ib,mg,ac,k))
noncomputable def lo2 (a b out:Array Keyed) (ia ib mg ac bc:Nat):StateT SortSt Sem (ForInStep LoC):=do
 let x ←elem' b ib
 if ib + 1==b.size then pure (.done (some (out.push x++a.extract ia a.size++b.extract (ib + 1) b.size),out.push x,ia,ib + 1,mg,ac,bc))
 else do
  let y ←elem' a ia
  match ←gal true y b (ib + 1) (b.size - (ib + 1)) 0 with
  | some k=>
   if k > 0 then
    if ib + 1 + k==b.size then pure (.done (some (out.push x++b.extract (ib + 1) (ib + 1 + k)++a.extract ia a.size++b.extract (ib + 1 + k) b.size),out.push x++b.extract (ib + 1) (ib + 1 + k),ia,ib + 1 + k,mg,ac,k))
    else lo3 a b (out.push x++b.extract (ib + 1) (ib + 1 + k)) ia (ib + 1 + k) mg ac k
   else lo3 a b (out.push x) ia (ib + 1) mg ac k
  | _=>pure (.done (some (out.push x++a.extract ia a.size++b.extract (ib + 1) b.size),out.push x,ia,ib + 1,mg,ac,bc))
noncomputable def lo1 (a b out:Array Keyed) (ia ib mg ac bc:Nat):StateT SortSt Sem (ForInStep LoC):=do
 setG mg
 let y ←elem' b ib
 match ←gal false y a ia (a.size - ia) 0 with
 | some k=>
  if k > 0 then
   if ia + k + 1==a.size then pure (.done (some (out++a.extract ia (ia + k)++b.extract ib b.size++a.extract (ia + k) a.size),out++a.extract ia (ia + k),ia + k,ib,mg,k,bc))
   else if ia + k==a.size then pure (.done (some (out++a.extract ia (ia + k)++a.extract (ia + k) a.size++b.extract ib b.size),out++a.extract ia (ia + k),ia + k,ib,mg,k,bc))
   else lo2 a b (out++a.extract ia (ia + k)) (ia + k) ib mg k bc
  else lo2 a b out ia ib mg k bc
 | _=>pure (.done (some (out++a.extract ia a.size++b.extract ib b.size),out,ia,ib,mg,ac,bc))
noncomputable def Stp (r:Keyed→Nat) (a b:Array Keyed) (x:Nat) (o:Option (Array Keyed)) (out:Array Keyed) (ia ib:Nat):Prop:=
 match o with
 | some res=>Mrg r a b res
 | none=>MA r a b out ia ib∧ia + 1 < a.size∧ib < b.size∧x≤ia + ib
noncomputable def StQ (r:Keyed→Nat) (a b:Array Keyed) (x:Nat) (st:SortSt) (c:ForInStep LoC) (st':SortSt):Prop:=
 (∃ g,st'=sg st g)∧match c with
 | .done (o,out,ia,ib,_)=>Stp r a b x o out ia ib
 | .yield (o,out,ia,ib,_)=>o=none∧Stp r a b x o out ia ib
section
variable {prog:Program} {w:World} {A:Around} {E:Value→Shared→Prop} {s:Shared} {κ:SortKind} {r:Keyed→Nat} {S:Keyed→Prop} {a b out:Array Keyed} {ia ib:Nat} {st:SortSt}
theorem wpS_setG {g:Nat} {Q:Unit→SortSt→Prop} (h:Q () (sg st g)):wpS (model prog w) A E s (setG g) Q st:=wpS_modify h
theorem wpS_lo3 (sa:Srt r a) (sb:Srt r b) (hl:∀ i,i < b.size→r (it b i)≤r (it a (a.size - 1))) {x mg ac k g:Nat} (M:MA r a b out ia ib) (h1:ia + 1 < a.size) (h2:ib < b.size) (h3:x≤ia + ib)
  (hk:∀ i,ib≤i→i < b.size→r (it a ia)≤r (it b i)):wpS (model prog w) A E s (lo3 a b out ia ib mg ac k) (StQ r a b x st) (sg st g):=by
 unfold lo3
 refine wpS_bind (wpS_elem (it_get (by omega:ia < a.size)) ?_)
 have M':=M.pa sa (by omega) hk
 by_cases e1:ia + 1 + 1=a.size
 ·rw [if_pos (by simpa using e1)]
  exact wpS_pure ⟨⟨g,rfl⟩,M'.lst sa sb e1 hl⟩
 ·rw [if_neg (by simpa using e1)]
  split
  ·exact wpS_pure ⟨⟨g,rfl⟩,M',by omega,h2,by omega⟩
  ·exact wpS_pure ⟨⟨g,rfl⟩,rfl,M',by omega,h2,by omega⟩
theorem wpS_lo2 (C:Cmp prog w A s κ r S) (hkd:kindOf st=κ) (hS:∀ x,x∈a.toList∨x∈b.toList→S x) (sa:Srt r a) (sb:Srt r b) (hl:∀ i,i < b.size→r (it b i)≤r (it a (a.size - 1))) {x mg ac bc g:Nat} (M:MA r a b out ia ib) (h1:ia + 1 < a.size) (h2:ib < b.size) (h3:x≤ia + ib)
  (hk:∀ i,ia≤i→i < a.size→r (it b ib)≤r (it a i)):wpS (model prog w) A E s (lo2 a b out ia ib mg ac bc) (StQ r a b x st) (sg st g):=by
 unfold lo2
 refine wpS_bind (wpS_elem (it_get h2) ?_)
 have M':=M.pb sb h2 hk
 by_cases e1:ib + 1=b.size
 ·rw [if_pos (by simpa using e1)]
  exact wpS_pure ⟨⟨g,rfl⟩,Ml.done M' sa.pw sb.pw (.inr (by omega))⟩
 ·rw [if_neg (by simpa using e1)]
  refine wpS_bind (wpS_elem (it_get (by omega:ia < a.size)) ?_)
  refine wpS_bind (wpS_gal C hkd (hS _ (.inl (it_mem (by omega)))) (fun i=>it b (ib + 1 + i)) (fun i hi=>⟨it_get (by omega),hS _ (.inr (it_mem (by omega)))⟩) (fun i j hij hj=>sb _ _ (by omega) (by omega)) (by omega) fun k k1 k2 k3=>?_)
  dsimp only
  have c2:∀ i,i < k→r (it b (ib + 1 + i)) < r (it a ia):=fun i hi=>by have:=k2 i hi;unfold bef at this;simpa using this
  have c3:∀ i,k≤i→i < b.size - (ib + 1)→r (it a ia)≤r (it b (ib + 1 + i)):=fun i hi hj=>by have:=k3 i hi hj;unfold bef at this;simpa using this
  have cb:∀ i,ib + 1 + k≤i→i < b.size→r (it a ia)≤r (it b i):=fun i h5 h6=>by
   have:=c3 (i - (ib + 1)) (by omega) (by omega)
   rwa [show ib + 1 + (i - (ib + 1))=i by omega] at this
  by_cases k0:k > 0
  ·rw [if_pos k0]
   have M2:=M'.exb sb k fun j h5 h6 h7 i h8 h9=>by
    have:=c2 (j - (ib + 1)) (by omega)
    rw [show ib + 1 + (j - (ib + 1))=j by omega] at this
    have:=sa ia i h8 h9
    omega
   by_cases e2:ib + 1 + k=b.size
   ·rw [if_pos (by simpa using e2)]
    exact wpS_pure ⟨⟨g,rfl⟩,Ml.done M2 sa.pw sb.pw (.inr (by omega))⟩
   ·rw [if_neg (by simpa using e2)]
    exact wpS_lo3 sa sb hl M2 h1 (by omega) (by omega) cb
  ·rw [if_neg k0]
   obtain rfl:k=0:=by omega
   exact wpS_lo3 sa sb hl M' h1 (by omega) (by omega) (by simpa using cb)
theorem wpS_lo1 (C:Cmp prog w A s κ r S) (hkd:kindOf st=κ) (hS:∀ x,x∈a.toList∨x∈b.toList→S x) (sa:Srt r a) (sb:Srt r b) (hl:∀ i,i < b.size→r (it b i)≤r (it a (a.size - 1))) {x mg ac bc g:Nat} (M:MA r a b out ia ib) (h1:ia + 1 < a.size) (h2:ib < b.size) (h3:x≤ia + ib):
  wpS (model prog w) A E s (lo1 a b out ia ib mg ac bc) (StQ r a b x st) (sg st g):=by
 unfold lo1
 refine wpS_bind (wpS_setG ?_)
 refine wpS_bind (wpS_elem (it_get h2) ?_)
 refine wpS_bind (wpS_gal C hkd (hS _ (.inr (it_mem h2))) (fun i=>it a (ia + i)) (fun i hi=>⟨it_get (by omega),hS _ (.inl (it_mem (by omega)))⟩) (fun i j hij hj=>sa _ _ (by omega) (by omega)) (by omega) fun k k1 k2 k3=>?_)
 dsimp only
 have c2:∀ i,i < k→r (it a (ia + i))≤r (it b ib):=fun i hi=>by have:=k2 i hi;unfold bef at this;simpa using this
 have c3:∀ i,k≤i→i < a.size - ia→r (it b ib) < r (it a (ia + i)):=fun i hi hj=>by have:=k3 i hi hj;unfold bef at this;simpa using this
 have cb:∀ i,ia + k≤i→i < a.size→r (it b ib)≤r (it a i):=fun i h5 h6=>by
  have:=c3 (i - ia) (by omega) (by omega)
  rw [show ia + (i - ia)=i by omega] at this
  omega
 by_cases k0:k > 0
 ·rw [if_pos k0]
  have M2:=M.ext sa k fun j h5 h6 h7 i h8 h9=>by
   have:=c2 (j - ia) (by omega)
   rw [show ia + (j - ia)=j by omega] at this
   have:=sb ib i h8 h9
   omega
  by_cases e2:ia + k + 1=a.size
  ·rw [if_pos (by simpa using e2)]
   exact wpS_pure ⟨⟨mg,rfl⟩,M2.lst sa sb e2 hl⟩
  ·rw [if_neg (by simpa using e2)]
   by_cases e3:ia + k=a.size
   ·rw [if_pos (by simpa using e3)]
    exact wpS_pure ⟨⟨mg,rfl⟩,Ml.done M2 sa.pw sb.pw (.inl (by omega))⟩
   ·rw [if_neg (by simpa using e3)]
    exact wpS_lo2 C hkd hS sa sb hl M2 (by omega) h2 (by omega) cb
 ·rw [if_neg k0]
  obtain rfl:k=0:=by omega
  exact wpS_lo2 C hkd hS sa sb hl M h1 h2 h3 (by simpa using cb)
theorem wpS_mLo (C:Cmp prog w A s κ r S) {Q:Array Keyed→SortSt→Prop} (hkd:kindOf st=κ) (hS:∀ x,x∈a.toList∨x∈b.toList→S x)
  (sa:Srt r a) (sb:Srt r b) (ha:0 < a.size) (hb:0 < b.size) (h0:r (it b 0)≤r (it a 0)) (hl:∀ i,i < b.size→r (it b i)≤r (it a (a.size - 1)))
  (h:∀ out g,Mrg r a b out→Q out (sg st g)):wpS (model prog w) A E s (mLo a b) Q st:=by
 rw [mLo_eq]
 refine wpS_bind (wpS_lift (wpAny_rule ⟨rfl,?_⟩))
 refine wpS_bind (wpS_elem (it_get hb) ?_)
 have M0:MA r a b #[] 0 0:=⟨by simp,.nil,fun u hu=>by simp at hu⟩
 have M1:MA r a b #[it b 0] 0 1:=by
  have:=M0.pb sb hb fun i _ hi=>Nat.le_trans h0 (sa 0 i (by omega) hi)
  simpa using this
 dsimp only
 by_cases e1:1=b.size
 ·rw [if_pos (by simpa using e1)]
  exact wpS_pure (h _ (gallopOf st) (Ml.done M1 sa.pw sb.pw (.inr (by omega))))
 rw [if_neg (by simpa using e1)]
 by_cases e2:0 + 1=a.size
 ·rw [if_pos (by simpa using e2)]
  exact wpS_pure (h _ (gallopOf st) (M1.lst sa sb e2 hl))
 rw [if_neg (by simpa using e2)]
 refine wpS_bind (wpS_get ?_)
 refine wpS_bind (wpS_mono (wpS_forRange (I:=fun x c st'=>(∃ g,st'=sg st g)∧∃ out ia ib mg,c=(none,out,ia,ib,mg)∧Stp r a b (1 + x) none out ia ib)
  (Q:=fun c st'=>(∃ g,st'=sg st g)∧∃ res out ia ib mg,c=(some res,out,ia,ib,mg)∧Mrg r a b res) ?step ?fin ⟨⟨gallopOf st,rfl⟩,_,_,_,_,rfl,M1,by omega,by omega,by omega⟩) ?post)
 case fin=>
  rintro c st' ⟨hg,out,ia,ib,mg,rfl,M,q1,q2,q3⟩
  omega
 case post=>
  rintro c st' ⟨⟨g,rfl⟩,res,out,ia,ib,mg,rfl,M⟩
  exact wpS_pure (h _ g M)
 case step=>
  rintro x c st' _ hx ⟨⟨g,rfl⟩,out,ia,ib,mg,rfl,M,q1,q2,q3⟩
  dsimp only
  refine wpS_bind (wpS_mono (wpS_forRange (I:=fun y c st'=>st'=sg st g∧∃ out ia ib ac bc,c=(none,out,ia,ib,ac,bc)∧Stp r a b (1 + x + min y 1) none out ia ib)
   (Q:=fun c st'=>st'=sg st g∧∃ o out ia ib ac bc,c=(o,out,ia,ib,ac,bc)∧Stp r a b (1 + (x + 1)) o out ia ib) ?step1 ?fin1 ⟨rfl,_,_,_,_,_,rfl,M,q1,q2,by omega⟩) ?post1)
  case fin1=>
   rintro c st' ⟨rfl,out,ia,ib,ac,bc,rfl,M,q1,q2,q3⟩
   exact ⟨rfl,_,_,_,_,_,_,rfl,M,q1,q2,by omega⟩
  case step1=>
   rintro y c st' _ hy ⟨rfl,out,ia,ib,ac,bc,rfl,M,q1,q2,q3⟩
   dsimp only
   refine wpS_bind (wpS_elem (it_get q2) ?_)
   refine wpS_bind (wpS_elem (it_get (by omega:ia < a.size)) ?_)
   refine wpS_bind (wpS_lt C hkd (hS _ (.inr (it_mem q2))) (hS _ (.inl (it_mem (by omega)))) ?_)
   dsimp only
   by_cases lt:r (it b ib) < r (it a ia)
   ·rw [if_pos (by simpa using lt)]
    refine wpS_bind (wpS_elem (it_get q2) ?_)
    have M2:=M.pb sb q2 fun i h1 h2=>by have:=sa ia i h1 h2;omega
    by_cases e3:ib + 1=b.size
    ·rw [if_pos (by simpa using e3)]
     exact wpS_pure ⟨rfl,_,_,_,_,_,_,rfl,Ml.done M2 sa.pw sb.pw (.inr (by omega))⟩
    ·rw [if_neg (by simpa using e3)]
     split
     ·exact wpS_pure ⟨rfl,_,_,_,_,_,_,rfl,M2,q1,by omega,by omega⟩
     ·exact wpS_pure ⟨rfl,_,_,_,_,_,rfl,M2,q1,by omega,by omega⟩
   ·rw [if_neg (by simpa using lt)]
    refine wpS_bind (wpS_elem (it_get (by omega:ia < a.size)) ?_)
    have M2:=M.pa sa (by omega) fun i h1 h2=>by have:=sb ib i h1 h2;omega
    by_cases e3:ia + 1 + 1=a.size
    ·rw [if_pos (by simpa using e3)]
     exact wpS_pure ⟨rfl,_,_,_,_,_,_,rfl,M2.lst sa sb e3 hl⟩
    ·rw [if_neg (by simpa using e3)]
     split
     ·exact wpS_pure ⟨rfl,_,_,_,_,_,_,rfl,M2,by omega,by omega,by omega⟩
     ·exact wpS_pure ⟨rfl,_,_,_,_,_,rfl,M2,by omega,by omega,by omega⟩
  case post1=>
   rintro c st' ⟨rfl,o,out,ia,ib,ac,bc,rfl,M⟩
   cases o with
   | some res=>
    dsimp only
    exact wpS_pure ⟨⟨g,rfl⟩,_,_,_,_,_,rfl,M⟩
   | none=>
    obtain ⟨M,q1,q2,q3⟩:=M
    dsimp only
    refine wpS_bind (wpS_lift (wpAny_rule ⟨rfl,?_⟩))
    refine wpS_bind (wpS_mono (wpS_forRange (I:=fun y c st'=>(∃ g,st'=sg st g)∧∃ out ia ib mg ac bc,c=(none,out,ia,ib,mg,ac,bc)∧Stp r a b (1 + (x + 1)) none out ia ib)
     (Q:=fun c st'=>(∃ g,st'=sg st g)∧∃ o out ia ib mg ac bc,c=(o,out,ia,ib,mg,ac,bc)∧Stp r a b (1 + (x + 1)) o out ia ib) ?step2 ?fin2 ⟨⟨g,rfl⟩,_,_,_,_,_,_,rfl,M,q1,q2,by omega⟩) ?post2)
    case fin2=>
     rintro c st' ⟨hg,out,ia,ib,mg,ac,bc,rfl,M⟩
     exact ⟨hg,_,_,_,_,_,_,_,rfl,M⟩
    case step2=>
     rintro y c st' _ hy ⟨⟨g,rfl⟩,out,ia,ib,mg,ac,bc,rfl,M,q1,q2,q3⟩
     refine wpS_mono (Q:=StQ r a b (1 + (x + 1)) st) ?code fun c st' hc=>?_
     case code=>
      dsimp only
      by_cases m1:mg > 1
      ·rw [if_pos m1]
       exact wpS_lo1 (mg:=mg - 1) (ac:=ac) (bc:=bc) C hkd hS sa sb hl M q1 q2 q3
      ·rw [if_neg m1]
       exact wpS_lo1 (mg:=mg) (ac:=ac) (bc:=bc) C hkd hS sa sb hl M q1 q2 q3
     ·obtain ⟨hg,hc⟩:=hc
      match c,hc with
      | .done (o,out,ia,ib,mg,ac,bc),hc=>exact ⟨hg,_,_,_,_,_,_,_,rfl,hc⟩
      | .yield (o,out,ia,ib,mg,ac,bc),⟨h1,hc⟩=>
       subst h1
       exact ⟨hg,_,_,_,_,_,_,rfl,hc⟩
    case post2=>
     rintro c st' ⟨⟨g',rfl⟩,o,out,ia,ib,mg',ac,bc,rfl,M⟩
     cases o with
     | some res=>
      dsimp only
      exact wpS_pure ⟨⟨g',rfl⟩,_,_,_,_,_,rfl,M⟩
     | none=>
      dsimp only
      refine wpS_bind (wpS_setG ?_)
      exact wpS_pure ⟨⟨_,rfl⟩,_,_,_,_,rfl,M⟩
end
end TS
namespace TS
open PySem PySem.Spec PyProof.Rows
noncomputable def Mr (r:Keyed→Nat) (a b o:List Keyed) (na nb:Nat):Prop:=
 o.Perm (a.drop na++b.drop nb)∧o.Pairwise (fun x y=>r x≤r y)∧∀ u∈o,∀ v,v∈a.take na∨v∈b.take nb→r v≤r u
theorem Mr.swap {r:Keyed→Nat} {a b o:List Keyed} {na nb:Nat} (h:Mr r a b o na nb):Mr r b a o nb na:=
 ⟨h.1.trans List.perm_append_comm,h.2.1,fun u hu v hv=>h.2.2 u hu v hv.symm⟩
theorem Mr.a {r:Keyed→Nat} {a b o:List Keyed} {na nb:Nat} (h:Mr r a b o na nb) (sa:a.Pairwise fun x y=>r x≤r y) (k:Nat) (hkn:k≤na) (hk:∀ u∈(a.take na).drop k,∀ v∈b.take nb,r v≤r u):
  Mr r a b ((a.take na).drop k++o) k nb:=by
 obtain ⟨h1,h2,h3⟩:=h
 have sd:(a.take na).Pairwise fun x y=>r x≤r y:=sa.sublist (List.take_sublist _ _)
 have st:((a.take na).take k++(a.take na).drop k).Pairwise fun x y=>r x≤r y:=by rw [List.take_append_drop];exact sd
 rw [List.pairwise_append] at st
 have ek:(a.take na).take k=a.take k:=by rw [List.take_take,Nat.min_eq_left hkn]
 have ed:a.drop k=(a.take na).drop k++a.drop na:=by
  conv=>lhs;rw [←List.take_append_drop na a]
  rw [List.drop_append]
  congr 1
  by_cases q:na≤a.length
  ·rw [List.length_take,Nat.min_eq_left q,show k - na=0 by omega,List.drop_zero]
  ·rw [List.drop_of_length_le (by omega:a.length≤na),List.drop_nil]
 refine ⟨?_,?_,?_⟩
 ·rw [ed,List.append_assoc]
  exact List.Perm.append_left _ h1
 ·rw [List.pairwise_append]
  exact ⟨st.2.1,h2,fun u hu v hv=>h3 v hv u (.inl (List.mem_of_mem_drop hu))⟩
 ·intro u hu v hv
  rcases List.mem_append.mp hu with hu | hu
  ·rcases hv with hv | hv
   ·rw [←ek] at hv
    exact st.2.2 v hv u hu
   ·exact hk u hu v hv
  ·refine h3 u hu v (hv.imp (fun hv=>?_) id)
   rw [←ek] at hv
   exact List.mem_of_mem_take hv
theorem Mr.b {r:Keyed→Nat} {a b o:List Keyed} {na nb:Nat} (h:Mr r a b o na nb) (sb:b.Pairwise fun x y=>r x≤r y) (k:Nat) (hkn:k≤nb) (hk:∀ u∈(b.take nb).drop k,∀ v∈a.take na,r v≤r u):
  Mr r a b ((b.take nb).drop k++o) na k:=(h.swap.a sb k hkn hk).swap
noncomputable abbrev MB (r:Keyed→Nat) (a b out:Array Keyed) (na nb:Nat):Prop:=Mr r a.toList b.toList out.toList.reverse na nb
theorem mem_tk0 {a:Array Keyed} {n:Nat} {v:Keyed} (h:v∈a.toList.take n):∃ j,j < n∧j < a.size∧v=it a j:=by
 obtain ⟨j,_,h2,h3,e⟩:=mem_tk (i:=0) (k:=n) (a:=a) (by simpa using h)
 exact ⟨j,by omega,h3,e⟩
theorem mem_td {a:Array Keyed} {n k:Nat} {v:Keyed} (h:v∈(a.toList.take n).drop k):∃ j,k≤j∧j < n∧j < a.size∧v=it a j:=by
 rw [List.drop_take] at h
 obtain ⟨j,h1,h2,h3,e⟩:=mem_tk h
 exact ⟨j,h1,by omega,h3,e⟩
section
variable {r:Keyed→Nat} {a b out:Array Keyed} {na nb:Nat}
theorem MB.ext (h:MB r a b out na nb) (sa:Srt r a) (k:Nat) (hkn:k≤na) (hk:∀ j,k≤j→j < na→j < a.size→∀ i,i < nb→i < b.size→r (it b i)≤r (it a j)):MB r a b (out++(a.extract k na).reverse) k nb:=by
 have:=Mr.a h sa.pw k hkn fun u hu v hv=>by
  obtain ⟨j,h1,h2,h3,rfl⟩:=mem_td hu
  obtain ⟨i,h4,h5,rfl⟩:=mem_tk0 hv
  exact hk j h1 h2 h3 i h4 h5
 unfold MB
 rw [Array.toList_append,List.reverse_append,Array.toList_reverse,List.reverse_reverse,ext_toList,←List.drop_take]
 exact this
theorem MB.exb (h:MB r a b out na nb) (sb:Srt r b) (k:Nat) (hkn:k≤nb) (hk:∀ j,k≤j→j < nb→j < b.size→∀ i,i < na→i < a.size→r (it a i)≤r (it b j)):MB r a b (out++(b.extract k nb).reverse) na k:=
 Mr.swap (MB.ext (Mr.swap h) sb k hkn hk)
theorem push_rev {a out:Array Keyed} {i:Nat} (h:i < a.size):out.push (it a i)=out++(a.extract i (i + 1)).reverse:=by
 rw [push_ext h]
 congr 1
 apply Array.toList_inj.mp
 rw [Array.toList_reverse,ext_toList,show i + 1 - i=1 by omega]
 cases q:a.toList.drop i with
 | nil=>rfl
 | cons x l=>rfl
theorem MB.pa (h:MB r a b out na nb) (sa:Srt r a) (hp:0 < na) (hi:na - 1 < a.size) (hk:∀ i,i < nb→i < b.size→r (it b i)≤r (it a (na - 1))):MB r a b (out.push (it a (na - 1))) (na - 1) nb:=by
 rw [push_rev hi,show na - 1 + 1=na by omega]
 exact h.ext sa (na - 1) (by omega) fun j h1 h2 h3 i h4 h5=>by
  obtain rfl:j=na - 1:=by omega
  exact hk i h4 h5
theorem MB.pb (h:MB r a b out na nb) (sb:Srt r b) (hp:0 < nb) (hi:nb - 1 < b.size) (hk:∀ i,i < na→i < a.size→r (it a i)≤r (it b (nb - 1))):MB r a b (out.push (it b (nb - 1))) na (nb - 1):=
 Mr.swap (MB.pa (Mr.swap h) sb hp hi hk)
theorem Mr.all {a b o:List Keyed} (h:Mr r a b o 0 0):o.Perm (a++b)∧o.Pairwise fun x y=>r x≤r y:=by
 obtain ⟨p,q,_⟩:=h
 exact ⟨by simpa using p,q⟩
theorem MB.done (h:MB r a b out na nb) (sa:Srt r a) (sb:Srt r b) (e:na=0∨nb=0):Mrg r a b (a.extract 0 na++b.extract 0 nb++out.reverse):=by
 have h1:=h.exb sb 0 (Nat.zero_le _) fun j _ h2 _ i h4 h5=>by omega
 have h2:=h1.ext sa 0 (Nat.zero_le _) fun j _ h2 _ i h4 h5=>by omega
 have:=h2.all
 unfold Mrg
 simpa using this
theorem MB.fst (h:MB r a b out na nb) (sa:Srt r a) (sb:Srt r b) (hn:nb=1) (h0:r (it b 0)≤r (it a 0)):Mrg r a b (b.extract 0 nb++a.extract 0 na++out.reverse):=by
 have h1:=h.ext sa 0 (Nat.zero_le _) fun j _ h2 h3 i h4 h5=>by
  obtain rfl:i=0:=by omega
  have:=sa 0 j (by omega) h3
  omega
 have h2:=h1.exb sb 0 (Nat.zero_le _) fun j _ h2 _ i h4 h5=>by omega
 have:=h2.all
 unfold Mrg
 simpa using this
end
noncomputable abbrev HiC:=Option (Array Keyed)×Nat×Nat×Array Keyed×Nat×Nat×Nat
noncomputable def hi3 (a b out:Array Keyed) (na nb mg ac k:Nat):StateT SortSt Sem (ForInStep HiC):=do
 let x ←elem' a (na - 1)
 if na - 1==0 then pure (.done (some (a.extract 0 (na - 1)++b.extract 0 nb++(out.push x).reverse),na - 1,nb,out.push x,mg,ac,k))
 else if decide (ac < 7)&&decide (k < 7) then pure (.done (none,na - 1,nb,out.push x,mg,ac,k))
 else pure (.yield (none,na - 1,nb,out.push x,mg,ac,k))
noncomputable def hi2 (a b out:Array Keyed) (na nb mg ac bc:Nat):StateT SortSt Sem (ForInStep HiC):=do
 let x ←elem' b (nb - 1)
 if nb - 1==1 then pure (.done (some (b.extract 0 (nb - 1)++a.extract 0 na++(out.push x).reverse),na,nb - 1,out.push x,mg,ac,bc))
 else do
  let y ←elem' a (na - 1)
  match ←gal true y b 0 (nb - 1) (nb - 1 - 1) with
  | some k=>
   if nb - 1 - k > 0 then
    if k==1 then pure (.done (some (b.extract 0 k++a.extract 0 na++(out.push x++(b.extract k (nb - 1)).reverse).reverse),na,k,out.push x++(b.extract k (nb - 1)).reverse,mg,ac,nb - 1 - k))
    else if k==0 then pure (.done (some (a.extract 0 na++b.extract 0 k++(out.push x++(b.extract k (nb - 1)).reverse).reverse),na,k,out.push x++(b.extract k (nb - 1)).reverse,mg,ac,nb - 1 - k))
    else hi3 a b (out.push x++(b.extract k (nb - 1)).reverse) na k mg ac (nb - 1 - k)
   else hi3 a b (out.push x) na (nb - 1) mg ac (nb - 1 - k)
  | _=>pure (.done (some (a.extract 0 na++b.extract 0 (nb - 1)++(out.push x).reverse),na,nb - 1,out.push x,mg,ac,bc))
noncomputable def hi1 (a b out:Array Keyed) (na nb mg ac bc:Nat):StateT SortSt Sem (ForInStep HiC):=do
 setG mg
 let y ←elem' b (nb - 1)
 match ←gal false y a 0 na (na - 1) with
 | some k=>
  if na - k > 0 then
   if k==0 then pure (.done (some (a.extract 0 k++b.extract 0 nb++(out++(a.extract k na).reverse).reverse),k,nb,out++(a.extract k na).reverse,mg,na - k,bc))
   else hi2 a b (out++(a.extract k na).reverse) k nb mg (na - k) bc
  else hi2 a b out na nb mg (na - k) bc
 | _=>pure (.done (some (a.extract 0 na++b.extract 0 nb++out.reverse),na,nb,out,mg,ac,bc))
noncomputable def Htp (r:Keyed→Nat) (a b:Array Keyed) (x:Nat) (o:Option (Array Keyed)) (out:Array Keyed) (na nb:Nat):Prop:=
 match o with
 | some res=>Mrg r a b res
 | none=>MB r a b out na nb∧0 < na∧na≤a.size∧1 < nb∧nb≤b.size∧na + nb + x≤a.size + b.size
noncomputable def HtQ (r:Keyed→Nat) (a b:Array Keyed) (x:Nat) (st:SortSt) (c:ForInStep HiC) (st':SortSt):Prop:=
 (∃ g,st'=sg st g)∧match c with
 | .done (o,na,nb,out,_)=>Htp r a b x o out na nb
 | .yield (o,na,nb,out,_)=>o=none∧Htp r a b x o out na nb
section
variable {prog:Program} {w:World} {A:Around} {E:Value→Shared→Prop} {s:Shared} {κ:SortKind} {r:Keyed→Nat} {S:Keyed→Prop} {a b out:Array Keyed} {na nb:Nat} {st:SortSt}
theorem wpS_hi3 (sa:Srt r a) (sb:Srt r b) {x mg ac k g:Nat} (M:MB r a b out na nb) (h1:0 < na) (h1':na≤a.size) (h2:1 < nb) (h2':nb≤b.size) (h3:na + nb + x≤a.size + b.size)
  (hk:∀ i,i < nb→i < b.size→r (it b i)≤r (it a (na - 1))):wpS (model prog w) A E s (hi3 a b out na nb mg ac k) (HtQ r a b x st) (sg st g):=by
 unfold hi3
 refine wpS_bind (wpS_elem (it_get (by omega:na - 1 < a.size)) ?_)
 have M':=M.pa sa h1 (by omega) hk
 by_cases e1:na - 1=0
 ·rw [if_pos (by simpa using e1)]
  exact wpS_pure ⟨⟨g,rfl⟩,M'.done sa sb (.inl e1)⟩
 ·rw [if_neg (by simpa using e1)]
  split
  ·exact wpS_pure ⟨⟨g,rfl⟩,M',by omega,by omega,by omega,by omega,by omega⟩
  ·exact wpS_pure ⟨⟨g,rfl⟩,rfl,M',by omega,by omega,by omega,by omega,by omega⟩
theorem wpS_hi2 (C:Cmp prog w A s κ r S) (hkd:kindOf st=κ) (hS:∀ x,x∈a.toList∨x∈b.toList→S x) (sa:Srt r a) (sb:Srt r b) (h0:r (it b 0)≤r (it a 0)) {x mg ac bc g:Nat} (M:MB r a b out na nb) (h1:0 < na) (h1':na≤a.size) (h2:1 < nb) (h2':nb≤b.size) (h3:na + nb + x≤a.size + b.size)
  (hk:∀ i,i < na→i < a.size→r (it a i)≤r (it b (nb - 1))):wpS (model prog w) A E s (hi2 a b out na nb mg ac bc) (HtQ r a b x st) (sg st g):=by
 unfold hi2
 refine wpS_bind (wpS_elem (it_get (by omega:nb - 1 < b.size)) ?_)
 have M':=M.pb sb (by omega) (by omega) hk
 by_cases e1:nb - 1=1
 ·rw [if_pos (by simpa using e1)]
  exact wpS_pure ⟨⟨g,rfl⟩,M'.fst sa sb e1 h0⟩
 ·rw [if_neg (by simpa using e1)]
  refine wpS_bind (wpS_elem (it_get (by omega:na - 1 < a.size)) ?_)
  refine wpS_bind (wpS_gal C hkd (hS _ (.inl (it_mem (by omega)))) (fun i=>it b i) (fun i hi=>⟨by rw [Nat.zero_add];exact it_get (by omega),hS _ (.inr (it_mem (by omega)))⟩) (fun i j hij hj=>sb _ _ (by omega) (by omega)) (by omega) fun k k1 k2 k3=>?_)
  dsimp only
  have c2:∀ i,i < k→r (it b i) < r (it a (na - 1)):=fun i hi=>by have:=k2 i hi;unfold bef at this;simpa using this
  have c3:∀ i,k≤i→i < nb - 1→r (it a (na - 1))≤r (it b i):=fun i hi hj=>by have:=k3 i hi hj;unfold bef at this;simpa using this
  have cb:∀ i,i < k→i < b.size→r (it b i)≤r (it a (na - 1)):=fun i h5 h6=>by have:=c2 i h5;omega
  by_cases k0:nb - 1 - k > 0
  ·rw [if_pos k0]
   have M2:=M'.exb sb k (by omega) fun j h5 h6 h7 i h8 h9=>by
    have:=c3 j h5 h6
    have:=sa i (na - 1) (by omega) (by omega)
    omega
   by_cases e2:k=1
   ·rw [if_pos (by simpa using e2)]
    exact wpS_pure ⟨⟨g,rfl⟩,M2.fst sa sb e2 h0⟩
   ·rw [if_neg (by simpa using e2)]
    by_cases e3:k=0
    ·rw [if_pos (by simpa using e3)]
     exact wpS_pure ⟨⟨g,rfl⟩,M2.done sa sb (.inr e3)⟩
    ·rw [if_neg (by simpa using e3)]
     exact wpS_hi3 sa sb M2 h1 h1' (by omega) (by omega) (by omega) cb
  ·rw [if_neg k0]
   obtain rfl:k=nb - 1:=by omega
   exact wpS_hi3 sa sb M' h1 h1' (by omega) (by omega) (by omega) cb
theorem wpS_hi1 (C:Cmp prog w A s κ r S) (hkd:kindOf st=κ) (hS:∀ x,x∈a.toList∨x∈b.toList→S x) (sa:Srt r a) (sb:Srt r b) (h0:r (it b 0)≤r (it a 0)) {x mg ac bc g:Nat} (M:MB r a b out na nb) (h1:0 < na) (h1':na≤a.size) (h2:1 < nb) (h2':nb≤b.size) (h3:na + nb + x≤a.size + b.size):
  wpS (model prog w) A E s (hi1 a b out na nb mg ac bc) (HtQ r a b x st) (sg st g):=by
 unfold hi1
 refine wpS_bind (wpS_setG ?_)
 refine wpS_bind (wpS_elem (it_get (by omega:nb - 1 < b.size)) ?_)
 refine wpS_bind (wpS_gal C hkd (hS _ (.inr (it_mem (by omega)))) (fun i=>it a i) (fun i hi=>⟨by rw [Nat.zero_add];exact it_get (by omega),hS _ (.inl (it_mem (by omega)))⟩) (fun i j hij hj=>sa _ _ (by omega) (by omega)) (by omega) fun k k1 k2 k3=>?_)
 dsimp only
 have c2:∀ i,i < k→r (it a i)≤r (it b (nb - 1)):=fun i hi=>by have:=k2 i hi;unfold bef at this;simpa using this
 have c3:∀ i,k≤i→i < na→r (it b (nb - 1)) < r (it a i):=fun i hi hj=>by have:=k3 i hi hj;unfold bef at this;simpa using this
 by_cases k0:na - k > 0
 ·rw [if_pos k0]
  have M2:=M.ext sa k (by omega) fun j h5 h6 h7 i h8 h9=>by
   have:=c3 j h5 h6
   have:=sb i (nb - 1) (by omega) (by omega)
   omega
  by_cases e2:k=0
  ·rw [if_pos (by simpa using e2)]
   exact wpS_pure ⟨⟨mg,rfl⟩,M2.done sa sb (.inl e2)⟩
  ·rw [if_neg (by simpa using e2)]
   exact wpS_hi2 C hkd hS sa sb h0 M2 (by omega) (by omega) h2 h2' (by omega) fun i hi _=>c2 i hi
 ·rw [if_neg k0]
  obtain rfl:k=na:=by omega
  exact wpS_hi2 C hkd hS sa sb h0 M h1 h1' h2 h2' h3 fun i hi _=>c2 i hi
theorem wpS_mHi (C:Cmp prog w A s κ r S) {Q:Array Keyed→SortSt→Prop} (hkd:kindOf st=κ) (hS:∀ x,x∈a.toList∨x∈b.toList→S x)
  (sa:Srt r a) (sb:Srt r b) (ha:0 < a.size) (hb:0 < b.size) (h0:r (it b 0)≤r (it a 0)) (hl:∀ i,i < b.size→r (it b i)≤r (it a (a.size - 1)))
  (h:∀ out g,Mrg r a b out→Q out (sg st g)):wpS (model prog w) A E s (mHi a b) Q st:=by
 rw [mHi_eq]
 refine wpS_bind (wpS_lift (wpAny_rule ⟨rfl,?_⟩))
 refine wpS_bind (wpS_elem (it_get (by omega:a.size - 1 < a.size)) ?_)
 have M0:MB r a b #[] a.size b.size:=⟨by simp,.nil,fun u hu=>by simp at hu⟩
 have M1:MB r a b #[it a (a.size - 1)] (a.size - 1) b.size:=by
  have:=M0.pa sa ha (by omega) fun i _ hi=>hl i hi
  simpa using this
 dsimp only
 by_cases e1:a.size - 1=0
 ·rw [if_pos (by simpa using e1)]
  exact wpS_pure (h _ (gallopOf st) (M1.done sa sb (.inl e1)))
 rw [if_neg (by simpa using e1)]
 by_cases e2:b.size=1
 ·rw [if_pos (by simpa using e2)]
  exact wpS_pure (h _ (gallopOf st) (M1.fst sa sb e2 h0))
 rw [if_neg (by simpa using e2)]
 refine wpS_bind (wpS_get ?_)
 refine wpS_bind (wpS_mono (wpS_forRange (I:=fun x c st'=>(∃ g,st'=sg st g)∧∃ out na nb mg,c=(none,na,nb,out,mg)∧Htp r a b (1 + x) none out na nb)
  (Q:=fun c st'=>(∃ g,st'=sg st g)∧∃ res out na nb mg,c=(some res,na,nb,out,mg)∧Mrg r a b res) ?step ?fin ⟨⟨gallopOf st,rfl⟩,_,_,_,_,rfl,M1,by omega,by omega,by omega,by omega,by omega⟩) ?post)
 case fin=>
  rintro c st' ⟨hg,out,na,nb,mg,rfl,M,q1,q1',q2,q2',q3⟩
  omega
 case post=>
  rintro c st' ⟨⟨g,rfl⟩,res,out,na,nb,mg,rfl,M⟩
  exact wpS_pure (h _ g M)
 case step=>
  rintro x c st' _ hx ⟨⟨g,rfl⟩,out,na,nb,mg,rfl,M,q1,q1',q2,q2',q3⟩
  dsimp only
  refine wpS_bind (wpS_mono (wpS_forRange (I:=fun y c st'=>st'=sg st g∧∃ out na nb ac bc,c=(none,na,nb,out,ac,bc)∧Htp r a b (1 + x + min y 1) none out na nb)
   (Q:=fun c st'=>st'=sg st g∧∃ o out na nb ac bc,c=(o,na,nb,out,ac,bc)∧Htp r a b (1 + (x + 1)) o out na nb) ?step1 ?fin1 ⟨rfl,_,_,_,_,_,rfl,M,q1,q1',q2,q2',by omega⟩) ?post1)
  case fin1=>
   rintro c st' ⟨rfl,out,na,nb,ac,bc,rfl,M,q1,q1',q2,q2',q3⟩
   exact ⟨rfl,_,_,_,_,_,_,rfl,M,q1,q1',q2,q2',by omega⟩
  case step1=>
   rintro y c st' _ hy ⟨rfl,out,na,nb,ac,bc,rfl,M,q1,q1',q2,q2',q3⟩
   dsimp only
   have ib:nb - 1 < b.size:=by omega
   have ia:na - 1 < a.size:=by omega
   refine wpS_bind (wpS_elem (it_get ib) ?_)
   refine wpS_bind (wpS_elem (it_get ia) ?_)
   refine wpS_bind (wpS_lt C hkd (hS _ (.inr (it_mem ib))) (hS _ (.inl (it_mem ia))) ?_)
   dsimp only
   by_cases lt:r (it b (nb - 1)) < r (it a (na - 1))
   ·rw [if_pos (by simpa using lt)]
    refine wpS_bind (wpS_elem (it_get ia) ?_)
    have M2:=M.pa sa q1 ia fun i h1 h2=>by have:=sb i (nb - 1) (by omega) ib;omega
    by_cases e3:na - 1=0
    ·rw [if_pos (by simpa using e3)]
     exact wpS_pure ⟨rfl,_,_,_,_,_,_,rfl,M2.done sa sb (.inl e3)⟩
    ·rw [if_neg (by simpa using e3)]
     split
     ·exact wpS_pure ⟨rfl,_,_,_,_,_,_,rfl,M2,by omega,by omega,q2,q2',by omega⟩
     ·exact wpS_pure ⟨rfl,_,_,_,_,_,rfl,M2,by omega,by omega,q2,q2',by omega⟩
   ·rw [if_neg (by simpa using lt)]
    refine wpS_bind (wpS_elem (it_get ib) ?_)
    have M2:=M.pb sb (by omega) ib fun i h1 h2=>by have:=sa i (na - 1) (by omega) ia;omega
    by_cases e3:nb - 1=1
    ·rw [if_pos (by simpa using e3)]
     exact wpS_pure ⟨rfl,_,_,_,_,_,_,rfl,M2.fst sa sb e3 h0⟩
    ·rw [if_neg (by simpa using e3)]
     split
     ·exact wpS_pure ⟨rfl,_,_,_,_,_,_,rfl,M2,q1,q1',by omega,by omega,by omega⟩
     ·exact wpS_pure ⟨rfl,_,_,_,_,_,rfl,M2,q1,q1',by omega,by omega,by omega⟩
  case post1=>
   rintro c st' ⟨rfl,o,out,na,nb,ac,bc,rfl,M⟩
   cases o with
   | some res=>
    dsimp only
    exact wpS_pure ⟨⟨g,rfl⟩,_,_,_,_,_,rfl,M⟩
   | none=>
    obtain ⟨M,q1,q1',q2,q2',q3⟩:=M
    dsimp only
    refine wpS_bind (wpS_lift (wpAny_rule ⟨rfl,?_⟩))
    refine wpS_bind (wpS_mono (wpS_forRange (I:=fun y c st'=>(∃ g,st'=sg st g)∧∃ out na nb mg ac bc,c=(none,na,nb,out,mg,ac,bc)∧Htp r a b (1 + (x + 1)) none out na nb)
     (Q:=fun c st'=>(∃ g,st'=sg st g)∧∃ o out na nb mg ac bc,c=(o,na,nb,out,mg,ac,bc)∧Htp r a b (1 + (x + 1)) o out na nb) ?step2 ?fin2 ⟨⟨g,rfl⟩,_,_,_,_,_,_,rfl,M,q1,q1',q2,q2',by omega⟩) ?post2)
    case fin2=>
     rintro c st' ⟨hg,out,na,nb,mg,ac,bc,rfl,M⟩
     exact ⟨hg,_,_,_,_,_,_,_,rfl,M⟩
    case step2=>
     rintro y c st' _ hy ⟨⟨g,rfl⟩,out,na,nb,mg,ac,bc,rfl,M,q1,q1',q2,q2',q3⟩
     refine wpS_mono (Q:=HtQ r a b (1 + (x + 1)) st) ?code fun c st' hc=>?_
     case code=>
      dsimp only
      by_cases m1:mg > 1
      ·rw [if_pos m1]
       exact wpS_hi1 (mg:=mg - 1) (ac:=ac) (bc:=bc) C hkd hS sa sb h0 M q1 q1' q2 q2' q3
      ·rw [if_neg m1]
       exact wpS_hi1 (mg:=mg) (ac:=ac) (bc:=bc) C hkd hS sa sb h0 M q1 q1' q2 q2' q3
     ·obtain ⟨hg,hc⟩:=hc
      match c,hc with
      | .done (o,na,nb,out,mg,ac,bc),hc=>exact ⟨hg,_,_,_,_,_,_,_,rfl,hc⟩
      | .yield (o,na,nb,out,mg,ac,bc),⟨h1,hc⟩=>
       subst h1
       exact ⟨hg,_,_,_,_,_,_,rfl,hc⟩
    case post2=>
     rintro c st' ⟨⟨g',rfl⟩,o,out,na,nb,mg',ac,bc,rfl,M⟩
     cases o with
     | some res=>
      dsimp only
      exact wpS_pure ⟨⟨g',rfl⟩,_,_,_,_,_,rfl,M⟩
     | none=>
      dsimp only
      refine wpS_bind (wpS_setG ?_)
      exact wpS_pure ⟨⟨_,rfl⟩,_,_,_,_,rfl,M⟩
end
end TS
namespace TS
open PySem PySem.Spec PyProof.Rows
noncomputable def wr (arr:Array Keyed) (sa:Nat) (l:List Keyed):Array Keyed:=l.zipIdx.foldl (fun a (p,j)=>a.setIfInBounds (sa + j) p) arr
theorem mergeAt_eq (i:Nat):mergeAt' i=(do
 let s ←get
 let (some (sa,na,power),some (sb,nb,_)):=((pendingOf s)[i]?,(pendingOf s)[i + 1]?) | unsupported "internal:list.sort.pending"
 set (setPending s (((pendingOf s).setIfInBounds i (sa,na + nb,power)).eraseIdxIfInBounds (i + 1)))
 let some k ←gal false (←elem' (arrOf s) sb) (arrOf s) sa na 0 | return false
 let (sa,na):=(sa + k,na - k)
 if na==0 then return true
 let some nb ←gal true (←elem' (arrOf s) (sa + na - 1)) (arrOf s) sb nb (nb - 1) | return false
 if nb==0 then return true
 let x:=(arrOf s).extract sa sb
 let y:=(arrOf s).extract sb (sb + nb)
 let merged ←if na≤nb then mLo x y else mHi x y
 modify fun s=>setArr s (wr (arrOf s) sa merged.toList)
 return (failedOf (←get)).isNone):=rfl
theorem wr_go (sa:Nat):∀ (l:List Keyed) (k:Nat) (arr:Array Keyed),sa + k + l.length≤arr.size→
  ((l.zipIdx k).foldl (fun a (p,j)=>a.setIfInBounds (sa + j) p) arr).toList=arr.toList.take (sa + k)++l++arr.toList.drop (sa + k + l.length)
 | [],k,arr,_=>by simp
 | x::l,k,arr,h=>by
  rw [List.length_cons] at h
  rw [List.zipIdx_cons,List.foldl_cons]
  rw [wr_go sa l (k + 1) (arr.setIfInBounds (sa + k) x) (by rw [Array.size_setIfInBounds];omega)]
  rw [Array.toList_setIfInBounds]
  have h1:(arr.toList.set (sa + k) x).take (sa + (k + 1))=arr.toList.take (sa + k)++[x]:=by
   rw [show sa + (k + 1)=sa + k + 1 by omega,List.take_succ,List.take_set_of_le (Nat.le_refl _)]
   simp [show sa + k < arr.size by omega]
  have h2:(arr.toList.set (sa + k) x).drop (sa + (k + 1) + l.length)=arr.toList.drop (sa + k + (x::l).length):=by
   rw [List.drop_set_of_lt (by omega),List.length_cons]
   congr 1
   omega
  rw [h1,h2]
  simp
theorem wr_toList {arr:Array Keyed} {sa:Nat} {l:List Keyed} (h:sa + l.length≤arr.size):(wr arr sa l).toList=arr.toList.take sa++l++arr.toList.drop (sa + l.length):=by
 have:=wr_go sa l 0 arr (by omega)
 rw [Nat.add_zero] at this
 exact this
theorem it_list (a:Array Keyed) (i:Nat):it a i=a.toList.getD i (Value.none,Value.none):=by
 unfold it
 by_cases h:i < a.size
 ·simp [Array.getD,h]
 ·simp [Array.getD,h]
theorem wr_it {arr:Array Keyed} {sa:Nat} {m:Array Keyed} (h:sa + m.size≤arr.size) (i:Nat):it (wr arr sa m.toList) i=if sa≤i∧i < sa + m.size then it m (i - sa) else it arr i:=by
 rw [it_list,wr_toList (by simpa using h),it_list,it_list]
 simp only [List.getD_eq_getElem?_getD,Array.length_toList]
 by_cases h1:i < sa
 ·rw [if_neg (by omega),List.append_assoc,List.getElem?_append_left (by simp;omega),List.getElem?_take_of_lt h1]
 ·by_cases h2:i < sa + m.size
  ·rw [if_pos ⟨by omega,h2⟩,List.append_assoc,List.getElem?_append_right (by simp;omega),List.getElem?_append_left (by simp;omega)]
   congr 2
   simp
   omega
  ·rw [if_neg (by omega),List.getElem?_append_right (by simp;omega),List.getElem?_drop]
   congr 2
   simp
   omega
theorem wr_perm {arr:Array Keyed} {sa:Nat} {m:Array Keyed} {e:Nat} (h:e≤arr.size) (hse:sa≤e) (hm:m.toList.Perm (arr.extract sa e).toList):(wr arr sa m.toList).Perm arr:=by
 have hl:m.toList.length=e - sa:=by rw [hm.length_eq,ext_toList];simp;omega
 rw [Array.perm_iff_toList_perm,wr_toList (by rw [hl];omega)]
 have e1:arr.toList=arr.toList.take sa++(arr.extract sa e).toList++arr.toList.drop (sa + m.toList.length):=by
  rw [hl,ext_toList,show sa + (e - sa)=e by omega]
  conv=>lhs;rw [←List.take_append_drop e arr.toList]
  congr 1
  conv=>lhs;rw [←List.take_append_drop sa (arr.toList.take e)]
  rw [List.take_take,Nat.min_eq_left hse,List.drop_take]
 conv=>rhs;rw [e1]
 exact List.Perm.append_right _ (List.Perm.append_left _ hm)
noncomputable def Son (r:Keyed→Nat) (a:Array Keyed) (lo hi:Nat):Prop:=∀ i j,lo≤i→i≤j→j < hi→r (it a i)≤r (it a j)
theorem it_ext {arr:Array Keyed} {u v i:Nat} (h:u + i < v) (hv:v≤arr.size):it (arr.extract u v) i=it arr (u + i):=by
 rw [it_eq (by simp;omega),it_eq (by omega)]
 simp
structure Iv (κ:SortKind) (a₀:Array Keyed) (st:SortSt):Prop where
 perm:(arrOf st).Perm a₀
 kind:kindOf st=κ
 ok:failedOf st=none
theorem Iv.size {κ:SortKind} {a₀:Array Keyed} {st:SortSt} (h:Iv κ a₀ st):(arrOf st).size=a₀.size:=h.perm.size_eq
theorem Iv.mem {κ:SortKind} {a₀:Array Keyed} {st:SortSt} (h:Iv κ a₀ st) {i:Nat} (hi:i < a₀.size):it (arrOf st) i∈a₀.toList:=
 (Array.perm_iff_toList_perm.mp h.perm).mem_iff.mp (it_mem (by rw [h.size];exact hi))
section
variable {prog:Program} {w:World} {A:Around} {E:Value→Shared→Prop} {s:Shared} {κ:SortKind} {r:Keyed→Nat} {a₀:Array Keyed} {st:SortSt}
theorem wpS_set {st':SortSt} {Q:PUnit→SortSt→Prop} (h:Q ⟨⟩ st'):wpS (model prog w) A E s (set st':StateT SortSt Sem PUnit) Q st:=by
 unfold wpS;rw [StateT.run_set];exact wpAny_pure ⟨rfl,h⟩
theorem wpS_mergeAt (C:Cmp prog w A s κ r (· ∈a₀.toList)) (V:Iv κ a₀ st) {i sa na sb nb pw pw':Nat} {Q:Bool→SortSt→Prop} (e1:(pendingOf st)[i]? =some (sa,na,pw)) (e2:(pendingOf st)[i + 1]? =some (sb,nb,pw'))
  (hs:sb=sa + na) (hn:0 < na) (hm:0 < nb) (hz:sb + nb≤a₀.size) (s1:Son r (arrOf st) sa sb) (s2:Son r (arrOf st) sb (sb + nb))
  (h:∀ st',Iv κ a₀ st'→pendingOf st'=((pendingOf st).setIfInBounds i (sa,na + nb,pw)).eraseIdxIfInBounds (i + 1)→Son r (arrOf st') sa (sb + nb)→(∀ j,j < sa∨sb + nb≤j→it (arrOf st') j=it (arrOf st) j)→Q true st'):
  wpS (model prog w) A E s (mergeAt' i) Q st:=by
 have hz':sb + nb≤(arrOf st).size:=by rw [V.size];exact hz
 rw [mergeAt_eq]
 refine wpS_bind (wpS_get ?_)
 rw [e1,e2]
 dsimp only
 refine wpS_bind (wpS_set ?_)
 obtain ⟨st1,hst1⟩:∃ st1,st1=setPending st (((pendingOf st).setIfInBounds i (sa,na + nb,pw)).eraseIdxIfInBounds (i + 1)):=⟨_,rfl⟩
 rw [←hst1]
 have V1:Iv κ a₀ st1:=by subst hst1;exact ⟨V.perm,V.kind,V.ok⟩
 have ea:arrOf st1=arrOf st:=by subst hst1;rfl
 have ep:pendingOf st1=((pendingOf st).setIfInBounds i (sa,na + nb,pw)).eraseIdxIfInBounds (i + 1):=by subst hst1;rfl
 refine wpS_bind (wpS_elem (it_get (by omega:sb < (arrOf st).size)) ?_)
 refine wpS_bind (wpS_gal C V1.kind (V.mem (by omega)) (fun i=>it (arrOf st) (sa + i)) (fun i hi=>⟨it_get (by omega),V.mem (by omega)⟩) (fun i j hij hj=>s1 _ _ (by omega) (by omega) (by omega)) (by omega) fun k k1 k2 k3=>?_)
 dsimp only
 have c2:∀ i,sa≤i→i < sa + k→r (it (arrOf st) i)≤r (it (arrOf st) sb):=fun i h1 h2=>by
  have:=k2 (i - sa) (by omega);unfold bef at this
  rw [show sa + (i - sa)=i by omega] at this
  simpa using this
 have c3:∀ i,sa + k≤i→i < sb→r (it (arrOf st) sb) < r (it (arrOf st) i):=fun i h1 h2=>by
  have:=k3 (i - sa) (by omega) (by omega);unfold bef at this
  rw [show sa + (i - sa)=i by omega] at this
  simpa using this
 by_cases n0:na - k=0
 ·rw [if_pos (by simpa using n0)]
  refine wpS_pure (h st1 V1 ep ?_ fun j _=>by rw [ea])
  rw [ea]
  intro i j h1 h2 h3
  by_cases q1:j < sb
  ·exact s1 i j h1 h2 q1
  ·by_cases q2:i < sb
   ·have:=c2 i h1 (by omega)
    have:=s2 sb j (Nat.le_refl _) (by omega) h3
    omega
   ·exact s2 i j (by omega) h2 h3
 rw [if_neg (by simpa using n0)]
 have hl:sa + k + (na - k) - 1=sb - 1:=by omega
 rw [hl]
 refine wpS_bind (wpS_elem (it_get (by omega:sb - 1 < (arrOf st).size)) ?_)
 refine wpS_bind (wpS_gal C V1.kind (V.mem (by omega)) (fun i=>it (arrOf st) (sb + i)) (fun i hi=>⟨it_get (by omega),V.mem (by omega)⟩) (fun i j hij hj=>s2 _ _ (by omega) (by omega) (by omega)) (by omega) fun m m1 m2 m3=>?_)
 dsimp only
 have d2:∀ i,sb≤i→i < sb + m→r (it (arrOf st) i) < r (it (arrOf st) (sb - 1)):=fun i h1 h2=>by
  have:=m2 (i - sb) (by omega);unfold bef at this
  rw [show sb + (i - sb)=i by omega] at this
  simpa using this
 have d3:∀ i,sb + m≤i→i < sb + nb→r (it (arrOf st) (sb - 1))≤r (it (arrOf st) i):=fun i h1 h2=>by
  have:=m3 (i - sb) (by omega) (by omega);unfold bef at this
  rw [show sb + (i - sb)=i by omega] at this
  simpa using this
 by_cases n1:m=0
 ·rw [if_pos (by simpa using n1)]
  refine wpS_pure (h st1 V1 ep ?_ fun j _=>by rw [ea])
  rw [ea]
  intro i j h1 h2 h3
  by_cases q1:j < sb
  ·exact s1 i j h1 h2 q1
  ·by_cases q2:i < sb
   ·have:=d3 j (by omega) h3
    have:=s1 i (sb - 1) h1 (by omega) (by omega)
    omega
   ·exact s2 i j (by omega) h2 h3
 rw [if_neg (by simpa using n1)]
 obtain ⟨x,hx⟩:∃ x,x=(arrOf st).extract (sa + k) sb:=⟨_,rfl⟩
 obtain ⟨y,hy⟩:∃ y,y=(arrOf st).extract sb (sb + m):=⟨_,rfl⟩
 rw [←hx,←hy]
 have xz:x.size=sb - (sa + k):=by rw [hx];simp;omega
 have yz:y.size=m:=by rw [hy];simp;omega
 have xi:∀ j,j < x.size→it x j=it (arrOf st) (sa + k + j):=fun j hj=>by rw [xz] at hj;rw [hx];exact it_ext (by omega) (by omega)
 have yi:∀ j,j < y.size→it y j=it (arrOf st) (sb + j):=fun j hj=>by rw [yz] at hj;rw [hy];exact it_ext (by omega) (by omega)
 have sx:Srt r x:=fun i j hij hj=>by rw [xi i (by omega),xi j hj];rw [xz] at hj;exact s1 _ _ (by omega) (by omega) (by omega)
 have sy:Srt r y:=fun i j hij hj=>by rw [yi i (by omega),yi j hj];rw [yz] at hj;exact s2 _ _ (by omega) (by omega) (by omega)
 have hS:∀ v,v∈x.toList∨v∈y.toList→v∈a₀.toList:=fun v hv=>by
  rcases hv with hv | hv
  ·obtain ⟨j,_,h2,rfl⟩:=mem_dr (i:=0) (a:=x) (by simpa using hv)
   rw [xi j h2];exact V.mem (by omega)
  ·obtain ⟨j,_,h2,rfl⟩:=mem_dr (i:=0) (a:=y) (by simpa using hv)
   rw [yi j h2];exact V.mem (by omega)
 have g0:r (it y 0)≤r (it x 0):=by
  rw [xi 0 (by omega),yi 0 (by omega)]
  have:=c3 (sa + k) (by omega) (by omega)
  simp only [Nat.add_zero]
  omega
 have gl:∀ i,i < y.size→r (it y i)≤r (it x (x.size - 1)):=fun i hi=>by
  rw [xi _ (by omega),yi i hi,show sa + k + (x.size - 1)=sb - 1 by omega]
  exact Nat.le_of_lt (d2 _ (by omega) (by omega))
 have fin:∀ (out:Array Keyed) (g:Nat),Mrg r x y out→wpS (model prog w) A E s (do
   modify fun s=>setArr s (wr (arrOf s) (sa + k) out.toList)
   return (failedOf (←get)).isNone) Q (sg st1 g):=fun out g M=>by
  refine wpS_bind (wpS_modify ?_)
  refine wpS_bind (wpS_get ?_)
  have oz:out.size=x.size + y.size:=by have:=M.1.length_eq;simpa using this
  have wi:=fun i=>wr_it (arr:=arrOf st) (sa:=sa + k) (m:=out) (by omega) i
  have from':∀ i,sa + k≤i→i < sb + m→∃ j,sa + k≤j∧j < sb + m∧it (wr (arrOf st) (sa + k) out.toList) i=it (arrOf st) j:=fun i h1 h2=>by
   rw [wi,if_pos ⟨h1,by omega⟩]
   have hmem:=M.1.mem_iff.mp (it_mem (a:=out) (i:=i - (sa + k)) (by omega))
   rcases List.mem_append.mp hmem with hv | hv
   ·obtain ⟨j,_,h2,e⟩:=mem_dr (i:=0) (a:=x) (by simpa using hv)
    exact ⟨sa + k + j,by omega,by omega,by rw [e,xi j h2]⟩
   ·obtain ⟨j,_,h2,e⟩:=mem_dr (i:=0) (a:=y) (by simpa using hv)
    exact ⟨sb + j,by omega,by omega,by rw [e,yi j h2]⟩
  have so:Srt r out:=Srt.of M.2
  have lowb:∀ i j,sa≤i→i < sa + k→sa + k≤j→j < sb + nb→r (it (arrOf st) i)≤r (it (arrOf st) j):=fun i j h1 h2 h3 h4=>by
   by_cases q:j < sb
   ·exact s1 i j h1 (by omega) q
   ·have:=c2 i h1 h2
    have:=s2 sb j (Nat.le_refl _) (by omega) h4
    omega
  have hib:∀ i j,sa + k≤i→i < sb + m→sb + m≤j→j < sb + nb→r (it (arrOf st) i)≤r (it (arrOf st) j):=fun i j h1 h2 h3 h4=>by
   by_cases q:i < sb
   ·have:=s1 i (sb - 1) (by omega) (by omega) (by omega)
    have:=d3 j h3 h4
    omega
   ·exact s2 i j (by omega) (by omega) h4
  have S':Son r (wr (arrOf st) (sa + k) out.toList) sa (sb + nb):=by
   intro i j h1 h2 h3
   by_cases qi:i < sa + k
   ·rw [wi i,if_neg (by omega)]
    by_cases qj:j < sa + k
    ·rw [wi j,if_neg (by omega)];exact s1 i j h1 h2 (by omega)
    ·by_cases qm:j < sb + m
     ·obtain ⟨j',a1,a2,a3⟩:=from' j (by omega) qm
      rw [a3];exact lowb i j' h1 qi a1 (by omega)
     ·rw [wi j,if_neg (by omega)];exact lowb i j h1 qi (by omega) h3
   ·by_cases qm:i < sb + m
    ·by_cases qj:j < sb + m
     ·rw [wi i,if_pos (by omega),wi j,if_pos (by omega)]
      exact so _ _ (by omega) (by omega)
     ·obtain ⟨i',a1,a2,a3⟩:=from' i (by omega) qm
      rw [a3,wi j,if_neg (by omega)]
      exact hib i' j a1 a2 (by omega) h3
    ·rw [wi i,if_neg (by omega),wi j,if_neg (by omega)]
     exact s2 i j (by omega) h2 h3
  have P':(wr (arrOf st) (sa + k) out.toList).Perm (arrOf st):=wr_perm (e:=sb + m) (by omega) (by omega) (by
   have e:((arrOf st).extract (sa + k) (sb + m)).toList=x.toList++y.toList:=by
    rw [hx,hy,ext_toList,ext_toList,ext_toList]
    rw [show sb + m - (sa + k)=(sb - (sa + k)) + m by omega,List.take_add,List.drop_drop,show sa + k + (sb - (sa + k))=sb by omega,show sb + m - sb=m by omega]
   rw [e]
   exact M.1)
  have hf:(failedOf (setArr (sg st1 g) (wr (arrOf (sg st1 g)) (sa + k) out.toList))).isNone=true:=by
   show (failedOf st1).isNone=true
   rw [V1.ok];rfl
  rw [hf]
  have ar:arrOf (setArr (sg st1 g) (wr (arrOf (sg st1 g)) (sa + k) out.toList))=wr (arrOf st) (sa + k) out.toList:=by
   show wr (arrOf st1) (sa + k) out.toList=_
   rw [ea]
  refine wpS_pure (h _ ⟨?_,V1.kind,V1.ok⟩ ep ?_ ?_)
  ·rw [ar];exact P'.trans V.perm
  ·rw [ar];exact S'
  ·intro j hj
   rw [ar,wi j,if_neg (by omega)]
 by_cases le:na - k≤m
 ·rw [if_pos le]
  exact wpS_bind (wpS_mLo C V1.kind hS sx sy (by omega) (by omega) g0 gl fun out g M=>fin out g M)
 ·rw [if_neg le]
  exact wpS_bind (wpS_mHi C V1.kind hS sx sy (by omega) (by omega) g0 gl fun out g M=>fin out g M)
end
end TS
namespace TS
open PySem PySem.Spec PyProof.Rows
theorem it_q (a:Array Keyed) (i:Nat):it a i=(a[i]?).getD (Value.none,Value.none):=by
 unfold it
 by_cases h:i < a.size
 ·simp [Array.getD,h]
 ·simp [Array.getD,h]
theorem it_mirror {xs:Array Keyed} {i j:Nat} (hj:j≤xs.size) (k:Nat):it (mirror xs i j ((j - i) / 2)) k=if i≤k∧k < j then it xs (i + j - 1 - k) else it xs k:=by
 rw [it_q,getElem?_mirror_all (i:=i) hj k]
 split <;> rw [it_q]
theorem it_bubble {xs:Array Keyed} {src d:Nat} (hs:src < xs.size) (hd:d≤src) (k:Nat):it (bubble xs src d) k=if k=src - d then it xs src else if src - d < k∧k≤src then it xs (k - 1) else it xs k:=by
 rw [it_q,getElem?_bubble hs d hd k]
 split
 ·rw [it_q]
 ·split <;> rw [it_q]
section
variable {prog:Program} {w:World} {A:Around} {E:Value→Shared→Prop} {s:Shared} {κ:SortKind} {r:Keyed→Nat} {a₀:Array Keyed} {st:SortSt}
theorem Iv.setArr (V:Iv κ a₀ st) {xs:Array Keyed} (hp:xs.Perm (arrOf st)):Iv κ a₀ (setArr st xs):=⟨hp.trans V.perm,V.kind,V.ok⟩
theorem Iv.inj (V:Iv κ a₀ st) (hd:(a₀.toList.map r).Nodup) {i j:Nat} (hi:i < a₀.size) (hj:j < a₀.size) (e:r (it (arrOf st) i)=r (it (arrOf st) j)):i=j:=by
 have p:((arrOf st).toList.map r).Perm (a₀.toList.map r):=(Array.perm_iff_toList_perm.mp V.perm).map r
 have nd:((arrOf st).toList.map r).Nodup:=p.nodup_iff.mpr hd
 have hz:=V.size
 have a1:((arrOf st).toList.map r)[i]'(by simp;omega)=r (it (arrOf st) i):=by rw [it_eq (by omega)];simp
 have a2:((arrOf st).toList.map r)[j]'(by simp;omega)=r (it (arrOf st) j):=by rw [it_eq (by omega)];simp
 exact (List.getElem_inj nd).mp (a1.trans (e.trans a2.symm))
theorem wpS_ltA (C:Cmp prog w A s κ r (· ∈a₀.toList)) (V:Iv κ a₀ st) {i j:Nat} {Q:Option Bool→SortSt→Prop} (hi:i < a₀.size) (hj:j < a₀.size) (h:Q (some (decide (r (it (arrOf st) i) < r (it (arrOf st) j)))) st):
  wpS (model prog w) A E s (ltAt' i j) Q st:=by
 rw [ltAt'_eq]
 refine wpS_bind (wpS_get ?_)
 dsimp only
 have hz:=V.size
 refine wpS_bind (wpS_elem (it_get (by omega)) (wpS_bind (wpS_elem (it_get (by omega)) ?_)))
 exact wpS_lt C V.kind (V.mem hi) (V.mem hj) h
theorem wpS_asc (C:Cmp prog w A s κ r (· ∈a₀.toList)) (V:Iv κ a₀ st) {lo a nrem:Nat} {Q:Option (Option Nat)×Nat→SortSt→Prop} (hz:lo + nrem≤a₀.size) (h1:1≤a) (h2:a≤nrem) (hs:Son r (arrOf st) lo (lo + a))
  (h:∀ n,a≤n→n≤nrem→Son r (arrOf st) lo (lo + n)→(n=nrem∨r (it (arrOf st) (lo + n)) < r (it (arrOf st) (lo + n - 1)))→Q (none,n) st):
  wpS (model prog w) A E s (forIn [a:nrem] ((none,a):Option (Option Nat)×Nat) fun x __s=>do
    let __x ←ltAt' (lo + __s.snd) (lo + __s.snd - 1)
    match __x with
     | some smaller=>if smaller=true then pure (ForInStep.done (none,__s.snd)) else pure (ForInStep.yield (none,__s.snd + 1))
     | x=>pure (ForInStep.done (some none,__s.snd))) Q st:=by
 refine wpS_forRange (I:=fun x c st'=>st'=st∧c=(none,x)∧Son r (arrOf st) lo (lo + x)) ?step ?fin ⟨rfl,rfl,hs⟩
 case fin=>
  rintro c st' ⟨rfl,rfl,hs⟩
  rw [Nat.max_eq_right h2] at hs ⊢
  exact h nrem h2 (Nat.le_refl _) hs (.inl rfl)
 case step=>
  rintro x c st' hx1 hx2 ⟨rfl,rfl,hs⟩
  dsimp only
  refine wpS_bind (wpS_ltA C V (by omega) (by omega) ?_)
  dsimp only
  by_cases q:r (it (arrOf st') (lo + x)) < r (it (arrOf st') (lo + x - 1))
  ·rw [if_pos (by simpa using q)]
   exact wpS_pure (h x hx1 (by omega) hs (.inr q))
  ·rw [if_neg (by simpa using q)]
   refine wpS_pure ⟨rfl,rfl,fun i j h3 h4 h5=>?_⟩
   by_cases qj:j < lo + x
   ·exact hs i j h3 h4 qj
   ·obtain rfl:j=lo + x:=by omega
    by_cases qi:i=lo + x
    ·subst qi;exact Nat.le_refl _
    ·have:=hs i (lo + x - 1) h3 (by omega) (by omega)
     omega
theorem wpS_count (C:Cmp prog w A s κ r (· ∈a₀.toList)) (hd:(a₀.toList.map r).Nodup) (V:Iv κ a₀ st) {lo nrem:Nat} {Q:Option Nat→SortSt→Prop} (hz:lo + nrem≤a₀.size) (h1:1≤nrem)
  (h:∀ n st',Iv κ a₀ st'→pendingOf st'=pendingOf st→1≤n→n≤nrem→Son r (arrOf st') lo (lo + n)→(∀ j,j < lo→it (arrOf st') j=it (arrOf st) j)→Q (some n) st'):
  wpS (model prog w) A E s (countRun' lo nrem) Q st:=by
 rw [countRun'_eq]
 refine wpS_bind (wpS_asc C V hz (Nat.le_refl 1) h1 (fun i j h3 h4 h5=>by obtain rfl:i=j:=(by omega);exact Nat.le_refl _) fun n n1 n2 n3 n4=>?_)
 dsimp only
 by_cases e1:n=nrem
 ·rw [if_pos (by simpa using e1)]
  exact wpS_pure (h n st V rfl n1 n2 n3 fun _ _=>rfl)
 rw [if_neg (by simpa using e1)]
 by_cases e2:n > 1
 ·rw [if_pos e2]
  refine wpS_bind (wpS_ltA C V (by omega) (by omega) ?_)
  dsimp only
  have q:r (it (arrOf st) lo) < r (it (arrOf st) (lo + n - 1)):=by
   have:=n3 lo (lo + n - 1) (Nat.le_refl _) (by omega) (by omega)
   rcases Nat.lt_or_ge (r (it (arrOf st) lo)) (r (it (arrOf st) (lo + n - 1))) with q | q
   ·exact q
   ·have:=V.inj hd (i:=lo) (j:=lo + n - 1) (by omega) (by omega) (by omega)
    omega
  rw [if_pos (by simpa using q)]
  exact wpS_pure (h n st V rfl n1 n2 n3 fun _ _=>rfl)
 rw [if_neg e2]
 obtain rfl:n=1:=by omega
 have hlt:=n4.resolve_left e1
 refine wpS_bind (wpS_lift (wpAny_rule ⟨rfl,?_⟩))
 refine wpS_bind (wpS_mono (wpS_forRange (I:=fun x c st'=>st'=st∧c=(none,x,0)∧∀ i j,lo≤i→i≤j→j < lo + x→r (it (arrOf st) j)≤r (it (arrOf st) i))
  (Q:=fun c st'=>st'=st∧∃ x,c=(none,x,0)∧2≤x∧x≤nrem∧∀ i j,lo≤i→i≤j→j < lo + x→r (it (arrOf st) j)≤r (it (arrOf st) i)) ?step ?fin ⟨rfl,rfl,?init⟩) ?post)
 case init=>
  intro i j h3 h4 h5
  by_cases q:i=j
  ·subst q;exact Nat.le_refl _
  ·obtain rfl:i=lo:=by omega
   obtain rfl:j=i + 1:=by omega
   rw [show i + 1 - 1=i by omega] at hlt
   omega
 case fin=>
  rintro c st' ⟨rfl,rfl,hs⟩
  exact ⟨rfl,_,rfl,by omega,by omega,hs⟩
 case step=>
  rintro x c st' hx1 hx2 ⟨rfl,rfl,hs⟩
  dsimp only
  refine wpS_bind (wpS_ltA C V (by omega) (by omega) ?_)
  dsimp only
  by_cases q:r (it (arrOf st') (lo + x)) < r (it (arrOf st') (lo + x - 1))
  ·rw [if_pos (by simpa using q),if_neg (by omega)]
   refine wpS_pure ⟨rfl,rfl,fun i j h3 h4 h5=>?_⟩
   by_cases qj:j < lo + x
   ·exact hs i j h3 h4 qj
   ·obtain rfl:j=lo + x:=by omega
    by_cases qi:i=lo + x
    ·subst qi;exact Nat.le_refl _
    ·have:=hs i (lo + x - 1) h3 (by omega) (by omega)
     omega
  ·rw [if_neg (by simpa using q)]
   refine wpS_bind (wpS_ltA C V (by omega) (by omega) ?_)
   dsimp only
   have q':r (it (arrOf st') (lo + x - 1)) < r (it (arrOf st') (lo + x)):=by
    rcases Nat.lt_or_ge (r (it (arrOf st') (lo + x - 1))) (r (it (arrOf st') (lo + x))) with q | q
    ·exact q
    ·have:=V.inj hd (i:=lo + x) (j:=lo + x - 1) (by omega) (by omega) (by omega)
     omega
   rw [if_pos (by simpa using q')]
   exact wpS_pure ⟨rfl,x,rfl,by omega,by omega,hs⟩
 case post=>
  rintro c st' ⟨rfl,x,rfl,x1,x2,hs⟩
  dsimp only
  rw [if_neg (by omega)]
  have hzz:=V.size
  have mi:=fun k=>it_mirror (xs:=arrOf st') (i:=lo) (j:=lo + x) (by omega) k
  refine wpS_bind (wpS_reverse ?_)
  have V':Iv κ a₀ (PyProof.Rows.setArr st' (mirror (arrOf st') lo (lo + x) ((lo + x - lo) / 2))):=V.setArr (mirror_perm _ _ _ _)
  refine wpS_bind (wpS_asc C V' hz (by omega) x2 (fun i j h3 h4 h5=>?_) fun n m1 m2 m3 m4=>?_)
  ·show r (it (mirror (arrOf st') lo (lo + x) ((lo + x - lo) / 2)) i)≤r (it (mirror (arrOf st') lo (lo + x) ((lo + x - lo) / 2)) j)
   rw [mi i,if_pos (by omega),mi j,if_pos (by omega)]
   exact hs _ _ (by omega) (by omega) (by omega)
  ·refine wpS_pure (h n _ V' rfl (by omega) m2 m3 fun j hj=>?_)
   show it (mirror (arrOf st') lo (lo + x) ((lo + x - lo) / 2)) j=_
   rw [mi j,if_neg (by omega)]
theorem wpS_bin (C:Cmp prog w A s κ r (· ∈a₀.toList)) (V:Iv κ a₀ st) {lo n ok:Nat} {Q:Bool→SortSt→Prop} (hz:lo + n≤a₀.size) (hok:ok≤n) (h1:1≤ok) (hs:Son r (arrOf st) lo (lo + ok))
  (h:∀ st',Iv κ a₀ st'→pendingOf st'=pendingOf st→Son r (arrOf st') lo (lo + n)→(∀ j,j < lo→it (arrOf st') j=it (arrOf st) j)→Q true st'):
  wpS (model prog w) A E s (binarySort' lo n ok) Q st:=by
 rw [binarySort'_eq,Nat.max_eq_left h1]
 refine wpS_bind (wpS_mono (wpS_forRange (I:=fun k c st'=>c=(none,())∧Iv κ a₀ st'∧pendingOf st'=pendingOf st∧Son r (arrOf st') lo (lo + k)∧∀ j,j < lo→it (arrOf st') j=it (arrOf st) j)
  (Q:=fun c st'=>c=(none,())∧Iv κ a₀ st'∧pendingOf st'=pendingOf st∧Son r (arrOf st') lo (lo + n)∧∀ j,j < lo→it (arrOf st') j=it (arrOf st) j) ?step ?fin ⟨rfl,V,rfl,hs,fun _ _=>rfl⟩) ?post)
 case post=>
  rintro c st' ⟨rfl,V',e,hs',hj⟩
  exact wpS_pure (h st' V' e hs' hj)
 case fin=>
  rintro c st' hh
  rwa [Nat.max_eq_right hok] at hh
 case step=>
  rintro k c st' hk1 hk2 ⟨rfl,V',ep,hs',hj'⟩
  refine wpS_bind (wpS_mono (wpS_forRange (I:=fun x c st''=>st''=st'∧∃ l u,c=(none,l,u)∧l≤u∧u≤k∧u - l≤k - x∧
    (∀ i,i < l→r (it (arrOf st') (lo + i))≤r (it (arrOf st') (lo + k)))∧(∀ i,u≤i→i < k→r (it (arrOf st') (lo + k)) < r (it (arrOf st') (lo + i))))
   (Q:=fun c st''=>st''=st'∧∃ l u,c=(none,l,u)∧l≤k∧
    (∀ i,i < l→r (it (arrOf st') (lo + i))≤r (it (arrOf st') (lo + k)))∧(∀ i,l≤i→i < k→r (it (arrOf st') (lo + k)) < r (it (arrOf st') (lo + i)))) ?istep ?ifin ?iinit) ?ipost)
  case iinit=>exact ⟨rfl,0,k,rfl,by omega,by omega,by omega,fun i hi=>by omega,fun i h1 h2=>by omega⟩
  case ifin=>
   rintro c st'' ⟨rfl,l,u,rfl,hlr,hrk,hm,hlo,hhi⟩
   have:l=u:=by omega
   subst this
   exact ⟨rfl,l,l,rfl,hrk,hlo,hhi⟩
  case istep=>
   rintro x c st'' _ hxk ⟨rfl,l,u,rfl,hlr,hrk,hm,hlo,hhi⟩
   dsimp only
   by_cases hge:l≥u
   ·rw [if_pos hge]
    have:l=u:=by omega
    subst this
    exact wpS_pure ⟨rfl,l,l,rfl,hrk,hlo,hhi⟩
   ·rw [if_neg hge]
    refine wpS_bind (wpS_ltA C V' (by omega) (by omega) ?_)
    dsimp only
    by_cases q:r (it (arrOf st'') (lo + k)) < r (it (arrOf st'') (lo + (l + u) / 2))
    ·rw [if_pos (by simpa using q)]
     refine wpS_pure ⟨rfl,l,(l + u) / 2,rfl,by omega,by omega,by omega,hlo,fun i h1 h2=>?_⟩
     have:=hs' (lo + (l + u) / 2) (lo + i) (by omega) (by omega) (by omega)
     omega
    ·rw [if_neg (by simpa using q)]
     refine wpS_pure ⟨rfl,(l + u) / 2 + 1,u,rfl,by omega,by omega,by omega,fun i h1=>?_,hhi⟩
     have:=hs' (lo + i) (lo + (l + u) / 2) (by omega) (by omega) (by omega)
     omega
  case ipost=>
   rintro c st'' ⟨rfl,l,u,rfl,hlk,hlo,hhi⟩
   dsimp only
   rw [moveDown'_eq]
   have hzz:=V'.size
   have bi:=fun i=>it_bubble (xs:=arrOf st'') (src:=lo + k) (d:=lo + k - (lo + l)) (by omega) (by omega) i
   rw [show lo + k - (lo + k - (lo + l))=lo + l by omega] at bi
   refine wpS_bind (wpS_modify (wpS_pure ⟨rfl,V'.setArr (bubble_perm _ _ _),ep,fun i j h3 h4 h5=>?_,fun j hj=>?_⟩))
   ·show r (it (bubble (arrOf st'') (lo + k) (lo + k - (lo + l))) i)≤r (it (bubble (arrOf st'') (lo + k) (lo + k - (lo + l))) j)
    rw [bi i,bi j]
    have lo':∀ i,lo≤i→i < lo + l→r (it (arrOf st'') i)≤r (it (arrOf st'') (lo + k)):=fun i h1 h2=>by
     have:=hlo (i - lo) (by omega)
     rwa [show lo + (i - lo)=i by omega] at this
    have hi':∀ i,lo + l≤i→i < lo + k→r (it (arrOf st'') (lo + k))≤r (it (arrOf st'') i):=fun i h1 h2=>by
     have:=hhi (i - lo) (by omega) (by omega)
     rw [show lo + (i - lo)=i by omega] at this
     omega
    repeat' split
    all_goals first
     | (exfalso;omega)
     | exact Nat.le_refl _
     | exact lo' _ (by omega) (by omega)
     | exact hi' _ (by omega) (by omega)
     | exact hs' _ _ (by omega) (by omega) (by omega)
   ·show it (bubble (arrOf st'') (lo + k) (lo + k - (lo + l))) j=_
    rw [bi j,if_neg (by omega),if_neg (by omega)]
    exact hj' j hj
end
end TS
namespace TS
open PySem PySem.Spec PyProof.Rows
noncomputable def Cov (r:Keyed→Nat) (a:Array Keyed):Nat→List (Nat×Nat)→Nat→Prop
 | s,[],e=>s=e
 | s,(q,n)::l,e=>q=s∧0 < n∧Son r a s (s + n)∧Cov r a (s + n) l e
theorem Cov.le {r:Keyed→Nat} {a:Array Keyed}:∀ {l:List (Nat×Nat)} {s e:Nat},Cov r a s l e→s + l.length≤e
 | [],_,_,h=>by rw [show _=_ from h];simp
 | (q,n)::l,s,e,⟨_,h2,_,h4⟩=>by
  have:=h4.le
  rw [List.length_cons]
  omega
theorem Cov.congr {r:Keyed→Nat} {a b:Array Keyed}:∀ {l:List (Nat×Nat)} {s e:Nat},Cov r a s l e→(∀ j,s≤j→j < e→it b j=it a j)→Cov r b s l e
 | [],_,_,h,_=>h
 | (q,n)::l,s,e,⟨h1,h2,h3,h4⟩,hc=>by
  have hl:=h4.le
  refine ⟨h1,h2,fun i j a1 a2 a3=>?_,h4.congr fun j a1 a2=>hc j (by omega) a2⟩
  rw [hc i (by omega) (by omega),hc j (by omega) (by omega)]
  exact h3 i j a1 a2 a3
theorem Cov.split {r:Keyed→Nat} {a:Array Keyed}:∀ {l l':List (Nat×Nat)} {s e:Nat},Cov r a s (l++l') e→∃ m,Cov r a s l m∧Cov r a m l' e
 | [],_,s,_,h=>⟨s,rfl,h⟩
 | (q,n)::l,l',s,e,⟨h1,h2,h3,h4⟩=>by
  obtain ⟨m,a1,a2⟩:=h4.split
  exact ⟨m,⟨h1,h2,h3,a1⟩,a2⟩
theorem Cov.join {r:Keyed→Nat} {a:Array Keyed}:∀ {l l':List (Nat×Nat)} {s m e:Nat},Cov r a s l m→Cov r a m l' e→Cov r a s (l++l') e
 | [],_,s,m,_,h,h'=>by cases (show s=m from h);exact h'
 | (q,n)::l,l',s,m,e,⟨h1,h2,h3,h4⟩,h'=>⟨h1,h2,h3,h4.join h'⟩
noncomputable abbrev p2 (st:SortSt):List (Nat×Nat):=(pendingOf st).toList.map fun t=>(t.1,t.2.1)
theorem p2_len (st:SortSt):(p2 st).length=(pendingOf st).size:=by simp
section
variable {prog:Program} {w:World} {A:Around} {E:Value→Shared→Prop} {s:Shared} {κ:SortKind} {r:Keyed→Nat} {a₀:Array Keyed} {st:SortSt}
theorem wpS_mergeC (C:Cmp prog w A s κ r (· ∈a₀.toList)) (V:Iv κ a₀ st) {i lo:Nat} {Q:Bool→SortSt→Prop} (hi:i + 1 < (pendingOf st).size) (hc:Cov r (arrOf st) 0 (p2 st) lo) (hz:lo≤a₀.size)
  (h:∀ st',Iv κ a₀ st'→(pendingOf st').size + 1=(pendingOf st).size→Cov r (arrOf st') 0 (p2 st') lo→(∀ j,lo≤j→it (arrOf st') j=it (arrOf st) j)→Q true st'):
  wpS (model prog w) A E s (mergeAt' i) Q st:=by
 obtain ⟨⟨sa,na,pw⟩,e1⟩:∃ u,(pendingOf st)[i]? =some u:=⟨_,getElem?_pos _ i (by omega)⟩
 obtain ⟨⟨sb,nb,pw'⟩,e2⟩:∃ u,(pendingOf st)[i + 1]? =some u:=⟨_,getElem?_pos _ (i + 1) (by omega)⟩
 have sp:(pendingOf st).toList=(pendingOf st).toList.take i++(sa,na,pw)::(sb,nb,pw')::(pendingOf st).toList.drop (i + 2):=by
  conv=>lhs;rw [←List.take_append_drop i (pendingOf st).toList]
  congr 1
  have f1:(pendingOf st).toList[i]? =some (sa,na,pw):=by rw [Array.getElem?_toList];exact e1
  have f2:(pendingOf st).toList[i + 1]? =some (sb,nb,pw'):=by rw [Array.getElem?_toList];exact e2
  obtain ⟨g1,g1'⟩:=List.getElem?_eq_some_iff.mp f1
  obtain ⟨g2,g2'⟩:=List.getElem?_eq_some_iff.mp f2
  rw [List.drop_eq_getElem_cons g1,g1',List.drop_eq_getElem_cons g2,g2']
 obtain ⟨pre,hpre⟩:∃ pre,pre=(pendingOf st).toList.take i:=⟨_,rfl⟩
 obtain ⟨post,hpost⟩:∃ post,post=(pendingOf st).toList.drop (i + 2):=⟨_,rfl⟩
 have hl:pre.length=i:=by rw [hpre];simp;omega
 rw [←hpre,←hpost] at sp
 have hc':=hc
 unfold p2 at hc'
 rw [sp,List.map_append] at hc'
 obtain ⟨m,c1,c2⟩:=hc'.split
 simp only [List.map_cons] at c2
 obtain ⟨q1,q2,q3,q4,q5,q6,q7⟩:=c2
 have q2:0 < na:=q2
 have q5:0 < nb:=q5
 have q7:Cov r (arrOf st) (m + na + nb) (List.map (fun t:Nat×Nat×Nat=>(t.1,t.2.1)) post) lo:=q7
 have l1:=c1.le
 have l2:=q7.le
 subst q1
 have es:sb=sa + na:=q4
 refine wpS_mergeAt C V e1 e2 es q2 q5 (by omega) (by rw [es];exact q3) (by rw [es];exact q6) fun st' V' ep S' hj=>?_
 have et:(pendingOf st').toList=pre++(sa,na + nb,pw)::post:=by
  rw [ep]
  rw [Array.toList_eraseIdxIfInBounds,Array.toList_setIfInBounds,sp]
  rw [List.set_append_right _ _ (by omega),hl,Nat.sub_self,List.set_cons_zero,List.eraseIdx_append_of_length_le (by omega),hl,show i + 1 - i=1 by omega]
  rfl
 refine h st' V' ?_ ?_ fun j hj'=>hj j (.inr (by omega))
 ·have a1:=congrArg List.length et
  have a2:=congrArg List.length sp
  simp only [Array.length_toList,List.length_append,List.length_cons] at a1 a2
  omega
 ·unfold p2
  rw [et,List.map_append]
  refine Cov.join (c1.congr fun j _ a2=>hj j (.inl a2)) ⟨rfl,(show 0 < na + nb by omega),?_,?_⟩
  ·rw [←Nat.add_assoc,←es];exact S'
  ·rw [←Nat.add_assoc]
   exact q7.congr fun j a1 _=>hj j (.inr (by omega))
theorem p2_modify (p:Array (Nat×Nat×Nat)) (i pw:Nat):(p.modify i fun x=>(x.1,x.2.1,pw)).toList.map (fun t=>(t.1,t.2.1))=p.toList.map fun t=>(t.1,t.2.1):=by
 apply List.ext_getElem
 ·simp
 ·intro j h1 h2
  simp only [List.getElem_map,Array.getElem_toList,Array.getElem_modify]
  split <;> rfl
theorem psh {st1:SortSt} {lo n:Nat} (h1:1≤n) (c1:Cov r (arrOf st1) 0 (p2 st1) lo) (s1:Son r (arrOf st1) lo (lo + n)):Cov r (arrOf st1) 0 (p2 (setPending st1 ((pendingOf st1).push (lo,n,0)))) (lo + n):=by
 show Cov r (arrOf st1) 0 (((pendingOf st1).push (lo,n,0)).toList.map fun t=>(t.1,t.2.1)) (lo + n)
 rw [Array.toList_push,List.map_append]
 exact Cov.join c1 ⟨rfl,h1,s1,rfl⟩
theorem wpS_runs (C:Cmp prog w A s κ r (· ∈a₀.toList)) (hd:(a₀.toList.map r).Nodup) (V:Iv κ a₀ st) {Q:Unit→SortSt→Prop} (h1:1≤a₀.size) (hp:pendingOf st=#[])
  (h:∀ st',Iv κ a₀ st'→Son r (arrOf st') 0 a₀.size→Q () st'):wpS (model prog w) A E s sortRuns' Q st:=by
 rw [sortRuns'_eq]
 refine wpS_bind (wpS_get ?_)
 dsimp only
 simp only [V.size]
 obtain ⟨mr,hmr⟩:∃ mr,mr=minRun' a₀.size a₀.size 0:=⟨_,rfl⟩
 rw [←hmr]
 refine wpS_bind (wpS_mono (wpS_forRange (I:=fun x c st'=>∃ lo,c=(none,lo)∧Iv κ a₀ st'∧x≤lo∧lo≤a₀.size∧Cov r (arrOf st') 0 (p2 st') lo)
  (Q:=fun c st'=>c=(none,a₀.size)∧Iv κ a₀ st'∧Cov r (arrOf st') 0 (p2 st') a₀.size) ?step ?fin ⟨0,rfl,V,by omega,by omega,?init⟩) ?post)
 case init=>
  unfold p2;rw [hp];exact rfl
 case fin=>
  rintro c st' ⟨lo,rfl,V',a1,a2,a3⟩
  obtain rfl:lo=a₀.size:=by omega
  exact ⟨rfl,V',a3⟩
 case step=>
  rintro x c st' _ hx ⟨lo,rfl,V',a1,a2,a3⟩
  dsimp only
  by_cases q:lo≥a₀.size
  ·rw [if_pos q]
   obtain rfl:lo=a₀.size:=by omega
   exact wpS_pure ⟨rfl,V',a3⟩
  rw [if_neg q]
  refine wpS_bind (wpS_count C hd V' (by omega) (by omega) fun n st1 V1 ep n1 n2 n3 n4=>?_)
  dsimp only
  have cv1:Cov r (arrOf st1) 0 (p2 st1) lo:=by
   unfold p2;rw [ep]
   exact a3.congr fun j _ hj=>n4 j hj
  by_cases e1:n < mr
  ·rw [if_pos e1]
   refine wpS_bind (wpS_lift (wpAny_rule ⟨rfl,?_⟩))
   refine wpS_bind (wpS_bin C V1 (by omega) (by omega) n1 n3 fun st2 V2 ep2 m3 m4=>?_)
   rw [if_neg (by simp)]
   have cv2:Cov r (arrOf st2) 0 (p2 st2) lo:=by
    unfold p2;rw [ep2]
    exact cv1.congr fun j _ hj=>m4 j hj
   refine wpS_bind (wpS_get ?_)
   cases eb:(pendingOf st2).back? with
   | none=>
    dsimp only
    exact wpS_bind (wpS_modify (wpS_pure ⟨_,rfl,⟨V2.perm,V2.kind,V2.ok⟩,by omega,by omega,psh (by omega) cv2 m3⟩))
   | some u=>
    obtain ⟨s1,n1,pw1⟩:=u
    dsimp only
    refine wpS_bind (wpS_mono (wpS_forRange (I:=fun x c st'=>c=(none,())∧Iv κ a₀ st'∧Cov r (arrOf st') 0 (p2 st') lo∧∀ j,lo≤j→it (arrOf st') j=it (arrOf st2) j)
     (Q:=fun c st'=>c=(none,())∧Iv κ a₀ st'∧Cov r (arrOf st') 0 (p2 st') lo∧∀ j,lo≤j→it (arrOf st') j=it (arrOf st2) j) ?stepA (fun _ _ hh=>hh) ⟨rfl,V2,cv2,fun _ _=>rfl⟩) ?postA)
    case stepA=>
     rintro x c st' _ hx ⟨rfl,V',cv',hj⟩
     refine wpS_bind (wpS_get ?_)
     by_cases q:(pendingOf st').size > 1
     ·rw [if_pos q]
      obtain ⟨⟨u1,u2,older⟩,e1⟩:∃ u,(pendingOf st')[(pendingOf st').size - 2]? =some u:=⟨_,getElem?_pos _ _ (by omega)⟩
      rw [e1]
      dsimp only
      split
      ·exact wpS_pure ⟨rfl,V',cv',hj⟩
      ·refine wpS_bind (wpS_mergeC C V' (by omega) cv' (by omega) fun st3 V3 _ cv3 hj3=>?_)
       rw [if_neg (by simp)]
       exact wpS_pure ⟨rfl,V3,cv3,fun j hj'=>by rw [hj3 j hj',hj j hj']⟩
     ·rw [if_neg q]
      dsimp only
      exact wpS_pure ⟨rfl,V',cv',hj⟩
    case postA=>
     rintro c st' ⟨rfl,V',cv',hj⟩
     dsimp only
     refine wpS_bind (wpS_modify (wpS_bind (wpS_modify (wpS_pure ⟨_,rfl,⟨V'.perm,V'.kind,V'.ok⟩,by omega,by omega,psh (st1:=setPending st' ((pendingOf st').modify ((pendingOf st').size - 1) fun x=>(x.fst,x.2.fst,power' a₀.size (2 * s1 + n1) (2 * s1 + n1 + n1 + min (a₀.size - lo) mr) a₀.size))) (by omega) ?_ fun i j h3 h4 h5=>?_⟩))))
     ·show Cov r (arrOf st') 0 (((pendingOf st').modify ((pendingOf st').size - 1) fun x=>(x.fst,x.2.fst,power' a₀.size (2 * s1 + n1) (2 * s1 + n1 + n1 + min (a₀.size - lo) mr) a₀.size)).toList.map fun t=>(t.1,t.2.1)) lo
      rw [p2_modify]
      exact cv'
     ·show r (it (arrOf st') i)≤r (it (arrOf st') j)
      rw [hj i h3,hj j (by omega)]
      exact m3 i j h3 h4 h5
  ·rw [if_neg e1]
   refine wpS_bind (wpS_get ?_)
   cases eb:(pendingOf st1).back? with
   | none=>
    dsimp only
    exact wpS_bind (wpS_modify (wpS_pure ⟨_,rfl,⟨V1.perm,V1.kind,V1.ok⟩,by omega,by omega,psh (by omega) cv1 n3⟩))
   | some u=>
    obtain ⟨s1,n1,pw1⟩:=u
    dsimp only
    refine wpS_bind (wpS_mono (wpS_forRange (I:=fun x c st'=>c=(none,())∧Iv κ a₀ st'∧Cov r (arrOf st') 0 (p2 st') lo∧∀ j,lo≤j→it (arrOf st') j=it (arrOf st1) j)
     (Q:=fun c st'=>c=(none,())∧Iv κ a₀ st'∧Cov r (arrOf st') 0 (p2 st') lo∧∀ j,lo≤j→it (arrOf st') j=it (arrOf st1) j) ?stepB (fun _ _ hh=>hh) ⟨rfl,V1,cv1,fun _ _=>rfl⟩) ?postB)
    case stepB=>
     rintro x c st' _ hx ⟨rfl,V',cv',hj⟩
     refine wpS_bind (wpS_get ?_)
     by_cases q:(pendingOf st').size > 1
     ·rw [if_pos q]
      obtain ⟨⟨u1,u2,older⟩,e1⟩:∃ u,(pendingOf st')[(pendingOf st').size - 2]? =some u:=⟨_,getElem?_pos _ _ (by omega)⟩
      rw [e1]
      dsimp only
      split
      ·exact wpS_pure ⟨rfl,V',cv',hj⟩
      ·refine wpS_bind (wpS_mergeC C V' (by omega) cv' (by omega) fun st2 V2 _ cv2 hj2=>?_)
       rw [if_neg (by simp)]
       exact wpS_pure ⟨rfl,V2,cv2,fun j hj'=>by rw [hj2 j hj',hj j hj']⟩
     ·rw [if_neg q]
      dsimp only
      exact wpS_pure ⟨rfl,V',cv',hj⟩
    case postB=>
     rintro c st' ⟨rfl,V',cv',hj⟩
     dsimp only
     refine wpS_bind (wpS_modify (wpS_bind (wpS_modify (wpS_pure ⟨_,rfl,⟨V'.perm,V'.kind,V'.ok⟩,by omega,by omega,psh (st1:=setPending st' ((pendingOf st').modify ((pendingOf st').size - 1) fun x=>(x.fst,x.2.fst,power' a₀.size (2 * s1 + n1) (2 * s1 + n1 + n1 + n) a₀.size))) (by omega) ?_ fun i j h3 h4 h5=>?_⟩))))
     ·show Cov r (arrOf st') 0 (((pendingOf st').modify ((pendingOf st').size - 1) fun x=>(x.fst,x.2.fst,power' a₀.size (2 * s1 + n1) (2 * s1 + n1 + n1 + n) a₀.size)).toList.map fun t=>(t.1,t.2.1)) lo
      rw [p2_modify]
      exact cv'
     ·show r (it (arrOf st') i)≤r (it (arrOf st') j)
      rw [hj i h3,hj j (by omega)]
      exact n3 i j h3 h4 h5
 case post=>
  rintro c st' ⟨rfl,V',cv⟩
  dsimp only
  have one:∀ st2,Iv κ a₀ st2→Cov r (arrOf st2) 0 (p2 st2) a₀.size→(pendingOf st2).size≤1→Son r (arrOf st2) 0 a₀.size:=fun st2 V2 cv2 hle=>by
   have hl:=p2_len st2
   match hq:p2 st2,cv2 with
   | [],c=>have:(0:Nat)=a₀.size:=c;omega
   | [(q,n)],c=>
    obtain ⟨c1,c2,c3,c4⟩:=c
    have c4:0 + n=a₀.size:=c4
    rw [←c4];exact c3
   | _::_::_,c=>rw [hq] at hl;simp at hl;omega
  have hlen:(pendingOf st').size≤a₀.size:=by have:=cv.le;rw [p2_len] at this;omega
  refine wpS_bind (wpS_mono (wpS_forRange (I:=fun x c st2=>c=(none,())∧Iv κ a₀ st2∧Cov r (arrOf st2) 0 (p2 st2) a₀.size∧((pendingOf st2).size≤1∨(pendingOf st2).size + x≤a₀.size))
   (Q:=fun c st2=>c=(none,())∧Iv κ a₀ st2∧Son r (arrOf st2) 0 a₀.size) ?step3 ?fin3 ⟨rfl,V',cv,.inr (by omega)⟩) ?post3)
  case fin3=>
   rintro c st2 ⟨rfl,V2,cv2,hh⟩
   exact ⟨rfl,V2,one st2 V2 cv2 (by omega)⟩
  case post3=>
   rintro c st2 ⟨rfl,V2,sn⟩
   exact wpS_pure (h st2 V2 sn)
  case step3=>
   rintro x c st2 _ hx ⟨rfl,V2,cv2,hh⟩
   refine wpS_bind (wpS_get ?_)
   by_cases q:(pendingOf st2).size≤1
   ·rw [if_pos q]
    exact wpS_pure ⟨rfl,V2,one st2 V2 cv2 q⟩
   ·rw [if_neg q]
    refine wpS_bind (wpS_mergeC C V2 ?_ cv2 (Nat.le_refl _) fun st3 V3 e3 cv3 _=>?_)
    ·repeat' split
     all_goals omega
    ·rw [if_neg (by simp)]
     exact wpS_pure ⟨rfl,V3,cv3,.inr (by omega)⟩
end
end TS
namespace TS
open PySem PySem.Spec PyProof.Rows L2
theorem countP_lt {α:Type} {p q:α→Bool}:∀ {l:List α},(∀ x∈l,p x=true→q x=true)→(∃ x∈l,q x=true∧p x=false)→l.countP p < l.countP q
 | [],_,⟨_,h,_⟩=>nomatch h
 | a::l,h1,⟨x,hx,h2,h3⟩=>by
  have le:l.countP p≤l.countP q:=List.countP_mono_left fun y hy hp=>h1 y (List.mem_cons_of_mem _ hy) hp
  rw [List.countP_cons,List.countP_cons]
  rcases List.mem_cons.mp hx with rfl | hx
  ·rw [h2,h3];simp;omega
  ·have ih:=countP_lt (fun y hy=>h1 y (List.mem_cons_of_mem _ hy)) ⟨x,hx,h2,h3⟩
   have ha:=h1 a List.mem_cons_self
   cases ep:p a <;> cases eq:q a <;> simp [ep,eq] at ha ⊢ <;> omega
noncomputable def rk (lt:Nat→Nat→Bool) (n i:Nat):Nat:=(List.range n).countP fun j=>lt j i
section
variable {lt:Nat→Nat→Bool} {n:Nat} (S:Str1 lt n)
include S
theorem rk_lt {i j:Nat} (hi:i < n) (hj:j < n) (h:lt i j=true):rk lt n i < rk lt n j:=
 countP_lt (fun k hk hp=>S.tr k i j (List.mem_range.mp hk) hi hj hp h) ⟨i,List.mem_range.mpr hi,h,by
  cases e:lt i i with
  | false=>rfl
  | true=>have:=S.irr i i hi hi e;rw [e] at this;cases this⟩
theorem rk_dec {i j:Nat} (hi:i < n) (hj:j < n):decide (rk lt n i < rk lt n j)=lt i j:=by
 cases e:lt i j with
 | true=>simpa using rk_lt S hi hj e
 | false=>
  by_cases q:i=j
  ·subst q;simp
  ·have:=rk_lt S hj hi (S.tot i j hi hj q e)
   simp;omega
theorem rk_inj {i j:Nat} (hi:i < n) (hj:j < n) (h:rk lt n i=rk lt n j):i=j:=by
 by_cases q:i=j
 ·exact q
 ·cases e:lt i j with
  | true=>have:=rk_lt S hi hj e;omega
  | false=>have:=rk_lt S hj hi (S.tot i j hi hj q e);omega
end
theorem perm_map_inv {α β:Type} {f:α→β} {l₁ m:List β} (h:l₁.Perm m):∀ l₂:List α,m=l₂.map f→∃ l:List α,l.Perm l₂∧l₁=l.map f:=by
 induction h with
 | nil=>intro l₂ e;exact ⟨[],by cases l₂ with | nil=>exact .nil | cons=>simp at e,rfl⟩
 | cons x _ ih=>
  intro l₂ e
  cases l₂ with
  | nil=>simp at e
  | cons a t=>
   rw [List.map_cons] at e
   obtain ⟨rfl,e2⟩:=List.cons.inj e
   obtain ⟨l,p,q⟩:=ih t e2
   exact ⟨a::l,p.cons a,by rw [q];rfl⟩
 | swap x y t=>
  intro l₂ e
  match l₂,e with
  | a::b::t',e=>
   rw [List.map_cons,List.map_cons] at e
   obtain ⟨rfl,e2⟩:=List.cons.inj e
   obtain ⟨rfl,rfl⟩:=List.cons.inj e2
   exact ⟨b::a::t',.swap a b t',rfl⟩
 | trans _ _ ih1 ih2=>
  intro l₂ e
  obtain ⟨l,p,q⟩:=ih2 l₂ e
  obtain ⟨l',p',q'⟩:=ih1 l q
  exact ⟨l',p'.trans p,q'⟩
noncomputable def rkv (lt:Nat→Nat→Bool) (vs:List Value) (x:Keyed):Nat:=
 open Classical in if h:∃ i,i < vs.length∧vs.getD i Value.none=x.1 then rk lt vs.length (Classical.choose h) else 0
theorem rkv_at {lt:Nat→Nat→Bool} {vs:List Value} (nd:vs.Nodup) {i:Nat} (hi:i < vs.length) (v:Value):rkv lt vs (vs.getD i Value.none,v)=rk lt vs.length i:=by
 have h:∃ j,j < vs.length∧vs.getD j Value.none=vs.getD i Value.none:=⟨i,hi,rfl⟩
 unfold rkv
 rw [dif_pos h]
 congr 1
 obtain ⟨h1,h2⟩:=Classical.choose_spec h
 generalize Classical.choose h=c at h1 h2 ⊢
 rw [List.getD_eq_getElem?_getD,List.getD_eq_getElem?_getD,List.getElem?_eq_getElem h1,List.getElem?_eq_getElem hi] at h2
 exact (List.getElem_inj nd).mp h2
theorem pairs_map (vs:List Value):(pairsOf vs).toList=(List.range vs.length).map fun i=>(vs.getD i Value.none,vs.getD i Value.none):=by
 rw [pairsOf_toList]
 apply List.ext_getElem
 ·simp
 ·intro i h1 h2
  simp at h1 h2 ⊢
  simp [h2]
section
variable {prog:Program} {w:World} {A:Around} {E:Value→Shared→Prop} {s:Shared} {h₀:Heap} {L a:Addr} {m:Str→Option Value} {news:List (Addr×Obj)} {vs:List Value}
structure Need (prog:Program) (w:World) (A:Around) (vs:List Value) (s:Shared) (R:List Nat→Prop):Prop where
 need:∃ κ lt,Str1 lt vs.length∧(∀ Q:SortKind→Shared→Prop,Q κ s→wpAny (model prog w) A (keyKind' vs.toArray) Q (fun _ _=>False) s)∧
  (∀ i j,i < vs.length→j < vs.length→∀ Q:Bool→Shared→Prop,Q (lt i j) s→wpAny (model prog w) A (keyLt' κ (vs.getD i Value.none) (vs.getD j Value.none)) Q (fun _ _=>False) s)∧
  ∀ p:List Nat,p.Perm (List.range vs.length)→p.Pairwise (fun i j=>lt i j=true)→R p
theorem big_list_sort {n:Nat} {P:PySem.Fin→Shared→Prop} (F:Fr h₀ L s.heap m) (N:News h₀ L s.heap news) (ho:s.heap.get? a=some (seqObj "list" vs.toArray n)) (haL:a≠L) (ha0:h₀.get? a=none) (hna:∀ p∈news,p.1≠a)
  (h2:2≤vs.length) (hz:vs.length≤sizeLine) (nd:vs.Nodup)
  (h:∀ e1 h',Fr h₀ L h' m→News h₀ L h' ((a,seqObj "list" #[] e1)::news)→
   Need prog w A vs { s with heap:=h' } fun p=>PySem.W.KasFin h₀ L m a e1 (p.map fun i=>vs.getD i Value.none) (fun s3=>P (.done (.ret .none)) s3) { s with heap:=h' }):
  wpAny (model prog w) A (Builtin.«list.sort» ⟨[.ref a],[]⟩) P E s:=by
 have same:=Heap.SameBut.update s.heap a (Obj.mapSeq fun _=>(#[]:Array Value))
 obtain ⟨e1,ho1⟩:∃ e1,(s.heap.update a (Obj.mapSeq fun _=>(#[]:Array Value))).get? a=some (seqObj "list" #[] e1):=⟨_,get?_update_seq ho fun _=>#[]⟩
 obtain ⟨hp,hhp⟩:∃ hp,hp=((s.heap.update a (Obj.mapSeq fun _=>(#[]:Array Value))).push (seqObj "tuple" vs.toArray 0)).push (seqObj "list" #[] 0):=⟨_,rfl⟩
 have F3:Fr h₀ L hp m:=by rw [hhp];exact ((PySem.W.kas_fr F same haL ha0).push _).push _
 have N3:News h₀ L hp ((a,seqObj "list" #[] e1)::news):=by
  rw [hhp]
  intro p hp
  rcases List.mem_cons.mp hp with rfl | hp
  ·exact ⟨Heap.get?_push_of_some _ (Heap.get?_push_of_some _ ho1),haL,ha0⟩
  ·exact (PySem.W.kas_news N same hna).grown (fun b x e=>Heap.get?_push_of_some _ (Heap.get?_push_of_some _ e)) p hp
 obtain ⟨κ,lt,S,hκ,hlt,hfin⟩:=(h e1 hp F3 N3).need
 rw [list_sort_plain]
 refine wpAny_bind (listItems_at ho rfl ?_)
 refine wpAny_bind (listUpdate_at ho rfl ?_ (by rw [List.size_toArray];exact hz) (Nat.zero_le _))
 refine wpAny_bind (seqEpoch_at ho1 rfl ?_)
 refine wpAny_bind (wpAny_newTuple ?_ (by show vs.length≤_;exact hz))
 refine wpAny_bind (wpAny_newList ?_ (Nat.zero_le _))
 refine wpAny_holding ?_
 show wpAny (model prog w) A _ P E { s with heap:=((s.heap.update a (Obj.mapSeq fun _=>(#[]:Array Value))).push (seqObj "tuple" vs.toArray 0)).push (seqObj "list" #[] 0) }
 rw [←hhp]
 dsimp only
 have hn2:¬vs.toArray.size < 2:=by rw [List.size_toArray];omega
 rw [if_neg hn2,if_neg hn2]
 refine wpAny_bind (wpAny_mono (hκ (fun k s'=>k=κ∧s'={ s with heap:=hp }) ⟨rfl,rfl⟩) (fun k s0 hk=>?_) fun _ _ x=>x.elim)
 obtain ⟨rfl,rfl⟩:=hk
 have pz:(pairsOf vs).size=vs.length:=pairsOf_size vs
 have C:Cmp prog w A { s with heap:=hp } k (rkv lt vs) (· ∈(pairsOf vs).toList):=fun x y hx hy Q q=>by
  rw [pairs_map] at hx hy
  obtain ⟨i,hi,rfl⟩:=List.mem_map.mp hx
  obtain ⟨j,hj,rfl⟩:=List.mem_map.mp hy
  have hi:=List.mem_range.mp hi
  have hj:=List.mem_range.mp hj
  rw [rkv_at nd hi,rkv_at nd hj,rk_dec S hi hj] at q
  exact hlt i j hi hj Q q
 have rm:(pairsOf vs).toList.map (rkv lt vs)=(List.range vs.length).map (rk lt vs.length):=by
  rw [pairs_map,List.map_map]
  exact List.map_congr_left fun i hi=>rkv_at nd (List.mem_range.mp hi) _
 have ndr:((pairsOf vs).toList.map (rkv lt vs)).Nodup:=by
  rw [rm,List.Nodup,List.pairwise_map]
  exact (List.nodup_range (n:=vs.length)).imp_of_mem fun hi hj ne e=>ne (rk_inj S (List.mem_range.mp hi) (List.mem_range.mp hj) e)
 have run:=wpS_runs (E:=E) (a₀:=pairsOf vs) (st:=SortSt.mk' k (pairsOf vs) #[] 7 none) (Q:=fun _ st'=>Iv k (pairsOf vs) st'∧Son (rkv lt vs) (arrOf st') 0 (pairsOf vs).size) C ndr ⟨Array.Perm.refl _,rfl,rfl⟩ (by rw [pz];omega) rfl fun st' V sn=>⟨V,sn⟩
 refine wpAny_bind (wpAny_mono run ?_ fun _ _ e=>e)
 rintro ⟨⟨⟩,st'⟩ s' ⟨rfl,V,sn⟩
 dsimp only
 obtain ⟨p,pp,pe⟩:=perm_map_inv (Array.perm_iff_toList_perm.mp V.perm) _ (pairs_map vs)
 have plt:∀ i∈p,i < vs.length:=fun i hi=>List.mem_range.mp (pp.mem_iff.mp hi)
 have pl:p.length=vs.length:=by rw [pp.length_eq,List.length_range]
 have up:p.Pairwise fun i j=>lt i j=true:=by
  rw [List.pairwise_iff_getElem]
  intro i j hi hj hij
  have ei:∀ x (hx:x < p.length),rkv lt vs (it (arrOf st') x)=rk lt vs.length p[x]:=fun x hx=>by
   have hx':x < (arrOf st').size:=by rw [V.size,pz,←pl];exact hx
   rw [it_eq hx',←Array.getElem_toList hx']
   have e:(arrOf st').toList[x]'(by simpa using hx')=(vs.getD p[x] Value.none,vs.getD p[x] Value.none):=by
    rw [List.getElem_of_eq pe,List.getElem_map]
   rw [e,rkv_at nd (plt _ (List.getElem_mem hx))]
  have:=sn i j (Nat.zero_le _) (by omega) (by rw [pz,←pl];exact hj)
  rw [ei i hi,ei j hj] at this
  have a1:=plt _ (List.getElem_mem hi)
  have a2:=plt _ (List.getElem_mem hj)
  have pn:p.Nodup:=pp.nodup_iff.mpr List.nodup_range
  have ne:p[i]≠p[j]:=fun e=>by have:=(List.getElem_inj pn).mp e;omega
  cases e:lt p[i] p[j] with
  | true=>rfl
  | false=>have:=rk_lt S a2 a1 (S.tot _ _ a1 a2 ne e);omega
 obtain ⟨news',g,F',N',U,kk⟩:=hfin p pp up
 obtain ⟨pre,post,e0,hg,x1,x2⟩:=U.split
 rw [e0] at N'
 have na:=N' (a,seqObj "list" #[] e1) (List.mem_append_right _ (.head _))
 have hout:(arrOf st').map (·.2)=List.toArray (p.map fun i=>vs.getD i Value.none):=by
  apply Array.toList_inj.mp
  rw [Array.toList_map,pe,List.map_map]
  rfl
 have hsz:(List.toArray (p.map fun i=>vs.getD i Value.none)).size=vs.length:=by rw [List.size_toArray,List.length_map,pl]
 rw [hout]
 have s2:=Heap.SameBut.update hp a (Obj.mapSeq fun _=>List.toArray (p.map fun i=>vs.getD i Value.none))
 obtain ⟨c2,hc2⟩:∃ c2,(hp.update a (Obj.mapSeq fun _=>List.toArray (p.map fun i=>vs.getD i Value.none))).get? a=some (seqObj "list" (List.toArray (p.map fun i=>vs.getD i Value.none)) c2):=⟨_,get?_update_seq na.1 fun _=>List.toArray (p.map fun i=>vs.getD i Value.none)⟩
 refine wpAny_bind (seqEpoch_at na.1 rfl ?_)
 refine wpAny_bind (listUpdate_at na.1 rfl ?_ (Nat.zero_le _) (Nat.le_trans (Nat.le_of_eq hsz) (Nat.le_succ_of_le hz)))
 rw [V.ok]
 simp only [bne_self_eq_false,Bool.false_eq_true,if_false]
 refine wpAny_pure (kk _ c2 (PySem.W.kas_fr F' s2 na.2.1 na.2.2) ?_)
 rw [hg]
 exact PySem.W.news_set N' x1 x2 s2 hc2
theorem sorted_big {l:Addr} {Q:Value→Shared→Prop} (F:Fr h₀ L s.heap m) (N:News h₀ L s.heap news) (hl:Col prog w s l vs) (h2:2≤vs.length) (hz:vs.length≤sizeLine) (nd:vs.Nodup)
  (h:∀ D e1 h',Fr h₀ L h' m→News h₀ L h' ((D,seqObj "list" #[] e1)::news)→(∀ q∈news,q.1 < D)→
   Need prog w A.in1.in1 vs { s with heap:=h' } fun p=>PySem.W.KasFin h₀ L m D e1 (p.map fun i=>vs.getD i Value.none) (fun s3=>Q (.ref D) s3) { s with heap:=h' }):
  wpAny (model prog w) A (call (.builtin "sorted") [.ref l]) Q E s:=by
 refine Calls.call_function_entry kind_sorted plain_sorted entry_sorted (args_sorted1 _) ?_
 unfold Builtin.«sorted»
 refine wpAny_bind (m:=checkCount "sorted" 1 1 _) (wpAny_pure ?_)
 refine wpAny_bind (hl _ _ _ ?_)
 refine wpAny_bind (wpAny_newList ?_ hz)
 have hsz:((s.heap.push (seqObj "list" #[] 0)).update s.heap.objs.size (Obj.mapSeq (· ++vs.toArray))).objs.size=s.heap.objs.size + 1:=by
  rw [Heap.size_update,size_push']
 have hoL:(((s.heap.push (seqObj "list" #[] 0)).update s.heap.objs.size (Obj.mapSeq (· ++vs.toArray))).push (seqObj "list" vs.toArray 0)).get? (s.heap.objs.size + 1)=some (seqObj "list" vs.toArray 0):=by
  rw [←hsz];exact Heap.get?_push_size _ rfl
 have keep:∀ b o,s.heap.get? b=some o→(((s.heap.push (seqObj "list" #[] 0)).update s.heap.objs.size (Obj.mapSeq (· ++vs.toArray))).push (seqObj "list" vs.toArray 0)).get? b=some o:=fun b o q=>by
  have hlt:b < s.heap.objs.size:=Heap.lt_size q
  rw [Heap.get?_push_ne _ _ _ (by rw [hsz];exact Nat.ne_of_lt (Nat.lt_succ_of_lt hlt)),Heap.get?_update_ne _ _ _ _ (Nat.ne_of_lt hlt),Heap.get?_push_ne _ _ _ (Nat.ne_of_lt hlt)]
  exact q
 have hL:L < s.heap.objs.size:=F.ns.lt
 show wpAny _ _ _ _ _ { s with heap:=((s.heap.push (seqObj "list" #[] 0)).update s.heap.objs.size (Obj.mapSeq (· ++vs.toArray))).push (seqObj "list" vs.toArray 0) }
 rw [hsz]
 refine wpAny_bind (wpAny_holding (wpAny_call_entry slot_list_sort ⟨_,hoL,rfl⟩ entry_list_sort ?body (args_list_sort _)))
 case body=>
  refine big_list_sort (s:={ s with heap:=((s.heap.push (seqObj "list" #[] 0)).update s.heap.objs.size (Obj.mapSeq (· ++vs.toArray))).push (seqObj "list" vs.toArray 0) })
   (F.kept keep) (N.grown keep) hoL (Nat.ne_of_gt (Nat.lt_succ_of_lt hL)) (Heap.get?_none_of_le (Nat.le_trans F.above (Nat.le_succ_of_le (Nat.le_of_lt hL))))
   (fun p hp=>Nat.ne_of_lt (Nat.lt_succ_of_lt (Heap.lt_size (N p hp).1))) h2 hz nd fun e1 h' F' N'=>?_
  obtain ⟨κ,lt,S,hκ,hlt,hfin⟩:=(h _ e1 h' F' N' fun q hq=>Nat.lt_succ_of_lt (Heap.lt_size (N q hq).1)).need
  exact ⟨κ,lt,S,hκ,hlt,fun p pp up=>(hfin p pp up).mono fun s3 hq=>⟨_,rfl,wpAny_pure ⟨_,rfl,hq⟩⟩⟩
end
end TS
namespace L2
open PySem PySem.Spec PyProof.Rows
section
variable {X:Cx}
noncomputable def rSortB (K:PySem.W.Frag):List V→Hp→VK→Prop:=fun xs H Q=>∃ (p:Addr) (vs:List V) (nss:List (List Int)),xs=[.ref p]∧(SqL K H p vs∨SqT K H p vs)∧IsAll H vs (nss.map (tupOf []))∧(∀ ns∈nss,ns≠[])∧nss.Nodup∧
 ∀ (l:Addr) (vs':List V) (nss':List (List Int)),H l=none→IsAll H vs' (nss'.map (tupOf []))→nss'.Perm nss→nss'.Pairwise (fun a b=>HT.lexLt a b=true)→Q (.ref l) (upd H l (.lst vs'))
theorem call_sortB:CallR X (.builtin "sorted") (rSortB X.K):=by
 intro pins s σ H xs us Q I r h
 obtain ⟨p,vs,nss,rfl,hq,ha,hk,hnd,q⟩:=h
 obtain ⟨ps,hps0⟩:∃ ps:List Str,ps=[]:=⟨_,rfl⟩
 rw [←hps0] at ha q
 obtain ⟨u,rfl,rx⟩:=Vals.one r
 cases (show u=Value.ref p from rx)
 obtain ⟨its,rv,hl,hz⟩:∃ its,Vals vs its∧Col X.prog X.w s p its∧vs.length≤sizeLine:=by
  rcases hq with hq | hq
  ·obtain ⟨its,rv,pl,hz⟩:=I.list hq
   exact ⟨its,rv,Col.list pl.isList (by rw [←rv.length];exact hz),hz⟩
  ·obtain ⟨its,rv,pl,hz⟩:=I.tuple hq
   exact ⟨its,rv,Col.tup pl (by rw [←rv.length];exact hz),hz⟩
 have e1:vs.length=nss.length:=by rw [ha.length,List.length_map]
 have e2:its.length=nss.length:=by rw [←rv.length,e1]
 by_cases h2:its.length < 2
 ·refine sorted_few hl h2 fun D h' n hD hkeep ho=>?_
  refine ⟨.ref D,_,I.laid (t':=s.toks) (o:=.lst vs) hkeep hD ⟨hz,its,n,rv,ho⟩,rfl,q D vs nss (I.hok.fresh hD) ha (List.Perm.refl _) ?_⟩
  match nss,e2,h2 with
  | [],_,_=>exact .nil
  | [a],_,_=>exact List.pairwise_singleton _ _
  | a::b::r,e2,h2=>simp at e2;omega
 ·obtain ⟨m,F⟩:=I.fr
  have ndi:its.Nodup:=by
   rw [List.Nodup,List.pairwise_iff_getElem]
   intro i j hi hj hij e
   have hi':i < nss.length:=by omega
   have hj':j < nss.length:=by omega
   obtain ⟨v,ev,iv⟩:=ha.get (i:=i) (d:=tupOf ps nss[i]) (by rw [List.getElem?_map,List.getElem?_eq_getElem hi'];rfl)
   obtain ⟨v',ev',iv'⟩:=ha.get (i:=j) (d:=tupOf ps nss[j]) (by rw [List.getElem?_map,List.getElem?_eq_getElem hj'];rfl)
   obtain ⟨u,eu,ru⟩:=rv.get ev
   obtain ⟨u',eu',ru'⟩:=rv.get ev'
   rw [List.getElem?_eq_getElem hi] at eu
   rw [List.getElem?_eq_getElem hj] at eu'
   have ee:u=u':=by rw [←Option.some.inj eu,←Option.some.inj eu',e]
   unfold tupOf at iv iv'
   cases iv with
   | @tup a xs _ ea hxs=>
    cases iv' with
    | @tup a' xs' _ ea' hxs'=>
     have r1:u=Value.ref a:=ru
     have r2:u'=Value.ref a':=ru'
     rw [r1,r2] at ee
     cases ee
     rw [ea] at ea'
     cases ea'
     have h1:=hxs.preInts
     have h2:=hxs'.preInts
     rw [h1] at h2
     have h3:=List.append_cancel_left h2
     have h4:nss[i]=nss[j]:=by
      have:=congrArg (List.map fun v:V=>match v with | .int n=>n | _=>0) h3
      simpa [List.map_map,Function.comp_def] using this
     have:=(List.getElem_inj hnd).mp h4
     omega
  refine TS.sorted_big F (news:=allNews X.base s.heap X.env.locals) news_all hl (by omega) (by rw [←rv.length];exact hz) ndi fun D e0 h' F' N' hD=>?_
  have hkeep:∀ b o,b≠X.env.locals→s.heap.get? b=some o→h'.get? b=some o:=fun b o hb e=>by
   cases qb:X.base.get? b with
   | some u=>
    have:=I.bk b u qb
    rw [e] at this;cases this
    exact F'.keep b _ qb
   | none=>exact (N' (b,o) (List.mem_cons_of_mem _ (mem_allNews hb qb e))).1
  have item:∀ (i:Nat) (ns:List Int),nss[i]? =some ns→∃ (a:Addr) (o:Obj) (zs:List Value) (n:Nat),its.getD i Value.none=.ref a∧h'.get? a=some o∧o.cls=.type "tuple"∧o.data=.seq zs.toArray n∧Vals (ps.map V.str++ns.map V.int) zs:=fun i ns e=>by
   obtain ⟨v,ev,iv⟩:=ha.get (i:=i) (d:=tupOf ps ns) (by rw [List.getElem?_map,e];rfl)
   obtain ⟨u,eu,ru⟩:=rv.get ev
   unfold tupOf at iv
   cases iv with
   | @tup a xs _ ea hxs=>
    obtain rfl:=hxs.preInts
    obtain ⟨zs,rz,⟨o,h1,h2,n,h3⟩,_⟩:=I.tuple (SqT.of ea)
    have hL:a≠X.env.locals:=fun z=>by rw [z,I.free] at ea;cases ea
    refine ⟨a,o,zs,n,?_,hkeep a o hL h1,h2,h3,rz⟩
    rw [List.getD_eq_getElem?_getD,eu]
    exact ru
  obtain ⟨T,fs,tups,hfl,hT,hTT⟩:∃ (T:String) (fs:List Value),PySem.W.KatTups h' its fs∧fs.length=its.length∧(∀ v∈fs,typeOf v=pure (Value.type T))∧(Value.type T==Value.type T)=true:=by
   have go:∀ T:String,(∀ (ns:List Int) (zs:List Value),ns≠[]→Vals (ps.map V.str++ns.map V.int) zs→∃ f,zs.toArray[0]? =some f∧typeOf f=pure (Value.type T))→
     ∃ (fs:List Value),PySem.W.KatTups h' its fs∧fs.length=its.length∧(∀ v∈fs,typeOf v=pure (Value.type T)):=fun T hf=>
    katTups_of its fun i u eu=>by
     have hi:i < nss.length:=by rw [←e2];exact (List.getElem?_eq_some_iff.mp eu).1
     obtain ⟨a,o,zs,n,g1,g2,g3,g4,g5⟩:=item i nss[i] (List.getElem?_eq_getElem hi)
     rw [List.getD_eq_getElem?_getD,eu] at g1
     obtain ⟨f,f1,f2⟩:=hf _ zs (hk _ (List.getElem_mem hi)) g5
     exact ⟨a,o,zs.toArray,n,f,g1,g2,g3,g4,f1,f2⟩
   cases hps:ps with
   | nil=>
    obtain ⟨fs,a,b,c⟩:=go "int" fun ns zs hn rz=>by
     subst hps
     match ns,zs,rz,hn with
     | [],_,_,hn=>exact absurd rfl hn
     | n::ns,_,.cons r _,_=>
      obtain ⟨t,rfl⟩:=r
      exact ⟨_,rfl,rfl⟩
    exact ⟨"int",fs,a,b,c,rfl⟩
   | cons p1 pr=>rw [hps0] at hps;cases hps
  have S:Str1 (fun i j=>HT.lexLt (nss.getD i []) (nss.getD j [])) its.length:=⟨fun i j k _ _ _ a b=>lex_tr a b,fun i j hi hj hne a=>lex_tot (fun z=>hne ?_) a,fun i j _ _ a=>lex_asym a⟩
  ·refine ⟨_,_,S,fun Q q=>PySem.W.kat_kind tups (by omega) (fun v hv=>PySem.W.Looks.of_pure (hT v hv)) hTT q,fun i j hi hj C hC=>?_,fun pq pm up=>?_⟩
   rw [e2] at hi hj
   ·show wpAny _ _ (keyLt' _ (its.getD i Value.none) (its.getD j Value.none)) C _ _
    obtain ⟨a,o,zs,n,g1,g2,g3,g4,g5⟩:=item i nss[i] (List.getElem?_eq_getElem hi)
    obtain ⟨a',o',zs',n',g1',g2',g3',g4',g5'⟩:=item j nss[j] (List.getElem?_eq_getElem hj)
    rw [g1,g1']
    refine PySem.W.kat_lt g2 g4 g2' g4' ?_
    have g5a:Vals (nss[i].map V.int) zs:=by rw [hps0] at g5;exact g5
    have g5b:Vals (nss[j].map V.int) zs':=by rw [hps0] at g5';exact g5'
    have ez:decide (zs.toArray.size < zs'.toArray.size)=decide (nss[i].length < nss[j].length):=by
     have l1:=g5a.length
     have l2:=g5b.length
     rw [List.length_map] at l1 l2
     rw [List.size_toArray,List.size_toArray,l1,l2]
    rw [ez]
    refine lex_any 0 (by simpa using g5a) (by simpa using g5b) ?_
    have e1':nss.getD i []=nss[i]:=by simp [hi]
    have e2':nss.getD j []=nss[j]:=by simp [hj]
    rw [←e1',←e2']
    exact hC
   ·rw [e2] at pm
    refine PySem.W.KasFin.intro F' N' (.head fun x hx=>Nat.ne_of_lt (hD x hx)) fun h'' c F'' N''=>?_
    have hnD:s.heap.get? D=none:=by
     cases qd:s.heap.get? D with
     | none=>rfl
     | some o=>
      have hh:=N' (D,_) List.mem_cons_self
      have hm:=hD (D,o) (mem_allNews hh.2.1 hh.2.2 qd)
      exact absurd hm (Nat.lt_irrefl _)
    have hkeep2:∀ b o,b≠X.env.locals→s.heap.get? b=some o→h''.get? b=some o:=fun b o hb e=>by
     cases qb:X.base.get? b with
     | some u=>
      have:=I.bk b u qb
      rw [e] at this;cases this
      exact F''.keep b _ qb
     | none=>exact (N'' (b,o) (List.mem_cons_of_mem _ (mem_allNews hb qb e))).1
    have hlt:∀ x∈pq,x < nss.length:=fun x hx=>List.mem_range.mp (pm.mem_iff.mp hx)
    have rv2:∀ l:List Nat,(∀ x∈l,x < nss.length)→Vals (l.map fun i=>vs.getD i .non) (l.map fun i=>its.getD i Value.none)∧IsAll H (l.map fun i=>vs.getD i .non) ((l.map fun i=>nss.getD i []).map (tupOf ps)):=fun l=>by
     induction l with
     | nil=>exact fun _=>⟨.nil,.nil⟩
     | cons x l ih=>
      intro hx
      obtain ⟨ih1,ih2⟩:=ih fun y hy=>hx y (List.mem_cons_of_mem _ hy)
      have hxn:=hx x List.mem_cons_self
      obtain ⟨v,ev,iv⟩:=ha.get (i:=x) (d:=tupOf ps nss[x]) (by rw [List.getElem?_map,List.getElem?_eq_getElem hxn];rfl)
      obtain ⟨u,eu,ru⟩:=rv.get ev
      have a1:vs.getD x .non=v:=by rw [List.getD_eq_getElem?_getD,ev];rfl
      have a2:its.getD x Value.none=u:=by rw [List.getD_eq_getElem?_getD,eu];rfl
      have a3:nss.getD x []=nss[x]:=by simp [hxn]
      simp only [List.map_cons,a1,a2,a3]
      exact ⟨.cons ru ih1,.cons iv ih2⟩
    obtain ⟨rv3,ia3⟩:=rv2 pq hlt
    have ho:=(N'' (D,_) List.mem_cons_self).1
    have hpl:pq.length=nss.length:=by rw [pm.length_eq,List.length_range]
    refine ⟨.ref D,_,I.laidBut (t':=s.toks) hkeep2 F.ns F''.ns hnD rv3 (by rw [List.length_map,hpl,←e1];exact hz) ho,rfl,q D _ _ (I.none_of hnD) ia3 ?_ ?_⟩
    ·have:=pm.map fun i=>nss.getD i []
     rw [map_getD_range] at this
     exact this
    ·rw [List.pairwise_map]
     exact up
  ·rw [e2] at hi hj
   have e1':nss.getD i []=nss[i]:=by simp [hi]
   have e2':nss.getD j []=nss[j]:=by simp [hj]
   rw [e1',e2'] at z
   exact (List.getElem_inj hnd).mp z
theorem k_sortB (K:PySem.W.Frag) (h:X.K=K:=by rfl):CallR X (.builtin "sorted") (rSortB K):=h▸call_sortB
end
section
variable {H:Hp} {Q:VK} {K:PySem.W.Frag}
theorem rd_sortB {p:Addr} {vs:List V} {nss:List (List Int)} (e:H p=some (.lst vs)) (ha:IsAll H vs (nss.map (tupOf []))) (hk:∀ ns∈nss,ns≠[]) (nd:nss.Nodup)
  (h:∀ (l:Addr) (vs':List V) (nss':List (List Int)),H l=none→IsAll H vs' (nss'.map (tupOf []))→nss'.Perm nss→nss'.Pairwise (fun a b=>HT.lexLt a b=true)→Q (.ref l) (upd H l (.lst vs'))):rSortB K [.ref p] H Q:=⟨p,vs,nss,rfl,.inl (SqL.of e),ha,hk,nd,h⟩
end
end L2
namespace PySem.AutoSeq1
open PySem PySem.Spec
end PySem.AutoSeq1
namespace L2
open PySem PySem.Spec PyProof.Rows
section
variable {X:Cx}
end
section
variable {H:Hp} {Q:VK} {K:PySem.W.Frag}
end
end L2
namespace L2
open PySem PySem.Spec PyProof.Rows
structure ZipD (z TI TO i1 i2:Addr):Prop where
 TIz:TI≠z
 TOz:TO≠z
 i1z:i1≠z
 i2z:i2≠z
 TITO:TI≠TO
 TIi1:TI≠i1
 TIi2:TI≠i2
 TOi1:TO≠i1
 TOi2:TO≠i2
 i12:i1≠i2
section
variable {H:Hp} {K:PySem.W.Frag}
end
end L2
namespace L2
open PySem PySem.Spec PyProof.Rows
section
variable {prog:Program} {w:World} {A:Around} {E:Value→Shared→Prop} {s:Shared}
end
section
variable {H:Hp} {K:PySem.W.Frag}
end
end L2
namespace L2
open PySem PySem.Spec PyProof.Rows
section
variable {prog:Program} {w:World} {A:Around} {E:Value→Shared→Prop} {s:Shared}
end
end L2
namespace L2
open PySem PySem.Spec PyProof.Rows
section
variable {X:Cx}
end
end L2
namespace L2
open PySem PySem.Spec PyProof.Rows
noncomputable def UpT (t:SetTable):Prop:=t.place.toList.Pairwise (· < ·)∧t.dummies=#[]
structure Bel (xs:Array Nat) (j k:Nat):Prop where
 le:k≤xs.size
 lo:∀ i,i < k→xs.getD i j < j
 hi:∀ i,k≤i→i < xs.size→j≤xs.getD i j
theorem up_at {xs:Array Nat} (h:xs.toList.Pairwise (· < ·)) {i k j:Nat} (hik:i < k) (hk:k < xs.size):xs.getD i j < xs.getD k j:=by
 have:=List.pairwise_iff_getElem.mp h i k (by simpa using Nat.lt_trans hik hk) (by simpa using hk) hik
 have e1:xs.getD i j=xs[i]'(Nat.lt_trans hik hk):=by simp [Array.getD,Nat.lt_trans hik hk]
 have e2:xs.getD k j=xs[k]'hk:=by simp [Array.getD,hk]
 rw [e1,e2]
 simpa using this
theorem below_go {xs:Array Nat} (h:xs.toList.Pairwise (· < ·)) (j:Nat):∀ (f lo hi:Nat),hi - lo≤f→lo≤hi→hi≤xs.size→(∀ i,i < lo→xs.getD i j < j)→(∀ i,hi≤i→i < xs.size→j≤xs.getD i j)→Bel xs j (SetTable.below.go xs j f lo hi)
 | 0,lo,hi,hf,h1,h2,h3,h4=>by
  have:lo=hi:=by omega
  subst this
  exact ⟨h2,h3,h4⟩
 | f + 1,lo,hi,hf,h1,h2,h3,h4=>by
  unfold SetTable.below.go
  by_cases g:lo < hi
  ·rw [if_pos g]
   dsimp only
   have hm:(lo + hi) / 2 < hi:=by omega
   have hm2:lo≤(lo + hi) / 2:=by omega
   split
   ·rename_i g2
    refine below_go h j f _ _ (by omega) (by omega) h2 (fun i hi'=>?_) h4
    by_cases e:i=(lo + hi) / 2
    ·rw [e];exact g2
    ·exact Nat.lt_trans (up_at h (show i < (lo + hi) / 2 by omega) (by omega)) g2
   ·rename_i g2
    refine below_go h j f _ _ (by omega) (by omega) (by omega) h3 (fun i hi' hi2=>?_)
    by_cases e:i=(lo + hi) / 2
    ·rw [e];omega
    ·have:=up_at (j:=j) h (show (lo + hi) / 2 < i by omega) hi2
     omega
  ·rw [if_neg g]
   have:lo=hi:=by omega
   subst this
   exact ⟨h2,h3,h4⟩
theorem below_is {xs:Array Nat} (h:xs.toList.Pairwise (· < ·)) (j:Nat):Bel xs j (SetTable.below xs j):=
 below_go h j xs.size 0 xs.size (by omega) (Nat.zero_le _) (Nat.le_refl _) (fun i z=>by omega) (fun i z1 z2=>by omega)
theorem ins_up {xs:Array Nat} (h:xs.toList.Pairwise (· < ·)) {j:Nat} (hn:xs[SetTable.below xs j]? ≠some j):(SetTable.insertAt xs (SetTable.below xs j) j).toList.Pairwise (· < ·):=by
 have B:=below_is h j
 generalize SetTable.below xs j=k at B hn
 rw [SetTable.toList_insertAt,List.pairwise_append]
 have len:xs.toList.length=xs.size:=Array.length_toList
 refine ⟨h.sublist (List.take_sublist _ _),?_,?_⟩
 ·rw [List.pairwise_cons]
  refine ⟨fun y hy=>?_,h.sublist (List.drop_sublist _ _)⟩
  obtain ⟨i,hi,e⟩:=List.getElem_of_mem hy
  rw [List.length_drop,len] at hi
  rw [List.getElem_drop] at e
  have h1:=B.hi (k + i) (by omega) (by omega)
  have e1:xs.getD (k + i) j=y:=by
   rw [←e]
   simp [Array.getD,show k + i < xs.size by omega]
  rw [e1] at h1
  refine Nat.lt_of_le_of_ne h1 fun z=>?_
  subst z
  by_cases i0:i=0
  ·subst i0
   apply hn
   rw [Array.getElem?_eq_getElem (show k < xs.size by omega)]
   congr 1
  ·have h2:=B.hi k (Nat.le_refl _) (by omega)
   have h3:=up_at (j:=j) h (show k < k + i by omega) (by omega)
   omega
 ·intro a ha b hb
  obtain ⟨i,hi,e⟩:=List.getElem_of_mem ha
  rw [List.length_take,len] at hi
  rw [List.getElem_take] at e
  have h1:=B.lo i (by omega)
  have e1:xs.getD i j=a:=by
   rw [←e]
   simp [Array.getD,show i < xs.size by omega]
  rw [e1] at h1
  rcases List.mem_cons.mp hb with rfl | hb
  ·exact h1
  ·obtain ⟨i2,hi2,e2⟩:=List.getElem_of_mem hb
   rw [List.length_drop,len] at hi2
   rw [List.getElem_drop] at e2
   have h2:=B.hi (k + i2) (by omega) (by omega)
   have e3:xs.getD (k + i2) j=b:=by
    rw [←e2]
    simp [Array.getD,show k + i2 < xs.size by omega]
   omega
theorem up_standIn (t:SetTable) (n:Nat):UpT (t.standIn n):=by
 refine ⟨?_,rfl⟩
 show (Array.range n).toList.Pairwise (· < ·)
 rw [Array.toList_range]
 exact List.pairwise_lt_range
theorem up_orStandIn {t:SetTable} (h:UpT t) (n:Nat):UpT (t.orStandIn n):=by
 unfold SetTable.orStandIn
 split
 ·exact h
 ·exact up_standIn t n
theorem probe_go {t:SetTable} (hd:t.dummies=#[]) {f:Nat→Int} {h:Int}:∀ (n:Nat) (p:SetTable.Probe) (j:Nat) (d:Option Nat),p.dummy=none→SetTable.probe.go t f h n p=some (.empty j d)→d=none∧t.slot j=.empty
 | 0,p,j,d,hp,e=>by cases e
 | n + 1,p,j,d,hp,e=>by
  unfold SetTable.probe.go at e
  have nd:t.slot p.j≠.dummy:=by
   unfold SetTable.slot
   dsimp only
   split
   ·exact fun z=>nomatch z
   ·have:SetTable.has t.dummies p.j=false:=by
     unfold SetTable.has
     rw [hd]
     simp
    rw [this]
    exact fun z=>nomatch z
  have ad:(t.advance p).dummy=none:=by
   unfold SetTable.advance
   split
   ·exact hp
   ·exact hp
  split at e
  ·rename_i g
   cases e
   exact ⟨hp,g⟩
  ·rename_i g
   exact absurd g nd
  ·split at e
   ·cases e
   ·exact probe_go hd n _ j d ad e
theorem slot_empty {t:SetTable} {j:Nat} (h:t.slot j=.empty):t.place[SetTable.below t.place j]? ≠some j:=by
 intro z
 unfold SetTable.slot at h
 dsimp only at h
 rw [z] at h
 simp at h
theorem up_layNew {t:SetTable} (u:UpT t) (es:Array (Int×Value)) (h:Int) (x:Value):UpT (layNew t es h x).2.1∧(layNew t es h x).2.1.led=t.led:=by
 unfold layNew
 split
 ·rename_i slot wd e
  dsimp only
  unfold SetTable.freeSlot at e
  split at e
  ·rename_i j d g
   unfold SetTable.probe at g
   obtain ⟨rfl,g2⟩:=probe_go u.2 _ _ j d rfl g
   cases e
   have up:UpT (t.put j).1:=by
    unfold SetTable.put
    refine ⟨ins_up u.1 (slot_empty g2),?_⟩
    dsimp only
    have:SetTable.has t.dummies j=false:=by
     unfold SetTable.has
     rw [u.2]
     simp
    rw [this]
    exact u.2
   refine ⟨up_orStandIn up _,?_⟩
   show (SetTable.orStandIn (t.put j).1 _).led=t.led
   unfold SetTable.orStandIn
   split <;> rfl
  ·cases e
 ·exact ⟨up_standIn t _,rfl⟩
theorem up_relay (t:SetTable) (es:Array (Int×Value)) (n:Nat):UpT (relayAll t es n).2.1∧(relayAll t es n).2.1.led=t.led:=by
 unfold relayAll
 split
 ·rename_i t' order e
  dsimp only
  split
  ·unfold SetTable.relaid SetTable.laid at e
   simp only [Option.bind_eq_bind,Option.bind_eq_some_iff] at e
   obtain ⟨owner,_,e⟩:=e
   cases e
   refine ⟨⟨?_,rfl⟩,rfl⟩
   dsimp only
   have sub:((List.filterMap (fun j=>Option.map (fun x=>(j,x)) (owner.getD j none)) (List.range (SetTable.sizeAbove n - 1 + 1))).map (·.1)).Sublist (List.range (SetTable.sizeAbove n - 1 + 1)):=by
    generalize List.range (SetTable.sizeAbove n - 1 + 1)=l
    induction l with
    | nil=>exact List.Sublist.refl _
    | cons a l ih=>
     rw [List.filterMap_cons]
     cases owner.getD a none with
     | none=>exact ih.cons a
     | some y=>exact ih.cons₂ a
   exact List.pairwise_lt_range.sublist sub
  ·exact ⟨up_standIn t _,rfl⟩
 ·exact ⟨up_standIn t _,rfl⟩
end L2
namespace L2
open PySem PySem.Spec PyProof.Rows
noncomputable def byT (w:World):Bool:=w.params.followText "set-order"
noncomputable def TabU (w:World) (t:SetTable):Prop:=UpT t∧t.led= !byT w
noncomputable def SetU (prog:Program) (w:World) (h:Heap) (a:Addr) (S:Int→Bool) (n:Nat):Prop:=
 ∃ o es ep t,(h.get? a=some o∧o.ExactSet∧o.data=.set es ep t)∧ElemsOf (intKind prog w) es.toList∧(∀ k,S k=true↔∃ e∈es.toList,(intKind prog w).is k e.2=true)∧es.size < scanBound∧t.fits es.size=true∧es.size=n∧TabU w t
section
variable {prog:Program} {w:World} {A:Around} {E:Value→Shared→Prop} {s:Shared}
theorem SetU.of {h h':Heap} {a:Addr} {S:Int→Bool} {n:Nat} (x:SetU prog w h a S n) (k:∀ o,h.get? a=some o→h'.get? a=some o):SetU prog w h' a S n:=by
 obtain ⟨o,es,ep,t,⟨h1,h2,h3⟩,r⟩:=x
 exact ⟨o,es,ep,t,⟨k o h1,h2,h3⟩,r⟩
theorem SetU.congr {h:Heap} {a:Addr} {S S':Int→Bool} {n n':Nat} (x:SetU prog w h a S n) (e:∀ k,S k=S' k) (en:n=n'):SetU prog w h a S' n':=by
 have:S=S':=funext e
 subst this en
 exact x
theorem add_tail {g:Bool→Sem Unit} (hg:∀ (b:Bool) (s₁:Shared) (Q':Unit→Shared→Prop),Q' () s₁→wpAny (model prog w) A (g b) Q' E s₁) {a:Addr} {o:Obj} {es:Array (Int×Value)} {ep:Nat} {t:SetTable} (ho:s.heap.get? a=some o∧o.ExactSet∧o.data=.set es ep t)
  {es1:Array (Int×Value)} {t2:SetTable} {S':Int→Bool} (hel1:ElemsOf (intKind prog w) es1.toList) (hm:∀ k',S' k'=true↔∃ e∈es1.toList,(intKind prog w).is k' e.2=true) (hb1:es1.size < scanBound) (hf2:t2.fits es1.size=true) (hU:TabU w t2) {wd:Bool} {R:Option Bool→Shared→Prop}
  (h:∀ h',Heap.SameBut a s.heap h'→SetU prog w h' a S' es1.size→R (some true) { s with heap:=h' }):
  wpAny (model prog w) A (do
   storeSet a es1 t2
   if (!wd&&t2.tooFull)=true then do
     g (relayAll t2 es1 (SetTable.grown es1.size)).2.2
     storeSet a (relayAll t2 es1 (SetTable.grown es1.size)).1 (relayAll t2 es1 (SetTable.grown es1.size)).2.1
     pure (some true)
    else pure (some true)) R E s:=by
 refine wpAny_bind (wpAny_storeSet_of ho.1 ho.2.2 ?_ (fits_of_scanBound hb1))
 have st:=SetOf_store (knd:=intKind prog w) ho.1 ho.2.1 ho.2.2 hel1 hm hb1 hf2
 have sb:=Heap.SameBut.update s.heap a (Obj.putSet es1 t2)
 by_cases hc:(!wd&&t2.tooFull)=true
 ·rw [if_pos hc]
  have hp:=relayAll_perm t2 es1 (SetTable.grown es1.size)
  have hfr:=relayAll_fits t2 es1 (SetTable.grown es1.size)
  have hur:=up_relay t2 es1 (SetTable.grown es1.size)
  generalize relayAll t2 es1 (SetTable.grown es1.size)=R3 at hp hfr hur ⊢
  obtain ⟨es2,t3,gv⟩:=R3
  dsimp only at hp hfr hur ⊢
  have hz:es2.size=es1.size:=by rw [←Array.length_toList,hp.length_eq,Array.length_toList]
  have hm2:∀ k',S' k'=true↔∃ e∈es2.toList,(intKind prog w).is k' e.2=true:=fun k'=>(hm k').trans ⟨fun ⟨e,he,q⟩=>⟨e,hp.mem_iff.mpr he,q⟩,fun ⟨e,he,q⟩=>⟨e,hp.mem_iff.mp he,q⟩⟩
  have hb2:es2.size < scanBound:=by omega
  refine wpAny_bind (hg _ _ _ ?_)
  refine wpAny_bind (wpAny_storeSet_of st.1 rfl ?_ (fits_of_scanBound hb2))
  have st2:=SetOf_store (knd:=intKind prog w) (es:=es1) (ep:=ep + 1) (t:=t2) st.1 ho.2.1 rfl (hel1.perm hp) hm2 hb2 hfr
  refine wpAny_pure (h _ (sb.trans (Heap.SameBut.update _ a _)) ?_)
  exact ⟨_,es2,_,t3,⟨st2.1,ho.2.1,rfl⟩,hel1.perm hp,hm2,hb2,hfr,hz,hur.1,hur.2.trans hU.2⟩
 ·rw [if_neg hc]
  exact wpAny_pure (h _ sb ⟨_,es1,_,t2,⟨st.1,ho.2.1,rfl⟩,hel1,hm,hb1,hf2,rfl,hU⟩)
theorem gave {b:Bool} {Q':Unit→Shared→Prop} (hq:Q' () s):wpAny (model prog w) A (match b with | true=>rule "set.scan.the-table-gave-way" | false=>pure ()) Q' E s:=by
 cases b
 ·exact wpAny_pure hq
 ·exact wpAny_rule hq
theorem add_int {a:Addr} {S:Int→Bool} {n:Nat} {k:Int} {tk:Tok} {Q:Bool→Shared→Prop} (hS:SetU prog w s.heap a S n) (hr:n + 1 < scanBound)
  (h:∀ h',Heap.SameBut a s.heap h'→SetU prog w h' a (fun k'=>S k'||decide (k'=k)) (if S k then n else n + 1)→Q (!S k) { s with heap:=h' }):
  wpAny (model prog w) A (setAddHashed a (.int k tk) ((intKind prog w).hash k)) Q E s:=by
 obtain ⟨o,es,ep,t,ho,hel,hm,hb,hf,hn,hU⟩:=hS
 have hk:(intKind prog w).is k (.int k tk)=true:=intKind_is _ _ _ _
 have hsc:(Value.int k tk).scannable=true:=rfl
 unfold setAddHashed setAddHashedIn;refine wpAny_holding (wpAny_bind (wpAny_setState_of ho.1 ho.2.2 hf ?_))
 dsimp only;rw [byScan_of hsc hb hel];simp only [↓reduceIte]
 unfold setAddByScan;refine wpAny_bind ?_;refine wpAny_bind (wpAny_rule ?_)
 refine wpAny_bind (wpAny_setScan_of hk ho.1 ho.2.2 hf hel ?_)
 cases hi:List.findIdx? (fun e=>(intKind prog w).is k e.2) es.toList with
 | some j=>
  dsimp only
  obtain ⟨hj,hpj,_⟩:=List.findIdx?_eq_some_iff_getElem.mp hi
  have hSk:S k=true:=(hm k).mpr ⟨es.toList[j],List.getElem_mem hj,hpj⟩
  refine wpAny_pure (wpAny_pure ?_)
  have e:s={ s with heap:=s.heap }:=by cases s;rfl
  have q:=h s.heap (Heap.SameBut.refl a s.heap) ⟨o,es,ep,t,ho,hel,fun k'=>by
   rw [Bool.or_eq_true,decide_eq_true_eq,←hm k']
   exact ⟨fun z=>z.elim id (fun e=>e▸hSk),.inl⟩,hb,hf,by rw [hSk];exact hn,hU⟩
  rw [hSk] at q;rw [e];exact q
 | none=>
  dsimp only
  have hSk:S k=false:=by
   cases z:S k with
   | false=>rfl
   | true=>
    obtain ⟨e,he,hp⟩:=(hm k).mp z
    have:=List.findIdx?_eq_none_iff.mp hi e he
    rw [hp] at this;cases this
  have hp:=layNew_perm t es ((intKind prog w).hash k) (.int k tk)
  have hfit:=layNew_fits t es ((intKind prog w).hash k) (.int k tk)
  have hup:=up_layNew hU.1 es ((intKind prog w).hash k) (.int k tk)
  generalize layNew t es ((intKind prog w).hash k) (.int k tk)=L at hp hfit hup ⊢
  obtain ⟨es1,t1,wd,gv⟩:=L
  dsimp only at hp hfit hup ⊢
  rw [Array.toList_push] at hp
  have hel1:ElemsOf (intKind prog w) es1.toList:=(hel.push hk hsc).perm hp
  have hm1:=mem_push_iff hk hm hp
  have hz1:es1.size=n + 1:=by rw [←Array.length_toList,hp.length_eq,List.length_append,Array.length_toList,hn];rfl
  have hb1:es1.size < scanBound:=by omega
  have hU1:TabU w t1:=⟨hup.1,hup.2.trans hU.2⟩
  have fin:∀ h',Heap.SameBut a s.heap h'→SetU prog w h' a (fun k'=>S k'||decide (k'=k)) es1.size→Q true { s with heap:=h' }:=fun h' sb x=>by
   have:=h h' sb
   rw [hSk] at this
   rw [hz1] at x
   exact this x
  refine wpAny_bind (gave ?_)
  ·split
   ·refine wpAny_bind ?_
    rw [hashByValue_scannable 8 hsc]
    refine wpAny_pure ?_
    refine add_tail (fun b s₁ Q' hq=>by cases b <;> first | exact wpAny_pure hq | exact wpAny_rule hq) ho hel1 hm1 hb1 ?_ ?_ fun h' sb x=>by (dsimp only;exact wpAny_pure (fin h' sb x))
    ·split
     ·exact hfit
     ·exact SetTable.fits_plain_off hfit
    ·split
     ·exact hU1
     ·exact hU1
   ·refine wpAny_bind (wpAny_pure ?_)
    simp only [↓reduceIte]
    exact add_tail (fun b s₁ Q' hq=>by cases b <;> first | exact wpAny_pure hq | exact wpAny_rule hq) ho hel1 hm1 hb1 hfit hU1 fun h' sb x=>by (dsimp only;exact wpAny_pure (fin h' sb x))
end
end L2
namespace L2
open PySem PySem.Spec PyProof.Rows
noncomputable def set0 (w:World):Obj:={ cls:=.type "set",dict:=none,data:=.set #[] 0 (.fresh 0 0 (!byT w)) }
section
variable {prog:Program} {w:World} {A:Around} {E:Value→Shared→Prop} {s:Shared}
theorem new_setU (a:Value) {Q₁:Value→Shared→Prop} (h:Q₁ (.ref s.heap.objs.size) { s with heap:=s.heap.push (set0 w) }):
  codeAny (model prog w) A (.call (.builtin "set.__new__") ⟨[.type "set",a],[]⟩) (wants Q₁ E) s:=by
 refine codeAny_of_tree ?_
 show wpAny _ A.in1 (checkBuiltinCall "set.__new__" ⟨[.type "set",a],[]⟩ >>=fun _=>again (.builtin "set.__new__" ⟨[.type "set",a],[]⟩)) _ _ s
 refine wpAny_bind (wpAny_of_eq (PySem.F.newCall_set_1 a) (wpAny_pure ⟨plainId_quiet PySem.F.plain_set_new _,codeAny_builtin PySem.F.entry_set_new ?_⟩))
 rw [Around.under_plainId PySem.F.plain_set_new _]
 unfold Builtin.«set.__new__» Builtin.Frozenset.newClass
 have hsub:=sub_set_self
 obtain ⟨hp,g,d,tk,os⟩:=s
 dsimp only
 wp_walk
 refine wpAny_askSetting (wpAny_pure ?_)
 dsimp only
 simp only [newObj]
 refine wpAny_bind (wpAny_alloc (wpAny_pure ?_))
 exact wpAny_pure h
theorem setU0 {h:Heap} {a:Addr} (e:h.get? a=some (set0 w)) (val:Nat→Int):SetU prog w h a (fun k=>(firstMet val 0).any (· ==k)) (firstMet val 0).length:=by
 obtain ⟨o,es,ep,t,ho,h1,h2,h3,h4,h5,h6,h7⟩:=((setObjOf_fresh (knd:=intKind prog w) (!byT w)).setOf e (by unfold scanBound;omega))
 rw [e] at ho
 cases ho
 cases h2
 exact ⟨_,_,_,_,⟨e,h1,rfl⟩,h3,h4,h5,h6,h7,⟨List.Pairwise.nil,rfl⟩,rfl⟩
theorem loop_setU {I l S:Addr} {items:Array Value} {ns:List Int} {R:Result→Shared→Prop} (hh:A.in1.handled=none) (hI:IntsAre items.toList ns) (hb:items.size + 1 < scanBound) (hl:l≠I) (hSI:S≠I) (hSl:S≠l):
  ∀ (k i:Nat) (s:Shared),items.size - i=k→i≤items.size→s.heap.IsListIter I l i→s.heap.IsList l items→SetU prog w s.heap S (fun k=>(firstMet (fun i=>ns.getD i 0) i).any (· ==k)) (firstMet (fun i=>ns.getD i 0) i).length→
   (∀ h' tk,(∀ b o,b≠I→b≠S→s.heap.get? b=some o→h'.get? b=some o)→SetU prog w h' S (fun k=>(firstMet (fun i=>ns.getD i 0) items.size).any (· ==k)) (firstMet (fun i=>ns.getD i 0) items.size).length→R (.ok (.ret .none)) { s with heap:=h',toks:=tk })→
   codeAny (model prog w) A (.builtin "set.update.loop" ⟨[.ref S,.ref I],[]⟩) R s:=by
 have W:=Walks.list (prog:=prog) (w:=w) (A:=A.in1) hh I l hl items
 intro k
 induction k with
 | zero=>
  intro i s hk hi hit hls hS hR
  obtain rfl:i=items.size:=by omega
  refine codeAny_builtin PyProof.Rows.F.entry_set_update_loop ?_
  rw [Around.under_plainId PyProof.Rows.F.plain_set_update_loop _]
  show wpAny _ A.in1 (pyNext (.ref I) >>=_) _ _ s
  refine wpAny_bind (W.done s _ _ ⟨hit,hls⟩ fun h' tk hk=>?_)
  show wpAny _ A.in1 (ret Value.none) _ _ _
  exact wpAny_pure (hR h' tk (fun b o h1 _ e=>hk b o (by simpa using h1) e) (hS.of fun o e=>hk S o (by simpa using hSI) e))
 | succ k ih=>
  intro i s hk hi hit hls hS hR
  have hlt:i < items.size:=by omega
  refine codeAny_builtin PyProof.Rows.F.entry_set_update_loop ?_
  rw [Around.under_plainId PyProof.Rows.F.plain_set_update_loop _]
  show wpAny _ A.in1 (pyNext (.ref I) >>=_) _ _ s
  refine wpAny_bind (W.item i s _ _ hlt ⟨hit,hls⟩ fun v h1 tk1 hP hst k1=>?_)
  obtain ⟨t,rfl⟩:=hI.int_at i v (by rw [Array.getElem?_toList];exact hP)
  have hS1:=hS.of fun o e=>k1 S o (by simpa using hSI) e
  show wpAny _ A.in1 (holding [Value.int (ns.getD i 0) t] (setAdd S (.int (ns.getD i 0) t)) >>=_) _ _ _
  refine wpAny_bind (wpAny_holding ?_)
  unfold setAdd
  refine wpAny_holding ?_
  refine wpAny_bind ((intKind prog w).pyHash (k:=ns.getD i 0) (intKind_is _ _ _ _) ?_)
  have hroom:(firstMet (fun i=>ns.getD i 0) i).length + 1 < scanBound:=by have:=firstMet_length_le (fun i=>ns.getD i 0) i;omega
  refine add_int (s:={ s with heap:=h1,toks:=tk1 + 1 }) hS1 hroom fun h2 sb hS2=>?_
  have hS3:SetU prog w h2 S (fun k=>(firstMet (fun i=>ns.getD i 0) (i + 1)).any (· ==k)) (firstMet (fun i=>ns.getD i 0) (i + 1)).length:=
   hS2.congr (fun k'=>by rw [firstMet_succ,step_any]) (by rw [firstMet_succ,step_length])
  refine wpAny_pure ⟨plainId_quiet PyProof.Rows.F.plain_set_update_loop _,ih (i + 1) { s with heap:=h2,toks:=tk1 + 1 } (by omega) hlt (hst.1.at fun o e=>?_) (hst.2.at fun o e=>?_) hS3 fun h' tk k2 hS'=>hR h' tk (fun b o h1 h2 e=>k2 b o h1 h2 ?_) hS'⟩
  ·rw [sb.2 I hSI.symm];exact e
  ·rw [sb.2 l hSl.symm];exact e
  ·show Heap.get? _ b=_
   rw [sb.2 b h2]
   exact k1 b o (by simpa using h1) e
theorem call_setU {l:Addr} {items:Array Value} {ns:List Int} {Q:Value→Shared→Prop} (hh:A.handled=none) (hl:s.heap.IsList l items) (hi:IntsAre items.toList ns) (hb:items.size + 1 < scanBound)
  (h:∀ (h':Heap) (tk:Nat),SetU prog w h' s.heap.objs.size (fun k=>(firstMet (fun i=>ns.getD i 0) items.size).any (· ==k)) (firstMet (fun i=>ns.getD i 0) items.size).length→
   (∀ b o,s.heap.get? b=some o→h'.get? b=some o)→Q (.ref s.heap.objs.size) { s with heap:=h',toks:=tk }):
  wpAny (model prog w) A (call (.type "set") [.ref l]) Q E s:=by
 obtain ⟨c,tl,hmro⟩:=PySem.F.called_set.mro
 have hmade:=PySem.F.called_set.made
 have hsub:=PySem.F.called_set.sub
 have h1:=PySem.F.called_set.notType
 have h2:=PySem.F.called_set.canCreate
 have hct:=PySem.F.typeCall_set_1 (.ref l)
 refine wpAny_call (codeAny_of_tree ?_)
 show wpAny _ _ (callAny (.type "set") _) _ _ _
 refine wpAny_pure ⟨Code.quiet_builtin _ (by decide +kernel),codeAny_builtin PySem.F.entry_type_call ?_⟩
 rw [Around.under_plain (weight_type_call_type "set" [.ref l] []) rfl]
 repeat (any_goals (first | assumption | wp_step))
 refine codeAny_mono (new_setU (.ref l) (E:=E) (Q₁:=fun obj s₁=>obj=.ref s.heap.objs.size∧s₁={ s with heap:=s.heap.push (set0 w) }) ⟨rfl,rfl⟩) fun r s₁ hr=>?_
 rcases r with e | fl
 ·exact hr
 rcases fl with _ | _ | _ | obj
 all_goals first
  | exact hr.elim
  | skip
 obtain ⟨rfl,rfl⟩:=hr
 have hS:(s.heap.push (set0 w)).get? s.heap.objs.size=some (set0 w):=Heap.get?_push_size _ rfl
 have hT:Shared.TypeIs { s with heap:=s.heap.push (set0 w) } (.ref s.heap.objs.size) "set":=⟨_,hS,rfl⟩
 have hli:=PySem.F.called_set.init.lookup
 have hbi:=PySem.F.called_set.init.bind (.ref s.heap.objs.size)
 repeat (any_goals (first | assumption | wp_step))
 refine codeAny_mono (codeAny_call_builtin (R:=wants (fun r s₂=>r=.none∧∃ h' tk,s₂={ s with heap:=h',toks:=tk }∧
   SetU prog w h' s.heap.objs.size (fun k=>(firstMet (fun i=>ns.getD i 0) items.size).any (· ==k)) (firstMet (fun i=>ns.getD i 0) items.size).length∧
   (∀ b o,s.heap.get? b=some o→h'.get? b=some o)) E) PySem.F.called_set.init.plain PySem.F.entry_set_init (check_set_init_1 hT ?_)) fun r₂ s₂ hr₂=>?_
 ·obtain ⟨ol,hol,hcl,nl,hdl⟩:=hl
  obtain ⟨ocls,odict,odata,oslots⟩:=ol
  dsimp only at hcl hdl
  subst hcl hdl
  have hol':(s.heap.push (set0 w)).get? l=some { cls:=.type "list",dict:=odict,data:=.seq items nl,slots:=oslots }:=Heap.get?_push_of_some _ hol
  have hl1:(s.heap.push (set0 w)).IsList l items:=⟨_,hol',rfl,nl,rfl⟩
  have hsls:=PySem.F.sub_list_set
  have hslf:=PySem.F.sub_list_frozenset
  have hne:(Value.type "list"==Value.type "dict")=false:=by decide
  have hlS:l < s.heap.objs.size:=Heap.lt_size hol
  have hS0:(s.heap.push (set0 w)).get? s.heap.objs.size=some { cls:=.type "set",dict:=none,data:=.set #[] 0 (.fresh 0 0 (!byT w)) }:=hS
  have hh3:A.in1.in1.in1.handled=none:=by simp [hh]
  unfold Builtin.«set.__init__» noKeywords Builtin.Frozenset.updateFrom
  generalize hPI:pyIter=PI
  wp_walk
  subst hPI
  refine wpAny_pyIter_list hl1 ?_
  refine wpAny_bind (wpAny_runValue ?_)
  have e1:(s.heap.push (set0 w)).objs.size=s.heap.objs.size + 1:=Heap.size_push _ _
  refine loop_setU (l:=l) (items:=items) (ns:=ns) hh3 hi hb (by rw [e1];exact Nat.ne_of_lt (Nat.lt_succ_of_lt hlS)) (by rw [e1];exact Nat.ne_of_lt (Nat.lt_succ_self _)) (Nat.ne_of_gt hlS) (items.size - 0) 0 _ (by omega) (Nat.zero_le _) ⟨_,Heap.get?_push_size _ rfl,rfl,rfl⟩ (hl1.push _) (setU0 (Heap.get?_push_of_some _ hS) _) fun h' tk k2 hS'=>?_
  show wpAny _ _ _ _ _ _
  refine wpAny_pure ?_
  show wpAny _ _ (ret Value.none) _ _ _
  refine wpAny_pure ⟨rfl,h',tk,rfl,hS',fun b o e=>?_⟩
  have hb:=Heap.lt_size e
  exact k2 b o (by rw [e1];exact Nat.ne_of_lt (Nat.lt_succ_of_lt hb)) (Nat.ne_of_lt hb) (Heap.get?_push_of_some _ (Heap.get?_push_of_some _ e))
 ·rcases r₂ with e | fl
  ·exact hr₂
  rcases fl with _ | _ | _ | r
  all_goals first
   | exact hr₂.elim
   | skip
  obtain ⟨rfl,h',tk,rfl,hS',hk'⟩:=hr₂
  repeat (any_goals (first | assumption | wp_step))
  exact h _ _ hS' hk'
end
end L2
namespace L2
open PySem PySem.Spec PyProof.Rows
theorem slot_sin:Slot "set_iterator" "__next__" "set_iterator.__next__":=
 .of (owner:="set_iterator") (n:="__next__") (by rw [typeLookup_type,builtinLookup_eq_fast];kernel_rfl) (by decide +kernel) (by decide +kernel) (by decide +kernel)
  (by first | exact .inl (by decide +kernel) | exact .inr (by decide +kernel)) (by rw [isSubtype_type];kernel_rfl)
theorem entry_sin:entryFor table "set_iterator.__next__"=some Builtin.«set_iterator.__next__»:=entryFor_of_tree (by kernel_rfl)
theorem args_sin (a:Value):argsOk "set_iterator.__next__" ⟨[a],[]⟩:=by unfold argsOk;kernel_rfl
noncomputable def slotAt (t:SetTable) (i:Nat):Nat:=match i with
 | 0=>0
 | i + 1=>t.place.getD i 0 + 1
theorem below_slot {t:SetTable} (u:UpT t) {i:Nat} (hi:i≤t.place.size):SetTable.below t.place (slotAt t i)=i:=by
 have B:=below_is u.1 (slotAt t i)
 generalize SetTable.below t.place (slotAt t i)=k at B
 have g:∀ m d,m < t.place.size→t.place.getD m d=t.place.getD m 0:=fun m d hm=>by simp [Array.getD,hm]
 cases i with
 | zero=>
  cases k with
  | zero=>rfl
  | succ k=>have:=B.lo 0 (by omega);exact absurd this (Nat.not_lt_zero _)
 | succ i=>
  rcases Nat.lt_trichotomy k (i + 1) with h | h | h
  ·have h1:=B.hi i (by omega) (by omega)
   rw [g _ _ (by omega)] at h1
   show k=i + 1
   have:slotAt t (i + 1)=t.place.getD i 0 + 1:=rfl
   omega
  ·exact h
  ·have h1:=B.lo (i + 1) h
   have hz:i + 1 < t.place.size:=Nat.lt_of_lt_of_le h B.le
   rw [g _ _ hz] at h1
   have h2:=up_at (j:=0) u.1 (show i < i + 1 by omega) hz
   have:slotAt t (i + 1)=t.place.getD i 0 + 1:=rfl
   omega
noncomputable def SAt (h:Heap) (a:Addr) (es:Array (Int×Value)) (ep:Nat) (t:SetTable):Prop:=∃ o,h.get? a=some o∧o.data=.set es ep t
noncomputable def drawnB (es:Array (Int×Value)) (t:SetTable):Bool:= !t.plain&&decide (es.size > 1)
section
variable {prog:Program} {w:World} {A:Around} {E:Value→Shared→Prop} {s:Shared} {a:Addr} {es:Array (Int×Value)} {ep:Nat} {t:SetTable}
theorem by_text {Q:Bool→Shared→Prop} (h:Q (byT w) s):wpAny (model prog w) A setsByText Q E s:=by
 unfold setsByText
 exact wpAny_bind (wpAny_askSetting (wpAny_pure h))
theorem next_txt {slot i:Nat} {Q:Option (Value×Nat)→Shared→Prop} (hS:SAt s.heap a es ep t) (hf:t.fits es.size=true) (hb:byT w=true) (h:Q (((pickOrder (w.params.setOrder a ep) es)[i]?).map fun e=>(e.2,slot)) s):
  wpAny (model prog w) A (setNext a slot i ep) Q E s:=by
 obtain ⟨o,ho,hd⟩:=hS
 unfold setNext
 refine wpAny_bind (wpAny_setState_of ho hd hf ?_)
 dsimp only
 refine wpAny_bind (by_text ?_)
 rw [hb]
 simp only [↓reduceIte,bne_self_eq_false,Bool.false_eq_true]
 unfold setWalk
 refine wpAny_bind (wpAny_bind (wpAny_setState_of ho hd hf ?_))
 dsimp only
 refine wpAny_bind (by_text ?_)
 rw [hb]
 simp only [↓reduceIte]
 exact wpAny_bind (wpAny_askSetting (wpAny_pure (wpAny_pure h)))
theorem next_plc {slot i:Nat} {Q:Option (Value×Nat)→Shared→Prop} (hS:SAt s.heap a es ep t) (hf:t.fits es.size=true) (hb:byT w=false) (hd:drawnB es t=false) (hl:t.led=true)
  (h:Q (match es[SetTable.below t.place slot]?,t.place[SetTable.below t.place slot]? with | some (_,x),some j=>some (x,j + 1) | _,_=>none) s):
  wpAny (model prog w) A (setNext a slot i ep) Q E s:=by
 obtain ⟨o,ho,hdt⟩:=hS
 unfold setNext
 refine wpAny_bind (wpAny_setState_of ho hdt hf ?_)
 dsimp only
 refine wpAny_bind (by_text ?_)
 rw [hb]
 simp only [Bool.false_eq_true,↓reduceIte]
 have e2:¬(drawnB es t=true):=by rw [hd];exact Bool.false_ne_true
 refine wpAny_ite_split (fun z=>absurd z e2) (fun _=>?_)
 refine wpAny_bind (wpAny_of_eq (a:=()) ?_ (wpAny_pure h))
 show (if (!t.led&& !es.isEmpty)=true then (unsupported "set:maker-not-led":Sem Unit) else pure ())=pure ()
 rw [hl]
 rfl
noncomputable def SIt (h:Heap) (I a:Addr) (f:Value) (i n ep:Nat):Prop:=∃ o,h.get? I=some o∧o.cls=.type "set_iterator"∧o.data=.fields #[f,.int i 0,.ref a,.int n 0,.int ep 0]
theorem SIt.ty {I:Addr} {f:Value} {i n:Nat} (h:SIt s.heap I a f i n ep):s.TypeIs (.ref I) "set_iterator":=let ⟨o,ho,hc,_⟩:=h;⟨o,ho,hc⟩
theorem entr {Q:Array (Int×Value)→Shared→Prop} (hS:SAt s.heap a es ep t) (hf:t.fits es.size=true) (h:Q es s):wpAny (model prog w) A (setEntries a) Q E s:=by
 obtain ⟨o,ho,hd⟩:=hS
 unfold setEntries
 exact wpAny_bind (wpAny_setState_of ho hd hf (wpAny_pure h))
theorem nx_item {I:Addr} {slot i n nx:Nat} {x:Value} {Q:Option Value→Shared→Prop} (hit:SIt s.heap I a (.int slot 0) i n ep) (hS:SAt s.heap a es ep t) (hf:t.fits es.size=true) (hn:es.size=n)
  (hN:∀ (A':Around) (E':Value→Shared→Prop) (Q':Option (Value×Nat)→Shared→Prop),Q' (some (x,nx)) s→wpAny (model prog w) A' (setNext a slot i ep) Q' E' s)
  (hQ:∀ h',SIt h' I a (.int nx 0) (i + 1) n ep→Heap.SameBut I s.heap h'→Q (some x) { s with heap:=h' }):
  wpAny (model prog w) A (pyNext (.ref I)) Q E s:=by
 obtain ⟨o,ho,hc,hd⟩:=id hit
 unfold pyNext
 refine wpAny_bind (wpAny_attempt (wpAny_callSpecial?_slot (name:=Str.ofString "__next__") hit.ty slot_sin (wpAny_call_entry slot_sin hit.ty entry_sin ?_ (args_sin _))))
 unfold Builtin.«set_iterator.__next__»
 refine wpAny_bind (wpAny_of_eq (a:=(Value.ref I,([]:List Value))) rfl ?_)
 refine wpAny_bind (wpAny_fieldsOf ho hd ?_)
 dsimp only
 refine wpAny_bind (entr hS hf ?_)
 rw [hn]
 simp only [bne_self_eq_false,Bool.false_eq_true,↓reduceIte,Int.toNat_natCast]
 refine wpAny_bind (hN _ _ _ ?_)
 dsimp only
 refine wpAny_bind (wpAny_setField ho hd (by simp) ?_)
 have ho1:(s.heap.update I (Obj.mapFields (·.setIfInBounds 0 (rawInt nx)))).get? I=some (Obj.mapFields (·.setIfInBounds 0 (rawInt nx)) o):=Heap.get?_update_self _ ho (Obj.isFreed_of_fields (Obj.data_mapFields hd _))
 have hd1:=Obj.data_mapFields hd (·.setIfInBounds 0 (rawInt nx))
 refine wpAny_bind (wpAny_setField ho1 hd1 (by simp) (wpAny_pure ⟨x,rfl,wpAny_pure (hQ _ ?_ ((Heap.SameBut.update ..).trans (Heap.SameBut.update ..)))⟩))
 refine ⟨_,Heap.get?_update_self _ ho1 (Obj.isFreed_of_fields (Obj.data_mapFields hd1 _)),(Obj.cls_mapFields ..).trans ((Obj.cls_mapFields ..).trans hc),?_⟩
 rw [Obj.data_mapFields hd1]
 simp [rawInt]
theorem nx_done {I:Addr} {slot i n:Nat} {Q:Option Value→Shared→Prop} (hh:A.handled=none) (hit:SIt s.heap I a (.int slot 0) i n ep) (hS:SAt s.heap a es ep t) (hf:t.fits es.size=true) (hn:es.size=n)
  (hN:∀ (A':Around) (E':Value→Shared→Prop) (Q':Option (Value×Nat)→Shared→Prop),Q' none s→wpAny (model prog w) A' (setNext a slot i ep) Q' E' s)
  (hQ:∀ h',Heap.ExtBut I s.heap h'→Q none { s with heap:=h' }):
  wpAny (model prog w) A (pyNext (.ref I)) Q E s:=by
 obtain ⟨o,ho,hc,hd⟩:=id hit
 unfold pyNext
 refine wpAny_bind (wpAny_attempt (wpAny_callSpecial?_slot (name:=Str.ofString "__next__") hit.ty slot_sin (wpAny_call_entry slot_sin hit.ty entry_sin ?_ (args_sin _))))
 unfold Builtin.«set_iterator.__next__»
 refine wpAny_bind (wpAny_of_eq (a:=(Value.ref I,([]:List Value))) rfl ?_)
 refine wpAny_bind (wpAny_fieldsOf ho hd ?_)
 dsimp only
 refine wpAny_bind (entr hS hf ?_)
 rw [hn]
 simp only [bne_self_eq_false,Bool.false_eq_true,↓reduceIte,Int.toNat_natCast]
 refine wpAny_bind (hN _ _ _ ?_)
 dsimp only
 refine wpAny_bind (wpAny_setField ho hd (by simp) ?_)
 show wpAny _ _ (newExc (.type "StopIteration") [] >>=_) _ _ _
 refine wpAny_bind ?_
 simp only [newExc,newTuple]
 refine wpAny_bind (wpAny_newObj_type ?_ (by size_fits))
 refine wpAny_bind (m:=firstArgMember _ _) (wpAny_of_eq (a:=Value.none) (by first | rfl | (simp only [firstArgMember];rfl)) ?_)
 refine wpAny_newObj_type ?_ (by size_fits)
 simp only [raiseNew]
 refine wpAny_bind (wpAny_handled ?_)
 rw [show A.in1.handled=none from hh]
 refine wpAny_bind (wpAny_pure (wpAny_throw ?_))
 refine wpAny_bind (wpAny_isInstance (T:="StopIteration") (b:=true) ⟨_,Heap.get?_push_size _ rfl,rfl⟩ isSubtype_stop ?_)
 exact wpAny_pure (hQ _ (((Heap.SameBut.update ..).extBut.push _).push _))
end
end L2
namespace L2
open PySem PySem.Spec PyProof.Rows
theorem slot_sii:Slot "set_iterator" "__iter__" "set_iterator.__iter__":=
 .of (owner:="set_iterator") (n:="__iter__") (by rw [typeLookup_type,builtinLookup_eq_fast];kernel_rfl) (by decide +kernel) (by decide +kernel) (by decide +kernel)
  (by first | exact .inl (by decide +kernel) | exact .inr (by decide +kernel)) (by rw [isSubtype_type];kernel_rfl)
theorem entry_sii:entryFor table "set_iterator.__iter__"=some Builtin.«dict_keyiterator.__iter__»:=entryFor_alias (id':="dict_keyiterator.__iter__") (by kernel_rfl) rfl (by decide +kernel) (by kernel_rfl)
theorem args_sii (a:Value):argsOk "set_iterator.__iter__" ⟨[a],[]⟩:=by unfold argsOk;kernel_rfl
theorem entry_set_it:entryFor table "set.__iter__"=some Builtin.«frozenset.__iter__»:=entryFor_alias (id':="frozenset.__iter__") (by kernel_rfl) rfl (by decide +kernel) (by kernel_rfl)
theorem perm_erase {α:Type}:∀ {l:List α} {i:Nat} (h:i < l.length),(l[i]::l.eraseIdx i).Perm l
 | x::l,0,_=>List.Perm.refl _
 | x::l,i + 1,h=>by
  show (l[i]'(by simpa using h)::x::l.eraseIdx i).Perm (x::l)
  exact (List.Perm.swap _ _ _).trans ((perm_erase (by simpa using h)).cons _)
theorem pick_go {α:Type} (next:Nat→Nat):∀ (f k:Nat) (left:List α) (out:Array α),left.length=f→(pickOrder.go next f k left out).toList.Perm (out.toList++left)
 | 0,k,left,out,h=>by
  obtain rfl:left=[]:=List.eq_nil_of_length_eq_zero h
  unfold pickOrder.go
  simp
 | f + 1,k,left,out,h=>by
  unfold pickOrder.go
  have hlt:next k % left.length < left.length:=Nat.mod_lt _ (by omega)
  rw [List.getElem?_eq_getElem hlt]
  dsimp only
  refine (pick_go next f (k + 1) _ _ (by rw [List.length_eraseIdx,if_pos hlt];omega)).trans ?_
  rw [Array.toList_push,List.append_assoc]
  exact (perm_erase hlt).append_left _
theorem pick_perm {α:Type} (next:Nat→Nat) (xs:Array α):(pickOrder next xs).toList.Perm xs.toList:=by
 unfold pickOrder
 have:=pick_go next xs.size 0 xs.toList #[] (by simp)
 simpa using this
section
variable {prog:Program} {w:World} {A:Around} {E:Value→Shared→Prop} {s:Shared} {a:Addr} {es:Array (Int×Value)} {ep:Nat} {t:SetTable}
theorem choose_any {src:Source} {n:Nat} {Q:Nat→Shared→Prop} (h0:n≠0) (h:∀ i d,i < n→Q i { s with drawn:=d }):wpAny (model prog w) A (choose src n) Q E s:=by
 intro Γ p hΓ
 unfold choose
 rw [Sem.wp_choose]
 exact ⟨h0,h _ _ (Nat.mod_lt _ (Nat.pos_of_ne_zero h0))⟩
theorem draw_any {α:Type}:∀ (n:Nat) (xs:List α) (s:Shared) (Q:List α→Shared→Prop),xs.length=n→(∀ ys d,ys.Perm xs→Q ys { s with drawn:=d })→wpAny (model prog w) A (drawOrder n xs) Q E s
 | 0,xs,s,Q,hn,h=>by
  obtain rfl:xs=[]:=List.eq_nil_of_length_eq_zero hn
  unfold drawOrder
  exact wpAny_pure (h [] s.drawn (List.Perm.refl _))
 | n + 1,[],s,Q,hn,h=>by cases hn
 | n + 1,x::xs,s,Q,hn,h=>by
  unfold drawOrder
  refine wpAny_bind (choose_any (by simp) fun i d hi=>?_)
  rw [List.getElem?_eq_getElem hi]
  dsimp only
  refine wpAny_bind (draw_any n _ _ _ (by rw [List.length_eraseIdx,if_pos hi];omega) fun ys d' hp=>?_)
  refine wpAny_pure (h _ d' ?_)
  exact (hp.cons _).trans (perm_erase hi)
theorem SIt.self {I:Addr} {f:Value} {i n:Nat} {Q:Value→Shared→Prop} (hit:SIt s.heap I a f i n ep) (h:Q (.ref I) s):wpAny (model prog w) A (pyIter (.ref I)) Q E s:=by
 refine wpAny_pyIter_slot hit.ty slot_sii (wpAny_call_entry slot_sii hit.ty entry_sii ?_ (args_sii _))
 show wpAny _ _ (ret (.ref I)) _ _ s
 exact wpAny_pure ⟨_,rfl,"set_iterator",_,hit.ty,slot_sin.lookup,h⟩
theorem SAt.at {h h':Heap} (x:SAt h a es ep t) (k:∀ o,h.get? a=some o→h'.get? a=some o):SAt h' a es ep t:=let ⟨o,ho,hd⟩:=x;⟨o,k o ho,hd⟩
theorem SIt.at {h h':Heap} {I:Addr} {f:Value} {i n:Nat} (x:SIt h I a f i n ep) (k:∀ o,h.get? I=some o→h'.get? I=some o):SIt h' I a f i n ep:=let ⟨o,ho,hd⟩:=x;⟨o,k o ho,hd⟩
theorem walk_int (hh:A.handled=none) {I:Addr} (hne:a≠I) {n:Nat} (hf:t.fits es.size=true) (hn:es.size=n) {sl:Nat→Nat} {out:List Value} (hl:out.length=n)
  (hN:∀ (i:Nat) (s:Shared) (A':Around) (E':Value→Shared→Prop) (Q':Option (Value×Nat)→Shared→Prop),i≤n→SAt s.heap a es ep t→Q' ((out[i]?).map fun x=>(x,sl (i + 1))) s→wpAny (model prog w) A' (setNext a (sl i) i ep) Q' E' s):
  Walks prog w A I [I,a] [I] n (fun i v=>out[i]? =some v) (fun i h=>SAt h a es ep t∧SIt h I a (.int (sl i) 0) i n ep) where
 sub:=fun b hb=>by simp at hb;simp [hb]
 frame:=fun _ _ _ st hk=>⟨st.1.at fun o e=>hk a (by simp) o e,st.2.at fun o e=>hk I (by simp) o e⟩
 item:=fun i s Q E hi st hQ=>by
  have e:out[i]? =some (out[i]'(by omega)):=List.getElem?_eq_getElem (by omega)
  refine nx_item st.2 st.1 hf hn (x:=out[i]'(by omega)) (nx:=sl (i + 1)) (fun A' E' Q' q=>hN i s A' E' Q' (by omega) st.1 (by rw [e];exact q)) fun h' hit' sb=>?_
  exact hQ _ h' s.toks e ⟨st.1.at fun o z=>by rw [sb.2 a hne];exact z,hit'⟩ fun b o hb z=>sb.extBut b o (fun h=>hb (by simp [h])) z
 done:=fun s Q E st hQ=>by
  have e:out[n]? =none:=List.getElem?_eq_none (by omega)
  exact nx_done hh st.2 st.1 hf hn (fun A' E' Q' q=>hN n s A' E' Q' (Nat.le_refl _) st.1 (by rw [e];exact q)) fun h' he=>hQ h' s.toks fun b o hb z=>he b o (fun h=>hb (by simp [h])) z
 self:=fun _ _ _ _ st hQ=>st.2.self hQ
theorem walk_txt {I:Addr} (hne:a≠I) {n:Nat} (hf:t.fits es.size=true) (hn:es.size=n) (hb:byT w=true):
  ∃ out:List Value,out.Perm (es.toList.map (·.2))∧∀ A:Around,A.handled=none→Walks prog w A I [I,a] [I] n (fun i v=>out[i]? =some v) (fun i h=>SAt h a es ep t∧SIt h I a (.int ((fun _=>0:Nat→Nat) i:Nat) 0) i n ep):=by
 have hp:=pick_perm (w.params.setOrder a ep) es
 refine ⟨(pickOrder (w.params.setOrder a ep) es).toList.map (·.2),hp.map _,fun A hh=>walk_int hh hne hf hn (by rw [List.length_map,hp.length_eq,Array.length_toList,hn]) fun i s A' E' Q' hi hS q=>next_txt hS hf hb ?_⟩
 rw [List.getElem?_map,Array.getElem?_toList,Option.map_map] at q
 exact q
theorem walk_plc (hh:A.handled=none) {I:Addr} (hne:a≠I) {n:Nat} (hf:t.fits es.size=true) (hn:es.size=n) (hb:byT w=false) (hd:drawnB es t=false) (hl:t.led=true) (u:UpT t):
  Walks prog w A I [I,a] [I] n (fun i v=>(es.toList.map (·.2))[i]? =some v) (fun i h=>SAt h a es ep t∧SIt h I a (.int (slotAt t i:Nat) 0) i n ep):=by
 have hz:t.place.size=n:=by
  unfold SetTable.fits at hf
  rw [Bool.and_eq_true,beq_iff_eq] at hf
  omega
 refine walk_int hh hne hf hn (by rw [List.length_map,Array.length_toList,hn]) fun i s A' E' Q' hi hS q=>next_plc hS hf hb hd hl ?_
 rw [below_slot u (by omega)]
 rw [List.getElem?_map,Array.getElem?_toList,Option.map_map] at q
 by_cases g:i < n
 ·have e1:es[i]? =some (es[i]'(by omega)):=Array.getElem?_eq_getElem (by omega)
  have e2:t.place[i]? =some (t.place[i]'(by omega)):=Array.getElem?_eq_getElem (by omega)
  rw [e1] at q ⊢
  rw [e2]
  dsimp only
  have e3:slotAt t (i + 1)=t.place[i]'(by omega) + 1:=by
   show t.place.getD i 0 + 1=_
   rw [Array.getD,dif_pos (by omega)]
   rfl
  have q':Q' (some ((es[i]'(by omega)).2,slotAt t (i + 1))) s:=q
  rw [e3] at q'
  exact q'
 ·have e1:es[i]? =none:=Array.getElem?_eq_none (by omega)
  rw [e1] at q ⊢
  exact q
end
end L2
namespace L2
open PySem PySem.Spec PyProof.Rows
noncomputable def TPl (h:Heap) (T:Addr) (ps:List Nat):Prop:=∃ o k,h.get? T=some o∧o.data=.seq (ps.map fun (p:Nat)=>rawInt p).toArray k
noncomputable def outD (es:Array (Int×Value)) (ps:List Nat):List Value:=ps.map fun p=>(es.getD p (0,.none)).2
theorem outD_all (es:Array (Int×Value)):outD es (List.range es.size)=es.toList.map (·.2):=by
 refine List.ext_getElem? fun i=>?_
 unfold outD
 rw [List.getElem?_map,List.getElem?_map,Array.getElem?_toList (xs:=es)]
 by_cases h:i < es.size
 ·rw [List.getElem?_range h,Array.getElem?_eq_getElem h]
  simp [Array.getD,h]
 ·rw [List.getElem?_eq_none (by simpa using h),Array.getElem?_eq_none (by omega)]
  rfl
section
variable {prog:Program} {w:World} {A:Around} {E:Value→Shared→Prop} {s:Shared} {a:Addr} {es:Array (Int×Value)} {ep:Nat} {t:SetTable}
theorem TPl.at {h h':Heap} {T:Addr} {ps:List Nat} (x:TPl h T ps) (k:∀ o,h.get? T=some o→h'.get? T=some o):TPl h' T ps:=let ⟨o,n,ho,hd⟩:=x;⟨o,n,k o ho,hd⟩
theorem drw_item {I T:Addr} {i n p:Nat} {ps:List Nat} {Q:Option Value→Shared→Prop} (hit:SIt s.heap I a (.ref T) i n ep) (hS:SAt s.heap a es ep t) (hT:TPl s.heap T ps) (hf:t.fits es.size=true) (hn:es.size=n) (hp:ps[i]? =some p) (hpn:p < n)
  (hQ:∀ h',SIt h' I a (.ref T) (i + 1) n ep→Heap.SameBut I s.heap h'→Q (some (es.getD p (0,.none)).2) { s with heap:=h' }):
  wpAny (model prog w) A (pyNext (.ref I)) Q E s:=by
 obtain ⟨o,ho,hc,hd⟩:=id hit
 obtain ⟨oT,kT,hoT,hdT⟩:=hT
 unfold pyNext
 refine wpAny_bind (wpAny_attempt (wpAny_callSpecial?_slot (name:=Str.ofString "__next__") hit.ty slot_sin (wpAny_call_entry slot_sin hit.ty entry_sin ?_ (args_sin _))))
 unfold Builtin.«set_iterator.__next__»
 refine wpAny_bind (wpAny_of_eq (a:=(Value.ref I,([]:List Value))) rfl ?_)
 refine wpAny_bind (wpAny_fieldsOf ho hd ?_)
 dsimp only
 refine wpAny_bind (entr hS hf ?_)
 rw [hn]
 simp only [bne_self_eq_false,Bool.false_eq_true,↓reduceIte,Int.toNat_natCast]
 refine wpAny_bind (wpAny_seqItems hoT hdT ?_)
 dsimp only
 have e1:((ps.map fun (p:Nat)=>rawInt p).toArray)[i]? =some (rawInt p):=by
  rw [List.getElem?_toArray,List.getElem?_map,hp]
  rfl
 rw [e1]
 simp only [rawInt,Int.toNat_natCast]
 unfold setNextDrawn
 obtain ⟨oS,hoS,hdS⟩:=hS
 refine wpAny_bind (wpAny_bind (wpAny_setState_of hoS hdS hf ?_))
 have e2:es[p]? =some (es.getD p (0,.none)):=by
  rw [Array.getElem?_eq_getElem (by omega)]
  simp [Array.getD,show p < es.size by omega]
 simp only [bne_self_eq_false,Bool.false_eq_true,↓reduceIte,e2]
 refine wpAny_pure ?_
 refine wpAny_bind (wpAny_setField ho hd (by simp) (wpAny_pure ⟨_,rfl,wpAny_pure (hQ _ ?_ (Heap.SameBut.update ..))⟩))
 refine ⟨_,Heap.get?_update_self _ ho (Obj.isFreed_of_fields (Obj.data_mapFields hd _)),(Obj.cls_mapFields ..).trans hc,?_⟩
 rw [Obj.data_mapFields hd]
 simp
theorem drw_done {I T:Addr} {n:Nat} {ps:List Nat} {Q:Option Value→Shared→Prop} (hh:A.handled=none) (hit:SIt s.heap I a (.ref T) n n ep) (hS:SAt s.heap a es ep t) (hT:TPl s.heap T ps) (hf:t.fits es.size=true) (hn:es.size=n) (hp:ps.length=n)
  (hQ:∀ h',Heap.ExtBut I s.heap h'→Q none { s with heap:=h' }):
  wpAny (model prog w) A (pyNext (.ref I)) Q E s:=by
 obtain ⟨o,ho,hc,hd⟩:=id hit
 obtain ⟨oT,kT,hoT,hdT⟩:=hT
 unfold pyNext
 refine wpAny_bind (wpAny_attempt (wpAny_callSpecial?_slot (name:=Str.ofString "__next__") hit.ty slot_sin (wpAny_call_entry slot_sin hit.ty entry_sin ?_ (args_sin _))))
 unfold Builtin.«set_iterator.__next__»
 refine wpAny_bind (wpAny_of_eq (a:=(Value.ref I,([]:List Value))) rfl ?_)
 refine wpAny_bind (wpAny_fieldsOf ho hd ?_)
 dsimp only
 refine wpAny_bind (entr hS hf ?_)
 rw [hn]
 simp only [bne_self_eq_false,Bool.false_eq_true,↓reduceIte,Int.toNat_natCast]
 refine wpAny_bind (wpAny_seqItems hoT hdT ?_)
 dsimp only
 have e1:((ps.map fun (p:Nat)=>rawInt p).toArray)[n]? =none:=by
  rw [List.getElem?_toArray,List.getElem?_map,List.getElem?_eq_none (by omega)]
  rfl
 rw [e1]
 dsimp only
 refine wpAny_bind (wpAny_setField ho hd (by simp) ?_)
 have ho1:(s.heap.update I (Obj.mapFields (·.setIfInBounds 0 (rawInt 0)))).get? I=some (Obj.mapFields (·.setIfInBounds 0 (rawInt 0)) o):=Heap.get?_update_self _ ho (Obj.isFreed_of_fields (Obj.data_mapFields hd _))
 have hd1:=Obj.data_mapFields hd (·.setIfInBounds 0 (rawInt 0))
 refine wpAny_bind (wpAny_setField ho1 hd1 (by simp) ?_)
 show wpAny _ _ (newExc (.type "StopIteration") [] >>=_) _ _ _
 refine wpAny_bind ?_
 simp only [newExc,newTuple]
 refine wpAny_bind (wpAny_newObj_type ?_ (by size_fits))
 refine wpAny_bind (m:=firstArgMember _ _) (wpAny_of_eq (a:=Value.none) (by first | rfl | (simp only [firstArgMember];rfl)) ?_)
 refine wpAny_newObj_type ?_ (by size_fits)
 simp only [raiseNew]
 refine wpAny_bind (wpAny_handled ?_)
 rw [show A.in1.handled=none from hh]
 refine wpAny_bind (wpAny_pure (wpAny_throw ?_))
 refine wpAny_bind (wpAny_isInstance (T:="StopIteration") (b:=true) ⟨_,Heap.get?_push_size _ rfl,rfl⟩ isSubtype_stop ?_)
 exact wpAny_pure (hQ _ ((((Heap.SameBut.update ..).trans (Heap.SameBut.update ..)).extBut.push _).push _))
theorem walk_drw (hh:A.handled=none) {I T:Addr} (hne:a≠I) (hTI:T≠I) {n:Nat} (hf:t.fits es.size=true) (hn:es.size=n) {ps:List Nat} (hp:ps.Perm (List.range n)):
  Walks prog w A I [I,a,T] [I] n (fun i v=>(outD es ps)[i]? =some v) (fun i h=>SAt h a es ep t∧SIt h I a (.ref T) i n ep∧TPl h T ps) where
 sub:=fun b hb=>by simp at hb;simp [hb]
 frame:=fun _ _ _ st hk=>⟨st.1.at fun o e=>hk a (by simp) o e,st.2.1.at fun o e=>hk I (by simp) o e,st.2.2.at fun o e=>hk T (by simp) o e⟩
 item:=fun i s Q E hi st hQ=>by
  have hl:ps.length=n:=by rw [hp.length_eq,List.length_range]
  have e:ps[i]? =some (ps[i]'(by omega)):=List.getElem?_eq_getElem (by omega)
  have hpn:ps[i]'(by omega) < n:=List.mem_range.mp (hp.mem_iff.mp (List.getElem_mem (by omega)))
  refine drw_item st.2.1 st.1 st.2.2 hf hn e hpn fun h' hit' sb=>?_
  exact hQ _ h' s.toks (by unfold outD;rw [List.getElem?_map,e];rfl) ⟨st.1.at fun o z=>by rw [sb.2 a hne];exact z,hit',st.2.2.at fun o z=>by rw [sb.2 T hTI];exact z⟩ fun b o hb z=>sb.extBut b o (fun h=>hb (by simp [h])) z
 done:=fun s Q E st hQ=>drw_done hh st.2.1 st.1 st.2.2 hf hn (by rw [hp.length_eq,List.length_range]) fun h' he=>hQ h' s.toks fun b o hb z=>he b o (fun h=>hb (by simp [h])) z
 self:=fun _ _ _ _ st hQ=>st.2.1.self hQ
theorem iter_set {n:Nat} {Q:Value→Shared→Prop} (hT:s.TypeIs (.ref a) "set") (hS:SAt s.heap a es ep t) (hf:t.fits es.size=true) (hn:es.size=n) (hz:n≤sizeLine) (hU:TabU w t)
  (h:∀ (h':Heap) d (I:Addr) (fp:List Addr) (out:List Value) (St:Nat→Heap→Prop),(∀ b o,s.heap.get? b=some o→h'.get? b=some o)→I∈fp→(∀ b∈fp,b=a∨s.heap.objs.size≤b)→s.heap.objs.size≤I→out.Perm (es.toList.map (·.2))→
   (∀ A:Around,A.handled=none→Walks prog w A I fp [I] n (fun i v=>out[i]? =some v) St)→St 0 h'→Q (.ref I) { s with heap:=h',drawn:=d }):
  wpAny (model prog w) A (pyIter (.ref a)) Q E s:=by
 have haz:a < s.heap.objs.size:=let ⟨o,ho,_⟩:=hS;Heap.lt_size ho
 refine wpAny_pyIter_slot hT PySem.F.slot_set_iter (wpAny_call_entry PySem.F.slot_set_iter hT entry_set_it ?_ (PySem.F.args_set_iter_1 _))
 unfold Builtin.«frozenset.__iter__»
 refine wpAny_bind (wpAny_of_eq (a:=a) rfl ?_)
 unfold Builtin.Frozenset.sizeOf
 refine wpAny_bind (wpAny_bind (entr hS hf (wpAny_pure ?_)))
 obtain ⟨oS,hoS,hdS⟩:=id hS
 unfold setDrawn
 refine wpAny_bind (wpAny_bind (wpAny_setState_of hoS hdS hf ?_))
 dsimp only
 refine wpAny_bind (by_text (wpAny_pure ?_))
 by_cases hd:(!byT w&&drawnB es t)=true
 ·refine wpAny_ite_split (fun _=>?_) (fun z=>absurd hd z)
  refine wpAny_bind (draw_any _ _ _ _ List.length_range fun ps d hp=>?_)
  have hl:ps.length=n:=by rw [hp.length_eq,List.length_range,hn]
  refine wpAny_bind (wpAny_newTuple ?_ (by rw [List.length_map,hl];exact hz))
  have hS1:SAt (s.heap.push { cls:=.type "tuple",data:=.seq (ps.map fun (i:Nat)=>rawInt i).toArray }) a es ep t:=hS.at fun o e=>Heap.get?_push_of_some _ e
  obtain ⟨oS1,hoS1,hdS1⟩:=id hS1
  unfold setEpoch
  refine wpAny_bind (wpAny_bind (wpAny_setState_of hoS1 hdS1 hf (wpAny_pure ?_)))
  refine wpAny_bind (wpAny_newObj_type (wpAny_pure ⟨_,rfl,"set_iterator",_,⟨_,Heap.get?_push_size _ rfl,rfl⟩,slot_sin.lookup,?_⟩) (by size_fits))
  have e1:(s.heap.push { cls:=.type "tuple",data:=.seq (ps.map fun (i:Nat)=>rawInt i).toArray }).objs.size=s.heap.objs.size + 1:=Heap.size_push _ _
  refine h _ d _ [(s.heap.push { cls:=.type "tuple",data:=.seq (ps.map fun (i:Nat)=>rawInt i).toArray }).objs.size,a,s.heap.objs.size] (outD es ps) _ (fun b o e=>Heap.get?_push_of_some _ (Heap.get?_push_of_some _ e)) (by simp) (fun b hb=>?_) (by rw [e1];exact Nat.le_succ _) ?_
   (fun A' hA'=>walk_drw hA' (by rw [e1];exact Nat.ne_of_lt (Nat.lt_succ_of_lt haz)) (by rw [e1];exact Nat.ne_of_lt (Nat.lt_succ_self _)) hf hn (hn▸hp)) ⟨hS1.at fun o e=>Heap.get?_push_of_some _ e,⟨_,Heap.get?_push_size _ rfl,rfl,?_⟩,⟨_,_,Heap.get?_push_of_some _ (Heap.get?_push_size _ rfl),rfl⟩⟩
  ·rcases List.mem_cons.mp hb with rfl | hb
   ·exact .inr (by rw [e1];exact Nat.le_succ _)
   rcases List.mem_cons.mp hb with rfl | hb
   ·exact .inl rfl
   rw [List.mem_singleton] at hb
   exact .inr (Nat.le_of_eq hb.symm)
  ·rw [←outD_all]
   exact hp.map _
  ·rw [hn]
   rfl
 ·refine wpAny_ite_split (fun z=>absurd z hd) (fun _=>wpAny_bind (wpAny_pure ?_))
  unfold setEpoch
  refine wpAny_bind (wpAny_bind (wpAny_setState_of hoS hdS hf (wpAny_pure ?_)))
  refine wpAny_bind (wpAny_newObj_type (wpAny_pure ⟨_,rfl,"set_iterator",_,⟨_,Heap.get?_push_size _ rfl,rfl⟩,slot_sin.lookup,?_⟩) (by size_fits))
  have hne:a≠s.heap.objs.size:=Nat.ne_of_lt haz
  have hfp:∀ b∈[s.heap.objs.size,a],b=a∨s.heap.objs.size≤b:=fun b hb=>by
   rcases List.mem_cons.mp hb with rfl | hb
   ·exact .inr (Nat.le_refl _)
   ·exact .inl (List.mem_singleton.mp hb)
  cases hb:byT w with
  | true=>
   obtain ⟨out,hp,hw⟩:=walk_txt (prog:=prog) (w:=w) (ep:=ep) (t:=t) (I:=s.heap.objs.size) hne hf hn hb
   refine h _ s.drawn _ [s.heap.objs.size,a] out _ (fun b o e=>Heap.get?_push_of_some _ e) (by simp) hfp (Nat.le_refl _) hp hw ⟨hS.at fun o e=>Heap.get?_push_of_some _ e,_,Heap.get?_push_size _ rfl,rfl,?_⟩
   rw [hn]
   rfl
  | false=>
   have hd':drawnB es t=false:=by rw [hb] at hd;simpa using hd
   have hl:t.led=true:=by rw [hU.2,hb];rfl
   refine h _ s.drawn _ [s.heap.objs.size,a] (es.toList.map (·.2)) _ (fun b o e=>Heap.get?_push_of_some _ e) (by simp) hfp (Nat.le_refl _) (List.Perm.refl _) (fun A' hA'=>walk_plc hA' hne hf hn hb hd' hl hU.1) ⟨hS.at fun o e=>Heap.get?_push_of_some _ e,_,Heap.get?_push_size _ rfl,rfl,?_⟩
   rw [hn]
   rfl
end
end L2
namespace L2
open PySem PySem.Spec PyProof.Rows
section
variable {prog:Program} {w:World} {A:Around} {E:Value→Shared→Prop} {s:Shared} {a:Addr}
theorem hint_set {Q:Bool→Shared→Prop} (hT:s.TypeIs (.ref a) "set") (h:Q false s):wpAny (model prog w) A (Builtin.List.listLengthHint (.ref a)) Q E s:=by
 unfold Builtin.List.listLengthHint
 refine wpAny_bind (wpAny_specialOf hT PySem.F.slot_set_len.lookup ?_)
 generalize hid:("set.__len__":String)=id0
 wp_delta
 rw [show splitId id0=some ("set","__len__") from by subst hid;decide +kernel]
 subst hid
 refine wpAny_bind (wpAny_isInstance (T:="set") (b:=true) hT (by rw [isSubtype_type];kernel_rfl) ?_)
 refine wpAny_ite_split (fun hab=>absurd hab (by decide)) (fun _=>?_)
 refine wpAny_ite_split (fun _=>?_) (fun hab=>absurd (by decide +kernel) hab)
 refine wpAny_bind (wpAny_typeOf hT ?_)
 exact wpAny_pure h
theorem items_is {P:List Value} {acc:Array Value} {n:Nat} (hl:P.length=n) (h:ItemsOf (fun i v=>P[i]? =some v) acc n):acc.toList=P:=by
 refine List.ext_getElem? fun i=>?_
 rw [Array.getElem?_toList]
 by_cases g:i < n
 ·have e:acc[i]? =some (acc[i]'(by have:=h.1;omega)):=Array.getElem?_eq_getElem (by have:=h.1;omega)
  rw [e]
  exact (h.2 i _ e).symm
 ·rw [Array.getElem?_eq_none (by have:=h.1;omega),List.getElem?_eq_none (by omega)]
theorem collect_set {es:Array (Int×Value)} {ep:Nat} {t:SetTable} {n:Nat} {Q:List Value→Shared→Prop} (hh:A.handled=none) (hT:s.TypeIs (.ref a) "set") (hS:SAt s.heap a es ep t) (hf:t.fits es.size=true) (hn:es.size=n) (hz:n≤sizeLine) (hU:TabU w t)
  (h:∀ (h':Heap) d tk (out:List Value),(∀ b o,s.heap.get? b=some o→h'.get? b=some o)→s.heap.objs.size≤h'.objs.size→out.Perm (es.toList.map (·.2))→Q out { s with heap:=h',drawn:=d,toks:=tk }):
  wpAny (model prog w) A (collect (.ref a)) Q E s:=by
 have haz:a < s.heap.objs.size:=let ⟨o,ho,_⟩:=hS;Heap.lt_size ho
 unfold collect
 refine wpAny_bind (wpAny_runValue (codeAny_builtin PySem.F.entry_proto_collect ?_))
 rw [Around.under_plainId PySem.F.plain_proto_collect _]
 show wpAny _ A.in1 (newList [] >>=fun l=>again (.builtin "list.__iadd__" ⟨[l,.ref a],[]⟩)) _ _ s
 refine wpAny_bind (wpAny_newObj_type ?_)
 refine wpAny_pure ⟨plainId_quiet PySem.F.plain_list_iadd _,codeAny_builtin PySem.F.entry_list_iadd ?_⟩
 rw [Around.under_plainId PySem.F.plain_list_iadd _]
 have k0:∀ b o,s.heap.get? b=some o→(s.heap.push { cls:=.type "list",data:=.seq ([]:List Value).toArray }).get? b=some o:=fun b o e=>Heap.get?_push_of_some _ e
 have hS0:(s.heap.push { cls:=.type "list",data:=.seq ([]:List Value).toArray }).get? s.heap.objs.size=some { cls:=.type "list",data:=.seq ([]:List Value).toArray }:=Heap.get?_push_size _ rfl
 have z0:(s.heap.push { cls:=.type "list",data:=.seq ([]:List Value).toArray }).objs.size=s.heap.objs.size + 1:=Heap.size_push _ _
 generalize hG:s.heap.push { cls:=.type "list",data:=.seq ([]:List Value).toArray }=G at k0 hS0 z0
 have hSa:s.heap.objs.size≠a:=Nat.ne_of_gt haz
 have hT0:Shared.TypeIs { s with heap:=G } (.ref a) "set":=let ⟨o,ho,hc⟩:=hT;⟨o,k0 a o ho,hc⟩
 have h1:Builtin.List.listSameRef (.ref s.heap.objs.size) (.ref a)=false:=by simp [Builtin.List.listSameRef,hSa]
 show wpAny _ A.in1 (Builtin.List.listExtendWith (.ref s.heap.objs.size) (.ref a) (.ref s.heap.objs.size)) _ _ { s with heap:=G }
 unfold Builtin.List.listExtendWith
 refine wpAny_bind (wpAny_typeOf hT0 ?_)
 rw [if_neg (by rw [h1];decide)]
 refine wpAny_bind (iter_set (s:={ s with heap:=G }) hT0 (hS.at fun o e=>k0 a o e) hf hn hz hU fun h1 d I fp out St k1 hI hfp hIz hp hw hst=>?_)
 have hl:out.length=n:=by rw [hp.length_eq,List.length_map,Array.length_toList,hn]
 have hSf:s.heap.objs.size∉fp:=fun hm=>by
  rcases hfp _ hm with e | e
  ·exact hSa e
  ·have e':G.objs.size≤s.heap.objs.size:=e
   rw [z0] at e'
   exact absurd e' (Nat.not_succ_le_self _)
 have hS1:=k1 _ _ hS0
 have hT1:Shared.TypeIs { s with heap:=h1,drawn:=d } (.ref a) "set":=let ⟨o,ho,hc⟩:=hT0;⟨o,k1 a o ho,hc⟩
 refine wpAny_bind (wpAny_holding (hint_set hT1 ?_))
 refine wpAny_ite_split (fun _=>?_) (fun z=>absurd (by decide +kernel) z)
 refine wpAny_bind (wpAny_rule ?_)
 refine wpAny_bind ?_
 show wpAny _ _ (updateSeq s.heap.objs.size (·.push .none) >>=fun _=>updateSeq s.heap.objs.size (·.pop)) _ _ _
 refine wpAny_bind (wpAny_updateSeq hS1 rfl ?_)
 have hS2:=Heap.get?_update_self (Obj.mapSeq (·.push Value.none)) hS1 rfl
 refine wpAny_updateSeq (hz:=by seq_fits) hS2 rfl ?_
 have hS3:=Heap.get?_update_self (Obj.mapSeq (·.pop)) hS2 rfl
 have k3:∀ b o,b≠s.heap.objs.size→h1.get? b=some o→((h1.update s.heap.objs.size (Obj.mapSeq (·.push Value.none))).update s.heap.objs.size (Obj.mapSeq (·.pop))).get? b=some o:=fun b o hb e=>
  (Heap.get?_update_other _ _ (Ne.symm hb)).trans ((Heap.get?_update_other _ _ (Ne.symm hb)).trans e)
 have hh1:A.in1.handled=none:=hh
 have W:=hw A.in1 hh1
 have hst3:=W.frame 0 _ _ hst fun b hb o e=>k3 b o (fun z=>hSf (z▸hb)) e
 refine wpAny_pure ⟨plainId_quiet PySem.F.plain_extend_loop _,codeAny_extend_loopS W.toS hz _ hSf _ n 0 _ _ _ rfl (Nat.zero_le _) hst3 hS3 (ItemsOf.nil _) fun s' acc' c' hm hS' hacc=>?_⟩
 show wpAny _ A (load s.heap.objs.size >>=_) _ _ s'
 refine wpAny_bind (wpAny_load hS' ?_)
 show wpAny _ A (pure acc'.toList) _ _ s'
 rw [items_is hl hacc,Moved.eq_with hm]
 refine wpAny_pure (h s'.heap d s'.toks out (fun b o e=>hm.heap b o (fun z=>?_) (k3 b o (Nat.ne_of_lt (Heap.lt_size e)) (k1 b o (k0 b o e)))) (Nat.le_of_lt (Heap.lt_size hS')) hp)
 rcases List.mem_cons.mp z with z | z
 ·exact absurd z (Nat.ne_of_lt (Heap.lt_size e))
 ·rw [List.mem_singleton] at z
  have q:G.objs.size≤I:=hIz
  rw [←z,z0] at q
  exact absurd (Heap.lt_size e) (Nat.not_lt.mpr (Nat.le_of_succ_le q))
theorem sortedHeap_keep {G:Heap} {x:Addr} {vs:List Value} {out:Array Value} {b:Addr} {o:Obj} (hb:b≠x) (e:G.get? b=some o):(sortedHeap G x vs out).get? b=some o:=by
 have hlt:b < G.objs.size:=Heap.lt_size e
 unfold sortedHeap
 rw [Heap.get?_update_ne _ _ _ _ hb,Heap.get?_push_ne _ _ _ (by rw [size_push',Heap.size_update];exact Nat.ne_of_lt (Nat.lt_succ_of_lt hlt)),Heap.get?_push_ne _ _ _ (by rw [Heap.size_update];exact Nat.ne_of_lt hlt),Heap.get?_update_ne _ _ _ _ hb]
 exact e
theorem sortedHeap_new {G:Heap} {x:Addr} {vs:List Value} {out:Array Value} {n:Nat} (e:G.get? x=some (seqObj "list" vs.toArray n)):∃ n,(sortedHeap G x vs out).get? x=some (seqObj "list" out n):=by
 have hlt:x < G.objs.size:=Heap.lt_size e
 unfold sortedHeap
 obtain ⟨e1,ho1⟩:∃ e1,(G.update x (Obj.mapSeq fun _=>(#[]:Array Value))).get? x=some (seqObj "list" #[] e1):=⟨_,get?_update_seq e (fun _=>#[])⟩
 have ho6:(((G.update x (Obj.mapSeq fun _=>(#[]:Array Value))).push (seqObj "tuple" vs.toArray 0)).push (seqObj "list" #[] 0)).get? x=some (seqObj "list" #[] e1):=by
  rw [Heap.get?_push_ne _ _ _ (by rw [size_push',Heap.size_update];exact Nat.ne_of_lt (Nat.lt_succ_of_lt hlt)),Heap.get?_push_ne _ _ _ (by rw [Heap.size_update];exact Nat.ne_of_lt hlt)]
  exact ho1
 exact ⟨_,get?_update_seq ho6 fun _=>out⟩
structure Nub (ns ms:List Int):Prop where
 up:ms.Pairwise (· < ·)
 mem:∀ k,k∈ms↔k∈ns
theorem perm_of_len:∀ {L ns:List Int},L.Nodup→(∀ x∈L,x∈ns)→ns.length=L.length→L.Perm ns
 | [],ns,_,_,h=>by rw [List.eq_nil_of_length_eq_zero h]
 | x::L,ns,nd,sub,h=>by
  have hx:=sub x List.mem_cons_self
  rw [List.nodup_cons] at nd
  have p1:=List.perm_cons_erase hx
  refine ((perm_of_len nd.2 (fun y hy=>?_) ?_).cons x).trans p1.symm
  ·exact (List.mem_erase_of_ne (fun z:y=x=>nd.1 (z▸hy))).mpr (sub y (List.mem_cons_of_mem _ hy))
  ·have:=p1.length_eq
   simp only [List.length_cons] at this h
   omega
theorem met_nodup (val:Nat→Int):∀ i,(firstMet val i).Nodup
 | 0=>List.nodup_nil
 | i + 1=>by
  rw [firstMet_succ]
  unfold step_dedup
  split
  ·exact met_nodup val i
  ·rename_i g
   rw [List.nodup_append]
   refine ⟨met_nodup val i,by simp,fun a ha b hb=>?_⟩
   rw [List.mem_singleton] at hb
   subst hb
   exact fun z=>g (List.any_eq_true.mpr ⟨a,ha,by rw [z];exact beq_self_eq_true _⟩)
theorem met_mem {ns:List Int} (k:Int):k∈firstMet (fun i=>ns.getD i 0) ns.length↔k∈ns:=by
 have h:=firstMet_any (fun i=>ns.getD i 0) ns.length k
 have e:(List.range ns.length).map (fun i=>ns.getD i 0)=ns:=by
  refine List.ext_getElem? fun i=>?_
  rw [List.getElem?_map]
  by_cases g:i < ns.length
  ·rw [List.getElem?_range g,List.getElem?_eq_getElem g]
   simp [List.getD_eq_getElem?_getD,g]
  ·rw [List.getElem?_eq_none (by simpa using g),List.getElem?_eq_none (by omega)]
   rfl
 rw [e] at h
 have c:∀ l:List Int,l.any (· ==k)=true↔k∈l:=fun l=>by simp
 rw [←c,←c,h]
theorem lt_of_le_nd:∀ {l:List Int},l.Pairwise (· ≤ ·)→l.Nodup→l.Pairwise (· < ·)
 | [],_,_=>.nil
 | x::l,h,n=>by
  rw [List.pairwise_cons] at h ⊢
  rw [List.nodup_cons] at n
  exact ⟨fun y hy=>by have h1:=h.1 y hy;have h2:x≠y:=fun z=>n.1 (z▸hy);omega,lt_of_le_nd h.2 n.2⟩
theorem ints_of_set {es:List (Int×Value)} (h:ElemsOf (intKind prog w) es):∀ {out:List Value},out.Perm (es.map (·.2))→∃ ns,IntsAre out ns∧∀ k,k∈ns↔∃ e∈es,(intKind prog w).is k e.2=true:=by
 intro out hp
 have key:∀ l:List Value,(∀ v∈l,v∈es.map (·.2))→∃ ns,IntsAre l ns∧∀ k,k∈ns↔∃ v∈l,Value.isInt k v=true:=by
  intro l
  induction l with
  | nil=>intro _;exact ⟨[],.nil,fun k=>by simp⟩
  | cons v l ih=>
   intro hv
   obtain ⟨ns,h1,h2⟩:=ih fun u hu=>hv u (List.mem_cons_of_mem _ hu)
   obtain ⟨e,he,ee⟩:=List.mem_map.mp (hv v List.mem_cons_self)
   obtain ⟨⟨k,hk,_⟩,_⟩:=h e he
   obtain ⟨t,et⟩:=Value.isInt_shape hk
   obtain rfl:v=.int k t:=ee.symm.trans et
   refine ⟨k::ns,.cons k t h1,fun j=>?_⟩
   rw [List.mem_cons,h2 j]
   have:Value.isInt j (.int k t)=true↔j=k:=⟨fun q=>by (obtain ⟨t',e'⟩:=Value.isInt_shape q;cases e';rfl),fun e'=>by (rw [e'];exact intKind_is prog w k t)⟩
   constructor
   ·rintro (rfl | ⟨u,hu,q⟩)
    ·exact ⟨_,List.mem_cons_self,this.mpr rfl⟩
    ·exact ⟨u,List.mem_cons_of_mem _ hu,q⟩
   ·rintro ⟨u,hu,q⟩
    rcases List.mem_cons.mp hu with rfl | hu
    ·exact .inl (this.mp q)
    ·exact .inr ⟨u,hu,q⟩
 obtain ⟨ns,h1,h2⟩:=key out fun v hv=>hp.mem_iff.mp hv
 refine ⟨ns,h1,fun k=>(h2 k).trans ⟨fun ⟨v,hv,q⟩=>?_,fun ⟨e,he,q⟩=>⟨e.2,hp.mem_iff.mpr (List.mem_map.mpr ⟨e,he,rfl⟩),q⟩⟩⟩
 obtain ⟨e,he,ee⟩:=List.mem_map.mp (hp.mem_iff.mp hv)
 exact ⟨e,he,by rw [ee];exact q⟩
theorem sorted_setU {ns:List Int} {Q:Value→Shared→Prop} (hh:A.handled=none) (hS:SetU prog w s.heap a (fun k=>(firstMet (fun i=>ns.getD i 0) ns.length).any (· ==k)) (firstMet (fun i=>ns.getD i 0) ns.length).length) (h64:ns.length < 64)
  (h:∀ (h':Heap) d tk (l:Addr) (n:Nat) (out:Array Value) (ms:List Int),(∀ b o,s.heap.get? b=some o→h'.get? b=some o)→s.heap.objs.size≤l→h'.get? l=some (seqObj "list" out n)→IntsAre out.toList ms→Nub ns ms→ms.length≤ns.length→Q (.ref l) { s with heap:=h',drawn:=d,toks:=tk }):
  wpAny (model prog w) A (call (.builtin "sorted") [.ref a]) Q E s:=by
 obtain ⟨o,es,ep,t,ho,hel,hm,hb,hf,hn,hU⟩:=hS
 have hle:=firstMet_length_le (fun i=>ns.getD i 0) ns.length
 have hz:(firstMet (fun i=>ns.getD i 0) ns.length).length≤sizeLine:=by rw [sizeLine_eq];omega
 refine Calls.call_function_entry kind_sorted plain_sorted entry_sorted (args_sorted1 _) ?_
 unfold Builtin.«sorted»
 refine wpAny_bind (m:=checkCount "sorted" 1 1 _) (wpAny_pure ?_)
 refine wpAny_bind (collect_set (by simpa using hh) ⟨o,ho.1,ho.2.1.1⟩ ⟨o,ho.1,ho.2.2⟩ hf hn hz hU fun h1 d tk vs k1 hz1 hp=>?_)
 obtain ⟨ns1,hI,hmem⟩:=ints_of_set hel hp
 have hvl:vs.length=(firstMet (fun i=>ns.getD i 0) ns.length).length:=by rw [hp.length_eq,List.length_map,Array.length_toList,hn]
 have hnl:ns1.length=(firstMet (fun i=>ns.getD i 0) ns.length).length:=by rw [←IntsAre.length hI,hvl]
 have pm:(firstMet (fun i=>ns.getD i 0) ns.length).Perm ns1:=perm_of_len (met_nodup _ _) (fun x hx=>(hmem x).mpr ((hm x).mp (List.any_eq_true.mpr ⟨x,hx,beq_self_eq_true _⟩))) hnl
 refine wpAny_bind (wpAny_newList ?_ (by rw [hvl];exact hz))
 have hk1:(h1.push (seqObj "list" vs.toArray 0)).get? h1.objs.size=some (seqObj "list" vs.toArray 0):=Heap.get?_push_size _ rfl
 show wpAny _ _ _ _ _ { s with heap:=h1.push (seqObj "list" vs.toArray 0),drawn:=d,toks:=tk }
 refine wpAny_bind (wpAny_holding (wpAny_call_entry slot_list_sort ⟨_,hk1,rfl⟩ entry_list_sort (list_sort_tree hk1 hI (by omega) fun out ms a1 a2 a3=>⟨_,rfl,?_⟩) (args_list_sort _)))
 have hnew:=sortedHeap_new (out:=out) hk1
 obtain ⟨n,hn'⟩:=hnew
 refine wpAny_pure ⟨_,rfl,h _ d tk h1.objs.size n out ms (fun b o e=>sortedHeap_keep (Nat.ne_of_lt (Heap.lt_size (k1 b o e))) (Heap.get?_push_of_some _ (k1 b o e))) hz1 hn' a1 ⟨lt_of_le_nd a3 ?_,fun k=>?_⟩ ?_⟩
 ·exact (a2.trans pm.symm).nodup_iff.mpr (met_nodup _ _)
 ·rw [(a2.trans pm.symm).mem_iff,met_mem]
 ·rw [(a2.trans pm.symm).length_eq];exact hle
end
section
variable {X:Cx}
theorem Inv.drawn {pins:List (Addr×Obj)} {σ:St} {H:Hp} {s:Shared} (I:Inv X pins σ H s) (d:Drawn):Inv X pins σ H { s with drawn:=d }:=⟨I.ok,I.os,I.bare,I.base,I.loc,I.cell,I.free,I.freeC,I.pin,I.hok,I.len⟩
noncomputable def tSortSet (K:PySem.W.Frag) (ta:TA):TE:=fun σ H Q=>ta σ H fun vs H1=>∃ (p:Addr) (ns:List Int),vs=[.ref p]∧SqL K H1 p (ns.map V.int)∧ns.length < 64∧
 ∀ (l:Addr) (ms:List Int),H1 l=none→Nub ns ms→Q (.ref l) (upd H1 l (.lst (ms.map V.int)))
theorem pe_sortSet {e:Expr} {ta:TA} {p1 p2 p3 p4:Pos} (hc:X.calm=true) (hg:Gl X "sorted") (hm:X.mg "sorted"=none) (hg2:Gl X "set") (hm2:X.mg "set"=none) (ha:PA X [e] ta) (hs:starEach [e] X.env=[(false,eval e X.env)]:=by rfl)
  (hs2:starEach [Expr.Call (.Name "set" p2) [e] [] p3] X.env=[(false,eval (.Call (.Name "set" p2) [e] [] p3) X.env)]:=by rfl):
  PE X (.Call (.Name "sorted" p1) [.Call (.Name "set" p2) [e] [] p3] [] p4) (tSortSet X.K ta):=by
 intro pins s σ H Q I h
 refine wpAny_Call_Name_kw (ld_blt I hg hm bt_sorted (PyProof.Rows.callWith_builtin1 ?_ hs2 rfl) (by decide) (by decide))
 rw [hs2]
 show wpAny _ _ (spliced ((false,eval (.Call (.Name "set" p2) [e] [] p3) X.env)::backTo p4 [])) _ _ s
 refine Calls.spliced_cons (Call_ (ld_blt I hg2 hm2 bt_set (PyProof.Rows.callWith_type1 (thn (ha p3 pins s σ H _ I h) fun us s1 ⟨vs,H1,I1,r1,q1⟩=>?_) hs rfl)))
 obtain ⟨b,ns,e,hq,hz1,q⟩:=q1
 subst e
 obtain ⟨u,rfl,rx⟩:=Vals.one r1
 obtain rfl:u=Value.ref b:=rx
 obtain ⟨its,rv,pl,hz⟩:=I1.list hq
 have hi:=intsAre_of rv
 have hsz:its.toArray.size=ns.length:=by rw [List.size_toArray,←rv.length,List.length_map]
 have hsc:its.toArray.size + 1 < scanBound:=Nat.lt_of_le_of_lt (Nat.succ_le_of_lt (by rw [hsz];exact hz1)) (by decide)
 refine call_setU (I1.ok.hd hc) pl.isList hi hsc fun h' tk hS hk=>?_
 have I2:Inv X pins σ H1 { s1 with heap:=h',toks:=tk }:=I1.kept fun c o e=>hk c o e
 refine Calls.spliced_nil ?_
 rw [hsz] at hS
 refine sorted_setU (s:={ s1 with heap:=h',toks:=tk }) (I1.ok.hd hc) hS hz1 fun h2 d tk2 l n out ms k2 hl ho ia nb hle=>?_
 have hv:=vals_intsA ia
 refine ⟨.ref l,_,(I2.drawn d).laid (t':=tk2) (o:=.lst (ms.map V.int)) k2 hl ⟨?_,out.toList,n,hv,by simpa using ho⟩,rfl,q l ms (I2.hok.fresh hl) nb⟩
 rw [List.length_map,sizeLine_eq]
 omega
theorem k_sortSet (K:PySem.W.Frag) {e:Expr} {ta:TA} {p1 p2 p3 p4:Pos} (hg:Gl X "sorted") (hm:X.mg "sorted"=none) (hg2:Gl X "set") (hm2:X.mg "set"=none) (ha:PA X [e] ta) (hc:X.calm=true:=by rfl) (h:X.K=K:=by rfl) (hs:starEach [e] X.env=[(false,eval e X.env)]:=by rfl)
  (hs2:starEach [Expr.Call (.Name "set" p2) [e] [] p3] X.env=[(false,eval (.Call (.Name "set" p2) [e] [] p3) X.env)]:=by rfl):
  PE X (.Call (.Name "sorted" p1) [.Call (.Name "set" p2) [e] [] p3] [] p4) (tSortSet K ta):=h▸pe_sortSet hc hg hm hg2 hm2 ha hs hs2
theorem rd_sortSet {K:PySem.W.Frag} {σ:St} {H:Hp} {Q:VK} {ta:TA} (h:ta σ H fun vs H1=>∃ (p:Addr) (ns:List Int),vs=[.ref p]∧SqL K H1 p (ns.map V.int)∧ns.length < 64∧∀ (l:Addr) (ms:List Int),H1 l=none→Nub ns ms→Q (.ref l) (upd H1 l (.lst (ms.map V.int)))):tSortSet K ta σ H Q:=h
end
end L2
namespace L2
open PySem PySem.Spec PyProof.Rows
theorem paired_at {α β:Type} {R:α→β→Prop}:∀ {xs:List α} {ys:List β},Paired R xs ys→∀ {i:Nat} {y:β},ys[i]? =some y→∃ x,xs[i]? =some x∧R x y
 | _,_,.nil,i,y,h=>by simp at h
 | _,_,.cons r _,0,y,h=>by simp at h;exact ⟨_,rfl,h▸r⟩
 | _,_,.cons r rs,i + 1,y,h=>by
  obtain ⟨x,hx,rx⟩:=paired_at rs (i:=i) (by simpa using h)
  exact ⟨x,by simpa using hx,rx⟩
section
variable {X:Cx}
noncomputable def tMaxVals (td:TE):TE:=fun σ H Q=>td σ H fun x H1=>∃ (a:Addr) (kvs:List (Key×Int)),x=.ref a∧H1 a=some (.dK (kvs.map fun p=>(p.1,V.int p.2)))∧kvs≠[]∧∀ m:Int,(∃ p∈kvs,p.2=m)→(∀ p∈kvs,p.2≤m)→Q (.int m) H1
theorem pe_maxVals {o:Expr} {td:TE} {p1 p4 apos cpos:Pos} (hc:X.calm=true) (hg:Gl X "max") (hm:X.mg "max"=none) (ho:PE X o td)
  (hs2:starEach [Expr.Call (.Attribute o "values" apos) [] [] cpos] X.env=[(false,eval (.Call (.Attribute o "values" apos) [] [] cpos) X.env)]:=by rfl)
  (hbase:attributeBase o "values" X.env (eval o X.env)=eval o X.env:=by rfl) (hline:(apos.endLine==cpos.line)=true:=by rfl):
  PE X (.Call (.Name "max" p1) [.Call (.Attribute o "values" apos) [] [] cpos] [] p4) (tMaxVals td):=by
 intro pins s σ H Q I h
 refine wpAny_Call_Name_kw (ld_blt I hg hm (show bootBuiltins "max"=some (.builtin "max") by first | rfl | exact bt_max) (PyProof.Rows.callWith_builtin1 ?_ hs2 rfl) (by decide) (by decide))
 rw [hs2]
 show wpAny _ _ (spliced ((false,eval (.Call (.Attribute o "values" apos) [] [] cpos) X.env)::backTo p4 [])) _ _ s
 refine Calls.spliced_cons (wpAny_Call_method hbase rfl hline PySem.F.plainAttrs_dict PySem.F.slot_dict_values PySem.F.type_dict_values (thn (ho pins s σ H _ I h) fun u s1 ⟨x,H1,I1,rx,a,kvs,ex,ea,ne,q⟩=>?_))
 subst ex
 obtain rfl:u=Value.ref a:=rx
 obtain ⟨t1,t2,lo⟩:=isD_at I1 (.inl ⟨_,.inl ea⟩)
 refine ⟨t1,t2,?_⟩
 obtain ⟨_,_,vs,rel,dd⟩:=dk_of I1.hok ea
 refine Calls.callWith_builtin rfl (PySem.evalArgs_none ?_)
 refine call_meetsIn PySem.F.slot_dict_values dd.typeIs PySem.F.entry_dict_values (PySem.F.args_dict_values_1 _) (meets_dict_values (mixKind X.prog X.w) a lo) ⟨⟨vs,dd⟩,?_⟩
 refine Calls.spliced_nil ?_
 have hlen:vs.length=kvs.length:=by
  have:=Paired.length rel
  rw [List.length_map] at this
  exact this.symm
 let val:Nat→Int:=fun i=>(kvs[i]?.map (·.2)).getD 0
 have hval:∀ (i:Nat) (v:Value),(∃ k,vs[i]? =some (k,v))→∃ t,v=Value.int (val i) t:=by
  rintro i v ⟨k,e⟩
  obtain ⟨x,hx,_,rx⟩:=paired_at rel e
  rw [List.getElem?_map] at hx
  cases e2:kvs[i]? with
  | none=>rw [e2] at hx;cases hx
  | some p=>
   rw [e2] at hx
   cases hx
   obtain ⟨t,et⟩:=rx
   refine ⟨t,(show v=Value.int p.2 t from et).trans ?_⟩
   show _=Value.int ((kvs[i]?.map (·.2)).getD 0) t
   rw [e2]
   rfl
 generalize hG:s1.heap.push { cls:=Value.type "dict_values",data:=Data.fields #[Value.ref a] }=G
 have k1:∀ b u,s1.heap.get? b=some u→G.get? b=some u:=fun b u e=>by rw [←hG];exact Heap.get?_push_of_some _ e
 have hv:G.IsValuesView s1.heap.objs.size a:=by rw [←hG];exact ⟨_,Heap.get?_push_size _ rfl,rfl,rfl⟩
 obtain ⟨ep,dat⟩:=dd.dictAt
 have dat1:G.DictAt (mixKind X.prog X.w) a vs ep:=dat.at' fun u e=>k1 a u e
 refine call_max_walk (wpAny_pyIter_values (s:={ s1 with heap:=G }) hv dat1 ?_)
 refine ⟨_,_,_,_,_,_,_,rfl,Walks.dictValues (A:=X.A.in1) (I1.ok.hd hc) _ a (Nat.ne_of_lt dat1.lt_size) vs ep,⟨⟨_,Heap.get?_push_size _ rfl,rfl,rfl⟩,dat1.push _⟩,fun b hb=>?_,?_,CmpOf.ints_gt val hval,fun v h' tk hP hk=>?_⟩
 ·rw [Heap.size_push]
  rcases List.mem_cons.mp hb with rfl | hb
  ·exact Nat.lt_succ_self _
  ·rw [List.mem_singleton.mp hb]
   exact Nat.lt_succ_of_lt dat1.lt_size
 ·rw [hlen]
  exact List.length_pos_iff.mpr ne
 ·have hp:0 < kvs.length:=List.length_pos_iff.mpr ne
  have B:=argBest_gt val (vs.length - 1)
  obtain ⟨t,et⟩:=hval _ v hP
  have hin:argBest (fun i j=>decide (val i > val j)) (vs.length - 1) < kvs.length:=by omega
  have vi:∀ i (hi:i < kvs.length),val i=(kvs[i]).2:=fun i hi=>by
   show (kvs[i]?.map (·.2)).getD 0=_
   rw [List.getElem?_eq_getElem hi]
   rfl
  refine ⟨.int (val (argBest (fun i j=>decide (val i > val j)) (vs.length - 1))),H1,?_,⟨t,et⟩,q _ ⟨_,List.getElem_mem hin,(vi _ hin).symm⟩ fun p hp'=>?_⟩
  ·refine I1.kept fun b u e=>hk b u (fun z=>?_) (Heap.get?_push_of_some _ (k1 b u e))
   rw [List.mem_singleton] at z
   have:=Heap.lt_size (k1 b u e)
   rw [z] at this
   exact Nat.lt_irrefl _ this
  ·obtain ⟨i,hi,e⟩:=List.getElem_of_mem hp'
   have:=B.2 i (by omega)
   rw [vi i hi,e] at this
   exact this
theorem k_maxVals {o:Expr} {td:TE} {p1 p4 apos cpos:Pos} (hg:Gl X "max") (hm:X.mg "max"=none) (ho:PE X o td) (hc:X.calm=true:=by rfl)
  (hs2:starEach [Expr.Call (.Attribute o "values" apos) [] [] cpos] X.env=[(false,eval (.Call (.Attribute o "values" apos) [] [] cpos) X.env)]:=by rfl)
  (hbase:attributeBase o "values" X.env (eval o X.env)=eval o X.env:=by rfl) (hline:(apos.endLine==cpos.line)=true:=by rfl):
  PE X (.Call (.Name "max" p1) [.Call (.Attribute o "values" apos) [] [] cpos] [] p4) (tMaxVals td):=pe_maxVals hc hg hm ho hs2 hbase hline
theorem rd_maxVals {σ:St} {H:Hp} {Q:VK} {td:TE} (h:td σ H fun x H1=>∃ (a:Addr) (kvs:List (Key×Int)),x=.ref a∧H1 a=some (.dK (kvs.map fun p=>(p.1,V.int p.2)))∧kvs≠[]∧∀ m:Int,(∃ p∈kvs,p.2=m)→(∀ p∈kvs,p.2≤m)→Q (.int m) H1):tMaxVals td σ H Q:=h
end
end L2
namespace My
open PySem L2
noncomputable def top (i:Nat):Stmt:=PySem.Challenge.pw_noticed_k14_whole_widest.main.body.getD i (.Pass ⟨0,0,0,0⟩)
noncomputable abbrev s_is_whole:Stmt:=top 6
noncomputable abbrev s_is_thing:Stmt:=top 7
noncomputable abbrev s_is_pair:Stmt:=top 8
noncomputable abbrev s_is_rising:Stmt:=top 9
noncomputable abbrev s_is_order:Stmt:=top 10
noncomputable abbrev s_need_order:Stmt:=top 11
noncomputable abbrev s_bars_as_two:Stmt:=top 13
noncomputable abbrev s_bars_as_three:Stmt:=top 14
noncomputable abbrev s_first_two:Stmt:=top 15
noncomputable abbrev s_first_three:Stmt:=top 16
noncomputable abbrev s_bar:Stmt:=top 17
noncomputable abbrev s_need_unbarred:Stmt:=top 18
noncomputable abbrev s_are_beside:Stmt:=top 20
noncomputable abbrev s_may_stand_behind:Stmt:=top 22
noncomputable abbrev s_longer_parts:Stmt:=top 23
noncomputable abbrev s_all_parts:Stmt:=top 24
noncomputable abbrev s_pairs_beside:Stmt:=top 25
noncomputable abbrev s_all_groups:Stmt:=top 26
noncomputable abbrev s_all_lines:Stmt:=top 27
noncomputable abbrev s_widest:Stmt:=top 28
noncomputable abbrev s_longest_line:Stmt:=top 29
noncomputable abbrev s_height:Stmt:=top 31
noncomputable abbrev s_things_at:Stmt:=top 32
noncomputable abbrev s_row:Stmt:=top 33
noncomputable abbrev s_longest:Stmt:=top 34
noncomputable abbrev s__law_cell_at:Stmt:=top 36
noncomputable abbrev s__law_mixed:Stmt:=top 37
noncomputable abbrev s__law_draw:Stmt:=top 38
noncomputable abbrev s__law_pick:Stmt:=top 39
noncomputable abbrev s__law_free:Stmt:=top 40
noncomputable abbrev s__law_sets:Stmt:=top 41
noncomputable abbrev s__law_is_group:Stmt:=top 42
noncomputable abbrev s__law_lines:Stmt:=top 43
noncomputable abbrev s_law:Stmt:=top 44
theorem sc_is_whole:FnScope ["value","low","high"] ["value","low","high"] (defScope s_is_whole):=⟨rfl,rfl,rfl,by decide +kernel,rfl,by decide +kernel,by decide +kernel⟩
theorem sc_is_thing:FnScope ["value","many"] ["value","many"] (defScope s_is_thing):=⟨rfl,rfl,rfl,by decide +kernel,rfl,by decide +kernel,by decide +kernel⟩
theorem sc_is_pair:FnScope ["value","many"] ["value","many"] (defScope s_is_pair):=⟨rfl,rfl,rfl,by decide +kernel,rfl,by decide +kernel,by decide +kernel⟩
theorem sc_is_rising:FnScope ["pairs"] ["pairs"] (defScope s_is_rising):=⟨rfl,rfl,rfl,by decide +kernel,rfl,by decide +kernel,by decide +kernel⟩
theorem sc_is_order:FnScope ["value","many","pairs"] ["value"] (defScope s_is_order):=⟨rfl,rfl,rfl,by decide +kernel,rfl,by decide +kernel,by decide +kernel⟩
theorem sc_need_order:FnScope ["value"] ["value"] (defScope s_need_order):=⟨rfl,rfl,rfl,by decide +kernel,rfl,by decide +kernel,by decide +kernel⟩
theorem sc_bars_as_two:FnScope ["pairs","a","b","c","d"] ["pairs","a","b","c","d"] (defScope s_bars_as_two):=⟨rfl,rfl,rfl,by decide +kernel,rfl,by decide +kernel,by decide +kernel⟩
theorem sc_bars_as_three:FnScope ["pairs","a","b","c","d"] ["pairs","a","b","c","d"] (defScope s_bars_as_three):=⟨rfl,rfl,rfl,by decide +kernel,rfl,by decide +kernel,by decide +kernel⟩
theorem sc_first_two:FnScope ["pairs","a","b","c","d"] ["pairs"] (defScope s_first_two):=⟨rfl,rfl,rfl,by decide +kernel,rfl,by decide +kernel,by decide +kernel⟩
theorem sc_first_three:FnScope ["many","pairs","a","b","c","d"] ["many","pairs"] (defScope s_first_three):=⟨rfl,rfl,rfl,by decide +kernel,rfl,by decide +kernel,by decide +kernel⟩
theorem sc_bar:FnScope ["order","found"] ["order"] (defScope s_bar):=⟨rfl,rfl,rfl,by decide +kernel,rfl,by decide +kernel,by decide +kernel⟩
theorem sc_need_unbarred:FnScope ["order"] ["order"] (defScope s_need_unbarred):=⟨rfl,rfl,rfl,by decide +kernel,rfl,by decide +kernel,by decide +kernel⟩
theorem sc_are_beside:FnScope ["pairs","one","other"] ["pairs","one","other"] (defScope s_are_beside):=⟨rfl,rfl,rfl,by decide +kernel,rfl,by decide +kernel,by decide +kernel⟩
theorem sc_may_stand_behind:FnScope ["allowed","part","thing"] ["allowed","part","thing"] (defScope s_may_stand_behind):=⟨rfl,rfl,rfl,by decide +kernel,rfl,by decide +kernel,by decide +kernel⟩
theorem sc_longer_parts:FnScope ["many","allowed","parts","found","part","thing"] ["many","allowed","parts"] (defScope s_longer_parts):=⟨rfl,rfl,rfl,by decide +kernel,rfl,by decide +kernel,by decide +kernel⟩
theorem sc_all_parts:FnScope ["many","allowed","found","parts"] ["many","allowed"] (defScope s_all_parts):=⟨rfl,rfl,rfl,by decide +kernel,rfl,by decide +kernel,by decide +kernel⟩
theorem sc_pairs_beside:FnScope ["order","found","one","other"] ["order"] (defScope s_pairs_beside):=⟨rfl,rfl,rfl,by decide +kernel,rfl,by decide +kernel,by decide +kernel⟩
theorem sc_all_groups:FnScope ["order"] ["order"] (defScope s_all_groups):=⟨rfl,rfl,rfl,by decide +kernel,rfl,by decide +kernel,by decide +kernel⟩
theorem sc_all_lines:FnScope ["order"] ["order"] (defScope s_all_lines):=⟨rfl,rfl,rfl,by decide +kernel,rfl,by decide +kernel,by decide +kernel⟩
theorem sc_widest:FnScope ["order"] ["order"] (defScope s_widest):=⟨rfl,rfl,rfl,by decide +kernel,rfl,by decide +kernel,by decide +kernel⟩
theorem sc_longest_line:FnScope ["order"] ["order"] (defScope s_longest_line):=⟨rfl,rfl,rfl,by decide +kernel,rfl,by decide +kernel,by decide +kernel⟩
theorem sc_height:FnScope ["pairs","thing","less","more"] ["pairs","thing"] (defScope s_height):=⟨rfl,rfl,rfl,by decide +kernel,rfl,by decide +kernel,by decide +kernel⟩
theorem sc_things_at:FnScope ["heights","level"] ["heights","level"] (defScope s_things_at):=⟨rfl,rfl,rfl,by decide +kernel,rfl,by decide +kernel,by decide +kernel⟩
theorem sc_row:FnScope ["order","heights"] ["order"] (defScope s_row):=⟨rfl,rfl,rfl,by decide +kernel,rfl,by decide +kernel,by decide +kernel⟩
theorem sc_longest:FnScope ["order","lengths","things","thing","ahead"] ["order"] (defScope s_longest):=⟨rfl,rfl,rfl,by decide +kernel,rfl,by decide +kernel,by decide +kernel⟩
theorem sc__law_cell_at:FnScope ["_law_script","_law_k"] ["_law_script","_law_k"] (defScope s__law_cell_at):=⟨rfl,rfl,rfl,by decide +kernel,rfl,by decide +kernel,by decide +kernel⟩
theorem sc__law_mixed:FnScope ["_law_script","_law_k","_law_many","_law_drawn"] ["_law_script","_law_k","_law_many"] (defScope s__law_mixed):=⟨rfl,rfl,rfl,by decide +kernel,rfl,by decide +kernel,by decide +kernel⟩
theorem sc__law_draw:FnScope ["_law_script","_law_town","_law_many"] ["_law_script","_law_town","_law_many"] (defScope s__law_draw):=⟨rfl,rfl,rfl,by decide +kernel,rfl,by decide +kernel,by decide +kernel⟩
theorem sc__law_pick:FnScope ["_law_script","_law_town","_law_some"] ["_law_script","_law_town","_law_some"] (defScope s__law_pick):=⟨rfl,rfl,rfl,by decide +kernel,rfl,by decide +kernel,by decide +kernel⟩
theorem sc__law_free:FnScope ["_law_script","_law_town","_law_low","_law_most","_law_step","_law_wide","_law_many","_law_line_up","_law_pairs","_law_one"] ["_law_script","_law_town","_law_low","_law_most"] (defScope s__law_free):=⟨rfl,rfl,rfl,by decide +kernel,rfl,by decide +kernel,by decide +kernel⟩
theorem sc__law_sets:FnScope ["_law_many","_law_rows","_law_thing"] ["_law_many"] (defScope s__law_sets):=⟨rfl,rfl,rfl,by decide +kernel,rfl,by decide +kernel,by decide +kernel⟩
theorem sc__law_is_group:FnScope ["_law_order","_law_things"] ["_law_order","_law_things"] (defScope s__law_is_group):=⟨rfl,rfl,rfl,by decide +kernel,rfl,by decide +kernel,by decide +kernel⟩
theorem sc__law_lines:FnScope ["_law_order","_law_rows","_law_made","_law_longer","_law_line"] ["_law_order"] (defScope s__law_lines):=⟨rfl,rfl,rfl,by decide +kernel,rfl,by decide +kernel,by decide +kernel⟩
theorem sc_law:FnScope ["_law_script","_law_town","_law_order","_law_groups","_law_wide","_law_lines_here","_law_long","_law_due"] ["_law_script"] (defScope s_law):=⟨rfl,rfl,rfl,by decide +kernel,rfl,by decide +kernel,by decide +kernel⟩
set_option genSizeOf false in
set_option genInjectivity false in
structure Ad where
 a_is_whole:Addr
 d_is_whole:FuncData
 a_is_thing:Addr
 d_is_thing:FuncData
 a_is_pair:Addr
 d_is_pair:FuncData
 a_is_rising:Addr
 d_is_rising:FuncData
 a_is_order:Addr
 d_is_order:FuncData
 a_need_order:Addr
 d_need_order:FuncData
 a_bars_as_two:Addr
 d_bars_as_two:FuncData
 a_bars_as_three:Addr
 d_bars_as_three:FuncData
 a_first_two:Addr
 d_first_two:FuncData
 a_first_three:Addr
 d_first_three:FuncData
 a_bar:Addr
 d_bar:FuncData
 a_need_unbarred:Addr
 d_need_unbarred:FuncData
 a_are_beside:Addr
 d_are_beside:FuncData
 a_may_stand_behind:Addr
 d_may_stand_behind:FuncData
 a_longer_parts:Addr
 d_longer_parts:FuncData
 a_all_parts:Addr
 d_all_parts:FuncData
 a_pairs_beside:Addr
 d_pairs_beside:FuncData
 a_all_groups:Addr
 d_all_groups:FuncData
 a_all_lines:Addr
 d_all_lines:FuncData
 a_widest:Addr
 d_widest:FuncData
 a_longest_line:Addr
 d_longest_line:FuncData
 a_height:Addr
 d_height:FuncData
 a_things_at:Addr
 d_things_at:FuncData
 a_row:Addr
 d_row:FuncData
 a_longest:Addr
 d_longest:FuncData
 a__law_cell_at:Addr
 d__law_cell_at:FuncData
 a__law_mixed:Addr
 d__law_mixed:FuncData
 a__law_draw:Addr
 d__law_draw:FuncData
 a__law_pick:Addr
 d__law_pick:FuncData
 a__law_free:Addr
 d__law_free:FuncData
 a__law_sets:Addr
 d__law_sets:FuncData
 a__law_is_group:Addr
 d__law_is_group:FuncData
 a__law_lines:Addr
 d__law_lines:FuncData
 a_law:Addr
 d_law:FuncData
structure Txt (K:PySem.W.Frag) (mg:Str→Option Value) (t:Ad):Prop where
 m_is_whole:mg "is_whole"=some (.ref t.a_is_whole)
 F_is_whole:Fun K "is_whole" "is_whole" s_is_whole t.a_is_whole t.d_is_whole
 b_is_whole:Binds K t.d_is_whole ["value","low","high"] []
 m_is_thing:mg "is_thing"=some (.ref t.a_is_thing)
 F_is_thing:Fun K "is_thing" "is_thing" s_is_thing t.a_is_thing t.d_is_thing
 b_is_thing:Binds K t.d_is_thing ["value","many"] []
 m_is_pair:mg "is_pair"=some (.ref t.a_is_pair)
 F_is_pair:Fun K "is_pair" "is_pair" s_is_pair t.a_is_pair t.d_is_pair
 b_is_pair:Binds K t.d_is_pair ["value","many"] []
 m_is_rising:mg "is_rising"=some (.ref t.a_is_rising)
 F_is_rising:Fun K "is_rising" "is_rising" s_is_rising t.a_is_rising t.d_is_rising
 b_is_rising:Binds K t.d_is_rising ["pairs"] []
 m_is_order:mg "is_order"=some (.ref t.a_is_order)
 F_is_order:Fun K "is_order" "is_order" s_is_order t.a_is_order t.d_is_order
 b_is_order:Binds K t.d_is_order ["value"] []
 m_need_order:mg "need_order"=some (.ref t.a_need_order)
 F_need_order:Fun K "need_order" "need_order" s_need_order t.a_need_order t.d_need_order
 b_need_order:Binds K t.d_need_order ["value"] []
 m_bars_as_two:mg "bars_as_two"=some (.ref t.a_bars_as_two)
 F_bars_as_two:Fun K "bars_as_two" "bars_as_two" s_bars_as_two t.a_bars_as_two t.d_bars_as_two
 b_bars_as_two:Binds K t.d_bars_as_two ["pairs","a","b","c","d"] []
 m_bars_as_three:mg "bars_as_three"=some (.ref t.a_bars_as_three)
 F_bars_as_three:Fun K "bars_as_three" "bars_as_three" s_bars_as_three t.a_bars_as_three t.d_bars_as_three
 b_bars_as_three:Binds K t.d_bars_as_three ["pairs","a","b","c","d"] []
 m_first_two:mg "first_two"=some (.ref t.a_first_two)
 F_first_two:Fun K "first_two" "first_two" s_first_two t.a_first_two t.d_first_two
 b_first_two:Binds K t.d_first_two ["pairs"] []
 m_first_three:mg "first_three"=some (.ref t.a_first_three)
 F_first_three:Fun K "first_three" "first_three" s_first_three t.a_first_three t.d_first_three
 b_first_three:Binds K t.d_first_three ["many","pairs"] []
 m_bar:mg "bar"=some (.ref t.a_bar)
 F_bar:Fun K "bar" "bar" s_bar t.a_bar t.d_bar
 b_bar:Binds K t.d_bar ["order"] []
 m_need_unbarred:mg "need_unbarred"=some (.ref t.a_need_unbarred)
 F_need_unbarred:Fun K "need_unbarred" "need_unbarred" s_need_unbarred t.a_need_unbarred t.d_need_unbarred
 b_need_unbarred:Binds K t.d_need_unbarred ["order"] []
 m_are_beside:mg "are_beside"=some (.ref t.a_are_beside)
 F_are_beside:Fun K "are_beside" "are_beside" s_are_beside t.a_are_beside t.d_are_beside
 b_are_beside:Binds K t.d_are_beside ["pairs","one","other"] []
 m_may_stand_behind:mg "may_stand_behind"=some (.ref t.a_may_stand_behind)
 F_may_stand_behind:Fun K "may_stand_behind" "may_stand_behind" s_may_stand_behind t.a_may_stand_behind t.d_may_stand_behind
 b_may_stand_behind:Binds K t.d_may_stand_behind ["allowed","part","thing"] []
 m_longer_parts:mg "longer_parts"=some (.ref t.a_longer_parts)
 F_longer_parts:Fun K "longer_parts" "longer_parts" s_longer_parts t.a_longer_parts t.d_longer_parts
 b_longer_parts:Binds K t.d_longer_parts ["many","allowed","parts"] []
 m_all_parts:mg "all_parts"=some (.ref t.a_all_parts)
 F_all_parts:Fun K "all_parts" "all_parts" s_all_parts t.a_all_parts t.d_all_parts
 b_all_parts:Binds K t.d_all_parts ["many","allowed"] []
 m_pairs_beside:mg "pairs_beside"=some (.ref t.a_pairs_beside)
 F_pairs_beside:Fun K "pairs_beside" "pairs_beside" s_pairs_beside t.a_pairs_beside t.d_pairs_beside
 b_pairs_beside:Binds K t.d_pairs_beside ["order"] []
 m_all_groups:mg "all_groups"=some (.ref t.a_all_groups)
 F_all_groups:Fun K "all_groups" "all_groups" s_all_groups t.a_all_groups t.d_all_groups
 b_all_groups:Binds K t.d_all_groups ["order"] []
 m_all_lines:mg "all_lines"=some (.ref t.a_all_lines)
 F_all_lines:Fun K "all_lines" "all_lines" s_all_lines t.a_all_lines t.d_all_lines
 b_all_lines:Binds K t.d_all_lines ["order"] []
 m_widest:mg "widest"=some (.ref t.a_widest)
 F_widest:Fun K "widest" "widest" s_widest t.a_widest t.d_widest
 b_widest:Binds K t.d_widest ["order"] []
 m_longest_line:mg "longest_line"=some (.ref t.a_longest_line)
 F_longest_line:Fun K "longest_line" "longest_line" s_longest_line t.a_longest_line t.d_longest_line
 b_longest_line:Binds K t.d_longest_line ["order"] []
 m_height:mg "height"=some (.ref t.a_height)
 F_height:Fun K "height" "height" s_height t.a_height t.d_height
 b_height:Binds K t.d_height ["pairs","thing"] []
 m_things_at:mg "things_at"=some (.ref t.a_things_at)
 F_things_at:Fun K "things_at" "things_at" s_things_at t.a_things_at t.d_things_at
 b_things_at:Binds K t.d_things_at ["heights","level"] []
 m_row:mg "row"=some (.ref t.a_row)
 F_row:Fun K "row" "row" s_row t.a_row t.d_row
 b_row:Binds K t.d_row ["order"] []
 m_longest:mg "longest"=some (.ref t.a_longest)
 F_longest:Fun K "longest" "longest" s_longest t.a_longest t.d_longest
 b_longest:Binds K t.d_longest ["order"] []
 m__law_cell_at:mg "_law_cell_at"=some (.ref t.a__law_cell_at)
 F__law_cell_at:Fun K "_law_cell_at" "_law_cell_at" s__law_cell_at t.a__law_cell_at t.d__law_cell_at
 b__law_cell_at:Binds K t.d__law_cell_at ["_law_script","_law_k"] []
 m__law_mixed:mg "_law_mixed"=some (.ref t.a__law_mixed)
 F__law_mixed:Fun K "_law_mixed" "_law_mixed" s__law_mixed t.a__law_mixed t.d__law_mixed
 b__law_mixed:Binds K t.d__law_mixed ["_law_script","_law_k","_law_many"] []
 m__law_draw:mg "_law_draw"=some (.ref t.a__law_draw)
 F__law_draw:Fun K "_law_draw" "_law_draw" s__law_draw t.a__law_draw t.d__law_draw
 b__law_draw:Binds K t.d__law_draw ["_law_script","_law_town","_law_many"] []
 m__law_pick:mg "_law_pick"=some (.ref t.a__law_pick)
 F__law_pick:Fun K "_law_pick" "_law_pick" s__law_pick t.a__law_pick t.d__law_pick
 b__law_pick:Binds K t.d__law_pick ["_law_script","_law_town","_law_some"] []
 m__law_free:mg "_law_free"=some (.ref t.a__law_free)
 F__law_free:Fun K "_law_free" "_law_free" s__law_free t.a__law_free t.d__law_free
 b__law_free:Binds K t.d__law_free ["_law_script","_law_town","_law_low","_law_most"] []
 m__law_sets:mg "_law_sets"=some (.ref t.a__law_sets)
 F__law_sets:Fun K "_law_sets" "_law_sets" s__law_sets t.a__law_sets t.d__law_sets
 b__law_sets:Binds K t.d__law_sets ["_law_many"] []
 m__law_is_group:mg "_law_is_group"=some (.ref t.a__law_is_group)
 F__law_is_group:Fun K "_law_is_group" "_law_is_group" s__law_is_group t.a__law_is_group t.d__law_is_group
 b__law_is_group:Binds K t.d__law_is_group ["_law_order","_law_things"] []
 m__law_lines:mg "_law_lines"=some (.ref t.a__law_lines)
 F__law_lines:Fun K "_law_lines" "_law_lines" s__law_lines t.a__law_lines t.d__law_lines
 b__law_lines:Binds K t.d__law_lines ["_law_order"] []
 m_law:mg "law"=some (.ref t.a_law)
 F_law:Fun K "law" "law" s_law t.a_law t.d_law
 b_law:Binds K t.d_law ["_law_script"] []
 n_all:mg "all"=none
 n_bool:mg "bool"=none
 n_int:mg "int"=none
 n_isinstance:mg "isinstance"=none
 n_len:mg "len"=none
 n_max:mg "max"=none
 n_min:mg "min"=none
 n_range:mg "range"=none
 n_set:mg "set"=none
 n_sorted:mg "sorted"=none
 n_tuple:mg "tuple"=none
 c_MOST_THINGS:∃ tk,mg "MOST_THINGS"=some (.int 8 tk)
end My
local macro_rules | `(tactic| walk_at "rd")=>`(tactic| (repeat (first | with_reducible refine L2.rd_seq ?_ | with_reducible refine L2.rd_next ?_ | with_reducible refine L2.rd_ifS ?_ | with_reducible refine L2.rd_ret ?_ | with_reducible refine L2.rd_drop ?_ | with_reducible refine L2.rd_asg ?_ | with_reducible refine L2.rd_gname ?_ | ((with_reducible refine' L2.rd_var ?qe1 ?_);(case qe1=>exact rfl)) | with_reducible refine L2.rd_C ?_ | with_reducible refine L2.rd_for ?_ | with_reducible refine L2.rd_lc ?_ | with_reducible refine L2.rd_rng1 ?_ | with_reducible refine L2.rd_itup ?_ | with_reducible refine L2.rd_ilst ?_ | with_reducible refine L2.rd_yes ?_ | with_reducible refine L2.rd_ifE ?_ | with_reducible refine L2.rd_raise ?_ | with_reducible refine L2.rd_while ?_ | with_reducible refine L2.rd_gsub ?_ | with_reducible refine L2.rd_bm ?_ | with_reducible refine L2.rd_gcons ?_ | with_reducible refine L2.rd_gnil ?_ | with_reducible refine L2.rd_test ?_ | with_reducible refine L2.rd_B ?_ | with_reducible refine L2.rd_bl ?_ | with_reducible refine L2.rd_op ?_ | with_reducible refine L2.rd_un ?_ | with_reducible refine L2.rd_I0 ?_ | with_reducible refine L2.rd_and ?_ | with_reducible refine L2.rd_or ?_ | with_reducible refine L2.rd_not ?_ | with_reducible refine L2.rd_andV ?_ | with_reducible refine L2.rd_orV ?_ | with_reducible refine L2.rd_notV ?_ | with_reducible refine L2.rd_blE ?_ | with_reducible refine L2.rd_nil ?_ | with_reducible refine L2.rd_cons ?_ | with_reducible refine L2.rd_tup ?_ | with_reducible refine L2.rd_lst ?_ | with_reducible refine L2.rd_call ?_ | with_reducible refine L2.rd_cb ?_ | with_reducible refine L2.rd_chain ?_ | with_reducible refine L2.rd_eqI ?_ | with_reducible refine L2.rd_neI ?_ | with_reducible refine L2.rd_eqB ?_ | with_reducible refine L2.rd_neB ?_ | with_reducible refine L2.rd_isN ?_ | with_reducible refine L2.rd_notN ?_ | with_reducible refine L2.rd_max2 ?_ | with_reducible refine L2.rd_int1 ?_ | with_reducible refine L2.iteT ?_ | with_reducible refine L2.iteF ?_ | with_reducible refine L2.if_nn ?_ | with_reducible refine L2.if_rn ?_ | with_reducible refine L2.if_in ?_ | with_reducible refine L2.if_nnN ?_ | with_reducible refine L2.if_rnN ?_ | with_reducible refine L2.if_inN ?_ | with_reducible refine L2.ifNT ?_ | with_reducible refine L2.ifNF ?_ | ((with_reducible refine' L2.rd_isBool ?qe1 ?_);(case qe1=>assumption)) | ((with_reducible refine' L2.rd_isInt ?qe1 ?_);(case qe1=>assumption)) | ((with_reducible refine' L2.rd_isTup ?qe1 ?_);(case qe1=>assumption)) | ((with_reducible refine' L2.rd_isLst ?qe1 ?_);(case qe1=>assumption)) | ((with_reducible refine' L2.rd_isStr ?qe1 ?_);(case qe1=>assumption)) | ((with_reducible refine' L2.rd_all ?qe1 ?_);(case qe1=>assumption)) | ((with_reducible refine' L2.rd_any ?qe1 ?_);(case qe1=>assumption)) | ((with_reducible refine' L2.rd_lenT ?qe1 ?_);(case qe1=>assumption)) | ((with_reducible refine' L2.rd_lenL ?qe1 ?_);(case qe1=>assumption)) | ((with_reducible refine' L2.rd_tupL ?qe1 ?_);(case qe1=>assumption)) | ((with_reducible refine' L2.rd_ixT ?qe1 ?qf1 ?_);(case qe1=>assumption);(case qf1=>exact rfl)) | ((with_reducible refine' L2.rd_ixL ?qe1 ?qf1 ?_);(case qe1=>assumption);(case qf1=>exact rfl)) | ((with_reducible refine L2.ifT ?_ ?_);with_reducible rfl) | ((with_reducible refine L2.ifF ?_ ?_);with_reducible rfl) | (dsimp only))))
namespace My
open PySem L2
section
variable {P:Program} {w:World} {K:PySem.W.Frag} {mg:Str→Option Value} {base:Heap} {t:Ad}
noncomputable def wholeB (d:PyData) (lo hi:Int):Bool:=match d with | .int i=>decide (lo≤i)&&decide (i≤hi) | _=>false
set_option genSizeOf false in
set_option genInjectivity false in
inductive sp_is_whole (vs:List V) (H:Hp) (Q:VK) (zz3:XK):Prop where
 | mk (x lo hi d:_) (zh0:vs=[x,.int lo,.int hi]) (zh1:Is H x d) (zh2:Q (.bl (wholeB d lo hi)) H):sp_is_whole vs H Q zz3
theorem ok_is_whole (T:Txt K mg t):FnOk P w K mg base CX0 1 t.a_is_whole t.d_is_whole ["value","low","high"] sp_is_whole:=by
 refine T.F_is_whole.ok sc_is_whole (fun vs H Q E h=>?_) (fun cdv A outer s H vs Q E hr h=>?_)
 ·obtain ⟨x,lo,hi,d,rfl,_⟩:=h
  rfl
 ·obtain ⟨x,lo,hi,d,rfl,hx,q⟩:=h
  refine ⟨_,(pss_cons (ps_if (PW.pt (pw_or (pt_val (pe_callB c_isinst (by rfl) T.n_isinstance bt_isinstance (pa_cons (pv 0) (pa_cons (pe_bltn (v:=.ty "bool") rfl T.n_bool bt_bool rfl) pa_nil)))) (pw_or1 (pt_not (pt_val (pe_callB c_isinst (by rfl) T.n_isinstance bt_isinstance (pa_cons (pv 0) (pa_cons (pe_bltn (v:=.ty "int") rfl T.n_int bt_int rfl) pa_nil)))))))) (pss_one (ps_ret pe_bl)) pss_nil)
   (pss_one (ps_ret (pe_chain op_le op_le (pv 1) (pv 0) (pv 2))))),?_⟩
  walk_at "rd"
  have hx2:=hx
  cases hx with
  | int i=>
   walk_at "rd"
   refine ifB (fun h=>?_) (fun h=>?_) <;> walk_at "rd" <;> simpa [wholeB,h] using q
  | _=>walk_at "rd" <;> exact q
set_option genSizeOf false in
set_option genInjectivity false in
inductive sp_is_thing (vs:List V) (H:Hp) (Q:VK) (zz3:XK):Prop where
 | mk (x m d:_) (zh0:vs=[x,.int m]) (zh1:Is H x d) (zh2:Q (.bl (wholeB d 0 (m - 1))) H):sp_is_thing vs H Q zz3
theorem ok_is_thing (T:Txt K mg t):FnOk P w K mg base CX0 2 t.a_is_thing t.d_is_thing ["value","many"] sp_is_thing:=by
 refine T.F_is_thing.ok sc_is_thing (fun vs H Q E h=>?_) (fun cdv A outer s H vs Q E hr h=>?_)
 ·obtain ⟨x,m,d,rfl,_⟩:=h
  rfl
 ·obtain ⟨x,m,d,rfl,hx,q⟩:=h
  refine ⟨_,(pss_one (ps_ret (pe_call (ok_is_whole T) (hr.mono (by decide)) rfl T.m_is_whole T.F_is_whole.kp T.b_is_whole .nil pass0 (pa_cons (pv 0) (pa_cons pe_int (pa_cons (pe_op op_sub (pv 1) pe_int) pa_nil)))))),?_⟩
  walk_at "rd"
  exact ⟨_,_,_,_,rfl,hx,q⟩
noncomputable def prD (p:Int×Int):PyData:=.tuple [.int p.1,.int p.2]
noncomputable def pairB (d:PyData) (m:Int):Bool:=match d with | .tuple [a,b]=>wholeB a 0 (m - 1)&&wholeB b 0 (m - 1)&& !PyData.eqv a b | _=>false
set_option genSizeOf false in
set_option genInjectivity false in
inductive sp_is_pair (vs:List V) (H:Hp) (Q:VK) (zz3:XK):Prop where
 | mk (x m d:_) (zh0:vs=[x,.int m]) (zh1:Is H x d) (zh2:Q (.bl (pairB d m)) H):sp_is_pair vs H Q zz3
theorem pair_other {d:PyData} {m:Int} (h:∀ a b,d≠.tuple [a,b]):pairB d m=false:=by
 unfold pairB
 split
 ·rename_i a b
  exact absurd rfl (h a b)
 ·rfl
theorem isTup_no {d:PyData} (h:∀ ds,d≠.tuple ds):isTupD d=false:=by
 cases d <;> first | rfl | exact absurd rfl (h _)
theorem wholeB_int {d:PyData} {lo hi:Int} (h:wholeB d lo hi=true):∃ i:Int,d=.int i∧lo≤i∧i≤hi:=by
 unfold wholeB at h
 split at h
 ·rename_i i
  simp at h
  exact ⟨i,rfl,h.1,h.2⟩
 ·cases h
theorem ok_is_pair (T:Txt K mg t):FnOk P w K mg base CX0 3 t.a_is_pair t.d_is_pair ["value","many"] sp_is_pair:=by
 refine T.F_is_pair.ok sc_is_pair (fun vs H Q E h=>?_) (fun cdv A outer s H vs Q E hr h=>?_)
 ·obtain ⟨x,m,d,rfl,_⟩:=h
  rfl
 ·obtain ⟨x,m,d,rfl,hx,q⟩:=h
  refine ⟨_,(pss_cons (ps_if (PW.pt (pw_or (pt_not (pt_val (pe_callB c_isinst (by rfl) T.n_isinstance bt_isinstance (pa_cons (pv 0) (pa_cons (pe_bltn (v:=.ty "tuple") rfl T.n_tuple bt_tuple rfl) pa_nil))))) (pw_or1 (pt_cmpR (op_neD hr.units) (pe_callB (k_len K) (by rfl) T.n_len bt_len (pa_cons (pv 0) pa_nil)) pe_int (nomark _))))) (pss_one (ps_ret pe_bl)) pss_nil)
   (pss_cons (ps_if (PW.pt (pw_or (pt_not (pt_val (pe_call (ok_is_thing T) (hr.mono (by decide)) rfl T.m_is_thing T.F_is_thing.kp T.b_is_thing .nil pass0 (pa_cons (pe_ix (k_ix K) (pv 0) pe_int (fun _ _=>rfl)) (pa_cons (pv 1) pa_nil))))) (pw_or1 (pt_not (pt_val (pe_call (ok_is_thing T) (hr.mono (by decide)) rfl T.m_is_thing T.F_is_thing.kp T.b_is_thing .nil pass0 (pa_cons (pe_ix (k_ix K) (pv 0) pe_int (fun _ _=>rfl)) (pa_cons (pv 1) pa_nil)))))))) (pss_one (ps_ret pe_bl)) pss_nil)
   (pss_one (ps_ret (pe_cmpR (op_neD hr.units) (pe_ix (k_ix K) (pv 0) pe_int (fun _ _=>rfl)) (pe_ix (k_ix K) (pv 0) pe_int (fun _ _=>rfl)) (nomark _)))))),?_⟩
  walk_at "rd"
  by_cases hd:∃ ds,d=.tuple ds
  ·obtain ⟨ds,rfl⟩:=hd
   cases hx with
   | @tup a xs _ e hxs=>
   walk_at "rd"
   have hl:=hxs.length
   refine ifB (fun h=>?_) (fun h=>?_)
   ·walk_at "rd"
    rw [pair_other] at q
    ·exact q
    ·rintro a b ⟨⟩
     simp at hl
     simp [hl] at h
   ·walk_at "rd"
    match xs,ds,hxs,hl with
    | [x1,x2],[d1,d2],.cons i1 (.cons i2 .nil),_=>
     walk_at "rd"
     refine ⟨_,_,_,rfl,i1,?_⟩
     walk_at "rd"
     have qe:pairB (.tuple [d1,d2]) m=(wholeB d1 0 (m - 1)&&wholeB d2 0 (m - 1)&& !PyData.eqv d1 d2):=rfl
     rw [qe] at q
     refine ifB (fun h1=>?_) (fun h1=>?_)
     ·walk_at "rd"
      have h1':wholeB d1 0 (m - 1)=false:=by simpa using h1
      simpa [h1'] using q
     ·walk_at "rd"
      refine ⟨_,_,_,rfl,i2,?_⟩
      walk_at "rd"
      have h1':wholeB d1 0 (m - 1)=true:=by simpa using h1
      refine ifB (fun h2=>?_) (fun h2=>?_)
      ·walk_at "rd"
       have h2':wholeB d2 0 (m - 1)=false:=by simpa using h2
       simpa [h2'] using q
      ·walk_at "rd"
       have h2':wholeB d2 0 (m - 1)=true:=by simpa using h2
       obtain ⟨i,rfl,_⟩:=wholeB_int h1'
       obtain ⟨j,rfl,_⟩:=wholeB_int h2'
       refine rd_eqD i1 i2 ⟨rfl,Nat.zero_le _⟩ ⟨rfl,Nat.zero_le _⟩ ?_
       simpa [h1',h2'] using q
    | [],_,_,_=>simp at h
    | [_],_,_,_=>simp at h
    | _::_::_::_,_,_,_=>simp at h;omega
  ·have hd':∀ ds,d≠.tuple ds:=fun ds e=>hd ⟨ds,e⟩
   rw [isTup_no hd']
   walk_at "rd"
   rw [pair_other fun a b=>hd' _] at q
   exact q
noncomputable def risingB:List (Int×Int)→Bool
 | a::b::r=>HT.lexLt [a.1,a.2] [b.1,b.2]&&risingB (b::r)
 | _=>true
theorem rising_range:∀ ps:List (Int×Int),risingB ps=((List.range (ps.length - 1)).map fun i=>HT.lexLt [(ps.getD i (0,0)).1,(ps.getD i (0,0)).2] [(ps.getD (i + 1) (0,0)).1,(ps.getD (i + 1) (0,0)).2]).all id
 | []=>rfl
 | [a]=>rfl
 | a::b::r=>by
  rw [risingB,rising_range (b::r)]
  have e:(a::b::r).length - 1=((b::r).length - 1) + 1:=by simp
  rw [e,List.range_succ_eq_map,List.map_cons,List.all_cons,List.map_map]
  rfl
theorem _root_.L2.atI_of {α:Type} {xs:List α} {i:Nat} {k:Int} {v:α} (hk:k=(i:Int)) (h:xs[i]? =some v):atI xs k=some v:=by
 subst hk
 exact atI_nat h
theorem two_ints {H:Hp} {xs:List V} {a b:Int} (h:IsAll H xs [.int a,.int b]):xs=[.int a,.int b]:=by
 cases h with
 | cons h1 t=>
  cases t with
  | cons h2 t2=>
   cases h1
   cases h2
   cases t2
   rfl
theorem two_io {H:Hp} {xs:List V} {a:Int} {ds:List PyData} (h:IsAll H xs [.int a,.tuple ds]):∃ b ys,xs=[.int a,.ref b]∧H b=some (.tup ys)∧IsAll H ys ds:=by
 cases h with
 | cons h1 t=>
  cases t with
  | cons h2 t2=>
   cases h1
   cases t2
   cases h2 with
   | tup eb hb=>exact ⟨_,_,rfl,eb,hb⟩
theorem pr_at {H:Hp} {xs:List V} {ps:List (Int×Int)} {i:Nat} (h:IsAll H xs (ps.map prD)) (hi:i < ps.length):
  ∃ r,xs[i]? =some (.ref r)∧H r=some (.tup [.int (ps.getD i (0,0)).1,.int (ps.getD i (0,0)).2]):=by
 obtain ⟨v,e,iv⟩:=h.get (i:=i) (d:=prD (ps.getD i (0,0))) (by rw [List.getElem?_map];simp [hi])
 unfold prD at iv
 cases iv with
 | @tup a xs _ ea hxs=>
  obtain rfl:=two_ints hxs
  exact ⟨a,e,ea⟩
theorem small_ln {n:Nat} (h:n≤1000):n≤sizeLine:=Nat.le_of_lt (small1000 h)
set_option genSizeOf false in
set_option genInjectivity false in
inductive sp_is_rising (vs:List V) (H:Hp) (Q:VK) (zz3:XK):Prop where
 | mk (x ps:_) (zh0:vs=[x]) (zh1:Is H x (.tuple (ps.map prD))) (zh2:ps.length≤1000) (zh3:∀ H',Same H H'→Q (.bl (risingB ps)) H'):sp_is_rising vs H Q zz3
theorem ok_is_rising (T:Txt K mg t):FnOk P w K mg base CX0 1 t.a_is_rising t.d_is_rising ["pairs"] sp_is_rising:=by
 refine T.F_is_rising.ok sc_is_rising (fun vs H Q E h=>?_) (fun cdv A outer s H vs Q E hr h=>?_)
 ·obtain ⟨x,ps,rfl,_⟩:=h
  rfl
 ·obtain ⟨x,ps,rfl,hx,hsz,q⟩:=h
  refine ⟨_,(pss_one (ps_ret (pe_callB (k_all K) (by rfl) T.n_all bt_all (pa_cons (pe_lc rfl ⟨True.intro,True.intro,(.inl rfl),True.intro⟩ (M:=["place","pairs"]) (.own (.free 0 rfl rfl .nil)) (gk_name rfl) rfl (by decide +kernel) (pi_range1 rfl T.n_range (pa_cons (pe_op op_sub (pe_callB (k_len K) (by rfl) T.n_len bt_len (pa_cons (pv 0) pa_nil)) pe_int) pa_nil)) (fun C fp s1 H1=>⟨pg_name (i:=0) (show (["place","pairs"]:List Str).Nodup by decide +kernel) rfl (Or.inl rfl),pif_nil,(pe_cmpR (k_ltT K hr.units0) (pe_ix (k_ix K) (pv 1) (pv 0) (fun _ _=>rfl)) (pe_ix (k_ix K) (pv 1) (pe_op op_add (pv 0) pe_int) (fun _ _=>rfl)) (nomark _))⟩)) pa_nil)))),?_⟩
  cases hx with
  | @tup a xs _ e hxs=>
  have hl:xs.length=ps.length:=by rw [hxs.length,List.length_map]
  walk_at "rd"
  refine ⟨_,rfl,by omega,by omega,?_⟩
  have en:((xs.length:Int) - 1).toNat=ps.length - 1:=by omega
  rw [en]
  refine lp_range (small_ln (by omega)) (fun i ys H'=>H'=H∧ys=((List.range i).map fun i=>HT.lexLt [(ps.getD i (0,0)).1,(ps.getD i (0,0)).2] [(ps.getD (i + 1) (0,0)).1,(ps.getD (i + 1) (0,0)).2]).map V.bl) ⟨rfl,rfl⟩ (by rintro i ys H' ⟨_,rfl⟩;simp) ?_ ?_
  ·rintro i ys H' hi ⟨rfl,rfl⟩
   obtain ⟨r1,e1,h1⟩:=pr_at hxs (i:=i) (by omega)
   obtain ⟨r2,e2,h2⟩:=pr_at hxs (i:=i + 1) (by omega)
   walk_at "rd"
   refine rd_ixT e (atI_of (i:=i) (by omega) e1) ?_
   walk_at "rd"
   refine rd_ixT e (atI_of (i:=i + 1) (by omega) e2) ?_
   refine rd_ltT h1 h2 ⟨rfl,?_⟩
   rw [List.range_succ,List.map_append,List.map_append]
   rfl
  ·rintro ys H' ⟨rfl,rfl⟩ p hp
   walk_at "rd"
   refine rd_all upd_same ?_
   rw [←rising_range]
   exact q _ (Same.upd hp)
noncomputable def decP (d:PyData):Int×Int:=match d with | .tuple [.int a,.int b]=>(a,b) | _=>(0,0)
noncomputable def orderB (d:PyData):Bool:=match d with | .tuple [.int n,.tuple ds]=>decide (1≤n)&&decide (n≤8)&&ds.all (fun d=>pairB d n)&&risingB (ds.map decP) | _=>false
theorem pairB_dec {d:PyData} {m:Int} (h:pairB d m=true):d=prD (decP d):=by
 unfold pairB at h
 split at h
 ·rename_i a b
  rw [Bool.and_eq_true,Bool.and_eq_true] at h
  obtain ⟨i,rfl,_⟩:=wholeB_int h.1.1
  obtain ⟨j,rfl,_⟩:=wholeB_int h.1.2
  rfl
 ·cases h
theorem pairs_dec {m:Int}:∀ {ds:List PyData},ds.all (fun d=>pairB d m)=true→ds=(ds.map decP).map prD
 | [],_=>rfl
 | d::ds,h=>by
  rw [List.all_cons,Bool.and_eq_true] at h
  rw [List.map_cons,List.map_cons,←pairs_dec h.2,←pairB_dec h.1]
theorem order_other {d:PyData} (h:∀ n ds,d≠.tuple [.int n,.tuple ds]):orderB d=false:=by
 unfold orderB
 split
 ·rename_i n ds
  exact absurd rfl (h n ds)
 ·rfl
noncomputable def okOrd (d:PyData):Prop:=∀ m ds,d=.tuple [m,.tuple ds]→ds.length≤1000
set_option genSizeOf false in
set_option genInjectivity false in
inductive sp_is_order (vs:List V) (H:Hp) (Q:VK) (zz3:XK):Prop where
 | mk (x d:_) (zh0:vs=[x]) (zh1:Is H x d) (zh2:okOrd d) (zh3:∀ H',Same H H'→Q (.bl (orderB d)) H'):sp_is_order vs H Q zz3
theorem ok_is_order (T:Txt K mg t):FnOk P w K mg base CX0 4 t.a_is_order t.d_is_order ["value"] sp_is_order:=by
 refine T.F_is_order.ok sc_is_order (fun vs H Q E h=>?_) (fun cdv A outer s H vs Q E hr h=>?_)
 ·obtain ⟨x,d,rfl,_⟩:=h
  rfl
 ·obtain ⟨x,d,rfl,hx,hok,q⟩:=h
  refine ⟨_,(pss_cons (ps_if (PW.pt (pw_or (pt_not (pt_val (pe_callB c_isinst (by rfl) T.n_isinstance bt_isinstance (pa_cons (pv 0) (pa_cons (pe_bltn (v:=.ty "tuple") rfl T.n_tuple bt_tuple rfl) pa_nil))))) (pw_or1 (pt_cmpR (op_neD hr.units) (pe_callB (k_len K) (by rfl) T.n_len bt_len (pa_cons (pv 0) pa_nil)) pe_int (nomark _))))) (pss_one (ps_ret pe_bl)) pss_nil)
   (pss_cons (ps_set (i:=1) sc_is_order.nd rfl (Or.inr rfl) (pe_ix (k_ix K) (pv 0) pe_int (fun _ _=>rfl)))
   (pss_cons (ps_set (i:=2) sc_is_order.nd rfl (Or.inl rfl) (pe_ix (k_ix K) (pv 0) pe_int (fun _ _=>rfl)))
   (pss_cons (ps_if (PW.pt (pw_or (pt_not (pt_val (pe_call (ok_is_whole T) (hr.mono (by decide)) rfl T.m_is_whole T.F_is_whole.kp T.b_is_whole .nil pass0 (pa_cons (pv 1) (pa_cons pe_int (pa_cons (pe_gint rfl T.c_MOST_THINGS) pa_nil)))))) (pw_or1 (pt_not (pt_val (pe_callB c_isinst (by rfl) T.n_isinstance bt_isinstance (pa_cons (pv 2) (pa_cons (pe_bltn (v:=.ty "tuple") rfl T.n_tuple bt_tuple rfl) pa_nil)))))))) (pss_one (ps_ret pe_bl)) pss_nil)
   (pss_one (ps_ret (pe_and (pe_callB (k_all K) (by rfl) T.n_all bt_all (pa_cons (pe_lc rfl ⟨True.intro,True.intro,True.intro,(.inl rfl),True.intro⟩ (M:=["pair","many"]) (.own (.free 1 rfl rfl .nil)) (gk_name rfl) rfl (by decide +kernel) (k_ptup K (pv 2)) (fun C fp s1 H1=>⟨pg_name (i:=0) (show (["pair","many"]:List Str).Nodup by decide +kernel) rfl (Or.inl rfl),pif_nil,(pe_call (ok_is_pair T) (hr.mono (by decide)) rfl T.m_is_pair T.F_is_pair.kp T.b_is_pair .nil pass0 (pa_cons (pv 0) (pa_cons (pv 1) pa_nil)))⟩)) pa_nil)) (pe_one (pe_call (ok_is_rising T) (hr.mono (by decide)) rfl T.m_is_rising T.F_is_rising.kp T.b_is_rising .nil pass0 (pa_cons (pv 2) pa_nil)))))))))),?_⟩
  walk_at "rd"
  by_cases hd:∃ ds,d=.tuple ds
  ·obtain ⟨ds,rfl⟩:=hd
   cases hx with
   | @tup a xs _ e hxs=>
   walk_at "rd"
   have hl:=hxs.length
   refine ifB (fun h=>?_) (fun h=>?_)
   ·walk_at "rd"
    have q':=q H (Same.refl H)
    rw [order_other] at q'
    ·exact q'
    ·rintro n ds ⟨⟩
     simp at hl
     simp [hl] at h
   ·walk_at "rd"
    match xs,ds,hxs,hl with
    | [x1,x2],[d1,d2],.cons i1 (.cons i2 .nil),_=>
     walk_at "rd"
     refine ⟨_,_,_,_,rfl,i1,?_⟩
     walk_at "rd"
     refine ifB (fun h1=>?_) (fun h1=>?_)
     ·walk_at "rd"
      have h1':wholeB d1 1 8=false:=by simpa using h1
      have q':=q H (Same.refl H)
      by_cases h0:∃ n ds,d1=.int n∧d2=.tuple ds
      ·obtain ⟨n,ds,rfl,rfl⟩:=h0
       have:orderB (.tuple [.int n,.tuple ds])=(decide (1≤n)&&decide (n≤8)&&ds.all (fun d=>pairB d n)&&risingB (ds.map decP)):=rfl
       rw [this,show (decide (1≤n)&&decide (n≤8))=false from h1'] at q'
       exact q'
      ·rw [order_other (by rintro n ds ⟨⟩;exact h0 ⟨_,_,rfl,rfl⟩)] at q'
       exact q'
     ·have h1':wholeB d1 1 8=true:=by simpa using h1
      obtain ⟨n,rfl,hn1,hn8⟩:=wholeB_int h1'
      walk_at "rd"
      by_cases hd2:∃ ds,d2=.tuple ds
      ·obtain ⟨ds,rfl⟩:=hd2
       have hlen:=hok _ _ rfl
       cases i1 with
       | int _=>
       cases i2 with
       | @tup b ys _ eb hys=>
       have hlb:=hys.length
       walk_at "rd"
       refine ⟨b,rfl,⟨ys,SqT.of eb⟩,?_⟩
       refine lp_tup (K:=K) (xs:=ys) (small_ln (by omega)) (fun i zs H'=>H'=H∧zs=((ds.take i).map fun d=>pairB d n).map V.bl) ⟨rfl,rfl⟩ (by rintro i ys H' ⟨_,rfl⟩;simp;omega) (fun i zs H' _ h=>by rw [h.1];exact SqT.of eb) ?_ ?_
       ·rintro i x zs H' hx ⟨rfl,rfl⟩
        obtain ⟨d,ed,id⟩:=hys.get' hx
        walk_at "rd"
        refine ⟨_,_,_,rfl,id,rfl,?_⟩
        rw [List.take_add_one,ed,List.map_append,List.map_append]
        rfl
       ·rintro zs H' ⟨rfl,rfl⟩ p hp
        walk_at "rd"
        refine rd_all upd_same ?_
        rw [hlb,List.take_length,List.all_map]
        walk_at "rd"
        have qe:orderB (.tuple [.int n,.tuple ds])=(decide (1≤n)&&decide (n≤8)&&ds.all (fun d=>pairB d n)&&risingB (ds.map decP)):=rfl
        rw [qe,decide_eq_true hn1,decide_eq_true hn8] at q
        refine ifB (fun h3=>?_) (fun h3=>?_)
        ·walk_at "rd"
         have h3':ds.all (fun d=>pairB d n)=true:=h3
         have ed:=pairs_dec h3'
         have hy2:Is (upd H' p (.lst (((ds.take ys.length).map fun d=>pairB d n).map V.bl))) (.ref b) (.tuple ((ds.map decP).map prD)):=by
          rw [←ed]
          exact Is.same (Same.upd hp) (.tup eb hys)
         rw [hlb,List.take_length] at hy2
         refine ⟨_,_,rfl,hy2,by rw [List.length_map];exact hlen,fun H2 s2=>?_⟩
         have q':=q H2 ((Same.upd hp).trans s2)
         simpa [h3'] using q'
        ·walk_at "rd"
         have h3':ds.all (fun d=>pairB d n)=false:=h3
         have q':=q _ (Same.upd (o:=.lst ((ds.map fun d=>pairB d n).map V.bl)) hp)
         simpa [h3'] using q'
      ·have hd2':∀ ds,d2≠.tuple ds:=fun ds e=>hd2 ⟨ds,e⟩
       rw [isTup_no hd2']
       walk_at "rd"
       have q':=q H (Same.refl H)
       rw [order_other (by rintro n ds ⟨⟩;exact hd2' _ rfl)] at q'
       exact q'
    | [],_,_,_=>simp at h
    | [_],_,_,_=>simp at h
    | _::_::_::_,_,_,_=>simp at h;omega
  ·have hd':∀ ds,d≠.tuple ds:=fun ds e=>hd ⟨ds,e⟩
   rw [isTup_no hd']
   walk_at "rd"
   have q':=q H (Same.refl H)
   rw [order_other fun n ds=>hd' _] at q'
   exact q'
end
end My
namespace My
open PySem L2
section
variable {P:Program} {w:World} {K:PySem.W.Frag} {mg:Str→Option Value} {base:Heap} {t:Ad}
set_option genSizeOf false in
set_option genInjectivity false in
inductive sp_need_order (vs:List V) (H:Hp) (Q:VK) (zz3:XK):Prop where
 | mk (x d:_) (zh0:vs=[x]) (zh1:Is H x d) (zh2:okOrd d) (zh3:orderB d=true) (zh4:∀ H',Same H H'→Q .non H'):sp_need_order vs H Q zz3
theorem ok_need_order (T:Txt K mg t):FnOk P w K mg base CX0 5 t.a_need_order t.d_need_order ["value"] sp_need_order:=by
 refine T.F_need_order.ok sc_need_order (fun vs H Q E h=>?_) (fun cdv A outer s H vs Q E hr h=>?_)
 ·obtain ⟨x,d,rfl,_⟩:=h
  rfl
 ·obtain ⟨x,d,rfl,hx,hok,ho,q⟩:=h
  refine ⟨_,(pss_one (ps_if (pt_not (pt_val (pe_call (ok_is_order T) (hr.mono (by decide)) rfl T.m_is_order T.F_is_order.kp T.b_is_order .nil pass0 (pa_cons (pv 0) pa_nil)))) (pss_one ps_never) pss_nil)),?_⟩
  walk_at "rd"
  refine ⟨_,_,rfl,hx,hok,fun H' s'=>?_⟩
  rw [ho]
  walk_at "rd"
  exact q H' s'
end
end My
namespace My
open PySem L2
section
variable {P:Program} {w:World} {K:PySem.W.Frag} {mg:Str→Option Value} {base:Heap} {t:Ad}
theorem eqv_pr (p q:Int×Int):PyData.eqv (prD p) (prD q)=decide (p=q):=by
 obtain ⟨a,b⟩:=p
 obtain ⟨c,d⟩:=q
 simp only [prD,PyData.eqv,PyData.eqvAll,Bool.and_true]
 by_cases h:a=c
 ·by_cases h2:b=d
  ·subst h h2;simp
  ·simp [h,h2]
 ·simp [h]
theorem inD_pr (p:Int×Int):∀ ps:List (Int×Int),inD (prD p) (ps.map prD)=decide (p∈ps)
 | []=>by simp [inD]
 | q::ps=>by
  have ih:=inD_pr p ps
  unfold inD at ih ⊢
  rw [List.map_cons,List.any_cons,ih,eqv_pr]
  by_cases h:q=p
  ·subst h;simp
  ·have h':¬p=q:=fun e=>h e.symm
   simp [h,h']
theorem ok_pr (p:Int×Int):okD (prD p):=⟨rfl,show 1≤40 by decide⟩
theorem ok_prs:∀ ps:List (Int×Int),okDs (ps.map prD)
 | []=>⟨rfl,Nat.zero_le _⟩
 | p::ps=>by
  obtain ⟨a,b⟩:=ok_prs ps
  refine ⟨?_,?_⟩
  ·rw [List.map_cons,PyData.canLayAll0,a];rfl
  ·rw [List.map_cons,PyData.depthAll]
   exact Nat.max_le.mpr ⟨(ok_pr p).2,b⟩
noncomputable def has (ps:List (Int×Int)) (i j:Int):Bool:=decide ((i,j)∈ps)
theorem rd_ninP {H:Hp} {Q:VK} {p:Addr} {y:V} {i j:Int} {ps:List (Int×Int)} (e:H p=some (.tup [.int i,.int j])) (hy:Is H y (.tuple (ps.map prD))) (h:Q (.bl (!has ps i j)) H):rInD true (.ref p) y H Q:=by
 refine rd_inD (d:=prD (i,j)) (.tup e (.cons (.int i) (.cons (.int j) .nil))) hy (ok_pr _) (ok_prs _) ?_
 rw [inD_pr]
 exact h
noncomputable def bar2B (ps:List (Int×Int)) (a b c d:Int):Bool:=has ps a b&&has ps c d&&(!has ps a d&& !has ps c b)
noncomputable def bar3B (ps:List (Int×Int)) (a b c d:Int):Bool:=has ps a b&&has ps b c&&(!has ps a d&& !has ps d c)
theorem two_ln {i j:Int}:[V.int i,V.int j].length≤sizeLine:=by
 show 2≤sizeLine
 decide
noncomputable def ordD (n:Nat) (ps:List (Int×Int)):PyData:=.tuple [.int n,.tuple (ps.map prD)]
structure Ord (n:Nat) (ps:List (Int×Int)):Prop where
 lo:1≤n
 hi:n≤8
 ix:∀ p∈ps,0≤p.1∧p.1 < n∧0≤p.2∧p.2 < n∧p.1≠p.2
 up:risingB ps=true
 sz:ps.length≤1000
theorem decP_pr (p:Int×Int):decP (prD p)=p:=rfl
theorem Ord.okd {n:Nat} {ps:List (Int×Int)} (h:Ord n ps):okOrd (ordD n ps):=by
 rintro m ds e
 unfold ordD at e
 injection e with e
 injection e with _ e
 injection e with e _
 injection e with e
 rw [←e,List.length_map]
 exact h.sz
theorem Ord.yes {n:Nat} {ps:List (Int×Int)} (h:Ord n ps):orderB (ordD n ps)=true:=by
 have e:orderB (ordD n ps)=(decide (1≤(n:Int))&&decide ((n:Int)≤8)&&(ps.map prD).all (fun d=>pairB d n)&&risingB ((ps.map prD).map decP)):=rfl
 have e2:(ps.map prD).map decP=ps:=by
  rw [List.map_map]
  exact (List.map_congr_left fun p _=>decP_pr p).trans (List.map_id ps)
 have e3:(ps.map prD).all (fun d=>pairB d n)=true:=by
  rw [List.all_map,List.all_eq_true]
  intro p hp
  obtain ⟨a,b,c,d,f⟩:=h.ix p hp
  show (wholeB (.int p.1) 0 (n - 1)&&wholeB (.int p.2) 0 (n - 1)&& !PyData.eqv (.int p.1) (.int p.2))=true
  have g1:wholeB (.int p.1) 0 (n - 1)=true:=by
   show (decide (0≤p.1)&&decide (p.1≤(n:Int) - 1))=true
   simp;omega
  have g2:wholeB (.int p.2) 0 (n - 1)=true:=by
   show (decide (0≤p.2)&&decide (p.2≤(n:Int) - 1))=true
   simp;omega
  have g3:PyData.eqv (.int p.1) (.int p.2)=false:=by
   show (p.1==p.2)=false
   simpa using f
  rw [g1,g2,g3];rfl
 rw [e,e2,e3,h.up,decide_eq_true (by have:=h.lo;omega),decide_eq_true (by have:=h.hi;omega)]
 rfl
theorem is_ord {H:Hp} {x:V} {n:Nat} {ps:List (Int×Int)} (h:Is H x (ordD n ps)):∃ a b xs,x=.ref a∧H a=some (.tup [.int n,.ref b])∧H b=some (.tup xs)∧IsAll H xs (ps.map prD):=by
 unfold ordD at h
 cases h with
 | @tup a xs _ e hxs=>
  obtain ⟨b,ys,rfl,eb,hb⟩:=two_io hxs
  exact ⟨a,_,_,rfl,e,eb,hb⟩
end
end My
namespace My
open PySem L2
section
variable {P:Program} {w:World} {K:PySem.W.Frag} {mg:Str→Option Value} {base:Heap} {t:Ad}
set_option genSizeOf false in
set_option genInjectivity false in
inductive sp_bar (f:List (Int×Int)→Int→Int→Int→Int→Bool) (vs:List V) (H:Hp) (Q:VK) (zz3:XK):Prop where
 | mk (x ps a b c d:_) (zh0:vs=[x,.int a,.int b,.int c,.int d]) (zh1:Is H x (.tuple (ps.map prD))) (zh2:∀ H',Same H H'→Q (.bl (f ps a b c d)) H'):sp_bar f vs H Q zz3
theorem ok_bars_as_two (T:Txt K mg t):FnOk P w K mg base CX0 1 t.a_bars_as_two t.d_bars_as_two ["pairs","a","b","c","d"] (sp_bar bar2B):=by
 refine T.F_bars_as_two.ok sc_bars_as_two (fun vs H Q E h=>?_) (fun cdv A outer s H vs Q E hr h=>?_)
 ·obtain ⟨x,ps,a,b,c,d,rfl,_⟩:=h
  rfl
 ·obtain ⟨x,ps,a,b,c,d,rfl,hx,q⟩:=h
  refine ⟨_,(pss_cons (ps_if (PW.pt (pw_or (pt_cmpR (op_notInD hr.units) (pe_tup (pa_cons (pv 1) (pa_cons (pv 2) pa_nil))) (pv 0) (by rfl)) (pw_or1 (pt_cmpR (op_notInD hr.units) (pe_tup (pa_cons (pv 3) (pa_cons (pv 4) pa_nil))) (pv 0) (by rfl))))) (pss_one (ps_ret pe_bl)) pss_nil)
   (pss_one (ps_ret (pe_and (pe_cmpR (op_notInD hr.units) (pe_tup (pa_cons (pv 1) (pa_cons (pv 4) pa_nil))) (pv 0) (by rfl)) (pe_one (pe_cmpR (op_notInD hr.units) (pe_tup (pa_cons (pv 3) (pa_cons (pv 2) pa_nil))) (pv 0) (by rfl))))))),?_⟩
  unfold bar2B at q
  walk_at "rd"
  refine ⟨two_ln,fun p1 hp1=>?_⟩
  have s1:=Same.upd (o:=.tup [.int a,.int b]) hp1
  walk_at "rd"
  refine rd_ninP upd_same (hx.same s1) ?_
  walk_at "rd"
  refine ifB (fun h1=>?_) (fun h1=>?_)
  ·walk_at "rd"
   have h1':has ps a b=false:=by simpa using h1
   have q':=q _ s1
   rw [h1'] at q'
   exact q'
  ·have h1':has ps a b=true:=by simpa using h1
   rw [h1'] at q
   walk_at "rd"
   refine ⟨two_ln,fun p2 hp2=>?_⟩
   walk_at "rd"
   refine rd_ninP upd_same (hx.same (s1.trans (Same.upd hp2))) ?_
   walk_at "rd"
   refine ifB (fun h2=>?_) (fun h2=>?_)
   ·walk_at "rd"
    rw [Bool.not_eq_true'] at h2
    rw [h2] at q
    exact q _ (s1.trans (Same.upd hp2))
   ·rw [Bool.not_eq_false'] at h2
    rw [h2] at q
    walk_at "rd"
    refine ⟨two_ln,fun p3 hp3=>?_⟩
    walk_at "rd"
    refine rd_ninP upd_same (hx.same ((s1.trans (Same.upd hp2)).trans (Same.upd hp3))) ?_
    walk_at "rd"
    refine ifB (fun h3=>?_) (fun h3=>?_)
    ·rw [h3] at q
     walk_at "rd"
     refine ⟨two_ln,fun p4 hp4=>?_⟩
     walk_at "rd"
     refine rd_ninP upd_same (hx.same (((s1.trans (Same.upd hp2)).trans (Same.upd hp3)).trans (Same.upd hp4))) ?_
     exact q _ (((s1.trans (Same.upd hp2)).trans (Same.upd hp3)).trans (Same.upd hp4))
    ·rw [h3] at q
     exact q _ ((s1.trans (Same.upd hp2)).trans (Same.upd hp3))
theorem ok_bars_as_three (T:Txt K mg t):FnOk P w K mg base CX0 1 t.a_bars_as_three t.d_bars_as_three ["pairs","a","b","c","d"] (sp_bar bar3B):=by
 refine T.F_bars_as_three.ok sc_bars_as_three (fun vs H Q E h=>?_) (fun cdv A outer s H vs Q E hr h=>?_)
 ·obtain ⟨x,ps,a,b,c,d,rfl,_⟩:=h
  rfl
 ·obtain ⟨x,ps,a,b,c,d,rfl,hx,q⟩:=h
  refine ⟨_,(pss_cons (ps_if (PW.pt (pw_or (pt_cmpR (op_notInD hr.units) (pe_tup (pa_cons (pv 1) (pa_cons (pv 2) pa_nil))) (pv 0) (by rfl)) (pw_or1 (pt_cmpR (op_notInD hr.units) (pe_tup (pa_cons (pv 2) (pa_cons (pv 3) pa_nil))) (pv 0) (by rfl))))) (pss_one (ps_ret pe_bl)) pss_nil)
   (pss_one (ps_ret (pe_and (pe_cmpR (op_notInD hr.units) (pe_tup (pa_cons (pv 1) (pa_cons (pv 4) pa_nil))) (pv 0) (by rfl)) (pe_one (pe_cmpR (op_notInD hr.units) (pe_tup (pa_cons (pv 4) (pa_cons (pv 3) pa_nil))) (pv 0) (by rfl))))))),?_⟩
  unfold bar3B at q
  walk_at "rd"
  refine ⟨two_ln,fun p1 hp1=>?_⟩
  have s1:=Same.upd (o:=.tup [.int a,.int b]) hp1
  walk_at "rd"
  refine rd_ninP upd_same (hx.same s1) ?_
  walk_at "rd"
  refine ifB (fun h1=>?_) (fun h1=>?_)
  ·walk_at "rd"
   have h1':has ps a b=false:=by simpa using h1
   have q':=q _ s1
   rw [h1'] at q'
   exact q'
  ·have h1':has ps a b=true:=by simpa using h1
   rw [h1'] at q
   walk_at "rd"
   refine ⟨two_ln,fun p2 hp2=>?_⟩
   walk_at "rd"
   refine rd_ninP upd_same (hx.same (s1.trans (Same.upd hp2))) ?_
   walk_at "rd"
   refine ifB (fun h2=>?_) (fun h2=>?_)
   ·walk_at "rd"
    rw [Bool.not_eq_true'] at h2
    rw [h2] at q
    exact q _ (s1.trans (Same.upd hp2))
   ·rw [Bool.not_eq_false'] at h2
    rw [h2] at q
    walk_at "rd"
    refine ⟨two_ln,fun p3 hp3=>?_⟩
    walk_at "rd"
    refine rd_ninP upd_same (hx.same ((s1.trans (Same.upd hp2)).trans (Same.upd hp3))) ?_
    walk_at "rd"
    refine ifB (fun h3=>?_) (fun h3=>?_)
    ·rw [h3] at q
     walk_at "rd"
     refine ⟨two_ln,fun p4 hp4=>?_⟩
     walk_at "rd"
     refine rd_ninP upd_same (hx.same (((s1.trans (Same.upd hp2)).trans (Same.upd hp3)).trans (Same.upd hp4))) ?_
     exact q _ (((s1.trans (Same.upd hp2)).trans (Same.upd hp3)).trans (Same.upd hp4))
    ·rw [h3] at q
     exact q _ ((s1.trans (Same.upd hp2)).trans (Same.upd hp3))
end
end My
namespace My
open PySem L2
section
variable {P:Program} {w:World} {K:PySem.W.Frag} {mg:Str→Option Value} {base:Heap} {t:Ad}
theorem fs_next {α β:Type} {F:α→Option β} {l:List α} {i:Nat} {x:α} (h:(l.take i).findSome? F=none) (e:l[i]? =some x) (g:F x=none):(l.take (i + 1)).findSome? F=none:=by
 rw [List.take_add_one,e,List.findSome?_append,h]
 simp [g]
theorem fs_at {α β:Type} {F:α→Option β} {l:List α} {i:Nat} {x:α} {r:β} (h:(l.take i).findSome? F=none) (e:l[i]? =some x) (g:F x=some r):l.findSome? F=some r:=by
 have hl:i < l.length:=(List.getElem?_eq_some_iff.mp e).1
 have e':l[i]=x:=(List.getElem?_eq_some_iff.mp e).2
 have:l=l.take i++x::l.drop (i + 1):=by
  rw [←e',←List.drop_eq_getElem_cons hl,List.take_append_drop]
 rw [this,List.findSome?_append,h]
 simp [g]
theorem fs_end {α β:Type} {F:α→Option β} {l:List α} (h:(l.take l.length).findSome? F=none):l.findSome? F=none:=by
 rwa [List.take_length] at h
theorem rg_at {n i:Nat} (h:i < n):(List.range n)[i]? =some i:=List.getElem?_range h
theorem rg_end {β:Type} {F:Nat→Option β} {n:Nat} (h:((List.range n).take n).findSome? F=none):(List.range n).findSome? F=none:=by
 rwa [List.take_of_length_le (by simp)] at h
noncomputable def tagD (s:Str):Option (List Int)→PyData
 | none=>.none
 | some l=>.tuple (.str s::l.map .int)
noncomputable def f2i (ps:List (Int×Int)) (p q:Int×Int):Option (List Int):=if bar2B ps p.1 p.2 q.1 q.2=true then some [p.1,p.2,q.1,q.2] else none
noncomputable def f2 (ps:List (Int×Int)):Option (List Int):=ps.findSome? fun p=>ps.findSome? (f2i ps p)
set_option genSizeOf false in
set_option genInjectivity false in
inductive sp_first_two (vs:List V) (H:Hp) (Q:VK) (zz3:XK):Prop where
 | mk (x ps:_) (zh0:vs=[x]) (zh1:Is H x (.tuple (ps.map prD))) (zh2:∀ v H',Same H H'→Is H' v (tagD "two" (f2 ps))→Q v H'):sp_first_two vs H Q zz3
theorem ok_first_two (T:Txt K mg t):FnOk P w K mg base CX0 2 t.a_first_two t.d_first_two ["pairs"] sp_first_two:=by
 refine T.F_first_two.ok sc_first_two (fun vs H Q E h=>?_) (fun cdv A outer s H vs Q E hr h=>?_)
 ·obtain ⟨x,ps,rfl,_⟩:=h
  rfl
 ·obtain ⟨x,ps,rfl,hx,q⟩:=h
  refine ⟨_,(pss_cons (ps_for PassesOwn.never rfl (k_ptup K (pv 0)) (k_gtup K rfl (pgs_cons (pg_name (i:=1) sc_first_two.nd rfl (Or.inl rfl)) (pgs_cons (pg_name (i:=2) sc_first_two.nd rfl (Or.inl rfl)) pgs_nil))) (pss_one (ps_for PassesOwn.never rfl (k_ptup K (pv 0)) (k_gtup K rfl (pgs_cons (pg_name (i:=3) sc_first_two.nd rfl (Or.inl rfl)) (pgs_cons (pg_name (i:=4) sc_first_two.nd rfl (Or.inl rfl)) pgs_nil))) (pss_one (ps_if (pt_val (pe_call (ok_bars_as_two T) (hr.mono (by decide)) rfl T.m_bars_as_two T.F_bars_as_two.kp T.b_bars_as_two .nil pass0 (pa_cons (pv 0) (pa_cons (pv 1) (pa_cons (pv 2) (pa_cons (pv 3) (pa_cons (pv 4) pa_nil))))))) (pss_one (ps_ret (pe_tup (pa_cons pe_str (pa_cons (pv 1) (pa_cons (pv 2) (pa_cons (pv 3) (pa_cons (pv 4) pa_nil)))))))) pss_nil)))))
   (pss_one (ps_ret pe_non))),?_⟩
  cases hx with
  | @tup a xs _ e hxs=>
  have hl:xs.length=ps.length:=by rw [hxs.length,List.length_map]
  walk_at "rd"
  refine ⟨a,rfl,⟨xs,SqT.of e⟩,?_⟩
  refine fp_tup (K:=K) (xs:=xs) (fun i σ H'=>(∃ va vb vc vd,σ=[some (.ref a),va,vb,vc,vd])∧Same H H'∧(ps.take i).findSome? (fun p=>ps.findSome? (f2i ps p))=none) ⟨⟨_,_,_,_,rfl⟩,Same.refl H,rfl⟩ (fun i σ H' _ h=>SqT.of (h.2.1 _ _ e)) ?_ ?_
  ·rintro i x σ H1 hx ⟨⟨va,vb,vc,vd,rfl⟩,s1,n1⟩
   obtain ⟨p,ep,ip⟩:=(hxs.same s1).get' hx
   rw [List.getElem?_map] at ep
   cases hpi:ps[i]? with
   | none=>rw [hpi] at ep;cases ep
   | some p0=>
   rw [hpi] at ep
   cases ep
   unfold prD at ip
   cases ip with
   | @tup r ys _ er hys=>
   obtain rfl:=two_ints hys
   refine rd_gtup er rfl ?_
   walk_at "rd"
   refine ⟨a,rfl,⟨xs,SqT.of (s1 _ _ e)⟩,?_⟩
   refine fp_tup (K:=K) (xs:=xs) (fun j σ H'=>(∃ vc vd,σ=[some (.ref a),some (.int p0.1),some (.int p0.2),vc,vd])∧Same H H'∧(ps.take j).findSome? (f2i ps p0)=none) ⟨⟨_,_,rfl⟩,s1,rfl⟩ (fun i σ H' _ h=>SqT.of (h.2.1 _ _ e)) ?_ ?_
   ·rintro j y σ H2 hy ⟨⟨vc,vd,rfl⟩,s2,n2⟩
    obtain ⟨q2,eq2,iq2⟩:=(hxs.same s2).get' hy
    rw [List.getElem?_map] at eq2
    cases hqj:ps[j]? with
    | none=>rw [hqj] at eq2;cases eq2
    | some q0=>
    rw [hqj] at eq2
    cases eq2
    unfold prD at iq2
    cases iq2 with
    | @tup r2 ys2 _ er2 hys2=>
    obtain rfl:=two_ints hys2
    refine rd_gtup er2 rfl ?_
    walk_at "rd"
    refine ⟨_,ps,_,_,_,_,rfl,Is.same s2 (.tup e hxs),fun H3 s3=>?_⟩
    cases hf:bar2B ps p0.1 p0.2 q0.1 q0.2 with
    | true=>
     walk_at "rd"
     refine ⟨by show 5≤sizeLine;decide,fun r3 hr3=>?_⟩
     have ef:f2 ps=some [p0.1,p0.2,q0.1,q0.2]:=fs_at n1 hpi (fs_at n2 hqj (if_pos hf))
     refine q _ _ ((s2.trans s3).trans (Same.upd hr3)) ?_
     rw [ef]
     exact .tup upd_same (.cons (.str _) (.cons (.int _) (.cons (.int _) (.cons (.int _) (.cons (.int _) .nil)))))
    | false=>
     walk_at "rd"
     exact ⟨⟨_,_,rfl⟩,s2.trans s3,fs_next n2 hqj (if_neg (by rw [hf];exact Bool.false_ne_true))⟩
   ·rintro σ H2 ⟨⟨vc,vd,rfl⟩,s2,n2⟩
    rw [hl] at n2
    exact ⟨⟨_,_,_,_,rfl⟩,s2,fs_next n1 hpi (fs_end n2)⟩
  ·rintro σ H1 ⟨⟨va,vb,vc,vd,rfl⟩,s1,n1⟩
   rw [hl] at n1
   walk_at "rd"
   refine q _ H1 s1 ?_
   rw [show f2 ps=none from fs_end n1]
   exact .non
noncomputable def f3i (n:Nat) (ps:List (Int×Int)) (p:Int×Int) (c:Nat):Option (List Int):=(List.range n).findSome? fun (d:Nat)=>if bar3B ps p.1 p.2 c d=true then some [p.1,p.2,(c:Int),(d:Int)] else none
noncomputable def f3 (n:Nat) (ps:List (Int×Int)):Option (List Int):=ps.findSome? fun p=>(List.range n).findSome? (f3i n ps p)
set_option genSizeOf false in
set_option genInjectivity false in
inductive sp_first_three (vs:List V) (H:Hp) (Q:VK) (zz3:XK):Prop where
 | mk (x ps n:_) (zh0:vs=[.int (n:Nat),x]) (zh1:n≤8) (zh2:Is H x (.tuple (ps.map prD))) (zh3:∀ v H',Same H H'→Is H' v (tagD "three" (f3 n ps))→Q v H'):sp_first_three vs H Q zz3
theorem ok_first_three (T:Txt K mg t):FnOk P w K mg base CX0 2 t.a_first_three t.d_first_three ["many","pairs"] sp_first_three:=by
 refine T.F_first_three.ok sc_first_three (fun vs H Q E h=>?_) (fun cdv A outer s H vs Q E hr h=>?_)
 ·obtain ⟨x,ps,n,rfl,_⟩:=h
  rfl
 ·obtain ⟨x,ps,n,rfl,hn,hx,q⟩:=h
  refine ⟨_,(pss_cons (ps_for PassesOwn.never rfl (k_ptup K (pv 1)) (k_gtup K rfl (pgs_cons (pg_name (i:=2) sc_first_three.nd rfl (Or.inl rfl)) (pgs_cons (pg_name (i:=3) sc_first_three.nd rfl (Or.inl rfl)) pgs_nil))) (pss_one (ps_for PassesOwn.never rfl (pi_range1 rfl T.n_range (pa_cons (pv 0) pa_nil)) (pg_name (i:=4) sc_first_three.nd rfl (Or.inl rfl)) (pss_one (ps_for PassesOwn.never rfl (pi_range1 rfl T.n_range (pa_cons (pv 0) pa_nil)) (pg_name (i:=5) sc_first_three.nd rfl (Or.inl rfl)) (pss_one (ps_if (pt_val (pe_call (ok_bars_as_three T) (hr.mono (by decide)) rfl T.m_bars_as_three T.F_bars_as_three.kp T.b_bars_as_three .nil pass0 (pa_cons (pv 1) (pa_cons (pv 2) (pa_cons (pv 3) (pa_cons (pv 4) (pa_cons (pv 5) pa_nil))))))) (pss_one (ps_ret (pe_tup (pa_cons pe_str (pa_cons (pv 2) (pa_cons (pv 3) (pa_cons (pv 4) (pa_cons (pv 5) pa_nil)))))))) pss_nil)))))))
   (pss_one (ps_ret pe_non))),?_⟩
  cases hx with
  | @tup a xs _ e hxs=>
  have hl:xs.length=ps.length:=by rw [hxs.length,List.length_map]
  walk_at "rd"
  refine ⟨a,rfl,⟨xs,SqT.of e⟩,?_⟩
  refine fp_tup (K:=K) (xs:=xs) (fun i σ H'=>(∃ va vb vc vd,σ=[some (.int n),some (.ref a),va,vb,vc,vd])∧Same H H'∧(ps.take i).findSome? (fun p=>(List.range n).findSome? (f3i n ps p))=none) ⟨⟨_,_,_,_,rfl⟩,Same.refl H,rfl⟩ (fun i σ H' _ h=>SqT.of (h.2.1 _ _ e)) ?_ ?_
  ·rintro i x σ H1 hx ⟨⟨va,vb,vc,vd,rfl⟩,s1,n1⟩
   obtain ⟨p,ep,ip⟩:=(hxs.same s1).get' hx
   rw [List.getElem?_map] at ep
   cases hpi:ps[i]? with
   | none=>rw [hpi] at ep;cases ep
   | some p0=>
   rw [hpi] at ep
   cases ep
   unfold prD at ip
   cases ip with
   | @tup r ys _ er hys=>
   obtain rfl:=two_ints hys
   refine rd_gtup er rfl ?_
   walk_at "rd"
   refine ⟨_,rfl,by omega,by omega,?_⟩
   rw [Int.toNat_natCast]
   refine fp_range (fun c σ H'=>(∃ vc vd,σ=[some (.int n),some (.ref a),some (.int p0.1),some (.int p0.2),vc,vd])∧Same H H'∧((List.range n).take c).findSome? (f3i n ps p0)=none) ⟨⟨_,_,rfl⟩,s1,rfl⟩ ?_ ?_
   ·rintro c σ H2 hc ⟨⟨vc,vd,rfl⟩,s2,n2⟩
    walk_at "rd"
    refine ⟨_,rfl,by omega,by omega,?_⟩
    rw [Int.toNat_natCast]
    refine fp_range (fun d σ H'=>(∃ vd,σ=[some (.int n),some (.ref a),some (.int p0.1),some (.int p0.2),some (.int (0 + c)),vd])∧Same H H'∧((List.range n).take d).findSome? (fun (d:Nat)=>if bar3B ps p0.1 p0.2 c d=true then some [p0.1,p0.2,(c:Int),(d:Int)] else none)=none) ⟨⟨_,rfl⟩,s2,rfl⟩ ?_ ?_
    ·rintro d σ H3 hd ⟨⟨vd,rfl⟩,s3,n3⟩
     walk_at "rd"
     refine ⟨_,ps,_,_,_,_,rfl,Is.same s3 (.tup e hxs),fun H4 s4=>?_⟩
     rw [Int.zero_add,Int.zero_add]
     cases hf:bar3B ps p0.1 p0.2 c d with
     | true=>
      walk_at "rd"
      refine ⟨by show 5≤sizeLine;decide,fun r3 hr3=>?_⟩
      have ef:f3 n ps=some [p0.1,p0.2,(c:Int),(d:Int)]:=fs_at n1 hpi (fs_at n2 (rg_at hc) (fs_at n3 (rg_at hd) (if_pos hf)))
      refine q _ _ ((s3.trans s4).trans (Same.upd hr3)) ?_
      rw [ef]
      exact .tup upd_same (.cons (.str _) (.cons (.int _) (.cons (.int _) (.cons (.int _) (.cons (.int _) .nil)))))
     | false=>
      walk_at "rd"
      exact ⟨⟨_,rfl⟩,s3.trans s4,fs_next n3 (rg_at hd) (if_neg (by rw [hf];exact Bool.false_ne_true))⟩
    ·rintro σ H3 ⟨⟨vd,rfl⟩,s3,n3⟩
     exact ⟨⟨_,_,rfl⟩,s3,fs_next n2 (rg_at hc) (rg_end n3)⟩
   ·rintro σ H2 ⟨⟨vc,vd,rfl⟩,s2,n2⟩
    exact ⟨⟨_,_,_,_,rfl⟩,s2,fs_next n1 hpi (rg_end n2)⟩
  ·rintro σ H1 ⟨⟨va,vb,vc,vd,rfl⟩,s1,n1⟩
   rw [hl] at n1
   walk_at "rd"
   refine q _ H1 s1 ?_
   rw [show f3 n ps=none from fs_end n1]
   exact .non
noncomputable def barD (n:Nat) (ps:List (Int×Int)):PyData:=match f2 ps with
 | some l=>tagD "two" (some l)
 | none=>tagD "three" (f3 n ps)
set_option genSizeOf false in
set_option genInjectivity false in
inductive sp_bar_full (vs:List V) (H:Hp) (Q:VK) (zz3:XK):Prop where
 | mk (x n ps:_) (zh0:vs=[x]) (zh1:Is H x (ordD n ps)) (zh2:Ord n ps) (zh3:∀ v H',Same H H'→Is H' v (barD n ps)→Q v H'):sp_bar_full vs H Q zz3
theorem ok_bar (T:Txt K mg t):FnOk P w K mg base CX0 6 t.a_bar t.d_bar ["order"] sp_bar_full:=by
 refine T.F_bar.ok sc_bar (fun vs H Q E h=>?_) (fun cdv A outer s H vs Q E hr h=>?_)
 ·obtain ⟨x,n,ps,rfl,_⟩:=h
  rfl
 ·obtain ⟨x,n,ps,rfl,hx,ho,q⟩:=h
  refine ⟨_,(pss_cons (ps_expr (pe_call (ok_need_order T) (hr.mono (by decide)) rfl T.m_need_order T.F_need_order.kp T.b_need_order .nil pass0 (pa_cons (pv 0) pa_nil)))
   (pss_cons (ps_set (i:=1) sc_bar.nd rfl (Or.inl rfl) (pe_call (ok_first_two T) (hr.mono (by decide)) rfl T.m_first_two T.F_first_two.kp T.b_first_two .nil pass0 (pa_cons (pe_ix (k_ix K) (pv 0) pe_int (fun _ _=>rfl)) pa_nil)))
   (pss_cons (ps_if (pt_cmpR o_isN (pv 1) pe_non (nomark _)) (pss_one (ps_set (i:=1) sc_bar.nd rfl (Or.inl rfl) (pe_call (ok_first_three T) (hr.mono (by decide)) rfl T.m_first_three T.F_first_three.kp T.b_first_three .nil pass0 (pa_cons (pe_ix (k_ix K) (pv 0) pe_int (fun _ _=>rfl)) (pa_cons (pe_ix (k_ix K) (pv 0) pe_int (fun _ _=>rfl)) pa_nil))))) pss_nil)
   (pss_one (ps_ret (pv 1)))))),?_⟩
  walk_at "rd"
  refine ⟨_,_,rfl,hx,ho.okd,ho.yes,fun H1 s1=>?_⟩
  obtain ⟨a,b,xs,rfl,ea,eb,hxs⟩:=is_ord (hx.same s1)
  walk_at "rd"
  refine ⟨_,ps,rfl,.tup eb hxs,fun v H2 s2 iv=>?_⟩
  have ea2:=s2 _ _ ea
  have eb2:=s2 _ _ eb
  unfold barD at q
  cases e2:f2 ps with
  | some l=>
   rw [e2] at iv q
   unfold tagD at iv
   cases iv with
   | @tup r ys _ er hys=>
   walk_at "rd"
   exact q _ H2 (s1.trans s2) (.tup er hys)
  | none=>
   rw [e2] at iv q
   unfold tagD at iv
   cases iv with
   | non=>
   walk_at "rd"
   refine ⟨_,ps,n,rfl,ho.hi,.tup eb2 (hxs.same s2),fun v H3 s3 iv=>?_⟩
   walk_at "rd"
   exact q v H3 ((s1.trans s2).trans s3) iv
noncomputable def bar2L (ps:List (Int×Int)):Bool:=ps.any fun p=>ps.any fun q=>bar2B ps p.1 p.2 q.1 q.2
noncomputable def bar3L (n:Nat) (ps:List (Int×Int)):Bool:=ps.any fun p=>(List.range n).any fun c=>(List.range n).any fun d=>bar3B ps p.1 p.2 c d
noncomputable def barB (n:Nat) (ps:List (Int×Int)):Bool:=bar2L ps||bar3L n ps
theorem f2_none {ps:List (Int×Int)}:f2 ps=none↔bar2L ps=false:=by
 unfold f2 bar2L f2i
 rw [List.findSome?_eq_none_iff,List.any_eq_false]
 refine forall_congr' fun p=>forall_congr' fun hp=>?_
 rw [List.findSome?_eq_none_iff,Bool.not_eq_true,List.any_eq_false]
 refine forall_congr' fun q=>forall_congr' fun hq=>?_
 cases bar2B ps p.1 p.2 q.1 q.2 <;> simp
theorem f3_none {n:Nat} {ps:List (Int×Int)}:f3 n ps=none↔bar3L n ps=false:=by
 unfold f3 bar3L f3i
 rw [List.findSome?_eq_none_iff,List.any_eq_false]
 refine forall_congr' fun p=>forall_congr' fun hp=>?_
 rw [List.findSome?_eq_none_iff,Bool.not_eq_true,List.any_eq_false]
 refine forall_congr' fun c=>forall_congr' fun hc=>?_
 rw [List.findSome?_eq_none_iff,Bool.not_eq_true,List.any_eq_false]
 refine forall_congr' fun d=>forall_congr' fun hd=>?_
 cases bar3B ps p.1 p.2 c d <;> simp
theorem barD_no {n:Nat} {ps:List (Int×Int)} (h:barB n ps=false):barD n ps=.none:=by
 unfold barB at h
 rw [Bool.or_eq_false_iff] at h
 unfold barD
 rw [f2_none.mpr h.1,f3_none.mpr h.2]
 rfl
end
end My
namespace My
open PySem L2
section
variable {P:Program} {w:World} {K:PySem.W.Frag} {mg:Str→Option Value} {base:Heap} {t:Ad}
set_option genSizeOf false in
set_option genInjectivity false in
inductive sp_unbarred (vs:List V) (H:Hp) (Q:VK) (zz3:XK):Prop where
 | mk (x n ps:_) (zh0:vs=[x]) (zh1:Is H x (ordD n ps)) (zh2:Ord n ps) (zh3:barB n ps=false) (zh4:∀ H',Same H H'→Q .non H'):sp_unbarred vs H Q zz3
theorem ok_need_unbarred (T:Txt K mg t):FnOk P w K mg base CX0 7 t.a_need_unbarred t.d_need_unbarred ["order"] sp_unbarred:=by
 refine T.F_need_unbarred.ok sc_need_unbarred (fun vs H Q E h=>?_) (fun cdv A outer s H vs Q E hr h=>?_)
 ·obtain ⟨x,n,ps,rfl,_⟩:=h
  rfl
 ·obtain ⟨x,n,ps,rfl,hx,ho,hb,q⟩:=h
  refine ⟨_,(pss_one (ps_if (pt_cmpR o_notN (pe_call (ok_bar T) (hr.mono (by decide)) rfl T.m_bar T.F_bar.kp T.b_bar .nil pass0 (pa_cons (pv 0) pa_nil)) pe_non (nomark _)) (pss_one ps_never) pss_nil)),?_⟩
  walk_at "rd"
  refine ⟨x,n,ps,rfl,hx,ho,fun v H' s' iv=>?_⟩
  rw [barD_no hb] at iv
  cases iv with
  | non=>
  walk_at "rd"
  exact q H' s'
end
end My
namespace My
open PySem L2
section
variable {P:Program} {w:World} {K:PySem.W.Frag} {mg:Str→Option Value} {base:Heap} {t:Ad}
noncomputable def tlI (st:Int) (vals:List Int) (i j:Nat):List (Int×Int):=if vals.getD j 0 - vals.getD i 0≥st then [((i:Int),(j:Int))] else []
noncomputable def tlRow (st:Int) (vals:List Int) (i m:Nat):List (Int×Int):=(List.range m).flatMap (tlI st vals i)
noncomputable def tlAll (st:Int) (vals:List Int) (m:Nat):List (Int×Int):=(List.range m).flatMap fun i=>tlRow st vals i vals.length
noncomputable def toldL (st:Int) (vals:List Int):List (Int×Int):=tlAll st vals vals.length
theorem tlRow_succ (st:Int) (vals:List Int) (i m:Nat):tlRow st vals i (m + 1)=tlRow st vals i m++tlI st vals i m:=by
 unfold tlRow
 rw [List.range_succ,List.flatMap_append]
 simp
theorem tlAll_succ (st:Int) (vals:List Int) (m:Nat):tlAll st vals (m + 1)=tlAll st vals m++tlRow st vals m vals.length:=by
 unfold tlAll
 rw [List.range_succ,List.flatMap_append]
 simp
theorem tlI_len (st:Int) (vals:List Int) (i j:Nat):(tlI st vals i j).length≤1:=by
 unfold tlI
 split
 ·exact Nat.le_refl _
 ·exact Nat.zero_le _
theorem tlRow_len (st:Int) (vals:List Int) (i:Nat):∀ m,(tlRow st vals i m).length≤m
 | 0=>Nat.le_refl _
 | m + 1=>by
  rw [tlRow_succ,List.length_append]
  have:=tlRow_len st vals i m
  have:=tlI_len st vals i m
  omega
theorem tlAll_len (st:Int) (vals:List Int):∀ m,(tlAll st vals m).length≤m * vals.length
 | 0=>Nat.zero_le _
 | m + 1=>by
  rw [tlAll_succ,List.length_append,Nat.succ_mul]
  have:=tlAll_len st vals m
  have:=tlRow_len st vals m vals.length
  omega
theorem noLs_pr:∀ ds:List (Int×Int),noLs (ds.map prD)=true
 | []=>rfl
 | d::ds=>by
  rw [List.map_cons,noLs,noLs_pr ds]
  rfl
theorem ok_prT (ps:List (Int×Int)):okD (.tuple (ps.map prD)):=by
 have h:=ok_prs ps
 refine ⟨?_,?_⟩
 ·rw [PyData.canLay0];exact h.1
 ·rw [PyData.depth]
  have:PyData.depthAll (ps.map prD)≤1:=by
   clear h
   induction ps with
   | nil=>exact Nat.zero_le _
   | cons p ps ih=>
    rw [List.map_cons,PyData.depthAll]
    exact Nat.max_le.mpr ⟨Nat.le_refl _,ih⟩
  omega
noncomputable abbrev ltP (p q:Int×Int):Prop:=HT.lexLt [p.1,p.2] [q.1,q.2]=true
theorem ltP_of {p q:Int×Int} (h:p.1 < q.1∨(p.1=q.1∧p.2 < q.2)):ltP p q:=by
 show HT.lexLt [p.1,p.2] [q.1,q.2]=true
 rw [HT.lexLt_cons]
 rcases h with h | ⟨h1,h2⟩
 ·rw [if_neg (by omega)]
  exact decide_eq_true h
 ·rw [if_pos h1,HT.lexLt_cons,if_neg (by omega)]
  exact decide_eq_true h2
theorem mem_tlI {st:Int} {vals:List Int} {i j:Nat} {p:Int×Int}:p∈tlI st vals i j↔p=((i:Int),(j:Int))∧vals.getD j 0 - vals.getD i 0≥st:=by
 unfold tlI
 split
 ·rename_i h
  rw [List.mem_singleton]
  exact ⟨fun e=>⟨e,h⟩,fun e=>e.1⟩
 ·rename_i h
  constructor
  ·intro e;cases e
  ·intro e;exact absurd e.2 h
theorem mem_tlRow {st:Int} {vals:List Int} {i m:Nat} {p:Int×Int}:p∈tlRow st vals i m↔∃ j,j < m∧p=((i:Int),(j:Int))∧vals.getD j 0 - vals.getD i 0≥st:=by
 unfold tlRow
 rw [List.mem_flatMap]
 constructor
 ·rintro ⟨j,hj,h⟩
  exact ⟨j,List.mem_range.mp hj,mem_tlI.mp h⟩
 ·rintro ⟨j,hj,h⟩
  exact ⟨j,List.mem_range.mpr hj,mem_tlI.mpr h⟩
theorem mem_tlAll {st:Int} {vals:List Int} {m:Nat} {p:Int×Int}:p∈tlAll st vals m↔∃ i j,i < m∧j < vals.length∧p=((i:Int),(j:Int))∧vals.getD j 0 - vals.getD i 0≥st:=by
 unfold tlAll
 rw [List.mem_flatMap]
 constructor
 ·rintro ⟨i,hi,h⟩
  obtain ⟨j,hj,e,g⟩:=mem_tlRow.mp h
  exact ⟨i,j,List.mem_range.mp hi,hj,e,g⟩
 ·rintro ⟨i,j,hi,hj,e,g⟩
  exact ⟨i,List.mem_range.mpr hi,mem_tlRow.mpr ⟨j,hj,e,g⟩⟩
theorem has_told {st:Int} {vals:List Int} {i j:Nat} (hi:i < vals.length) (hj:j < vals.length):has (toldL st vals) i j=decide (vals.getD j 0 - vals.getD i 0≥st):=by
 unfold has
 congr 1
 apply propext
 unfold toldL
 rw [mem_tlAll]
 constructor
 ·rintro ⟨a,b,_,_,e,g⟩
  have e1:(i:Int)=a:=congrArg Prod.fst e
  have e2:(j:Int)=b:=congrArg Prod.snd e
  have:i=a:=by omega
  have:j=b:=by omega
  subst_vars
  exact g
 ·intro g
  exact ⟨i,j,hi,hj,rfl,g⟩
theorem row_up (st:Int) (vals:List Int) (i:Nat):∀ m,(tlRow st vals i m).Pairwise ltP
 | 0=>.nil
 | m + 1=>by
  rw [tlRow_succ,List.pairwise_append]
  refine ⟨row_up st vals i m,?_,fun p hp q hq=>?_⟩
  ·unfold tlI
   split
   ·exact List.pairwise_singleton _ _
   ·exact .nil
  ·obtain ⟨j,hj,rfl,_⟩:=mem_tlRow.mp hp
   obtain ⟨rfl,_⟩:=mem_tlI.mp hq
   exact ltP_of (.inr ⟨rfl,by show (j:Int) < m;omega⟩)
theorem all_up (st:Int) (vals:List Int):∀ m,(tlAll st vals m).Pairwise ltP
 | 0=>.nil
 | m + 1=>by
  rw [tlAll_succ,List.pairwise_append]
  refine ⟨all_up st vals m,row_up st vals m _,fun p hp q hq=>?_⟩
  obtain ⟨i,j,hi,hj,rfl,_⟩:=mem_tlAll.mp hp
  obtain ⟨j',_,rfl,_⟩:=mem_tlRow.mp hq
  exact ltP_of (.inl (by show (i:Int) < m;omega))
theorem rising_of:∀ {ps:List (Int×Int)},ps.Pairwise ltP→risingB ps=true
 | [],_=>rfl
 | [_],_=>rfl
 | a::b::r,h=>by
  rw [risingB,rising_of (List.pairwise_cons.mp h).2,(List.pairwise_cons.mp h).1 b List.mem_cons_self]
  rfl
theorem row_len {st:Int} (hs:1≤st) {vals:List Int} {i:Nat}:∀ m,i < m→(tlRow st vals i m).length + 1≤m
 | 0,h=>by omega
 | m + 1,h=>by
  rw [tlRow_succ,List.length_append]
  by_cases e:i=m
  ·subst e
   have:tlI st vals i i=[]:=by
    unfold tlI
    rw [if_neg (by omega)]
   rw [this]
   have:=tlRow_len st vals i i
   simp only [List.length_nil]
   omega
  ·have a:=row_len (i:=i) hs (vals:=vals) m (by omega)
   have b:=tlI_len st vals i m
   omega
theorem all_len {st:Int} (hs:1≤st) {vals:List Int}:∀ m,m≤vals.length→(tlAll st vals m).length + m≤m * vals.length
 | 0,_=>by simp [tlAll]
 | m + 1,h=>by
  rw [tlAll_succ,List.length_append,Nat.succ_mul]
  have a:=all_len hs (vals:=vals) m (by omega)
  have b:=row_len hs (vals:=vals) (i:=m) vals.length (by omega)
  omega
theorem told_len {st:Int} (hs:1≤st) {vals:List Int} (h1:1≤vals.length) (h8:vals.length≤8):(toldL st vals).length < 64:=by
 have a:=all_len hs (vals:=vals) vals.length (Nat.le_refl _)
 have b:vals.length * vals.length≤8 * 8:=Nat.mul_le_mul h8 h8
 unfold toldL
 omega
theorem told_ord {st:Int} (hs:1≤st) {vals:List Int} (h1:1≤vals.length) (h8:vals.length≤8):Ord vals.length (toldL st vals) where
 lo:=h1
 hi:=h8
 ix:=fun p hp=>by
  obtain ⟨i,j,hi,hj,rfl,g⟩:=mem_tlAll.mp hp
  refine ⟨by show (0:Int)≤i;omega,by show (i:Int) < vals.length;omega,by show (0:Int)≤j;omega,by show (j:Int) < vals.length;omega,?_⟩
  intro e
  have e':(i:Int)=j:=e
  have:i=j:=by omega
  subst this
  omega
 up:=rising_of (all_up st vals _)
 sz:=by
  have:=told_len hs h1 h8
  omega
theorem sorted_one {α:Type} {lt:α→α→Prop} (as:∀ a b,lt a b→¬lt b a):∀ {l1 l2:List α},l1.Perm l2→l1.Pairwise lt→l2.Pairwise lt→l1=l2
 | [],l2,h,_,_=>(List.nil_perm.mp h).symm
 | a::t1,[],h,_,_=>by
  have:=h.length_eq
  simp at this
 | a::t1,b::t2,h,p1,p2=>by
  have e:a=b:=by
   apply Classical.byContradiction
   intro hne
   have ha:a∈t2:=by
    rcases List.mem_cons.mp (h.mem_iff.mp List.mem_cons_self) with g | g
    ·exact absurd g hne
    ·exact g
   have hb:b∈t1:=by
    rcases List.mem_cons.mp (h.mem_iff.mpr List.mem_cons_self) with g | g
    ·exact absurd g.symm hne
    ·exact g
   exact as a b ((List.pairwise_cons.mp p1).1 b hb) ((List.pairwise_cons.mp p2).1 a ha)
  subst e
  rw [sorted_one as (List.Perm.cons_inv h) (List.pairwise_cons.mp p1).2 (List.pairwise_cons.mp p2).2]
end
end My
namespace My
open PySem L2
section
variable {P:Program} {w:World} {K:PySem.W.Frag} {mg:Str→Option Value} {base:Heap} {t:Ad}
theorem filter_one {α:Type} (f:α→Bool) (x:α):[x].filter f=if f x=true then [x] else []:=by
 cases h:f x <;> simp [h]
theorem lt_asym (p q:Int×Int):ltP p q→¬ltP q p:=fun h1 h2=>by
 have h2':HT.lexLt [q.1,q.2] [p.1,p.2]=true:=h2
 rw [lex_asym h1] at h2'
 cases h2'
theorem pw_of:∀ {ps:List (Int×Int)},risingB ps=true→ps.Pairwise ltP
 | [],_=>.nil
 | [_],_=>List.pairwise_singleton _ _
 | a::b::r,h=>by
  rw [risingB,Bool.and_eq_true] at h
  have ih:=pw_of h.2
  refine List.pairwise_cons.mpr ⟨fun x hx=>?_,ih⟩
  rcases List.mem_cons.mp hx with rfl | hx
  ·exact h.1
  ·exact lex_tr h.1 ((List.pairwise_cons.mp ih).1 x hx)
theorem has_iff {ps:List (Int×Int)} {i j:Int}:has ps i j=true↔(i,j)∈ps:=by
 unfold has
 exact decide_eq_true_iff
theorem nd_of {ps:List (Int×Int)} (h:ps.Pairwise ltP):ps.Nodup:=by
 refine List.Pairwise.imp (fun {a b} hab z=>?_) h
 subst z
 exact lt_asym _ _ hab hab
theorem nat_len:∀ (m:Nat) (l:List Nat),l.Nodup→(∀ x∈l,x < m)→l.length≤m
 | 0,[],_,_=>Nat.le_refl _
 | 0,x::_,_,h=>absurd (h x List.mem_cons_self) (Nat.not_lt_zero _)
 | m + 1,l,nd,h=>by
  by_cases hm:m∈l
  ·have:=nat_len m (l.erase m) (nd.erase m) fun x hx=>by
    have:=(List.Nodup.mem_erase_iff nd).mp hx
    have:=h x this.2
    omega
   rw [List.length_erase_of_mem hm] at this
   omega
  ·have:=nat_len m l nd fun x hx=>by
    have h1:=h x hx
    have:x≠m:=fun z=>hm (z▸hx)
    omega
   omega
noncomputable def inBox (p:Int×Int):Prop:=0≤p.1∧p.1 < 8∧0≤p.2∧p.2 < 8∧p.1≠p.2
theorem small_prs {ps:List (Int×Int)} (nd:ps.Nodup) (h:∀ p∈ps,inBox p):ps.length < 64:=by
 have e:=nat_len 63 (ps.map fun p=>(8 * p.1 + p.2).toNat) (by
  unfold List.Nodup
  rw [List.pairwise_map]
  refine List.Pairwise.imp_of_mem (fun {a b} ha hb hab z=>hab ?_) nd
  obtain ⟨a1,a2,a3,a4,_⟩:=h a ha
  obtain ⟨b1,b2,b3,b4,_⟩:=h b hb
  have:8 * a.1 + a.2=8 * b.1 + b.2:=by omega
  exact Prod.ext (by omega) (by omega)) (fun x hx=>by
  obtain ⟨p,hp,rfl⟩:=List.mem_map.mp hx
  obtain ⟨a1,a2,a3,a4,_⟩:=h p hp
  show (8 * p.1 + p.2).toNat < 63
  omega)
 rw [List.length_map] at e
 omega
noncomputable def inN (n:Nat) (p:Int×Int):Prop:=0≤p.1∧p.1 < n∧0≤p.2∧p.2 < n∧p.1≠p.2
theorem inN.box {n:Nat} (h8:n≤8) {p:Int×Int} (h:inN n p):inBox p:=by
 obtain ⟨a,b,c,d,e⟩:=h
 exact ⟨a,by omega,c,by omega,e⟩
theorem Ord.box {n:Nat} {ps:List (Int×Int)} (h:Ord n ps) {p:Int×Int} (hp:p∈ps):inBox p:=inN.box h.hi (h.ix p hp)
theorem Ord.small {n:Nat} {ps:List (Int×Int)} (h:Ord n ps):ps.length < 64:=small_prs (nd_of (pw_of h.up)) fun _ hp=>h.box hp
theorem Ord.in {n:Nat} {ps:List (Int×Int)} (h:Ord n ps) {i j:Int} (g:has ps i j=true):inN n (i,j):=h.ix _ (has_iff.mp g)
noncomputable def gI (f:Nat→Nat→Bool) (i j:Nat):List (Int×Int):=if f i j=true then [((i:Int),(j:Int))] else []
noncomputable def gRow (f:Nat→Nat→Bool) (i m:Nat):List (Int×Int):=(List.range m).flatMap (gI f i)
noncomputable def gAll (f:Nat→Nat→Bool) (n m:Nat):List (Int×Int):=(List.range m).flatMap fun i=>gRow f i n
theorem gRow_succ (f:Nat→Nat→Bool) (i m:Nat):gRow f i (m + 1)=gRow f i m++gI f i m:=by
 unfold gRow
 rw [List.range_succ,List.flatMap_append]
 simp
theorem gAll_succ (f:Nat→Nat→Bool) (n m:Nat):gAll f n (m + 1)=gAll f n m++gRow f m n:=by
 unfold gAll
 rw [List.range_succ,List.flatMap_append]
 simp
theorem mem_gI {f:Nat→Nat→Bool} {i j:Nat} {p:Int×Int}:p∈gI f i j↔p=((i:Int),(j:Int))∧f i j=true:=by
 unfold gI
 split
 ·rename_i h
  rw [List.mem_singleton]
  exact ⟨fun e=>⟨e,h⟩,fun e=>e.1⟩
 ·rename_i h
  exact ⟨fun e=>(nomatch e),fun e=>absurd e.2 h⟩
theorem mem_gRow {f:Nat→Nat→Bool} {i m:Nat} {p:Int×Int}:p∈gRow f i m↔∃ j,j < m∧p=((i:Int),(j:Int))∧f i j=true:=by
 unfold gRow
 rw [List.mem_flatMap]
 constructor
 ·rintro ⟨j,hj,h⟩
  exact ⟨j,List.mem_range.mp hj,mem_gI.mp h⟩
 ·rintro ⟨j,hj,h⟩
  exact ⟨j,List.mem_range.mpr hj,mem_gI.mpr h⟩
theorem mem_gAll {f:Nat→Nat→Bool} {n m:Nat} {p:Int×Int}:p∈gAll f n m↔∃ i j,i < m∧j < n∧p=((i:Int),(j:Int))∧f i j=true:=by
 unfold gAll
 rw [List.mem_flatMap]
 constructor
 ·rintro ⟨i,hi,h⟩
  obtain ⟨j,hj,e,g⟩:=mem_gRow.mp h
  exact ⟨i,j,List.mem_range.mp hi,hj,e,g⟩
 ·rintro ⟨i,j,hi,hj,e,g⟩
  exact ⟨i,List.mem_range.mpr hi,mem_gRow.mpr ⟨j,hj,e,g⟩⟩
theorem gI_len (f:Nat→Nat→Bool) (i j:Nat):(gI f i j).length≤1:=by
 unfold gI
 split
 ·exact Nat.le_refl _
 ·exact Nat.zero_le _
theorem gRow_len (f:Nat→Nat→Bool) (i:Nat):∀ m,(gRow f i m).length≤m
 | 0=>Nat.le_refl _
 | m + 1=>by
  rw [gRow_succ,List.length_append]
  have:=gRow_len f i m
  have:=gI_len f i m
  omega
theorem gAll_len (f:Nat→Nat→Bool) (n:Nat):∀ m,(gAll f n m).length≤m * n
 | 0=>Nat.zero_le _
 | m + 1=>by
  rw [gAll_succ,List.length_append,Nat.succ_mul]
  have:=gAll_len f n m
  have:=gRow_len f m n
  omega
end
end My
namespace My
open PySem L2
section
variable {P:Program} {w:World} {K:PySem.W.Frag} {mg:Str→Option Value} {base:Heap} {t:Ad}
noncomputable def Brd (n:Nat) (ps:List (Int×Int)):Prop:=(∃ a b c d,bar2B ps a b c d=true)∨∃ a b c d:Int,0≤d∧d < n∧bar3B ps a b c d=true
theorem brd_iff {n:Nat} {ps:List (Int×Int)} (ho:Ord n ps):barB n ps=true↔Brd n ps:=by
 unfold barB Brd
 rw [Bool.or_eq_true]
 refine or_congr ?_ ?_
 ·unfold bar2L
  rw [List.any_eq_true]
  constructor
  ·rintro ⟨p,_,h⟩
   obtain ⟨q,_,h⟩:=List.any_eq_true.mp h
   exact ⟨_,_,_,_,h⟩
  ·rintro ⟨a,b,c,d,h⟩
   have h':=h
   unfold bar2B at h'
   rw [Bool.and_eq_true,Bool.and_eq_true] at h'
   exact ⟨(a,b),has_iff.mp h'.1.1,List.any_eq_true.mpr ⟨(c,d),has_iff.mp h'.1.2,h⟩⟩
 ·unfold bar3L
  rw [List.any_eq_true]
  constructor
  ·rintro ⟨p,_,h⟩
   obtain ⟨c,_,h⟩:=List.any_eq_true.mp h
   obtain ⟨d,hd,h⟩:=List.any_eq_true.mp h
   have:=List.mem_range.mp hd
   exact ⟨_,_,_,_,by omega,by omega,h⟩
  ·rintro ⟨a,b,c,d,h0,h1,h⟩
   have h':=h
   unfold bar3B at h'
   rw [Bool.and_eq_true,Bool.and_eq_true] at h'
   obtain ⟨_,_,c0,c1,_⟩:=ho.in h'.1.2
   have c0:0≤c:=c0
   have c1:c < n:=c1
   refine ⟨(a,b),has_iff.mp h'.1.1,List.any_eq_true.mpr ⟨c.toNat,List.mem_range.mpr (by omega),List.any_eq_true.mpr ⟨d.toNat,List.mem_range.mpr (by omega),?_⟩⟩⟩
   rw [Int.toNat_of_nonneg c0,Int.toNat_of_nonneg h0]
   exact h
end
end My
namespace My
open PySem L2
section
variable {P:Program} {w:World} {K:PySem.W.Frag} {mg:Str→Option Value} {base:Heap} {t:Ad}
set_option genSizeOf false in
set_option genInjectivity false in
inductive sp_cell (K:PySem.W.Frag) (vs:List V) (H:Hp) (Q:VK) (zz3:XK):Prop where
 | mk (a ns k:_) (zh0:vs=[.ref a,.int k]) (zh1:Scr K H a ns) (zh2:0≤k) (zh3:∀ c H',Same H H'→Q (.int c) H'):sp_cell K vs H Q zz3
theorem int_at {ns:List Int} {k:Int} (h0:0≤k) (h1:k < ns.length):atI (ns.map V.int) k=some (.int (ns.getD k.toNat 0)):=by
 refine atI_of (i:=k.toNat) (by omega) ?_
 rw [List.getElem?_map]
 have:k.toNat < ns.length:=by omega
 simp [this]
theorem ok__law_cell_at (T:Txt K mg t):FnOk P w K mg base CX0 1 t.a__law_cell_at t.d__law_cell_at ["_law_script","_law_k"] (sp_cell K):=by
 refine T.F__law_cell_at.ok sc__law_cell_at (fun vs H Q E h=>?_) (fun cdv A outer s H vs Q E hr h=>?_)
 ·obtain ⟨a,ns,k,rfl,_⟩:=h
  rfl
 ·obtain ⟨a,ns,k,rfl,hs,hk,q⟩:=h
  refine ⟨_,(pss_cons (ps_if (pt_cmpR (op_lt) (pv 1) (pe_callB (k_len K) (by rfl) T.n_len bt_len (pa_cons (pv 0) pa_nil)) (nomark _)) (pss_one (ps_ret (pe_ix (k_ix K) (pv 0) (pv 1) (fun _ _=>rfl)))) pss_nil)
   (pss_cons (ps_if (pt_cmpR (k_eqNil K hr.units0) (pv 0) (pe_lst pa_nil) (nomark _)) (pss_one (ps_ret pe_int)) pss_nil)
   (pss_one (ps_ret (pe_op op_add (pe_op op_mul (pe_ix (k_ix K) (pv 0) (pe_op op_mod (pv 1) (pe_callB (k_len K) (by rfl) T.n_len bt_len (pa_cons (pv 0) pa_nil))) (fun _ _=>rfl)) pe_int) (pv 1)))))),?_⟩
  walk_at "rd"
  refine rd_lenS hs.sq ?_
  walk_at "rd"
  refine ifB (fun h1=>?_) (fun h1=>?_)
  ·have h1':=of_decide_eq_true h1
   rw [List.length_map] at h1'
   walk_at "rd"
   refine rd_ixS hs.sq (int_at hk h1') ?_
   exact q _ H (Same.refl H)
  ·walk_at "rd"
   refine ⟨Nat.zero_le _,fun p hp=>?_⟩
   have s1:=Same.upd (o:=.lst []) hp
   walk_at "rd"
   refine ⟨a,p,ns,rfl,rfl,(hs.same s1).sq,SqL.of upd_same,?_⟩
   walk_at "rd"
   refine ifB (fun h2=>?_) (fun h2=>?_)
   ·walk_at "rd"
    exact q _ _ s1
   ·have h2':=of_decide_eq_false h2
    have hl:0 < ns.length:=List.length_pos_iff.mpr h2'
    walk_at "rd"
    refine rd_lenS (hs.same s1).sq ?_
    rw [List.length_map]
    refine rd_I (by omega) ?_
    refine rd_ixS (hs.same s1).sq (int_at (Int.emod_nonneg _ (by omega)) (Int.emod_lt_of_pos _ (by omega))) ?_
    walk_at "rd"
    refine rd_I (.inr ⟨by decide,by decide⟩) ?_
    walk_at "rd"
    exact q _ _ s1
set_option genSizeOf false in
set_option genInjectivity false in
inductive sp_mixed (K:PySem.W.Frag) (vs:List V) (H:Hp) (Q:VK) (zz3:XK):Prop where
 | mk (a ns k m:_) (zh0:vs=[.ref a,.int k,.int m]) (zh1:Scr K H a ns) (zh2:0≤k) (zh3:0 < m) (zh4:∀ r H',Same H H'→0≤r→r < m→Q (.int r) H'):sp_mixed K vs H Q zz3
theorem ok__law_mixed (T:Txt K mg t):FnOk P w K mg base CX0 2 t.a__law_mixed t.d__law_mixed ["_law_script","_law_k","_law_many"] (sp_mixed K):=by
 refine T.F__law_mixed.ok sc__law_mixed (fun vs H Q E h=>?_) (fun cdv A outer s H vs Q E hr h=>?_)
 ·obtain ⟨a,ns,k,m,rfl,_⟩:=h
  rfl
 ·obtain ⟨a,ns,k,m,rfl,hs,hk,hm,q⟩:=h
  refine ⟨_,(pss_cons (ps_set (i:=3) sc__law_mixed.nd rfl (Or.inl rfl) (pe_op op_mod (pe_op op_add (pe_op op_add (pe_op op_mul (pe_call (ok__law_cell_at T) (hr.mono (by decide)) rfl T.m__law_cell_at T.F__law_cell_at.kp T.b__law_cell_at .nil pass0 (pa_cons (pv 0) (pa_cons (pv 1) pa_nil))) pe_int) (pe_op op_mul pe_int (pv 1))) pe_int) pe_int))
   (pss_one (ps_ret (pe_op op_mod (pe_op op_mod (pe_op op_mod (pe_op op_pow (pv 3) pe_int) pe_int) pe_int) (pv 2))))),?_⟩
  walk_at "rd"
  refine ⟨a,ns,k,rfl,hs,hk,fun c H1 s1=>?_⟩
  walk_at "rd"
  refine rd_I (.inr ⟨by decide,by decide⟩) ?_
  walk_at "rd"
  refine rd_I (.inl ⟨by decide,by decide⟩) ?_
  walk_at "rd"
  refine rd_I (by decide) ?_
  walk_at "rd"
  have d0:=Int.emod_nonneg (c * 1103515245 + 7919 * k + 12345) (show (2147483647:Int)≠0 by decide)
  have d1:=Int.emod_lt_of_pos (c * 1103515245 + 7919 * k + 12345) (show (0:Int) < 2147483647 by decide)
  refine rd_I ⟨by decide,by decide,by omega⟩ ?_
  walk_at "rd"
  refine rd_I (by decide) ?_
  walk_at "rd"
  refine rd_I (by decide) ?_
  walk_at "rd"
  refine rd_I hm ?_
  exact q _ H1 s1 (Int.emod_nonneg _ (by omega)) (Int.emod_lt_of_pos _ hm)
set_option genSizeOf false in
set_option genInjectivity false in
inductive sp_draw (K:PySem.W.Frag) (vs:List V) (H:Hp) (Q:VK) (zz3:XK):Prop where
 | mk (a ns tw ts m:_) (zh0:vs=[.ref a,.ref tw,.int m]) (zh1:Scr K H a ns) (zh2:H tw=some (.lst ts)) (zh3:ts.length≤500) (zh4:0 < m) (zh5:∀ r H' ts',SameT tw H H'→H' tw=some (.lst ts')→ts'.length=ts.length + 1→0≤r→r < m→Q (.int r) H'):sp_draw K vs H Q zz3
theorem ok__law_draw (T:Txt K mg t):FnOk P w K mg base CX0 3 t.a__law_draw t.d__law_draw ["_law_script","_law_town","_law_many"] (sp_draw K):=by
 refine T.F__law_draw.ok sc__law_draw (fun vs H Q E h=>?_) (fun cdv A outer s H vs Q E hr h=>?_)
 ·obtain ⟨a,ns,tw,ts,m,rfl,_⟩:=h
  rfl
 ·obtain ⟨a,ns,tw,ts,m,rfl,hs,ht,hl,hm,q⟩:=h
  refine ⟨_,(pss_cons (ps_expr (k_bm K PySem.F.plainAttrs_list PySem.F.slot_list_append PySem.F.type_list_append mt_append (pv 1) (pa_cons pe_int pa_nil)))
   (pss_one (ps_ret (pe_call (ok__law_mixed T) (hr.mono (by decide)) rfl T.m__law_mixed T.F__law_mixed.kp T.b__law_mixed .nil pass0 (pa_cons (pv 0) (pa_cons (pe_callB (k_len K) (by rfl) T.n_len bt_len (pa_cons (pv 1) pa_nil)) (pa_cons (pv 2) pa_nil))))))),?_⟩
  walk_at "rd"
  refine ⟨tyV_lst ht,?_⟩
  walk_at "rd"
  refine rd_append ht (small1000 (by omega)) ?_
  have s1:SameT tw H (upd H tw (.lst (ts++[V.int 0]))):=fun b u e g=>by rw [upd_ne g];exact e
  have ht1:upd H tw (.lst (ts++[V.int 0])) tw=some (.lst (ts++[V.int 0])):=upd_same
  walk_at "rd"
  refine ⟨a,ns,_,m,rfl,hs.t ht s1,by omega,hm,fun r H2 s2 h0 h1=>?_⟩
  exact q r H2 _ (s1.trans s2.t) (s2 _ _ ht1) (by simp) h0 h1
set_option genSizeOf false in
set_option genInjectivity false in
inductive sp_pick (K:PySem.W.Frag) (vs:List V) (H:Hp) (Q:VK) (zz3:XK):Prop where
 | mk (a ns tw ts l xs:_) (zh0:vs=[.ref a,.ref tw,.ref l]) (zh1:Scr K H a ns) (zh2:H tw=some (.lst ts)) (zh3:ts.length≤500) (zh4:H l=some (.lst xs)) (zh5:l≠tw) (zh6:0 < xs.length) (zh7:∀ v H' ts',SameT tw H H'→H' tw=some (.lst ts')→ts'.length=ts.length + 1→v∈xs→Q v H'):sp_pick K vs H Q zz3
theorem ok__law_pick (T:Txt K mg t):FnOk P w K mg base CX0 4 t.a__law_pick t.d__law_pick ["_law_script","_law_town","_law_some"] (sp_pick K):=by
 refine T.F__law_pick.ok sc__law_pick (fun vs H Q E h=>?_) (fun cdv A outer s H vs Q E hr h=>?_)
 ·obtain ⟨a,ns,tw,ts,l,xs,rfl,_⟩:=h
  rfl
 ·obtain ⟨a,ns,tw,ts,l,xs,rfl,hs,ht,hl,el,nl,hx,q⟩:=h
  refine ⟨_,(pss_one (ps_ret (pe_ix (k_ix K) (pv 2) (pe_call (ok__law_draw T) (hr.mono (by decide)) rfl T.m__law_draw T.F__law_draw.kp T.b__law_draw .nil pass0 (pa_cons (pv 0) (pa_cons (pv 1) (pa_cons (pe_callB (k_len K) (by rfl) T.n_len bt_len (pa_cons (pv 2) pa_nil)) pa_nil)))) (fun _ _=>rfl)))),?_⟩
  walk_at "rd"
  refine ⟨a,ns,tw,ts,_,rfl,hs,ht,hl,by omega,fun r H1 ts' s1 ht1 hl1 h0 h1=>?_⟩
  have hr':r.toNat < xs.length:=by omega
  refine rd_ixL (s1 _ _ el nl) (atI_of (i:=r.toNat) (by omega) (List.getElem?_eq_getElem hr')) ?_
  exact q _ H1 ts' s1 ht1 hl1 (List.getElem_mem hr')
end
end My
namespace My
open PySem L2
section
variable {P:Program} {w:World} {K:PySem.W.Frag} {mg:Str→Option Value} {base:Heap} {t:Ad}
theorem SameT.of {w:Addr} {H:Hp} {l:Addr} {o:HO} (h:H l=none):SameT w H (upd H l o):=(Same.upd h).t
theorem told_nss (ps:List (Int×Int)):(ps.map fun p=>[p.1,p.2]).map (tupOf [])=ps.map prD:=by
 rw [List.map_map]
 rfl
set_option genSizeOf false in
set_option genInjectivity false in
inductive sp_free (K:PySem.W.Frag) (vs:List V) (H:Hp) (Q:VK) (zz3:XK):Prop where
 | mk (a ns tw ts lo hi:_) (zh0:vs=[.ref a,.ref tw,.int lo,.int hi]) (zh1:1≤lo) (zh2:lo≤hi) (zh3:hi≤8) (zh4:Scr K H a ns) (zh5:H tw=some (.lst ts)) (zh6:ts.length≤100) (zh7:∀ x H' st line ts',SameT tw H H'→H' tw=some (.lst ts')→ts'.length≤ts.length + 11→1≤st→st≤5→lo≤line.length→line.length≤hi→1≤line.length→line.length≤8→(∀ v∈line,0≤v∧v≤19)→Is H' x (ordD line.length (toldL st line))→Q x H'):sp_free K vs H Q zz3
theorem ok__law_free (T:Txt K mg t):FnOk P w K mg base CX0 5 t.a__law_free t.d__law_free ["_law_script","_law_town","_law_low","_law_most"] (sp_free K):=by
 refine T.F__law_free.ok sc__law_free (fun vs H Q E h=>?_) (fun cdv A outer s H vs Q E hr h=>?_)
 ·obtain ⟨a,ns,tw,ts,lo,hi,rfl,_⟩:=h
  rfl
 ·obtain ⟨a,ns,tw,ts,lo,hi,rfl,lo1,lohi,hi8,hs,ht,hl,q⟩:=h
  refine ⟨_,(pss_cons (ps_set (i:=4) sc__law_free.nd rfl (Or.inr rfl) (pe_op op_add pe_int (pe_call (ok__law_draw T) (hr.mono (by decide)) rfl T.m__law_draw T.F__law_draw.kp T.b__law_draw .nil pass0 (pa_cons (pv 0) (pa_cons (pv 1) (pa_cons pe_int pa_nil))))))
   (pss_cons (ps_set (i:=5) sc__law_free.nd rfl (Or.inr rfl) (pe_call (ok__law_pick T) (hr.mono (by decide)) rfl T.m__law_pick T.F__law_pick.kp T.b__law_pick .nil pass0 (pa_cons (pv 0) (pa_cons (pv 1) (pa_cons (pe_lst (pa_cons pe_int (pa_cons pe_int (pa_cons pe_int (pa_cons pe_int (pa_cons pe_int pa_nil)))))) pa_nil)))))
   (pss_cons (ps_set (i:=6) sc__law_free.nd rfl (Or.inl rfl) (pe_op op_add (pv 2) (pe_call (ok__law_draw T) (hr.mono (by decide)) rfl T.m__law_draw T.F__law_draw.kp T.b__law_draw .nil pass0 (pa_cons (pv 0) (pa_cons (pv 1) (pa_cons (pe_op op_add (pe_op op_sub (pv 3) (pv 2)) pe_int) pa_nil))))))
   (pss_cons (ps_set (i:=7) sc__law_free.nd rfl (Or.inr rfl) (pe_lc rfl ⟨True.intro,True.intro,True.intro,(.inl rfl),(.inl rfl),(.inl rfl),True.intro⟩ (M:=["_law_k","_law_script","_law_town","_law_wide"]) (.own (.free 0 rfl rfl (.free 1 rfl rfl (.free 5 rfl rfl .nil)))) (gk_name rfl) rfl (by decide +kernel) (pi_range1 rfl T.n_range (pa_cons (pv 6) pa_nil)) (fun C fp s1 H1=>⟨pg_name (i:=0) (show (["_law_k","_law_script","_law_town","_law_wide"]:List Str).Nodup by decide +kernel) rfl (Or.inl rfl),pif_nil,(pe_call (ok__law_draw T) (hr.mono (by decide)) rfl T.m__law_draw T.F__law_draw.kp T.b__law_draw .nil pass0 (pa_cons (pv 1) (pa_cons (pv 2) (pa_cons (pv 3) pa_nil))))⟩)))
   (pss_cons (ps_set (i:=8) sc__law_free.nd rfl (Or.inl rfl) (pe_lst pa_nil))
   (pss_cons (ps_for PassesOwn.never rfl (pi_range1 rfl T.n_range (pa_cons (pv 6) pa_nil)) (pg_name (i:=9) sc__law_free.nd rfl (Or.inr rfl)) (pss_one (ps_expr (k_bm K PySem.F.plainAttrs_list PySem.F.slot_list_extend PySem.F.type_list_extend mt_extend (pv 8) (pa_cons (pe_lc rfl ⟨True.intro,True.intro,(.inl rfl),(.inl rfl),(.inl rfl),True.intro⟩ (M:=["_law_other","_law_line_up","_law_one","_law_step"]) (.own (.free 7 rfl rfl (.free 9 rfl rfl (.free 4 rfl rfl .nil)))) (gk_name rfl) rfl (by decide +kernel) (pi_range1 rfl T.n_range (pa_cons (pv 6) pa_nil)) (fun C fp s1 H1=>⟨pg_name (i:=0) (show (["_law_other","_law_line_up","_law_one","_law_step"]:List Str).Nodup by decide +kernel) rfl (Or.inl rfl),pif_one (pt_cmpR (op_ge) (pe_op op_sub (pe_ix (k_ix K) (pv 1) (pv 0) (fun _ _=>rfl)) (pe_ix (k_ix K) (pv 1) (pv 2) (fun _ _=>rfl))) (pv 3) (nomark _)),(pe_tup (pa_cons (pv 2) (pa_cons (pv 0) pa_nil)))⟩)) pa_nil)))))
   (pss_one (ps_ret (pe_tup (pa_cons (pv 6) (pa_cons (pe_callTy (k_tuple K) (by rfl) T.n_tuple bt_tuple (pa_cons (pe_callB (k_sorted K) (by rfl) T.n_sorted bt_sorted (pa_cons (pv 8) pa_nil)) pa_nil)) pa_nil))))))))))),?_⟩
  walk_at "rd"
  refine ⟨a,ns,tw,ts,5,rfl,hs,ht,by omega,by decide,fun r1 H1 ts1 s1 ht1 hl1 r10 r11=>?_⟩
  have hs1:=hs.t ht s1
  walk_at "rd"
  refine ⟨by show 5≤sizeLine;decide,fun l hl'=>?_⟩
  have ntl:l≠tw:=fun z=>by rw [z,ht1] at hl';cases hl'
  have s2:SameT tw H1 (upd H1 l (.lst [V.int 3,V.int 6,V.int 9,V.int 14,V.int 20])):=SameT.of hl'
  walk_at "rd"
  refine ⟨a,ns,tw,ts1,l,_,rfl,hs1.t ht1 s2,by rw [upd_ne (Ne.symm ntl)];exact ht1,by omega,upd_same,ntl,by decide,fun v H2 ts2 s3 ht2 hl2 hv=>?_⟩
  obtain ⟨wd,rfl,wd3,wd20⟩:∃ wd:Int,v=.int wd∧3≤wd∧wd≤20:=by
   simp only [List.mem_cons,List.not_mem_nil,or_false] at hv
   rcases hv with rfl | rfl | rfl | rfl | rfl <;> exact ⟨_,rfl,by decide,by decide⟩
  have s12:SameT tw H H2:=(s1.trans s2).trans s3
  have hs2:=hs.t ht s12
  walk_at "rd"
  refine ⟨a,ns,tw,ts2,hi - lo + 1,rfl,hs2,ht2,by omega,by omega,fun r3 H3 ts3 s4 ht3 hl3 r30 r31=>?_⟩
  have s13:=s12.trans s4
  have hs3:=hs.t ht s13
  obtain ⟨n,hn⟩:∃ n:Nat,lo + r3=(n:Int):=⟨(lo + r3).toNat,by omega⟩
  have n1:1≤n:=by omega
  have n8:n≤8:=by omega
  walk_at "rd"
  rw [hn]
  refine ⟨_,rfl,by omega,by omega,?_⟩
  rw [Int.toNat_natCast]
  refine lp_range (small_ln (by omega)) (fun i ys H'=>SameT tw H H'∧(∃ ts',H' tw=some (.lst ts')∧ts'.length=ts.length + 3 + i)∧∃ line:List Int,ys=line.map V.int∧line.length=i∧∀ v∈line,0≤v∧v≤19)
   ⟨s13,⟨ts3,ht3,by omega⟩,[],rfl,rfl,fun _ h=>nomatch h⟩ (by rintro i ys H' ⟨_,_,line,rfl,rfl,_⟩;simp) ?_ ?_
  ·rintro i ys H4 hi ⟨s5,⟨ts4,ht4,hl4⟩,line,rfl,hli,hlv⟩
   walk_at "rd"
   refine ⟨a,ns,tw,ts4,wd,rfl,hs.t ht s5,ht4,by omega,by omega,fun r H5 ts5 s6 ht5 hl5 r0 r1'=>?_⟩
   refine ⟨s5.trans s6,⟨ts5,ht5,by omega⟩,line++[r],by rw [List.map_append];rfl,by rw [List.length_append,hli];rfl,fun v hv=>?_⟩
   rcases List.mem_append.mp hv with h | h
   ·exact hlv v h
   ·rcases List.mem_singleton.mp h with rfl
    omega
  ·rintro ys H4 ⟨s5,⟨ts4,ht4,hl4⟩,line,rfl,hli,hlv⟩ lu hlu
   subst hli
   have ntu:lu≠tw:=fun z=>by rw [z,ht4] at hlu;cases hlu
   have s6:SameT tw H (upd H4 lu (.lst (line.map V.int))):=s5.trans (SameT.of hlu)
   walk_at "rd"
   refine ⟨Nat.zero_le _,fun pl hpl=>?_⟩
   have ntp:pl≠tw:=fun z=>by
    rw [z,upd_ne (Ne.symm ntu),ht4] at hpl
    cases hpl
   have nup:lu≠pl:=fun z=>by
    rw [←z,upd_same] at hpl
    cases hpl
   have npH:H pl=none:=by
    cases e:H pl with
    | none=>rfl
    | some u=>rw [s6 _ _ e ntp] at hpl;cases hpl
   walk_at "rd"
   refine ⟨_,rfl,by omega,by omega,?_⟩
   rw [Int.toNat_natCast]
   refine fp_range (fun i σ H'=>(∃ v9,σ=[some (.ref a),some (.ref tw),some (.int lo),some (.int hi),some (.int (1 + r1)),some (.int wd),some (.int line.length),some (.ref lu),some (.ref pl),v9])∧SameT tw H H'∧H' tw=some (.lst ts4)∧H' lu=some (.lst (line.map V.int))∧∃ zs,H' pl=some (.lst zs)∧IsAll H' zs ((tlAll (1 + r1) line i).map prD))
    ⟨⟨_,rfl⟩,s6.trans (SameT.of hpl),by rw [upd_ne (Ne.symm ntp),upd_ne (Ne.symm ntu)];exact ht4,by rw [upd_ne nup,upd_same],[],upd_same,.nil⟩ ?_ ?_
   ·rintro i σ H5 hi ⟨⟨v9,rfl⟩,s7,ht5,hlu5,zs,hz,iz⟩
    walk_at "rd"
    refine ⟨tyV_lst hz,?_⟩
    walk_at "rd"
    refine ⟨_,rfl,by omega,by omega,?_⟩
    rw [Int.toNat_natCast]
    refine lp_range (small_ln (by omega)) (fun j ys H'=>Same H5 H'∧IsAll H' ys ((tlRow (1 + r1) line i j).map prD)) ⟨Same.refl _,.nil⟩ (by
     rintro j ys H' ⟨_,h⟩
     rw [h.length,List.length_map]
     exact tlRow_len _ _ _ _) ?_ ?_
    ·rintro j ys H6 hj ⟨s8,iy⟩
     have hlu6:=s8 _ _ hlu5
     rw [tlRow_succ,List.map_append]
     walk_at "rd"
     refine rd_ixL hlu6 (int_at (by omega) (by omega)) ?_
     walk_at "rd"
     refine rd_ixL hlu6 (int_at (by omega) (by omega)) ?_
     rw [Int.zero_add,Int.zero_add,Int.toNat_natCast,Int.toNat_natCast]
     walk_at "rd"
     refine ifB (fun g=>?_) (fun g=>?_)
     ·have g':line.getD j 0 - line.getD i 0≥1 + r1:=of_decide_eq_true g
      walk_at "rd"
      refine ⟨two_ln,fun p hp=>?_⟩
      have s9:=Same.upd (o:=.tup [V.int i,V.int j]) hp
      have e1:tlI (1 + r1) line i j=[((i:Int),(j:Int))]:=by unfold tlI;rw [if_pos g']
      rw [e1]
      refine ⟨s8.trans s9,(iy.same s9).append (.cons (.tup upd_same (.cons (.int _) (.cons (.int _) .nil))) .nil)⟩
     ·have g':¬line.getD j 0 - line.getD i 0≥1 + r1:=of_decide_eq_false g
      have e1:tlI (1 + r1) line i j=[]:=by unfold tlI;rw [if_neg g']
      rw [e1,List.map_nil,List.append_nil]
      walk_at "rd"
      exact ⟨s8,iy⟩
    ·rintro ys H6 ⟨s8,iy⟩ b hb
     have s9:=s8.trans (Same.upd (o:=.lst ys) hb)
     have npb:pl≠b:=ne_of_none (s8 _ _ hz) hb
     have lz:zs.length + ys.length≤1000:=by
      have a1:=iz.length
      have a2:=iy.length
      rw [List.length_map] at a1 a2
      have a3:=tlAll_len (1 + r1) line i
      have a4:=tlRow_len (1 + r1) line i line.length
      have a5:i * line.length≤8 * 8:=Nat.mul_le_mul (by omega) n8
      omega
     walk_at "rd"
     refine rd_extend (s9 _ _ hz) upd_same (small_ln lz) ?_
     walk_at "rd"
     refine ⟨⟨_,rfl⟩,fun c u e g=>?_,?_,?_,_,upd_same,?_⟩
     ·have ec:c≠pl:=fun z=>by rw [z,npH] at e;cases e
      rw [upd_ne ec]
      exact s9 _ _ (s7 _ _ e g)
     ·rw [upd_ne (Ne.symm ntp)]
      exact s9 _ _ ht5
     ·rw [upd_ne nup]
      exact s9 _ _ hlu5
     ·rw [tlAll_succ,List.map_append]
      have km:∀ (c:Addr) (xs:List V),upd H6 b (.lst ys) c=some (.tup xs)→upd (upd H6 b (.lst ys)) pl (.lst (zs++ys)) c=some (.tup xs):=fun c xs e=>by
       have:c≠pl:=ne_of e (s9 _ _ hz) (by intro z;cases z)
       rw [upd_ne this]
       exact e
      refine IsAll.append ((iz.same s9).tmono km (noLs_pr _)) ((iy.same (Same.upd hb)).tmono km (noLs_pr _))
   ·rintro σ H5 ⟨⟨v9,rfl⟩,s7,ht5,hlu5,zs,hz,iz⟩
    have st1:1≤1 + r1:=by omega
    have hpw:=all_up (1 + r1) line line.length
    walk_at "rd"
    refine ⟨pl,zs,[],(toldL (1 + r1) line).map fun p=>[p.1,p.2],2,rfl,.inl (SqL.of hz),by rw [told_nss];exact iz,?_,by decide,?_,by rw [List.length_map];exact told_len st1 n1 n8,fun l2 vs' nss' hl2 hall hperm hpw'=>?_⟩
    ·intro ns hm
     obtain ⟨p,_,rfl⟩:=List.mem_map.mp hm
     rfl
    ·rw [List.nodup_iff_pairwise_ne,List.pairwise_map]
     refine hpw.imp fun {p q} h e=>?_
     have h':HT.lexLt [p.1,p.2] [q.1,q.2]=true:=h
     rw [e,lex_irr] at h'
     cases h'
    have en:nss'=(toldL (1 + r1) line).map fun p=>[p.1,p.2]:=by
     refine sorted_one (lt:=fun a b=>HT.lexLt a b=true) (fun x y h1 h2=>?_) hperm hpw' ?_
     ·rw [lex_asym h1] at h2
      cases h2
     ·rw [List.pairwise_map]
      exact hpw
    rw [en,told_nss] at hall
    have s8:=Same.upd (o:=.lst vs') hl2
    have hvl:upd H5 l2 (.lst vs') l2=some (.lst vs'):=upd_same
    walk_at "rd"
    intro p hp
    have s9:=s8.trans (Same.upd (o:=.tup vs') hp)
    walk_at "rd"
    refine ⟨by show 2≤sizeLine;decide,fun o ho=>?_⟩
    have s10:=s9.trans (Same.upd (o:=.tup [V.int line.length,V.ref p]) ho)
    refine q _ _ (1 + r1) line ts4 (s7.trans s10.t) (s10 _ _ ht5) (by omega) (by omega) (by omega) (by omega) (by omega) n1 n8 hlv ?_
    have npo:p≠o:=ne_of_none upd_same ho
    exact .tup upd_same (.cons (.int _) (.cons (.tup (by rw [upd_ne npo,upd_same]) (hall.same s10)) .nil))
end
end My
namespace My
open PySem L2
noncomputable abbrev gt (l:List Int) (v:Nat):Int:=l.getD v 0
noncomputable def Rl (s0:Int) (line:List Int) (i j:Nat):Prop:=gt line j - gt line i≥s0
theorem line_con (s0:Int) (line:List Int):Nt.Con line.length (Rl s0 line) s0 (gt line):=fun i j _ _=>Iff.rfl
section
variable {s0:Int} {line:List Int}
theorem no_bar:barB line.length (toldL s0 line)=false:=by
 have hasR:∀ i j:Nat,i < line.length→j < line.length→(has (toldL s0 line) i j=true↔Rl s0 line i j):=fun i j hi hj=>by
  rw [has_told hi hj]
  exact decide_eq_true_iff
 have hc:=line_con s0 line
 unfold barB
 rw [Bool.or_eq_false_iff]
 constructor
 ·unfold bar2L
  cases e:(toldL s0 line).any fun p=>(toldL s0 line).any fun q=>bar2B (toldL s0 line) p.1 p.2 q.1 q.2 with
  | false=>rfl
  | true=>
   exfalso
   obtain ⟨p,hp,e⟩:=List.any_eq_true.mp e
   obtain ⟨q,hq,e⟩:=List.any_eq_true.mp e
   obtain ⟨a,b,ha,hb,rfl,_⟩:=mem_tlAll.mp hp
   obtain ⟨c,d,hc',hd,rfl,_⟩:=mem_tlAll.mp hq
   unfold bar2B at e
   simp only [Bool.and_eq_true,Bool.not_eq_true'] at e
   obtain ⟨⟨e1,e2⟩,e3,e4⟩:=e
   exact Nt.no_two hc ha hb hc' hd ((hasR _ _ ha hb).mp e1) ((hasR _ _ hc' hd).mp e2) (fun z=>by rw [(hasR _ _ ha hd).mpr z] at e3;cases e3) (fun z=>by rw [(hasR _ _ hc' hb).mpr z] at e4;cases e4)
 ·unfold bar3L
  cases e:(toldL s0 line).any fun p=>(List.range line.length).any fun c=>(List.range line.length).any fun d=>bar3B (toldL s0 line) p.1 p.2 c d with
  | false=>rfl
  | true=>
   exfalso
   obtain ⟨p,hp,e⟩:=List.any_eq_true.mp e
   obtain ⟨c,hc',e⟩:=List.any_eq_true.mp e
   obtain ⟨d,hd,e⟩:=List.any_eq_true.mp e
   obtain ⟨a,b,ha,hb,rfl,_⟩:=mem_tlAll.mp hp
   have hc':=List.mem_range.mp hc'
   have hd:=List.mem_range.mp hd
   unfold bar3B at e
   simp only [Bool.and_eq_true,Bool.not_eq_true'] at e
   obtain ⟨⟨e1,e2⟩,e3,e4⟩:=e
   exact Nt.no_three hc ha hb hc' hd ((hasR _ _ ha hb).mp e1) ((hasR _ _ hb hc').mp e2) (fun z=>by rw [(hasR _ _ ha hd).mpr z] at e3;cases e3) (fun z=>by rw [(hasR _ _ hd hc').mpr z] at e4;cases e4)
end
end My
namespace My
open PySem L2
end My
namespace My
open PySem L2
noncomputable def Al (H:Hp) (y:V) (ps:List (Int×Int)):Prop:=Is H y (.tuple (ps.map prD))∨Is H y (.list (ps.map prD))
theorem Al.same {H H':Hp} {y:V} {ps:List (Int×Int)} (h:Al H y ps) (s:Same H H'):Al H' y ps:=h.imp (Is.same s) (Is.same s)
theorem rd_inA {H:Hp} {Q:VK} {p:Addr} {y:V} {i j:Int} {ps:List (Int×Int)} (e:H p=some (.tup [.int i,.int j])) (hy:Al H y ps) (h:Q (.bl (has ps i j)) H):rInD false (.ref p) y H Q:=by
 refine ⟨prD (i,j),ps.map prD,.tup e (.cons (.int i) (.cons (.int j) .nil)),hy,ok_pr _,ok_prs _,?_⟩
 rw [inD_pr]
 exact h
noncomputable def Tps (H:Hp) (vs:List V) (L:List (List Int)):Prop:=IsAll H vs (L.map (tupOf []))
theorem noL_tps:∀ L:List (List Int),noLs (L.map (tupOf []))=true
 | []=>rfl
 | p::L=>by
  have h:∀ q:List Int,noLs (q.map PyData.int)=true:=fun q=>by
   induction q with
   | nil=>rfl
   | cons a q ih=>rw [List.map_cons,noLs,ih];rfl
  rw [List.map_cons,noLs,noL_tps L]
  show (noLs (p.map PyData.int)&&true)=true
  rw [h]
  rfl
theorem Tps.same {H H':Hp} {vs:List V} {L:List (List Int)} (h:Tps H vs L) (s:Same H H'):Tps H' vs L:=IsAll.same s h
theorem Tps.t {H H':Hp} {r:Addr} {vs zs:List V} {L:List (List Int)} (h:Tps H vs L) (hr:H r=some (.lst zs)) (s:SameT r H H'):Tps H' vs L:=
 IsAll.tmono (fun c us e=>s _ _ e (ne_of e hr (by intro z;cases z))) (noL_tps L) h
theorem Tps.len {H:Hp} {vs:List V} {L:List (List Int)} (h:Tps H vs L):vs.length=L.length:=by
 have:=IsAll.length h
 rw [List.length_map] at this
 exact this
theorem tup_ints {H:Hp} {x:V} {p:List Int} (h:Is H x (tupOf [] p)):∃ a,x=.ref a∧H a=some (.tup (p.map V.int)):=by
 unfold tupOf at h
 cases h with
 | tup e hxs=>
  have:=hxs.preInts
  subst this
  exact ⟨_,rfl,e⟩
theorem is_tup {H:Hp} {a:Addr} {p:List Int} (e:H a=some (.tup (p.map V.int))):Is H (.ref a) (tupOf [] p):=.tup e (IsAll.ints p)
theorem Tps.at {H:Hp} {vs:List V} {L:List (List Int)} {i:Nat} {x:V} (h:Tps H vs L) (e:vs[i]? =some x):∃ p a,L[i]? =some p∧x=.ref a∧H a=some (.tup (p.map V.int)):=by
 obtain ⟨d,ed,id⟩:=IsAll.get' h e
 rw [List.getElem?_map] at ed
 cases hp:L[i]? with
 | none=>rw [hp] at ed;cases ed
 | some p=>
  rw [hp] at ed
  cases ed
  obtain ⟨a,rfl,ea⟩:=tup_ints id
  exact ⟨p,a,rfl,rfl,ea⟩
theorem app_tup {H:Hp} {l p:Addr} {xs ys:List V} {d:PyData} {ds:List PyData} (hn:noLs ds=true) (hl:H l=some (.lst xs)) (hp:H p=none) (h:IsAll H xs ds) (hd:Is (upd (upd H p (.tup ys)) l (.lst (xs++[.ref p]))) (.ref p) d):
  IsAll (upd (upd H p (.tup ys)) l (.lst (xs++[.ref p]))) (xs++[.ref p]) (ds++[d]):=by
 refine IsAll.snoc (h.tmono (fun a zs e=>?_) hn) hd
 have h1:a≠l:=ne_of e hl (by intro z;cases z)
 have h2:a≠p:=ne_of_none e hp
 rw [upd_ne h1,upd_ne h2]
 exact e
theorem big_ln {n:Nat} (h:n≤1000001):n < sizeLine:=by
 rw [sizeLine_eq]
 omega
theorem upTo_at {n k:Nat} (h:k < n):(L2.upTo n)[k]? =some (k:Int):=by
 unfold L2.upTo
 rw [List.getElem?_map,List.getElem?_range h]
 rfl
theorem upTo_take (n:Nat):(L2.upTo n).take n=L2.upTo n:=List.take_of_length_le (by rw [L2.upTo_len];exact Nat.le_refl _)
section
variable {P:Program} {w:World} {K:PySem.W.Frag} {mg:Str→Option Value} {base:Heap} {t:Ad}
set_option genSizeOf false in
set_option genInjectivity false in
inductive sp_msb (vs:List V) (H:Hp) (Q:VK) (zz3:XK):Prop where
 | mk (y:V) (ps:List (Int×Int)) (a:Addr) (p:List Int) (c:Int) (zh0:vs=[y,.ref a,.int c]) (zh1:Al H y ps) (zh2:H a=some (.tup (p.map V.int))) (zh3:p.length≤255) (zh4:∀ H',Same H H'→Q (.bl (p.all fun b=>has ps b c)) H'):sp_msb vs H Q zz3
theorem ok_may_stand_behind (T:Txt K mg t):FnOk P w K mg base CX0 1 t.a_may_stand_behind t.d_may_stand_behind ["allowed","part","thing"] sp_msb:=by
 refine T.F_may_stand_behind.ok sc_may_stand_behind (fun vs H Q E h=>?_) (fun cdv A outer s H vs Q E hr h=>?_)
 ·obtain ⟨y,ps,a,p,c,rfl,_⟩:=h
  rfl
 ·obtain ⟨y,ps,a,p,c,rfl,hy,ea,hl,q⟩:=h
  refine ⟨_,(pss_one (ps_ret (pe_callB (k_all K) (by rfl) T.n_all bt_all (pa_cons (pe_lc rfl ⟨True.intro,True.intro,(.inl rfl),(.inl rfl),True.intro⟩ (M:=["before","allowed","thing"]) (.own (.free 0 rfl rfl (.free 2 rfl rfl .nil))) (gk_name rfl) rfl (by decide +kernel) (k_ptup K (pv 1)) (fun C fp s1 H1=>⟨pg_name (i:=0) (show (["before","allowed","thing"]:List Str).Nodup by decide +kernel) rfl (Or.inl rfl),pif_nil,(pe_cmpR (op_inD hr.units) (pe_tup (pa_cons (pv 0) (pa_cons (pv 2) pa_nil))) (pv 1) (by rfl))⟩)) pa_nil)))),?_⟩
  walk_at "rd"
  refine ⟨a,rfl,⟨_,SqT.of ea⟩,?_⟩
  refine lp_tup (K:=K) (xs:=p.map V.int) (small_ln (by rw [List.length_map];omega)) (fun i us H'=>Same H H'∧us=((p.take i).map fun b=>has ps b c).map V.bl) ⟨Same.refl _,rfl⟩ (by rintro i us H' ⟨_,rfl⟩;simp;omega) (fun i us H' _ h=>SqT.of (h.1 _ _ ea)) ?_ ?_
  ·rintro i x us H1 hx ⟨s1,rfl⟩
   rw [List.getElem?_map] at hx
   cases hp:p[i]? with
   | none=>rw [hp] at hx;cases hx
   | some b=>
    rw [hp] at hx
    cases hx
    walk_at "rd"
    refine ⟨two_ln,fun q1 hq1=>?_⟩
    have f1:=Same.upd (o:=.tup [V.int b,V.int c]) hq1
    walk_at "rd"
    refine rd_inA upd_same ((hy.same s1).same f1) ⟨s1.trans f1,?_⟩
    rw [List.take_add_one,hp,List.map_append,List.map_append]
    rfl
  ·rintro us H1 ⟨s1,rfl⟩ pl hpl
   walk_at "rd"
   refine rd_all upd_same ?_
   rw [List.length_map,List.take_length,List.all_map]
   exact q _ (s1.trans (Same.upd hpl))
set_option genSizeOf false in
set_option genInjectivity false in
inductive sp_longer (vs:List V) (H:Hp) (Q:VK) (zz3:XK):Prop where
 | mk (n:Nat) (y:V) (ps:List (Int×Int)) (l:Addr) (xs:List V) (L:List (List Int)) (zh0:vs=[.int n,y,.ref l]) (zh1:n≤8) (zh2:Al H y ps) (zh3:H l=some (.lst xs)) (zh4:Tps H xs L) (zh5:L.length≤255) (zh6:(∀ p∈L,p.length≤8)) (zh7:∀ r H' zs,H r=none→Same H H'→H' r=some (.lst zs)→Tps H' zs (GM.grow n (has ps) L)→Q (.ref r) H'):sp_longer vs H Q zz3
noncomputable def gpre (n:Nat) (ps:List (Int×Int)) (p:List Int) (j:Nat):List (List Int):=(((L2.upTo n).take j).filter fun c=>p.all fun b=>has ps b c).map fun c=>p++[c]
theorem gpre_all (n:Nat) (ps:List (Int×Int)) (p:List Int):gpre n ps p n=GM.growOne n (has ps) p:=by
 unfold gpre GM.growOne
 rw [upTo_take]
theorem gpre_len (n:Nat) (ps:List (Int×Int)) (p:List Int) (j:Nat):(gpre n ps p j).length≤n:=by
 unfold gpre
 rw [List.length_map]
 refine Nat.le_trans (List.length_filter_le _ _) ?_
 rw [List.length_take,L2.upTo_len]
 omega
theorem grow_len (n:Nat) (ps:List (Int×Int)):∀ L:List (List Int),(GM.grow n (has ps) L).length≤n * L.length
 | []=>Nat.zero_le _
 | p::L=>by
  have h1:=grow_len n ps L
  have h2:=gpre_len n ps p n
  rw [gpre_all] at h2
  show (GM.growOne n (has ps) p++GM.grow n (has ps) L).length≤_
  rw [List.length_append,List.length_cons,Nat.mul_succ]
  omega
theorem grow_snoc (n:Nat) (ps:List (Int×Int)) (L:List (List Int)) (p:List Int):GM.grow n (has ps) (L++[p])=GM.grow n (has ps) L++GM.growOne n (has ps) p:=by
 unfold GM.grow
 rw [List.flatMap_append]
 simp
theorem gpre_succ {n:Nat} {ps:List (Int×Int)} {p:List Int} {j:Nat} (h:j < n):gpre n ps p (j + 1)=gpre n ps p j++if (p.all fun b=>has ps b (j:Int))=true then [p++[(j:Int)]] else []:=by
 unfold gpre
 rw [List.take_add_one,upTo_at h,show (some (j:Int)).toList=[(j:Int)] from rfl,List.filter_append,filter_one,List.map_append]
 split
 ·rfl
 ·rfl
theorem ok_longer_parts (T:Txt K mg t):FnOk P w K mg base CX0 2 t.a_longer_parts t.d_longer_parts ["many","allowed","parts"] sp_longer:=by
 refine T.F_longer_parts.ok sc_longer_parts (fun vs H Q E h=>?_) (fun cdv A outer s H vs Q E hr h=>?_)
 ·obtain ⟨n,y,ps,l,xs,L,rfl,_⟩:=h
  rfl
 ·obtain ⟨n,y,ps,l,xs,L,rfl,n8,hy,el,hL,lL,l8,q⟩:=h
  refine ⟨_,(pss_cons (ps_set (i:=3) sc_longer_parts.nd rfl (Or.inl rfl) (pe_lst pa_nil))
   (pss_cons (ps_for PassesOwn.never rfl (k_plst K (pv 2)) (pg_name (i:=4) sc_longer_parts.nd rfl (Or.inl rfl)) (pss_one (ps_for PassesOwn.never rfl (pi_range1 rfl T.n_range (pa_cons (pv 0) pa_nil)) (pg_name (i:=5) sc_longer_parts.nd rfl (Or.inl rfl)) (pss_one (ps_if (pt_val (pe_call (ok_may_stand_behind T) (hr.mono (by decide)) rfl T.m_may_stand_behind T.F_may_stand_behind.kp T.b_may_stand_behind .nil pass0 (pa_cons (pv 1) (pa_cons (pv 4) (pa_cons (pv 5) pa_nil))))) (pss_one (ps_expr (k_bm K PySem.F.plainAttrs_list PySem.F.slot_list_append PySem.F.type_list_append mt_append (pv 3) (pa_cons (pe_op op_catU (pv 4) (pe_tup (pa_cons (pv 5) pa_nil))) pa_nil)))) pss_nil)))))
   (pss_one (ps_ret (pv 3))))),?_⟩
  have lx:=hL.len
  walk_at "rd"
  refine ⟨Nat.zero_le _,fun r hr'=>?_⟩
  have s0:=Same.upd (o:=.lst []) hr'
  walk_at "rd"
  refine ⟨l,rfl,⟨_,SqL.of (s0 _ _ el)⟩,?_⟩
  refine fp_list (K:=K) (xs:=xs) (fun i σ H'=>(∃ v4 v5,σ=[some (.int n),some y,some (.ref l),some (.ref r),v4,v5])∧Same H H'∧∃ zs,H' r=some (.lst zs)∧Tps H' zs (GM.grow n (has ps) (L.take i))) ⟨⟨_,_,rfl⟩,s0,[],upd_same,.nil⟩ (fun i σ H' _ h=>SqL.of (h.2.1 _ _ el)) ?_ ?_
  ·rintro i x σ H1 hx ⟨⟨v4,v5,rfl⟩,s1,zs,hz,iz⟩
   obtain ⟨p,ap,hp,rfl,ep⟩:=hL.at hx
   have lp8:=l8 p (List.mem_of_getElem? hp)
   have hlen:(GM.grow n (has ps) (L.take i)).length≤2040:=by
    have h1:=grow_len n ps (L.take i)
    rw [List.length_take] at h1
    have h2:n * min i L.length≤8 * 255:=Nat.mul_le_mul n8 (by omega)
    omega
   walk_at "rd"
   refine ⟨_,rfl,by omega,by omega,?_⟩
   rw [Int.toNat_natCast]
   refine fp_range (fun j σ H'=>(∃ v5,σ=[some (.int n),some y,some (.ref l),some (.ref r),some (.ref ap),v5])∧Same H H'∧∃ zs,H' r=some (.lst zs)∧Tps H' zs (GM.grow n (has ps) (L.take i)++gpre n ps p j)) ⟨⟨_,rfl⟩,s1,zs,hz,by simpa [gpre] using iz⟩ ?_ ?_
   ·rintro j σ H2 hj ⟨⟨v5,rfl⟩,s2,zs2,hz2,iz2⟩
    have ep2:=s2 _ _ ep
    have lz2:=iz2.len
    rw [List.length_append] at lz2
    have lg:=gpre_len n ps p j
    walk_at "rd"
    rw [Int.zero_add] at *
    refine ⟨y,ps,ap,p,_,rfl,hy.same s2,ep2,by omega,fun H3 s3=>?_⟩
    have hz3:=s3 _ _ hz2
    rw [gpre_succ hj]
    cases hb:p.all fun b=>has ps b (j:Int) with
    | true=>
     walk_at "rd"
     refine ⟨tyV_lst hz3,?_⟩
     walk_at "rd"
     refine ⟨by show 1≤sizeLine;decide,fun q1 hq1=>?_⟩
     have f4:=Same.upd (o:=.tup [V.int (j:Int)]) hq1
     refine rd_catU (f4 _ _ (s3 _ _ ep2)) upd_same (small_ln (by rw [List.length_map];show _ + 1≤1000;omega)) fun q2 H5 f5 e5=>?_
     have f45:=f4.trans f5
     have s5:=(s2.trans s3).trans f45
     have hz5:=f45 _ _ hz3
     have iz5:=(iz2.same s3).same f45
     walk_at "rd"
     refine rd_append hz5 (big_ln (by omega)) ?_
     have st:SameT r H5 (upd H5 r (.lst (zs2++[.ref q2]))):=fun c u e g=>by rw [upd_ne g];exact e
     have nq:q2≠r:=ne_of e5 hz5 (by intro z;cases z)
     walk_at "rd"
     refine ⟨⟨_,rfl⟩,fun c u e=>?_,_,upd_same,?_⟩
     ·rw [upd_ne (ne_of_none e hr')]
      exact s5 _ _ e
     ·show IsAll _ _ _
      rw [←List.append_assoc,List.map_append]
      refine (Tps.t iz5 hz5 st).append (.cons (is_tup ?_) .nil)
      rw [upd_ne nq,e5,List.map_append]
      rfl
    | false=>
     walk_at "rd"
     refine ⟨⟨_,rfl⟩,s2.trans s3,zs2,hz3,?_⟩
     have:=iz2.same s3
     simpa using this
   ·rintro σ H2 ⟨⟨v5,rfl⟩,s2,zs2,hz2,iz2⟩
    refine ⟨⟨_,_,rfl⟩,s2,zs2,hz2,?_⟩
    rw [List.take_add_one,hp,show (some p).toList=[p] from rfl,grow_snoc,←gpre_all]
    exact iz2
  ·rintro σ H1 ⟨⟨v4,v5,rfl⟩,s1,zs,hz,iz⟩
   rw [lx,List.take_length] at iz
   walk_at "rd"
   exact q r H1 zs hr' s1 hz iz
end
end My
namespace My
open PySem L2
section
variable {P:Program} {w:World} {K:PySem.W.Frag} {mg:Str→Option Value} {base:Heap} {t:Ad}
set_option genSizeOf false in
set_option genInjectivity false in
inductive sp_all (vs:List V) (H:Hp) (Q:VK) (zz3:XK):Prop where
 | mk (n:Nat) (y:V) (ps:List (Int×Int)) (zh0:vs=[.int n,y]) (zh1:n≤8) (zh2:Al H y ps) (zh3:GM.Asy (has ps)) (zh4:∀ r H' zs L,H r=none→Same H H'→H' r=some (.lst zs)→Tps H' zs L→GM.Parts n (has ps) L→L.Pairwise (fun a b=>HT.lexLt a b=true)→Q (.ref r) H'):sp_all vs H Q zz3
theorem pw6 {n:Nat} (h:n≤8):2 ^ n≤256:=Nat.le_trans (Nat.pow_le_pow_right (by decide) h) (by decide)
theorem fnd_few {n:Nat} {al:GM.Rel} (ha:GM.Asy al) (h6:n≤8) {k:Nat} {fs:List (List Int)} (h:GM.Fnd n al k fs):fs.length < 256:=Nat.lt_of_lt_of_le (GM.many ha h.nd fun p hp=>let ⟨a,_,b,c⟩:=(h.mem p).mp hp;⟨a,b,c⟩) (pw6 h6)
theorem lvl_few {n:Nat} {al:GM.Rel} (ha:GM.Asy al) (h6:n≤8) {k:Nat} {fs:List (List Int)} (h:GM.Lvl n al k fs):fs.length < 256:=Nat.lt_of_lt_of_le (GM.many ha h.nd fun p hp=>let ⟨a,b,c⟩:=(h.mem p).mp hp;⟨fun z=>(by subst z;cases a),b,c⟩) (pw6 h6)
theorem ok_all_parts (T:Txt K mg t):FnOk P w K mg base CX0 3 t.a_all_parts t.d_all_parts ["many","allowed"] sp_all:=by
 refine T.F_all_parts.ok sc_all_parts (fun vs H Q E h=>?_) (fun cdv A outer s H vs Q E hr h=>?_)
 ·obtain ⟨n,y,ps,rfl,_⟩:=h
  rfl
 ·obtain ⟨n,y,ps,rfl,n6,hy,asy,q⟩:=h
  refine ⟨_,(pss_cons (ps_set (i:=2) sc_all_parts.nd rfl (Or.inl rfl) (pe_lst pa_nil))
   (pss_cons (ps_set_lc (i:=3) sc_all_parts.nd rfl rfl rfl rfl ⟨True.intro,True.intro,True.intro⟩ (M:=["thing"]) (.own .nil) (gk_name rfl) rfl (by decide +kernel) (pi_range1 rfl T.n_range (pa_cons (pv 0) pa_nil)) (fun C fp s1 H1=>⟨pg_name (i:=0) (show (["thing"]:List Str).Nodup by decide +kernel) rfl (Or.inl rfl),pif_nil,(pe_tup (pa_cons (pv 0) pa_nil))⟩))
   (pss_cons (ps_while PassesOwn.never (pt_cmpR (op_gt) (pe_callB (k_len K) (by rfl) T.n_len bt_len (pa_cons (pv 3) pa_nil)) pe_int (nomark _)) (pss_cons (ps_expr (k_bm K PySem.F.plainAttrs_list PySem.F.slot_list_extend PySem.F.type_list_extend mt_extend (pv 2) (pa_cons (pv 3) pa_nil)))
   (pss_one (ps_set (i:=3) sc_all_parts.nd rfl (Or.inl rfl) (pe_call (ok_longer_parts T) (hr.mono (by decide)) rfl T.m_longer_parts T.F_longer_parts.kp T.b_longer_parts .nil pass0 (pa_cons (pv 0) (pa_cons (pv 1) (pa_cons (pv 3) pa_nil))))))))
   (pss_one (ps_ret (pe_callB (k_sortB K) (by rfl) T.n_sorted bt_sorted (pa_cons (pv 2) pa_nil))))))),?_⟩
  walk_at "rd"
  refine ⟨Nat.zero_le _,fun pf hpf=>?_⟩
  have s0:=Same.upd (o:=.lst []) hpf
  have e0:upd H pf (.lst []) pf=some (.lst []):=upd_same
  generalize upd H pf (.lst [])=H0 at s0 e0
  walk_at "rd"
  refine ⟨_,rfl,by omega,by omega,?_⟩
  rw [Int.toNat_natCast]
  refine lp_range (small_ln (by omega)) (fun i ys H'=>Same H0 H'∧Tps H' ys (((L2.upTo n).take i).map fun c=>[c])) ⟨Same.refl _,.nil⟩ (by
   rintro i ys H' ⟨_,h⟩
   rw [h.len,List.length_map,List.length_take]
   omega) ?_ ?_
  ·rintro k ys H1 hk ⟨s1,iy⟩
   walk_at "rd"
   rw [Int.zero_add] at *
   refine ⟨by show 1≤sizeLine;decide,fun q1 hq1=>?_⟩
   have f1:=Same.upd (o:=.tup [V.int (k:Int)]) hq1
   refine ⟨s1.trans f1,?_⟩
   rw [List.take_add_one,upTo_at hk,show (some (k:Int)).toList=[(k:Int)] from rfl,List.map_append]
   show IsAll _ _ _
   rw [List.map_append]
   exact IsAll.append (Tps.same iy f1) (.cons (is_tup upd_same) .nil)
  ·rintro ys H1 ⟨s1,iy⟩ pp hpp
   rw [upTo_take] at iy
   have f1:=Same.upd (o:=.lst ys) hpp
   have s2:=s1.trans f1
   have e2:upd H1 pp (.lst ys) pp=some (.lst ys):=upd_same
   have i2:=iy.same f1
   have npp:pp≠pf:=Ne.symm (ne_of_none (s1 _ _ e0) hpp)
   generalize upd H1 pp (.lst ys)=H2 at s2 e2 i2
   clear s1 iy f1 hpp
   walk_at "rd"
   refine ⟨fun m σ H'=>∃ (k:Nat) (pp:Addr) (xs zs:List V) (ls fs:List (List Int)),σ=[some (.int n),some y,some (.ref pf),some (.ref pp)]∧m=n - k∧k≤n∧Same H H'∧H' pf=some (.lst zs)∧Tps H' zs fs∧GM.Fnd n (has ps) k fs∧H' pp=some (.lst xs)∧Tps H' xs ls∧GM.Lvl n (has ps) k ls∧pp≠pf,?_,?_⟩
   ·exact ⟨_,0,pp,ys,[],_,[],rfl,rfl,Nat.zero_le _,s0.trans s2,s2 _ _ e0,.nil,GM.fnd_zero _ _,e2,i2,GM.lvl_zero _ _,npp⟩
   ·rintro m σ H3 ⟨k,pp,xs,zs,ls,fs,rfl,hm,hk,s3,ef,tf,F,ep,tp,L,npp⟩
    have lx:=tp.len
    walk_at "rd"
    refine ifB (fun g=>?_) (fun g=>?_)
    ·have g':0 < xs.length:=by simpa using g
     have ne:ls≠[]:=fun z=>by rw [z,List.length_nil] at lx;omega
     have kn:=L.few asy ne
     have F':=F.next L
     have l64:=fnd_few asy n6 F'
     have m64:=lvl_few asy n6 L
     have lz:=tf.len
     rw [List.length_append] at l64
     refine ⟨fun σ' H'=>∃ m',m' < m∧∃ (k:Nat) (pp:Addr) (xs zs:List V) (ls fs:List (List Int)),σ'=[some (.int n),some y,some (.ref pf),some (.ref pp)]∧m'=n - k∧k≤n∧Same H H'∧H' pf=some (.lst zs)∧Tps H' zs fs∧GM.Fnd n (has ps) k fs∧H' pp=some (.lst xs)∧Tps H' xs ls∧GM.Lvl n (has ps) k ls∧pp≠pf,fun σ' H' h=>h,?_⟩
     walk_at "rd"
     refine ⟨tyV_lst ef,?_⟩
     walk_at "rd"
     refine rd_extend ef ep (small_ln (by omega)) ?_
     have st:SameT pf H3 (upd H3 pf (.lst (zs++xs))):=fun c u e g=>by rw [upd_ne g];exact e
     have s4:Same H (upd H3 pf (.lst (zs++xs))):=fun c u e=>by rw [upd_ne (ne_of_none e hpf)];exact s3 _ _ e
     have tf4:=tf.t ef st
     have tp4:=tp.t ef st
     have ep4:=st _ _ ep npp
     have ef4:upd H3 pf (.lst (zs++xs)) pf=some (.lst (zs++xs)):=upd_same
     generalize upd H3 pf (.lst (zs++xs))=H4 at s4 tf4 tp4 ep4 ef4
     walk_at "rd"
     refine ⟨n,y,ps,pp,xs,ls,rfl,by omega,hy.same s4,ep4,tp4,by omega,fun p hp=>?_,fun r H5 ws hr5 s5 er tr=>?_⟩
     ·have:=((L.mem p).mp hp).1
      omega
     ·walk_at "rd"
      refine ⟨n - (k + 1),by omega,k + 1,r,ws,zs++xs,_,fs++ls,rfl,rfl,kn,s4.trans s5,s5 _ _ ef4,?_,F',er,tr,L.grow,Ne.symm (ne_of_none ef4 hr5)⟩
      have:=IsAll.append (Tps.same tf4 s5) (Tps.same tp4 s5)
      show IsAll _ _ _
      rw [List.map_append]
      exact this
    ·have g':xs.length=0:=by
      have:¬0 < xs.length:=by simpa using g
      omega
     have ne:ls=[]:=List.length_eq_zero_iff.mp (by omega)
     subst ne
     have hP:=F.all L
     have l64:=fnd_few asy n6 F
     walk_at "rd"
     refine rd_sortB ef tf (fun p hp=>((hP.mem p).mp hp).1) hP.nd fun r vs' L' hr' ha hperm hpw=>?_
     have f9:=Same.upd (o:=.lst vs') hr'
     refine q r _ vs' L' (s3.free hr') (s3.trans f9) upd_same (Tps.same ha f9) (hP.perm hperm) hpw
noncomputable def besB (ps:List (Int×Int)) (a b:Int):Bool:= !has ps a b&& !has ps b a
set_option genSizeOf false in
set_option genInjectivity false in
inductive sp_are (vs:List V) (H:Hp) (Q:VK) (zz3:XK):Prop where
 | mk (x:V) (ps:List (Int×Int)) (a:Int) (b:Int) (zh0:vs=[x,.int a,.int b]) (zh1:Is H x (.tuple (ps.map prD))) (zh2:∀ H',Same H H'→Q (.bl (besB ps a b)) H'):sp_are vs H Q zz3
theorem ok_are_beside (T:Txt K mg t):FnOk P w K mg base CX0 1 t.a_are_beside t.d_are_beside ["pairs","one","other"] sp_are:=by
 refine T.F_are_beside.ok sc_are_beside (fun vs H Q E h=>?_) (fun cdv A outer s H vs Q E hr h=>?_)
 ·obtain ⟨x,ps,a,b,rfl,_⟩:=h
  rfl
 ·obtain ⟨x,ps,a,b,rfl,hx,q⟩:=h
  refine ⟨_,(pss_one (ps_ret (pe_and (pe_cmpR (op_notInD hr.units) (pe_tup (pa_cons (pv 1) (pa_cons (pv 2) pa_nil))) (pv 0) (by rfl)) (pe_one (pe_cmpR (op_notInD hr.units) (pe_tup (pa_cons (pv 2) (pa_cons (pv 1) pa_nil))) (pv 0) (by rfl)))))),?_⟩
  unfold besB at q
  walk_at "rd"
  refine ⟨two_ln,fun p1 hp1=>?_⟩
  have s1:=Same.upd (o:=.tup [V.int a,V.int b]) hp1
  walk_at "rd"
  refine rd_ninP upd_same (hx.same s1) ?_
  cases h1:has ps a b with
  | true=>
   rw [h1] at q
   walk_at "rd"
   exact q _ s1
  | false=>
   rw [h1] at q
   walk_at "rd"
   refine ⟨two_ln,fun p2 hp2=>?_⟩
   have s2:=s1.trans (Same.upd (o:=.tup [V.int b,V.int a]) hp2)
   walk_at "rd"
   refine rd_ninP upd_same (hx.same s2) ?_
   exact q _ s2
noncomputable def fb (ps:List (Int×Int)) (i j:Nat):Bool:=decide (i < j)&&besB ps (i:Int) (j:Int)
noncomputable def pbL (n:Nat) (ps:List (Int×Int)):List (Int×Int):=gAll (fb ps) n n
theorem row_none (ps:List (Int×Int)) (i:Nat):∀ m,m≤i + 1→gRow (fb ps) i m=[]
 | 0,_=>rfl
 | m + 1,h=>by
  rw [gRow_succ,row_none ps i m (by omega)]
  unfold gI fb
  rw [decide_eq_false (by omega)]
  rfl
theorem has_pb {n:Nat} {ps:List (Int×Int)} {a b:Int}:has (pbL n ps) a b=true↔(0≤a∧a < (n:Int))∧(0≤b∧b < (n:Int))∧GM.gr (has ps) a b=true:=by
 rw [has_iff]
 unfold pbL
 rw [mem_gAll]
 constructor
 ·rintro ⟨i,j,hi,hj,e,g⟩
  injection e with e1 e2
  subst e1 e2
  unfold fb at g
  rw [Bool.and_eq_true] at g
  have:=of_decide_eq_true g.1
  refine ⟨⟨by omega,by omega⟩,⟨by omega,by omega⟩,?_⟩
  unfold GM.gr
  rw [decide_eq_true (by omega)]
  exact g.2
 ·rintro ⟨⟨a0,a1⟩,⟨b0,b1⟩,g⟩
  unfold GM.gr at g
  rw [Bool.and_eq_true] at g
  have:=of_decide_eq_true g.1
  refine ⟨a.toNat,b.toNat,by omega,by omega,by rw [Int.toNat_of_nonneg a0,Int.toNat_of_nonneg b0],?_⟩
  unfold fb
  rw [decide_eq_true (by omega),Int.toNat_of_nonneg a0,Int.toNat_of_nonneg b0]
  exact g.2
theorem pb_asy (n:Nat) (ps:List (Int×Int)):GM.Asy (has (pbL n ps)) where
 irr:=fun a=>by
  cases h:has (pbL n ps) a a with
  | false=>rfl
  | true=>
   have:=(has_pb.mp h).2.2
   rw [(GM.gr_asy _).irr] at this
   cases this
 asy:=fun a b h=>by
  cases g:has (pbL n ps) b a with
  | false=>rfl
  | true=>
   have:=(GM.gr_asy _).asy _ _ (has_pb.mp h).2.2
   rw [(has_pb.mp g).2.2] at this
   cases this
theorem pb_parts {n:Nat} {ps:List (Int×Int)} {L:List (List Int)} (h:GM.Parts n (has (pbL n ps)) L):GM.Parts n (GM.gr (has ps)) L:=⟨h.nd,fun p=>by
 rw [h.mem]
 constructor
 ·rintro ⟨a,b,c⟩
  exact ⟨a,b,List.Pairwise.imp (fun g=>(has_pb.mp g).2.2) c⟩
 ·rintro ⟨a,b,c⟩
  exact ⟨a,b,List.Pairwise.imp_of_mem (fun hx hy g=>has_pb.mpr ⟨b _ hx,b _ hy,g⟩) c⟩⟩
set_option genSizeOf false in
set_option genInjectivity false in
inductive sp_pbs (vs:List V) (H:Hp) (Q:VK) (zz3:XK):Prop where
 | mk (x:V) (n:Nat) (ps:List (Int×Int)) (zh0:vs=[x]) (zh1:Is H x (ordD n ps)) (zh2:n≤8) (zh3:∀ r H',H r=none→Same H H'→Is H' (.ref r) (.list ((pbL n ps).map prD))→Q (.ref r) H'):sp_pbs vs H Q zz3
theorem ok_pairs_beside (T:Txt K mg t):FnOk P w K mg base CX0 2 t.a_pairs_beside t.d_pairs_beside ["order"] sp_pbs:=by
 refine T.F_pairs_beside.ok sc_pairs_beside (fun vs H Q E h=>?_) (fun cdv A outer s H vs Q E hr h=>?_)
 ·obtain ⟨x,n,ps,rfl,_⟩:=h
  rfl
 ·obtain ⟨x,n,ps,rfl,hx,n8,q⟩:=h
  refine ⟨_,(pss_cons (ps_set (i:=1) sc_pairs_beside.nd rfl (Or.inl rfl) (pe_lst pa_nil))
   (pss_cons (ps_for PassesOwn.never rfl (pi_range1 rfl T.n_range (pa_cons (pe_ix (k_ix K) (pv 0) pe_int (fun _ _=>rfl)) pa_nil)) (pg_name (i:=2) sc_pairs_beside.nd rfl (Or.inl rfl)) (pss_one (ps_for PassesOwn.never rfl (pi_range2 rfl T.n_range (pa_cons (pe_op op_add (pv 2) pe_int) (pa_cons (pe_ix (k_ix K) (pv 0) pe_int (fun _ _=>rfl)) pa_nil))) (pg_name (i:=3) sc_pairs_beside.nd rfl (Or.inl rfl)) (pss_one (ps_if (pt_val (pe_call (ok_are_beside T) (hr.mono (by decide)) rfl T.m_are_beside T.F_are_beside.kp T.b_are_beside .nil pass0 (pa_cons (pe_ix (k_ix K) (pv 0) pe_int (fun _ _=>rfl)) (pa_cons (pv 2) (pa_cons (pv 3) pa_nil))))) (pss_one (ps_expr (k_bm K PySem.F.plainAttrs_list PySem.F.slot_list_append PySem.F.type_list_append mt_append (pv 1) (pa_cons (pe_tup (pa_cons (pv 2) (pa_cons (pv 3) pa_nil))) pa_nil)))) pss_nil)))))
   (pss_one (ps_ret (pv 1))))),?_⟩
  walk_at "rd"
  refine ⟨Nat.zero_le _,fun r hr'=>?_⟩
  have s0:=Same.upd (o:=.lst []) hr'
  obtain ⟨oa,ob,xs,rfl,ea,eb,hxs⟩:=is_ord hx
  have ea0:=s0 _ _ ea
  walk_at "rd"
  refine ⟨_,rfl,by omega,by omega,?_⟩
  rw [Int.toNat_natCast]
  refine fp_range (fun i σ H'=>(∃ v2 v3,σ=[some (.ref oa),some (.ref r),v2,v3])∧Same H H'∧∃ zs,H' r=some (.lst zs)∧IsAll H' zs ((gAll (fb ps) n i).map prD)) ⟨⟨_,_,rfl⟩,s0,[],upd_same,.nil⟩ ?_ ?_
  ·rintro i σ H1 hi ⟨⟨v2,v3,rfl⟩,s1,zs,hz,iz⟩
   have ea1:=s1 _ _ ea
   walk_at "rd"
   rw [Int.zero_add] at *
   refine rd_rng2 ?_
   walk_at "rd"
   refine ⟨_,_,rfl,⟨by omega,by omega,by omega,by omega⟩,?_⟩
   refine fp_range (fun j σ H'=>(∃ v3,σ=[some (.ref oa),some (.ref r),some (.int (i:Int)),v3])∧Same H H'∧∃ zs,H' r=some (.lst zs)∧IsAll H' zs ((gAll (fb ps) n i++gRow (fb ps) i (i + 1 + j)).map prD)) ⟨⟨_,rfl⟩,s1,zs,hz,by rw [Nat.add_zero,row_none ps i _ (Nat.le_refl _),List.append_nil];exact iz⟩ ?_ ?_
   ·rintro j σ H2 hj ⟨⟨v3,rfl⟩,s2,zs2,hz2,iz2⟩
    have ea2:=s2 _ _ ea
    have hji:i + 1 + j < n:=by omega
    have ej:((i:Int) + 1 + (j:Int))=((i + 1 + j:Nat):Int):=by omega
    rw [show i + 1 + (j + 1)=(i + 1 + j) + 1 by omega,gRow_succ,←List.append_assoc,List.map_append]
    walk_at "rd"
    rw [ej]
    refine ⟨_,ps,_,_,rfl,.tup (s2 _ _ eb) (hxs.same s2),fun H3 s3=>?_⟩
    have hz3:=s3 _ _ hz2
    have iz3:=iz2.same s3
    have e1:gI (fb ps) i (i + 1 + j)=if besB ps (i:Int) ((i + 1 + j:Nat):Int)=true then [((i:Int),((i + 1 + j:Nat):Int))] else []:=by
     unfold gI fb
     rw [decide_eq_true (show i < i + 1 + j by omega),Bool.true_and]
    rw [e1]
    cases hb:besB ps (i:Int) ((i + 1 + j:Nat):Int) with
    | true=>
     have lz:zs2.length≤200:=by
      rw [iz2.length,List.length_map,List.length_append]
      have h1:=gAll_len (fb ps) n i
      have h2:=gRow_len (fb ps) i (i + 1 + j)
      have h3:i * n≤8 * 8:=Nat.mul_le_mul (by omega) n8
      omega
     walk_at "rd"
     refine ⟨tyV_lst hz3,?_⟩
     walk_at "rd"
     refine ⟨two_ln,fun o ho=>?_⟩
     have hro:r≠o:=ne_of_none hz3 ho
     walk_at "rd"
     refine rd_append (xs:=zs2) (by rw [upd_ne hro];exact hz3) (small1000 (by omega)) ?_
     walk_at "rd"
     refine ⟨⟨_,rfl⟩,fun c u e=>?_,_,upd_same,?_⟩
     ·have e3:=(s2.trans s3) c u e
      rw [upd_ne (ne_of_none e hr'),upd_ne (ne_of_none e3 ho)]
      exact e3
     ·refine app_tup (noLs_pr _) hz3 ho iz3 (.tup ?_ (.cons (.int _) (.cons (.int _) .nil)))
      rw [upd_ne (Ne.symm hro),upd_same]
    | false=>
     walk_at "rd"
     exact ⟨⟨_,rfl⟩,s2.trans s3,zs2,hz3,by simpa using iz3⟩
   ·rintro σ H2 ⟨⟨v3,rfl⟩,s2,zs2,hz2,iz2⟩
    refine ⟨⟨_,_,rfl⟩,s2,zs2,hz2,?_⟩
    rw [gAll_succ]
    rw [show i + 1 + ((n:Int) - ((i:Int) + 1)).toNat=n by omega] at iz2
    exact iz2
  ·rintro σ H1 ⟨⟨v2,v3,rfl⟩,s1,zs,hz,iz⟩
   walk_at "rd"
   exact q r H1 hr' s1 (.lst (.inl hz) iz)
end
end My
namespace My
open PySem L2
theorem semi_of {n:Nat} {ps:List (Int×Int)} (ho:Ord n ps) (hb:barB n ps=false):GM.Semi n (has ps):=by
 have nb:¬Brd n ps:=fun z=>by rw [(brd_iff ho).mpr z] at hb;cases hb
 refine ⟨fun a b h=>?_,fun a=>?_,fun a b c d h1 h2=>?_,fun a b c d h1 h2 d0 d1=>?_⟩
 ·obtain ⟨x1,x2,x3,x4,_⟩:=ho.in h
  exact ⟨⟨x1,x2⟩,x3,x4⟩
 ·cases h:has ps a a with
  | false=>rfl
  | true=>
   obtain ⟨_,_,_,_,ne⟩:=ho.in h
   exact absurd rfl ne
 ·cases h3:has ps a d with
  | true=>exact .inl rfl
  | false=>
   cases h4:has ps c b with
   | true=>exact .inr rfl
   | false=>
    refine absurd (.inl ⟨a,b,c,d,?_⟩) nb
    unfold bar2B
    rw [h1,h2,h3,h4]
    rfl
 ·cases h3:has ps a d with
  | true=>exact .inl rfl
  | false=>
   cases h4:has ps d c with
   | true=>exact .inr rfl
   | false=>
    refine absurd (.inr ⟨a,b,c,d,d0,d1,?_⟩) nb
    unfold bar3B
    rw [h1,h2,h3,h4]
    rfl
theorem inD_ints (c:Int):∀ L:List Int,inD (.int c) (L.map .int)=decide (c∈L)
 | []=>rfl
 | a::L=>by
  have ih:=inD_ints c L
  unfold inD at *
  rw [List.map_cons,List.any_cons,ih,PyData.eqv]
  by_cases h:a=c
  ·subst h;simp
  ·have:¬c=a:=fun z=>h z.symm
   simp [h,this]
theorem okDs_ints (L:List Int):okDs (L.map PyData.int):=by
 induction L with
 | nil=>exact ⟨rfl,Nat.zero_le _⟩
 | cons a L ih=>
  refine ⟨?_,?_⟩
  ·rw [List.map_cons,PyData.canLayAll0,ih.1];rfl
  ·rw [List.map_cons,PyData.depthAll]
   exact Nat.max_le.mpr ⟨Nat.zero_le _,ih.2⟩
noncomputable def Ils (H:Hp) (a:Addr) (S:List Int):Prop:=H a=some (.lst (S.map V.int))∨H a=some (.tup (S.map V.int))
theorem Ils.same {H H':Hp} {a:Addr} {S:List Int} (h:Ils H a S) (s:Same H H'):Ils H' a S:=h.imp (s _ _) (s _ _)
theorem rd_inI {H:Hp} {Q:VK} {neg:Bool} {c:Int} {a:Addr} {S:List Int} (h:Ils H a S) (q:Q (.bl (if neg then !decide (c∈S) else decide (c∈S))) H):rInD neg (.int c) (.ref a) H Q:=by
 rw [←inD_ints] at q
 rcases h with h | h
 ·exact ⟨.int c,S.map .int,.int c,.inr (.lst (.inl h) (IsAll.ints S)),⟨rfl,Nat.zero_le _⟩,okDs_ints S,q⟩
 ·exact ⟨.int c,S.map .int,.int c,.inl (.tup h (IsAll.ints S)),⟨rfl,Nat.zero_le _⟩,okDs_ints S,q⟩
theorem rd_maxTs {H:Hp} {Q:VK} {K:PySem.W.Frag} {l:Addr} {vs:List V} {L:List (List Int)} (hl:H l=some (.lst vs)) (ht:Tps H vs L) (pos:0 < L.length) (pw:L.Pairwise (fun a b=>HT.lexLt a b=true)) (q:∀ a p,p∈L→(∀ r∈L,r.length≤p.length)→(∀ r∈L,r.length=p.length→r=p∨HT.lexLt p r=true)→H a=some (.tup (p.map V.int))→Q (.ref a) H):
  ∃ l' xs x0 W,[V.ref l]=[.ref l']∧H l'=some (.lst xs)∧xs[0]? =some x0∧BestW l' xs (rI0 fun i j=>.bl (decide (j < i))) (fun x H Q=>rLen K [x] H Q) W Q∧rLen K [x0] H fun k H3=>W 1 0 k H3:=by
 have ln:=ht.len
 have h0:0 < vs.length:=by omega
 obtain ⟨p0,a0,hp0,e0,t0⟩:=ht.at (List.getElem?_eq_getElem h0)
 refine ⟨l,vs,_,fun j b k H'=>H'=H∧∃ p,L[b]? =some p∧k=.int (p.length:Int)∧b < j∧∀ i r,i < j→L[i]? =some r→r.length≤p.length∧(i < b→r.length < p.length),rfl,hl,List.getElem?_eq_getElem h0,⟨?_,?_,?_⟩,?_⟩
 ·rintro j b k H' ⟨rfl,_⟩
  exact hl
 ·rintro j b k H' x ⟨rfl,p,hp,rfl,bj,hB⟩ hx
  obtain ⟨r,a,hr,rfl,er⟩:=ht.at hx
  refine ⟨a,_,rfl,.inr (SqT.of er),?_⟩
  rw [List.length_map]
  refine ⟨_,_,rfl,rfl,_,rfl,?_⟩
  by_cases g:p.length < r.length
  ·rw [if_pos (decide_eq_true (by omega))]
   refine ⟨rfl,r,hr,rfl,by omega,fun i y hi hy=>?_⟩
   by_cases e:i=j
   ·subst e;rw [hr] at hy;cases hy;exact ⟨Nat.le_refl _,fun z=>absurd z (by omega)⟩
   ·have:=hB i y (by omega) hy
    exact ⟨by omega,fun _=>by omega⟩
  ·rw [if_neg (by simp;omega)]
   refine ⟨rfl,p,hp,rfl,by omega,fun i y hi hy=>?_⟩
   by_cases e:i=j
   ·subst e;rw [hr] at hy;cases hy;exact ⟨by omega,fun z=>absurd z (by omega)⟩
   ·exact hB i y (by omega) hy
 ·rintro b k H' x ⟨rfl,p,hp,rfl,bj,hB⟩ hx
  obtain ⟨r,a,hr,rfl,er⟩:=ht.at hx
  rw [hp] at hr
  cases hr
  refine q a p (List.mem_of_getElem? hp) (fun r hr=>?_) (fun r hr el=>?_) er
  ·obtain ⟨i,hi,e⟩:=List.mem_iff_getElem.mp hr
   exact (hB i r (by omega) (by rw [List.getElem?_eq_getElem hi,e])).1
  ·obtain ⟨i,hi,e⟩:=List.mem_iff_getElem.mp hr
   have h1:=(hB i r (by omega) (by rw [List.getElem?_eq_getElem hi,e])).2
   obtain ⟨hb,eb⟩:=List.getElem?_eq_some_iff.mp hp
   by_cases g:i < b
   ·have:=h1 g;omega
   ·by_cases z:i=b
    ·subst z;exact .inl (e.symm.trans eb)
    ·have:=List.pairwise_iff_getElem.mp pw b i hb hi (by omega)
     rw [eb,e] at this
     exact .inr this
 ·rw [e0]
  refine ⟨a0,_,rfl,.inr (SqT.of t0),rfl,p0,hp0,by rw [List.length_map],by omega,fun i r hi hr=>?_⟩
  have:i=0:=by omega
  subst this
  rw [hp0] at hr
  cases hr
  exact ⟨Nat.le_refl _,fun z=>absurd z (by omega)⟩
theorem parts_pos {n:Nat} {al:GM.Rel} {L:List (List Int)} (h:GM.Parts n al L) (hn:1≤n):0 < L.length:=by
 have:([0]:List Int)∈L:=(h.mem _).mpr ⟨by simp,fun u hu=>by rcases List.mem_singleton.mp hu with rfl;omega,List.pairwise_singleton _ _⟩
 exact List.length_pos_of_mem this
theorem parts_few {n:Nat} {al:GM.Rel} (ha:GM.Asy al) (h6:n≤8) {L:List (List Int)} (h:GM.Parts n al L):L.length < 256:=Nat.lt_of_lt_of_le (GM.many ha h.nd fun p hp=>(h.mem p).mp hp) (pw6 h6)
section
variable {P:Program} {w:World} {K:PySem.W.Frag} {mg:Str→Option Value} {base:Heap} {t:Ad}
set_option genSizeOf false in
set_option genInjectivity false in
inductive sp_parts (al:Nat→List (Int×Int)→GM.Rel) (vs:List V) (H:Hp) (Q:VK) (zz3:XK):Prop where
 | mk (x:V) (n:Nat) (ps:List (Int×Int)) (zh0:vs=[x]) (zh1:Is H x (ordD n ps)) (zh2:Ord n ps) (zh3:barB n ps=false) (zh4:n≤8) (zh5:∀ r H' zs L,H r=none→Same H H'→H' r=some (.lst zs)→Tps H' zs L→GM.Parts n (al n ps) L→L.Pairwise (fun a b=>HT.lexLt a b=true)→Q (.ref r) H'):sp_parts al vs H Q zz3
theorem ok_all_groups (T:Txt K mg t):FnOk P w K mg base CX0 4 t.a_all_groups t.d_all_groups ["order"] (sp_parts fun _ ps=>GM.gr (has ps)):=by
 refine T.F_all_groups.ok sc_all_groups (fun vs H Q E h=>?_) (fun cdv A outer s H vs Q E hr h=>?_)
 ·obtain ⟨x,n,ps,rfl,_⟩:=h
  rfl
 ·obtain ⟨x,n,ps,rfl,hx,ho,hb,n6,q⟩:=h
  refine ⟨_,(pss_one (ps_ret (pe_call (ok_all_parts T) (hr.mono (by decide)) rfl T.m_all_parts T.F_all_parts.kp T.b_all_parts .nil pass0 (pa_cons (pe_ix (k_ix K) (pv 0) pe_int (fun _ _=>rfl)) (pa_cons (pe_call (ok_pairs_beside T) (hr.mono (by decide)) rfl T.m_pairs_beside T.F_pairs_beside.kp T.b_pairs_beside .nil pass0 (pa_cons (pv 0) pa_nil)) pa_nil))))),?_⟩
  obtain ⟨oa,ob,xs,rfl,ea,eb,hxs⟩:=is_ord hx
  walk_at "rd"
  refine ⟨_,n,ps,rfl,hx,by omega,fun r H1 hr1 s1 i1=>?_⟩
  walk_at "rd"
  exact ⟨n,_,pbL n ps,rfl,n6,.inr i1,pb_asy n ps,fun r2 H2 zs L hr2 s2 e2 t2 hP hw=>q r2 H2 zs L (s1.free hr2) (s1.trans s2) e2 t2 (pb_parts hP) hw⟩
theorem ok_all_lines (T:Txt K mg t):FnOk P w K mg base CX0 4 t.a_all_lines t.d_all_lines ["order"] (sp_parts fun _ ps=>has ps):=by
 refine T.F_all_lines.ok sc_all_lines (fun vs H Q E h=>?_) (fun cdv A outer s H vs Q E hr h=>?_)
 ·obtain ⟨x,n,ps,rfl,_⟩:=h
  rfl
 ·obtain ⟨x,n,ps,rfl,hx,ho,hb,n6,q⟩:=h
  refine ⟨_,(pss_one (ps_ret (pe_call (ok_all_parts T) (hr.mono (by decide)) rfl T.m_all_parts T.F_all_parts.kp T.b_all_parts .nil pass0 (pa_cons (pe_ix (k_ix K) (pv 0) pe_int (fun _ _=>rfl)) (pa_cons (pe_ix (k_ix K) (pv 0) pe_int (fun _ _=>rfl)) pa_nil))))),?_⟩
  obtain ⟨oa,ob,xs,rfl,ea,eb,hxs⟩:=is_ord hx
  walk_at "rd"
  exact ⟨n,_,ps,rfl,n6,.inl (.tup eb hxs),(semi_of ho hb).asy,q⟩
set_option genSizeOf false in
set_option genInjectivity false in
inductive sp_best (al:Nat→List (Int×Int)→GM.Rel) (vs:List V) (H:Hp) (Q:VK) (zz3:XK):Prop where
 | mk (x:V) (n:Nat) (ps:List (Int×Int)) (zh0:vs=[x]) (zh1:Is H x (ordD n ps)) (zh2:Ord n ps) (zh3:barB n ps=false) (zh4:n≤8) (zh5:∀ a H' L p,Same H H'→GM.Parts n (al n ps) L→p∈L→(∀ r∈L,r.length≤p.length)→(∀ r∈L,r.length=p.length→r=p∨HT.lexLt p r=true)→H' a=some (.tup (p.map V.int))→Q (.ref a) H'):sp_best al vs H Q zz3
theorem ok_longest_line (T:Txt K mg t):FnOk P w K mg base CX0 8 t.a_longest_line t.d_longest_line ["order"] (sp_best fun _ ps=>has ps):=by
 refine T.F_longest_line.ok sc_longest_line (fun vs H Q E h=>?_) (fun cdv A outer s H vs Q E hr h=>?_)
 ·obtain ⟨x,n,ps,rfl,_⟩:=h
  rfl
 ·obtain ⟨x,n,ps,rfl,hx,ho,hb,n6,q⟩:=h
  refine ⟨_,(pss_cons (ps_expr (pe_call (ok_need_unbarred T) (hr.mono (by decide)) rfl T.m_need_unbarred T.F_need_unbarred.kp T.b_need_unbarred .nil pass0 (pa_cons (pv 0) pa_nil)))
   (pss_one (ps_ret (k_maxF K rfl T.n_max rfl T.n_len (pa_cons (pe_call (ok_all_lines T) (hr.mono (by decide)) rfl T.m_all_lines T.F_all_lines.kp T.b_all_lines .nil pass0 (pa_cons (pv 0) pa_nil)) pa_nil))))),?_⟩
  walk_at "rd"
  refine ⟨x,n,ps,rfl,hx,ho,hb,fun H1 s1=>?_⟩
  walk_at "rd"
  refine rd_maxF ?_
  walk_at "rd"
  refine ⟨x,n,ps,rfl,hx.same s1,ho,hb,n6,fun r H2 zs L hr2 s2 e2 t2 hP hw=>?_⟩
  walk_at "rd"
  exact rd_maxTs e2 t2 (parts_pos hP ho.lo) hw fun a p hp hm hl ep=>q a H2 L p (s1.trans s2) hP hp hm hl ep
theorem ok_widest (T:Txt K mg t):FnOk P w K mg base CX0 8 t.a_widest t.d_widest ["order"] (sp_best fun _ ps=>GM.gr (has ps)):=by
 refine T.F_widest.ok sc_widest (fun vs H Q E h=>?_) (fun cdv A outer s H vs Q E hr h=>?_)
 ·obtain ⟨x,n,ps,rfl,_⟩:=h
  rfl
 ·obtain ⟨x,n,ps,rfl,hx,ho,hb,n6,q⟩:=h
  refine ⟨_,(pss_cons (ps_expr (pe_call (ok_need_unbarred T) (hr.mono (by decide)) rfl T.m_need_unbarred T.F_need_unbarred.kp T.b_need_unbarred .nil pass0 (pa_cons (pv 0) pa_nil)))
   (pss_one (ps_ret (k_maxF K rfl T.n_max rfl T.n_len (pa_cons (pe_call (ok_all_groups T) (hr.mono (by decide)) rfl T.m_all_groups T.F_all_groups.kp T.b_all_groups .nil pass0 (pa_cons (pv 0) pa_nil)) pa_nil))))),?_⟩
  walk_at "rd"
  refine ⟨x,n,ps,rfl,hx,ho,hb,fun H1 s1=>?_⟩
  walk_at "rd"
  refine rd_maxF ?_
  walk_at "rd"
  refine ⟨x,n,ps,rfl,hx.same s1,ho,hb,n6,fun r H2 zs L hr2 s2 e2 t2 hP hw=>?_⟩
  walk_at "rd"
  exact rd_maxTs e2 t2 (parts_pos hP ho.lo) hw fun a p hp hm hl ep=>q a H2 L p (s1.trans s2) hP hp hm hl ep
end
end My
namespace My
open PySem L2
theorem pr_get' {H:Hp} {xs:List V} {ps:List (Int×Int)} {i:Nat} {x:V} (h:IsAll H xs (ps.map prD)) (hx:xs[i]? =some x):∃ p r,ps[i]? =some p∧x=.ref r∧H r=some (.tup [.int p.1,.int p.2]):=by
 obtain ⟨d,ed,id⟩:=h.get' hx
 rw [List.getElem?_map] at ed
 cases e:ps[i]? with
 | none=>rw [e] at ed;cases ed
 | some p=>
  rw [e] at ed
  cases ed
  unfold prD at id
  cases id with
  | @tup r ys _ er hys=>
   obtain rfl:=two_ints hys
   exact ⟨p,r,rfl,rfl,er⟩
theorem any_f {α:Type} {l:List α} {p:α→Bool} (h:l.any p=false) {x:α} (hx:x∈l):p x=false:=by
 cases e:p x with
 | false=>rfl
 | true=>rw [List.any_eq_true.mpr ⟨x,hx,e⟩] at h;cases h
theorem getD_map {vals:List Int} {i:Nat} (hi:i < vals.length):(vals.map V.int)[i]? =some (.int (vals.getD i 0)):=by
 rw [List.getElem?_map]
 simp [hi]
end My
namespace My
open PySem L2
noncomputable def belL (ps:List (Int×Int)) (c:Int):List Int:=(ps.filter fun p=>p.2==c).map (·.1)
noncomputable def abvL (ps:List (Int×Int)) (c:Int):List Int:=(ps.filter fun p=>p.1==c).map (·.2)
noncomputable def hgt (ps:List (Int×Int)) (c:Int):Int:=((belL ps c).length:Int) - ((abvL ps c).length:Int)
noncomputable def hgts (n:Nat) (ps:List (Int×Int)):List Int:=(List.range n).map fun (i:Nat)=>hgt ps (i:Int)
noncomputable def atL (hs:List Int) (v:Int):List Int:=((List.range hs.length).filter fun i=>hs.getD i 0==v).map fun (i:Nat)=>(i:Int)
theorem belL_take (ps:List (Int×Int)) (c:Int) (k:Nat) (p:Int×Int) (h:ps[k]? =some p):belL (ps.take (k + 1)) c=belL (ps.take k) c++(if p.2==c then [p.1] else []):=by
 unfold belL
 rw [List.take_add_one,h,List.filter_append,List.map_append]
 show _++((List.filter _ [p]).map _)=_
 rw [List.filter_cons]
 split <;> rfl
theorem abvL_take (ps:List (Int×Int)) (c:Int) (k:Nat) (p:Int×Int) (h:ps[k]? =some p):abvL (ps.take (k + 1)) c=abvL (ps.take k) c++(if p.1==c then [p.2] else []):=by
 unfold abvL
 rw [List.take_add_one,h,List.filter_append,List.map_append]
 show _++((List.filter _ [p]).map _)=_
 rw [List.filter_cons]
 split <;> rfl
theorem belL_len (ps:List (Int×Int)) (c:Int):(belL ps c).length≤ps.length:=by unfold belL;rw [List.length_map];exact List.length_filter_le _ _
theorem abvL_len (ps:List (Int×Int)) (c:Int):(abvL ps c).length≤ps.length:=by unfold abvL;rw [List.length_map];exact List.length_filter_le _ _
noncomputable def atU (hs:List Int) (v:Int) (k:Nat):List Int:=((List.range k).filter fun i=>hs.getD i 0==v).map fun (i:Nat)=>(i:Int)
theorem atU_succ (hs:List Int) (v:Int) (k:Nat):atU hs v (k + 1)=atU hs v k++(if hs.getD k 0==v then [(k:Int)] else []):=by
 unfold atU
 rw [List.range_succ,List.filter_append,List.map_append]
 show _++((List.filter _ [k]).map _)=_
 rw [List.filter_cons]
 split <;> rfl
theorem atU_len (hs:List Int) (v:Int) (k:Nat):(atU hs v k).length≤k:=by
 unfold atU
 rw [List.length_map]
 have:=List.length_filter_le (fun i=>hs.getD i 0==v) (List.range k)
 rw [List.length_range] at this
 exact this
theorem len_sub:∀ {L ns:List Int},L.Nodup→(∀ x∈L,x∈ns)→L.length≤ns.length
 | [],ns,_,_=>Nat.zero_le _
 | x::L,ns,nd,sub=>by
  have hx:=sub x List.mem_cons_self
  rw [List.nodup_cons] at nd
  have p1:=(List.perm_cons_erase hx).length_eq
  have:=len_sub (L:=L) (ns:=ns.erase x) nd.2 fun y hy=>(List.mem_erase_of_ne (fun z:y=x=>nd.1 (z▸hy))).mpr (sub y (List.mem_cons_of_mem _ hy))
  simp only [List.length_cons] at p1 ⊢
  omega
theorem nub_nd' {ns ms:List Int} (h:Nub ns ms):ms.Nodup:=h.up.imp fun h=>Int.ne_of_lt h
theorem nub_len {ns ms:List Int} (h:Nub ns ms):ms.length≤ns.length:=len_sub (nub_nd' h) fun x hx=>(h.mem x).mp hx
section
variable {P:Program} {w:World} {K:PySem.W.Frag} {mg:Str→Option Value} {base:Heap} {t:Ad}
set_option genSizeOf false in
set_option genInjectivity false in
inductive sp_height (vs:List V) (H:Hp) (Q:VK) (zz3:XK):Prop where
 | mk (x:V) (ps:List (Int×Int)) (c:Int) (zh0:vs=[x,.int c]) (zh1:Is H x (.tuple (ps.map prD))) (zh2:ps.length≤1000) (zh3:∀ H',Same H H'→Q (.int (hgt ps c)) H'):sp_height vs H Q zz3
theorem ok_height (T:Txt K mg t):FnOk P w K mg base CX0 1 t.a_height t.d_height ["pairs","thing"] sp_height:=by
 refine T.F_height.ok sc_height (fun vs H Q E h=>?_) (fun cdv A outer s H vs Q E hr h=>?_)
 ·obtain ⟨x,ps,c,rfl,_⟩:=h
  rfl
 ·obtain ⟨x,ps,c,rfl,hx,sz,q⟩:=h
  refine ⟨_,(pss_cons (ps_set_lc (i:=2) sc_height.nd rfl rfl rfl rfl ⟨True.intro,True.intro,True.intro,(.inl rfl),True.intro⟩ (M:=["one","other","thing"]) (.own (.own (.free 1 rfl rfl .nil))) (gk_tup (gks_cons rfl (gks_cons rfl gks_nil))) rfl (by decide +kernel) (k_ptup K (pv 0)) (fun C fp s1 H1=>⟨k_gtup K (n:=2) rfl (pgs_cons (pg_name (i:=0) (show (["one","other","thing"]:List Str).Nodup by decide +kernel) rfl (Or.inl rfl)) (pgs_cons (pg_name (i:=1) (show (["one","other","thing"]:List Str).Nodup by decide +kernel) rfl (Or.inl rfl)) pgs_nil)),pif_one (pt_cmpR (op_eqD hr.units) (pv 1) (pv 2) (nomark _)),(pv 0)⟩))
   (pss_cons (ps_set_lc (i:=3) sc_height.nd rfl rfl rfl rfl ⟨True.intro,True.intro,True.intro,(.inl rfl),True.intro⟩ (M:=["one","other","thing"]) (.own (.own (.free 1 rfl rfl .nil))) (gk_tup (gks_cons rfl (gks_cons rfl gks_nil))) rfl (by decide +kernel) (k_ptup K (pv 0)) (fun C fp s1 H1=>⟨k_gtup K (n:=2) rfl (pgs_cons (pg_name (i:=0) (show (["one","other","thing"]:List Str).Nodup by decide +kernel) rfl (Or.inl rfl)) (pgs_cons (pg_name (i:=1) (show (["one","other","thing"]:List Str).Nodup by decide +kernel) rfl (Or.inl rfl)) pgs_nil)),pif_one (pt_cmpR (op_eqD hr.units) (pv 0) (pv 2) (nomark _)),(pv 1)⟩))
   (pss_one (ps_ret (pe_op op_sub (pe_callB (k_len K) (by rfl) T.n_len bt_len (pa_cons (pv 2) pa_nil)) (pe_callB (k_len K) (by rfl) T.n_len bt_len (pa_cons (pv 3) pa_nil))))))),?_⟩
  cases hx with
  | @tup b xs _ eb hxs=>
  have hl:xs.length=ps.length:=by rw [hxs.length,List.length_map]
  walk_at "rd"
  refine ⟨b,rfl,⟨xs,SqT.of eb⟩,?_⟩
  refine lp_tup (K:=K) (xs:=xs) (small_ln (by omega)) (fun j zs H'=>Same H H'∧zs=(belL (ps.take j) c).map V.int) ⟨Same.refl _,rfl⟩ (by
   rintro j zs H' ⟨_,rfl⟩
   rw [List.length_map]
   have:=belL_len (ps.take j) c
   rw [List.length_take] at this
   omega) (fun j zs H' _ h=>SqT.of (h.1 _ _ eb)) ?_ ?_
  ·rintro j x zs H2 hx ⟨s2,rfl⟩
   obtain ⟨p0,r,hp0,rfl,er⟩:=pr_get' (hxs.same s2) hx
   walk_at "rd"
   refine rd_gtup er rfl ?_
   walk_at "rd"
   rw [belL_take _ _ _ _ hp0]
   refine ifB (fun g=>?_) (fun g=>?_)
   ·have g':(p0.2==c)=true:=g
    walk_at "rd"
    rw [if_pos g',List.map_append]
    exact ⟨s2,rfl⟩
   ·have g':(p0.2==c)=false:=g
    rw [if_neg (by rw [g'];exact Bool.false_ne_true),List.append_nil]
    exact ⟨s2,rfl⟩
  ·rintro zs H2 ⟨s2,rfl⟩ l1 hl1
   rw [hl,List.take_length]
   have s3:=s2.trans (Same.upd (o:=.lst ((belL ps c).map V.int)) hl1)
   have e1:upd H2 l1 (.lst ((belL ps c).map V.int)) l1=some (.lst ((belL ps c).map V.int)):=upd_same
   generalize upd H2 l1 (.lst ((belL ps c).map V.int))=H3 at s3 e1
   walk_at "rd"
   refine ⟨b,rfl,⟨xs,SqT.of (s3 _ _ eb)⟩,?_⟩
   refine lp_tup (K:=K) (xs:=xs) (small_ln (by omega)) (fun j zs H'=>Same H3 H'∧zs=(abvL (ps.take j) c).map V.int) ⟨Same.refl _,rfl⟩ (by
    rintro j zs H' ⟨_,rfl⟩
    rw [List.length_map]
    have:=abvL_len (ps.take j) c
    rw [List.length_take] at this
    omega) (fun j zs H' _ h=>SqT.of (h.1 _ _ (s3 _ _ eb))) ?_ ?_
   ·rintro j x zs H4 hx ⟨s4,rfl⟩
    obtain ⟨p0,r,hp0,rfl,er⟩:=pr_get' ((hxs.same s3).same s4) hx
    walk_at "rd"
    refine rd_gtup er rfl ?_
    walk_at "rd"
    rw [abvL_take _ _ _ _ hp0]
    refine ifB (fun g=>?_) (fun g=>?_)
    ·have g':(p0.1==c)=true:=g
     walk_at "rd"
     rw [if_pos g',List.map_append]
     exact ⟨s4,rfl⟩
    ·have g':(p0.1==c)=false:=g
     rw [if_neg (by rw [g'];exact Bool.false_ne_true),List.append_nil]
     exact ⟨s4,rfl⟩
   ·rintro zs H4 ⟨s4,rfl⟩ l2 hl2
    rw [hl,List.take_length]
    have s5:=s4.trans (Same.upd (o:=.lst ((abvL ps c).map V.int)) hl2)
    have e2:upd H4 l2 (.lst ((abvL ps c).map V.int)) l2=some (.lst ((abvL ps c).map V.int)):=upd_same
    generalize upd H4 l2 (.lst ((abvL ps c).map V.int))=H5 at s5 e2
    have e1':=s5 _ _ e1
    walk_at "rd"
    have q':=q H5 (s3.trans s5)
    unfold hgt at q'
    simpa using q'
set_option genSizeOf false in
set_option genInjectivity false in
inductive sp_things_at (vs:List V) (H:Hp) (Q:VK) (zz3:XK):Prop where
 | mk (l:Addr) (hs:List Int) (v:Int) (zh0:vs=[.ref l,.int v]) (zh1:H l=some (.lst (hs.map V.int))) (zh2:hs.length≤8) (zh3:∀ r H',Same H H'→H r=none→H' r=some (.lst ((atL hs v).map V.int))→Q (.ref r) H'):sp_things_at vs H Q zz3
theorem ok_things_at (T:Txt K mg t):FnOk P w K mg base CX0 1 t.a_things_at t.d_things_at ["heights","level"] sp_things_at:=by
 refine T.F_things_at.ok sc_things_at (fun vs H Q E h=>?_) (fun cdv A outer s H vs Q E hr h=>?_)
 ·obtain ⟨l,hs,v,rfl,_⟩:=h
  rfl
 ·obtain ⟨l,hs,v,rfl,el,h8,q⟩:=h
  refine ⟨_,(pss_one (ps_ret (pe_lc rfl ⟨True.intro,True.intro,(.inl rfl),(.inl rfl),True.intro⟩ (M:=["thing","heights","level"]) (.own (.free 0 rfl rfl (.free 1 rfl rfl .nil))) (gk_name rfl) rfl (by decide +kernel) (pi_range1 rfl T.n_range (pa_cons (pe_callB (k_len K) (by rfl) T.n_len bt_len (pa_cons (pv 0) pa_nil)) pa_nil)) (fun C fp s1 H1=>⟨pg_name (i:=0) (show (["thing","heights","level"]:List Str).Nodup by decide +kernel) rfl (Or.inl rfl),pif_one (pt_cmpR (op_eqD hr.units) (pe_ix (k_ix K) (pv 1) (pv 0) (fun _ _=>rfl)) (pv 2) (nomark _)),(pv 0)⟩)))),?_⟩
  walk_at "rd"
  refine ⟨_,rfl,by simp,by simp;omega,?_⟩
  rw [List.length_map,Int.toNat_natCast]
  refine lp_range (small_ln (by omega)) (fun i ys H'=>Same H H'∧ys=(atU hs v i).map V.int) ⟨Same.refl _,rfl⟩ (by
   rintro i ys H' ⟨_,rfl⟩
   rw [List.length_map]
   exact atU_len _ _ _) ?_ ?_
  ·rintro k ys H2 hk ⟨s2,rfl⟩
   have el2:=s2 _ _ el
   walk_at "rd"
   rw [Int.zero_add,atU_succ]
   refine rd_ixL el2 (atI_of rfl (getD_map hk)) ?_
   walk_at "rd"
   refine ifB (fun g=>?_) (fun g=>?_)
   ·have g':(hs.getD k 0==v)=true:=g
    walk_at "rd"
    rw [if_pos g',List.map_append]
    exact ⟨s2,rfl⟩
   ·have g':(hs.getD k 0==v)=false:=g
    rw [if_neg (by rw [g'];exact Bool.false_ne_true),List.append_nil]
    exact ⟨s2,rfl⟩
  ·rintro ys H2 ⟨s2,rfl⟩ r hr'
   walk_at "rd"
   have hn:H r=none:=by
    cases e:H r with
    | none=>rfl
    | some u=>rw [s2 _ _ e] at hr';cases hr'
   exact q r _ (s2.trans (Same.upd hr')) hn upd_same
noncomputable def Rws (H:Hp) (hs:List Int) (zs:List V) (ms:List Int):Prop:=zs.length=ms.length∧∀ (j:Nat) (v:Int),ms[j]? =some v→∃ r,zs[j]? =some (.ref r)∧H r=some (.lst ((atL hs v).map V.int))
theorem Rws.is {H:Hp} {hs:List Int} {zs:List V} {ms:List Int} (h:Rws H hs zs ms):IsAll H zs (ms.map fun v=>PyData.list ((atL hs v).map PyData.int)):=by
 induction ms generalizing zs with
 | nil=>
  obtain rfl:zs=[]:=List.eq_nil_of_length_eq_zero h.1
  exact .nil
 | cons v ms ih=>
  obtain ⟨r,e1,e2⟩:=h.2 0 v rfl
  cases zs with
  | nil=>cases e1
  | cons z zs=>
   cases e1
   exact .cons (.lst (.inl e2) (IsAll.ints _)) (ih ⟨by simpa using h.1,fun j u hu=>by simpa using h.2 (j + 1) u (by simpa using hu)⟩)
theorem Rws.same {H H':Hp} {hs:List Int} {zs:List V} {ms:List Int} (h:Rws H hs zs ms) (s:Same H H'):Rws H' hs zs ms:=⟨h.1,fun j v e=>let ⟨r,e1,e2⟩:=h.2 j v e;⟨r,e1,s _ _ e2⟩⟩
theorem Rws.snoc {H:Hp} {hs:List Int} {zs:List V} {ms:List Int} {v:Int} {r:Addr} (h:Rws H hs zs ms) (e:H r=some (.lst ((atL hs v).map V.int))):Rws H hs (zs++[.ref r]) (ms++[v]):=by
 refine ⟨by simp [h.1],fun j u hu=>?_⟩
 by_cases g:j < ms.length
 ·rw [List.getElem?_append_left g] at hu
  rw [List.getElem?_append_left (by rw [h.1];exact g)]
  exact h.2 j u hu
 ·have ej:j=ms.length:=by
   have:=(List.getElem?_eq_some_iff.mp hu).1
   simp at this
   omega
  subst ej
  rw [List.getElem?_append_right (Nat.le_refl _)] at hu
  rw [List.getElem?_append_right (by rw [h.1];exact Nat.le_refl _),h.1]
  simp at hu ⊢
  subst hu
  exact e
set_option genSizeOf false in
set_option genInjectivity false in
inductive sp_row (vs:List V) (H:Hp) (Q:VK) (zz3:XK):Prop where
 | mk (x:V) (n:Nat) (ps:List (Int×Int)) (zh0:vs=[x]) (zh1:Is H x (ordD n ps)) (zh2:Ord n ps) (zh3:barB n ps=false) (zh4:∀ r zs ms H',Same H H'→H r=none→Nub (hgts n ps) ms→H' r=some (.lst zs)→Rws H' (hgts n ps) zs ms→Q (.ref r) H'):sp_row vs H Q zz3
theorem ok_row (T:Txt K mg t):FnOk P w K mg base CX0 8 t.a_row t.d_row ["order"] sp_row:=by
 refine T.F_row.ok sc_row (fun vs H Q E h=>?_) (fun cdv A outer s H vs Q E hr h=>?_)
 ·obtain ⟨x,n,ps,rfl,_⟩:=h
  rfl
 ·obtain ⟨x,n,ps,rfl,hx,ho,hb,q⟩:=h
  refine ⟨_,(pss_cons (ps_expr (pe_call (ok_need_unbarred T) (hr.mono (by decide)) rfl T.m_need_unbarred T.F_need_unbarred.kp T.b_need_unbarred .nil pass0 (pa_cons (pv 0) pa_nil)))
   (pss_cons (ps_set (i:=1) sc_row.nd rfl (Or.inr rfl) (pe_lc rfl ⟨True.intro,True.intro,True.intro,(.inl rfl),True.intro⟩ (M:=["thing","order"]) (.own (.free 0 rfl rfl .nil)) (gk_name rfl) rfl (by decide +kernel) (pi_range1 rfl T.n_range (pa_cons (pe_ix (k_ix K) (pv 0) pe_int (fun _ _=>rfl)) pa_nil)) (fun C fp s1 H1=>⟨pg_name (i:=0) (show (["thing","order"]:List Str).Nodup by decide +kernel) rfl (Or.inl rfl),pif_nil,(pe_call (ok_height T) (hr.mono (by decide)) rfl T.m_height T.F_height.kp T.b_height .nil pass0 (pa_cons (pe_ix (k_ix K) (pv 1) pe_int (fun _ _=>rfl)) (pa_cons (pv 0) pa_nil)))⟩)))
   (pss_one (ps_ret (pe_lc rfl ⟨True.intro,True.intro,True.intro,(.inl rfl),True.intro⟩ (M:=["level","heights"]) (.own (.free 1 rfl rfl .nil)) (gk_name rfl) rfl (by decide +kernel) (k_plst K (k_sortSet K rfl T.n_sorted rfl T.n_set (pa_cons (pv 1) pa_nil))) (fun C fp s1 H1=>⟨pg_name (i:=0) (show (["level","heights"]:List Str).Nodup by decide +kernel) rfl (Or.inl rfl),pif_nil,(pe_call (ok_things_at T) (hr.mono (by decide)) rfl T.m_things_at T.F_things_at.kp T.b_things_at .nil pass0 (pa_cons (pv 1) (pa_cons (pv 0) pa_nil)))⟩)))))),?_⟩
  have n8:=ho.hi
  walk_at "rd"
  refine ⟨x,n,ps,rfl,hx,ho,hb,fun H1 s1=>?_⟩
  obtain ⟨oa,ob,xs,rfl,ea,eb,hxs⟩:=is_ord (hx.same s1)
  walk_at "rd"
  refine ⟨_,rfl,by omega,by omega,?_⟩
  rw [Int.toNat_natCast]
  refine lp_range (small_ln (by omega)) (fun i ys H'=>Same H1 H'∧ys=((hgts n ps).take i).map V.int) ⟨Same.refl _,rfl⟩ (by
   rintro i ys H' ⟨_,rfl⟩
   rw [List.length_map,List.length_take]
   omega) ?_ ?_
  ·rintro k ys H2 hk ⟨s2,rfl⟩
   have ea2:=s2 _ _ ea
   walk_at "rd"
   refine ⟨_,ps,_,rfl,.tup (s2 _ _ eb) (hxs.same s2),ho.sz,fun H3 s3=>⟨s2.trans s3,?_⟩⟩
   have hu:(hgts n ps)[k]? =some (hgt ps (k:Int)):=by
    unfold hgts
    rw [List.getElem?_map,List.getElem?_range hk]
    rfl
   rw [List.take_add_one,hu,List.map_append,Int.zero_add]
   rfl
  ·rintro ys H2 ⟨s2,rfl⟩ l hl
   have hlen:(hgts n ps).length=n:=by unfold hgts;rw [List.length_map,List.length_range]
   rw [List.take_of_length_le (by omega)]
   have s3:=s2.trans (Same.upd (o:=.lst ((hgts n ps).map V.int)) hl)
   have e1:upd H2 l (.lst ((hgts n ps).map V.int)) l=some (.lst ((hgts n ps).map V.int)):=upd_same
   generalize upd H2 l (.lst ((hgts n ps).map V.int))=H3 at s3 e1
   walk_at "rd"
   refine rd_sortSet ?_
   walk_at "rd"
   refine ⟨l,hgts n ps,rfl,SqL.of e1,by omega,fun r ms hr' nb=>?_⟩
   have lm:=nub_len nb
   have s4:=s3.trans (Same.upd (o:=.lst (ms.map V.int)) hr')
   have e2:upd H3 r (.lst (ms.map V.int)) r=some (.lst (ms.map V.int)):=upd_same
   have e1':upd H3 r (.lst (ms.map V.int)) l=some (.lst ((hgts n ps).map V.int)):=(Same.upd hr') _ _ e1
   generalize upd H3 r (.lst (ms.map V.int))=H4 at s4 e2 e1'
   refine ⟨r,rfl,⟨_,SqL.of e2⟩,?_⟩
   refine lp_list (K:=K) (xs:=ms.map V.int) (small_ln (by rw [List.length_map];omega)) (fun j zs H'=>Same H4 H'∧Rws H' (hgts n ps) zs (ms.take j)) ⟨Same.refl _,rfl,fun j v e=>by simp at e⟩ (by
    rintro j zs H' ⟨_,h⟩
    rw [h.1,List.length_take]
    omega) (fun j zs H' _ h=>SqL.of (h.1 _ _ e2)) ?_ ?_
   ·rintro j x zs H5 hx5 ⟨s5,iz⟩
    rw [List.getElem?_map] at hx5
    cases em:ms[j]? with
    | none=>rw [em] at hx5;cases hx5
    | some v=>
    rw [em] at hx5
    cases hx5
    walk_at "rd"
    refine ⟨l,hgts n ps,v,rfl,s5 _ _ e1',by omega,fun r6 H6 s6 hn6 e6=>⟨s5.trans s6,?_⟩⟩
    rw [List.take_add_one,em]
    exact (iz.same s6).snoc e6
   ·rintro zs H5 ⟨s5,iz⟩ r6 hr6
    rw [List.take_of_length_le (by rw [List.length_map];exact Nat.le_refl _)] at iz
    have s6:=Same.upd (o:=.lst zs) hr6
    have hn:H r6=none:=by
     cases e:H r6 with
     | none=>rfl
     | some u=>rw [(((s1.trans s4).trans s5)) _ _ e] at hr6;cases hr6
    exact q r6 zs ms _ (((s1.trans s4).trans s5).trans s6) hn nb upd_same (iz.same s6)
end
end My
namespace My
open PySem L2
structure LonAt (ps:List (Int×Int)) (L:Int→Int) (c:Int):Prop where
 lo:1≤L c
 ge:∀ a,(a,c)∈ps→L a + 1≤L c
 is:L c=1∨∃ a,(a,c)∈ps∧L c=L a + 1
noncomputable def kvL (L:Int→Int) (ds:List Int):List (Key×Int):=ds.map fun c=>(Sum.inl c,L c)
noncomputable def kvV (L:Int→Int) (ds:List Int):List (Key×V):=(kvL L ds).map fun p=>(p.1,V.int p.2)
theorem kv_in {L:Int→Int} {a:Int}:∀ {ds:List Int},a∈ds→valV (kvV L ds) (Sum.inl a)=some (V.int (L a))
 | d::ds,h=>by
  by_cases e:d=a
  ·subst e
   exact valV_pos rfl
  ·have:a∈ds:=by
    rcases List.mem_cons.mp h with z | z
    ·exact absurd z.symm e
    ·exact z
   show valV ((Sum.inl d,V.int (L d))::kvV L ds) (Sum.inl a)=_
   rw [valV_neg (by intro z;exact e (Sum.inl.inj z))]
   exact kv_in this
theorem kv_out {L:Int→Int} {a:Int}:∀ {ds:List Int},a∉ds→valV (kvV L ds) (Sum.inl a)=none
 | [],_=>rfl
 | d::ds,h=>by
  show valV ((Sum.inl d,V.int (L d))::kvV L ds) (Sum.inl a)=_
  rw [valV_neg (by intro z;exact h (by rw [Sum.inl.inj z];exact List.mem_cons_self))]
  exact kv_out fun z=>h (List.mem_cons_of_mem _ z)
theorem kv_congr {L L':Int→Int} {ds:List Int} (h:∀ c∈ds,L c=L' c):kvV L ds=kvV L' ds:=by
 unfold kvV kvL
 rw [List.map_map,List.map_map]
 exact List.map_congr_left fun c hc=>by simp [h c hc]
theorem kv_snoc (L:Int→Int) (ds:List Int) (c:Int):kvV L (ds++[c])=kvV L ds++[(Sum.inl c,V.int (L c))]:=by
 unfold kvV kvL
 rw [List.map_append,List.map_append]
 rfl
theorem kv_len (L:Int→Int) (ds:List Int):(kvV L ds).length=ds.length:=by unfold kvV kvL;rw [List.length_map,List.length_map]
theorem ps_nd {n:Nat} {ps:List (Int×Int)} (ho:Ord n ps):ps.Nodup:=nd_of (pw_of ho.up)
theorem nd_map {α β:Type} {f:α→β}:∀ {l:List α},l.Nodup→(∀ x∈l,∀ y∈l,f x=f y→x=y)→(l.map f).Nodup
 | [],_,_=>List.nodup_nil
 | x::l,h,inj=>by
  rw [List.nodup_cons] at h
  rw [List.map_cons,List.nodup_cons]
  refine ⟨fun z=>?_,nd_map h.2 fun a ha b hb=>inj a (List.mem_cons_of_mem _ ha) b (List.mem_cons_of_mem _ hb)⟩
  obtain ⟨y,hy,e⟩:=List.mem_map.mp z
  exact h.1 (by rw [←inj y (List.mem_cons_of_mem _ hy) x List.mem_cons_self e];exact hy)
theorem mem_bel {ps:List (Int×Int)} {c a:Int}:a∈belL ps c↔(a,c)∈ps:=by
 unfold belL
 rw [List.mem_map]
 constructor
 ·rintro ⟨p,hp,rfl⟩
  obtain ⟨h1,h2⟩:=List.mem_filter.mp hp
  have:p.2=c:=eq_of_beq h2
  rw [←this]
  exact h1
 ·exact fun h=>⟨(a,c),List.mem_filter.mpr ⟨h,beq_self_eq_true c⟩,rfl⟩
theorem mem_abv {ps:List (Int×Int)} {c a:Int}:a∈abvL ps c↔(c,a)∈ps:=by
 unfold abvL
 rw [List.mem_map]
 constructor
 ·rintro ⟨p,hp,rfl⟩
  obtain ⟨h1,h2⟩:=List.mem_filter.mp hp
  have:p.1=c:=eq_of_beq h2
  rw [←this]
  exact h1
 ·exact fun h=>⟨(c,a),List.mem_filter.mpr ⟨h,beq_self_eq_true c⟩,rfl⟩
theorem bel_nd {n:Nat} {ps:List (Int×Int)} (ho:Ord n ps) (c:Int):(belL ps c).Nodup:=by
 refine nd_map ((ps_nd ho).sublist List.filter_sublist) fun x hx y hy e=>?_
 have h1:x.2=c:=eq_of_beq (List.mem_filter.mp hx).2
 have h2:y.2=c:=eq_of_beq (List.mem_filter.mp hy).2
 exact Prod.ext e (h1.trans h2.symm)
theorem abv_nd {n:Nat} {ps:List (Int×Int)} (ho:Ord n ps) (c:Int):(abvL ps c).Nodup:=by
 refine nd_map ((ps_nd ho).sublist List.filter_sublist) fun x hx y hy e=>?_
 have h1:x.1=c:=eq_of_beq (List.mem_filter.mp hx).2
 have h2:y.1=c:=eq_of_beq (List.mem_filter.mp hy).2
 exact Prod.ext (h1.trans h2.symm) e
structure Sem (ps:List (Int×Int)):Prop where
 irr:∀ a,(a,a)∉ps
 two:∀ a b c d,(a,b)∈ps→(c,d)∈ps→(a,d)∈ps∨(c,b)∈ps
theorem Sem.tr {ps:List (Int×Int)} (h:Sem ps) {a b c:Int} (h1:(a,b)∈ps) (h2:(b,c)∈ps):(a,c)∈ps:=(h.two a b b c h1 h2).resolve_right (h.irr b)
theorem hgt_lt {n:Nat} {ps:List (Int×Int)} (ho:Ord n ps) (h:Sem ps) {a b:Int} (hab:(a,b)∈ps):hgt ps a < hgt ps b:=by
 have h1:(a::belL ps a).length≤(belL ps b).length:=len_sub (List.nodup_cons.mpr ⟨fun z=>h.irr a (mem_bel.mp z),bel_nd ho a⟩) fun x hx=>by
  rcases List.mem_cons.mp hx with rfl | hx
  ·exact mem_bel.mpr hab
  ·exact mem_bel.mpr (h.tr (mem_bel.mp hx) hab)
 have h2:(b::abvL ps b).length≤(abvL ps a).length:=len_sub (List.nodup_cons.mpr ⟨fun z=>h.irr b (mem_abv.mp z),abv_nd ho b⟩) fun x hx=>by
  rcases List.mem_cons.mp hx with rfl | hx
  ·exact mem_abv.mpr hab
  ·exact mem_abv.mpr (h.tr hab (mem_abv.mp hx))
 rw [List.length_cons] at h1 h2
 unfold hgt
 omega
theorem mem_atL {hs:List Int} {v c:Int}:c∈atL hs v↔∃ i:Nat,c=i∧i < hs.length∧hs.getD i 0=v:=by
 unfold atL
 rw [List.mem_map]
 constructor
 ·rintro ⟨i,hi,rfl⟩
  obtain ⟨h1,h2⟩:=List.mem_filter.mp hi
  exact ⟨i,rfl,List.mem_range.mp h1,eq_of_beq h2⟩
 ·rintro ⟨i,rfl,h1,h2⟩
  exact ⟨i,List.mem_filter.mpr ⟨List.mem_range.mpr h1,by rw [h2];exact beq_self_eq_true _⟩,rfl⟩
theorem atL_nd (hs:List Int) (v:Int):(atL hs v).Nodup:=by
 unfold atL
 exact nd_map (List.nodup_range.sublist List.filter_sublist) fun x _ y _ e=>Int.ofNat.inj e
theorem hgts_at {n:Nat} {ps:List (Int×Int)} {i:Nat} (h:i < n):(hgts n ps).getD i 0=hgt ps i:=by
 unfold hgts
 rw [List.getD_eq_getElem?_getD,List.getElem?_map,List.getElem?_range h]
 rfl
theorem hgts_len (n:Nat) (ps:List (Int×Int)):(hgts n ps).length=n:=by unfold hgts;rw [List.length_map,List.length_range]
theorem sem_of {n:Nat} {ps:List (Int×Int)} (ho:Ord n ps) (hb:barB n ps=false):Sem ps:=by
 unfold barB at hb
 rw [Bool.or_eq_false_iff] at hb
 refine ⟨fun a h=>(ho.ix _ h).2.2.2.2 rfl,fun a b c d h1 h2=>?_⟩
 have:=any_f (any_f hb.1 h1) h2
 have e1:has ps a b=true:=decide_eq_true h1
 have e2:has ps c d=true:=decide_eq_true h2
 unfold bar2B at this
 dsimp only at this
 rw [e1,e2] at this
 cases e3:has ps a d with
 | true=>exact .inl (of_decide_eq_true e3)
 | false=>
  cases e4:has ps c b with
  | true=>exact .inr (of_decide_eq_true e4)
  | false=>rw [e3,e4] at this;cases this
structure DnOk (ps:List (Int×Int)) (L:Int→Int) (ds:List Int):Prop where
 on:∀ c∈ds,LonAt ps L c
 cl:∀ c∈ds,∀ a,(a,c)∈ps→a∈ds
noncomputable def putL (L:Int→Int) (t v:Int):Int→Int:=fun c=>if c=t then v else L c
theorem putL_ne {L:Int→Int} {t v c:Int} (h:c≠t):putL L t v c=L c:=if_neg h
theorem putL_eq {L:Int→Int} {t v:Int}:putL L t v t=v:=if_pos rfl
theorem DnOk.add {ps:List (Int×Int)} {L:Int→Int} {ds:List Int} (h:DnOk ps L ds) (hS:Sem ps) {t M:Int} (ht:t∉ds) (hb:∀ a,(a,t)∈ps→a∈ds)
  (hM:((∀ a,(a,t)∉ps)∧M=0)∨((∃ a,(a,t)∈ps∧L a=M)∧∀ a,(a,t)∈ps→L a≤M)):
  DnOk ps (putL L t (1 + M)) (ds++[t])∧putK (kvV L ds) (Sum.inl t) (.int (1 + M))=kvV (putL L t (1 + M)) (ds++[t]):=by
 have ne:∀ c∈ds,c≠t:=fun c hc e=>ht (e▸hc)
 refine ⟨⟨fun c hc=>?_,fun c hc a ha=>?_⟩,?_⟩
 ·rcases List.mem_append.mp hc with hc | hc
  ·have o:=h.on c hc
   have ea:∀ a,(a,c)∈ps→putL L t (1 + M) a=L a:=fun a ha=>putL_ne (ne a (h.cl c hc a ha))
   refine ⟨by rw [putL_ne (ne c hc)];exact o.lo,fun a ha=>by rw [putL_ne (ne c hc),ea a ha];exact o.ge a ha,?_⟩
   rw [putL_ne (ne c hc)]
   rcases o.is with z | ⟨a,ha,z⟩
   ·exact .inl z
   ·exact .inr ⟨a,ha,by rw [ea a ha];exact z⟩
  ·rw [List.mem_singleton] at hc
   subst hc
   have ea:∀ a,(a,c)∈ps→putL L c (1 + M) a=L a:=fun a ha=>putL_ne (fun e=>hS.irr c (by rw [e] at ha;exact ha))
   rcases hM with ⟨no,rfl⟩ | ⟨⟨a0,ha0,e0⟩,le⟩
   ·exact ⟨by rw [putL_eq];omega,fun a ha=>absurd ha (no a),.inl (by rw [putL_eq];rfl)⟩
   ·have:=(h.on a0 (hb a0 ha0)).lo
    exact ⟨by rw [putL_eq];omega,fun a ha=>by rw [putL_eq,ea a ha];have:=le a ha;omega,.inr ⟨a0,ha0,by rw [putL_eq,ea a0 ha0];omega⟩⟩
 ·rcases List.mem_append.mp hc with hc | hc
  ·exact List.mem_append_left _ (h.cl c hc a ha)
  ·rw [List.mem_singleton] at hc
   subst hc
   exact List.mem_append_left _ (hb a ha)
 ·rw [putK_new _ (kv_out ht),kv_snoc,putL_eq]
  congr 1
  exact kv_congr fun c hc=>(putL_ne (ne c hc)).symm
noncomputable def dnU (hs ms:List Int) (i:Nat):List Int:=(ms.take i).flatMap (atL hs)
theorem dn_succ {hs ms:List Int} {i:Nat} {v:Int} (h:ms[i]? =some v):dnU hs ms (i + 1)=dnU hs ms i++atL hs v:=by
 unfold dnU
 rw [List.take_add_one,h,List.flatMap_append]
 simp
theorem take_lt {hs ms:List Int} (nb:Nub hs ms) {i:Nat} {v u:Int} (h:ms[i]? =some v):u∈ms.take i↔u∈ms∧u < v:=by
 have hi:=(List.getElem?_eq_some_iff.mp h).1
 have ev:ms[i]=v:=(List.getElem?_eq_some_iff.mp h).2
 have pw:=List.pairwise_iff_getElem.mp nb.up
 constructor
 ·intro hu
  obtain ⟨k,hk,e⟩:=List.getElem_of_mem hu
  rw [List.length_take] at hk
  rw [List.getElem_take] at e
  have:=pw k i (by omega) hi (by omega)
  exact ⟨List.mem_of_mem_take hu,by omega⟩
 ·rintro ⟨hu,lt⟩
  obtain ⟨k,hk,e⟩:=List.getElem_of_mem hu
  by_cases g:k < i
  ·rw [←e]
   exact List.mem_take_iff_getElem.mpr ⟨k,by omega,rfl⟩
  ·by_cases z:k=i
   ·subst z;omega
   ·have:=pw i k hi hk (by omega)
    omega
theorem mem_dn {n:Nat} {ps:List (Int×Int)} {ms:List Int} (nb:Nub (hgts n ps) ms) {i:Nat} {v:Int} (h:ms[i]? =some v) (c:Nat) (hc:c < n):(c:Int)∈dnU (hgts n ps) ms i↔hgt ps c < v:=by
 unfold dnU
 rw [List.mem_flatMap]
 have hm:hgt ps c∈ms:=(nb.mem _).mpr (List.mem_map.mpr ⟨c,List.mem_range.mpr hc,rfl⟩)
 constructor
 ·rintro ⟨u,hu,hcu⟩
  obtain ⟨k,ek,hk,e⟩:=mem_atL.mp hcu
  have:c=k:=Int.ofNat.inj ek
  subst this
  rw [hgts_at hc] at e
  rw [e]
  exact ((take_lt nb h).mp hu).2
 ·intro lt
  exact ⟨hgt ps c,(take_lt nb h).mpr ⟨hm,lt⟩,mem_atL.mpr ⟨c,rfl,by rw [hgts_len];exact hc,hgts_at hc⟩⟩
theorem mem_all {n:Nat} {ps:List (Int×Int)} {ms:List Int} (nb:Nub (hgts n ps) ms) (c:Int):c∈dnU (hgts n ps) ms ms.length↔∃ k:Nat,c=k∧k < n:=by
 unfold dnU
 rw [List.take_length,List.mem_flatMap]
 constructor
 ·rintro ⟨u,hu,hcu⟩
  obtain ⟨k,ek,hk,e⟩:=mem_atL.mp hcu
  rw [hgts_len] at hk
  exact ⟨k,ek,hk⟩
 ·rintro ⟨k,rfl,hk⟩
  exact ⟨hgt ps k,(nb.mem _).mpr (List.mem_map.mpr ⟨k,List.mem_range.mpr hk,rfl⟩),mem_atL.mpr ⟨k,rfl,by rw [hgts_len];exact hk,hgts_at hk⟩⟩
theorem flat_lenI {f:Int→List Int} {b:Nat} (h:∀ x,(f x).length≤b):∀ l:List Int,(l.flatMap f).length≤l.length * b
 | []=>Nat.zero_le _
 | x::l=>by
  rw [List.flatMap_cons,List.length_append,List.length_cons,Nat.succ_mul]
  have:=flat_lenI h l
  have:=h x
  omega
theorem atL_len (hs:List Int) (v:Int):(atL hs v).length≤hs.length:=atU_len hs v hs.length
theorem sameT_put {d:Addr} {H:Hp} {o:HO}:SameT d H (upd H d o):=fun b u e g=>by rw [upd_ne g];exact e
section
variable {P:Program} {w:World} {K:PySem.W.Frag} {mg:Str→Option Value} {base:Heap} {t:Ad}
set_option genSizeOf false in
set_option genInjectivity false in
inductive sp_longest (vs:List V) (H:Hp) (Q:VK) (zz3:XK):Prop where
 | mk (x:V) (n:Nat) (ps:List (Int×Int)) (zh0:vs=[x]) (zh1:Is H x (ordD n ps)) (zh2:Ord n ps) (zh3:barB n ps=false) (zh4:∀ (L:Int→Int) (m:Int) H',Same H H'→(∀ c:Nat,c < n→LonAt ps L c∧L c≤m)→(∃ c:Nat,c < n∧L c=m)→Q (.int m) H'):sp_longest vs H Q zz3
theorem ok_longest (T:Txt K mg t):FnOk P w K mg base CX0 9 t.a_longest t.d_longest ["order"] sp_longest:=by
 refine T.F_longest.ok sc_longest (fun vs H Q E h=>?_) (fun cdv A outer s H vs Q E hr h=>?_)
 ·obtain ⟨x,n,ps,rfl,_⟩:=h
  rfl
 ·obtain ⟨x,n,ps,rfl,hx,ho,hb,q⟩:=h
  refine ⟨_,(pss_cons (ps_set (i:=1) sc_longest.nd rfl (Or.inr rfl) pe_dnewK)
   (pss_cons (ps_for PassesOwn.never rfl (k_plst K (pe_call (ok_row T) (hr.mono (by decide)) rfl T.m_row T.F_row.kp T.b_row .nil pass0 (pa_cons (pv 0) pa_nil))) (pg_name (i:=2) sc_longest.nd rfl (Or.inl rfl)) (pss_one (ps_for PassesOwn.never rfl (k_plst K (pv 2)) (pg_name (i:=3) sc_longest.nd rfl (Or.inr rfl)) (pss_cons (ps_set_lc (i:=4) sc_longest.nd rfl rfl rfl rfl ⟨True.intro,True.intro,True.intro,(.inl rfl),(.inl rfl),True.intro⟩ (M:=["one","other","lengths","thing"]) (.own (.own (.free 1 rfl rfl (.free 3 rfl rfl .nil)))) (gk_tup (gks_cons rfl (gks_cons rfl gks_nil))) rfl (by decide +kernel) (k_ptup K (pe_ix (k_ix K) (pv 0) pe_int (fun _ _=>rfl))) (fun C fp s1 H1=>⟨k_gtup K (n:=2) rfl (pgs_cons (pg_name (i:=0) (show (["one","other","lengths","thing"]:List Str).Nodup by decide +kernel) rfl (Or.inl rfl)) (pgs_cons (pg_name (i:=1) (show (["one","other","lengths","thing"]:List Str).Nodup by decide +kernel) rfl (Or.inl rfl)) pgs_nil)),pif_one (pt_cmpR (op_eqD hr.units) (pv 1) (pv 3) (nomark _)),(pe_dget (hu_of hr) (pv 2) (pv 0) (fun _ _=>rfl))⟩))
   (pss_one (ps_dput (hu_of hr) (pv 1) (pv 3) (pe_op op_add pe_int (k_maxD rfl T.n_max (pa_cons (pv 4) pa_nil) pe_int)) rfl))))))
   (pss_one (ps_ret (k_maxVals rfl T.n_max (pv 1)))))),?_⟩
  have n8:=ho.hi
  obtain ⟨oa,ob,xs,rfl,ea,eb,hxs⟩:=is_ord hx
  have hS:=sem_of ho hb
  refine fun d hd=>?_
  have s0:=Same.upd (o:=.dK []) hd
  have ed:upd H d (.dK []) d=some (.dK (kvV (fun _=>0) [])):=upd_same
  have hx0:=hx.same s0
  have ea0:=s0 _ _ ea
  have eb0:=s0 _ _ eb
  generalize upd H d (.dK [])=H0 at s0 ed hx0 ea0 eb0
  walk_at "rd"
  refine ⟨_,n,ps,rfl,hx0,ho,hb,fun r zs ms H1 s1 hr1 nb er hz=>?_⟩
  have lm:=nub_len nb
  rw [hgts_len] at lm
  have hlz:=hz.1
  have ed1:=s1 _ _ ed
  have hdr:∀ c u,H c=some u→c≠d:=fun c u e=>ne_of_none e hd
  refine ⟨r,rfl,⟨zs,SqL.of er⟩,?_⟩
  refine fp_list (K:=K) (xs:=zs) (fun i σ H'=>(∃ v2 v3 v4,σ=[some (.ref oa),some (.ref d),v2,v3,v4])∧SameT d H1 H'∧∃ L,DnOk ps L (dnU (hgts n ps) ms i)∧H' d=some (.dK (kvV L (dnU (hgts n ps) ms i))))
   ⟨⟨_,_,_,rfl⟩,SameT.refl _ _,fun _=>0,⟨fun c hc=>(by cases hc),fun c hc=>(by cases hc)⟩,ed1⟩ (fun i σ H' _ h=>SqL.of (h.2.1 _ _ er (by intro z;rw [z,ed1] at er;cases er))) ?_ ?_
  ·rintro i x σ H2 hx2 ⟨⟨v2,v3,v4,rfl⟩,s2,L,dn,ed2⟩
   have hi:i < ms.length:=by have:=(List.getElem?_eq_some_iff.mp hx2).1;omega
   obtain ⟨r2,e1,e2⟩:=hz.2 i ms[i] (List.getElem?_eq_getElem hi)
   rw [hx2] at e1
   cases e1
   have em:ms[i]? =some ms[i]:=List.getElem?_eq_getElem hi
   generalize ms[i]=v at em e2
   walk_at "rd"
   have r2d:r2≠d:=by intro z;rw [z,ed1] at e2;cases e2
   refine ⟨r2,rfl,⟨_,SqL.of (s2 _ _ e2 r2d)⟩,?_⟩
   refine fp_list (K:=K) (xs:=(atL (hgts n ps) v).map V.int) (fun j σ H'=>(∃ v3 v4,σ=[some (.ref oa),some (.ref d),some (.ref r2),v3,v4])∧SameT d H1 H'∧∃ L,DnOk ps L (dnU (hgts n ps) ms i++(atL (hgts n ps) v).take j)∧H' d=some (.dK (kvV L (dnU (hgts n ps) ms i++(atL (hgts n ps) v).take j))))
    ⟨⟨_,_,rfl⟩,s2,L,by simpa using dn,by simpa using ed2⟩ (fun j σ H' _ h=>SqL.of (h.2.1 _ _ e2 r2d)) ?_ ?_
   ·rintro j x σ H3 hx3 ⟨⟨v3,v4,rfl⟩,s3,L,dn,ed3⟩
    rw [List.getElem?_map] at hx3
    cases et:(atL (hgts n ps) v)[j]? with
    | none=>rw [et] at hx3;cases hx3
    | some c=>
    rw [et] at hx3
    cases hx3
    obtain ⟨k,rfl,hk,hv⟩:=mem_atL.mp (List.mem_of_getElem? et)
    rw [hgts_len] at hk
    rw [hgts_at hk] at hv
    have ea3:=s3 _ _ (s1 _ _ ea0) (hdr _ _ ea)
    have eb3:=s3 _ _ (s1 _ _ eb0) (hdr _ _ eb)
    have ix3:IsAll H3 xs (ps.map prD):=hxs.tmono (fun c us e=>s3 _ _ (s1 _ _ (s0 _ _ e)) (hdr _ _ e)) (noLs_pr _)
    have hlx:xs.length=ps.length:=by rw [hxs.length,List.length_map]
    have sz:=ho.small
    have bel:∀ a,(a,(k:Int))∈ps→a∈dnU (hgts n ps) ms i++(atL (hgts n ps) v).take j:=fun a ha=>by
     have hh:=hgt_lt ho hS ha
     obtain ⟨a0,a1,_⟩:=ho.ix _ ha
     have ean:a=((a.toNat:Nat):Int):=by omega
     rw [ean] at hh ⊢
     exact List.mem_append_left _ ((mem_dn nb em a.toNat (by omega)).mpr (by rw [←hv];exact hh))
    have new:(k:Int)∉dnU (hgts n ps) ms i++(atL (hgts n ps) v).take j:=fun z=>by
     rcases List.mem_append.mp z with z | z
     ·have:=(mem_dn nb em k hk).mp z
      omega
     ·obtain ⟨j',hj',e'⟩:=List.getElem_of_mem z
      rw [List.length_take] at hj'
      rw [List.getElem_take] at e'
      obtain ⟨hj,ej⟩:=List.getElem?_eq_some_iff.mp et
      exact List.pairwise_iff_getElem.mp (atL_nd (hgts n ps) v) j' j (by omega) hj (by omega) (e'.trans ej.symm)
    have lds:(dnU (hgts n ps) ms i++(atL (hgts n ps) v).take j).length≤1000:=by
     have b0:∀ x,(atL (hgts n ps) x).length≤8:=fun x=>by
      have:=atL_len (hgts n ps) x
      rw [hgts_len] at this
      omega
     have b1:=flat_lenI b0 (ms.take i)
     have b2:=b0 v
     rw [List.length_take] at b1
     rw [List.length_append,List.length_take]
     unfold dnU
     omega
    walk_at "rd"
    refine ⟨ob,rfl,⟨xs,SqT.of eb3⟩,?_⟩
    refine lp_tup (K:=K) (xs:=xs) (small_ln (by omega)) (fun i' ys H'=>Same H3 H'∧ys=((belL (ps.take i') (k:Int)).map L).map V.int) ⟨Same.refl _,rfl⟩ (by
     rintro j zs H' ⟨_,rfl⟩
     rw [List.length_map,List.length_map]
     have:=belL_len (ps.take j) (k:Int)
     rw [List.length_take] at this
     omega) (fun j zs H' _ h=>SqT.of (h.1 _ _ eb3)) ?_ ?_
    ·rintro j4 x ys H4 hx4 ⟨s4,rfl⟩
     obtain ⟨p0,r4,hp0,rfl,er4⟩:=pr_get' (ix3.same s4) hx4
     walk_at "rd"
     refine rd_gtup er4 rfl ?_
     walk_at "rd"
     rw [belL_take _ _ _ _ hp0]
     refine ifB (fun g=>?_) (fun g=>?_)
     ·have g':(p0.2==(k:Int))=true:=g
      have g2:p0.2=(k:Int):=eq_of_beq g'
      have hin:(p0.1,(k:Int))∈ps:=by rw [←g2];exact List.mem_of_getElem? hp0
      refine rd_dget ?_
      walk_at "rd"
      refine ⟨d,V.int (L p0.1),rfl,?_,s4,?_⟩
      ·rw [←kv_in (L:=L) (bel _ hin)]
       exact DGet.k (k:=Sum.inl p0.1) (s4 _ _ ed3)
      ·rw [if_pos g',List.map_append,List.map_append]
       rfl
     ·have g':(p0.2==(k:Int))=false:=g
      rw [if_neg (by rw [g'];exact Bool.false_ne_true),List.append_nil]
      exact ⟨s4,rfl⟩
    ·rintro ys H4 ⟨s4,rfl⟩ l hl
     rw [hlx,List.take_length]
     have s5:=s4.trans (Same.upd (o:=.lst (((belL ps (k:Int)).map L).map V.int)) hl)
     have e5:upd H4 l (.lst (((belL ps (k:Int)).map L).map V.int)) l=some (.lst (((belL ps (k:Int)).map L).map V.int)):=upd_same
     generalize upd H4 l (.lst (((belL ps (k:Int)).map L).map V.int))=H5 at s5 e5
     have ed5:=s5 _ _ ed3
     have fin:∀ M:Int,(((∀ a,(a,(k:Int))∉ps)∧M=0)∨((∃ a,(a,(k:Int))∈ps∧L a=M)∧∀ a,(a,(k:Int))∈ps→L a≤M))→∃ H6,DPut H5 d (.int (k:Int)) (.int (1 + M)) H6∧(∃ v3 v4,[some (V.ref oa),some (V.ref d),some (V.ref r2),some (V.int (k:Int)),some (V.ref l)]=[some (V.ref oa),some (V.ref d),some (V.ref r2),v3,v4])∧SameT d H1 H6∧∃ L,DnOk ps L (dnU (hgts n ps) ms i++(atL (hgts n ps) v).take (j + 1))∧H6 d=some (.dK (kvV L (dnU (hgts n ps) ms i++(atL (hgts n ps) v).take (j + 1)))):=fun M hM=>by
      obtain ⟨d1,d2⟩:=dn.add hS new bel hM
      refine ⟨_,DPut.k (k:=Sum.inl (k:Int)) ed5 (by rw [kv_len];exact small1000 lds),⟨_,_,rfl⟩,(s3.trans s5.t).trans sameT_put,putL L (k:Int) (1 + M),?_,?_⟩
      ·rw [List.take_add_one,et,←List.append_assoc]
       exact d1
      ·rw [upd_same,List.take_add_one,et,←List.append_assoc,d2]
       rfl
     walk_at "rd"
     refine rd_dput ?_
     walk_at "rd"
     refine rd_maxD ?_
     walk_at "rd"
     refine ⟨l,(belL ps (k:Int)).map L,rfl,e5,fun z=>?_,fun M hM1 hM2=>?_⟩
     ·rw [List.map_eq_nil_iff] at z
      obtain ⟨H6,g1,g2⟩:=fin 0 (.inl ⟨fun a ha=>(by have:=mem_bel.mpr ha;rw [z] at this;cases this),rfl⟩)
      refine ⟨_,_,rfl,rfl,?_⟩
      walk_at "rd"
      exact ⟨d,H6,rfl,g1,g2⟩
     ·obtain ⟨H6,g1,g2⟩:=fin M (.inr ⟨by
       obtain ⟨a,ha,e⟩:=List.mem_map.mp hM1
       exact ⟨a,mem_bel.mp ha,e⟩,fun a ha=>hM2 _ (List.mem_map.mpr ⟨a,mem_bel.mpr ha,rfl⟩)⟩)
      refine ⟨_,_,rfl,rfl,?_⟩
      walk_at "rd"
      exact ⟨d,H6,rfl,g1,g2⟩
   ·rintro σ H3 ⟨⟨v3,v4,rfl⟩,s3,L,dn,ed3⟩
    rw [List.length_map,List.take_length,←dn_succ em] at dn ed3
    exact ⟨⟨_,_,_,rfl⟩,s3,L,dn,ed3⟩
  ·rintro σ H2 ⟨⟨v2,v3,v4,rfl⟩,s2,L,dn,ed2⟩
   rw [hlz] at dn ed2
   walk_at "rd"
   refine rd_maxVals ?_
   walk_at "rd"
   refine ⟨d,kvL L (dnU (hgts n ps) ms ms.length),rfl,ed2,?_,fun m hm hle=>?_⟩
   ·have:(0:Int)∈dnU (hgts n ps) ms ms.length:=(mem_all nb 0).mpr ⟨0,rfl,ho.lo⟩
    intro z
    unfold kvL at z
    rw [List.map_eq_nil_iff] at z
    rw [z] at this
    cases this
   ·refine q L m H2 (fun c u e=>s2 _ _ (s1 _ _ (s0 _ _ e)) (hdr _ _ e)) (fun c hc=>?_) ?_
    ·have hin:=(mem_all nb (c:Int)).mpr ⟨c,rfl,hc⟩
     exact ⟨dn.on _ hin,hle _ (List.mem_map.mpr ⟨_,hin,rfl⟩)⟩
    ·obtain ⟨p,hp,rfl⟩:=hm
     obtain ⟨c,hc,rfl⟩:=List.mem_map.mp hp
     obtain ⟨k,rfl,hk⟩:=(mem_all nb c).mp hc
     exact ⟨k,hk,rfl⟩
end
end My
namespace My
open PySem L2
noncomputable def stF:Nat→List (List Int)
 | 0=>[[]]
 | k + 1=>stF k++(stF k).map fun p=>p++[(k:Int)]
theorem stF_mem:∀ (k:Nat) (p:List Int),p∈stF k↔GM.InN k p∧p.Pairwise (· < ·)
 | 0,p=>by
  rw [stF,List.mem_singleton]
  constructor
  ·rintro rfl
   exact ⟨fun t ht=>(nomatch ht),.nil⟩
  ·rintro ⟨h,_⟩
   cases p with
   | nil=>rfl
   | cons t p=>have:=h t List.mem_cons_self;omega
 | k + 1,p=>by
  rw [stF,List.mem_append,stF_mem k p,List.mem_map]
  constructor
  ·rintro (⟨h1,h2⟩ | ⟨r,hr,rfl⟩)
   ·exact ⟨fun t ht=>by have:=h1 t ht;omega,h2⟩
   ·obtain ⟨h1,h2⟩:=(stF_mem k r).mp hr
    refine ⟨fun t ht=>?_,?_⟩
    ·rcases List.mem_append.mp ht with ht | ht
     ·have:=h1 t ht;omega
     ·rcases List.mem_singleton.mp ht with rfl
      omega
    ·rw [List.pairwise_append]
     refine ⟨h2,List.pairwise_singleton _ _,fun a ha b hb=>?_⟩
     rcases List.mem_singleton.mp hb with rfl
     exact (h1 a ha).2
  ·rintro ⟨h1,h2⟩
   by_cases hk:(k:Int)∈p
   ·right
    have ne:p≠[]:=fun z=>by rw [z] at hk;cases hk
    have e:=(List.dropLast_concat_getLast ne).symm
    have h2':=h2
    rw [e,List.pairwise_append] at h2'
    have last:p.getLast ne=(k:Int):=by
     have l1:=h1 (p.getLast ne) (List.getLast_mem ne)
     rw [e] at hk
     rcases List.mem_append.mp hk with hk | hk
     ·have:=h2'.2.2 _ hk _ List.mem_cons_self
      omega
     ·exact (List.mem_singleton.mp hk).symm
    refine ⟨p.dropLast,(stF_mem k _).mpr ⟨fun t ht=>?_,h2'.1⟩,by rw [last] at e;exact e.symm⟩
    have l1:=h1 t (List.dropLast_subset p ht)
    have l2:=h2'.2.2 t ht _ List.mem_cons_self
    rw [last] at l2
    omega
   ·left
    refine ⟨fun t ht=>?_,h2⟩
    have:=h1 t ht
    have:t≠(k:Int):=fun z=>hk (z▸ht)
    omega
theorem stF_nd:∀ k,(stF k).Nodup
 | 0=>by rw [stF];exact List.pairwise_singleton _ _
 | k + 1=>by
  rw [stF]
  unfold List.Nodup
  rw [List.pairwise_append]
  refine ⟨stF_nd k,?_,fun p hp r hr z=>?_⟩
  ·rw [List.pairwise_map]
   exact List.Pairwise.imp (fun {a b} h z=>h (List.append_inj' z rfl).1) (stF_nd k)
  ·obtain ⟨s,hs,rfl⟩:=List.mem_map.mp hr
   subst z
   have:=((stF_mem k _).mp hp).1 (k:Int) (List.mem_append_right _ List.mem_cons_self)
   omega
theorem stF_head:∀ k,∃ l,stF k=[]::l
 | 0=>⟨[],rfl⟩
 | k + 1=>by
  obtain ⟨l,e⟩:=stF_head k
  rw [stF,e]
  exact ⟨_,rfl⟩
theorem stF_len:∀ k,(stF k).length=2 ^ k
 | 0=>rfl
 | k + 1=>by
  rw [stF,List.length_append,List.length_map,stF_len k,Nat.pow_succ]
  omega
noncomputable def isgr (ps:List (Int×Int)) (p:List Int):Bool:=decide ((ps.filter fun q=>decide (q.1∈p)&&decide (q.2∈p))=[])
theorem grp_parts {n:Nat} {ps:List (Int×Int)} (irr:∀ a,has ps a a=false):GM.Parts n (GM.gr (has ps)) (((stF n).drop 1).filter fun p=>isgr ps p):=by
 obtain ⟨l,e⟩:=stF_head n
 have nd:=stF_nd n
 have hm:=stF_mem n
 rw [e] at nd hm
 rw [e,List.drop_one,List.tail_cons]
 obtain ⟨n1,n2⟩:=List.nodup_cons.mp nd
 refine ⟨List.Pairwise.filter _ n2,fun p=>?_⟩
 rw [List.mem_filter]
 have in_l:p∈l↔p≠[]∧GM.InN n p∧p.Pairwise (· < ·):=by
  constructor
  ·intro h
   exact ⟨fun z=>n1 (z▸h),(hm p).mp (List.mem_cons_of_mem _ h)⟩
  ·rintro ⟨a,b⟩
   rcases List.mem_cons.mp ((hm p).mpr b) with z | z
   ·exact absurd z a
   ·exact z
 have iff:isgr ps p=true↔∀ a b,a∈p→b∈p→has ps a b=false:=by
  unfold isgr
  rw [decide_eq_true_iff,List.filter_eq_nil_iff]
  constructor
  ·intro h a b ha hb
   cases g:has ps a b with
   | false=>rfl
   | true=>exact absurd (by simp [ha,hb]) (h (a,b) (has_iff.mp g))
  ·intro h q hq g
   rw [Bool.and_eq_true,decide_eq_true_iff,decide_eq_true_iff] at g
   have:=h q.1 q.2 g.1 g.2
   rw [has_iff.mpr (by exact hq)] at this
   cases this
 rw [in_l,iff]
 constructor
 ·rintro ⟨⟨a,b,c⟩,d⟩
  refine ⟨a,b,List.Pairwise.imp_of_mem (fun {x y} hx hy g=>?_) c⟩
  show (decide (x < y)&&(!has ps x y&& !has ps y x))=true
  rw [decide_eq_true g,d x y hx hy,d y x hy hx]
  rfl
 ·rintro ⟨a,b,c⟩
  refine ⟨⟨a,b,List.Pairwise.imp (fun {x y} g=>?_) c⟩,fun x y hx hy=>?_⟩
  ·unfold GM.gr at g
   rw [Bool.and_eq_true] at g
   exact of_decide_eq_true g.1
  ·by_cases e:x=y
   ·subst e
    cases g:has ps x x with
    | false=>rfl
    | true=>rw [irr] at g;cases g
   ·have sub:∀ {l:List Int},GM.Pt (GM.gr (has ps)) l→x∈l→y∈l→has ps x y=false:=fun {l}=>by
     induction l with
     | nil=>intro _ h;cases h
     | cons z l ih=>
      intro hp h1 h2
      obtain ⟨p1,p2⟩:=List.pairwise_cons.mp hp
      rcases List.mem_cons.mp h1 with e1 | g1
      ·rcases List.mem_cons.mp h2 with e2 | g2
       ·exact absurd (e1.trans e2.symm) e
       ·have:=p1 y g2
        rw [←e1] at this
        unfold GM.gr GM.bes at this
        simp at this
        exact this.2.1
      ·rcases List.mem_cons.mp h2 with e2 | g2
       ·have:=p1 x g1
        rw [←e2] at this
        unfold GM.gr GM.bes at this
        simp at this
        exact this.2.2
       ·exact ih p2 g1 g2
    exact sub c hx hy
theorem rd_slL {K:PySem.W.Frag} {H:Hp} {Q:VK} {a:Addr} {xs:List V} {lo hi:Option Int} (e:H a=some (.lst xs)) (h:∀ p,H p=none→Q (.ref p) (upd H p (.lst (cutV xs lo hi)))):rSlL K (.ref a) lo hi H Q:=⟨a,xs,rfl,SqL.of e,h⟩
section
variable {P:Program} {w:World} {K:PySem.W.Frag} {mg:Str→Option Value} {base:Heap} {t:Ad}
set_option genSizeOf false in
set_option genInjectivity false in
inductive sp_sets (vs:List V) (H:Hp) (Q:VK) (zz3:XK):Prop where
 | mk (n:Nat) (zh0:vs=[.int n]) (zh1:n≤8) (zh2:∀ r H' zs,H r=none→Same H H'→H' r=some (.lst zs)→Tps H' zs ((stF n).drop 1)→Q (.ref r) H'):sp_sets vs H Q zz3
theorem cut_one (xs:List V):cutV xs (some 1) none=xs.drop 1:=by
 unfold cutV
 rw [HT.sIx_none]
 have e1:HT.sIx xs.length 0 (some 1)=min 1 xs.length:=by
  have:=HT.sIx_nat xs.length 0 1
  rw [show ((1:Nat):Int)=1 from rfl] at this
  rw [this]
 rw [e1]
 cases xs with
 | nil=>rfl
 | cons x xs=>simp
theorem tps_tail {H:Hp} {zs:List V} {L:List (List Int)} (h:Tps H zs L):Tps H (zs.drop 1) (L.drop 1):=by
 cases zs with
 | nil=>
  have:=h.len
  cases L with
  | nil=>exact .nil
  | cons p L=>simp at this
 | cons z zs=>
  cases L with
  | nil=>have:=h.len;simp at this
  | cons p L=>
   unfold Tps at h
   rw [List.map_cons] at h
   cases h with
   | cons a b=>exact b
theorem st64 {n:Nat} (h:n≤8):(stF n).length≤256:=by rw [stF_len];exact pw6 h
theorem ok__law_sets (T:Txt K mg t):FnOk P w K mg base CX0 1 t.a__law_sets t.d__law_sets ["_law_many"] sp_sets:=by
 refine T.F__law_sets.ok sc__law_sets (fun vs H Q E h=>?_) (fun cdv A outer s H vs Q E hr h=>?_)
 ·obtain ⟨n,rfl,_⟩:=h
  rfl
 ·obtain ⟨n,rfl,n6,q⟩:=h
  refine ⟨_,(pss_cons (ps_set (i:=1) sc__law_sets.nd rfl (Or.inl rfl) (pe_lst (pa_cons (pe_tup pa_nil) pa_nil)))
   (pss_cons (ps_for PassesOwn.never rfl (pi_range1 rfl T.n_range (pa_cons (pv 0) pa_nil)) (pg_name (i:=2) sc__law_sets.nd rfl (Or.inr rfl)) (pss_one (ps_set (i:=1) sc__law_sets.nd rfl (Or.inl rfl) (pe_op op_cat (pv 1) (pe_lc rfl ⟨True.intro,True.intro,(.inl rfl),True.intro⟩ (M:=["_law_line_up","_law_thing"]) (.own (.free 2 rfl rfl .nil)) (gk_name rfl) rfl (by decide +kernel) (k_plst K (pv 1)) (fun C fp s1 H1=>⟨pg_name (i:=0) (show (["_law_line_up","_law_thing"]:List Str).Nodup by decide +kernel) rfl (Or.inl rfl),pif_nil,(pe_op op_catU (pv 0) (pe_tup (pa_cons (pv 1) pa_nil)))⟩))))))
   (pss_one (ps_ret (pe_slice (k_slL K) (pv 1) (po_some pe_int) po_none))))),?_⟩
  walk_at "rd"
  refine ⟨Nat.zero_le _,fun p0 hp0=>?_⟩
  have f0:=Same.upd (o:=.tup []) hp0
  walk_at "rd"
  refine ⟨by show 1≤sizeLine;decide,fun pr hpr=>?_⟩
  have f1:=f0.trans (Same.upd (o:=.lst [V.ref p0]) hpr)
  have i1:Tps (upd (upd H p0 (.tup [])) pr (.lst [V.ref p0])) [V.ref p0] (stF 0):=.cons (is_tup ((Same.upd (o:=.lst [V.ref p0]) hpr) _ _ upd_same)) .nil
  have e1:upd (upd H p0 (.tup [])) pr (.lst [V.ref p0]) pr=some (.lst [V.ref p0]):=upd_same
  generalize upd (upd H p0 (.tup [])) pr (.lst [V.ref p0])=H1 at f1 i1 e1
  walk_at "rd"
  refine ⟨_,rfl,by omega,by omega,?_⟩
  rw [Int.toNat_natCast]
  refine fp_range (fun i σ H'=>∃ (pr:Addr) (zs:List V) (v2:Option V),σ=[some (.int n),some (.ref pr),v2]∧Same H H'∧H' pr=some (.lst zs)∧Tps H' zs (stF i)) ⟨pr,_,_,rfl,f1,e1,i1⟩ ?_ ?_
  ·rintro i σ H2 hi ⟨pr,zs,v2,rfl,s2,e2,i2⟩
   have lz:=i2.len
   have l64:=st64 (n:=i) (by omega)
   walk_at "rd"
   rw [Int.zero_add] at *
   refine ⟨pr,rfl,⟨_,SqL.of e2⟩,?_⟩
   refine lp_list (K:=K) (xs:=zs) (small_ln (by omega)) (fun m us H'=>Same H2 H'∧Tps H' us (((stF i).take m).map fun p=>p++[(i:Int)])) ⟨Same.refl _,.nil⟩ (by
    rintro m us H' ⟨_,h⟩
    rw [h.len,List.length_map,List.length_take]
    omega) (fun m us H' _ h=>SqL.of (h.1 _ _ e2)) ?_ ?_
   ·rintro m x us H3 hx ⟨s3,iu⟩
    obtain ⟨p,ap,hp,rfl,ea⟩:=i2.at hx
    have lp:p.length≤i:=by
     obtain ⟨a,b⟩:=(stF_mem i p).mp (List.mem_of_getElem? hp)
     have asy:GM.Asy (fun a b:Int=>decide (a < b)):=⟨fun a=>decide_eq_false (by omega),fun a b h=>decide_eq_false (by have:=of_decide_eq_true h;omega)⟩
     exact GM.Pt.len (al:=fun a b:Int=>decide (a < b)) asy (List.Pairwise.imp (fun h=>decide_eq_true h) b) a
    rw [List.take_add_one,hp,show (some p).toList=[p] from rfl,List.map_append]
    walk_at "rd"
    refine ⟨by show 1≤sizeLine;decide,fun q1 hq1=>?_⟩
    have f4:=Same.upd (o:=.tup [V.int (i:Int)]) hq1
    refine rd_catU (f4 _ _ (s3 _ _ ea)) upd_same (small_ln (by rw [List.length_map];show _ + 1≤1000;omega)) fun q2 H5 f5 e5=>?_
    have f45:=f4.trans f5
    refine ⟨s3.trans f45,?_⟩
    show IsAll _ _ _
    rw [List.map_append]
    refine IsAll.append (Tps.same iu f45) (.cons (is_tup ?_) .nil)
    rw [e5,List.map_append]
    rfl
   ·rintro us H3 ⟨s3,iu⟩ pl hpl
    rw [lz,List.take_length] at iu
    have lu:=iu.len
    rw [List.length_map] at lu
    have f4:=Same.upd (o:=.lst us) hpl
    have iu4:=iu.same f4
    have s4:=s3.trans f4
    have e4:upd H3 pl (.lst us) pl=some (.lst us):=upd_same
    generalize upd H3 pl (.lst us)=H4 at s4 iu4 e4 ⊢
    walk_at "rd"
    refine rd_cat (s4 _ _ e2) e4 (small_ln (by omega)) fun q5 hq5=>?_
    have f5:=Same.upd (o:=.lst (zs++us)) hq5
    walk_at "rd"
    refine ⟨q5,zs++us,_,rfl,(s2.trans s4).trans f5,upd_same,?_⟩
    show IsAll _ _ _
    rw [stF,List.map_append]
    exact IsAll.append (Tps.same (Tps.same i2 s4) f5) (Tps.same iu4 f5)
  ·rintro σ H2 ⟨pr,zs,v2,rfl,s2,e2,i2⟩
   walk_at "rd"
   refine rd_sl ?_
   walk_at "rd"
   refine rd_part ?_
   walk_at "rd"
   refine ⟨1,rfl,?_⟩
   refine rd_noP ?_
   refine rd_slL e2 fun p3 hp3=>?_
   rw [cut_one]
   have f3:=Same.upd (o:=.lst (zs.drop 1)) hp3
   exact q p3 _ _ (s2.free hp3) (s2.trans f3) upd_same (Tps.same (tps_tail i2) f3)
set_option genSizeOf false in
set_option genInjectivity false in
inductive sp_isg (vs:List V) (H:Hp) (Q:VK) (zz3:XK):Prop where
 | mk (x:V) (n:Nat) (ps:List (Int×Int)) (a:Addr) (p:List Int) (zh0:vs=[x,.ref a]) (zh1:Is H x (ordD n ps)) (zh2:ps.length≤100) (zh3:H a=some (.tup (p.map V.int))) (zh4:∀ H',Same H H'→Q (.bl (isgr ps p)) H'):sp_isg vs H Q zz3
theorem ok_pL (ps:List (Int×Int)):okD (.list (ps.map prD)):=by
 obtain ⟨a,b⟩:=ok_prT ps
 rw [PyData.canLay0] at a
 rw [PyData.depth] at b
 exact ⟨by rw [PyData.canLay0];exact a,by rw [PyData.depth];exact b⟩
theorem ok__law_is_group (T:Txt K mg t):FnOk P w K mg base CX0 1 t.a__law_is_group t.d__law_is_group ["_law_order","_law_things"] sp_isg:=by
 refine T.F__law_is_group.ok sc__law_is_group (fun vs H Q E h=>?_) (fun cdv A outer s H vs Q E hr h=>?_)
 ·obtain ⟨x,n,ps,a,p,rfl,_⟩:=h
  rfl
 ·obtain ⟨x,n,ps,a,p,rfl,hx,lps,ea,q⟩:=h
  refine ⟨_,(pss_one (ps_ret (pe_cmpR (op_eqD hr.units) (pe_lc rfl ⟨True.intro,True.intro,(.inl rfl),True.intro⟩ (M:=["_law_pair","_law_things"]) (.own (.free 1 rfl rfl .nil)) (gk_name rfl) rfl (by decide +kernel) (k_ptup K (pe_ix (k_ix K) (pv 0) pe_int (fun _ _=>rfl))) (fun C fp s1 H1=>⟨pg_name (i:=0) (show (["_law_pair","_law_things"]:List Str).Nodup by decide +kernel) rfl (Or.inl rfl),pif_one (PW.pt (pw_and (pt_cmpR (op_inD hr.units) (pe_ix (k_ix K) (pv 0) pe_int (fun _ _=>rfl)) (pv 1) (by rfl)) (pw_and1 (pt_cmpR (op_inD hr.units) (pe_ix (k_ix K) (pv 0) pe_int (fun _ _=>rfl)) (pv 1) (by rfl))))),(pv 0)⟩)) (pe_lst pa_nil) (nomark _)))),?_⟩
  obtain ⟨oa,ob,xs,rfl,eo,eb,hxs⟩:=is_ord hx
  have lx:xs.length=ps.length:=by rw [hxs.length,List.length_map]
  walk_at "rd"
  refine ⟨ob,rfl,⟨_,SqT.of eb⟩,?_⟩
  refine lp_tup (K:=K) (xs:=xs) (small_ln (by omega)) (fun i us H'=>H'=H∧IsAll H us (((ps.take i).filter fun q=>decide (q.1∈p)&&decide (q.2∈p)).map prD)) ⟨rfl,.nil⟩ (by
   rintro i us H' ⟨_,h⟩
   rw [h.length,List.length_map]
   refine Nat.le_trans (List.length_filter_le _ _) ?_
   rw [List.length_take]
   omega) (fun i us H' _ h=>by rw [h.1];exact SqT.of eb) ?_ ?_
  ·rintro i xx us H1 hxx ⟨rfl,iu⟩
   have hi:i < ps.length:=by rw [←lx];exact (List.getElem?_eq_some_iff.mp hxx).1
   obtain ⟨r,er,hr'⟩:=pr_at hxs hi
   rw [hxx] at er
   cases er
   have hpi:ps[i]? =some (ps.getD i (0,0)):=by simp [hi]
   rw [List.take_add_one,hpi,show (some (ps.getD i (0,0))).toList=[ps.getD i (0,0)] from rfl,List.filter_append,filter_one,List.map_append]
   generalize ps.getD i (0,0)=pq at hr' hpi ⊢
   walk_at "rd"
   refine rd_inI (.inr ea) ?_
   walk_at "rd"
   cases h1:decide (pq.1∈p) with
   | false=>
    refine ifF rfl ?_
    exact ⟨rfl,by simpa using iu⟩
   | true=>
    refine ifT rfl ?_
    walk_at "rd"
    refine rd_inI (.inr ea) ?_
    walk_at "rd"
    cases h2:decide (pq.2∈p) with
    | false=>
     refine ifF rfl ?_
     exact ⟨rfl,by simpa using iu⟩
    | true=>
     refine ifT rfl ?_
     walk_at "rd"
     exact ⟨rfl,iu.append (.cons (.tup hr' (.cons (.int _) (.cons (.int _) .nil))) .nil)⟩
  ·rintro us H1 ⟨rfl,iu⟩ pl hpl
   rw [lx,List.take_length] at iu
   have f2:=Same.upd (o:=.lst us) hpl
   have iu2:=iu.same f2
   have e2:upd H1 pl (.lst us) pl=some (.lst us):=upd_same
   generalize upd H1 pl (.lst us)=H2 at f2 iu2 e2 ⊢
   walk_at "rd"
   refine ⟨Nat.zero_le _,fun p3 hp3=>?_⟩
   have f3:=Same.upd (o:=.lst []) hp3
   refine rd_eqD (.lst (Rd.of (f3 _ _ e2)) (iu2.same f3)) (.lst (Rd.of upd_same) .nil) (ok_pL _) ⟨rfl,by decide⟩ ?_
   rw [show PyData.eqv (.list ((ps.filter fun q=>decide (q.1∈p)&&decide (q.2∈p)).map prD)) (.list [])=isgr ps p by
    unfold isgr
    rw [PyData.eqv]
    cases ps.filter fun q=>decide (q.1∈p)&&decide (q.2∈p) with
    | nil=>rfl
    | cons a l=>rfl]
   exact q _ (f2.trans f3)
end
end My
namespace My
open PySem L2
noncomputable def lastI (p:List Int):Int:=p.getLastD 0
noncomputable def gl (ps:List (Int×Int)) (p:List Int):List (List Int):=(ps.filter fun q=>decide (q.1=lastI p)).map fun q=>p++[q.2]
theorem last_snoc (p:List Int) (a:Int):lastI (p++[a])=a:=by
 unfold lastI
 simp [List.getLastD_eq_getLast?]
theorem mem_gl {ps:List (Int×Int)} {p r:List Int}:r∈gl ps p↔∃ b,r=p++[b]∧has ps (lastI p) b=true:=by
 unfold gl
 rw [List.mem_map]
 constructor
 ·rintro ⟨q,hq,rfl⟩
  obtain ⟨h1,h2⟩:=List.mem_filter.mp hq
  refine ⟨q.2,rfl,has_iff.mpr ?_⟩
  rw [←of_decide_eq_true h2]
  exact h1
 ·rintro ⟨b,rfl,h⟩
  exact ⟨(lastI p,b),List.mem_filter.mpr ⟨has_iff.mp h,decide_eq_true rfl⟩,rfl⟩
theorem lvl_lines {n:Nat} {ps:List (Int×Int)} (sm:GM.Semi n (has ps)) (nd:ps.Nodup) {k:Nat} {ls:List (List Int)} (h:GM.Lvl n (has ps) k ls):GM.Lvl n (has ps) (k + 1) (ls.flatMap (gl ps)) where
 nd:=by
  unfold List.Nodup
  rw [List.pairwise_flatMap]
  refine ⟨fun p _=>?_,List.Pairwise.imp (fun {p q} ne x hx y hy z=>?_) h.nd⟩
  ·unfold gl
   rw [List.pairwise_map]
   refine List.Pairwise.imp_of_mem (fun {a b} ha hb g z=>g ?_) (List.Pairwise.filter _ nd)
   have h1:=of_decide_eq_true (List.mem_filter.mp ha).2
   have h2:=of_decide_eq_true (List.mem_filter.mp hb).2
   have h3:=List.append_cancel_left z
   injection h3 with h3
   exact Prod.ext (h1.trans h2.symm) h3
  ·obtain ⟨b,rfl,_⟩:=mem_gl.mp hx
   obtain ⟨c,rfl,_⟩:=mem_gl.mp hy
   exact ne (List.append_inj' z rfl).1
 mem:=fun r=>by
  rw [List.mem_flatMap]
  constructor
  ·rintro ⟨p,hp,hr⟩
   obtain ⟨b,rfl,hb⟩:=mem_gl.mp hr
   obtain ⟨h1,h2,h3⟩:=(h.mem p).mp hp
   obtain ⟨_,b0,b1⟩:=sm.inn _ _ hb
   refine ⟨by rw [List.length_append,h1];rfl,fun t ht=>?_,?_⟩
   ·rcases List.mem_append.mp ht with ht | ht
    ·exact h2 t ht
    ·rcases List.mem_singleton.mp ht with rfl
     exact ⟨b0,b1⟩
   ·unfold GM.Pt
    rw [List.pairwise_append]
    refine ⟨h3,List.pairwise_singleton _ _,fun a ha c hc=>?_⟩
    rcases List.mem_singleton.mp hc with rfl
    have ne:p≠[]:=fun z=>by rw [z] at ha;cases ha
    have e:=(List.dropLast_concat_getLast ne).symm
    rw [e] at ha h3 hb
    rw [last_snoc] at hb
    unfold GM.Pt at h3
    rw [List.pairwise_append] at h3
    rcases List.mem_append.mp ha with ha | ha
    ·exact sm.tr (h3.2.2 a ha _ List.mem_cons_self) hb
    ·rcases List.mem_singleton.mp ha with rfl
     exact hb
  ·rintro ⟨h1,h2,h3⟩
   have ne:r≠[]:=fun z=>by subst z;cases h1
   have e:=(List.dropLast_concat_getLast ne).symm
   generalize r.getLast ne=b at e
   generalize r.dropLast=p at e
   subst e
   unfold GM.Pt at h3
   rw [List.pairwise_append] at h3
   have lp:p.length=k + 1:=by rw [List.length_append] at h1;simpa using h1
   refine ⟨p,(h.mem p).mpr ⟨lp,fun t ht=>h2 t (List.mem_append_left _ ht),h3.1⟩,mem_gl.mpr ⟨b,rfl,?_⟩⟩
   have ne2:p≠[]:=fun z=>by rw [z] at lp;cases lp
   have e2:=(List.dropLast_concat_getLast ne2).symm
   have:lastI p∈p:=by
    rw [e2,last_snoc]
    exact List.mem_append_right _ List.mem_cons_self
   exact h3.2.2 _ this b List.mem_cons_self
theorem ok_tps (R:List (List Int)):okD (.list (R.map (tupOf []))):=by
 obtain ⟨a,b⟩:=lay_tI R
 refine ⟨?_,?_⟩
 ·rw [PyData.canLay0];exact a
 ·rw [PyData.depth];omega
theorem eqv_tpsN (R:List (List Int)):PyData.eqv (.list (R.map (tupOf []))) (.list [])=decide (R=[]):=by
 rw [PyData.eqv]
 cases R with
 | nil=>rfl
 | cons p R=>rfl
section
variable {P:Program} {w:World} {K:PySem.W.Frag} {mg:Str→Option Value} {base:Heap} {t:Ad}
set_option genSizeOf false in
set_option genInjectivity false in
inductive sp_lin (vs:List V) (H:Hp) (Q:VK) (zz3:XK):Prop where
 | mk (x:V) (n:Nat) (ps:List (Int×Int)) (zh0:vs=[x]) (zh1:Is H x (ordD n ps)) (zh2:Ord n ps) (zh3:barB n ps=false) (zh4:n≤8) (zh5:∀ r H' zs L,H r=none→Same H H'→H' r=some (.lst zs)→Tps H' zs L→GM.Parts n (has ps) L→Q (.ref r) H'):sp_lin vs H Q zz3
theorem ok__law_lines (T:Txt K mg t):FnOk P w K mg base CX0 1 t.a__law_lines t.d__law_lines ["_law_order"] sp_lin:=by
 refine T.F__law_lines.ok sc__law_lines (fun vs H Q E h=>?_) (fun cdv A outer s H vs Q E hr h=>?_)
 ·obtain ⟨x,n,ps,rfl,_⟩:=h
  rfl
 ·obtain ⟨x,n,ps,rfl,hx,ho,hb,n6,q⟩:=h
  refine ⟨_,(pss_cons (ps_set_lc (i:=1) sc__law_lines.nd rfl rfl rfl rfl ⟨True.intro,True.intro,True.intro⟩ (M:=["_law_thing"]) (.own .nil) (gk_name rfl) rfl (by decide +kernel) (pi_range1 rfl T.n_range (pa_cons (pe_ix (k_ix K) (pv 0) pe_int (fun _ _=>rfl)) pa_nil)) (fun C fp s1 H1=>⟨pg_name (i:=0) (show (["_law_thing"]:List Str).Nodup by decide +kernel) rfl (Or.inl rfl),pif_nil,(pe_tup (pa_cons (pv 0) pa_nil))⟩))
   (pss_cons (ps_set (i:=2) sc__law_lines.nd rfl (Or.inl rfl) (pe_lst pa_nil))
   (pss_cons (ps_while PassesOwn.never (pt_cmpR (op_neD hr.units) (pv 1) (pe_lst pa_nil) (nomark _)) (pss_cons (ps_expr (k_bm K PySem.F.plainAttrs_list PySem.F.slot_list_extend PySem.F.type_list_extend mt_extend (pv 2) (pa_cons (pv 1) pa_nil)))
   (pss_cons (ps_set (i:=3) sc__law_lines.nd rfl (Or.inl rfl) (pe_lst pa_nil))
   (pss_cons (ps_for PassesOwn.never rfl (k_plst K (pv 1)) (pg_name (i:=4) sc__law_lines.nd rfl (Or.inr rfl)) (pss_one (ps_expr (k_bm K PySem.F.plainAttrs_list PySem.F.slot_list_extend PySem.F.type_list_extend mt_extend (pv 3) (pa_cons (pe_lc rfl ⟨True.intro,True.intro,True.intro,(.inl rfl),True.intro⟩ (M:=["_law_one","_law_other","_law_line"]) (.own (.own (.free 4 rfl rfl .nil))) (gk_tup (gks_cons rfl (gks_cons rfl gks_nil))) rfl (by decide +kernel) (k_ptup K (pe_ix (k_ix K) (pv 0) pe_int (fun _ _=>rfl))) (fun C fp s1 H1=>⟨k_gtup K (n:=2) rfl (pgs_cons (pg_name (i:=0) (show (["_law_one","_law_other","_law_line"]:List Str).Nodup by decide +kernel) rfl (Or.inl rfl)) (pgs_cons (pg_name (i:=1) (show (["_law_one","_law_other","_law_line"]:List Str).Nodup by decide +kernel) rfl (Or.inl rfl)) pgs_nil)),pif_one (pt_cmpR (op_eqD hr.units) (pv 0) (pe_ix (k_ix K) (pv 2) (pe_un un_neg pe_int) (fun _ _=>rfl)) (nomark _)),(pe_op op_catU (pv 2) (pe_tup (pa_cons (pv 1) pa_nil)))⟩)) pa_nil)))))
   (pss_one (ps_set (i:=1) sc__law_lines.nd rfl (Or.inl rfl) (pv 3)))))))
   (pss_one (ps_ret (pv 2)))))),?_⟩
  have sm:=semi_of ho hb
  have asy:=sm.asy
  have ndp:=nd_of (pw_of ho.up)
  have lps:=ho.small
  obtain ⟨oa,ob,xs,rfl,ea,eb,hxs⟩:=is_ord hx
  have lx:xs.length=ps.length:=by rw [hxs.length,List.length_map]
  walk_at "rd"
  refine ⟨_,rfl,by omega,by omega,?_⟩
  rw [Int.toNat_natCast]
  refine lp_range (small_ln (by omega)) (fun i ys H'=>Same H H'∧Tps H' ys (((L2.upTo n).take i).map fun c=>[c])) ⟨Same.refl _,.nil⟩ (by
   rintro i ys H' ⟨_,h⟩
   rw [h.len,List.length_map,List.length_take]
   omega) ?_ ?_
  ·rintro k ys H1 hk ⟨s1,iy⟩
   walk_at "rd"
   rw [Int.zero_add] at *
   refine ⟨by show 1≤sizeLine;decide,fun q1 hq1=>?_⟩
   have f1:=Same.upd (o:=.tup [V.int (k:Int)]) hq1
   refine ⟨s1.trans f1,?_⟩
   rw [List.take_add_one,upTo_at hk,show (some (k:Int)).toList=[(k:Int)] from rfl,List.map_append]
   show IsAll _ _ _
   rw [List.map_append]
   exact IsAll.append (Tps.same iy f1) (.cons (is_tup upd_same) .nil)
  rintro ys H1 ⟨s1,iy⟩ pp hpp
  rw [upTo_take] at iy
  have f1:=Same.upd (o:=.lst ys) hpp
  have s2:=s1.trans f1
  have e2:upd H1 pp (.lst ys) pp=some (.lst ys):=upd_same
  have i2:=iy.same f1
  generalize upd H1 pp (.lst ys)=H2 at s2 e2 i2 ⊢
  clear s1 iy f1 hpp
  walk_at "rd"
  refine ⟨Nat.zero_le _,fun pf hpf=>?_⟩
  have f3:=Same.upd (o:=.lst []) hpf
  have npf:H pf=none:=s2.free hpf
  have npp:pp≠pf:=ne_of_none e2 hpf
  have s3:=s2.trans f3
  have e3:=f3 _ _ e2
  have i3:=i2.same f3
  have ef3:upd H2 pf (.lst []) pf=some (.lst []):=upd_same
  generalize upd H2 pf (.lst [])=H3 at s3 e3 i3 ef3
  clear s2 e2 i2 f3 hpf
  walk_at "rd"
  refine ⟨fun m σ H'=>∃ (k:Nat) (pp:Addr) (xs zs:List V) (ls fs:List (List Int)) (v3 v4:Option V),σ=[some (.ref oa),some (.ref pp),some (.ref pf),v3,v4]∧m=n - k∧k≤n∧Same H H'∧H' pf=some (.lst zs)∧Tps H' zs fs∧GM.Fnd n (has ps) k fs∧H' pp=some (.lst xs)∧Tps H' xs ls∧GM.Lvl n (has ps) k ls∧pp≠pf,?_,?_⟩
  ·exact ⟨_,0,pp,ys,[],_,[],_,_,rfl,rfl,Nat.zero_le _,s3,ef3,.nil,GM.fnd_zero _ _,e3,i3,GM.lvl_zero _ _,npp⟩
  ·rintro m σ H4 ⟨k,pp,ws,zs,ls,fs,v3,v4,rfl,hm,hk,s4,ef,tf,F,ep,tp,L,npp⟩
   have lw:=tp.len
   walk_at "rd"
   refine ⟨Nat.zero_le _,fun p5 hp5=>?_⟩
   have f5:=Same.upd (o:=.lst []) hp5
   refine rd_eqD (.lst (Rd.of (f5 _ _ ep)) (Tps.same tp f5)) (.lst (Rd.of upd_same) .nil) (ok_tps _) ⟨rfl,by decide⟩ ?_
   rw [eqv_tpsN]
   have s5:=s4.trans f5
   have ef5:=f5 _ _ ef
   have tf5:=tf.same f5
   have ep5:=f5 _ _ ep
   have tp5:=tp.same f5
   generalize upd H4 p5 (.lst [])=H5 at f5 s5 ef5 tf5 ep5 tp5 ⊢
   clear f5 s4 ef tf ep tp hp5
   by_cases ne:ls=[]
   ·rw [decide_eq_true ne]
    walk_at "rd"
    refine ifF rfl ?_
    walk_at "rd"
    subst ne
    exact q pf H5 zs fs npf s5 ef5 tf5 (F.all L)
   ·rw [decide_eq_false ne]
    walk_at "rd"
    refine ifT rfl ?_
    have kn:=L.few asy ne
    have F':=F.next L
    have l64:=fnd_few asy n6 F'
    have m64:=lvl_few asy n6 L
    have lz:=tf5.len
    rw [List.length_append] at l64
    refine ⟨fun σ' H'=>∃ m',m' < m∧∃ (k:Nat) (pp:Addr) (xs zs:List V) (ls fs:List (List Int)) (v3 v4:Option V),σ'=[some (.ref oa),some (.ref pp),some (.ref pf),v3,v4]∧m'=n - k∧k≤n∧Same H H'∧H' pf=some (.lst zs)∧Tps H' zs fs∧GM.Fnd n (has ps) k fs∧H' pp=some (.lst xs)∧Tps H' xs ls∧GM.Lvl n (has ps) k ls∧pp≠pf,fun σ' H' h=>h,?_⟩
    walk_at "rd"
    refine ⟨tyV_lst ef5,?_⟩
    walk_at "rd"
    refine rd_extend ef5 ep5 (small_ln (by omega)) ?_
    have st:SameT pf H5 (upd H5 pf (.lst (zs++ws))):=fun c u e g=>by rw [upd_ne g];exact e
    have s6:Same H (upd H5 pf (.lst (zs++ws))):=fun c u e=>by rw [upd_ne (ne_of_none e npf)];exact s5 _ _ e
    have tf6:=tf5.t ef5 st
    have tp6:=tp5.t ef5 st
    have ep6:=st _ _ ep5 npp
    have ef6:upd H5 pf (.lst (zs++ws)) pf=some (.lst (zs++ws)):=upd_same
    generalize upd H5 pf (.lst (zs++ws))=H6 at s6 tf6 tp6 ep6 ef6
    clear st s5 ef5 tf5 ep5 tp5
    walk_at "rd"
    refine ⟨Nat.zero_le _,fun pl hpl=>?_⟩
    have f7:=Same.upd (o:=.lst []) hpl
    have npl:H pl=none:=s6.free hpl
    have nlf:pl≠pf:=Ne.symm (ne_of_none ef6 hpl)
    have nlp:pp≠pl:=ne_of_none ep6 hpl
    have s7:=s6.trans f7
    have tf7:=tf6.same f7
    have tp7:=tp6.same f7
    have ep7:=f7 _ _ ep6
    have ef7:=f7 _ _ ef6
    have el7:upd H6 pl (.lst []) pl=some (.lst []):=upd_same
    generalize upd H6 pl (.lst [])=H7 at s7 tf7 tp7 ep7 ef7 el7
    clear f7 s6 tf6 tp6 ep6 ef6 hpl
    have tot:(ls.flatMap (gl ps)).length < 256:=lvl_few asy n6 (lvl_lines sm ndp L)
    walk_at "rd"
    refine ⟨pp,rfl,⟨_,SqL.of ep7⟩,?_⟩
    refine fp_list (K:=K) (xs:=ws) (fun i σ H'=>(∃ v4,σ=[some (.ref oa),some (.ref pp),some (.ref pf),some (.ref pl),v4])∧SameT pl H7 H'∧∃ us,H' pl=some (.lst us)∧Tps H' us ((ls.take i).flatMap (gl ps))) ⟨⟨_,rfl⟩,SameT.refl _ _,[],el7,.nil⟩ (fun i σ H' _ h=>SqL.of (h.2.1 _ _ ep7 nlp)) ?_ ?_
    ·rintro i x σ H8 hx ⟨⟨v4,rfl⟩,s8,us,eu,tu⟩
     obtain ⟨p,ap,hp,rfl,eap⟩:=tp7.at hx
     obtain ⟨p1,p2,p3⟩:=(L.mem p).mp (List.mem_of_getElem? hp)
     have nep:p≠[]:=fun z=>by rw [z] at p1;cases p1
     have kt:∀ c us',H7 c=some (.tup us')→H8 c=some (.tup us'):=fun c us' e=>s8 _ _ e (ne_of e el7 (by intro z;cases z))
     have ea8:=kt _ _ (s7 _ _ ea)
     have eb8:=kt _ _ (s7 _ _ eb)
     have hxs8:=(hxs.same s7).tmono kt (noLs_pr _)
     have eap8:=kt _ _ eap
     have ltot:((ls.take i).flatMap (gl ps)).length + (gl ps p).length≤(ls.flatMap (gl ps)).length:=by
      have e1:(ls.take (i + 1)).flatMap (gl ps)++(ls.drop (i + 1)).flatMap (gl ps)=ls.flatMap (gl ps):=by rw [←List.flatMap_append,List.take_append_drop]
      have e2:=congrArg List.length e1
      rw [List.take_add_one,hp,show (some p).toList=[p] from rfl,List.flatMap_append,List.length_append,List.length_append] at e2
      simp only [List.flatMap_cons,List.flatMap_nil,List.append_nil] at e2
      omega
     have lu:=tu.len
     walk_at "rd"
     refine ⟨tyV_lst eu,?_⟩
     walk_at "rd"
     refine ⟨ob,rfl,⟨_,SqT.of eb8⟩,?_⟩
     refine lp_tup (K:=K) (xs:=xs) (small_ln (by omega)) (fun j vs' H'=>Same H8 H'∧Tps H' vs' (((ps.take j).filter fun q=>decide (q.1=lastI p)).map fun q=>p++[q.2])) ⟨Same.refl _,.nil⟩ (by
      rintro j vs' H' ⟨_,h⟩
      rw [h.len,List.length_map]
      refine Nat.le_trans (List.length_filter_le _ _) ?_
      rw [List.length_take]
      omega) (fun j vs' H' _ h=>SqT.of (h.1 _ _ eb8)) ?_ ?_
     ·rintro j xx vs' H9 hxx ⟨s9,iv⟩
      have hj:j < ps.length:=by rw [←lx];exact (List.getElem?_eq_some_iff.mp hxx).1
      obtain ⟨r,er,hr'⟩:=pr_at (hxs8.same s9) hj
      rw [hxx] at er
      cases er
      have hpj:ps[j]? =some (ps.getD j (0,0)):=by simp [hj]
      rw [List.take_add_one,hpj,show (some (ps.getD j (0,0))).toList=[ps.getD j (0,0)] from rfl,List.filter_append,filter_one,List.map_append]
      generalize ps.getD j (0,0)=pq at hr' hpj ⊢
      have eap9:=s9 _ _ eap8
      walk_at "rd"
      refine ⟨r,_,rfl,SqT.of hr',rfl,?_⟩
      walk_at "rd"
      refine ⟨1,rfl,?_⟩
      refine rd_ixT eap9 (v:=.int (lastI p)) ?_ ?_
      ·have e:=(List.dropLast_concat_getLast nep).symm
       have el:lastI p=p.getLast nep:=by
        generalize p.getLast nep=b at e
        rw [e,last_snoc]
       have e3:p.map V.int=p.dropLast.map V.int++[V.int (lastI p)]:=by
        rw [el]
        have:=congrArg (List.map V.int) e
        rw [List.map_append] at this
        exact this
       rw [e3]
       exact atI_last _ _
      refine rd_eqI ?_
      walk_at "rd"
      refine ifB (fun g=>?_) (fun g=>?_)
      ·have g':decide (pq.1=lastI p)=true:=by simpa using g
       rw [if_pos g']
       walk_at "rd"
       refine ⟨by show 1≤sizeLine;decide,fun q1 hq1=>?_⟩
       have f10:=Same.upd (o:=.tup [V.int pq.2]) hq1
       refine rd_catU (f10 _ _ eap9) upd_same (small_ln (by rw [List.length_map];show _ + 1≤1000;omega)) fun q2 H11 f11 e11=>?_
       have f12:=f10.trans f11
       refine ⟨s9.trans f12,?_⟩
       show IsAll _ _ _
       rw [List.map_append]
       refine IsAll.append (Tps.same iv f12) (.cons (is_tup ?_) .nil)
       rw [e11,List.map_append]
       rfl
      ·have g':decide (pq.1=lastI p)=false:=by simpa using g
       rw [g']
       exact ⟨s9,by simpa using iv⟩
     ·rintro vs' H9 ⟨s9,iv⟩ pv hpv
      rw [lx,List.take_length] at iv
      have liv:=iv.len
      have f10:=Same.upd (o:=.lst vs') hpv
      have s10:=s9.trans f10
      have iv10:=iv.same f10
      have ev10:upd H9 pv (.lst vs') pv=some (.lst vs'):=upd_same
      generalize upd H9 pv (.lst vs')=H10 at s10 iv10 ev10 ⊢
      have eu10:=s10 _ _ eu
      have tu10:=tu.same s10
      have lgl:(gl ps p).length=vs'.length:=by rw [liv];rfl
      walk_at "rd"
      refine rd_extend eu10 ev10 (small_ln (by omega)) ?_
      have st:SameT pl H10 (upd H10 pl (.lst (us++vs'))):=fun c u e g=>by rw [upd_ne g];exact e
      walk_at "rd"
      refine ⟨⟨_,rfl⟩,fun c u e g=>st _ _ (s10 _ _ (s8 _ _ e g)) g,us++vs',upd_same,?_⟩
      rw [List.take_add_one,hp,show (some p).toList=[p] from rfl,List.flatMap_append]
      simp only [List.flatMap_cons,List.flatMap_nil,List.append_nil]
      show IsAll _ _ _
      rw [List.map_append]
      exact IsAll.append (Tps.t tu10 eu10 st) (Tps.t iv10 eu10 st)
    ·rintro σ H8 ⟨⟨v4,rfl⟩,s8,us,eu,tu⟩
     rw [lw,List.take_length] at tu
     walk_at "rd"
     refine ⟨n - (k + 1),by omega,k + 1,pl,us,zs++ws,_,fs++ls,_,_,rfl,rfl,kn,fun c u e=>s8 _ _ (s7 _ _ e) (ne_of_none e npl),s8 _ _ ef7 (Ne.symm nlf),?_,F',eu,tu,lvl_lines sm ndp L,nlf⟩
     have A1:=Tps.t tf7 el7 s8
     have A2:=Tps.t tp7 el7 s8
     show IsAll _ _ _
     rw [List.map_append]
     exact IsAll.append A1 A2
end
end My
namespace My
open PySem L2
theorem line_le {ps:List (Int×Int)} {L:Int→Int} {m:Int}:∀ (p:List Int) (a:Int),GM.Pt (has ps) (a::p)→(∀ c∈a::p,LonAt ps L c∧L c≤m)→L a + (p.length:Int)≤m
 | [],a,_,h=>by
  have:=(h a List.mem_cons_self).2
  simpa using this
 | b::p,a,hp,h=>by
  obtain ⟨h1,h2⟩:=List.pairwise_cons.mp hp
  have ih:=line_le p b h2 fun c hc=>h c (List.mem_cons_of_mem _ hc)
  have g:=(h b (List.mem_cons_of_mem _ List.mem_cons_self)).1.ge a (has_iff.mp (h1 b List.mem_cons_self))
  rw [List.length_cons]
  omega
theorem line_at {n:Nat} {ps:List (Int×Int)} (ho:Ord n ps) (sm:GM.Semi n (has ps)) {L:Int→Int} (hL:∀ c:Nat,c < n→LonAt ps L c):∀ (k:Nat) (c:Int),0≤c→c < n→L c=(k:Int) + 1→∃ q,GM.Pt (has ps) (q++[c])∧GM.InN n (q++[c])∧q.length=k
 | 0,c,c0,c1,e=>⟨[],List.pairwise_singleton _ _,fun t ht=>by rcases List.mem_singleton.mp ht with rfl;exact ⟨c0,c1⟩,rfl⟩
 | k + 1,c,c0,c1,e=>by
  have o:=hL c.toNat (by omega)
  rw [Int.toNat_of_nonneg c0] at o
  rcases o.is with z | ⟨a,ha,z⟩
  ·omega
  ·obtain ⟨a0,a1,_⟩:=ho.ix _ ha
   obtain ⟨q,h1,h2,h3⟩:=line_at ho sm hL k a a0 a1 (by omega)
   refine ⟨q++[a],?_,fun t ht=>?_,by rw [List.length_append,h3];rfl⟩
   ·unfold GM.Pt at h1 ⊢
    rw [List.pairwise_append]
    refine ⟨h1,List.pairwise_singleton _ _,fun x hx y hy=>?_⟩
    rcases List.mem_singleton.mp hy with rfl
    rw [List.pairwise_append] at h1
    rcases List.mem_append.mp hx with hx | hx
    ·exact sm.tr (h1.2.2 x hx a List.mem_cons_self) (has_iff.mpr ha)
    ·rcases List.mem_singleton.mp hx with rfl
     exact has_iff.mpr ha
   ·rcases List.mem_append.mp ht with ht | ht
    ·exact h2 t ht
    ·rcases List.mem_singleton.mp ht with rfl
     exact ⟨c0,c1⟩
theorem long_is {n:Nat} {ps:List (Int×Int)} (ho:Ord n ps) (sm:GM.Semi n (has ps)) {C:List (List Int)} (hC:GM.Parts n (has ps) C) {L:Int→Int} {m:Int} (hL:∀ c:Nat,c < n→LonAt ps L c∧L c≤m) (hm:∃ c:Nat,c < n∧L c=m)
  {w:Nat} (w1:∃ p∈C,p.length=w) (w2:∀ p∈C,p.length≤w):m=(w:Int):=by
 obtain ⟨p,hp,rfl⟩:=w1
 obtain ⟨ne,inn,pt⟩:=(hC.mem p).mp hp
 have h1:(p.length:Int)≤m:=by
  cases p with
  | nil=>exact absurd rfl ne
  | cons a p=>
   have hh:∀ c∈a::p,LonAt ps L c∧L c≤m:=fun c hc=>by
    have:=inn c hc
    have:=hL c.toNat (by omega)
    rw [Int.toNat_of_nonneg (by omega)] at this
    exact this
   have:=line_le p a pt hh
   have:=(hh a List.mem_cons_self).1.lo
   rw [List.length_cons]
   omega
 obtain ⟨c,hc,ec⟩:=hm
 have lo:=(hL c hc).1.lo
 obtain ⟨q,q1,q2,q3⟩:=line_at ho sm (fun c hc=>(hL c hc).1) (L (c:Int) - 1).toNat (c:Int) (by omega) (by omega) (by omega)
 have h2:=w2 (q++[(c:Int)]) ((hC.mem _).mpr ⟨by simp,q2,q1⟩)
 rw [List.length_append,q3] at h2
 simp only [List.length_cons,List.length_nil] at h2
 omega
theorem eqv_tupP (p:List Int):PyData.eqv (tupOf [] p) (tupOf [] p)=true:=by
 show PyData.eqv (.tuple (p.map PyData.int)) (.tuple (p.map PyData.int))=true
 rw [PyData.eqv]
 induction p with
 | nil=>rfl
 | cons a p ih=>rw [List.map_cons,PyData.eqvAll,ih,PyData.eqv];simp
theorem okD_ints (p:List Int):okD (tupOf [] p):=by
 have h:=okDs_ints p
 refine ⟨?_,?_⟩
 ·show (PyData.tuple (p.map PyData.int)).canLay0=true
  rw [PyData.canLay0];exact h.1
 ·show (PyData.tuple (p.map PyData.int)).depth≤40
  rw [PyData.depth]
  have:PyData.depthAll (p.map PyData.int)=0:=by
   clear h
   induction p with
   | nil=>rfl
   | cons a p ih=>rw [List.map_cons,PyData.depthAll,ih];rfl
  omega
theorem max_len {C:List (List Int)} {M:Int} (hM:M∈C.map fun r=>((r.length:Nat):Int)) (hA:∀ a∈C.map (fun r=>((r.length:Nat):Int)),a≤M):∃ w:Nat,M=(w:Int)∧(∃ p∈C,p.length=w)∧∀ p∈C,p.length≤w:=by
 obtain ⟨p,hp,rfl⟩:=List.mem_map.mp hM
 exact ⟨p.length,rfl,⟨p,hp,rfl⟩,fun r hr=>by have:=hA _ (List.mem_map.mpr ⟨r,hr,rfl⟩);omega⟩
theorem first_is {n:Nat} {al:GM.Rel} {C C':List (List Int)} (h:GM.Parts n al C) (h':GM.Parts n al C') {w:Nat} (w1:∃ p∈C,p.length=w) (w2:∀ p∈C,p.length≤w) {p r:List Int} (hp:p∈C') (hm:∀ r∈C',r.length≤p.length) (hl:∀ r∈C',r.length=p.length→r=p∨HT.lexLt p r=true)
  (hr:r∈C.filter fun s=>decide (s.length=w)) (hmin:∀ s∈C.filter (fun s=>decide (s.length=w)),HT.lexLt s r=false):r=p:=by
 have mem:∀ p,p∈C↔p∈C':=fun p=>(h.mem p).trans (h'.mem p).symm
 obtain ⟨r1,r2⟩:=List.mem_filter.mp hr
 have e2:=of_decide_eq_true r2
 obtain ⟨s,hs,es⟩:=w1
 have h1:=hm s ((mem s).mp hs)
 have h2:=w2 p ((mem p).mpr hp)
 rcases hl r ((mem r).mp r1) (by omega) with z | z
 ·exact z
 ·have:=hmin p (List.mem_filter.mpr ⟨(mem p).mpr hp,decide_eq_true (by omega)⟩)
  rw [z] at this
  cases this
section
variable {P:Program} {w:World} {K:PySem.W.Frag} {mg:Str→Option Value} {base:Heap} {t:Ad}
set_option genSizeOf false in
set_option genInjectivity false in
inductive spLaw (K:PySem.W.Frag) (vs:List V) (H:Hp) (Q:VK) (zz3:XK):Prop where
 | mk (a ns:_) (zh0:vs=[.ref a]) (zh1:Scr K H a ns) (zh2:∀ H',Q (.bl true) H'):spLaw K vs H Q zz3
theorem ok_law (T:Txt K mg t):FnOk P w K mg base CX0 10 t.a_law t.d_law ["_law_script"] (spLaw K):=by
 refine T.F_law.ok sc_law (fun vs H Q E h=>?_) (fun cdv A outer s H vs Q E hr h=>?_)
 ·obtain ⟨a,ns,rfl,_⟩:=h
  rfl
 ·obtain ⟨a,ns,rfl,hs,q⟩:=h
  refine ⟨_,(pss_cons (ps_set (i:=1) sc_law.nd rfl (Or.inl rfl) (pe_lst pa_nil))
   (pss_cons (ps_set (i:=2) sc_law.nd rfl (Or.inr rfl) (pe_call (ok__law_free T) (hr.mono (by decide)) rfl T.m__law_free T.F__law_free.kp T.b__law_free .nil pass0 (pa_cons (pv 0) (pa_cons (pv 1) (pa_cons pe_int (pa_cons pe_int pa_nil))))))
   (pss_cons (ps_set_lc (i:=3) sc_law.nd rfl rfl rfl rfl ⟨True.intro,True.intro,True.intro,(.inl rfl),True.intro⟩ (M:=["_law_some","_law_order"]) (.own (.free 2 rfl rfl .nil)) (gk_name rfl) rfl (by decide +kernel) (k_plst K (pe_call (ok__law_sets T) (hr.mono (by decide)) rfl T.m__law_sets T.F__law_sets.kp T.b__law_sets .nil pass0 (pa_cons (pe_ix (k_ix K) (pv 2) pe_int (fun _ _=>rfl)) pa_nil))) (fun C fp s1 H1=>⟨pg_name (i:=0) (show (["_law_some","_law_order"]:List Str).Nodup by decide +kernel) rfl (Or.inl rfl),pif_one (pt_val (pe_call (ok__law_is_group T) (hr.mono (by decide)) rfl T.m__law_is_group T.F__law_is_group.kp T.b__law_is_group .nil pass0 (pa_cons (pv 1) (pa_cons (pv 0) pa_nil)))),(pv 0)⟩))
   (pss_cons (ps_set (i:=4) sc_law.nd rfl (Or.inr rfl) (pe_callB (k_maxL K) (by rfl) T.n_max bt_max (pa_cons (pe_lc rfl ⟨True.intro,True.intro,True.intro,True.intro⟩ (M:=["_law_some"]) (.own .nil) (gk_name rfl) rfl (by decide +kernel) (k_plst K (pv 3)) (fun C fp s1 H1=>⟨pg_name (i:=0) (show (["_law_some"]:List Str).Nodup by decide +kernel) rfl (Or.inl rfl),pif_nil,(pe_callB (k_len K) (by rfl) T.n_len bt_len (pa_cons (pv 0) pa_nil))⟩)) pa_nil)))
   (pss_cons (ps_set (i:=5) sc_law.nd rfl (Or.inl rfl) (pe_call (ok__law_lines T) (hr.mono (by decide)) rfl T.m__law_lines T.F__law_lines.kp T.b__law_lines .nil pass0 (pa_cons (pv 2) pa_nil)))
   (pss_cons (ps_set (i:=6) sc_law.nd rfl (Or.inr rfl) (pe_callB (k_maxL K) (by rfl) T.n_max bt_max (pa_cons (pe_lc rfl ⟨True.intro,True.intro,True.intro,True.intro⟩ (M:=["_law_line"]) (.own .nil) (gk_name rfl) rfl (by decide +kernel) (k_plst K (pv 5)) (fun C fp s1 H1=>⟨pg_name (i:=0) (show (["_law_line"]:List Str).Nodup by decide +kernel) rfl (Or.inl rfl),pif_nil,(pe_callB (k_len K) (by rfl) T.n_len bt_len (pa_cons (pv 0) pa_nil))⟩)) pa_nil)))
   (pss_cons (ps_if (pt_cmpR (op_neD hr.units) (pe_call (ok_widest T) (hr.mono (by decide)) rfl T.m_widest T.F_widest.kp T.b_widest .nil pass0 (pa_cons (pv 2) pa_nil)) (pe_callB (k_minV (k_ltT K (hr.in1 (k:=8)).units0)) (by rfl) T.n_min bt_min (pa_cons (pe_lc rfl ⟨True.intro,True.intro,True.intro,(.inl rfl),True.intro⟩ (M:=["_law_some","_law_wide"]) (.own (.free 4 rfl rfl .nil)) (gk_name rfl) rfl (by decide +kernel) (k_plst K (pv 3)) (fun C fp s1 H1=>⟨pg_name (i:=0) (show (["_law_some","_law_wide"]:List Str).Nodup by decide +kernel) rfl (Or.inl rfl),pif_one (pt_cmpR (op_eqD hr.units) (pe_callB (k_len K) (by rfl) T.n_len bt_len (pa_cons (pv 0) pa_nil)) (pv 1) (nomark _)),(pv 0)⟩)) pa_nil)) (nomark _)) (pss_one (ps_ret pe_bl)) pss_nil)
   (pss_cons (ps_set (i:=7) sc_law.nd rfl (Or.inl rfl) (pe_callB (k_minV (k_ltT K (hr.in1 (k:=8)).units0)) (by rfl) T.n_min bt_min (pa_cons (pe_lc rfl ⟨True.intro,True.intro,True.intro,(.inl rfl),True.intro⟩ (M:=["_law_line","_law_long"]) (.own (.free 6 rfl rfl .nil)) (gk_name rfl) rfl (by decide +kernel) (k_plst K (pv 5)) (fun C fp s1 H1=>⟨pg_name (i:=0) (show (["_law_line","_law_long"]:List Str).Nodup by decide +kernel) rfl (Or.inl rfl),pif_one (pt_cmpR (op_eqD hr.units) (pe_callB (k_len K) (by rfl) T.n_len bt_len (pa_cons (pv 0) pa_nil)) (pv 1) (nomark _)),(pv 0)⟩)) pa_nil)))
   (pss_one (ps_ret (pe_and (pe_cmpR (op_eqD hr.units) (pe_call (ok_longest_line T) (hr.mono (by decide)) rfl T.m_longest_line T.F_longest_line.kp T.b_longest_line .nil pass0 (pa_cons (pv 2) pa_nil)) (pv 7) (nomark _)) (pe_one (pe_cmpR (op_eqD hr.units) (pe_call (ok_longest T) (hr.mono (by decide)) rfl T.m_longest T.F_longest.kp T.b_longest .nil pass0 (pa_cons (pv 2) pa_nil)) (pv 6) (nomark _)))))))))))))),?_⟩
  walk_at "rd"
  refine ⟨Nat.zero_le _,fun tw htw=>?_⟩
  have hs0:=hs.same (Same.upd (o:=.lst []) htw)
  have ht0:upd H tw (.lst []) tw=some (.lst []):=upd_same
  generalize upd H tw (.lst [])=H0 at hs0 ht0
  clear htw hs
  walk_at "rd"
  refine ⟨a,ns,tw,[],1,8,rfl,by decide,by decide,by decide,hs0,ht0,by decide,fun x H1 st line ts1 s1 ht1 hl1 st1 st5 nlo nhi l1 l8 hv hx=>?_⟩
  have n8:line.length≤8:=by omega
  have ho:Ord line.length (toldL st line):=told_ord (by omega) (by omega) (by omega)
  have hb:barB line.length (toldL st line)=false:=no_bar
  clear s1 ht1 hs0 ht0 hl1 hv
  generalize toldL st line=ps at hx ho hb
  generalize line.length=n at hx ho hb n8 nlo nhi l1 l8
  have sm:=semi_of ho hb
  have lps:=ho.small
  obtain ⟨oa,ob,xs,rfl,ea,eb,hxs⟩:=is_ord hx
  walk_at "rd"
  refine ⟨n,rfl,n8,fun r2 H2 zs hr2 s2 e2 t2=>?_⟩
  have hx2:=hx.same s2
  have lz:=t2.len
  have l64:zs.length≤256:=by
   rw [lz,List.length_drop]
   have:=st64 n8
   omega
  clear hx ea eb hxs s2
  walk_at "rd"
  refine ⟨r2,rfl,⟨_,SqL.of e2⟩,?_⟩
  refine lp_list (K:=K) (xs:=zs) (small_ln (by omega)) (fun i us H'=>Same H2 H'∧Tps H' us ((((stF n).drop 1).take i).filter fun p=>isgr ps p)) ⟨Same.refl _,.nil⟩ (by
   rintro i us H' ⟨_,h⟩
   rw [h.len]
   refine Nat.le_trans (List.length_filter_le _ _) ?_
   rw [List.length_take]
   omega) (fun i us H' _ h=>SqL.of (h.1 _ _ e2)) ?_ ?_
  ·rintro i x us H3 hx ⟨s3,iu⟩
   obtain ⟨p,ap,hp,rfl,ea⟩:=t2.at hx
   rw [List.take_add_one,hp,show (some p).toList=[p] from rfl,List.filter_append,filter_one]
   have ea3:=s3 _ _ ea
   walk_at "rd"
   refine ⟨_,n,ps,ap,p,rfl,hx2.same s3,by omega,ea3,fun H4 s4=>?_⟩
   cases hw:isgr ps p with
   | true=>
    walk_at "rd"
    refine ⟨s3.trans s4,?_⟩
    show IsAll _ _ _
    rw [List.map_append]
    exact IsAll.append (Tps.same iu s4) (.cons (is_tup (s4 _ _ ea3)) .nil)
   | false=>
    walk_at "rd"
    refine ⟨s3.trans s4,?_⟩
    have:=iu.same s4
    simpa using this
  rintro gs H3 ⟨s3,iu⟩ pg hpg
  rw [lz,List.take_length] at iu
  have f4:=Same.upd (o:=.lst gs) hpg
  have hx4:=hx2.same (s3.trans f4)
  have eg4:upd H3 pg (.lst gs) pg=some (.lst gs):=upd_same
  have tg4:=iu.same f4
  have hG2:GM.Parts n (GM.gr (has ps)) (((stF n).drop 1).filter fun p=>isgr ps p):=grp_parts sm.irr
  generalize ((stF n).drop 1).filter (fun p=>isgr ps p)=PL2 at tg4 hG2
  generalize upd H3 pg (.lst gs)=H4 at f4 hx4 eg4 tg4 ⊢
  clear hx2 e2 t2 s3 iu f4 hpg
  have lg:=tg4.len
  have fewG:=parts_few (GM.gr_asy _) n8 hG2
  walk_at "rd"
  refine ⟨pg,rfl,⟨_,SqL.of eg4⟩,?_⟩
  refine lp_list (K:=K) (xs:=gs) (small_ln (by omega)) (fun i us H'=>H'=H4∧us=((PL2.take i).map fun r=>((r.length:Nat):Int)).map V.int) ⟨rfl,rfl⟩ (by
   rintro i us H' ⟨_,rfl⟩
   rw [List.length_map,List.length_map,List.length_take]
   omega) (fun i us H' _ h=>by rw [h.1];exact SqL.of eg4) ?_ ?_
  ·rintro i x us H' hx ⟨rfl,rfl⟩
   obtain ⟨p,ap,hp,rfl,eap⟩:=tg4.at hx
   rw [List.take_add_one,hp,show (some p).toList=[p] from rfl,List.map_append,List.map_append]
   walk_at "rd"
   refine ⟨rfl,?_⟩
   rw [List.length_map]
   rfl
  rintro us H' ⟨rfl,rfl⟩ pl hpl
  rw [lg,List.take_length]
  have f5:=Same.upd (o:=.lst ((PL2.map fun r=>((r.length:Nat):Int)).map V.int)) hpl
  have epl:upd H' pl (.lst ((PL2.map fun r=>((r.length:Nat):Int)).map V.int)) pl=some (.lst ((PL2.map fun r=>((r.length:Nat):Int)).map V.int)):=upd_same
  have hx5:=hx4.same f5
  have eg5:=f5 _ _ eg4
  have tg5:=tg4.same f5
  generalize upd H' pl (.lst ((PL2.map fun r=>((r.length:Nat):Int)).map V.int))=H5 at epl hx5 eg5 tg5 ⊢
  clear hx4 eg4 tg4 f5 hpl
  walk_at "rd"
  refine rd_maxL epl (by rw [List.length_map];exact parts_pos hG2 ho.lo) fun M hM hA=>?_
  obtain ⟨wg,rfl,wg1,wg2⟩:=max_len hM hA
  clear hM hA epl
  walk_at "rd"
  refine ⟨_,n,ps,rfl,hx5,ho,hb,n8,fun pn H6 ln LN hrn s6 en6 tn6 hLN=>?_⟩
  have hx6:=hx5.same s6
  have eg6:=s6 _ _ eg5
  have tg6:=tg5.same s6
  clear hx5 eg5 tg5 s6
  have lln:=tn6.len
  have fewL:=parts_few sm.asy n8 hLN
  walk_at "rd"
  refine ⟨pn,rfl,⟨_,SqL.of en6⟩,?_⟩
  refine lp_list (K:=K) (xs:=ln) (small_ln (by omega)) (fun i us H'=>H'=H6∧us=((LN.take i).map fun r=>((r.length:Nat):Int)).map V.int) ⟨rfl,rfl⟩ (by
   rintro i us H' ⟨_,rfl⟩
   rw [List.length_map,List.length_map,List.length_take]
   omega) (fun i us H' _ h=>by rw [h.1];exact SqL.of en6) ?_ ?_
  ·rintro i x us H' hx ⟨rfl,rfl⟩
   obtain ⟨p,ap,hp,rfl,eap⟩:=tn6.at hx
   rw [List.take_add_one,hp,show (some p).toList=[p] from rfl,List.map_append,List.map_append]
   walk_at "rd"
   refine ⟨rfl,?_⟩
   rw [List.length_map]
   rfl
  rintro us H' ⟨rfl,rfl⟩ pl2 hpl2
  rw [lln,List.take_length]
  have f7:=Same.upd (o:=.lst ((LN.map fun r=>((r.length:Nat):Int)).map V.int)) hpl2
  have epl:upd H' pl2 (.lst ((LN.map fun r=>((r.length:Nat):Int)).map V.int)) pl2=some (.lst ((LN.map fun r=>((r.length:Nat):Int)).map V.int)):=upd_same
  have hx7:=hx6.same f7
  have eg7:=f7 _ _ eg6
  have tg7:=tg6.same f7
  have en7:=f7 _ _ en6
  have tn7:=tn6.same f7
  generalize upd H' pl2 (.lst ((LN.map fun r=>((r.length:Nat):Int)).map V.int))=H7 at epl hx7 eg7 tg7 en7 tn7 ⊢
  clear hx6 eg6 tg6 en6 tn6 f7 hpl2
  walk_at "rd"
  refine rd_maxL epl (by rw [List.length_map];exact parts_pos hLN ho.lo) fun M hM hA=>?_
  obtain ⟨wl,rfl,wl1,wl2⟩:=max_len hM hA
  clear hM hA epl
  walk_at "rd"
  refine ⟨_,n,ps,rfl,hx7,ho,hb,n8,fun aw H8 GL p s8 hGL hp hm hl ep=>?_⟩
  have hx8:=hx7.same s8
  have eg8:=s8 _ _ eg7
  have tg8:=tg7.same s8
  have en8:=s8 _ _ en7
  have tn8:=tn7.same s8
  clear hx7 eg7 tg7 en7 tn7 s8
  walk_at "rd"
  refine ⟨pg,rfl,⟨_,SqL.of eg8⟩,?_⟩
  refine lp_list (K:=K) (xs:=gs) (small_ln (by omega)) (fun i us H'=>H'=H8∧Tps H8 us ((PL2.take i).filter fun r=>decide (r.length=wg))) ⟨rfl,.nil⟩ (by
   rintro i us H' ⟨_,h⟩
   rw [h.len]
   refine Nat.le_trans (List.length_filter_le _ _) ?_
   rw [List.length_take]
   omega) (fun i us H' _ h=>by rw [h.1];exact SqL.of eg8) ?_ ?_
  ·rintro i x us H' hx ⟨rfl,tu⟩
   obtain ⟨r,ar,hr',rfl,ear⟩:=tg8.at hx
   rw [List.take_add_one,hr',show (some r).toList=[r] from rfl,List.filter_append,filter_one]
   walk_at "rd"
   refine ifB (fun g=>?_) (fun g=>?_)
   ·have g':decide (r.length=wg)=true:=by
     have:(((r.map V.int).length:Nat):Int)=(wg:Int):=by simpa using g
     rw [List.length_map] at this
     exact decide_eq_true (by omega)
    rw [if_pos g']
    walk_at "rd"
    refine ⟨rfl,?_⟩
    show IsAll _ _ _
    rw [List.map_append]
    exact IsAll.append tu (.cons (is_tup ear) .nil)
   ·have g':decide (r.length=wg)=false:=by
     have:¬(((r.map V.int).length:Nat):Int)=(wg:Int):=by simpa using g
     rw [List.length_map] at this
     exact decide_eq_false (by omega)
    rw [g']
    exact ⟨rfl,by simpa using tu⟩
  rintro us H' ⟨rfl,tu⟩ p9 hp9
  rw [lg,List.take_length] at tu
  have f9:=Same.upd (o:=.lst us) hp9
  have ep9:upd H' p9 (.lst us) p9=some (.lst us):=upd_same
  have hx9:=hx8.same f9
  have en9:=f9 _ _ en8
  have tn9:=tn8.same f9
  have ep':=f9 _ _ ep
  have tu9:=tu.same f9
  generalize upd H' p9 (.lst us)=H9 at ep9 hx9 en9 tn9 ep' tu9 ⊢
  clear hx8 eg8 tg8 en8 tn8 tu f9 hp9 ep
  have posG:0 < (PL2.filter fun r=>decide (r.length=wg)).length:=by
   obtain ⟨r,hr1,hr2⟩:=wg1
   exact List.length_pos_of_mem (List.mem_filter.mpr ⟨hr1,decide_eq_true hr2⟩)
  walk_at "rd"
  refine rd_minTs ep9 (fun i p e=>?_) tu9.len posG fun i r hri hmin x hx=>?_
  ·obtain ⟨v,ev,iv⟩:=IsAll.get tu9 (i:=i) (d:=tupOf [] p) (by rw [List.getElem?_map,e];rfl)
   obtain ⟨a,rfl,ea⟩:=tup_ints iv
   exact ⟨a,ev,ea⟩
  obtain ⟨r',ar,er',rfl,ear⟩:=tu9.at hx
  rw [hri] at er'
  cases er'
  have er:r=p:=first_is hG2 hGL wg1 wg2 hp hm hl (List.mem_of_getElem? hri) hmin
  subst er
  walk_at "rd"
  refine rd_eqD (is_tup ep') (is_tup ear) (okD_ints _) (okD_ints _) ?_
  rw [eqv_tupP]
  walk_at "rd"
  refine ifF rfl ?_
  clear ep' ear hx hri hmin ep9 tu9 hm hl hp hGL
  walk_at "rd"
  refine ⟨pn,rfl,⟨_,SqL.of en9⟩,?_⟩
  refine lp_list (K:=K) (xs:=ln) (small_ln (by omega)) (fun i us H'=>H'=H9∧Tps H9 us ((LN.take i).filter fun r=>decide (r.length=wl))) ⟨rfl,.nil⟩ (by
   rintro i us H' ⟨_,h⟩
   rw [h.len]
   refine Nat.le_trans (List.length_filter_le _ _) ?_
   rw [List.length_take]
   omega) (fun i us H' _ h=>by rw [h.1];exact SqL.of en9) ?_ ?_
  ·rintro i x us H' hx ⟨rfl,tu⟩
   obtain ⟨r,ar,hr',rfl,ear⟩:=tn9.at hx
   rw [List.take_add_one,hr',show (some r).toList=[r] from rfl,List.filter_append,filter_one]
   walk_at "rd"
   refine ifB (fun g=>?_) (fun g=>?_)
   ·have g':decide (r.length=wl)=true:=by
     have:(((r.map V.int).length:Nat):Int)=(wl:Int):=by simpa using g
     rw [List.length_map] at this
     exact decide_eq_true (by omega)
    rw [if_pos g']
    walk_at "rd"
    refine ⟨rfl,?_⟩
    show IsAll _ _ _
    rw [List.map_append]
    exact IsAll.append tu (.cons (is_tup ear) .nil)
   ·have g':decide (r.length=wl)=false:=by
     have:¬(((r.map V.int).length:Nat):Int)=(wl:Int):=by simpa using g
     rw [List.length_map] at this
     exact decide_eq_false (by omega)
    rw [g']
    exact ⟨rfl,by simpa using tu⟩
  rintro us H' ⟨rfl,tu⟩ p10 hp10
  rw [lln,List.take_length] at tu
  have f10:=Same.upd (o:=.lst us) hp10
  have ep10:upd H' p10 (.lst us) p10=some (.lst us):=upd_same
  have hx10:=hx9.same f10
  have tu10:=tu.same f10
  generalize upd H' p10 (.lst us)=H10 at ep10 hx10 tu10 ⊢
  clear hx9 en9 tn9 tu f10 hp10
  have posL:0 < (LN.filter fun r=>decide (r.length=wl)).length:=by
   obtain ⟨r,hr1,hr2⟩:=wl1
   exact List.length_pos_of_mem (List.mem_filter.mpr ⟨hr1,decide_eq_true hr2⟩)
  walk_at "rd"
  refine rd_minTs ep10 (fun i p e=>?_) tu10.len posL fun i r hri hmin x hx=>?_
  ·obtain ⟨v,ev,iv⟩:=IsAll.get tu10 (i:=i) (d:=tupOf [] p) (by rw [List.getElem?_map,e];rfl)
   obtain ⟨a,rfl,ea⟩:=tup_ints iv
   exact ⟨a,ev,ea⟩
  obtain ⟨r',ar,er',rfl,ear⟩:=tu10.at hx
  rw [hri] at er'
  cases er'
  have hri':=List.mem_of_getElem? hri
  clear hri hx ep10 tu10
  walk_at "rd"
  refine ⟨_,n,ps,rfl,hx10,ho,hb,n8,fun al H11 CL p s11 hCL hp hm hl ep=>?_⟩
  have er:r=p:=first_is hLN hCL wl1 wl2 hp hm hl hri' hmin
  subst er
  walk_at "rd"
  refine rd_eqD (is_tup ep) (is_tup (s11 _ _ ear)) (okD_ints _) (okD_ints _) ?_
  rw [eqv_tupP]
  refine ⟨_,rfl,?_⟩
  walk_at "rd"
  refine ifT rfl ?_
  walk_at "rd"
  refine ⟨_,n,ps,rfl,hx10.same s11,ho,hb,fun L m H12 s12 hL hm=>?_⟩
  walk_at "rd"
  rw [long_is ho sm hLN hL hm wl1 wl2,show (((wl:Nat):Int)==((wl:Nat):Int))=true by simp]
  exact q _
end
end My
namespace My
open PySem L2
theorem of0 {P:List Value→Prop} (h:P []) (us:List Value) (e:us.length=0):P us:=by
 cases us with
 | nil=>exact h
 | cons a us=>cases e
theorem of1 {P:List Value→Prop} (h:∀ a,P [a]) (us:List Value) (e:us.length=1):P us:=by
 cases us with
 | nil=>cases e
 | cons a us=>exact of0 (P:=fun us=>P (a::us)) (h a) us (Nat.succ.inj e)
theorem of2 {P:List Value→Prop} (h:∀ a b,P [a,b]) (us:List Value) (e:us.length=2):P us:=by
 cases us with
 | nil=>cases e
 | cons a us=>exact of1 (P:=fun us=>P (a::us)) (h a) us (Nat.succ.inj e)
theorem of3 {P:List Value→Prop} (h:∀ a b c,P [a,b,c]) (us:List Value) (e:us.length=3):P us:=by
 cases us with
 | nil=>cases e
 | cons a us=>exact of2 (P:=fun us=>P (a::us)) (h a) us (Nat.succ.inj e)
theorem of4 {P:List Value→Prop} (h:∀ a b c d,P [a,b,c,d]) (us:List Value) (e:us.length=4):P us:=by
 cases us with
 | nil=>cases e
 | cons a us=>exact of3 (P:=fun us=>P (a::us)) (h a) us (Nat.succ.inj e)
theorem of5 {P:List Value→Prop} (h:∀ a b c d f,P [a,b,c,d,f]) (us:List Value) (e:us.length=5):P us:=by
 cases us with
 | nil=>cases e
 | cons a us=>exact of4 (P:=fun us=>P (a::us)) (h a) us (Nat.succ.inj e)
theorem mkF {K:PySem.W.Frag} {h:Heap} {mg:Str→Option Value} (X:K.In h) (G:h.Ns mainGlobals mg) {f:Str} {st:Stmt} {ps:List Str} {a:Addr} {od an:Option Addr} {sl:Array (Option Value)} {oc kV dc pm cd ct:Value}
  (hb:∀ (kV doc pm:Value) (an:Option Addr) (cdv ct:Value) (us:List Value),us.length=ps.length→bindArgs (PySem.W.fnOf f f (defArgs st) (defBody st) (defScope st) .none kV doc pm an cdv ct) ⟨us,[]⟩=pure (ps.zip us))
  (e:PySem.W.nsIn K mainGlobals f=some (some (.ref a))) (l:K.lookup a=some ⟨oc,od,.func (PySem.W.fnOf f f (defArgs st) (defBody st) (defScope st) .none kV dc pm an cd ct),sl⟩) (c:PySem.W.codeIn K cd f=true) (k:PySem.W.keepIn K (.ref a)=true):
  ∃ a d,mg f=some (.ref a)∧Fun K f f st a d∧Binds K d ps []:=by
 have F:=fun_mk (st:=st) l c k
 exact ⟨a,_,PySem.W.mg_of X G e,F,F.binds hb⟩
theorem mkN {K:PySem.W.Frag} {h:Heap} {mg:Str→Option Value} (X:K.In h) (G:h.Ns mainGlobals mg) {f:Str} (e:PySem.W.nsIn K mainGlobals f=some none):mg f=none:=PySem.W.mg_none_of X G e
theorem mkM {K:PySem.W.Frag} {h:Heap} {mg:Str→Option Value} (X:K.In h) (G:h.Ns mainGlobals mg) {f:Str} {C:Addr} (e:PySem.W.nsIn K mainGlobals f=some (some (.ref C))):mg f=some (.ref C):=PySem.W.mg_of X G e
theorem mkC {K:PySem.W.Frag} {h:Heap} {mg:Str→Option Value} (X:K.In h) (G:h.Ns mainGlobals mg) {f:Str} {n:Int} {tk:Tok} (e:PySem.W.nsIn K mainGlobals f=some (some (.int n tk))):∃ tk,mg f=some (.int n tk):=⟨tk,PySem.W.mg_of X G e⟩
theorem mkS {K:PySem.W.Frag} {h:Heap} {mg:Str→Option Value} (X:K.In h) (G:h.Ns mainGlobals mg) {f z:Str} {tk:Tok} (e:PySem.W.nsIn K mainGlobals f=some (some (.str z tk))):∃ tk,mg f=some (.str z tk):=⟨tk,PySem.W.mg_of X G e⟩
theorem law_binds {K:PySem.W.Frag} {a:Addr} {fd:FuncData} (F:Fun K "law" "law" s_law a fd) (s:Shared) (v:Value):BindsTo s fd ⟨[v],[]⟩ [("_law_script",v)]:=by
 obtain ⟨oc,od,kV,doc,pm,an,cdv,ct,osl,rfl,lk,hcd⟩:=F.ex
 exact .of_eq rfl
theorem walk {l:PySem.W.OpenLaw} {q:Program} {loose:List Str} {XP:(Str→Option Value)→Heap→Prop} {YP:World→Heap→Prop} {d:DefRec} {K:Params→PySem.W.Frag} (hn:l.most=some 63) (hdf:d.params.defaults=[])
  (hY:∀ (w:World) (h:Heap),YP w h→(K w.params).In h)
  (F:∀ (w:World) (mg:Str→Option Value) (fa:Addr) (h:Heap),(K w.params).In h→h.Ns mainGlobals mg→mg d.name=some (.ref fa)→
   ∃ fd:FuncData,(∀ (s:Shared) (u:Value),BindsTo s fd ⟨[u],[]⟩ [("_law_script",u)])∧∀ base:Heap,(K w.params).In base→base.Ns mainGlobals mg→FnOk l.prog w (K w.params) mg base CX0 10 fa fd ["_law_script"] (spLaw (K w.params))):
  PySem.W.WalkO q loose XP YP l.row.toRowW d [] (fun f vs=>PySem.call f vs):=
 L2.walk_of (n:=63) (k:=10) (x:="_law_script") (CX:=fun _=>CX0) (sp:=fun w=>spLaw (K w.params)) hn (by decide) hdf ⟨rfl,by decide,by decide⟩ hY F (fun _ _ a ns _ hO hS=>⟨a,ns,rfl,Scr.of hO hS,fun _=>rfl⟩) fun _ _ _ _ _ z=>z
theorem txt_of {K:PySem.W.Frag} {mg:Str→Option Value} (TS:(∃ a d,mg "is_whole"=some (PySem.Value.ref a)∧L2.Fun K "is_whole" "is_whole" My.s_is_whole a d∧L2.Binds K d ["value","low","high"] [])∧(∃ a d,mg "is_thing"=some (PySem.Value.ref a)∧L2.Fun K "is_thing" "is_thing" My.s_is_thing a d∧L2.Binds K d ["value","many"] [])∧(∃ a d,mg "is_pair"=some (PySem.Value.ref a)∧L2.Fun K "is_pair" "is_pair" My.s_is_pair a d∧L2.Binds K d ["value","many"] [])∧(∃ a d,mg "is_rising"=some (PySem.Value.ref a)∧L2.Fun K "is_rising" "is_rising" My.s_is_rising a d∧L2.Binds K d ["pairs"] [])∧(∃ a d,mg "is_order"=some (PySem.Value.ref a)∧L2.Fun K "is_order" "is_order" My.s_is_order a d∧L2.Binds K d ["value"] [])∧(∃ a d,mg "need_order"=some (PySem.Value.ref a)∧L2.Fun K "need_order" "need_order" My.s_need_order a d∧L2.Binds K d ["value"] [])∧(∃ a d,mg "bars_as_two"=some (PySem.Value.ref a)∧L2.Fun K "bars_as_two" "bars_as_two" My.s_bars_as_two a d∧L2.Binds K d ["pairs","a","b","c","d"] [])∧(∃ a d,mg "bars_as_three"=some (PySem.Value.ref a)∧L2.Fun K "bars_as_three" "bars_as_three" My.s_bars_as_three a d∧L2.Binds K d ["pairs","a","b","c","d"] [])∧(∃ a d,mg "first_two"=some (PySem.Value.ref a)∧L2.Fun K "first_two" "first_two" My.s_first_two a d∧L2.Binds K d ["pairs"] [])∧(∃ a d,mg "first_three"=some (PySem.Value.ref a)∧L2.Fun K "first_three" "first_three" My.s_first_three a d∧L2.Binds K d ["many","pairs"] [])∧(∃ a d,mg "bar"=some (PySem.Value.ref a)∧L2.Fun K "bar" "bar" My.s_bar a d∧L2.Binds K d ["order"] [])∧(∃ a d,mg "need_unbarred"=some (PySem.Value.ref a)∧L2.Fun K "need_unbarred" "need_unbarred" My.s_need_unbarred a d∧L2.Binds K d ["order"] [])∧(∃ a d,mg "are_beside"=some (PySem.Value.ref a)∧L2.Fun K "are_beside" "are_beside" My.s_are_beside a d∧L2.Binds K d ["pairs","one","other"] [])∧(∃ a d,mg "may_stand_behind"=some (PySem.Value.ref a)∧L2.Fun K "may_stand_behind" "may_stand_behind" My.s_may_stand_behind a d∧L2.Binds K d ["allowed","part","thing"] [])∧(∃ a d,mg "longer_parts"=some (PySem.Value.ref a)∧L2.Fun K "longer_parts" "longer_parts" My.s_longer_parts a d∧L2.Binds K d ["many","allowed","parts"] [])∧(∃ a d,mg "all_parts"=some (PySem.Value.ref a)∧L2.Fun K "all_parts" "all_parts" My.s_all_parts a d∧L2.Binds K d ["many","allowed"] [])∧(∃ a d,mg "pairs_beside"=some (PySem.Value.ref a)∧L2.Fun K "pairs_beside" "pairs_beside" My.s_pairs_beside a d∧L2.Binds K d ["order"] [])∧(∃ a d,mg "all_groups"=some (PySem.Value.ref a)∧L2.Fun K "all_groups" "all_groups" My.s_all_groups a d∧L2.Binds K d ["order"] [])∧(∃ a d,mg "all_lines"=some (PySem.Value.ref a)∧L2.Fun K "all_lines" "all_lines" My.s_all_lines a d∧L2.Binds K d ["order"] [])∧(∃ a d,mg "widest"=some (PySem.Value.ref a)∧L2.Fun K "widest" "widest" My.s_widest a d∧L2.Binds K d ["order"] [])∧(∃ a d,mg "longest_line"=some (PySem.Value.ref a)∧L2.Fun K "longest_line" "longest_line" My.s_longest_line a d∧L2.Binds K d ["order"] [])∧(∃ a d,mg "height"=some (PySem.Value.ref a)∧L2.Fun K "height" "height" My.s_height a d∧L2.Binds K d ["pairs","thing"] [])∧(∃ a d,mg "things_at"=some (PySem.Value.ref a)∧L2.Fun K "things_at" "things_at" My.s_things_at a d∧L2.Binds K d ["heights","level"] [])∧(∃ a d,mg "row"=some (PySem.Value.ref a)∧L2.Fun K "row" "row" My.s_row a d∧L2.Binds K d ["order"] [])∧(∃ a d,mg "longest"=some (PySem.Value.ref a)∧L2.Fun K "longest" "longest" My.s_longest a d∧L2.Binds K d ["order"] [])∧(∃ a d,mg "_law_cell_at"=some (PySem.Value.ref a)∧L2.Fun K "_law_cell_at" "_law_cell_at" My.s__law_cell_at a d∧L2.Binds K d ["_law_script","_law_k"] [])∧(∃ a d,mg "_law_mixed"=some (PySem.Value.ref a)∧L2.Fun K "_law_mixed" "_law_mixed" My.s__law_mixed a d∧L2.Binds K d ["_law_script","_law_k","_law_many"] [])∧(∃ a d,mg "_law_draw"=some (PySem.Value.ref a)∧L2.Fun K "_law_draw" "_law_draw" My.s__law_draw a d∧L2.Binds K d ["_law_script","_law_town","_law_many"] [])∧(∃ a d,mg "_law_pick"=some (PySem.Value.ref a)∧L2.Fun K "_law_pick" "_law_pick" My.s__law_pick a d∧L2.Binds K d ["_law_script","_law_town","_law_some"] [])∧(∃ a d,mg "_law_free"=some (PySem.Value.ref a)∧L2.Fun K "_law_free" "_law_free" My.s__law_free a d∧L2.Binds K d ["_law_script","_law_town","_law_low","_law_most"] [])∧(∃ a d,mg "_law_sets"=some (PySem.Value.ref a)∧L2.Fun K "_law_sets" "_law_sets" My.s__law_sets a d∧L2.Binds K d ["_law_many"] [])∧(∃ a d,mg "_law_is_group"=some (PySem.Value.ref a)∧L2.Fun K "_law_is_group" "_law_is_group" My.s__law_is_group a d∧L2.Binds K d ["_law_order","_law_things"] [])∧(∃ a d,mg "_law_lines"=some (PySem.Value.ref a)∧L2.Fun K "_law_lines" "_law_lines" My.s__law_lines a d∧L2.Binds K d ["_law_order"] [])∧(∃ a d,mg "law"=some (PySem.Value.ref a)∧L2.Fun K "law" "law" My.s_law a d∧L2.Binds K d ["_law_script"] [])∧(mg "all"=none)∧(mg "bool"=none)∧(mg "int"=none)∧(mg "isinstance"=none)∧(mg "len"=none)∧(mg "max"=none)∧(mg "min"=none)∧(mg "range"=none)∧(mg "set"=none)∧(mg "sorted"=none)∧(mg "tuple"=none)∧(∃ tk,mg "MOST_THINGS"=some (PySem.Value.int 8 tk))):∃ t:Ad,Txt K mg t:=by
 obtain ⟨⟨a0,d0,m0,F0,b0⟩,⟨a1,d1,m1,F1,b1⟩,⟨a2,d2,m2,F2,b2⟩,⟨a3,d3,m3,F3,b3⟩,⟨a4,d4,m4,F4,b4⟩,⟨a5,d5,m5,F5,b5⟩,⟨a6,d6,m6,F6,b6⟩,⟨a7,d7,m7,F7,b7⟩,⟨a8,d8,m8,F8,b8⟩,⟨a9,d9,m9,F9,b9⟩,⟨a10,d10,m10,F10,b10⟩,⟨a11,d11,m11,F11,b11⟩,⟨a12,d12,m12,F12,b12⟩,⟨a13,d13,m13,F13,b13⟩,⟨a14,d14,m14,F14,b14⟩,⟨a15,d15,m15,F15,b15⟩,⟨a16,d16,m16,F16,b16⟩,⟨a17,d17,m17,F17,b17⟩,⟨a18,d18,m18,F18,b18⟩,⟨a19,d19,m19,F19,b19⟩,⟨a20,d20,m20,F20,b20⟩,⟨a21,d21,m21,F21,b21⟩,⟨a22,d22,m22,F22,b22⟩,⟨a23,d23,m23,F23,b23⟩,⟨a24,d24,m24,F24,b24⟩,⟨a25,d25,m25,F25,b25⟩,⟨a26,d26,m26,F26,b26⟩,⟨a27,d27,m27,F27,b27⟩,⟨a28,d28,m28,F28,b28⟩,⟨a29,d29,m29,F29,b29⟩,⟨a30,d30,m30,F30,b30⟩,⟨a31,d31,m31,F31,b31⟩,⟨a32,d32,m32,F32,b32⟩,⟨a33,d33,m33,F33,b33⟩,N0,N1,N2,N3,N4,N5,N6,N7,N8,N9,N10,C0⟩:=TS
 exact ⟨⟨a0,d0,a1,d1,a2,d2,a3,d3,a4,d4,a5,d5,a6,d6,a7,d7,a8,d8,a9,d9,a10,d10,a11,d11,a12,d12,a13,d13,a14,d14,a15,d15,a16,d16,a17,d17,a18,d18,a19,d19,a20,d20,a21,d21,a22,d22,a23,d23,a24,d24,a25,d25,a26,d26,a27,d27,a28,d28,a29,d29,a30,d30,a31,d31,a32,d32,a33,d33⟩,⟨m0,F0,b0,m1,F1,b1,m2,F2,b2,m3,F3,b3,m4,F4,b4,m5,F5,b5,m6,F6,b6,m7,F7,b7,m8,F8,b8,m9,F9,b9,m10,F10,b10,m11,F11,b11,m12,F12,b12,m13,F13,b13,m14,F14,b14,m15,F15,b15,m16,F16,b16,m17,F17,b17,m18,F18,b18,m19,F19,b19,m20,F20,b20,m21,F21,b21,m22,F22,b22,m23,F23,b23,m24,F24,b24,m25,F25,b25,m26,F26,b26,m27,F27,b27,m28,F28,b28,m29,F29,b29,m30,F30,b30,m31,F31,b31,m32,F32,b32,m33,F33,b33,N0,N1,N2,N3,N4,N5,N6,N7,N8,N9,N10,C0⟩⟩
end My
open PySem PySem.W PyProof.Rows
def PySem.W.Fast.tw14523053894683254004:Nat:=0
def PySem.W.Fast.tw3248352778500451456:Nat:=0
def PySem.W.Fast.tw4325442118396002565:Nat:=0
def PySem.W.Fast.tw8264487714497407727:Nat:=0
def PySem.W.Fast.tw523244026468823003:Nat:=0
def PySem.W.Fast.tw2272005729442653209:Nat:=0
def PySem.W.Fast.tw13033960360573069391:Nat:=0
def PySem.W.Fast.tw8134829148487481500:Nat:=0
def PySem.W.Fast.tw8338624030587530560:Nat:=0
def PySem.W.Fast.tw4750683785708833295:Nat:=0
def PySem.W.Fast.tw12052790034078441070:Nat:=0
def PySem.W.Fast.tw16073922377742279454:Nat:=0
def PySem.W.Fast.tw6255171049877481211:Nat:=0
def PySem.W.Fast.tw15739437304993538239:Nat:=0
def PySem.W.Fast.tw304274662225915599:Nat:=0
def PySem.W.Fast.tw10406454216058082581:Nat:=0
def PySem.W.Fast.tw1580800205217715680:Nat:=0
def PySem.W.Fast.tw4660331962208879977:Nat:=0
def PySem.W.Fast.tw1075278696783122328:Nat:=0
def PySem.W.Fast.tw3388481742471742221:Nat:=0
def PySem.W.Fast.tw14708545683121625080:Nat:=0
def PySem.W.Fast.tw7462574948244904557:Nat:=0
def PySem.W.Fast.tw9185414219768030918:Nat:=0
def PySem.W.Fast.tw10252916749564082243:Nat:=0
def PySem.W.Fast.tw1225960081173221832:Nat:=0
def PySem.W.Fast.tw2475297945600130284:Nat:=0
def PySem.W.Fast.tw5329270526389717000:Nat:=0
def PySem.W.Fast.tw6318438910309628963:Nat:=0
def PySem.W.Fast.tw1272343258367710810:Nat:=0
def PySem.W.Fast.tw16858530531349769464:Nat:=0
def PySem.W.Fast.tw14283148826142890812:Nat:=0
def PySem.W.Fast.tw5639792998320806124:Nat:=0
def PySem.W.Fast.tw6837468619418280480:Nat:=0
def PySem.W.Fast.tw695503512778349165:Nat:=0
def PySem.W.Fast.tw15969350589795276277:Nat:=0
def PySem.W.Fast.tw13383705562803974846:Nat:=0
def PySem.W.Fast.tw14338640156799593574:Nat:=0
def PySem.W.Fast.tw246367089390583954:Nat:=0
def PySem.W.Fast.tw16572196950474920132:Nat:=0
def PySem.W.Fast.tw14711201213539160747:Nat:=0
def PySem.W.Fast.tw10375800578764641193:Nat:=0
def PySem.W.Fast.tw18127493829988359655:Nat:=0
def PySem.W.Fast.tw846170540919104681:Nat:=0
def PySem.W.Fast.tw964372056849341981:Nat:=0
def PySem.W.Fast.tw14044769870698477149:Nat:=0
def PySem.W.Fast.tw13896764800561340568:Nat:=0
def PySem.W.Fast.tw10947960278962822620:Nat:=0
def PySem.W.Fast.tw5515625038215719992:Nat:=0
def PySem.W.Fast.tw18334703255271632885:Nat:=0
def PySem.W.Fast.tw17865509438871767284:Nat:=0
def PySem.W.Fast.tw5755461611067562491:Nat:=0
def PySem.W.Fast.tw12635519926629181039:Nat:=0
def PySem.W.Fast.tw17490749505516910793:Nat:=0
def PySem.W.Fast.tw1813693624419314950:Nat:=0
def PySem.W.Fast.tw10384311995904620908:Nat:=0
def PySem.W.Fast.tw10937323386050846883:Nat:=0
def PySem.W.Fast.tw12469066198279664372:Nat:=0
def PySem.W.Fast.tw1478686008059857845:Nat:=0
def PySem.W.Fast.tw5622093507320798817:Nat:=0
def PySem.W.Fast.tw8092982056144593090:Nat:=0
def PySem.W.Fast.tw16367241450460287472:Nat:=0
def PySem.W.Fast.tw16084687103344999076:Nat:=0
def PySem.W.Fast.tw4621496795217024202:Nat:=0
def PySem.W.Fast.tw15645249477732902010:Nat:=0
def PySem.W.Fast.tw11663504873307146820:Nat:=0
def PySem.W.Fast.tw12119813255657390692:Nat:=0
def PySem.W.Fast.tw518708810791171070:Nat:=0
def PySem.W.Fast.tw9351642821364321552:Nat:=0
def PySem.W.Fast.tw9779237124286257588:Nat:=0
def PySem.W.Fast.tw10569652897527899333:Nat:=0
def PySem.W.Fast.tw6690413845729267868:Nat:=0
def PySem.W.Fast.tw10632072336848157094:Nat:=0
def PySem.W.Fast.tw1266674933992528195:Nat:=0
def PySem.W.Fast.tw1274043198518882383:Nat:=0
def PySem.W.Fast.tw14581943149503310214:Nat:=0
def PySem.W.Fast.tw13518501232082794037:Nat:=0
def PySem.W.Fast.tw9912363714076519977:Nat:=0
def PySem.W.Fast.tw13547931763056293090:Nat:=0
set_option maxRecDepth 100000 in
set_option maxHeartbeats 0 in
theorem PySem.Challenge.cw_noticed_k14_whole_widest_holds : PySem.Challenge.rw_noticed_k14_whole_widest.Holds := by
 w_on;o_law;k_head;(case hw=>w_witness2)
 k_fill
 refine My.walk (l:=PySem.Challenge.rw_noticed_k14_whole_widest) rfl rfl (fun w h Y=>PySem.W.kIn_of Y) ?F
 case F=>
  intro w mg fa h KX G hmg
  have TS:(∃ a d,mg "is_whole"=some (PySem.Value.ref a)∧L2.Fun (L2.KOf KX) "is_whole" "is_whole" My.s_is_whole a d∧L2.Binds (L2.KOf KX) d ["value","low","high"] [])∧(∃ a d,mg "is_thing"=some (PySem.Value.ref a)∧L2.Fun (L2.KOf KX) "is_thing" "is_thing" My.s_is_thing a d∧L2.Binds (L2.KOf KX) d ["value","many"] [])∧(∃ a d,mg "is_pair"=some (PySem.Value.ref a)∧L2.Fun (L2.KOf KX) "is_pair" "is_pair" My.s_is_pair a d∧L2.Binds (L2.KOf KX) d ["value","many"] [])∧(∃ a d,mg "is_rising"=some (PySem.Value.ref a)∧L2.Fun (L2.KOf KX) "is_rising" "is_rising" My.s_is_rising a d∧L2.Binds (L2.KOf KX) d ["pairs"] [])∧(∃ a d,mg "is_order"=some (PySem.Value.ref a)∧L2.Fun (L2.KOf KX) "is_order" "is_order" My.s_is_order a d∧L2.Binds (L2.KOf KX) d ["value"] [])∧(∃ a d,mg "need_order"=some (PySem.Value.ref a)∧L2.Fun (L2.KOf KX) "need_order" "need_order" My.s_need_order a d∧L2.Binds (L2.KOf KX) d ["value"] [])∧(∃ a d,mg "bars_as_two"=some (PySem.Value.ref a)∧L2.Fun (L2.KOf KX) "bars_as_two" "bars_as_two" My.s_bars_as_two a d∧L2.Binds (L2.KOf KX) d ["pairs","a","b","c","d"] [])∧(∃ a d,mg "bars_as_three"=some (PySem.Value.ref a)∧L2.Fun (L2.KOf KX) "bars_as_three" "bars_as_three" My.s_bars_as_three a d∧L2.Binds (L2.KOf KX) d ["pairs","a","b","c","d"] [])∧(∃ a d,mg "first_two"=some (PySem.Value.ref a)∧L2.Fun (L2.KOf KX) "first_two" "first_two" My.s_first_two a d∧L2.Binds (L2.KOf KX) d ["pairs"] [])∧(∃ a d,mg "first_three"=some (PySem.Value.ref a)∧L2.Fun (L2.KOf KX) "first_three" "first_three" My.s_first_three a d∧L2.Binds (L2.KOf KX) d ["many","pairs"] [])∧(∃ a d,mg "bar"=some (PySem.Value.ref a)∧L2.Fun (L2.KOf KX) "bar" "bar" My.s_bar a d∧L2.Binds (L2.KOf KX) d ["order"] [])∧(∃ a d,mg "need_unbarred"=some (PySem.Value.ref a)∧L2.Fun (L2.KOf KX) "need_unbarred" "need_unbarred" My.s_need_unbarred a d∧L2.Binds (L2.KOf KX) d ["order"] [])∧(∃ a d,mg "are_beside"=some (PySem.Value.ref a)∧L2.Fun (L2.KOf KX) "are_beside" "are_beside" My.s_are_beside a d∧L2.Binds (L2.KOf KX) d ["pairs","one","other"] [])∧(∃ a d,mg "may_stand_behind"=some (PySem.Value.ref a)∧L2.Fun (L2.KOf KX) "may_stand_behind" "may_stand_behind" My.s_may_stand_behind a d∧L2.Binds (L2.KOf KX) d ["allowed","part","thing"] [])∧(∃ a d,mg "longer_parts"=some (PySem.Value.ref a)∧L2.Fun (L2.KOf KX) "longer_parts" "longer_parts" My.s_longer_parts a d∧L2.Binds (L2.KOf KX) d ["many","allowed","parts"] [])∧(∃ a d,mg "all_parts"=some (PySem.Value.ref a)∧L2.Fun (L2.KOf KX) "all_parts" "all_parts" My.s_all_parts a d∧L2.Binds (L2.KOf KX) d ["many","allowed"] [])∧(∃ a d,mg "pairs_beside"=some (PySem.Value.ref a)∧L2.Fun (L2.KOf KX) "pairs_beside" "pairs_beside" My.s_pairs_beside a d∧L2.Binds (L2.KOf KX) d ["order"] [])∧(∃ a d,mg "all_groups"=some (PySem.Value.ref a)∧L2.Fun (L2.KOf KX) "all_groups" "all_groups" My.s_all_groups a d∧L2.Binds (L2.KOf KX) d ["order"] [])∧(∃ a d,mg "all_lines"=some (PySem.Value.ref a)∧L2.Fun (L2.KOf KX) "all_lines" "all_lines" My.s_all_lines a d∧L2.Binds (L2.KOf KX) d ["order"] [])∧(∃ a d,mg "widest"=some (PySem.Value.ref a)∧L2.Fun (L2.KOf KX) "widest" "widest" My.s_widest a d∧L2.Binds (L2.KOf KX) d ["order"] [])∧(∃ a d,mg "longest_line"=some (PySem.Value.ref a)∧L2.Fun (L2.KOf KX) "longest_line" "longest_line" My.s_longest_line a d∧L2.Binds (L2.KOf KX) d ["order"] [])∧(∃ a d,mg "height"=some (PySem.Value.ref a)∧L2.Fun (L2.KOf KX) "height" "height" My.s_height a d∧L2.Binds (L2.KOf KX) d ["pairs","thing"] [])∧(∃ a d,mg "things_at"=some (PySem.Value.ref a)∧L2.Fun (L2.KOf KX) "things_at" "things_at" My.s_things_at a d∧L2.Binds (L2.KOf KX) d ["heights","level"] [])∧(∃ a d,mg "row"=some (PySem.Value.ref a)∧L2.Fun (L2.KOf KX) "row" "row" My.s_row a d∧L2.Binds (L2.KOf KX) d ["order"] [])∧(∃ a d,mg "longest"=some (PySem.Value.ref a)∧L2.Fun (L2.KOf KX) "longest" "longest" My.s_longest a d∧L2.Binds (L2.KOf KX) d ["order"] [])∧(∃ a d,mg "_law_cell_at"=some (PySem.Value.ref a)∧L2.Fun (L2.KOf KX) "_law_cell_at" "_law_cell_at" My.s__law_cell_at a d∧L2.Binds (L2.KOf KX) d ["_law_script","_law_k"] [])∧(∃ a d,mg "_law_mixed"=some (PySem.Value.ref a)∧L2.Fun (L2.KOf KX) "_law_mixed" "_law_mixed" My.s__law_mixed a d∧L2.Binds (L2.KOf KX) d ["_law_script","_law_k","_law_many"] [])∧(∃ a d,mg "_law_draw"=some (PySem.Value.ref a)∧L2.Fun (L2.KOf KX) "_law_draw" "_law_draw" My.s__law_draw a d∧L2.Binds (L2.KOf KX) d ["_law_script","_law_town","_law_many"] [])∧(∃ a d,mg "_law_pick"=some (PySem.Value.ref a)∧L2.Fun (L2.KOf KX) "_law_pick" "_law_pick" My.s__law_pick a d∧L2.Binds (L2.KOf KX) d ["_law_script","_law_town","_law_some"] [])∧(∃ a d,mg "_law_free"=some (PySem.Value.ref a)∧L2.Fun (L2.KOf KX) "_law_free" "_law_free" My.s__law_free a d∧L2.Binds (L2.KOf KX) d ["_law_script","_law_town","_law_low","_law_most"] [])∧(∃ a d,mg "_law_sets"=some (PySem.Value.ref a)∧L2.Fun (L2.KOf KX) "_law_sets" "_law_sets" My.s__law_sets a d∧L2.Binds (L2.KOf KX) d ["_law_many"] [])∧(∃ a d,mg "_law_is_group"=some (PySem.Value.ref a)∧L2.Fun (L2.KOf KX) "_law_is_group" "_law_is_group" My.s__law_is_group a d∧L2.Binds (L2.KOf KX) d ["_law_order","_law_things"] [])∧(∃ a d,mg "_law_lines"=some (PySem.Value.ref a)∧L2.Fun (L2.KOf KX) "_law_lines" "_law_lines" My.s__law_lines a d∧L2.Binds (L2.KOf KX) d ["_law_order"] [])∧(∃ a d,mg "law"=some (PySem.Value.ref a)∧L2.Fun (L2.KOf KX) "law" "law" My.s_law a d∧L2.Binds (L2.KOf KX) d ["_law_script"] [])∧(mg "all"=none)∧(mg "bool"=none)∧(mg "int"=none)∧(mg "isinstance"=none)∧(mg "len"=none)∧(mg "max"=none)∧(mg "min"=none)∧(mg "range"=none)∧(mg "set"=none)∧(mg "sorted"=none)∧(mg "tuple"=none)∧(∃ tk,mg "MOST_THINGS"=some (PySem.Value.int 8 tk)):=by
   refine' ⟨?t0,?t1,?t2,?t3,?t4,?t5,?t6,?t7,?t8,?t9,?t10,?t11,?t12,?t13,?t14,?t15,?t16,?t17,?t18,?t19,?t20,?t21,?t22,?t23,?t24,?t25,?t26,?t27,?t28,?t29,?t30,?t31,?t32,?t33,?t34,?t35,?t36,?t37,?t38,?t39,?t40,?t41,?t42,?t43,?t44,?t45⟩
   case t0=>
    dsimp only [L2.KOf]
    refine' My.mkF KX G ?hb ?e ?l ?c ?k
    (case hb=>exact fun _ _ _ _ _ _=>My.of3 (fun _ _ _=>rfl))
    (case e=>k_is);(case l=>k_is);(case c=>k_is);(case k=>k_is)
   case t1=>
    dsimp only [L2.KOf]
    refine' My.mkF KX G ?hb ?e ?l ?c ?k
    (case hb=>exact fun _ _ _ _ _ _=>My.of2 (fun _ _=>rfl))
    (case e=>k_is);(case l=>k_is);(case c=>k_is);(case k=>k_is)
   case t2=>
    dsimp only [L2.KOf]
    refine' My.mkF KX G ?hb ?e ?l ?c ?k
    (case hb=>exact fun _ _ _ _ _ _=>My.of2 (fun _ _=>rfl))
    (case e=>k_is);(case l=>k_is);(case c=>k_is);(case k=>k_is)
   case t3=>
    dsimp only [L2.KOf]
    refine' My.mkF KX G ?hb ?e ?l ?c ?k
    (case hb=>exact fun _ _ _ _ _ _=>My.of1 (fun _=>rfl))
    (case e=>k_is);(case l=>k_is);(case c=>k_is);(case k=>k_is)
   case t4=>
    dsimp only [L2.KOf]
    refine' My.mkF KX G ?hb ?e ?l ?c ?k
    (case hb=>exact fun _ _ _ _ _ _=>My.of1 (fun _=>rfl))
    (case e=>k_is);(case l=>k_is);(case c=>k_is);(case k=>k_is)
   case t5=>
    dsimp only [L2.KOf]
    refine' My.mkF KX G ?hb ?e ?l ?c ?k
    (case hb=>exact fun _ _ _ _ _ _=>My.of1 (fun _=>rfl))
    (case e=>k_is);(case l=>k_is);(case c=>k_is);(case k=>k_is)
   case t6=>
    dsimp only [L2.KOf]
    refine' My.mkF KX G ?hb ?e ?l ?c ?k
    (case hb=>exact fun _ _ _ _ _ _=>My.of5 (fun _ _ _ _ _=>rfl))
    (case e=>k_is);(case l=>k_is);(case c=>k_is);(case k=>k_is)
   case t7=>
    dsimp only [L2.KOf]
    refine' My.mkF KX G ?hb ?e ?l ?c ?k
    (case hb=>exact fun _ _ _ _ _ _=>My.of5 (fun _ _ _ _ _=>rfl))
    (case e=>k_is);(case l=>k_is);(case c=>k_is);(case k=>k_is)
   case t8=>
    dsimp only [L2.KOf]
    refine' My.mkF KX G ?hb ?e ?l ?c ?k
    (case hb=>exact fun _ _ _ _ _ _=>My.of1 (fun _=>rfl))
    (case e=>k_is);(case l=>k_is);(case c=>k_is);(case k=>k_is)
   case t9=>
    dsimp only [L2.KOf]
    refine' My.mkF KX G ?hb ?e ?l ?c ?k
    (case hb=>exact fun _ _ _ _ _ _=>My.of2 (fun _ _=>rfl))
    (case e=>k_is);(case l=>k_is);(case c=>k_is);(case k=>k_is)
   case t10=>
    dsimp only [L2.KOf]
    refine' My.mkF KX G ?hb ?e ?l ?c ?k
    (case hb=>exact fun _ _ _ _ _ _=>My.of1 (fun _=>rfl))
    (case e=>k_is);(case l=>k_is);(case c=>k_is);(case k=>k_is)
   case t11=>
    dsimp only [L2.KOf]
    refine' My.mkF KX G ?hb ?e ?l ?c ?k
    (case hb=>exact fun _ _ _ _ _ _=>My.of1 (fun _=>rfl))
    (case e=>k_is);(case l=>k_is);(case c=>k_is);(case k=>k_is)
   case t12=>
    dsimp only [L2.KOf]
    refine' My.mkF KX G ?hb ?e ?l ?c ?k
    (case hb=>exact fun _ _ _ _ _ _=>My.of3 (fun _ _ _=>rfl))
    (case e=>k_is);(case l=>k_is);(case c=>k_is);(case k=>k_is)
   case t13=>
    dsimp only [L2.KOf]
    refine' My.mkF KX G ?hb ?e ?l ?c ?k
    (case hb=>exact fun _ _ _ _ _ _=>My.of3 (fun _ _ _=>rfl))
    (case e=>k_is);(case l=>k_is);(case c=>k_is);(case k=>k_is)
   case t14=>
    dsimp only [L2.KOf]
    refine' My.mkF KX G ?hb ?e ?l ?c ?k
    (case hb=>exact fun _ _ _ _ _ _=>My.of3 (fun _ _ _=>rfl))
    (case e=>k_is);(case l=>k_is);(case c=>k_is);(case k=>k_is)
   case t15=>
    dsimp only [L2.KOf]
    refine' My.mkF KX G ?hb ?e ?l ?c ?k
    (case hb=>exact fun _ _ _ _ _ _=>My.of2 (fun _ _=>rfl))
    (case e=>k_is);(case l=>k_is);(case c=>k_is);(case k=>k_is)
   case t16=>
    dsimp only [L2.KOf]
    refine' My.mkF KX G ?hb ?e ?l ?c ?k
    (case hb=>exact fun _ _ _ _ _ _=>My.of1 (fun _=>rfl))
    (case e=>k_is);(case l=>k_is);(case c=>k_is);(case k=>k_is)
   case t17=>
    dsimp only [L2.KOf]
    refine' My.mkF KX G ?hb ?e ?l ?c ?k
    (case hb=>exact fun _ _ _ _ _ _=>My.of1 (fun _=>rfl))
    (case e=>k_is);(case l=>k_is);(case c=>k_is);(case k=>k_is)
   case t18=>
    dsimp only [L2.KOf]
    refine' My.mkF KX G ?hb ?e ?l ?c ?k
    (case hb=>exact fun _ _ _ _ _ _=>My.of1 (fun _=>rfl))
    (case e=>k_is);(case l=>k_is);(case c=>k_is);(case k=>k_is)
   case t19=>
    dsimp only [L2.KOf]
    refine' My.mkF KX G ?hb ?e ?l ?c ?k
    (case hb=>exact fun _ _ _ _ _ _=>My.of1 (fun _=>rfl))
    (case e=>k_is);(case l=>k_is);(case c=>k_is);(case k=>k_is)
   case t20=>
    dsimp only [L2.KOf]
    refine' My.mkF KX G ?hb ?e ?l ?c ?k
    (case hb=>exact fun _ _ _ _ _ _=>My.of1 (fun _=>rfl))
    (case e=>k_is);(case l=>k_is);(case c=>k_is);(case k=>k_is)
   case t21=>
    dsimp only [L2.KOf]
    refine' My.mkF KX G ?hb ?e ?l ?c ?k
    (case hb=>exact fun _ _ _ _ _ _=>My.of2 (fun _ _=>rfl))
    (case e=>k_is);(case l=>k_is);(case c=>k_is);(case k=>k_is)
   case t22=>
    dsimp only [L2.KOf]
    refine' My.mkF KX G ?hb ?e ?l ?c ?k
    (case hb=>exact fun _ _ _ _ _ _=>My.of2 (fun _ _=>rfl))
    (case e=>k_is);(case l=>k_is);(case c=>k_is);(case k=>k_is)
   case t23=>
    dsimp only [L2.KOf]
    refine' My.mkF KX G ?hb ?e ?l ?c ?k
    (case hb=>exact fun _ _ _ _ _ _=>My.of1 (fun _=>rfl))
    (case e=>k_is);(case l=>k_is);(case c=>k_is);(case k=>k_is)
   case t24=>
    dsimp only [L2.KOf]
    refine' My.mkF KX G ?hb ?e ?l ?c ?k
    (case hb=>exact fun _ _ _ _ _ _=>My.of1 (fun _=>rfl))
    (case e=>k_is);(case l=>k_is);(case c=>k_is);(case k=>k_is)
   case t25=>
    dsimp only [L2.KOf]
    refine' My.mkF KX G ?hb ?e ?l ?c ?k
    (case hb=>exact fun _ _ _ _ _ _=>My.of2 (fun _ _=>rfl))
    (case e=>k_is);(case l=>k_is);(case c=>k_is);(case k=>k_is)
   case t26=>
    dsimp only [L2.KOf]
    refine' My.mkF KX G ?hb ?e ?l ?c ?k
    (case hb=>exact fun _ _ _ _ _ _=>My.of3 (fun _ _ _=>rfl))
    (case e=>k_is);(case l=>k_is);(case c=>k_is);(case k=>k_is)
   case t27=>
    dsimp only [L2.KOf]
    refine' My.mkF KX G ?hb ?e ?l ?c ?k
    (case hb=>exact fun _ _ _ _ _ _=>My.of3 (fun _ _ _=>rfl))
    (case e=>k_is);(case l=>k_is);(case c=>k_is);(case k=>k_is)
   case t28=>
    dsimp only [L2.KOf]
    refine' My.mkF KX G ?hb ?e ?l ?c ?k
    (case hb=>exact fun _ _ _ _ _ _=>My.of3 (fun _ _ _=>rfl))
    (case e=>k_is);(case l=>k_is);(case c=>k_is);(case k=>k_is)
   case t29=>
    dsimp only [L2.KOf]
    refine' My.mkF KX G ?hb ?e ?l ?c ?k
    (case hb=>exact fun _ _ _ _ _ _=>My.of4 (fun _ _ _ _=>rfl))
    (case e=>k_is);(case l=>k_is);(case c=>k_is);(case k=>k_is)
   case t30=>
    dsimp only [L2.KOf]
    refine' My.mkF KX G ?hb ?e ?l ?c ?k
    (case hb=>exact fun _ _ _ _ _ _=>My.of1 (fun _=>rfl))
    (case e=>k_is);(case l=>k_is);(case c=>k_is);(case k=>k_is)
   case t31=>
    dsimp only [L2.KOf]
    refine' My.mkF KX G ?hb ?e ?l ?c ?k
    (case hb=>exact fun _ _ _ _ _ _=>My.of2 (fun _ _=>rfl))
    (case e=>k_is);(case l=>k_is);(case c=>k_is);(case k=>k_is)
   case t32=>
    dsimp only [L2.KOf]
    refine' My.mkF KX G ?hb ?e ?l ?c ?k
    (case hb=>exact fun _ _ _ _ _ _=>My.of1 (fun _=>rfl))
    (case e=>k_is);(case l=>k_is);(case c=>k_is);(case k=>k_is)
   case t33=>
    dsimp only [L2.KOf]
    refine' My.mkF KX G ?hb ?e ?l ?c ?k
    (case hb=>exact fun _ _ _ _ _ _=>My.of1 (fun _=>rfl))
    (case e=>k_is);(case l=>k_is);(case c=>k_is);(case k=>k_is)
   case t34=>
    refine' My.mkN KX G ?e
    (case e=>k_is)
   case t35=>
    refine' My.mkN KX G ?e
    (case e=>k_is)
   case t36=>
    refine' My.mkN KX G ?e
    (case e=>k_is)
   case t37=>
    refine' My.mkN KX G ?e
    (case e=>k_is)
   case t38=>
    refine' My.mkN KX G ?e
    (case e=>k_is)
   case t39=>
    refine' My.mkN KX G ?e
    (case e=>k_is)
   case t40=>
    refine' My.mkN KX G ?e
    (case e=>k_is)
   case t41=>
    refine' My.mkN KX G ?e
    (case e=>k_is)
   case t42=>
    refine' My.mkN KX G ?e
    (case e=>k_is)
   case t43=>
    refine' My.mkN KX G ?e
    (case e=>k_is)
   case t44=>
    refine' My.mkN KX G ?e
    (case e=>k_is)
   case t45=>
    refine' My.mkC KX G ?e
    (case e=>k_is)
  obtain ⟨t,T⟩:=My.txt_of TS
  have e:=hmg.symm.trans T.m_law
  cases e
  exact ⟨_,My.law_binds T.F_law,fun base _ _=>My.ok_law T⟩
#print axioms PySem.Challenge.cw_noticed_k14_whole_widest_holds
