import PyProof.Rows.All
import Wide.All
import OpenK.AllK
import Wide.FinOn
import Lean
import PyProof.EqAt
import PyProof.EqKinds
import PyProof.TupleCall
import PyProof.P3Eq
import PyProof.P3In
import PyProof.NeData
import KE.KSortTup
import KE.LcSums
import PyProof.Rows.TupAdd
import KE.KTryMore
import OpenK.KOwn
import PyProof.NsDelKeeps
import PyProof.ExcArgsOwn
import KE.KIsAll
import KE.KDictList
import KE.KLam
import KE.KMinKey
import KE.KNest
import KE.KNestM
import KE.KRevIter
import PyProof.Draws
import PyProof.EnumMake
import PyProof.FactsAll.tuple
import PyProof.ListMulRoad
import PyProof.ListRange
import PyProof.MinMaxWalk
import PyProof.Rows.MinMaxN
import PyProof.Rows.SetFrom
import PyProof.Rows.SumAny
import PyProof.SliceList
import PyProof.TupleOfSeq
import PyProof.WalkInts
import PyProof.WalksMore
import PyProof.ZipIter
import PySem.Challenge.RW_noticed_k07_whole_changed
set_option Elab.async false
set_option linter.all false
set_option maxRecDepth 100000
namespace L2
open PySem PySem.Spec PyProof.Rows
noncomputable abbrev Key:=Sum Int Str
noncomputable def keyIs:Key→Value→Bool
 | .inl k,v=>Value.isInt k v
 | .inr x,v=>Value.isStrOf x v
noncomputable def keyH (w:World):Key→Int
 | .inl k=>hashInt k
 | .inr x=>hashStr w x
theorem keyIs_shape:∀ {k:Key} {v:Value},keyIs k v=true→(∃ i t,k=Sum.inl i∧v=Value.int i t)∨(∃ x t,k=Sum.inr x∧v=Value.str x t)
 | .inl i,v,h=>by
  obtain ⟨t,e⟩:=Value.isInt_shape (k:=i) (v:=v) h
  exact .inl ⟨i,t,rfl,e⟩
 | .inr x,v,h=>by
  obtain ⟨t,e⟩:=Value.isStrOf_shape (x:=x) (v:=v) h
  exact .inr ⟨x,t,rfl,e⟩
theorem keyIs_int (i:Int) (t:Tok):keyIs (.inl i) (.int i t)=true:=by simp [keyIs,Value.isInt]
theorem keyIs_str (x:Str) (t:Tok):keyIs (.inr x) (.str x t)=true:=by simp [keyIs,Value.isStrOf]
theorem key_ll (a b:Int):decide ((Sum.inl a:Key)=Sum.inl b)=(a==b):=by
 by_cases e:a=b
 ·subst e;simp
 ·have h:¬(Sum.inl a:Key)=Sum.inl b:=fun q=>e (Sum.inl.inj q)
  rw [decide_eq_false h]
  exact (beq_eq_false_iff_ne.mpr e).symm
theorem key_rr (a b:Str):decide ((Sum.inr a:Key)=Sum.inr b)=decide (a=b):=by
 by_cases e:a=b
 ·subst e;simp
 ·have h:¬(Sum.inr a:Key)=Sum.inr b:=fun q=>e (Sum.inr.inj q)
  rw [decide_eq_false h,decide_eq_false e]
theorem key_lr (a:Int) (b:Str):decide ((Sum.inl a:Key)=Sum.inr b)=false:=decide_eq_false (fun q=>nomatch q)
theorem key_rl (a:Str) (b:Int):decide ((Sum.inr a:Key)=Sum.inl b)=false:=decide_eq_false (fun q=>nomatch q)
noncomputable def mixKind (prog:Program) (w:World):PySem.KeyKind prog w Key where
 is:=keyIs
 hash:=keyH w
 inj:=fun v a b ha hb=>by
  rcases keyIs_shape ha with ⟨i,t,rfl,rfl⟩ | ⟨x,t,rfl,rfl⟩
  ·rcases keyIs_shape hb with ⟨j,u,rfl,e⟩ | ⟨y,u,rfl,e⟩
   ·injection e with e1 _;rw [e1]
   ·exact nomatch e
  ·rcases keyIs_shape hb with ⟨j,u,rfl,e⟩ | ⟨y,u,rfl,e⟩
   ·exact nomatch e
   ·injection e with e1 _;rw [e1]
 byValue:=fun k v h=>by
  rcases keyIs_shape h with ⟨i,t,rfl,rfl⟩ | ⟨x,t,rfl,rfl⟩ <;> rfl
 pyHash:=fun hv h=>by
  rcases keyIs_shape hv with ⟨i,t,rfl,rfl⟩ | ⟨x,t,rfl,rfl⟩
  ·exact wpAny_pyHash_int h
  ·exact wpAny_pyHash_str h
 eqBool:=fun hu hv h=>by
  rcases keyIs_shape hu with ⟨i,t,rfl,rfl⟩ | ⟨x,t,rfl,rfl⟩
  ·rcases keyIs_shape hv with ⟨j,u,rfl,rfl⟩ | ⟨y,u,rfl,rfl⟩
   ·rw [key_ll] at h;exact wpAny_eqBool_int h
   ·rw [key_lr] at h;exact SeqAt.EqAt.int_str i t y u _ _ _ _ h
  ·rcases keyIs_shape hv with ⟨j,u,rfl,rfl⟩ | ⟨y,u,rfl,rfl⟩
   ·rw [key_rl] at h;exact SeqAt.EqAt.str_int x t j u _ _ _ _ h
   ·rw [key_rr] at h;exact wpAny_eqBool_str h
 «strs»:=fun k x t v h=>by
  rcases keyIs_shape h with ⟨i,u,rfl,e⟩ | ⟨y,u,rfl,e⟩
  ·exact nomatch e
  ·injection e with e1 _
   subst e1
   cases v <;> rfl
theorem mixKind_int (prog:Program) (w:World) (i:Int) (t:Tok):(mixKind prog w).is (.inl i) (.int i t)=true:=keyIs_int i t
theorem mixKind_str (prog:Program) (w:World) (x:Str) (t:Tok):(mixKind prog w).is (.inr x) (.str x t)=true:=keyIs_str x t
end L2
namespace L2
open PySem PySem.Spec PyProof.Rows
inductive V where
 | non | bl (b:Bool) | int (i:Int) | str (x:Str) | byt (b:Array UInt8) | flt (b:UInt64) | ref (a:Addr) | ty (n:String)
 deriving DecidableEq
noncomputable def RelV:V→Value→Prop
 | .non,u=>u=Value.none
 | .bl b,u=>u=Value.bool b
 | .int i,u=>∃ t,u=Value.int i t
 | .str x,u=>∃ t,u=Value.str x t
 | .byt b,u=>∃ t,u=Value.bytes b t
 | .flt b,u=>∃ t,u=Value.float b t
 | .ref a,u=>u=Value.ref a
 | .ty n,u=>u=Value.type n
noncomputable abbrev Vals:List V→List Value→Prop:=Paired RelV
theorem Vals.length {xs:List V} {us:List Value} (r:Vals xs us):xs.length=us.length:=Paired.length r
theorem Vals.get:∀ {xs:List V} {us:List Value} {i:Nat} {x:V},Vals xs us→xs[i]? =some x→∃ u,us[i]? =some u∧RelV x u
 | _,_,_,_,.nil,e=>by simp at e
 | _,_,0,_,.cons r _,e=>by simp at e;subst e;exact ⟨_,rfl,r⟩
 | _,_,i + 1,x,.cons _ t,e=>by
  obtain ⟨u,h1,h2⟩:=Vals.get (i:=i) (x:=x) t (by simpa using e)
  exact ⟨u,by simpa using h1,h2⟩
theorem Vals.set {x:V} {u:Value} (r:RelV x u):∀ {xs:List V} {us:List Value} (i:Nat),Vals xs us→Vals (xs.set i x) (us.set i u)
 | _,_,_,.nil=>.nil
 | _,_,0,.cons _ t=>.cons r t
 | _,_,i + 1,.cons q t=>.cons q (Vals.set r i t)
theorem Vals.append:∀ {xs ys:List V} {us ws:List Value},Vals xs us→Vals ys ws→Vals (xs++ys) (us++ws)
 | _,_,_,_,.nil,s=>s
 | _,_,_,_,.cons r t,s=>.cons r (Vals.append t s)
theorem Vals.take:∀ {xs:List V} {us:List Value} (n:Nat),Vals xs us→Vals (xs.take n) (us.take n)
 | _,_,0,_=>.nil
 | _,_,_ + 1,.nil=>.nil
 | _,_,n + 1,.cons r t=>.cons r (Vals.take n t)
theorem Vals.drop:∀ {xs:List V} {us:List Value} (n:Nat),Vals xs us→Vals (xs.drop n) (us.drop n)
 | _,_,0,r=>r
 | _,_,_ + 1,.nil=>.nil
 | _,_,n + 1,.cons _ t=>Vals.drop n t
theorem Vals.none_of:∀ {xs:List V} {us:List Value} {i:Nat},Vals xs us→xs[i]? =none→us[i]? =none:=fun {xs us i} r e=>by
 have h1:=r.length
 have h2:xs.length≤i:=List.getElem?_eq_none_iff.mp e
 exact List.getElem?_eq_none_iff.mpr (by omega)
noncomputable def RelO:Option V→Option Value→Prop
 | some v,some u=>RelV v u
 | none,none=>True
 | _,_=>False
noncomputable def KV {κ:Type}:List (κ×V)→List (κ×Value)→Prop:=Paired fun (p:κ×V) (q:κ×Value)=>p.1=q.1∧RelV p.2 q.2
noncomputable def kV:Key→V
 | .inl i=>.int i
 | .inr x=>.str x
inductive HO where
 | lst (xs:List V)
 | tup (xs:List V)
 | dK (kvs:List (Key×V)) | dT (kvs:List (List Key×V))
 | set (S:Int→Bool) (n:Nat)
 | ins (C dx:Addr) (fs:List (Str×V))
 | own (x:Addr)
 | xd (fs:List (Str×V))
 | met (f x:Addr)
 | rng (lo hi:Int)
 | frz (o:Obj) (u:HO)
 | tbl (ps:Array Value)
 | ext (φ:Heap→Prop)
noncomputable abbrev Hp:=Addr→Option HO
noncomputable def upd (H:Hp) (a:Addr) (o:HO):Hp:=fun b=>if b=a then some o else H b
theorem upd_same {H:Hp} {a:Addr} {o:HO}:upd H a o a=some o:=by unfold upd;rw [if_pos rfl]
theorem upd_ne {H:Hp} {a b:Addr} {o:HO} (h:b≠a):upd H a o b=H b:=by unfold upd;rw [if_neg h]
theorem ne_of {H:Hp} {a b:Addr} {o u:HO} (h:H a=some o) (h':H b=some u) (d:o≠u):a≠b:=by
 intro e;subst e;rw [h] at h';exact d (Option.some.inj h')
theorem ne_of_none {H:Hp} {a b:Addr} {o:HO} (h:H a=some o) (h':H b=none):a≠b:=by
 intro e;subst e;rw [h] at h';cases h'
noncomputable def IsTupN (h:Heap) (a:Addr) (items:Array Value):Prop:=IsTup h a items∧∃ o,h.get? a=some o∧o.dict=none
theorem IsTupN.new (h:Heap) (items:Array Value):IsTupN (h.push { cls:=.type "tuple",data:=.seq items }) h.objs.size items:=⟨IsTup.new h items,_,Heap.get?_push_size _ rfl,rfl⟩
section
variable (P:Program) (w:World)
noncomputable def ObjOk (H:Hp) (h:Heap) (a:Addr):HO→Prop
 | .lst xs=>xs.length≤sizeLine∧∃ (its:List Value) (n:Nat),Vals xs its∧h.get? a=some { cls:=.type "list",data:=.seq its.toArray n }
 | .tup xs=>xs.length≤sizeLine∧∃ its:List Value,Vals xs its∧IsTupN h a its.toArray
 | .dK kvs=>kvs.length≤sizeLine∧(a==sysModules)=false∧∃ vs,KV kvs vs∧h.DictOf (mixKind P w) a vs
 | .dT kvs=>kvs.length≤sizeLine∧(a==sysModules)=false∧∃ xs:List (List Key×Addr×Value),
   Paired (fun (p:List Key×V) (q:List Key×Addr×Value)=>p.1=q.1∧H q.2.1=some (.tup (p.1.map kV))∧RelV p.2 q.2.2) kvs xs∧
   ∃ o es ep,h.get? a=some o∧o.ExactDict∧o.data=.dict es ep∧es.toList=xs.map (entryOfKey (tupleKind (mixKind P w)))∧(xs.map (·.1)).Nodup
 | .set S n=>h.SetOf (intKind P w) a S n
 | .ins C dx fs=>H dx=some (.own a)∧fs.length≤1000∧dx≠a∧h.get? a=some (PySem.W.instObj C dx)∧
   ∃ mA,h.Ns1 dx mA∧(∀ f,RelO (fs.lookup f) (mA f))∧PySem.Within mA (fs.map (·.1))
 | .own _=>∃ o,h.get? a=some o
 | .xd fs=>∃ mA,h.Ns1 a mA∧∀ f,RelO (fs.lookup f) (mA f)
 | .rng lo hi=>∃ t u v,h.get? a=some { cls:=.type "range",data:=.fields #[.int lo t,.int hi u,.int 1 v] }
 | .frz o u=>h.get? a=some o∧ObjOk H h a u
 | .tbl ps=>h.get? a=some { cls:=.none,data:=.fields ps }
 | .met f x=>h.get? a=some (PySem.W.methodObj (.ref f) (.ref x))
 | .ext φ=>φ h∧(∃ o,h.get? a=some o)∧∀ h1 h2:Heap,φ h1→(∀ o,h1.get? a=some o→h2.get? a=some o)→φ h2
noncomputable def HOk (H:Hp) (h:Heap):Prop:=∀ a o,H a=some o→ObjOk P w H h a o
end
section
variable {P:Program} {w:World} {H H':Hp} {h h':Heap} {a:Addr} {o:HO}
theorem ObjOk.lt (x:ObjOk P w H h a o):a < h.objs.size:=by
 cases o with
 | lst xs=>obtain ⟨_,_,_,_,e⟩:=x;exact Heap.lt_size e
 | tup xs=>obtain ⟨_,_,_,p⟩:=x;exact p.1.lt
 | dK kvs=>obtain ⟨_,_,_,_,o,_,_,e,_⟩:=x;exact Heap.lt_size e
 | dT kvs=>obtain ⟨_,_,_,_,o,_,_,e,_⟩:=x;exact Heap.lt_size e
 | set S n=>obtain ⟨o,_,_,_,e,_⟩:=x;exact Heap.lt_size e
 | ins C dx fs=>obtain ⟨_,_,_,e,_⟩:=x;exact Heap.lt_size e
 | own y=>obtain ⟨_,e⟩:=x;exact Heap.lt_size e
 | xd fs=>obtain ⟨_,⟨_,_,_,e,_⟩,_⟩:=x;exact Heap.lt_size e
 | rng lo hi=>obtain ⟨_,_,_,e⟩:=x;exact Heap.lt_size e
 | frz ob u=>obtain ⟨e,_⟩:=x;exact Heap.lt_size e
 | tbl ps=>exact Heap.lt_size (show h.get? a=some _ from x)
 | met f y=>exact Heap.lt_size (show h.get? a=some _ from x)
 | ext φ=>obtain ⟨_,⟨_,e⟩,_⟩:=x;exact Heap.lt_size e
theorem Paired.mapP {α β:Type} {F G:α→β→Prop}:∀ {l₁:List α} {l₂:List β},Paired F l₁ l₂→(∀ a b,F a b→G a b)→Paired G l₁ l₂
 | _,_,.nil,_=>.nil
 | _,_,.cons r t,f=>.cons (f _ _ r) (Paired.mapP t f)
theorem ObjOk.stay (x:ObjOk P w H h a o) (k:∀ b u,(b=a∨H b=some (.own a))→h.get? b=some u→h'.get? b=some u)
  (ho:∀ b,H b=some (.own a)→H' b=some (.own a)) (ht:∀ b xs,H b=some (.tup xs)→H' b=some (.tup xs)):ObjOk P w H' h' a o:=by
 induction o with
 | lst xs=>obtain ⟨z,its,n,r,e⟩:=x;exact ⟨z,its,n,r,k _ _ (.inl rfl) e⟩
 | tup xs=>obtain ⟨z,its,r,⟨ob,e,c⟩,ob2,e2,c2⟩:=x;exact ⟨z,its,r,⟨ob,k _ _ (.inl rfl) e,c⟩,ob2,k _ _ (.inl rfl) e2,c2⟩
 | dK kvs=>obtain ⟨z,y,vs,r,ob,es,ep,e,c⟩:=x;exact ⟨z,y,vs,r,ob,es,ep,k _ _ (.inl rfl) e,c⟩
 | dT kvs=>
  obtain ⟨z,y,xs,r,ob,es,ep,e,c⟩:=x
  exact ⟨z,y,xs,Paired.mapP r fun p q z=>⟨z.1,ht _ _ z.2.1,z.2.2⟩,ob,es,ep,k _ _ (.inl rfl) e,c⟩
 | set S n=>obtain ⟨ob,es,ep,t,e,c⟩:=x;exact ⟨ob,es,ep,t,k _ _ (.inl rfl) e,c⟩
 | ins C dx fs=>
  obtain ⟨d,z,ne,e,mA,⟨od,es,ep,e2,c⟩,r⟩:=x
  exact ⟨ho _ d,z,ne,k _ _ (.inl rfl) e,mA,⟨od,es,ep,k _ _ (.inr d) e2,c⟩,r⟩
 | own y=>obtain ⟨ob,e⟩:=x;exact ⟨ob,k _ _ (.inl rfl) e⟩
 | xd fs=>obtain ⟨mA,⟨od,es,ep,e,c⟩,r⟩:=x;exact ⟨mA,⟨od,es,ep,k _ _ (.inl rfl) e,c⟩,r⟩
 | rng lo hi=>obtain ⟨t,u,v,e⟩:=x;exact ⟨t,u,v,k _ _ (.inl rfl) e⟩
 | frz ob u ih=>obtain ⟨e,q⟩:=x;exact ⟨k _ _ (.inl rfl) e,ih q⟩
 | tbl ps=>
  have e:h.get? a=some { cls:=.none,data:=.fields ps }:=x
  show h'.get? a=some { cls:=.none,data:=.fields ps }
  exact k a _ (.inl rfl) e
 | met f y=>
  have e:h.get? a=some (PySem.W.methodObj (.ref f) (.ref y)):=x
  show h'.get? a=some (PySem.W.methodObj (.ref f) (.ref y))
  exact k a _ (.inl rfl) e
 | ext φ=>obtain ⟨p,⟨o,e⟩,st⟩:=x;exact ⟨st _ _ p fun o q=>k _ _ (.inl rfl) q,⟨o,k _ _ (.inl rfl) e⟩,st⟩
theorem HOk.lt (x:HOk P w H h) (e:H a=some o):a < h.objs.size:=(x a o e).lt
theorem HOk.fresh (x:HOk P w H h) (e:h.objs.size≤a):H a=none:=by
 cases q:H a with
 | none=>rfl
 | some u=>exact absurd (Nat.lt_of_lt_of_le (x.lt q) e) (Nat.lt_irrefl _)
theorem HOk.kept (x:HOk P w H h) (k:∀ b u,h.get? b=some u→h'.get? b=some u):HOk P w H h':=fun a o e=>
 (x a o e).stay (fun b u _ q=>k b u q) (fun _ q=>q) fun _ _ q=>q
theorem HOk.laid (x:HOk P w H h) (k:∀ b u,h.get? b=some u→h'.get? b=some u) (hp:h.objs.size≤a) (new:ObjOk P w (upd H a o) h' a o):HOk P w (upd H a o) h':=fun b u e=>by
 have hn:=x.fresh hp
 by_cases hb:b=a
 ·subst hb;rw [upd_same] at e;cases e;exact new
 ·rw [upd_ne hb] at e
  exact (x b u e).stay (fun c v _ q=>k c v q) (fun c q=>by rw [upd_ne (ne_of_none q hn)];exact q) fun c xs q=>by rw [upd_ne (ne_of_none q hn)];exact q
end
noncomputable def Rd (H:Hp) (a:Addr) (u:HO):Prop:=H a=some u∨∃ o,H a=some (.frz o u)
theorem Rd.of {H:Hp} {a:Addr} {u:HO} (h:H a=some u):Rd H a u:=.inl h
theorem Rd.ok {P:Program} {w:World} {H:Hp} {h:Heap} {a:Addr} {u:HO} (r:Rd H a u) (x:HOk P w H h):ObjOk P w H h a u:=by
 rcases r with r | ⟨o,r⟩
 ·exact x a u r
 ·obtain ⟨_,q⟩:=x a _ r
  exact q
noncomputable def Mut:Option HO→Prop
 | some (.lst _)=>True
 | some (.dK _)=>True
 | some (.dT _)=>True
 | some (.set _ _)=>True
 | some (.ins _ _ _)=>True
 | some (.ext _)=>True
 | _=>False
section
variable {P:Program} {w:World} {H:Hp} {h h':Heap} {x e:Addr} {o':HO}
theorem HOk.write (ok:HOk P w H h) (mu:Mut (H x)) (he:e=x∨H e=some (.own x)) (k:∀ b u,b≠e→h.get? b=some u→h'.get? b=some u) (heo:∃ u,h'.get? e=some u)
  (new:ObjOk P w (upd H x o') h' x o'):HOk P w (upd H x o') h':=fun b u q=>by
 have nown:∀ c y,H c=some (.own y)→c≠x:=fun c y r z=>by subst z;rw [r] at mu;exact mu
 have ntup:∀ c xs,H c=some (.tup xs)→c≠x:=fun c xs r z=>by subst z;rw [r] at mu;exact mu
 by_cases hb:b=x
 ·subst hb;rw [upd_same] at q;cases q;exact new
 ·rw [upd_ne hb] at q
  by_cases hbe:b=e
  ·have q':H b=some (.own x):=by
    rcases he with z | z
    ·exact absurd (hbe.trans z) hb
    ·rw [hbe];exact z
   rw [q] at q';cases q'
   obtain ⟨v,hv⟩:=heo
   exact ⟨v,by rw [hbe];exact hv⟩
  ·refine (ok b u q).stay (fun c v hc r=>k c v ?_ r) (fun c r=>by rw [upd_ne (nown c b r)];exact r) fun c xs r=>by rw [upd_ne (ntup c xs r)];exact r
   rcases hc with rfl | hc
   ·exact hbe
   ·rintro rfl
    rcases he with z | z
    ·exact nown c b hc z
    ·rw [hc] at z;cases z;exact hb rfl
end
structure Un (fs ex:List Addr) (H H':Hp) (h h':Heap):Prop where
 keep:∀ b o,h.get? b=some o→H b=none→b∉fs→b∉ex→h'.get? b=some o
 slot:∀ b o,h.get? b=some o→H b=none→b∈fs→b∉ex→∃ sl,h'.get? b=some { o with slots:=sl }
 free:∀ b o,h.get? b=some o→H b=none→b∉ex→H' b=none
 there:∀ b o,h.get? b=some o→b∉ex→∃ o',h'.get? b=some o'
 tups:∀ b xs,H b=some (.tup xs)→H' b=some (.tup xs)
 frzs:∀ b o u,H b=some (.frz o u)→H' b=some (.frz o u)
 tbls:∀ b ps,H b=some (.tbl ps)→∃ more,H' b=some (.tbl (ps++more))
section
variable {fs fs' ex ex':List Addr} {H H1 H2:Hp} {h h1 h2 h':Heap} {a x e:Addr} {o:HO}
theorem Un.any (u:Un fs ex H H1 h h1) {b:Addr} {ob:Obj} (q:h.get? b=some ob) (n:H b=none) (hx:b∉ex):∃ sl,h1.get? b=some { ob with slots:=sl }:=by
 by_cases hb:b∈fs
 ·exact u.slot b ob q n hb hx
 ·exact ⟨ob.slots,u.keep b ob q n hb hx⟩
theorem Un.trans (a:Un fs ex H H1 h h1) (b:Un fs ex H1 H2 h1 h2):Un fs ex H H2 h h2 where
 keep:=fun c ob q n hc hx=>b.keep c ob (a.keep c ob q n hc hx) (a.free c ob q n hx) hc hx
 slot:=fun c ob q n hc hx=>by
  obtain ⟨sl,e1⟩:=a.slot c ob q n hc hx
  obtain ⟨sl',e2⟩:=b.slot c _ e1 (a.free c ob q n hx) hc hx
  exact ⟨sl',e2⟩
 free:=fun c ob q n hx=>by
  obtain ⟨o',e1⟩:=a.there c ob q hx
  exact b.free c o' e1 (a.free c ob q n hx) hx
 there:=fun c ob q hx=>by
  obtain ⟨o',e1⟩:=a.there c ob q hx
  exact b.there c o' e1 hx
 tups:=fun c xs q=>b.tups c xs (a.tups c xs q)
 frzs:=fun c ob xs q=>b.frzs c ob xs (a.frzs c ob xs q)
 tbls:=fun c ps q=>by
  obtain ⟨m1,e1⟩:=a.tbls c ps q
  obtain ⟨m2,e2⟩:=b.tbls c _ e1
  exact ⟨m1++m2,by rw [e2,Array.append_assoc]⟩
theorem Un.kept (k:∀ b u,h.get? b=some u→h'.get? b=some u):Un fs ex H H h h':=
 ⟨fun b ob q _ _ _=>k b ob q,fun b ob q _ _ _=>⟨ob.slots,k b ob q⟩,fun _ _ _ n _=>n,fun b ob q _=>⟨ob,k b ob q⟩,fun _ _ q=>q,fun _ _ _ q=>q,fun _ ps q=>⟨#[],by rw [q];simp⟩⟩
theorem Un.refl:Un fs ex H H h h:=Un.kept fun _ _ q=>q
theorem Un.laid (k:∀ b u,h.get? b=some u→h'.get? b=some u) (hp:h.objs.size≤a) (hn:H a=none):Un fs ex H (upd H a o) h h' where
 keep:=fun b u q _ _ _=>k b u q
 slot:=fun b u q _ _ _=>⟨u.slots,k b u q⟩
 free:=fun b u q n _=>by rw [upd_ne (Nat.ne_of_lt (Nat.lt_of_lt_of_le (Heap.lt_size q) hp))];exact n
 there:=fun b u q _=>⟨u,k b u q⟩
 tups:=fun b xs q=>by rw [upd_ne (ne_of_none q hn)];exact q
 frzs:=fun b u xs q=>by rw [upd_ne (ne_of_none q hn)];exact q
 tbls:=fun b ps q=>⟨#[],by rw [upd_ne (ne_of_none q hn),q];simp⟩
theorem Un.write (mu:Mut (H x)) (he:e=x∨H e=some (.own x)) (k:∀ b u,b≠e→h.get? b=some u→h'.get? b=some u) (heo:∃ u,h'.get? e=some u):Un fs ex H (upd H x o) h h':=by
 have hx:∀ b,H b=none→b≠x:=fun b n z=>by subst z;rw [n] at mu;exact mu
 have hb:∀ b,H b=none→b≠e:=fun b n z=>by
  subst z
  rcases he with r | r
  ·exact hx b n r
  ·rw [n] at r;cases r
 have hm:∀ b u,H b=some u→¬Mut (some u)→b≠x:=fun b u q nm z=>by subst z;rw [q] at mu;exact nm mu
 refine ⟨fun b u q n _ _=>k b u (hb b n) q,fun b u q n _ _=>⟨u.slots,k b u (hb b n) q⟩,fun b u q n _=>by rw [upd_ne (hx b n)];exact n,fun b u q _=>?_,
  fun b xs q=>by rw [upd_ne (hm b _ q fun z=>z)];exact q,fun b u xs q=>by rw [upd_ne (hm b _ q fun z=>z)];exact q,fun b ps q=>⟨#[],by rw [upd_ne (hm b _ q fun z=>z),q];simp⟩⟩
 by_cases hbe:b=e
 ·subst hbe;exact heo
 ·exact ⟨u,k b u hbe q⟩
theorem Un.mono (u:Un fs ex H H1 h h1) (hs:∀ b∈fs,b∈fs') (hx:∀ b∈ex,b∈ex'):Un fs' ex' H H1 h h1:=
 ⟨fun b ob q n hb he=>u.keep b ob q n (fun z=>hb (hs b z)) fun z=>he (hx b z),fun _ _ q n _ he=>u.any q n fun z=>he (hx _ z),fun b ob q n he=>u.free b ob q n fun z=>he (hx b z),fun b ob q he=>u.there b ob q fun z=>he (hx b z),u.tups,u.frzs,u.tbls⟩
end
noncomputable def trk (h:Heap) (H:Hp):List Addr:=(List.range h.objs.size).filter fun a=>(H a).isSome
noncomputable def hidT (h:Heap) (H:Hp):Heap:=PySem.W.hideAll h (trk h H)
theorem hidT_size (h:Heap) (H:Hp):(hidT h H).objs.size=h.objs.size:=PySem.W.hideAll_size _ _
theorem hidT_get {h:Heap} {H:Hp} {b:Addr} {o:Obj} (e:h.get? b=some o) (n:H b=none):(hidT h H).get? b=some o:=
 PySem.W.hideAll_get _ e fun hm=>by
  have q:(H b).isSome=true:=(List.mem_filter.mp hm).2
  rw [n] at q;simp at q
theorem of_hidT {h:Heap} {H:Hp} {b:Addr} {o:Obj} (e:(hidT h H).get? b=some o):h.get? b=some o∧H b=none:=by
 have e':h.get? b=some o:=PySem.W.of_hideAll (trk h H) e
 refine ⟨e',?_⟩
 cases q:H b with
 | none=>rfl
 | some x=>
  have hm:b∈trk h H:=List.mem_filter.mpr ⟨List.mem_range.mpr (Heap.lt_size e'),by simp [q]⟩
  have z:(hidT h H).get? b=none:=PySem.W.hideAll_none (trk h H) hm
  rw [z] at e;cases e
noncomputable def allNews (g h:Heap) (L:Addr):List (Addr×Obj):=(List.range h.objs.size).filterMap fun a=>if a=L∨(g.get? a).isSome=true then none else (h.get? a).map fun o=>(a,o)
theorem mem_allNews {g h:Heap} {L a:Addr} {o:Obj} (h1:a≠L) (h2:g.get? a=none) (h3:h.get? a=some o):(a,o)∈allNews g h L:=
 List.mem_filterMap.mpr ⟨a,List.mem_range.mpr (Heap.lt_size h3),by simp [h1,h2,h3]⟩
theorem of_mem_allNews {g h:Heap} {L:Addr} {p:Addr×Obj} (hp:p∈allNews g h L):p.1≠L∧g.get? p.1=none∧h.get? p.1=some p.2:=by
 obtain ⟨b,_,e⟩:=List.mem_filterMap.mp hp
 split at e
 ·cases e
 ·rename_i hn
  cases q:h.get? b with
  | none=>rw [q] at e;simp at e
  | some u=>
   rw [q] at e
   simp only [Option.map_some,Option.some.injEq] at e
   subst e
   refine ⟨fun z=>hn (.inl z),?_,q⟩
   show g.get? b=none
   cases r:g.get? b with
   | none=>rfl
   | some v=>exact (hn (.inr (by simp [r]))).elim
noncomputable def rest (g h:Heap) (L d:Addr):List (Addr×Obj):=(allNews g h L).filter fun p=>decide (p.1≠d)
theorem news_all {g h:Heap} {L:Addr}:News g L h (allNews g h L):=fun p hp=>let ⟨a,b,c⟩:=of_mem_allNews hp;⟨c,a,b⟩
end L2
namespace L2
open PySem PySem.Spec PyProof.Rows
structure Mod (K:PySem.W.Frag) (mg:Str→Option Value) (base:Heap):Prop where
 kin:K.In base
 glob:base.Ns mainGlobals mg
 blt:∃ mb,base.Ns builtinsNs mb∧∀ x:Str,x≠"__name__"→mb x=bootBuiltins x
 nolimit:base.NoLimit
structure Cx where
 prog:Program
 w:World
 K:PySem.W.Frag
 mg:Str→Option Value
 base:Heap
 A:Around
 N:List Str
 s₀:Shared
 H₀:Hp
 env:Env
 outer:List Env
 stack:List Env
 ex:List Addr
 fn:Str→Bool
 calm:Bool
 pn:List (Addr×Obj)
 xe:Value→Shared→Prop
noncomputable def frs (l:List Env):List Addr:=l.filterMap (·.frame)
noncomputable abbrev Cx.fs (X:Cx):List Addr:=frs X.outer
noncomputable def Vis (sc:Scope) (x:Str):Prop:=sc.names.lookup x=some .local∨sc.names.lookup x=some .cell∨sc.names.lookup x=some .free
noncomputable def Loc (sc:Scope) (x:Str):Prop:=sc.names.lookup x=some .local∨sc.names.lookup x=some .cell
noncomputable def Look (env:Env) (h:Heap) (m:Str→Option Value) (x:Str) (u:Value):Prop:=
 (env.kindOf x=some .local∧m x=some u)∨((env.kindOf x=some .cell∨env.kindOf x=some .free)∧∃ c,env.cells.lookup x=some c∧h.IsCell c (some u))
structure Cx.Ok (X:Cx):Prop where
 mod:Mod X.K X.mg X.base
 kind:X.env.scope.kind=.function
 glob:X.env.globals=mainGlobals
 blt:X.env.builtins=builtinsNs
 above:X.s₀.heap.objs.size≤X.env.locals
 inj:∀ x y c,X.env.cells.lookup x=some c→X.env.cells.lookup y=some c→x=y
 has:∀ x,(X.env.kindOf x=some .cell∨X.env.kindOf x=some .free)→∃ c,X.env.cells.lookup x=some c
 cab:∀ x c,X.fn x=true→X.env.cells.lookup x=some c→X.s₀.heap.objs.size≤c
 hd:X.calm=true→X.A.handled=none
 frames:X.A.frames=some X.stack
 stk:X.stack=X.outer∨(X.stack=X.env::X.outer∧X.env.frame=some X.env.locals)
 exf:∀ b∈X.ex,b≠X.env.locals∧∀ x c,X.env.cells.lookup x=some c→c≠b
 bs:∀ b o,X.base.get? b=some o→X.s₀.heap.get? b=some o∧X.H₀ b=none
 bsz:X.base.objs.size≤X.s₀.heap.objs.size
 noex:∀ b o,X.base.get? b=some o→b∉X.ex
 exfs:∀ b∈X.ex,b∉X.fs
 funs:X.s₀.heap.FunFrames X.base X.outer
 frf:∀ b∈X.fs,X.H₀ b=none
structure Inv (X:Cx) (pins:List (Addr×Obj)) (σ:List (Option V)) (H:Hp) (s:Shared):Prop where
 ok:X.Ok
 os:s.os=X.s₀.os
 bare:AllBare s.gens
 base:Un X.fs X.ex X.H₀ H X.s₀.heap s.heap
 loc:∃ m,s.heap.Ns X.env.locals m∧∀ (i:Nat) (x:Str) (v:V),X.N[i]? =some x→σ[i]? =some (some v)→Vis X.env.scope x→∃ u,RelV v u∧Look X.env s.heap m x u
 cell:∀ x c,X.env.cells.lookup x=some c→∃ v,s.heap.IsCell c v
 free:H X.env.locals=none
 freeC:∀ x c,X.env.cells.lookup x=some c→H c=none
 pin:∀ p∈X.pn++pins,s.heap.get? p.1=some p.2∧H p.1=none∧p.1≠X.env.locals∧p.1∉X.fs∧∀ v,p.2.data≠.cell v
 hok:HOk X.prog X.w H s.heap
 len:σ.length=X.N.length
section
variable {X:Cx} {pins:List (Addr×Obj)} {σ:List (Option V)} {H H':Hp} {s:Shared} {h':Heap}
theorem Cx.Ok.nofr (ok:X.Ok) {b:Addr} {o:Obj} (e:X.base.get? b=some o):b∉X.fs:=fun hb=>by
 have:=(ok.funs.mem hb).1
 rw [e] at this;cases this
theorem Inv.bs (I:Inv X pins σ H s):∀ b o,X.base.get? b=some o→s.heap.get? b=some o∧H b=none:=fun b o e=>
 ⟨I.base.keep b o (I.ok.bs b o e).1 (I.ok.bs b o e).2 (I.ok.nofr e) (I.ok.noex b o e),I.base.free b o (I.ok.bs b o e).1 (I.ok.bs b o e).2 (I.ok.noex b o e)⟩
theorem Inv.bk (I:Inv X pins σ H s):∀ b o,X.base.get? b=some o→s.heap.get? b=some o:=fun b o e=>(I.bs b o e).1
theorem Inv.mod (I:Inv X pins σ H s):Mod X.K X.mg X.base:=I.ok.mod
theorem Inv.kIn (I:Inv X pins σ H s):X.K.In s.heap:=I.ok.mod.kin.keeps I.bk
theorem Inv.nolimit (I:Inv X pins σ H s):s.heap.NoLimit:=I.ok.mod.nolimit.keeps I.bk
theorem Inv.fr (I:Inv X pins σ H s):∃ m,Fr X.base X.env.locals s.heap m:=
 let ⟨m,hn,_⟩:=I.loc
 ⟨m,hn,I.bk,Nat.le_trans I.ok.bsz I.ok.above⟩
theorem Inv.lt (I:Inv X pins σ H s):X.env.locals < s.heap.objs.size:=let ⟨_,hn,_⟩:=I.loc;hn.lt
theorem Inv.sz (I:Inv X pins σ H s):X.s₀.heap.objs.size≤s.heap.objs.size:=Nat.le_trans I.ok.above (Nat.le_of_lt I.lt)
theorem Inv.nofs (I:Inv X pins σ H s) {a:Addr} (h:s.heap.objs.size≤a):a∉X.fs:=fun hb=>by
 obtain ⟨_,o,ho,_⟩:=I.ok.funs.mem hb
 exact absurd (Nat.lt_of_lt_of_le (Heap.lt_size ho) (Nat.le_trans I.sz h)) (Nat.lt_irrefl _)
theorem Inv.cne (I:Inv X pins σ H s):∀ x c,X.env.cells.lookup x=some c→c≠X.env.locals:=fun x c e z=>by
 obtain ⟨v,o,ho,hd⟩:=I.cell x c e
 obtain ⟨m,⟨o',es,ep,ho',hd',_⟩,_⟩:=I.loc
 rw [z,ho'] at ho;cases ho;rw [hd'] at hd;cases hd
theorem Inv.funs (I:Inv X pins σ H s):s.heap.FunFrames X.base X.outer:=by
 have all:∀ (l:List Env),(∀ b∈frs l,b∈X.fs)→X.s₀.heap.FunFrames X.base l→s.heap.FunFrames X.base l:=by
  intro l
  induction l with
  | nil=>intro _ _;trivial
  | cons env r ih=>
   intro hs hl
   obtain ⟨hk,⟨L,o,hf,hn,ho,hd⟩,hr⟩:=hl
   have hL:L∈X.fs:=hs L (by unfold frs;rw [List.filterMap_cons,hf];exact List.mem_cons_self)
   obtain ⟨sl,e⟩:=I.base.slot L o ho (I.ok.frf L hL) hL fun z=>I.ok.exfs L z hL
   exact ⟨hk,⟨L,_,hf,hn,e,hd⟩,ih (fun b hb=>hs b (by unfold frs;rw [List.filterMap_cons,hf];exact List.mem_cons_of_mem _ hb)) hr⟩
 exact all X.outer (fun _ hb=>hb) I.ok.funs
theorem Inv.stack (I:Inv X pins σ H s):s.heap.FunFrames X.base X.stack:=by
 rcases I.ok.stk with e | ⟨e,hf⟩
 ·rw [e];exact I.funs
 ·rw [e]
  obtain ⟨m,hn,_⟩:=I.loc
  refine .cons (by rw [I.ok.kind];decide) hf hn ?_ I.funs
  exact Heap.get?_none_of_le (Nat.le_trans I.ok.bsz I.ok.above)
theorem Inv.stkSub (I:Inv X pins σ H s):∀ b∈frs X.stack,b∈X.env.locals::X.fs:=fun b hb=>by
 rcases I.ok.stk with e | ⟨e,hf⟩
 ·rw [e] at hb;exact List.mem_cons_of_mem _ hb
 ·rw [e] at hb
  unfold frs at hb
  rw [List.filterMap_cons,hf] at hb
  exact hb
theorem Inv.stkFree (I:Inv X pins σ H s):∀ b∈frs X.stack,H b=none:=fun b hb=>by
 rcases List.mem_cons.mp (I.stkSub b hb) with e | hb
 ·rw [e];exact I.free
 ·obtain ⟨_,o,ho,_⟩:=I.ok.funs.mem hb
  exact I.base.free b o ho (I.ok.frf b hb) fun z=>I.ok.exfs b z hb
theorem Inv.step {g':Array GenState} {t':Nat} {d':Drawn} {ch:List Addr} (I:Inv X pins σ H s)
  (hch:∀ b∈ch,(b∈X.ex∨X.s₀.heap.objs.size≤b)∧b≠X.env.locals∧(∀ x c,X.env.cells.lookup x=some c→c≠b)∧∀ p∈X.pn++pins,p.1≠b)
  (keep:∀ b o,b≠X.env.locals→b∉X.fs→b∉ch→s.heap.get? b=some o→H b=none→h'.get? b=some o)
  (slot:∀ b o,b≠X.env.locals→b∈X.fs→b∉ch→s.heap.get? b=some o→H b=none→∃ sl,h'.get? b=some { o with slots:=sl }) (free:∀ b o,b∉ch→s.heap.get? b=some o→H b=none→H' b=none)
  (there:∀ b o,b∉ch→s.heap.get? b=some o→∃ o',h'.get? b=some o')
  (tups:∀ b xs,H b=some (.tup xs)→H' b=some (.tup xs)) (frzs:∀ b o u,H b=some (.frz o u)→H' b=some (.frz o u)) (tbls:∀ b ps,H b=some (.tbl ps)→∃ more,H' b=some (.tbl (ps++more)))
  (ns:∀ m,s.heap.Ns X.env.locals m→h'.Ns X.env.locals m) (hok:HOk X.prog X.w H' h') (hg:AllBare g'):
  Inv X pins σ H' { s with heap:=h',gens:=g',drawn:=d',toks:=t' }:=by
 have neL:∀ b o,X.s₀.heap.get? b=some o→b≠X.env.locals:=fun b o e=>Nat.ne_of_lt (Nat.lt_of_lt_of_le (Heap.lt_size e) I.ok.above)
 have neC:∀ b o,X.s₀.heap.get? b=some o→b∉X.ex→b∉ch:=fun b o e hx hb=>by
  rcases (hch b hb).1 with z | z
  ·exact hx z
  ·exact absurd (Nat.lt_of_lt_of_le (Heap.lt_size e) z) (Nat.lt_irrefl _)
 have cellK:∀ x c,X.env.cells.lookup x=some c→∀ v,s.heap.IsCell c v→h'.IsCell c v:=fun x c e v ⟨o,ho,hd⟩=>by
  have nch:c∉ch:=fun z=>(hch c z).2.2.1 x c e rfl
  by_cases hc:c∈X.fs
  ·obtain ⟨sl,q⟩:=slot c o (I.cne x c e) hc nch ho (I.freeC x c e)
   exact ⟨_,q,hd⟩
  ·exact ⟨o,keep c o (I.cne x c e) hc nch ho (I.freeC x c e),hd⟩
 refine ⟨I.ok,I.os,hg,⟨fun b o e n hb hx=>?_,fun b o e n hb hx=>?_,fun b o e n hx=>?_,fun b o e hx=>?_,fun b xs e=>tups b xs (I.base.tups b xs e),fun b o xs e=>frzs b o xs (I.base.frzs b o xs e),fun b ps e=>?_⟩,?_,fun x c e=>?_,?_,fun x c e=>?_,fun p hp=>?_,hok,I.len⟩
 ·exact keep b o (neL b o e) hb (neC b o e hx) (I.base.keep b o e n hb hx) (I.base.free b o e n hx)
 ·obtain ⟨sl,e1⟩:=I.base.slot b o e n hb hx
  obtain ⟨sl',e2⟩:=slot b _ (neL b o e) hb (neC b o e hx) e1 (I.base.free b o e n hx)
  exact ⟨sl',e2⟩
 ·obtain ⟨o',e1⟩:=I.base.there b o e hx
  exact free b o' (neC b o e hx) e1 (I.base.free b o e n hx)
 ·obtain ⟨o',e1⟩:=I.base.there b o e hx
  exact there b o' (neC b o e hx) e1
 ·obtain ⟨m1,e1⟩:=I.base.tbls b ps e
  obtain ⟨m2,e2⟩:=tbls b _ e1
  exact ⟨m1++m2,by rw [e2,Array.append_assoc]⟩
 ·obtain ⟨m,hn,hl⟩:=I.loc
  refine ⟨m,ns m hn,fun i x v e1 e2 e3=>?_⟩
  obtain ⟨u,r,l⟩:=hl i x v e1 e2 e3
  refine ⟨u,r,?_⟩
  rcases l with l | ⟨k,c,e,z⟩
  ·exact .inl l
  ·exact .inr ⟨k,c,e,cellK x c e _ z⟩
 ·obtain ⟨v,z⟩:=I.cell x c e
  exact ⟨v,cellK x c e v z⟩
 ·obtain ⟨m,⟨o,_,_,ho,_⟩,_⟩:=I.loc
  exact free _ o (fun z=>(hch _ z).2.1 rfl) ho I.free
 ·obtain ⟨v,o,ho,hd⟩:=I.cell x c e
  exact free c o (fun z=>(hch c z).2.2.1 x c e rfl) ho (I.freeC x c e)
 ·obtain ⟨e,n,ne,nf,d⟩:=I.pin p hp
  have nch:p.1∉ch:=fun z=>(hch p.1 z).2.2.2 p hp rfl
  exact ⟨keep p.1 p.2 ne nf nch e n,free p.1 p.2 nch e n,ne,nf,d⟩
theorem Inv.un {t':Nat} (I:Inv X pins σ H s) (u:Un X.fs [] H H' s.heap h') (hok:HOk X.prog X.w H' h'):Inv X pins σ H' { s with heap:=h',toks:=t' }:=by
 obtain ⟨m,⟨o,es,ep,ho,r⟩,_⟩:=id I.loc
 obtain ⟨sl,hL⟩:=u.any ho I.free (by simp)
 exact I.step (g':=s.gens) (d':=s.drawn) (ch:=[]) (fun _ z=>nomatch z) (fun b o _ hb _ e n=>u.keep b o e n hb (by simp)) (fun b o _ hb _ e n=>u.slot b o e n hb (by simp)) (fun b o _ e n=>u.free b o e n (by simp)) (fun b o _ e=>u.there b o e (by simp)) u.tups u.frzs u.tbls (fun m' hm=>by
  obtain ⟨o',es',ep',ho',r'⟩:=hm
  rw [ho] at ho';cases ho'
  exact ⟨_,es',ep',hL,r'⟩) hok I.bare
theorem Inv.call {g':Array GenState} {t':Nat} {d':Drawn} {ch:List Addr} (I:Inv X pins σ H s) (u:Un (frs X.stack) ch H H' s.heap h') (hok:HOk X.prog X.w H' h') (hg:AllBare g')
  (hch:∀ b∈ch,(b∈X.ex∨X.s₀.heap.objs.size≤b)∧b≠X.env.locals∧(∀ x c,X.env.cells.lookup x=some c→c≠b)∧∀ p∈X.pn++pins,p.1≠b):
  Inv X pins σ H' { s with heap:=h',gens:=g',drawn:=d',toks:=t' }:=by
 obtain ⟨m,⟨o,es,ep,ho,r⟩,_⟩:=id I.loc
 obtain ⟨sl,hL⟩:=u.any ho I.free fun z=>(hch _ z).2.1 rfl
 exact I.step (ch:=ch) hch (fun b o hL hb hc e n=>u.keep b o e n (fun z=>(List.mem_cons.mp (I.stkSub b z)).elim hL hb) hc) (fun b o _ _ hc e n=>u.any e n hc) (fun b o hc e n=>u.free b o e n hc) (fun b o hc e=>u.there b o e hc) u.tups u.frzs u.tbls (fun m' hm=>by
  obtain ⟨o',es',ep',ho',r'⟩:=hm
  rw [ho] at ho';cases ho'
  exact ⟨_,es',ep',hL,r'⟩) hok hg
theorem Inv.turned {t':Nat} {it:Addr} (I:Inv X pins σ H s) (k:∀ b o,b≠it→s.heap.get? b=some o→h'.get? b=some o) (hn:H it=none) (hL:it≠X.env.locals)
  (h1:it∈X.ex∨X.s₀.heap.objs.size≤it) (h2:∀ x c,X.env.cells.lookup x=some c→c≠it) (h3:∀ p∈X.pn++pins,p.1≠it):Inv X pins σ H { s with heap:=h',toks:=t' }:=by
 have nit:∀ b u,H b=some u→b≠it:=fun b u e z=>by rw [z,hn] at e;cases e
 refine I.step (g':=s.gens) (d':=s.drawn) (ch:=[it]) (fun b hb=>?_) (fun b o _ _ hc e _=>k b o (fun z=>hc (by simp [z])) e) (fun b o _ _ hc e _=>⟨o.slots,k b o (fun z=>hc (by simp [z])) e⟩) (fun _ _ _ _ n=>n)
  (fun b o hc e=>⟨o,k b o (fun z=>hc (by simp [z])) e⟩) (fun _ _ e=>e) (fun _ _ _ e=>e) (fun b ps e=>⟨#[],by rw [e];simp⟩) (fun m hm=>?_) (fun b u e=>?_) I.bare
 ·have e:b=it:=by simpa using hb
  subst e
  exact ⟨h1,hL,h2,h3⟩
 ·obtain ⟨o,es,ep,ho,r⟩:=hm
  exact ⟨o,es,ep,k _ o (Ne.symm hL) ho,r⟩
 ·refine (I.hok b u e).stay (fun c v hc q=>k c v ?_ q) (fun _ q=>q) fun _ _ q=>q
  rcases hc with z | z
  ·rw [z];exact nit b u e
  ·exact nit c _ z
theorem Inv.tok (I:Inv X pins σ H s) (t:Nat):Inv X pins σ H { s with toks:=t }:=I.un (h':=s.heap) (t':=t) Un.refl I.hok
theorem Inv.kept {t':Nat} (I:Inv X pins σ H s) (k:∀ b u,s.heap.get? b=some u→h'.get? b=some u):Inv X pins σ H { s with heap:=h',toks:=t' }:=I.un (Un.kept k) (I.hok.kept k)
theorem Inv.laid {a:Addr} {o:HO} {t':Nat} (I:Inv X pins σ H s) (k:∀ b u,s.heap.get? b=some u→h'.get? b=some u) (hp:s.heap.objs.size≤a) (new:ObjOk X.prog X.w (upd H a o) h' a o):
  Inv X pins σ (upd H a o) { s with heap:=h',toks:=t' }:=I.un (Un.laid k hp (I.hok.fresh hp)) (I.hok.laid k hp new)
theorem Inv.write {x e:Addr} {o:HO} {t':Nat} (I:Inv X pins σ H s) (mu:Mut (H x)) (he:e=x∨H e=some (.own x)) (k:∀ b u,b≠e→s.heap.get? b=some u→h'.get? b=some u) (heo:∃ u,h'.get? e=some u)
  (new:ObjOk X.prog X.w (upd H x o) h' x o):Inv X pins σ (upd H x o) { s with heap:=h',toks:=t' }:=I.un (Un.write mu he k heo) (I.hok.write mu he k heo new)
theorem Inv.weak {σ':List (Option V)} (I:Inv X pins σ H s) (hl:σ'.length=σ.length) (w:∀ (i:Nat) v,σ'[i]? =some (some v)→σ[i]? =some (some v)):Inv X pins σ' H s:=
 ⟨I.ok,I.os,I.bare,I.base,let ⟨m,hn,hl'⟩:=I.loc;⟨m,hn,fun i x v e1 e2 e3=>hl' i x v e1 (w i v e2) e3⟩,I.cell,I.free,I.freeC,I.pin,I.hok,hl.trans I.len⟩
theorem Inv.pins_of {pins':List (Addr×Obj)} (I:Inv X pins σ H s) (h:∀ p∈pins',s.heap.get? p.1=some p.2∧H p.1=none∧p.1≠X.env.locals∧p.1∉X.fs∧∀ v,p.2.data≠.cell v):Inv X pins' σ H s:=
 ⟨I.ok,I.os,I.bare,I.base,I.loc,I.cell,I.free,I.freeC,fun p hp=>(List.mem_append.mp hp).elim (fun z=>I.pin p (List.mem_append_left _ z)) (h p),I.hok,I.len⟩
theorem nodup_ix {N:List Str} (hN:N.Nodup) {i j:Nat} {x:Str} (a:N[i]? =some x) (b:N[j]? =some x):i=j:=by
 obtain ⟨h1,e1⟩:=List.getElem?_eq_some_iff.mp a
 obtain ⟨h2,e2⟩:=List.getElem?_eq_some_iff.mp b
 exact (List.getElem_inj hN).mp (e1.trans e2.symm)
theorem store_ok2 {M:Model} {A:Around} {E:Value→Shared→Prop} {i:Nat} {x:Str} {v:V} {u:Value} {Q:Unit→Shared→Prop} (I:Inv X pins σ H s) (hN:X.N.Nodup) (hi:X.N[i]? =some x) (hx:Loc X.env.scope x) (r:RelV v u)
  (h:∀ s',Inv X pins (σ.set i (some v)) H s'→(∃ a,Heap.SameBut a s.heap s'.heap∧(a=X.env.locals∨X.env.cells.lookup x=some a))→Q () s') (hf:X.fn x=true∨X.env.scope.names.lookup x=some .local:=by first | exact .inl rfl | exact .inr rfl | assumption):wpAny M A (storeName X.env x u) Q E s:=by
 obtain ⟨m,hn,hl⟩:=id I.loc
 have hcls:(X.env.scope.kind==.class||(X.env.scope.kind==.module&&X.env.locals != X.env.globals))=false:=by rw [I.ok.kind];rfl
 have hiσ:i < σ.length:=by rw [I.len];exact (List.getElem?_eq_some_iff.mp hi).1
 have cne:=I.cne
 have tracked:∀ {a:Addr} {h':Heap},(∃ o,s.heap.get? a=some o∧H a=none)→Heap.SameBut a s.heap h'→HOk X.prog X.w H h':=fun {a h'} ha hs b ob e=>by
  obtain ⟨_,_,hfree⟩:=ha
  refine (I.hok b ob e).stay (fun c w' hc q=>(hs.2 c ?_).trans q) (fun _ q=>q) fun _ _ q=>q
  rintro rfl
  rcases hc with rfl | hc
  ·rw [hfree] at e;cases e
  ·rw [hfree] at hc;cases hc
 rcases hx with hk | hk
 ·refine wpAny_storeName_local hk hn (fun h' hn' hs=>?_) hcls
  obtain ⟨oL,_,_,hoL,_⟩:=id hn
  refine h _ ⟨I.ok,I.os,I.bare,⟨fun b o e n hb hx=>?_,fun b o e n hb hx=>?_,I.base.free,fun b o e hx=>?_,I.base.tups,I.base.frzs,I.base.tbls⟩,⟨_,hn',fun j y v' e1 e2 e3=>?_⟩,fun y c e=>?_,I.free,I.freeC,fun p hp=>?_,tracked ⟨oL,hoL,I.free⟩ hs,by simpa using I.len⟩ ⟨_,hs,.inl rfl⟩
  ·exact (hs.2 b (Nat.ne_of_lt (Nat.lt_of_lt_of_le (Heap.lt_size e) I.ok.above))).trans (I.base.keep b o e n hb hx)
  ·obtain ⟨sl,e1⟩:=I.base.slot b o e n hb hx
   exact ⟨sl,(hs.2 b (Nat.ne_of_lt (Nat.lt_of_lt_of_le (Heap.lt_size e) I.ok.above))).trans e1⟩
  ·obtain ⟨o',e1⟩:=I.base.there b o e hx
   exact ⟨o',(hs.2 b (Nat.ne_of_lt (Nat.lt_of_lt_of_le (Heap.lt_size e) I.ok.above))).trans e1⟩
  ·by_cases hj:j=i
   ·subst hj
    rw [hi] at e1;cases e1
    rw [List.getElem?_set_self hiσ] at e2
    cases e2
    exact ⟨u,r,.inl ⟨hk,by simp⟩⟩
   ·rw [List.getElem?_set_ne (Ne.symm hj)] at e2
    obtain ⟨u',r',q⟩:=hl j y v' e1 e2 e3
    refine ⟨u',r',?_⟩
    rcases q with ⟨k,e⟩ | ⟨k,c,e,z⟩
    ·refine .inl ⟨k,?_⟩
     have:y≠x:=fun e=>hj (nodup_ix hN e1 (e▸hi))
     simp [this,e]
    ·exact .inr ⟨k,c,e,z.sameBut hs (cne y c e)⟩
  ·obtain ⟨w',z⟩:=I.cell y c e
   exact ⟨w',z.sameBut hs (cne y c e)⟩
  ·obtain ⟨e,n,ne,nf,d⟩:=I.pin p hp
   exact ⟨(hs.2 p.1 ne).trans e,n,ne,nf,d⟩
 ·have hfn:X.fn x=true:=by
   rcases hf with z | z
   ·exact z
   ·rw [z] at hk;cases hk
  obtain ⟨c,hc⟩:=I.ok.has x (.inl hk)
  obtain ⟨w',z⟩:=I.cell x c hc
  refine wpAny_storeName_cell I.ok.kind hk hc z (fun h' hc' hs=>?_)
  obtain ⟨oc,hoc,hocd⟩:=id z
  refine h { s with heap:=h' } ⟨I.ok,I.os,I.bare,⟨fun b o e n hb hx=>?_,fun b o e n hb hx=>?_,I.base.free,fun b o e hx=>?_,I.base.tups,I.base.frzs,I.base.tbls⟩,⟨m,hn.sameBut hs (Ne.symm (cne x c hc)),fun j y v' e1 e2 e3=>?_⟩,fun y c' e=>?_,I.free,I.freeC,fun p hp=>?_,tracked ⟨oc,hoc,I.freeC x c hc⟩ hs,by simpa using I.len⟩ ⟨c,hs,.inr hc⟩
  ·exact (hs.2 b (Nat.ne_of_lt (Nat.lt_of_lt_of_le (Heap.lt_size e) (I.ok.cab x c hfn hc)))).trans (I.base.keep b o e n hb hx)
  ·obtain ⟨sl,e1⟩:=I.base.slot b o e n hb hx
   exact ⟨sl,(hs.2 b (Nat.ne_of_lt (Nat.lt_of_lt_of_le (Heap.lt_size e) (I.ok.cab x c hfn hc)))).trans e1⟩
  ·obtain ⟨o',e1⟩:=I.base.there b o e hx
   exact ⟨o',(hs.2 b (Nat.ne_of_lt (Nat.lt_of_lt_of_le (Heap.lt_size e) (I.ok.cab x c hfn hc)))).trans e1⟩
  ·by_cases hj:j=i
   ·subst hj
    rw [hi] at e1;cases e1
    rw [List.getElem?_set_self hiσ] at e2
    cases e2
    exact ⟨u,r,.inr ⟨.inl hk,c,hc,hc'⟩⟩
   ·rw [List.getElem?_set_ne (Ne.symm hj)] at e2
    obtain ⟨u',r',q⟩:=hl j y v' e1 e2 e3
    refine ⟨u',r',?_⟩
    rcases q with q | ⟨k,c',e,z'⟩
    ·exact .inl q
    ·refine .inr ⟨k,c',e,z'.sameBut hs ?_⟩
     rintro rfl
     exact hj (nodup_ix hN e1 (I.ok.inj _ _ _ e hc▸hi))
  ·by_cases hcc:c'=c
   ·subst hcc;exact ⟨_,hc'⟩
   ·obtain ⟨w2,z2⟩:=I.cell y c' e
    exact ⟨w2,z2.sameBut hs hcc⟩
  ·obtain ⟨e,n,ne,nf,d⟩:=I.pin p hp
   refine ⟨(hs.2 p.1 ?_).trans e,n,ne,nf,d⟩
   intro q
   rw [q,hoc] at e
   have q':oc=p.2:=Option.some.inj e
   exact d w' (by rw [←q'];exact hocd)
theorem store_ok {M:Model} {A:Around} {E:Value→Shared→Prop} {i:Nat} {x:Str} {v:V} {u:Value} {Q:Unit→Shared→Prop} (I:Inv X pins σ H s) (hN:X.N.Nodup) (hi:X.N[i]? =some x) (hx:Loc X.env.scope x) (r:RelV v u)
  (h:∀ s',Inv X pins (σ.set i (some v)) H s'→Q () s') (hf:X.fn x=true∨X.env.scope.names.lookup x=some .local:=by first | exact .inl rfl | exact .inr rfl | assumption):wpAny M A (storeName X.env x u) Q E s:=
 store_ok2 I hN hi hx r (fun s' I' _=>h s' I') hf
theorem Inv.call' {s':Shared} {ch:List Addr} (I:Inv X pins σ H s) (ho:s'.os=s.os) (u:Un (frs X.stack) ch H H' s.heap s'.heap) (hok:HOk X.prog X.w H' s'.heap) (hg:AllBare s'.gens)
  (hch:∀ b∈ch,(b∈X.ex∨X.s₀.heap.objs.size≤b)∧b≠X.env.locals∧(∀ x c,X.env.cells.lookup x=some c→c≠b)∧∀ p∈X.pn++pins,p.1≠b):Inv X pins σ H' s':=by
 obtain ⟨h',g',d',t',o'⟩:=s'
 have e:o'=s.os:=ho
 subst e
 exact I.call (g':=g') (t':=t') (d':=d') u hok hg hch
end
noncomputable abbrev XK:=Value→Option Addr→Hp→Prop
noncomputable abbrev St:=List (Option V)
noncomputable abbrev VK:=V→Hp→Prop
noncomputable abbrev TE:=St→Hp→VK→Prop
noncomputable abbrev TT:=St→Hp→(Bool→Hp→Prop)→Prop
noncomputable abbrev TA:=St→Hp→(List V→Hp→Prop)→Prop
structure Ends where
 nx:St→Hp→Prop
 rt:VK
 bk:St→Hp→Prop:=fun _ _=>False
 ct:St→Hp→Prop:=fun _ _=>False
noncomputable abbrev TS:=Ends→St→Hp→Prop
noncomputable def EP (X:Cx) (pins:List (Addr×Obj)) (σ:St) (Q:VK) (u:Value) (s':Shared):Prop:=∃ v H',Inv X pins σ H' s'∧RelV v u∧Q v H'
noncomputable def TP (X:Cx) (pins:List (Addr×Obj)) (σ:St) (Q:Bool→Hp→Prop) (b:Bool) (s':Shared):Prop:=∃ H',Inv X pins σ H' s'∧Q b H'
noncomputable def AP (X:Cx) (pins:List (Addr×Obj)) (σ:St) (Q:List V→Hp→Prop) (us:List Value) (s':Shared):Prop:=∃ vs H',Inv X pins σ H' s'∧Vals vs us∧Q vs H'
noncomputable def SP (X:Cx) (pins:List (Addr×Obj)) (D:Ends) (f:Flow) (s':Shared):Prop:=
 match f with
 | .next=>∃ σ' H',Inv X pins σ' H' s'∧D.nx σ' H'
 | .brk=>∃ σ' H',Inv X pins σ' H' s'∧D.bk σ' H'
 | .cont=>∃ σ' H',Inv X pins σ' H' s'∧D.ct σ' H'
 | .ret u=>∃ v σ' H',Inv X pins σ' H' s'∧RelV v u∧D.rt v H'
noncomputable def PE (X:Cx) (e:Expr) (t:TE):Prop:=
 ∀ (pins:List (Addr×Obj)) (s:Shared) (σ:St) (H:Hp) (Q:VK),Inv X pins σ H s→t σ H Q→wpAny (model X.prog X.w) X.A (eval e X.env) (EP X pins σ Q) X.xe s
noncomputable def PT (X:Cx) (e:Expr) (t:TT):Prop:=
 ∀ (pins:List (Addr×Obj)) (s:Shared) (σ:St) (H:Hp) (Q:Bool→Hp→Prop),Inv X pins σ H s→t σ H Q→wpAny (model X.prog X.w) X.A (isTrue e X.env (eval e X.env)) (TP X pins σ Q) X.xe s
noncomputable def PW (X:Cx) (e:Expr) (t:TT):Prop:=
 ∀ (whole:Sem Value) (pins:List (Addr×Obj)) (s:Shared) (σ:St) (H:Hp) (Q:Bool→Hp→Prop),Inv X pins σ H s→t σ H Q→wpAny (model X.prog X.w) X.A (isTrue e X.env whole) (TP X pins σ Q) X.xe s
theorem PW.pt {X:Cx} {e:Expr} {t:TT} (h:PW X e t):PT X e t:=h _
noncomputable def PA (X:Cx) (es:List Expr) (t:TA):Prop:=
 ∀ (pos:Pos) (pins:List (Addr×Obj)) (s:Shared) (σ:St) (H:Hp) (Q:List V→Hp→Prop),Inv X pins σ H s→t σ H Q→wpAny (model X.prog X.w) X.A (spliced (backTo pos (starEach es X.env))) (AP X pins σ Q) X.xe s
noncomputable def PS (X:Cx) (st:Stmt) (t:TS):Prop:=
 ∀ (pins:List (Addr×Obj)) (s:Shared) (σ:St) (H:Hp) (D:Ends),Inv X pins σ H s→t D σ H→wpAny (model X.prog X.w) X.A (exec st X.env) (SP X pins D) X.xe s
noncomputable def PSs (X:Cx) (st:List Stmt) (t:TS):Prop:=
 ∀ (pins:List (Addr×Obj)) (s:Shared) (σ:St) (H:Hp) (D:Ends),Inv X pins σ H s→t D σ H→wpAny (model X.prog X.w) X.A (execs st X.env) (SP X pins D) X.xe s
theorem thn {α:Type} {t:Sem α} {Q Q':α→Shared→Prop} {M:Model} {A:Around} {E:Value→Shared→Prop} {s:Shared} (h:wpAny M A t Q E s) (hQ:∀ a s,Q a s→Q' a s):wpAny M A t Q' E s:=wpAny_mono h hQ fun _ _ x=>x
end L2
namespace L2
open PySem PySem.Spec PyProof.Rows
section
variable {X:Cx}
noncomputable def tVar (i:Nat):TE:=fun σ H Q=>∃ v,σ[i]? =some (some v)∧Q v H
noncomputable def tC (v:V):TE:=fun _ H Q=>Q v H
theorem pe_var {i:Nat} {x:Str} {pos:Pos} (hN:X.N[i]? =some x) (hv:Vis X.env.scope x) (hd:(x==("__debug__":Str))=false:=by decide) (hcd:(x==("__classdict__":Str))=false:=by decide):PE X (.Name x pos) (tVar i):=by
 intro pins s σ H Q I h
 obtain ⟨v,e,h⟩:=h
 obtain ⟨m,hn,hl⟩:=I.loc
 obtain ⟨u,r,l⟩:=hl i x v hN e hv
 have fin:EP X pins σ Q u s:=⟨v,H,I,r,h⟩
 rcases l with ⟨hk,hm⟩ | ⟨hk,c,hc,hcell⟩
 ·exact wpAny_Name (wpAny_loadName_local I.ok.kind hk hn hm fin) hd
 ·rcases hk with hk | hk
  ·exact wpAny_Name (wpAny_loadName_cell I.ok.kind hk hc hcell fin) hd
  ·exact wpAny_Name (wpAny_loadName_free I.ok.kind hk hc hcell fin hcd) hd
theorem pe_int {i j pos}:PE X (.Constant (.int i) j pos) (tC (.int i)):=fun _ _ _ H _ I h=>wpAny_Constant_int ⟨.int i,H,I.tok _,⟨_,rfl⟩,h⟩
theorem pe_bl {b j pos}:PE X (.Constant (.bool b) j pos) (tC (.bl b)):=fun _ _ _ H _ I h=>Constant_bool ⟨.bl b,H,I,rfl,h⟩
theorem pe_non {j pos}:PE X (.Constant .none j pos) (tC .non):=fun _ _ _ H _ I h=>Constant_none ⟨.non,H,I,rfl,h⟩
theorem pe_str {x j pos}:PE X (.Constant (.str x) j pos) (tC (.str x)):=fun _ _ _ H _ I h=>Calls.Constant_str ⟨.str x,H,I.tok _,⟨_,rfl⟩,h⟩
noncomputable def Gl (X:Cx) (x:Str):Prop:=X.env.kindOf x=some .globalImplicit
theorem ld_glob {E:Value→Shared→Prop} {pins:List (Addr×Obj)} {s:Shared} {σ:St} {H:Hp} {x:Str} {u:Value} {pos:Pos} {Q:Value→Shared→Prop} (I:Inv X pins σ H s) (hg:Gl X x) (hm:X.mg x=some u) (h:Q u s)
  (hd:(x==("__debug__":Str))=false:=by decide):wpAny (model X.prog X.w) X.A (eval (.Name x pos) X.env) Q E s:=
 Calls.Name_function_global I.ok.kind hg (Calls.loadGlobal_global (by rw [I.ok.glob];exact I.mod.glob.keeps I.bk) hm h) hd
theorem ld_blt {E:Value→Shared→Prop} {pins:List (Addr×Obj)} {s:Shared} {σ:St} {H:Hp} {x:Str} {u:Value} {pos:Pos} {Q:Value→Shared→Prop} (I:Inv X pins σ H s) (hg:Gl X x) (hm:X.mg x=none) (hv:bootBuiltins x=some u) (h:Q u s)
  (hn:x≠"__name__":=by decide) (hd:(x==("__debug__":Str))=false:=by decide):wpAny (model X.prog X.w) X.A (eval (.Name x pos) X.env) Q E s:=by
 obtain ⟨mb,h1,h2⟩:=I.mod.blt
 exact Calls.Name_function_global I.ok.kind hg (Calls.loadGlobal_builtin (by rw [I.ok.glob];exact I.mod.glob.keeps I.bk) hm (by rw [I.ok.blt];exact h1.keeps I.bk) ((h2 x hn).trans hv) h) hd
theorem pe_bltn {x:Str} {v:V} {u:Value} {pos:Pos} (hg:Gl X x) (hm:X.mg x=none) (hv:bootBuiltins x=some u) (r:RelV v u) (hn:x≠"__name__":=by decide) (hd:(x==("__debug__":Str))=false:=by decide):PE X (.Name x pos) (tC v):=
 fun _ _ _ H _ I h=>ld_blt I hg hm hv ⟨v,H,I,r,h⟩ hn hd
variable {a b:Expr} {ta tb:TE} {pos:Pos}
noncomputable def tB (t:TE):TT:=fun σ H Q=>t σ H fun x H1=>∃ c,x=.bl c∧Q c H1
theorem pt_val {e:Expr} {t:TE} (h:PE X e t) (he:∀ whole,isTrue e X.env whole=(do let v ←whole;standAt e.pos;holding [v] (truthy v)):=by intro _;rfl):PT X e (tB t):=by
 intro pins s σ H Q I hw
 refine isTrue_plain (thn (h pins s σ H _ I hw) fun v s1 ⟨x,H1,I1,r1,q1⟩=>?_) (he _)
 obtain ⟨d,rfl,q⟩:=q1
 cases r1
 exact wpAny_truthy_bool ⟨H1,I1,q⟩
variable {tA tB':TT} {rest:List Expr}
noncomputable def tAnd (t u:TT):TT:=fun σ H Q=>t σ H fun c H1=>if c=true then u σ H1 Q else Q false H1
noncomputable def tOr (t u:TT):TT:=fun σ H Q=>t σ H fun c H1=>if c=true then Q true H1 else u σ H1 Q
noncomputable def tNot (t:TT):TT:=fun σ H Q=>t σ H fun c H1=>Q (!c) H1
theorem pw_and1 (ha:PT X a tA):PW X (.BoolOp .And [a] pos) tA:=by
 intro wh pins s σ H Q I h
 refine isTrue_and (thn (ha pins s σ H Q I h) fun c s1 e=>?_)
 cases c with
 | true=>exact isTrue_and_nil e
 | false=>exact e
theorem pw_or1 (ha:PT X a tA):PW X (.BoolOp .Or [a] pos) tA:=by
 intro wh pins s σ H Q I h
 refine isTrue_or (thn (ha pins s σ H Q I h) fun c s1 e=>?_)
 cases c with
 | false=>exact isTrue_or_nil e
 | true=>exact e
theorem pw_and (ha:PT X a tA) (hb:PW X (.BoolOp .And (b::rest) pos) tB'):PW X (.BoolOp .And (a::b::rest) pos) (tAnd tA tB'):=by
 intro wh pins s σ H Q I h
 refine isTrue_and (thn (ha pins s σ H _ I h) fun c s1 ⟨H1,I1,q1⟩=>?_)
 cases c with
 | true=>exact hb wh pins s1 σ H1 Q I1 q1
 | false=>exact ⟨H1,I1,q1⟩
theorem pw_or (ha:PT X a tA) (hb:PW X (.BoolOp .Or (b::rest) pos) tB'):PW X (.BoolOp .Or (a::b::rest) pos) (tOr tA tB'):=by
 intro wh pins s σ H Q I h
 refine isTrue_or (thn (ha pins s σ H _ I h) fun c s1 ⟨H1,I1,q1⟩=>?_)
 cases c with
 | true=>exact ⟨H1,I1,q1⟩
 | false=>exact hb wh pins s1 σ H1 Q I1 q1
theorem pt_not (ha:PT X a tA):PT X (.UnaryOp .Not a pos) (tNot tA):=by
 intro pins s σ H Q I h
 exact isTrue_not (ha pins s σ H (fun c H1=>Q (!c) H1) I h)
noncomputable def tAndV (ta tb:TE):TE:=fun σ H Q=>ta σ H fun x H1=>∃ c,x=.bl c∧if c=true then tb σ H1 Q else Q (.bl false) H1
noncomputable def tOrV (ta tb:TE):TE:=fun σ H Q=>ta σ H fun x H1=>∃ c,x=.bl c∧if c=true then Q (.bl true) H1 else tb σ H1 Q
noncomputable def tNotV (ta:TE):TE:=fun σ H Q=>ta σ H fun x H1=>∃ c,x=.bl c∧Q (.bl (!c)) H1
theorem pe_one {op} {t:TE} (h:PE X a t):PE X (.BoolOp op [a] pos) t:=fun pins s σ H Q I hw=>BoolOp_one (h pins s σ H Q I hw)
theorem pe_and (ha:PE X a ta) (hb:PE X (.BoolOp .And (b::rest) pos) tb):PE X (.BoolOp .And (a::b::rest) pos) (tAndV ta tb):=by
 intro pins s σ H Q I h
 refine BoolOp_and (thn (ha pins s σ H _ I h) fun v s1 ⟨x,H1,I1,r1,q1⟩=>?_)
 obtain ⟨c,rfl,q1⟩:=q1
 cases r1
 refine wpAny_truthy_bool ?_
 cases c with
 | true=>exact hb pins s1 σ H1 Q I1 q1
 | false=>exact ⟨.bl false,H1,I1,rfl,q1⟩
noncomputable def tIf (t:TT) (ta tb:TE):TE:=fun σ H Q=>t σ H fun c H1=>if c=true then ta σ H1 Q else tb σ H1 Q
end
end L2
namespace L2
open PySem PySem.Spec PyProof.Rows
noncomputable def SqL (K:PySem.W.Frag) (H:Hp) (a:Addr) (xs:List V):Prop:=
 Rd H a (.lst xs)∨
  ∃ (o:Obj) (its:Array Value) (n:Nat),K.lookup a=some o∧o.cls=.type "list"∧o.dict=none∧o.data=.seq its n∧its.size≤sizeLine∧Vals xs its.toList
noncomputable def SqT (K:PySem.W.Frag) (H:Hp) (a:Addr) (xs:List V):Prop:=
 Rd H a (.tup xs)∨
  ∃ (o:Obj) (its:Array Value) (n:Nat),K.lookup a=some o∧o.cls=.type "tuple"∧o.data=.seq its n∧its.size≤sizeLine∧Vals xs its.toList
noncomputable def absV:Value→Option V
 | .none=>some .non
 | .bool b=>some (.bl b)
 | .int i _=>some (.int i)
 | .str x _=>some (.str x)
 | .bytes b _=>some (.byt b)
 | .float b _=>some (.flt b)
 | .ref a=>some (.ref a)
 | .type n=>some (.ty n)
 | _=>none
theorem RelV.abs {x:V} {u:Value} (r:RelV x u):absV u=some x:=by
 cases x with
 | non=>cases r;rfl
 | bl _=>cases r;rfl
 | int _=>obtain ⟨t,rfl⟩:=r;rfl
 | str _=>obtain ⟨t,rfl⟩:=r;rfl
 | byt _=>obtain ⟨t,rfl⟩:=r;rfl
 | flt _=>obtain ⟨t,rfl⟩:=r;rfl
 | ref _=>cases r;rfl
 | ty _=>cases r;rfl
theorem RelV.inj {x y:V} {u:Value} (r:RelV x u) (q:RelV y u):x=y:=Option.some.inj (r.abs.symm.trans q.abs)
theorem Vals.inj:∀ {xs ys:List V} {us:List Value},Vals xs us→Vals ys us→xs=ys
 | _,_,_,.nil,.nil=>rfl
 | _,_,_,.cons r t,.cons r' t'=>by rw [r.inj r',Vals.inj t t']
section
variable {X:Cx} {pins:List (Addr×Obj)} {σ:St} {H:Hp} {s:Shared} {a:Addr} {xs ys:List V}
theorem SqL.of {K:PySem.W.Frag} (h:H a=some (.lst xs)):SqL K H a xs:=.inl (.inl h)
theorem SqT.of {K:PySem.W.Frag} (h:H a=some (.tup xs)):SqT K H a xs:=.inl (.inl h)
theorem Inv.list (I:Inv X pins σ H s) (h:SqL X.K H a xs):∃ its:List Value,Vals xs its∧PlainL s.heap a its.toArray∧xs.length≤sizeLine:=by
 rcases h with h | ⟨o,its,n,hk,hc,hd,hs,hz,r⟩
 ·obtain ⟨z,its,n,r,e⟩:=h.ok I.hok
  exact ⟨its,r,⟨_,n,e,rfl,rfl,rfl⟩,z⟩
 ·refine ⟨its.toList,r,⟨o,n,I.kIn a o hk,hc,hd,by simpa using hs⟩,?_⟩
  have e:=r.length
  simp only [Array.length_toList] at e
  omega
theorem Inv.tuple (I:Inv X pins σ H s) (h:SqT X.K H a xs):∃ its:List Value,Vals xs its∧IsTup s.heap a its.toArray∧xs.length≤sizeLine:=by
 rcases h with h | ⟨o,its,n,hk,hc,hs,hz,r⟩
 ·obtain ⟨z,its,r,p⟩:=h.ok I.hok
  exact ⟨its,r,p.1,z⟩
 ·refine ⟨its.toList,r,⟨o,I.kIn a o hk,hc,n,by simpa using hs⟩,?_⟩
  have e:=r.length
  simp only [Array.length_toList] at e
  omega
theorem Inv.list_inj (I:Inv X pins σ H s) (h:SqL X.K H a xs) (h':SqL X.K H a ys):xs=ys:=by
 obtain ⟨its,r,⟨o,n,e,_,_,d⟩,_⟩:=I.list h
 obtain ⟨its',r',⟨o',n',e',_,_,d'⟩,_⟩:=I.list h'
 rw [e] at e';cases e'
 rw [d] at d'
 injection d' with d1 _
 have:its=its':=by simpa using congrArg Array.toList d1
 subst this
 exact r.inj r'
theorem Inv.tuple_inj (I:Inv X pins σ H s) (h:SqT X.K H a xs) (h':SqT X.K H a ys):xs=ys:=by
 obtain ⟨its,r,⟨o,e,_,n,d⟩,_⟩:=I.tuple h
 obtain ⟨its',r',⟨o',e',_,n',d'⟩,_⟩:=I.tuple h'
 rw [e] at e';cases e'
 rw [d] at d'
 injection d' with d1 _
 have:its=its':=by simpa using congrArg Array.toList d1
 subst this
 exact r.inj r'
end
noncomputable abbrev Cx.wish (X:Cx) (E:Value→Shared→Prop):Cx:={ X with xe:=E }
noncomputable abbrev Cx.nox (X:Cx):Cx:=X.wish fun _ _=>False
theorem Cx.Ok.wish {X:Cx} (ok:X.Ok) (E:Value→Shared→Prop):(X.wish E).Ok:=
 ⟨ok.mod,ok.kind,ok.glob,ok.blt,ok.above,ok.inj,ok.has,ok.cab,ok.hd,ok.frames,ok.stk,ok.exf,ok.bs,ok.bsz,ok.noex,ok.exfs,ok.funs,ok.frf⟩
theorem Cx.Ok.unwish {X:Cx} {E:Value→Shared→Prop} (ok:(X.wish E).Ok):X.Ok:=
 ⟨ok.mod,ok.kind,ok.glob,ok.blt,ok.above,ok.inj,ok.has,ok.cab,ok.hd,ok.frames,ok.stk,ok.exf,ok.bs,ok.bsz,ok.noex,ok.exfs,ok.funs,ok.frf⟩
section
variable {X:Cx} {pins:List (Addr×Obj)} {σ:St} {H:Hp} {s:Shared} {E:Value→Shared→Prop}
theorem Inv.wish (I:Inv X pins σ H s) (E:Value→Shared→Prop):Inv (X.wish E) pins σ H s:=⟨I.ok.wish E,I.os,I.bare,I.base,I.loc,I.cell,I.free,I.freeC,I.pin,I.hok,I.len⟩
theorem Inv.unwish (I:Inv (X.wish E) pins σ H s):Inv X pins σ H s:=⟨I.ok.unwish,I.os,I.bare,I.base,I.loc,I.cell,I.free,I.freeC,I.pin,I.hok,I.len⟩
theorem SP.unwish {D:Ends} {f:Flow} {s':Shared} (h:SP (X.wish E) pins D f s'):SP X pins D f s':=by
 cases f with
 | next=>obtain ⟨σ',H',I,q⟩:=h;exact ⟨σ',H',I.unwish,q⟩
 | brk=>obtain ⟨σ',H',I,q⟩:=h;exact ⟨σ',H',I.unwish,q⟩
 | cont=>obtain ⟨σ',H',I,q⟩:=h;exact ⟨σ',H',I.unwish,q⟩
 | ret u=>obtain ⟨v,σ',H',I,r,q⟩:=h;exact ⟨v,σ',H',I.unwish,r,q⟩
theorem PE.nox {e:Expr} {t:TE} (h:PE X.nox e t):PE X e t:=fun pins s σ H Q I hw=>
 wpAny_mono (h pins s σ H Q (I.wish _) hw) (fun _ _ ⟨v,H',I',r,q⟩=>⟨v,H',I'.unwish,r,q⟩) fun _ _ z=>False.elim z
theorem PT.nox {e:Expr} {t:TT} (h:PT X.nox e t):PT X e t:=fun pins s σ H Q I hw=>
 wpAny_mono (h pins s σ H Q (I.wish _) hw) (fun _ _ ⟨H',I',q⟩=>⟨H',I'.unwish,q⟩) fun _ _ z=>False.elim z
theorem PSs.nox {st:List Stmt} {t:TS} (h:PSs X.nox st t):PSs X st t:=fun pins s σ H D I hw=>
 wpAny_mono (h pins s σ H D (I.wish _) hw) (fun _ _ q=>q.unwish) fun _ _ z=>False.elim z
end
section
variable {X:Cx} {st:Stmt} {rest:List Stmt} {t u:TS} {e:Expr} {te:TE} {pos:Pos}
noncomputable def tNext:TS:=fun D σ H=>D.nx σ H
noncomputable def tSeq (t u:TS):TS:=fun D σ H=>t { D with nx:=u D } σ H
theorem pss_nil:PSs X [] tNext:=fun _ _ σ H _ I h=>wpAny_execs_nil ⟨σ,H,I,h⟩
theorem pss_cons (h1:PS X st t) (h2:PSs X rest u):PSs X (st::rest) (tSeq t u):=by
 intro pins s σ H D I h
 refine wpAny_execs_cons (thn (h1 pins s σ H { D with nx:=u D } I h) fun f s1 q=>?_)
 cases f with
 | next=>
  obtain ⟨σ',H',I',q⟩:=q
  exact h2 pins s1 σ' H' D I' q
 | ret v=>exact q
 | brk=>exact q
 | cont=>exact q
theorem pss_one (h1:PS X st t):PSs X [st] t:=by
 intro pins s σ H D I h
 refine wpAny_execs_cons (thn (h1 pins s σ H D I h) fun f s1 q=>?_)
 cases f with
 | next=>exact wpAny_execs_nil q
 | ret v=>exact q
 | brk=>exact q
 | cont=>exact q
theorem Inv.quiet {pins:List (Addr×Obj)} {σ:St} {H:Hp} {s:Shared} (I:Inv X pins σ H s):interactive X.env=false:=by simp [interactive,I.ok.kind]
noncomputable def tDrop (te:TE):TS:=fun D σ H=>te σ H fun _ H1=>D.nx σ H1
theorem ps_expr (he:PE X e te) (hs:swapsWith e none pos.line X.env=pure false:=by rfl):PS X (.Expr e pos) (tDrop te):=by
 intro pins s σ H D I h
 exact wpAny_Expr_any (thn (he pins s σ H _ I h) fun v s1 ⟨x,H1,I1,r1,q1⟩=>⟨σ,H1,I1,q1⟩) I.quiet hs
noncomputable def tRet (te:TE):TS:=fun D σ H=>te σ H D.rt
theorem ps_ret (he:PE X e te):PS X (.Return (some e) pos) (tRet te):=by
 intro pins s σ H D I h
 exact wpAny_Return_some (thn (he pins s σ H _ I h) fun v s1 ⟨x,H1,I1,r1,q1⟩=>⟨x,σ,H1,I1,r1,q1⟩)
noncomputable def tIfS (c:TT) (t u:TS):TS:=fun D σ H=>c σ H fun b H1=>if b=true then t D σ H1 else u D σ H1
theorem ps_if {c:Expr} {a b:List Stmt} {tc:TT} (hc:PT X c tc) (ha:PSs X a t) (hb:PSs X b u):PS X (.If c a b pos) (tIfS tc t u):=by
 intro pins s σ H D I h
 refine wpAny_If (thn (hc pins s σ H _ I h) fun d s1 ⟨H1,I1,q1⟩=>?_)
 cases d with
 | true=>exact ha pins s1 σ H1 D I1 q1
 | false=>exact hb pins s1 σ H1 D I1 q1
noncomputable def tNever:TS:=fun _ _ _=>False
theorem ps_never:PS X st tNever:=fun _ _ _ _ _ _ h=>h.elim
end
noncomputable abbrev TG:=V→St→Hp→(St→Hp→Prop)→Prop
noncomputable abbrev TGs:=List V→St→Hp→(St→Hp→Prop)→Prop
noncomputable def PG (X:Cx) (target:Expr) (t:TG):Prop:=
 ∀ (pins:List (Addr×Obj)) (s:Shared) (σ:St) (H:Hp) (v:V) (u:Value) (Q:St→Hp→Prop),Inv X pins σ H s→RelV v u→t v σ H Q→
  wpAny (model X.prog X.w) X.A (assign target X.env u) (fun _ s'=>∃ σ' H',Inv X pins σ' H' s'∧Q σ' H') X.xe s
noncomputable def PGs (X:Cx) (ts:List Expr) (t:TGs):Prop:=
 ∀ (pins:List (Addr×Obj)) (s:Shared) (σ:St) (H:Hp) (vs:List V) (us:List Value) (Q:St→Hp→Prop),Inv X pins σ H s→Vals vs us→t vs σ H Q→
  wpAny (model X.prog X.w) X.A (assignInOrder ((assignEach ts X.env).map (·.2)) us) (fun _ s'=>∃ σ' H',Inv X pins σ' H' s'∧Q σ' H') X.xe s
noncomputable abbrev TSet:=V→V→V→Hp→(Hp→Prop)→Prop
noncomputable def PSet (X:Cx) (t:TSet):Prop:=
 ∀ (pins:List (Addr×Obj)) (s:Shared) (σ:St) (H:Hp) (o i v:V) (ov iv u:Value) (Q:Hp→Prop),Inv X pins σ H s→RelV o ov→RelV i iv→RelV v u→t o i v H Q→
  wpAny (model X.prog X.w) X.A (setItem ov iv u) (fun _ s'=>∃ H',Inv X pins σ H' s'∧Q H') X.xe s
section
variable {X:Cx} {pos:Pos}
noncomputable def gName (i:Nat):TG:=fun v σ H Q=>Q (σ.set i (some v)) H
theorem pg_name {i:Nat} {x:Str} (hN:X.N.Nodup) (hi:X.N[i]? =some x) (hx:Loc X.env.scope x) (hf:X.fn x=true∨X.env.scope.names.lookup x=some .local:=by first | exact .inl rfl | exact .inr rfl | assumption):PG X (.Name x pos) (gName i):=by
 intro pins s σ H v u Q I r h
 exact wpAny_assign_Name (store_ok I hN hi hx r (fun s' I'=>⟨_,H,I',h⟩) hf)
noncomputable def gNil:TGs:=fun vs σ H Q=>vs=[]∧Q σ H
noncomputable def gCons (t:TG) (u:TGs):TGs:=fun vs σ H Q=>∃ v r,vs=v::r∧t v σ H fun σ' H'=>u r σ' H' Q
theorem pgs_nil:PGs X [] gNil:=by
 intro pins s σ H vs us Q I r h
 obtain ⟨e,h⟩:=h
 subst e
 cases r
 exact assignInOrder_nil ⟨σ,H,I,h⟩
theorem pgs_cons {e:Expr} {es:List Expr} {t:TG} {u:TGs} (h1:PG X e t) (h2:PGs X es u)
  (hs:(assignEach (e::es) X.env).map (·.2)=assign e X.env::(assignEach es X.env).map (·.2):=by rfl):PGs X (e::es) (gCons t u):=by
 intro pins s σ H vs us Q I r h
 obtain ⟨v,vr,e1,h⟩:=h
 subst e1
 cases r with
 | cons r rr=>
  rw [hs]
  refine assignInOrder_cons (thn (h1 pins s σ H _ _ _ I r h) fun _ s1 ⟨σ1,H1,I1,q1⟩=>?_)
  exact h2 pins s1 σ1 H1 _ _ Q I1 rr q1
noncomputable def gTup (K:PySem.W.Frag) (n:Nat) (t:TGs):TG:=fun v σ H Q=>∃ a xs,v=.ref a∧SqT K H a xs∧xs.length=n∧t xs σ H Q
theorem pg_tup {es:List Expr} {k:Nat} {t:TGs} {n:Nat} (hc:X.calm=true) (h:PGs X es t)
  (hn:(assignEach es X.env).length=n:=by rfl) (hst:(assignEach es X.env).findIdx? (·.1)=none:=by rfl):PG X (.Tuple es k pos) (gTup X.K n t):=by
 intro pins s σ H v u Q I r hw
 obtain ⟨a,xs,e1,hq,hl,hw⟩:=hw
 subst e1
 cases r
 obtain ⟨its,rv,ht,hz⟩:=I.tuple hq
 refine assign_Tuple_tuple (I.ok.hd hc) ht (by simp [hn,←hl,rv.length]) hst fun h' hx=>?_
 have I1:Inv X pins σ H { s with heap:=h' }:=I.kept (t':=s.toks) fun b o e=>hx b o (Nat.ne_of_lt (Heap.lt_size e)) e
 exact h pins _ σ H xs _ Q I1 (by simpa using rv) hw
noncomputable def gSub (to ti:TE) (t:TSet):TG:=fun v σ H Q=>to σ H fun o H1=>ti σ H1 fun i H2=>t o i v H2 fun H3=>Q σ H3
theorem pg_sub {o i:Expr} {to ti:TE} {t:TSet} (ho:PE X o to) (hi:PE X i ti) (hs:PSet X t)
  (ha:∀ v,assign (.Subscript o i pos) X.env v=(do
   let ov ←holding [v] (eval o X.env)
   let iv ←holding [v,ov] (eval i X.env)
   standAt pos
   holding [v,ov,iv] (setItem ov iv v)
   release [v,ov,iv] []):=by intro _;rfl):PG X (.Subscript o i pos) (gSub to ti t):=by
 intro pins s σ H v u Q I r h
 rw [ha]
 refine wpAny_bind (wpAny_holding (thn (ho pins s σ H _ I h) fun ov s1 ⟨x,H1,I1,r1,q1⟩=>?_))
 refine wpAny_bind (wpAny_holding (thn (hi pins s1 σ H1 _ I1 q1) fun iv s2 ⟨y,H2,I2,r2,q2⟩=>?_))
 refine wpAny_bind (wpAny_standAt (wpAny_bind (wpAny_holding (thn (hs pins s2 σ H2 x y v ov iv u _ I2 r1 r2 r q2) fun _ s3 ⟨H3,I3,q3⟩=>?_))))
 exact wpAny_release ⟨σ,H3,I3,q3⟩
noncomputable def tAsg (te:TE) (g:TG):TS:=fun D σ H=>te σ H fun x H1=>g x σ H1 D.nx
theorem ps_asg {tg e:Expr} {te:TE} {g:TG} (he:PE X e te) (hg:PG X tg g) (hs:swapsWithSole [tg] e pos.line X.env=pure false:=by rfl) (hw:swappedStores [tg] e X.env=pure none:=by rfl)
  (h1:(assignEach [tg] X.env).map (·.2)=[assign tg X.env]:=by rfl):PS X (.Assign [tg] e pos) (tAsg te g):=by
 intro pins s σ H D I h
 refine wpAny_Assign_stores (thn (he pins s σ H _ I h) fun v s1 ⟨x,H1,I1,r1,q1⟩=>?_) hs hw
 rw [h1]
 exact thn (hg pins s1 σ H1 x v _ I1 r1 q1) fun _ s2 q=>q
theorem ps_set {i:Nat} {x:Str} {e:Expr} {te:TE} {pos':Pos} (hN:X.N.Nodup) (hi:X.N[i]? =some x) (hx:Loc X.env.scope x) (he:PE X e te) (hs:swapsWith e (some (.Name x pos')) pos.line X.env=pure false:=by rfl) (hf:X.fn x=true∨X.env.scope.names.lookup x=some .local:=by first | exact .inl rfl | exact .inr rfl | assumption):
  PS X (.Assign [.Name x pos'] e pos) (tAsg te (gName i)):=by
 intro pins s σ H D I h
 refine wpAny_Assign_Name (thn (he pins s σ H _ I h) fun v s1 ⟨y,H1,I1,r1,q1⟩=>?_) hs
 exact store_ok I1 hN hi hx r1 (fun s2 I2=>⟨_,H1,I2,q1⟩) hf
end
section
variable {X:Cx} {pos:Pos}
noncomputable def tWhile (c:TT) (tb:TS):TS:=fun D σ H=>∃ W:Nat→St→Hp→Prop,(∃ m,W m σ H)∧∀ m σ H,W m σ H→
 c σ H fun b H1=>if b=true then ∃ N:St→Hp→Prop,(∀ σ' H',N σ' H'→∃ m',m' < m∧W m' σ' H')∧tb { D with nx:=N,ct:=N,bk:=D.nx } σ H1 else D.nx σ H1
theorem ps_while {c:Expr} {body:List Stmt} {tc:TT} {tb:TS} (hp:PassesOwn (model X.prog X.w) X.A X.env X.xe) (hc:PT X c tc) (hb:PSs X body tb):PS X (.While c body [] pos) (tWhile tc tb):=by
 intro pins s σ H D I h
 obtain ⟨W,⟨m0,w0⟩,turn⟩:=h
 refine wpAny_While (codeAny_whileLoop (fun n s'=>∃ σ' H',Inv X pins σ' H' s'∧W n σ' H') ?_ m0 ⟨σ,H,I,w0⟩)
 rintro n s1 ⟨σ1,H1,I1,w1⟩
 refine wpAny_passesOwn hp (thn (hc pins s1 σ1 H1 _ I1 (turn n σ1 H1 w1)) fun b s2 ⟨H2,I2,q2⟩=>?_)
 cases b with
 | true=>
  obtain ⟨N,hN,q2⟩:=q2
  rw [if_pos rfl]
  refine wpAny_passesOwn hp (thn (hb pins s2 σ1 H2 _ I2 q2) fun f s3 q3=>?_)
  cases f with
  | next=>
   obtain ⟨σ3,H3,I3,n3⟩:=q3
   obtain ⟨m',hm,w3⟩:=hN σ3 H3 n3
   exact ⟨m',hm,σ3,H3,I3,w3⟩
  | cont=>
   obtain ⟨σ3,H3,I3,n3⟩:=q3
   obtain ⟨m',hm,w3⟩:=hN σ3 H3 n3
   exact ⟨m',hm,σ3,H3,I3,w3⟩
  | brk=>exact q3
  | ret v=>exact q3
 | false=>
  rw [if_neg Bool.false_ne_true]
  exact wpAny_execs_nil ⟨σ1,H2,I2,q2⟩
end
structure It where
 go:Nat→Hp→Prop
 yld:Nat→Hp→V→Hp→Prop
 stop:Nat→Hp→Prop
noncomputable def FpOk (X:Cx) (pins:List (Addr×Obj)) (H:Hp) (b:Addr):Prop:=
 H b=none∧b≠X.env.locals∧b∉X.fs∧(b∈X.ex∨X.s₀.heap.objs.size≤b)∧(∀ x c,X.env.cells.lookup x=some c→c≠b)∧∀ p∈X.pn++pins,p.1≠b
theorem Inv.fpOk {X:Cx} {pins:List (Addr×Obj)} {σ:St} {H H':Hp} {s:Shared} {b:Addr} (I:Inv X pins σ H s) (hb:s.heap.objs.size≤b) (hn:H' b=none):FpOk X pins H' b:=by
 refine ⟨hn,Nat.ne_of_gt (Nat.lt_of_lt_of_le I.lt hb),I.nofs hb,.inr (Nat.le_trans I.sz hb),fun x c e z=>?_,fun p hp z=>?_⟩
 ·obtain ⟨v,q⟩:=I.cell x c e
  exact absurd (Nat.lt_of_lt_of_le q.lt (by rw [z];exact hb)) (Nat.lt_irrefl _)
 ·exact absurd (Nat.lt_of_lt_of_le (Heap.lt_size (I.pin p hp).1) (by rw [z];exact hb)) (Nat.lt_irrefl _)
structure Turn (P:Program) (w:World) (K:PySem.W.Frag) (tg:Expr) (J:It) (fp:List Addr) (it:Addr) (tn:Nat→Heap→Prop):Prop where
 mem:it∈fp
 obj:∀ i h,tn i h→∀ b∈fp,∃ o,h.get? b=some o∧∀ v,o.data≠.cell v
 keep:∀ i h h',tn i h→(∀ b∈fp,∀ o,h.get? b=some o→h'.get? b=some o)→tn i h'
 item:∀ (X:Cx),X.prog=P→X.w=w→X.K=K→X.calm=true→∀ (i:Nat) (pins:List (Addr×Obj)) (s:Shared) (σ:St) (H:Hp) (E:Value→Shared→Prop),Inv X pins σ H s→(∀ b∈fp,FpOk X pins H b)→tn i s.heap→J.go i H→
  wpAny (model P w) X.A (pyNext (.ref it)) (fun r s1=>∃ u,r=some u∧
   wpAny (model P w) X.A (letOwnedTupleGo tg (.ref it) u) (fun _ s2=>∃ x H',Inv X pins σ H' s2∧RelV x u∧J.yld i H x H'∧tn (i + 1) s2.heap∧∀ b∈fp,H' b=none) E s1) E s
 done:∀ (X:Cx),X.prog=P→X.w=w→X.K=K→X.calm=true→∀ (i:Nat) (pins:List (Addr×Obj)) (s:Shared) (σ:St) (H:Hp) (E:Value→Shared→Prop),Inv X pins σ H s→(∀ b∈fp,FpOk X pins H b)→tn i s.heap→J.stop i H→
  wpAny (model P w) X.A (pyNext (.ref it)) (fun r s1=>r=none∧Inv X pins σ H s1) E s
 self:∀ (A:Around) (i:Nat) (s:Shared) (Q:Value→Shared→Prop) (E:Value→Shared→Prop),tn i s.heap→Q (.ref it) s→wpAny (model P w) A (pyIter (.ref it)) Q E s
noncomputable abbrev TI:=St→Hp→(It→Hp→Prop)→Prop
noncomputable def PIE (X:Cx) (pins:List (Addr×Obj)) (σ:St) (tg:Expr) (R:It→Hp→Prop) (itv:Value) (s2:Shared):Prop:=
 ∃ (it:Addr) (fp:List Addr) (tn:Nat→Heap→Prop) (J:It) (H':Hp),itv=.ref it∧Inv X pins σ H' s2∧Turn X.prog X.w X.K tg J fp it tn∧tn 0 s2.heap∧(∀ b∈fp,FpOk X pins H' b)∧R J H'
noncomputable def PI (X:Cx) (tg iter:Expr) (wi:TI):Prop:=
 ∀ (pins:List (Addr×Obj)) (s:Shared) (σ:St) (H:Hp) (R:It→Hp→Prop),Inv X pins σ H s→wi σ H R→
  wpAny (model X.prog X.w) X.A (eval iter X.env) (fun v s1=>wpAny (model X.prog X.w) X.A (pyIter v) (PIE X pins σ tg R) X.xe s1) X.xe s
theorem go_of {M:Model} {A:Around} {E:Value→Shared→Prop} {s:Shared} {tg:Expr} {it:Addr} {u:Value} {o:Obj} {n:String} {vs:Array Value} {Q:Unit→Shared→Prop} (ho:s.heap.get? it=some o) (hc:o.cls=.type n) (hd:o.data=.fields vs)
    (hn:["enumerate","zip","dict_itemiterator","dict_reverseitemiterator","odict_iterator","itertools.zip_longest","itertools.pairwise"].contains n=false) (hQ:Q () s):wpAny M A (letOwnedTupleGo tg (.ref it) u) Q E s:=by
  unfold letOwnedTupleGo
  cases tg <;> first
    | exact wpAny_pure hQ
    | (cases u <;> first
        | exact wpAny_pure hQ
        | (refine wpAny_bind (wpAny_load ho ?_)
           rw [hc,hd]
           show wpAny M A (if (["enumerate","zip","dict_itemiterator","dict_reverseitemiterator","odict_iterator","itertools.zip_longest","itertools.pairwise"].contains n&&vs[0]? ==some (rawInt _))=true then _ else _) Q E s
           rw [if_neg (by intro h;rw [hn,Bool.false_and] at h;cases h)]
           exact wpAny_pure hQ))
noncomputable def Itl (K:PySem.W.Frag) (a:Addr):It:=
 ⟨fun i H=>∃ xs x,SqL K H a xs∧xs[i]? =some x,fun i H x H'=>H'=H∧∀ xs,SqL K H a xs→xs[i]? =some x,fun i H=>∃ xs,SqL K H a xs∧xs.length≤i⟩
noncomputable def Itt (K:PySem.W.Frag) (a:Addr):It:=
 ⟨fun i H=>∃ xs x,SqT K H a xs∧xs[i]? =some x,fun i H x H'=>H'=H∧∀ xs,SqT K H a xs→xs[i]? =some x,fun i H=>∃ xs,SqT K H a xs∧xs.length≤i⟩
noncomputable def Itr (lo:Int) (n:Nat):It:=⟨fun i _=>i < n,fun i H x H'=>H'=H∧x=.int (lo + i),fun i _=>n≤i⟩
theorem turn_list {P:Program} {w:World} {K:PySem.W.Frag} {tg:Expr} (a it:Addr):Turn P w K tg (Itl K a) [it] it (fun i h=>h.IsListIter it a i) where
 mem:=by simp
 obj:=fun i h st b hb=>by
  have e:b=it:=by simpa using hb
  subst e
  obtain ⟨o,e,c,d⟩:=st
  exact ⟨o,e,fun v z=>by rw [d] at z;cases z⟩
 keep:=fun i h h' st k=>st.at fun o e=>k it (by simp) o e
 item:=by
  intro X hP hw hK hc i pins s σ H E I hf st hg
  subst hP hw hK
  obtain ⟨xs,x,hq,hx⟩:=hg
  obtain ⟨its,rv,p,hz⟩:=I.list hq
  obtain ⟨u,hu,ru⟩:=rv.get hx
  obtain ⟨f0,f1,f2,f3,f4,f5⟩:=hf it (by simp)
  refine wpAny_pyNext_list_item st p.isList (x:=u) (by simpa using hu) fun h' st' sb=>?_
  have I1:Inv X pins σ H { s with heap:=h' }:=I.turned (t':=s.toks) (fun b o hb e=>(sb.2 b hb).trans e) f0 f1 f3 f4 f5
  obtain ⟨o,e,c,d⟩:=id st'
  exact ⟨u,rfl,go_of (s:={ s with heap:=h' }) e c d (by decide) ⟨x,H,I1,ru,⟨rfl,fun ys hy=>by rw [I.list_inj hy hq];exact hx⟩,st',fun b hb=>(hf b hb).1⟩⟩
 done:=by
  intro X hP hw hK hc i pins s σ H E I hf st hg
  subst hP hw hK
  obtain ⟨xs,hq,hx⟩:=hg
  obtain ⟨its,rv,p,hz⟩:=I.list hq
  obtain ⟨f0,f1,f2,f3,f4,f5⟩:=hf it (by simp)
  have hl:=rv.length
  exact wpAny_pyNext_list_end (I.ok.hd hc) st p.isList (by simp;omega) fun h' eb=>⟨rfl,I.turned (t':=s.toks) (fun b o hb e=>eb b o hb e) f0 f1 f3 f4 f5⟩
 self:=fun _ _ _ _ _ st h=>wpAny_pyIter_listiter st h
theorem turn_tuple {P:Program} {w:World} {K:PySem.W.Frag} {tg:Expr} (a it:Addr):Turn P w K tg (Itt K a) [it] it (fun i h=>h.IsTupleIter it a i) where
 mem:=by simp
 obj:=fun i h st b hb=>by
  have e:b=it:=by simpa using hb
  subst e
  obtain ⟨o,e,c,d⟩:=st
  exact ⟨o,e,fun v z=>by rw [d] at z;cases z⟩
 keep:=fun i h h' st k=>st.at fun o e=>k it (by simp) o e
 item:=by
  intro X hP hw hK hc i pins s σ H E I hf st hg
  subst hP hw hK
  obtain ⟨xs,x,hq,hx⟩:=hg
  obtain ⟨its,rv,p,hz⟩:=I.tuple hq
  obtain ⟨u,hu,ru⟩:=rv.get hx
  obtain ⟨f0,f1,f2,f3,f4,f5⟩:=hf it (by simp)
  refine wpAny_pyNext_tuple_item st (show s.heap.IsTuple a its.toArray from p) (x:=u) (by simpa using hu) fun h' st' sb=>?_
  have I1:Inv X pins σ H { s with heap:=h' }:=I.turned (t':=s.toks) (fun b o hb e=>(sb.2 b hb).trans e) f0 f1 f3 f4 f5
  obtain ⟨o,e,c,d⟩:=id st'
  exact ⟨u,rfl,go_of (s:={ s with heap:=h' }) e c d (by decide) ⟨x,H,I1,ru,⟨rfl,fun ys hy=>by rw [I.tuple_inj hy hq];exact hx⟩,st',fun b hb=>(hf b hb).1⟩⟩
 done:=by
  intro X hP hw hK hc i pins s σ H E I hf st hg
  subst hP hw hK
  obtain ⟨xs,hq,hx⟩:=hg
  obtain ⟨its,rv,p,hz⟩:=I.tuple hq
  obtain ⟨f0,f1,f2,f3,f4,f5⟩:=hf it (by simp)
  have hl:=rv.length
  exact wpAny_pyNext_tuple_end (I.ok.hd hc) st (show s.heap.IsTuple a its.toArray from p) (by simp;omega) fun h' eb=>⟨rfl,I.turned (t':=s.toks) (fun b o hb e=>eb b o hb e) f0 f1 f3 f4 f5⟩
 self:=fun _ _ _ _ _ st h=>wpAny_pyIter_tupleiter st h
theorem turn_range {P:Program} {w:World} {K:PySem.W.Frag} {tg:Expr} (it:Addr) (lo:Int) (n:Nat):Turn P w K tg (Itr lo n) [it] it (fun i h=>IsRangeIter h it (lo + (i:Nat) * 1) ((n:Int) - (i:Nat)) 1) where
 mem:=by simp
 obj:=fun i h st b hb=>by
  have e:b=it:=by simpa using hb
  subst e
  exact ⟨_,st,fun v z=>by
   have z':Data.fields _=Data.cell v:=z
   cases z'⟩
 keep:=fun i h h' st k=>k it (by simp) _ st
 item:=by
  intro X hP hw hK hc i pins s σ H E I hf st hg
  subst hP hw hK
  obtain ⟨f0,f1,f2,f3,f4,f5⟩:=hf it (by simp)
  have W:=Walks.range (prog:=X.prog) (w:=X.w) (I.ok.hd hc) it lo 1 n
  refine W.item i s _ _ hg st fun v h' tk hv st' kk=>?_
  obtain ⟨t,rfl⟩:=hv
  have I1:Inv X pins σ H { s with heap:=h',toks:=tk }:=I.turned (fun b o hb e=>kk b o (by simpa using hb) e) f0 f1 f3 f4 f5
  refine ⟨_,rfl,go_of (s:={ s with heap:=h',toks:=tk }) (n:="range_iterator") st' rfl rfl (by decide) ⟨.int (lo + i),H,I1,⟨t,?_⟩,⟨rfl,rfl⟩,st',fun b hb=>(hf b hb).1⟩⟩
  rw [Int.mul_one]
 done:=by
  intro X hP hw hK hc i pins s σ H E I hf st hg
  subst hP hw hK
  obtain ⟨f0,f1,f2,f3,f4,f5⟩:=hf it (by simp)
  exact wpAny_pyNext_range_end (I.ok.hd hc) st (by have:n≤i:=hg;omega) fun h' eb=>⟨rfl,I.turned (t':=s.toks) (fun b o hb e=>eb b o hb e) f0 f1 f3 f4 f5⟩
 self:=fun _ _ _ _ _ st h=>wpAny_pyIter_rangeiter st h
end L2
namespace L2
open PySem PySem.Spec PyProof.Rows
section
variable {X:Cx} {tg:Expr}
noncomputable def iList (K:PySem.W.Frag) (tl:TE):TI:=fun σ H R=>tl σ H fun x H1=>∃ a,x=.ref a∧(∃ xs,SqL K H1 a xs)∧R (Itl K a) H1
noncomputable def iTup (K:PySem.W.Frag) (tl:TE):TI:=fun σ H R=>tl σ H fun x H1=>∃ a,x=.ref a∧(∃ xs,SqT K H1 a xs)∧R (Itt K a) H1
theorem pi_list {l:Expr} {tl:TE} (hl:PE X l tl):PI X tg l (iList X.K tl):=by
 intro pins s σ H R I h
 refine thn (hl pins s σ H _ I h) fun v s1 ⟨x,H1,I1,r1,q1⟩=>?_
 obtain ⟨a,e,⟨xs,hq⟩,q⟩:=q1
 subst e
 cases r1
 obtain ⟨its,rv,p,hz⟩:=I1.list hq
 refine wpAny_pyIter_list p.isList ?_
 refine ⟨s1.heap.objs.size,[s1.heap.objs.size],_,_,H1,rfl,I1.kept (t':=s1.toks) fun b o e=>Heap.get?_push_of_some _ e,turn_list a _,⟨_,Heap.get?_push_size _ rfl,rfl,rfl⟩,fun b hb=>?_,q⟩
 have e:b=s1.heap.objs.size:=by simpa using hb
 subst e
 exact I1.fpOk (Nat.le_refl _) (I1.hok.fresh (Nat.le_refl _))
theorem pi_tup {l:Expr} {tl:TE} (hl:PE X l tl):PI X tg l (iTup X.K tl):=by
 intro pins s σ H R I h
 refine thn (hl pins s σ H _ I h) fun v s1 ⟨x,H1,I1,r1,q1⟩=>?_
 obtain ⟨a,e,⟨xs,hq⟩,q⟩:=q1
 subst e
 cases r1
 obtain ⟨its,rv,p,hz⟩:=I1.tuple hq
 refine wpAny_pyIter_tuple (show s1.heap.IsTuple a its.toArray from p) ?_
 refine ⟨s1.heap.objs.size,[s1.heap.objs.size],_,_,H1,rfl,I1.kept (t':=s1.toks) fun b o e=>Heap.get?_push_of_some _ e,turn_tuple a _,⟨_,Heap.get?_push_size _ rfl,rfl,rfl⟩,fun b hb=>?_,q⟩
 have e:b=s1.heap.objs.size:=by simpa using hb
 subst e
 exact I1.fpOk (Nat.le_refl _) (I1.hok.fresh (Nat.le_refl _))
theorem range_it {pins:List (Addr×Obj)} {σ:St} {H:Hp} {s:Shared} {R:It→Hp→Prop} {E:Value→Shared→Prop} {lo hi:Int} {t u v:Tok} {tk:Nat} (I:Inv X pins σ H s) (h1:-(2 ^ 62)≤lo) (h2:lo < 2 ^ 62) (h3:-(2 ^ 62)≤hi) (h4:hi < 2 ^ 62)
  (q:R (Itr lo (hi - lo).toNat) H):wpAny (model X.prog X.w) X.A (pyIter (.ref s.heap.objs.size)) (PIE X pins σ tg R) E { s with heap:=s.heap.push { cls:=.type "range",data:=.fields #[.int lo t,.int hi u,.int 1 v] },toks:=tk }:=by
 refine wpAny_pyIter_range (IsRange.new ..) (small_one h1 h2 h3 h4) ?_
 have I1:Inv X pins σ H { s with heap:=s.heap.push { cls:=.type "range",data:=.fields #[.int lo t,.int hi u,.int 1 v] },toks:=tk }:=I.kept fun b o e=>Heap.get?_push_of_some _ e
 refine ⟨(s.heap.push { cls:=.type "range",data:=.fields #[.int lo t,.int hi u,.int 1 v] }).objs.size,[(s.heap.push { cls:=.type "range",data:=.fields #[.int lo t,.int hi u,.int 1 v] }).objs.size],_,_,H,rfl,
  I1.kept (t':=tk) fun b o e=>Heap.get?_push_of_some _ e,turn_range _ lo (hi - lo).toNat,?_,fun b hb=>?_,q⟩
 ·have e1:lo + ((0:Nat):Int) * 1=lo:=by simp
  have e2:(((hi - lo).toNat:Nat):Int) - ((0:Nat):Int)=Builtin.Range.rangeSize lo hi 1:=by rw [rangeSize_one];split <;> omega
  show IsRangeIter _ _ (lo + ((0:Nat):Int) * 1) ((((hi - lo).toNat:Nat):Int) - ((0:Nat):Int)) 1
  rw [e1,e2]
  exact Heap.get?_push_size _ rfl
 ·have e:b=(s.heap.push { cls:=.type "range",data:=.fields #[.int lo t,.int hi u,.int 1 v] }).objs.size:=by simpa using hb
  subst e
  exact I1.fpOk (Nat.le_refl _) (I1.hok.fresh (Nat.le_refl _))
noncomputable def iRng1 (ta:TA):TI:=fun σ H R=>ta σ H fun vs H1=>∃ j:Int,vs=[.int j]∧-(2 ^ 62)≤j∧j < 2 ^ 62∧R (Itr 0 j.toNat) H1
theorem pi_range1 {a:Expr} {ta:TA} {p pos:Pos} (hg:Gl X "range") (hm:X.mg "range"=none) (ha:PA X [a] ta) (hs:starEach [a] X.env=[(false,eval a X.env)]:=by rfl):PI X tg (.Call (.Name "range" p) [a] [] pos) (iRng1 ta):=by
 intro pins s σ H R I h
 refine Call_ (ld_blt I hg hm boot_range (PyProof.Rows.callWith_type1 (thn (ha pos pins s σ H _ I h) fun us s1 ⟨vs,H1,I1,r1,q1⟩=>?_) hs rfl))
 obtain ⟨j,e,q1,q2,q⟩:=q1
 subst e
 cases r1 with
 | cons r rr=>
  cases rr
  obtain ⟨t,rfl⟩:=r
  exact call_range_1 (range_it I1 (by omega) (by omega) q1 q2 (by simpa using q))
noncomputable def tFor (wi:TI) (g:TG) (tb:TS):TS:=fun D σ H=>wi σ H fun J H1=>∃ W:Nat→Nat→St→Hp→Prop,(∃ m,W 0 m σ H1)∧∀ i m σ H,W i m σ H→
 (J.stop i H∧D.nx σ H)∨(J.go i H∧∃ N:St→Hp→Prop,(∀ σ' H',N σ' H'→∃ m',m' < m∧W (i + 1) m' σ' H')∧∀ x H',J.yld i H x H'→g x σ H' fun σ2 H2=>tb { D with nx:=N,ct:=N,bk:=D.nx } σ2 H2)
noncomputable def pinsAt (fp:List Addr) (h:Heap):List (Addr×Obj):=fp.filterMap fun b=>(h.get? b).map fun o=>(b,o)
theorem mem_pinsAt {fp:List Addr} {h:Heap} {b:Addr} {o:Obj} (hb:b∈fp) (e:h.get? b=some o):(b,o)∈pinsAt fp h:=List.mem_filterMap.mpr ⟨b,hb,by rw [e];rfl⟩
theorem of_pinsAt {fp:List Addr} {h:Heap} {p:Addr×Obj} (hp:p∈pinsAt fp h):p.1∈fp∧h.get? p.1=some p.2:=by
 obtain ⟨b,hb,e⟩:=List.mem_filterMap.mp hp
 cases q:h.get? b with
 | none=>rw [q] at e;cases e
 | some o=>
  rw [q] at e
  have e':(b,o)=p:=Option.some.inj e
  subst e'
  exact ⟨hb,q⟩
theorem Inv.pinned {pins:List (Addr×Obj)} {σ:St} {H:Hp} {s:Shared} {fp:List Addr} (I:Inv X pins σ H s) (hf:∀ b∈fp,FpOk X pins H b) (ho:∀ b∈fp,∃ o,s.heap.get? b=some o∧∀ v,o.data≠.cell v):Inv X (pins++pinsAt fp s.heap) σ H s:=
 I.pins_of fun p hp=>(List.mem_append.mp hp).elim (fun z=>I.pin p (List.mem_append_right _ z)) fun z=>by
  obtain ⟨hb,e⟩:=of_pinsAt z
  obtain ⟨f0,f1,f2,_⟩:=hf p.1 hb
  obtain ⟨o,e',d⟩:=ho p.1 hb
  rw [e] at e';cases e'
  exact ⟨e,f0,f1,f2,d⟩
theorem Inv.unpinned {pins pl:List (Addr×Obj)} {σ:St} {H:Hp} {s:Shared} (I:Inv X (pins++pl) σ H s):Inv X pins σ H s:=I.pins_of fun p hp=>I.pin p (List.mem_append_right _ (List.mem_append_left _ hp))
theorem ps_for {iter:Expr} {body:List Stmt} {wi:TI} {g:TG} {tb:TS} {pos:Pos} (hp:PassesOwn (model X.prog X.w) X.A X.env X.xe) (hc:X.calm=true) (hi:PI X tg iter wi) (hg:PG X tg g) (hb:PSs X body tb)
  (hs:∀ x,foldedSetIterable iter X.env x=pure x:=by intro _;rfl):PS X (.For tg iter body [] pos) (tFor wi g tb):=by
 intro pins s σ H D I h
 refine wpAny_For (thn (hi pins s σ H _ I h) fun v s1 h1=>thn h1 fun itv s2 h2=>?_) hs
 obtain ⟨it,fp,tn,J,H2,e,I2,T,st2,f2,W,⟨m0,w0⟩,turn⟩:=h2
 subst e
 have stat:∀ {H':Hp},(∀ b∈fp,H' b=none)→∀ b∈fp,FpOk X pins H' b:=fun hn b hb=>⟨hn b hb,(f2 b hb).2⟩
 refine codeAny_forLoop_any (fun n s'=>∃ i σ' H',Inv X pins σ' H' s'∧tn i s'.heap∧(∀ b∈fp,H' b=none)∧W i n σ' H') ?_ m0 ⟨0,σ,H2,I2,st2,fun b hb=>(f2 b hb).1,w0⟩
 rintro n s3 ⟨i,σ3,H3,I3,st3,fr3,w3⟩
 rcases turn i n σ3 H3 w3 with ⟨stop,qn⟩ | ⟨go,N,hN,step⟩
 ·refine wpAny_passesOwn hp (thn (T.done X rfl rfl rfl hc i pins s3 σ3 H3 X.xe I3 (stat fr3) st3 stop) fun r s4 ⟨hr,I4⟩=>?_)
  subst hr
  exact wpAny_execs_nil ⟨σ3,H3,I4,qn⟩
 ·refine wpAny_passesOwn hp (thn (T.item X rfl rfl rfl hc i pins s3 σ3 H3 X.xe I3 (stat fr3) st3 go) fun r s4 ⟨u,hr,h4⟩=>?_)
  subst hr
  refine wpAny_passesOwn hp (thn h4 fun _ s5 ⟨x,H5,I5,r5,y5,st5,fr5⟩=>?_)
  have I5':=I5.pinned (stat fr5) (T.obj _ _ st5)
  refine wpAny_passesOwn hp (thn (hg _ s5 σ3 H5 x u _ I5' r5 (step x H5 y5)) fun _ s6 ⟨σ6,H6,I6,q6⟩=>?_)
  refine wpAny_passesOwn hp (thn (hb _ s6 σ6 H6 _ I6 q6) fun f s7 q7=>?_)
  have again:∀ {σ7:St} {H7:Hp},Inv X (pins++pinsAt fp s5.heap) σ7 H7 s7→N σ7 H7→∃ m,m < n∧∃ i σ' H',Inv X pins σ' H' s7∧tn i s7.heap∧(∀ b∈fp,H' b=none)∧W i m σ' H':=fun {σ7 H7} I7 n7=>by
   obtain ⟨m',hm,w7⟩:=hN σ7 H7 n7
   refine ⟨m',hm,i + 1,σ7,H7,I7.unpinned,T.keep _ _ _ st5 fun b hb o e=>(I7.pin (b,o) (List.mem_append_right _ (List.mem_append_right _ (mem_pinsAt hb e)))).1,fun b hb=>?_,w7⟩
   obtain ⟨o,e,d⟩:=T.obj _ _ st5 b hb
   exact (I7.pin (b,o) (List.mem_append_right _ (List.mem_append_right _ (mem_pinsAt hb e)))).2.1
  cases f with
  | next=>obtain ⟨σ7,H7,I7,n7⟩:=q7;exact again I7 n7
  | cont=>obtain ⟨σ7,H7,I7,n7⟩:=q7;exact again I7 n7
  | brk=>obtain ⟨σ7,H7,I7,q7⟩:=q7;exact ⟨σ7,H7,I7.unpinned,q7⟩
  | ret v=>obtain ⟨x7,σ7,H7,I7,r7,q7⟩:=q7;exact ⟨x7,σ7,H7,I7.unpinned,r7,q7⟩
end
end L2
namespace L2
open PySem PySem.Spec PyProof.Rows
noncomputable abbrev R2:=V→V→Hp→VK→Prop
noncomputable def OpR (X:Cx) (f:Value→Value→Sem Value) (r:R2):Prop:=
 ∀ (pins:List (Addr×Obj)) (s:Shared) (σ:St) (H:Hp) (x y:V) (v u:Value) (Q:VK),Inv X pins σ H s→RelV x v→RelV y u→r x y H Q→
  wpAny (model X.prog X.w) X.A (f v u) (EP X pins σ Q) X.xe s
noncomputable def CallR (X:Cx) (f:Value) (r:List V→Hp→VK→Prop):Prop:=
 ∀ (pins:List (Addr×Obj)) (s:Shared) (σ:St) (H:Hp) (xs:List V) (us:List Value) (Q:VK),Inv X pins σ H s→Vals xs us→r xs H Q→
  wpAny (model X.prog X.w) X.A (call f us) (EP X pins σ Q) X.xe s
noncomputable def tOp (r:R2) (ta tb:TE):TE:=fun σ H Q=>ta σ H fun x H1=>tb σ H1 fun y H2=>r x y H2 Q
noncomputable def tUn (r:V→Hp→VK→Prop) (ta:TE):TE:=fun σ H Q=>ta σ H fun x H1=>r x H1 Q
noncomputable def rI (C:Int→Int→Prop) (g:Int→Int→V):R2:=fun x y H Q=>∃ i j,x=.int i∧y=.int j∧C i j∧Q (g i j) H
noncomputable def rI0 (g:Int→Int→V):R2:=fun x y H Q=>∃ i j,x=.int i∧y=.int j∧Q (g i j) H
section
variable {X:Cx} {a b c:Expr} {ta tb tc:TE} {pos:Pos}
theorem binT (ha:PE X a ta) (hb:PE X b tb) {pins:List (Addr×Obj)} {s:Shared} {σ:St} {H:Hp} {R:V→V→Hp→Prop} (I:Inv X pins σ H s)
  (h:ta σ H fun x H1=>tb σ H1 fun y H2=>R x y H2) {Q:Value→Shared→Prop} {f:Value→Value→Sem Value}
  (hf:∀ v u s2 x y H2,Inv X pins σ H2 s2→RelV x v→RelV y u→R x y H2→wpAny (model X.prog X.w) X.A (f v u) Q X.xe s2):
  wpAny (model X.prog X.w) X.A (eval a X.env) (fun v s₁=>wpAny (model X.prog X.w) X.A (eval b X.env) (fun u s₂=>wpAny (model X.prog X.w) X.A (f v u) Q X.xe s₂) X.xe s₁) X.xe s:=by
 refine thn (ha pins s σ H _ I h) fun v s1 ⟨x,H1,I1,r1,q1⟩=>?_
 refine thn (hb pins s1 σ H1 _ I1 q1) fun u s2 ⟨y,H2,I2,r2,q2⟩=>?_
 exact hf v u s2 x y H2 I2 r1 r2 q2
theorem pe_op {op:Operator} {r:R2} (ho:OpR X (binaryOp op) r) (ha:PE X a ta) (hb:PE X b tb):PE X (.BinOp a op b pos) (tOp r ta tb):=by
 intro pins s σ H Q I h
 exact wpAny_BinOp (binT ha hb I h fun v u s2 x y H2 I2 rx ry q=>ho pins s2 σ H2 x y v u Q I2 rx ry q)
theorem opI {f:Value→Value→Sem Value} {C:Int→Int→Prop} {g:Int→Int→Int}
  (rule:∀ (i j:Int) (t u:Tok) (s:Shared) (Q:Value→Shared→Prop) (E:Value→Shared→Prop),C i j→Q (.int (g i j) s.toks) { s with toks:=s.toks + 1 }→wpAny (model X.prog X.w) X.A (f (.int i t) (.int j u)) Q E s):
  OpR X f (rI C fun i j=>.int (g i j)):=by
 intro pins s σ H x y v u Q I rx ry h
 obtain ⟨i,j,rfl,rfl,hc,q⟩:=h
 obtain ⟨t,rfl⟩:=rx
 obtain ⟨t',rfl⟩:=ry
 exact rule i j t t' s _ _ hc ⟨.int (g i j),H,I.tok _,⟨_,rfl⟩,q⟩
theorem opI0 {f:Value→Value→Sem Value} {g:Int→Int→Int}
  (rule:∀ (i j:Int) (t u:Tok) (s:Shared) (Q:Value→Shared→Prop) (E:Value→Shared→Prop),Q (.int (g i j) s.toks) { s with toks:=s.toks + 1 }→wpAny (model X.prog X.w) X.A (f (.int i t) (.int j u)) Q E s):
  OpR X f (rI0 fun i j=>.int (g i j)):=by
 intro pins s σ H x y v u Q I rx ry h
 obtain ⟨i,j,rfl,rfl,q⟩:=h
 obtain ⟨t,rfl⟩:=rx
 obtain ⟨t',rfl⟩:=ry
 exact rule i j t t' s _ _ ⟨.int (g i j),H,I.tok _,⟨_,rfl⟩,q⟩
theorem opB0 {f:Value→Value→Sem Value} {g:Int→Int→Bool}
  (rule:∀ (i j:Int) (t u:Tok) (s:Shared) (Q:Value→Shared→Prop) (E:Value→Shared→Prop),Q (.bool (g i j)) s→wpAny (model X.prog X.w) X.A (f (.int i t) (.int j u)) Q E s):
  OpR X f (rI0 fun i j=>.bl (g i j)):=by
 intro pins s σ H x y v u Q I rx ry h
 obtain ⟨i,j,rfl,rfl,q⟩:=h
 obtain ⟨t,rfl⟩:=rx
 obtain ⟨t',rfl⟩:=ry
 exact rule i j t t' s _ _ ⟨.bl (g i j),H,I,rfl,q⟩
noncomputable def CMul (i j:Int):Prop:=(-(2 ^ 64) < i∧i < 2 ^ 64)∨(-(2 ^ 64) < j∧j < 2 ^ 64)
theorem CMul.ok {i j:Int} (h:CMul i j):IntMulOk i j:=by
 rcases h with ⟨h1,h2⟩ | ⟨h1,h2⟩
 ·exact .of_left (intBits_le_64 h1 h2)
 ·exact .of_right (intBits_le_64 h1 h2)
theorem op_add:OpR X (binaryOp .Add) (rI0 fun i j=>.int (i + j)):=opI0 fun _ _ _ _ _ _ _ q=>add_int q
theorem op_sub:OpR X (binaryOp .Sub) (rI0 fun i j=>.int (i - j)):=opI0 fun _ _ _ _ _ _ _ q=>sub_int q
theorem op_mul:OpR X (binaryOp .Mult) (rI CMul fun i j=>.int (i * j)):=opI fun _ _ _ _ _ _ _ hc q=>mul_int q hc.ok
theorem op_mod:OpR X (binaryOp .Mod) (rI (fun _ j=>0 < j) fun i j=>.int (i % j)):=opI fun i j _ _ _ _ _ hc q=>by
 have h1:(0:Int) < j:=hc
 exact mod_int' (by omega) (by rw [Int.fmod_eq_emod_of_nonneg i (by omega)];exact q)
end
section
variable {X:Cx} {a b c:Expr} {ta tb tc:TE} {pos:Pos}
theorem fin_bl {pins:List (Addr×Obj)} {σ:St} {H:Hp} {s:Shared} {Q:VK} {k k':Bool} (I:Inv X pins σ H s) (q:Q (.bl k) H) (e:k=k'):EP X pins σ Q (.bool k') s:=by
 subst e
 exact ⟨.bl k,H,I,rfl,q⟩
theorem op_lt:OpR X (compareOp .Lt) (rI0 fun i j=>.bl (decide (i < j))):=opB0 fun _ _ _ _ _ _ _ q=>lt_int q
theorem op_le:OpR X (compareOp .LtE) (rI0 fun i j=>.bl (decide (i≤j))):=opB0 fun _ _ _ _ _ _ _ q=>le_int q
theorem op_gt:OpR X (compareOp .Gt) (rI0 fun i j=>.bl (decide (j < i))):=opB0 fun _ _ _ _ _ _ _ q=>gt_int q
theorem op_ge:OpR X (compareOp .GtE) (rI0 fun i j=>.bl (decide (j≤i))):=opB0 fun _ _ _ _ _ _ _ q=>ge_int q
theorem op_isN:OpR X (compareOp .Is) (fun x y H Q=>y=.non∧Q (.bl (decide (x=.non))) H):=by
 intro pins s σ H x y v u Q I rx ry h
 obtain ⟨rfl,q⟩:=h
 cases ry
 refine is_none_gen (fin_bl I q ?_)
 cases x <;> first
  | (cases rx;rfl)
  | (obtain ⟨t,rfl⟩:=rx;rfl)
theorem op_notN:OpR X (compareOp .IsNot) (fun x y H Q=>y=.non∧Q (.bl (!decide (x=.non))) H):=by
 intro pins s σ H x y v u Q I rx ry h
 obtain ⟨rfl,q⟩:=h
 cases ry
 refine isnot_none_gen (fin_bl I q ?_)
 cases x <;> first
  | (cases rx;rfl)
  | (obtain ⟨t,rfl⟩:=rx;rfl)
theorem OpR.or {f:Value→Value→Sem Value} {r r':R2} (h:OpR X f r) (h':OpR X f r'):OpR X f (fun x y H Q=>r x y H Q∨r' x y H Q):=by
 intro pins s σ H x y v u Q I rx ry q
 rcases q with q | q
 ·exact h pins s σ H x y v u Q I rx ry q
 ·exact h' pins s σ H x y v u Q I rx ry q
theorem nomark (b:Expr) {op:CmpOp} (h:op≠.In:=by decide) (h2:op≠.NotIn:=by decide):behindInMarks op b=false:=by
 have e1:(op==CmpOp.In)=false:=by cases op <;> first | rfl | exact absurd rfl h
 have e2:(op==CmpOp.NotIn)=false:=by cases op <;> first | rfl | exact absurd rfl h2
 cases b <;> simp [behindInMarks,e1,e2]
theorem pe_cmpR {op:CmpOp} {r:R2} (ho:OpR X (compareOp op) r) (ha:PE X a ta) (hb:PE X b tb) (hm:behindInMarks op b=false):PE X (.Compare a [op] [b] pos) (tOp r ta tb):=by
 intro pins s σ H Q I h
 exact wpAny_Compare1 (binT ha hb I h fun v u s2 x y H2 I2 rx ry q=>ho pins s2 σ H2 x y v u Q I2 rx ry q) hm
noncomputable def tTest (t:TE):TT:=fun σ H Q=>t σ H fun x H'=>∃ k,x=.bl k∧Q k H'
theorem pt_cmpR {op:CmpOp} {r:R2} (ho:OpR X (compareOp op) r) (ha:PE X a ta) (hb:PE X b tb) (hm:behindInMarks op b=false):PT X (.Compare a [op] [b] pos) (tTest (tOp r ta tb)):=by
 intro pins s σ H Q I h
 refine wpAny_isTrue_Compare1 (thn (ha pins s σ H _ I h) fun v s1 ⟨x,H1,I1,r1,q1⟩=>thn (hb pins s1 σ H1 _ I1 q1) fun u s2 ⟨y,H2,I2,r2,q2⟩=>
  thn (ho pins s2 σ H2 x y v u _ I2 r1 r2 q2) fun c s3 ⟨z,H3,I3,r3,k,e,q3⟩=>?_) hm
 subst e
 cases r3
 exact wpAny_truthy_bool ⟨H3,I3,q3⟩
noncomputable def tChain (r r':R2) (ta tb tc:TE):TE:=fun σ H Q=>ta σ H fun x H1=>tb σ H1 fun y H2=>r x y H2 fun z H3=>∃ k,z=.bl k∧
 (if k=true then tc σ H3 fun w' H4=>r' y w' H4 Q else Q (.bl false) H3)
theorem pe_chain {op op':CmpOp} {r r':R2} (ho:OpR X (compareOp op) r) (ho':OpR X (compareOp op') r') (ha:PE X a ta) (hb:PE X b tb) (hc:PE X c tc)
  (hm:lastMarks [op,op'] [b,c]=false:=by with_unfolding_all rfl):PE X (.Compare a [op,op'] [b,c] pos) (tChain r r' ta tb tc):=by
 intro pins s σ H Q I h
 refine Compare_chain (thn (ha pins s σ H _ I h) fun v s1 ⟨x,H1,I1,r1,q1⟩=>chain_link (thn (hb pins s1 σ H1 _ I1 q1) fun u s2 ⟨y,H2,I2,r2,q2⟩=>
  thn (ho pins s2 σ H2 x y v u _ I2 r1 r2 q2) fun d s3 ⟨z,H3,I3,r3,k,e,q3⟩=>?_)) hm
 subst e
 cases r3
 refine wpAny_truthy_bool ?_
 cases k with
 | false=>exact ite_ff ⟨.bl false,H3,I3,rfl,q3⟩
 | true=>exact ite_tt (chain_last (thn (hc pins s3 σ H3 _ I3 q3) fun w' s4 ⟨z',H4,I4,r4,q4⟩=>ho' pins s4 σ H4 y z' u w' Q I4 r2 r4 q4))
theorem pt_chain {op op':CmpOp} {r r':R2} (ho:OpR X (compareOp op) r) (ho':OpR X (compareOp op') r') (ha:PE X a ta) (hb:PE X b tb) (hc:PE X c tc)
  (hm:lastMarks [op,op'] [b,c]=false:=by with_unfolding_all rfl):PT X (.Compare a [op,op'] [b,c] pos) (tTest (tChain r r' ta tb tc)):=by
 intro pins s σ H Q I h
 refine isTrue_chain (thn (ha pins s σ H _ I h) fun v s1 ⟨x,H1,I1,r1,q1⟩=>test_link (thn (hb pins s1 σ H1 _ I1 q1) fun u s2 ⟨y,H2,I2,r2,q2⟩=>
  thn (ho pins s2 σ H2 x y v u _ I2 r1 r2 q2) fun d s3 ⟨z,H3,I3,r3,k,e,q3⟩=>?_)) hm
 subst e
 cases r3
 refine wpAny_truthy_bool ?_
 cases k with
 | false=>
  obtain ⟨k',e',q'⟩:=q3
  cases e'
  exact ite_ff ⟨H3,I3,q'⟩
 | true=>
  refine ite_tt (test_last (thn (hc pins s3 σ H3 _ I3 q3) fun w' s4 ⟨z',H4,I4,r4,q4⟩=>thn (ho' pins s4 σ H4 y z' u w' _ I4 r2 r4 q4) fun d' s5 ⟨z2,H5,I5,r5,k2,e2,q5⟩=>?_))
  subst e2
  cases r5
  exact wpAny_truthy_bool ⟨H5,I5,q5⟩
theorem line63:(sizeLine:Nat) < 2 ^ 63:=by rw [sizeLine_eq];decide
theorem vals1 {x:V} {us:List Value} (r:Vals [x] us):∃ u,us=[u]∧RelV x u:=by
 cases r with
 | cons r1 r2=>cases r2;exact ⟨_,rfl,r1⟩
theorem call_int1:CallR X (.type "int") (fun xs H Q=>(∃ i,xs=[.int i]∧Q (.int i) H)∨∃ k,xs=[.bl k]∧Q (.int (if k then 1 else 0)) H):=by
 intro pins s σ H xs us Q I r h
 rcases h with ⟨i,rfl,q⟩ | ⟨k,rfl,q⟩
 ·obtain ⟨u,rfl,t,rfl⟩:=vals1 r
  exact call_int_int ⟨.int i,H,I,⟨_,rfl⟩,q⟩
 ·obtain ⟨u,rfl,r1⟩:=vals1 r
  cases r1
  exact call_int_bool ⟨.int (if k then 1 else 0),H,I.tok _,⟨_,rfl⟩,q⟩
end
end L2
namespace L2
open PySem PySem.Spec PyProof.Rows
structure ObjM (h:Heap) (x dx C:Addr) (mA:Str→Option Value):Prop where
 obj:h.get? x=some (PySem.W.instObj C dx)
 ns:h.Ns1 dx mA
 ne:dx≠x
theorem lookIn_ns {h:Heap} {dx:Addr} {mA:Str→Option Value} (n:h.Ns1 dx mA):∃ od,h.get? dx=some od∧∀ name,PySem.W.lookIn name od=some (mA name):=by
 obtain ⟨o,es,ep,ho,hd,hk,_,hm⟩:=n
 refine ⟨o,ho,fun name=>?_⟩
 have e:=hm name
 unfold nsFind findBy at e
 rw [←Array.find?_toList] at e
 unfold PySem.W.lookIn
 rw [hd]
 dsimp only
 split
 ·rename_i y q
  rw [q] at e
  exact congrArg some e
 ·rename_i q
  rw [q] at e
  have a:es.toList.any (·.refKey)=false:=by
   rw [List.any_eq_false]
   intro y hy
   obtain ⟨z,t,hkey⟩:=hk y (Array.mem_toList_iff.mp hy)
   simp [DictEntry.refKey,hkey]
  have a':¬es.toList.any (·.refKey)=true:=by rw [a];exact Bool.false_ne_true
  rw [if_neg a']
  exact congrArg some e
theorem ObjM.look {h:Heap} {x dx C:Addr} {mA:Str→Option Value} (I:ObjM h x dx C mA):∃ od,PySem.W.InstAt h x (PySem.W.instObj C dx) C (some od)∧∀ name,PySem.W.lookIn name od=some (mA name):=
 let ⟨od,ho,hl⟩:=lookIn_ns I.ns
 ⟨od,⟨I.obj,rfl,rfl,ho⟩,hl⟩
section
variable {prog:Program} {w:World} {A:Around} {E:Value→Shared→Prop} {s:Shared} {K:PySem.W.Frag} {x dx C f:Addr} {mA:Str→Option Value} {name:Str} {v:Value}
theorem set_map {ns:List Str} {Q:Unit→Shared→Prop} (X:K.In s.heap) (I:ObjM s.heap x dx C mA)
  (hs:PySem.W.findIn K (.ref C) "__setattr__"=some (some (.builtin "object.__setattr__"))) (hp:PySem.W.plainOver K C=true) (ht:PySem.W.takerIn K C name=some none) (hh:PySem.W.hasDictIn K C=true)
  (hw:PySem.Within mA ns) (hsz:ns.length≤sizeLine)
  (h:∀ h',ObjM h' x dx C (fun y=>if y=name then some v else mA y)→Heap.SameBut dx s.heap h'→Q () { s with heap:=h',toks:=s.toks + 2 }):
  wpAny (model prog w) A (setAttr (.ref x) name v) Q E s:=by
 obtain ⟨od,J,hl⟩:=I.look
 refine PySem.W.set_plain X J hs (PySem.W.osa_open (s:={ s with toks:=s.toks + 1 }) (r:=none) X J hp ht fun b=>?_)
 obtain ⟨cd,hc,hd'⟩:=PySem.W.any_some hh
 have hx:s.heap.get? x=some ⟨.ref C,some dx,.plain,#[]⟩:=I.obj
 refine wpAny_bind (wpAny_pure (wpAny_bind (wpAny_bind (wpAny_loadPart hx (wpAny_bind (PySem.W.Looks.here (s:={ s with toks:=s.toks + 1 }) (PySem.W.looks_clsIn X hc) ?_))))))
 rw [hd']
 refine wpAny_pure (a:=some dx) (wpAny_bind (wpAny_pure (wpAny_bind ?_)))
 refine wpAny_nsSet1 (s:={ s with toks:=s.toks + 1 }) I.ns fun h' hn2 hs2=>?_
 obtain ⟨oD,esD,epD,hoD,hdD,hcD⟩:=hn2.count (PySem.Within.cons name v hw)
 refine wpAny_bind (wpAny_lookBehind hoD (by rw [hdD];exact pastItsLine_dict (Nat.le_trans hcD (by rw [List.length_cons];omega))) ?_)
 exact wpAny_pure (h _ ⟨(hs2.2 _ (Ne.symm I.ne)).trans I.obj,hn2,I.ne⟩ hs2)
end
theorem RelO.some_of {v:V} {o:Option Value} (r:RelO (some v) o):∃ u,o=some u∧RelV v u:=by
 cases o with
 | none=>exact (show False from r).elim
 | some u=>exact ⟨u,rfl,r⟩
theorem RelO.none_of {o:Option Value} (r:RelO none o):o=none:=by
 cases o with
 | none=>rfl
 | some u=>exact (show False from r).elim
section
variable {P:Program} {w:World} {H H':Hp} {h h':Heap} {a C dx:Addr} {fs fs':List (Str×V)}
theorem ins_get (hok:HOk P w H h) (e:H a=some (.ins C dx fs)):∃ mA,ObjM h a dx C mA∧(∀ f,RelO (fs.lookup f) (mA f))∧PySem.Within mA (fs.map (·.1))∧fs.length≤1000∧H dx=some (.own a):=by
 obtain ⟨d,z,ne,ob,mA,n,r,q⟩:=(show ObjOk P w H h a (.ins C dx fs) from hok a _ e)
 exact ⟨mA,⟨ob,n,ne⟩,r,q,z,d⟩
end
structure Cls (K:PySem.W.Frag) (C:Addr):Prop where
 pg:PySem.W.plainGet K C Str.empty=true
 hd:PySem.W.hasDictIn K C=true
 po:PySem.W.plainOver K C=true
 sa:PySem.W.findIn K (.ref C) "__setattr__"=some (some (.builtin "object.__setattr__"))
theorem Cls.get {K:PySem.W.Frag} {C:Addr} (c:Cls K C) (f:Str):PySem.W.plainGet K C f=true:=c.pg
structure Con (K:PySem.W.Frag) (C:Addr) (f:Str) (v:V) (u:Value):Prop where
 at_:PySem.W.findIn K (.ref C) f=some (some u)
 rel:RelV v u
 get:PySem.W.specialIn K u "__get__"=some none
 cp:PySem.W.copiedNames.contains f=false
structure Meth (K:PySem.W.Frag) (C:Addr) (m:Str) (f:Addr):Prop where
 at_:PySem.W.findIn K (.ref C) m=some (some (.ref f))
 fn:PySem.W.isFn K (.ref f)=true
 kp:PySem.W.keepIn K (.ref f)=true
section
variable {X:Cx} {pins:List (Addr×Obj)} {σ:St} {H:Hp} {s:Shared} {a C dx:Addr} {fs:List (Str×V)} {f:Str} {v:V} {A:Around} {E:Value→Shared→Prop}
theorem Inv.made (I:Inv X pins σ H s):Inv X pins σ (upd (upd H s.heap.objs.size (.own (s.heap.objs.size + 1))) (s.heap.objs.size + 1) (.ins C s.heap.objs.size []))
  { s with heap:=(s.heap.push PySem.W.emptyDict).push (PySem.W.instObj C s.heap.objs.size) }:=by
 have e1:(s.heap.push PySem.W.emptyDict).get? s.heap.objs.size=some PySem.W.emptyDict:=Heap.get?_push_size s.heap rfl
 have e2:((s.heap.push PySem.W.emptyDict).push (PySem.W.instObj C s.heap.objs.size)).get? (s.heap.objs.size + 1)=some (PySem.W.instObj C s.heap.objs.size):=by
  have:=Heap.get?_push_size (s.heap.push PySem.W.emptyDict) (o:=PySem.W.instObj C s.heap.objs.size) rfl
  rwa [Heap.size_push] at this
 have e3:(s.heap.push PySem.W.emptyDict).Ns s.heap.objs.size (fun _=>none):=⟨PySem.W.emptyDict,#[],_,e1,rfl,(fun e he=>absurd he (by simp)),fun _=>rfl⟩
 have I1:=I.laid (a:=s.heap.objs.size) (o:=.own (s.heap.objs.size + 1)) (h':=s.heap.push PySem.W.emptyDict) (t':=s.toks) (fun b u q=>Heap.get?_push_of_some _ q) (Nat.le_refl _) ⟨_,e1⟩
 refine I1.laid (a:=s.heap.objs.size + 1) (o:=.ins C s.heap.objs.size []) (t':=s.toks) (fun b u q=>Heap.get?_push_of_some _ q) (Nat.le_of_eq (Heap.size_push _ _)) ?_
 have ne:s.heap.objs.size≠s.heap.objs.size + 1:=Nat.ne_of_lt (Nat.lt_succ_self _)
 refine ⟨by rw [upd_ne ne,upd_same],Nat.zero_le _,ne,e2,fun _=>none,(Heap.Ns1.of_empty e3).at fun o q=>Heap.get?_push_of_some _ q,fun _=>True.intro,fun y hy=>absurd rfl hy⟩
end
section
variable {X:Cx} {o e value:Expr} {f:Str} {pos pos' tpos:Pos} {ta tv:TE}
end
section
variable {X:Cx} {pins:List (Addr×Obj)} {σ:St} {H:Hp} {s:Shared} {A:Around} {E:Value→Shared→Prop} {Q:Value→Shared→Prop} {c:Value} {b:Bool}
inductive TyOf (K:PySem.W.Frag) (H:Hp):V→Value→Prop where
 | non:TyOf K H .non (.type "NoneType")
 | bl (x:Bool):TyOf K H (.bl x) (.type "bool")
 | int (i:Int):TyOf K H (.int i) (.type "int")
 | str (x:Str):TyOf K H (.str x) (.type "str")
 | flt (x:UInt64):TyOf K H (.flt x) (.type "float")
 | lst {a:Addr} {xs:List V} (e:H a=some (.lst xs)):TyOf K H (.ref a) (.type "list")
 | frz {a:Addr} {o:Obj} {xs:List V} (e:H a=some (.frz o (.lst xs))):TyOf K H (.ref a) (.type "list")
 | tup {a:Addr} {xs:List V} (e:H a=some (.tup xs)):TyOf K H (.ref a) (.type "tuple")
 | dK {a:Addr} {kvs:List (Key×V)} (e:H a=some (.dK kvs)):TyOf K H (.ref a) (.type "dict")
 | dT {a:Addr} {kvs:List (List Key×V)} (e:H a=some (.dT kvs)):TyOf K H (.ref a) (.type "dict")
 | ins {a C dx:Addr} {fs:List (Str×V)} (e:H a=some (.ins C dx fs)) (cl:Cls K C) (ha:PySem.W.findIn K (.ref C) "__class__"=some (some (.builtin "object.__class__")))
   (hn:PySem.W.specialIn K (.builtin "object.__class__") "__get__"=some (some (.builtin "getset_descriptor.__get__"))) (htk:PySem.W.takesIn K (.builtin "object.__class__")=some true)
   (hm:PySem.W.mroIn K C (.type "object")=some true):TyOf K H (.ref a) (.ref C)
theorem isinst_ok {x:V} {u t:Value} (I:Inv X pins σ H s) (rx:RelV x u) (ty:TyOf X.K H x t) (e:PySem.W.kitOne X.K t c=some b) (h:∀ tk,Q (.bool b) { s with toks:=tk }):
  wpAny (model X.prog X.w) A (call (.builtin "isinstance") [u,c]) Q E s:=by
 cases ty with
 | non=>cases (show u=Value.none from rx);exact PySem.W.kia_one PySem.W.kitx_none I.kIn True.intro e (fun z=>nomatch z) h
 | bl y=>cases (show u=Value.bool y from rx);exact PySem.W.kia_one PySem.W.kitx_bool I.kIn True.intro e (fun z=>nomatch z) h
 | int i=>obtain ⟨t,q⟩:=(show ∃ t,u=Value.int i t from rx);cases q;exact PySem.W.kia_one PySem.W.kitx_int I.kIn True.intro e (fun z=>nomatch z) h
 | str y=>obtain ⟨t,q⟩:=(show ∃ t,u=Value.str y t from rx);cases q;exact PySem.W.kia_one PySem.W.kitx_str I.kIn True.intro e (fun z=>nomatch z) h
 | flt y=>obtain ⟨t,q⟩:=(show ∃ t,u=Value.float y t from rx);cases q;exact PySem.W.kia_one PySem.W.kitx_float I.kIn True.intro e (fun z=>nomatch z) h
 | @lst a xs ea=>
  cases (show u=Value.ref a from rx)
  obtain ⟨_,_,n,_,h1⟩:=(show ObjOk X.prog X.w H s.heap a (.lst xs) from I.hok a _ ea)
  exact PySem.W.kia_one PySem.W.kitx_list I.kIn ⟨_,h1,rfl⟩ e (fun z=>nomatch z) h
 | @frz a ob xs ea=>
  cases (show u=Value.ref a from rx)
  obtain ⟨_,_,_,n,_,h1⟩:=(show ObjOk X.prog X.w H s.heap a (.frz ob (.lst xs)) from I.hok a _ ea)
  exact PySem.W.kia_one PySem.W.kitx_list I.kIn ⟨_,h1,rfl⟩ e (fun z=>nomatch z) h
 | @tup a xs ea=>
  cases (show u=Value.ref a from rx)
  obtain ⟨_,_,_,p⟩:=(show ObjOk X.prog X.w H s.heap a (.tup xs) from I.hok a _ ea)
  obtain ⟨o,h1,h2,_⟩:=p.1
  exact PySem.W.kia_one PySem.W.kitx_tuple I.kIn ⟨o,h1,h2⟩ e (fun z=>nomatch z) h
 | @dK a kvs ea=>
  cases (show u=Value.ref a from rx)
  obtain ⟨_,_,vs,_,p⟩:=(show ObjOk X.prog X.w H s.heap a (.dK kvs) from I.hok a _ ea)
  obtain ⟨o,es,ep,h1,h2,_⟩:=p
  exact PySem.W.kia_one PySem.W.kitx_dict I.kIn ⟨o,h1,h2.1⟩ e (fun z=>nomatch z) h
 | @dT a kvs ea=>
  cases (show u=Value.ref a from rx)
  obtain ⟨_,_,xs,_,o,es,ep,h1,h2,_⟩:=(show ObjOk X.prog X.w H s.heap a (.dT kvs) from I.hok a _ ea)
  exact PySem.W.kia_one PySem.W.kitx_dict I.kIn ⟨o,h1,h2.1⟩ e (fun z=>nomatch z) h
 | @ins a C dx fs ea cl ha hn htk hm=>
  cases (show u=Value.ref a from rx)
  obtain ⟨mA,O,_⟩:=ins_get I.hok ea
  obtain ⟨od,J,_⟩:=O.look
  exact PySem.W.kia_one (PySem.W.kitx_own (cl.get _) cl.hd ha hn htk hm) I.kIn J e (fun z=>nomatch z) h
end
end L2
namespace L2
open PySem PySem.Spec PyProof.Rows
structure Room (k:Nat) (A:Around):Prop where
 hd:A.handled=none
 dp:A.depth + 3 * k + 5 < recursionLimit
 un:A.units + 16 * k + 200 < cLine
theorem Room.mono {j k:Nat} {A:Around} (r:Room k A) (h:j≤k):Room j A:=⟨r.hd,by have:=r.dp;omega,by have:=r.un;omega⟩
theorem Room.deeper {k:Nat} {A:Around} (r:Room (k + 1) A) (env:Env):Room k (A.deeper env):=
 ⟨r.hd,by have:=r.dp;show A.depth + 1 + 3 * k + 5 < _;omega,by have:=r.un;show A.units + 3 + 16 * k + 200 < _;omega⟩
theorem Room.in1 {k:Nat} {A:Around} (r:Room (k + 1) A):Room k A.in1:=
 ⟨r.hd,by have:=r.dp;show A.depth + 3 * k + 5 < _;omega,by have:=r.un;show A.units + 1 + 16 * k + 200 < _;omega⟩
theorem Room.depth {k:Nat} {A:Around} (r:Room k A):A.depth < recursionLimit:=by have:=r.dp;omega
theorem Room.units {k:Nat} {A:Around} (r:Room k A):A.units + 64 < cLine:=by have:=r.un;omega
theorem Room.units0 {k:Nat} {A:Around} (r:Room k A):A.units < cLine:=by have:=r.un;omega
noncomputable def tNil:TA:=fun _ H Q=>Q [] H
noncomputable def tCons (ta:TE) (tr:TA):TA:=fun σ H Q=>ta σ H fun x H1=>tr σ H1 fun xs H2=>Q (x::xs) H2
section
variable {X:Cx} {e:Expr} {es:List Expr} {te:TE} {t:TA} {pos:Pos}
theorem pa_nil:PA X [] tNil:=fun _ _ _ _ H Q I h=>Calls.spliced_nil ⟨[],H,I,.nil,h⟩
theorem pa_cons (ha:PE X e te) (hr:PA X es t) (hs:starEach (e::es) X.env=(false,eval e X.env)::starEach es X.env:=by rfl):PA X (e::es) (tCons te t):=by
 intro pos pins s σ H Q I h
 rw [hs]
 show wpAny _ _ (spliced ((false,eval e X.env)::backTo pos (starEach es X.env))) _ _ s
 refine Calls.spliced_cons (thn (ha pins s σ H _ I h) fun u s1 ⟨x,H1,I1,r1,q1⟩=>?_)
 exact thn (hr pos pins s1 σ H1 _ I1 q1) fun us s2 ⟨xs,H2,I2,r2,q2⟩=>⟨x::xs,H2,I2,.cons r1 r2,q2⟩
noncomputable def tTup (t:TA):TE:=fun σ H Q=>t σ H fun xs H1=>xs.length≤sizeLine∧∀ p,H1 p=none→Q (.ref p) (upd H1 p (.tup xs))
noncomputable def tLst (t:TA):TE:=fun σ H Q=>t σ H fun xs H1=>xs.length≤sizeLine∧∀ p,H1 p=none→Q (.ref p) (upd H1 p (.lst xs))
theorem pe_tup {x1} (h:PA X es t):PE X (.Tuple es x1 pos) (tTup t):=by
 intro pins s σ H Q I hq
 refine wpAny_Tuple_spliced (thn (h pos pins s σ H _ I hq) fun us s1 ⟨xs,H1,I1,r,z,q⟩=>⟨by rw [←r.length];exact z,?_⟩)
 have hf:H1 s1.heap.objs.size=none:=I1.hok.fresh (Nat.le_refl _)
 refine ⟨.ref s1.heap.objs.size,upd H1 s1.heap.objs.size (.tup xs),I1.laid (t':=s1.toks) (fun b u e=>Heap.get?_push_of_some _ e) (Nat.le_refl _) ?_,rfl,q _ hf⟩
 exact ⟨z,us,r,⟨_,Heap.get?_push_size _ rfl,rfl,_,rfl⟩,_,Heap.get?_push_size _ rfl,rfl⟩
theorem pe_lst (h:PA X es t):PE X (.List es pos) (tLst t):=by
 intro pins s σ H Q I hq
 refine wpAny_List_spliced (thn (h pos pins s σ H _ I hq) fun us s1 ⟨xs,H1,I1,r,z,q⟩=>⟨by rw [←r.length];exact z,?_⟩)
 have hf:H1 s1.heap.objs.size=none:=I1.hok.fresh (Nat.le_refl _)
 refine ⟨.ref s1.heap.objs.size,upd H1 s1.heap.objs.size (.lst xs),I1.laid (t':=s1.toks) (fun b u e=>Heap.get?_push_of_some _ e) (Nat.le_refl _) ?_,rfl,q _ hf⟩
 exact ⟨z,us,0,r,Heap.get?_push_size _ rfl⟩
end
noncomputable abbrev Sp:=List V→Hp→VK→XK→Prop
noncomputable abbrev CXT:=List Env→Hp→Shared→XK→Value→Shared→Prop
structure Env0 (P:Program) (w:World) (K:PySem.W.Frag) (mg:Str→Option Value) (base:Heap) (A:Around) (outer:List Env) (s:Shared) (H:Hp):Prop where
 frames:A.frames=some outer
 mod:Mod K mg base
 bs:∀ b o,base.get? b=some o→s.heap.get? b=some o∧H b=none
 bsz:base.objs.size≤s.heap.objs.size
 funs:s.heap.FunFrames base outer
 frf:∀ b∈frs outer,H b=none
 hok:HOk P w H s.heap
 bare:AllBare s.gens
noncomputable def CE (outer:List Env) (P:Program) (w:World) (H:Hp) (s:Shared) (Q:VK) (u:Value) (s':Shared):Prop:=
 ∃ v H',s'.os=s.os∧AllBare s'.gens∧Un (frs outer) [] H H' s.heap s'.heap∧HOk P w H' s'.heap∧RelV v u∧Q v H'
noncomputable def CR (CX:CXT) (outer:List Env) (P:Program) (w:World) (H:Hp) (s:Shared) (Q:VK) (E:XK) (r:Result) (s':Shared):Prop:=
 match r with
 | .ok (.ret u)=>CE outer P w H s Q u s'
 | .ok _=>False
 | .error e=>CX outer H s E e s'
structure FnOk (P:Program) (w:World) (K:PySem.W.Frag) (mg:Str→Option Value) (base:Heap) (CX:CXT) (k:Nat) (f:Addr) (fd:FuncData) (ps:List Str) (sp:Sp):Prop where
 len:∀ vs H Q E,sp vs H Q E→vs.length=ps.length
 run:∀ (A:Around) (outer:List Env) (s:Shared) (H:Hp) (args:Args) (us:List Value) (vs:List V) (Q:VK) (E:XK),Room k A→Env0 P w K mg base A outer s H→BindsTo s fd args (ps.zip us)→Vals vs us→sp vs H Q E→
  codeAny (model P w) A (.call (.ref f) args) (CR CX outer P w H s Q E) s
theorem FnOk.mono {P:Program} {w:World} {K:PySem.W.Frag} {mg:Str→Option Value} {base:Heap} {CX:CXT} {j k:Nat} {f:Addr} {fd:FuncData} {ps:List Str} {sp:Sp} (F:FnOk P w K mg base CX j f fd ps sp) (h:j≤k):
  FnOk P w K mg base CX k f fd ps sp:=⟨F.len,fun A outer s H args us vs Q E hr=>F.run A outer s H args us vs Q E (hr.mono h)⟩
theorem FnOk.imp {P:Program} {w:World} {K:PySem.W.Frag} {mg:Str→Option Value} {base:Heap} {CX:CXT} {k:Nat} {f:Addr} {fd:FuncData} {ps:List Str} {sp sp':Sp} (F:FnOk P w K mg base CX k f fd ps sp)
  (h:∀ vs H Q E,sp' vs H Q E→sp vs H Q E):FnOk P w K mg base CX k f fd ps sp':=
 ⟨fun vs H Q E q=>F.len vs H Q E (h _ _ _ _ q),fun A outer s H args us vs Q E hr he hb hv hs=>F.run A outer s H args us vs Q E hr he hb hv (h _ _ _ _ hs)⟩
theorem Env0.in1 {P:Program} {w:World} {K:PySem.W.Frag} {mg:Str→Option Value} {base:Heap} {A:Around} {outer:List Env} {s:Shared} {H:Hp} (e:Env0 P w K mg base A outer s H):
  Env0 P w K mg base A.in1 outer s H:=⟨e.frames,e.mod,e.bs,e.bsz,e.funs,e.frf,e.hok,e.bare⟩
section
variable {X:Cx} {pins:List (Addr×Obj)} {σ:St} {H:Hp} {s s':Shared}
theorem Inv.env0 (I:Inv X pins σ H s):Env0 X.prog X.w X.K X.mg X.base X.A X.stack s H:=
 ⟨I.ok.frames,I.ok.mod,I.bs,Nat.le_trans I.ok.bsz I.sz,I.stack,I.stkFree,I.hok,I.bare⟩
theorem Inv.after {Q:VK} {u:Value} (I:Inv X pins σ H s) (h:CE X.stack X.prog X.w H s Q u s'):EP X pins σ Q u s':=by
 obtain ⟨v,H',os,bare,un,hok,r,q⟩:=h
 obtain ⟨hh,g,d,t,os'⟩:=s'
 obtain rfl:os'=s.os:=os
 exact ⟨v,H',I.call (h':=hh) (g':=g) (d':=d) (t':=t) (ch:=[]) un hok bare (fun b z=>absurd z (by simp)),r,q⟩
end
noncomputable def tCall (sp:Sp) (dvs:List V) (E:XK) (t:TA):TE:=fun σ H Q=>t σ H fun vs H1=>sp (vs++dvs) H1 Q E
noncomputable def Binds (K:PySem.W.Frag) (fd:FuncData) (ps:List Str) (ds:List Value):Prop:=
 ∀ (s:Shared) (us:List Value),K.In s.heap→(us++ds).length=ps.length→BindsTo s fd ⟨us,[]⟩ (ps.zip (us++ds))
theorem Binds.all {K:PySem.W.Frag} {fd:FuncData} {ps:List Str} (h:∀ us:List Value,us.length=ps.length→bindArgs fd ⟨us,[]⟩=pure (ps.zip us)):Binds K fd ps []:=fun s us _ hl=>by
 rw [List.append_nil] at hl ⊢
 exact .of_eq (h us hl)
noncomputable def Passes (CX:CXT) (X:Cx) (E:XK):Prop:=∀ (pins:List (Addr×Obj)) (σ:St) (H:Hp) (s:Shared) (e:Value) (s':Shared),Inv X pins σ H s→CX X.stack H s E e s'→X.xe e s'
section
variable {X:Cx} {CX:CXT} {k:Nat} {f C:Addr} {fd:FuncData} {ps:List Str} {sp:Sp} {dvs:List V} {ds:List Value} {E:XK} {x m:Str} {p pos apos:Pos} {e o:Expr} {es:List Expr} {ta:TE} {t:TA}
theorem run_fn {pins:List (Addr×Obj)} {σ:St} {H:Hp} {s:Shared} {Q:VK} {us:List Value} {vs:List V} (F:FnOk X.prog X.w X.K X.mg X.base CX k f fd ps sp) (hr:Room k X.A) (hb:Binds X.K fd ps ds) (hd:Vals dvs ds) (hx:Passes CX X E)
  (I:Inv X pins σ H s) (r:Vals vs us) (h:sp (vs++dvs) H Q E):wpAny (model X.prog X.w) X.A (call (.ref f) us) (EP X pins σ Q) X.xe s:=by
 have r2:Vals (vs++dvs) (us++ds):=r.append hd
 have hl:(us++ds).length=ps.length:=by rw [←r2.length];exact F.len _ _ _ _ h
 refine wpAny_call (codeAny_mono (F.run X.A X.stack s H ⟨us,[]⟩ (us++ds) (vs++dvs) Q E hr I.env0 (hb s us I.kIn hl) r2 h) fun r s' hq=>?_)
 cases r with
 | error e=>exact hx pins σ H s e s' I hq
 | ok fl=>
  cases fl with
  | ret u=>exact I.after hq
  | next=>exact False.elim hq
  | brk=>exact False.elim hq
  | cont=>exact False.elim hq
theorem pe_call (F:FnOk X.prog X.w X.K X.mg X.base CX k f fd ps sp) (hr:Room k X.A) (hg:Gl X x) (hm:X.mg x=some (.ref f)) (hk:PySem.W.keepIn X.K (.ref f)=true) (hb:Binds X.K fd ps ds) (hd:Vals dvs ds) (hx:Passes CX X E)
  (ha:PA X (e::es) t) (hdb:(x==("__debug__":Str))=false:=by decide) (he:starEach (e::es) X.env=(false,eval e X.env)::starEach es X.env:=by rfl) (hpl:(backTo pos (starEach es X.env)).any (·.1)=false:=by rfl):
  PE X (.Call (.Name x p) (e::es) [] pos) (tCall sp dvs E t):=by
 intro pins s σ H Q I h
 refine wpAny_Call_Name_kw (ld_glob I hg hm ?_ hdb)
 refine PySem.W.callWith_K (h₀:=X.base) I.ok.mod.kin hk (thn (ha pos pins s σ H _ I h) fun us s1 ⟨vs,H1,I1,r,q⟩=>⟨I1.kIn,?_⟩) he hpl
 exact run_fn F hr hb hd hx I1 r q
structure Mk (K:PySem.W.Frag) (C f:Addr):Prop where
 makes:PySem.W.makesIn K C=true
 init:PySem.W.findIn K (.ref C) "__init__"=some (some (.ref f))
 fn:PySem.W.isFn K (.ref f)=true
 kp:PySem.W.keepIn K (.ref C)=true
end
section
variable {X:Cx} {CX:CXT} {k:Nat} {f C:Addr} {fd:FuncData} {ps ks:List Str} {sp:Sp} {E:XK} {x m:Str} {p pos apos kpos:Pos} {e o:Expr} {es:List Expr} {kws:List Keyword} {te ta:TE} {t tk:TA} {nm:Option Str}
structure KBinds (K:PySem.W.Frag) (fd:FuncData) (ps ks:List Str) (g:List Value→List Value→List Value) (gV:List V→List V→List V):Prop where
 to:∀ (s:Shared) (us ws:List Value),K.In s.heap→(g us ws).length=ps.length→BindsTo s fd ⟨us,ks.zip ws⟩ (ps.zip (g us ws))
 rel:∀ {vs:List V} {us:List Value} {zs:List V} {ws:List Value},Vals vs us→Vals zs ws→Vals (gV vs zs) (g us ws)
variable {g:List Value→List Value→List Value} {gV:List V→List V→List V}
end
structure FnScope (N P:List Str) (sc:Scope):Prop where
 kind:sc.kind=.function
 co:sc.isCoroutine=false
 gen:sc.isGenerator=false
 nd:N.Nodup
 pre:N.take P.length=P
 par:∀ x∈P,sc.names.lookup x=some .local∨sc.names.lookup x=some .cell
 nofree:∀ y∈sc.names,y.2≠.free
theorem bindL_out {kindOf:Str→Option NameKind} {x:Str}:∀ {binds:List (Str×Value)} {m:Str→Option Value},(∀ v,(x,v)∉binds)→bindL kindOf binds m x=m x
 | [],_,_=>rfl
 | (n,v)::r,m,h=>by
  unfold bindL
  rw [bindL_out fun w hw=>h w (List.mem_cons_of_mem _ hw)]
  split
  ·have:x≠n:=by rintro rfl;exact h v List.mem_cons_self
   simp [this]
  ·rfl
theorem bindC_out {kindOf:Str→Option NameKind} {x:Str}:∀ {binds:List (Str×Value)} {m:Str→Option Value},(∀ v,(x,v)∉binds)→bindC kindOf binds m x=m x
 | [],_,_=>rfl
 | (n,v)::r,m,h=>by
  unfold bindC
  rw [bindC_out fun w hw=>h w (List.mem_cons_of_mem _ hw)]
  split
  ·rfl
  ·have:x≠n:=by rintro rfl;exact h v List.mem_cons_self
   simp [this]
theorem bindL_get {kindOf:Str→Option NameKind} {x:Str} {v:Value}:∀ {P:List Str} {vs:List Value} {i:Nat} {m:Str→Option Value},P.Nodup→P[i]? =some x→vs[i]? =some v→kindOf x=some .local→
  bindL kindOf (P.zip vs) m x=some v
 | [],_,_,_,_,h,_,_=>by simp at h
 | _::_,[],_,_,_,_,h,_=>by simp at h
 | p::P,w::vs,0,m,nd,h1,h2,hk=>by
  simp at h1 h2;subst h1;subst h2
  show bindL kindOf ((p,w)::P.zip vs) m p=_
  unfold bindL
  rw [bindL_out fun v hv=>(List.nodup_cons.mp nd).1 (List.of_mem_zip hv).1,if_pos hk]
  simp
 | p::P,w::vs,i + 1,m,nd,h1,h2,hk=>by
  show bindL kindOf ((p,w)::P.zip vs) m x=_
  unfold bindL
  exact bindL_get (i:=i) (List.nodup_cons.mp nd).2 (by simpa using h1) (by simpa using h2) hk
theorem bindC_get {kindOf:Str→Option NameKind} {x:Str} {v:Value}:∀ {P:List Str} {vs:List Value} {i:Nat} {m:Str→Option Value},P.Nodup→P[i]? =some x→vs[i]? =some v→kindOf x≠some .local→
  bindC kindOf (P.zip vs) m x=some v
 | [],_,_,_,_,h,_,_=>by simp at h
 | _::_,[],_,_,_,_,h,_=>by simp at h
 | p::P,w::vs,0,m,nd,h1,h2,hk=>by
  simp at h1 h2;subst h1;subst h2
  show bindC kindOf ((p,w)::P.zip vs) m p=_
  unfold bindC
  rw [bindC_out fun v hv=>(List.nodup_cons.mp nd).1 (List.of_mem_zip hv).1,if_neg hk]
  simp
 | p::P,w::vs,i + 1,m,nd,h1,h2,hk=>by
  show bindC kindOf ((p,w)::P.zip vs) m x=_
  unfold bindC
  exact bindC_get (i:=i) (List.nodup_cons.mp nd).2 (by simpa using h1) (by simpa using h2) hk
noncomputable def start (N:List Str) (vs:List V):St:=vs.map some++List.replicate (N.length - vs.length) none
noncomputable def cxOf (CX:CXT) (P:Program) (w:World) (K:PySem.W.Frag) (mg:Str→Option Value) (base:Heap) (N:List Str) (qual:Str) (scope:Scope) (f:Addr) (cd:Value) (A:Around) (outer:List Env) (s:Shared) (H:Hp) (E:XK):Cx where
 prog:=P
 w:=w
 K:=K
 mg:=mg
 base:=base
 A:=A.deeper (envOfC qual scope s.heap.objs.size f cd)
 N:=N
 s₀:=s
 H₀:=H
 env:=envOfC qual scope s.heap.objs.size f cd
 outer:=outer
 stack:=envOfC qual scope s.heap.objs.size f cd::outer
 ex:=[]
 calm:=true
 fn:=fun _=>true
 pn:=[]
 xe:=fun e s'=>wpAny (model P w) (A.deeper (envOfC qual scope s.heap.objs.size f cd)) (leaving (envOfC qual scope s.heap.objs.size f cd) e) (fun _ s''=>CX outer H s E e s'') (fun e' s''=>CX outer H s E e' s'') s'
theorem cell_has {sc:Scope} {n:Nat} {x:Str} (h:sc.names.lookup x=some .cell):∃ c,(cellsFrom n sc.names []).lookup x=some c:=by
 have q:=PySem.W.cellsFrom_some sc.names n [] (.inl h)
 exact Option.isSome_iff_exists.mp q
theorem inv_start {CX:CXT} {P:Program} {w:World} {K:PySem.W.Frag} {mg:Str→Option Value} {base:Heap} {N ps:List Str} {qual:Str} {scope:Scope} {f:Addr} {cd:Value} {A:Around} {outer:List Env} {s s1:Shared} {H:Hp} {E:XK} {us:List Value} {vs:List V}
  (S:FnScope N ps scope) (hd:A.handled=none) (e0:Env0 P w K mg base A outer s H) (hl:vs.length=ps.length) (r:Vals vs us)
  (x:InCallC s s.heap.objs.size (bindL (envOfC qual scope s.heap.objs.size f cd).kindOf (ps.zip us) fun _=>none) (cellsFrom (s.heap.objs.size + 1) scope.names []) (bindC (envOfC qual scope s.heap.objs.size f cd).kindOf (ps.zip us) fun _=>none) s1):
  Inv (cxOf CX P w K mg base N qual scope f cd A outer s H E) [] (start N vs) H s1:=by
 have hpl:ps.length≤N.length:=by have:=congrArg List.length S.pre;rw [List.length_take] at this;omega
 obtain ⟨h1,tk,rfl,hk⟩:=x.done
 have noA:∀ b:Addr,b∉(cxOf CX P w K mg base N qual scope f cd A outer s H E).ex:=fun b z=>absurd (show b∈([]:List Addr) from z) (by simp)
 refine ⟨⟨e0.mod,S.kind,rfl,rfl,Nat.le_refl _,fun y z c h1 h2=>?_,fun y hy=>?_,fun y c _ h=>?_,fun _=>hd,Around.frames_deeper e0.frames,.inr ⟨rfl,rfl⟩,fun b z=>absurd z (noA b),e0.bs,e0.bsz,fun b _ _=>noA b,fun b z=>absurd z (noA b),e0.funs,e0.frf⟩,
  rfl,e0.bare,Un.kept hk,⟨_,x.toInCall.ns,fun i y v h1 h2 h3=>?_⟩,fun y c h=>⟨_,x.cell y c h⟩,e0.hok.fresh (Nat.le_refl _),fun y c h=>?_,fun p hp=>absurd (show p∈([]:List (Addr×Obj)) from hp) (by simp),e0.hok.kept hk,?_⟩
 ·exact name_of_addr x.apart (PySem.mem_of_lookup h1) (PySem.mem_of_lookup h2)
 ·have hy:scope.names.lookup y=some .cell∨scope.names.lookup y=some .free:=hy
  rcases hy with hy | hy
  ·exact cell_has hy
  ·exact absurd rfl (S.nofree _ (PySem.mem_of_lookup hy))
 ·exact Nat.le_of_lt (x.above y c (PySem.mem_of_lookup h))
 ·have hi:i < vs.length:=by
   unfold start at h2
   by_cases hi:i < vs.length
   ·exact hi
   ·rw [List.getElem?_append_right (by simpa using hi)] at h2
    rw [List.getElem?_replicate] at h2
    split at h2 <;> cases h2
  have ha:vs[i]? =some v:=by
   unfold start at h2
   rw [List.getElem?_append_left (by simpa using hi),List.getElem?_map] at h2
   cases e:vs[i]? with
   | none=>rw [e] at h2;cases h2
   | some a=>rw [e] at h2;cases h2;rfl
  obtain ⟨u,hu,rv⟩:=r.get ha
  have hp:ps[i]? =some y:=by
   rw [←S.pre,List.getElem?_take_of_lt (by omega)];exact h1
  have ndP:ps.Nodup:=by rw [←S.pre];exact S.nd.sublist (List.take_sublist _ _)
  refine ⟨u,rv,?_⟩
  rcases S.par y (List.mem_of_getElem? hp) with k | k
  ·exact .inl ⟨k,bindL_get ndP hp hu k⟩
  ·obtain ⟨c,e⟩:=cell_has (n:=s.heap.objs.size + 1) k
   refine .inr ⟨.inl k,c,e,?_⟩
   have q:=x.cell y c e
   rw [bindC_get ndP hp hu (by show scope.names.lookup y≠_;rw [k];decide)] at q
   exact q
 ·exact e0.hok.fresh (Nat.le_of_lt (x.above y c (PySem.mem_of_lookup h)))
 ·unfold start
  show _=N.length
  rw [List.length_append,List.length_map,List.length_replicate]
  omega
theorem fn_of {CX:CXT} {P:Program} {w:World} {K:PySem.W.Frag} {mg:Str→Option Value} {base:Heap} {k:Nat} {f:Addr} {name qual:Str} {params:Arguments} {body:List Stmt} {scope:Scope} {dV kV doc pm cdv ct oc:Value} {an od:Option Addr}
  {osl:Array (Option Value)} {N ps:List Str} {sp:Sp} (lk:K.lookup f=some ⟨oc,od,.func (PySem.W.fnOf name qual params body scope dV kV doc pm an cdv ct),osl⟩) (hcd:PySem.W.codeIn K cdv qual=true) (S:FnScope N ps scope)
  (len:∀ vs H Q E,sp vs H Q E→vs.length=ps.length)
  (hbody:∀ (A:Around) (outer:List Env) (s:Shared) (H:Hp) (vs:List V) (Q:VK) (E:XK),Room k (A.deeper (envOfC qual scope s.heap.objs.size f cdv))→sp vs H Q E→
   ∃ t,PSs (cxOf CX P w K mg base N qual scope f cdv A outer s H E) body t∧t { nx:=fun _ H'=>Q .non H',rt:=Q } (start N vs) H):
  FnOk P w K mg base CX (k + 1) f (PySem.W.fnOf name qual params body scope dV kV doc pm an cdv ct) ps sp:=by
 refine ⟨len,fun A outer s H args us vs Q E hr e0 hb r hsp=>?_⟩
 have hl:=len _ _ _ _ hsp
 have KX:K.In s.heap:=e0.mod.kin.keeps fun b o e=>(e0.bs b o e).1
 have lim:s.heap.NoLimit:=e0.mod.nolimit.keeps fun b o e=>(e0.bs b o e).1
 have hkind:∀ y∈ps.zip us,scope.names.lookup y.1=some .local∨(scope.names.lookup y.1=some .cell∧((cellsFrom (s.heap.objs.size + 1) scope.names []).lookup y.1).isSome=true):=fun ⟨n,v⟩ hy=>by
  rcases S.par n (List.of_mem_zip hy).1 with q | q
  ·exact .inl q
  ·exact .inr ⟨q,PySem.W.cellsFrom_some _ _ _ (.inl q)⟩
 refine codeAny_call_function hr.depth (KX _ _ lk) rfl S.co S.gen rfl (PySem.W.codeRec_of KX hcd) (hb _ _ _ _ ?_)
 refine wpAny_newFunctionEnv_cells S.kind hkind fun env he s1 x=>?_
 subst he
 refine ⟨lim.keeps x.toInCall.keep,codeAny_func ?_⟩
 obtain ⟨t,ht,hq⟩:=hbody A outer s H vs Q E (hr.deeper _) hsp
 have I:Inv (cxOf CX P w K mg base N qual scope f cdv A outer s H E) [] (start N vs) H s1:=inv_start S hr.hd e0 hl r x
 refine wpAny_mono (ht [] s1 (start N vs) H _ I hq) (fun fl s' hs=>?_) fun e s' hs=>hs
 have fin:∀ {σ':St} {H':Hp} {v:V} {u:Value},Inv (cxOf CX P w K mg base N qual scope f cdv A outer s H E) [] σ' H' s'→RelV v u→Q v H'→CE outer P w H s Q u s':=
  fun {σ' H' v u} J rv q=>⟨v,H',J.os,J.bare,J.base,J.hok,rv,q⟩
 cases fl with
 | ret u=>
  obtain ⟨v,σ',H',J,rv,q⟩:=hs
  exact fin J rv q
 | next=>
  obtain ⟨σ',H',J,q⟩:=hs
  exact fin (v:=V.non) (u:=Value.none) J rfl q
 | brk=>
  obtain ⟨_,_,_,q⟩:=hs
  exact False.elim q
 | cont=>
  obtain ⟨_,_,_,q⟩:=hs
  exact False.elim q
end L2
namespace L2
open PySem PySem.Spec PyProof.Rows
section
variable {X:Cx} {x:Str} {p pos:Pos} {e:Expr} {es:List Expr} {t:TA} {id T:String} {r:List V→Hp→VK→Prop}
noncomputable def tCB (r:List V→Hp→VK→Prop) (t:TA):TE:=fun σ H Q=>t σ H fun vs H1=>r vs H1 Q
theorem pe_callB (hc:CallR X (.builtin id) r) (hg:Gl X x) (hm:X.mg x=none) (hv:bootBuiltins x=some (.builtin id)) (ha:PA X (e::es) t) (hn:x≠"__name__":=by decide) (hdb:(x==("__debug__":Str))=false:=by decide)
  (he:starEach (e::es) X.env=(false,eval e X.env)::starEach es X.env:=by rfl) (hpl:(backTo pos (starEach es X.env)).any (·.1)=false:=by rfl):PE X (.Call (.Name x p) (e::es) [] pos) (tCB r t):=by
 intro pins s σ H Q I h
 refine wpAny_Call_Name_kw (ld_blt I hg hm hv ?_ hn hdb)
 exact PyProof.Rows.callWith_builtin1 (thn (ha pos pins s σ H _ I h) fun us s1 ⟨vs,H1,I1,r1,q1⟩=>hc pins s1 σ H1 vs us Q I1 r1 q1) he hpl
theorem pe_callTy (hc:CallR X (.type T) r) (hg:Gl X x) (hm:X.mg x=none) (hv:bootBuiltins x=some (.type T)) (ha:PA X (e::es) t) (hn:x≠"__name__":=by decide) (hdb:(x==("__debug__":Str))=false:=by decide)
  (he:starEach (e::es) X.env=(false,eval e X.env)::starEach es X.env:=by rfl) (hpl:(backTo pos (starEach es X.env)).any (·.1)=false:=by rfl):PE X (.Call (.Name x p) (e::es) [] pos) (tCB r t):=by
 intro pins s σ H Q I h
 refine wpAny_Call_Name_kw (ld_blt I hg hm hv ?_ hn hdb)
 exact PyProof.Rows.callWith_type1 (thn (ha pos pins s σ H _ I h) fun us s1 ⟨vs,H1,I1,r1,q1⟩=>hc pins s1 σ H1 vs us Q I1 r1 q1) he hpl
end
end L2
namespace HT
open PySem PyProof.Rows
noncomputable def lexLt:List Int→List Int→Bool
 | [],[]=>false
 | [],_::_=>true
 | _::_,[]=>false
 | x::xs,y::ys=>if x=y then lexLt xs ys else decide (x < y)
theorem lexLt_cons (x y:Int) (xs ys:List Int):lexLt (x::xs) (y::ys)=if x=y then lexLt xs ys else decide (x < y):=rfl
theorem lexLt_nil_nil:lexLt [] []=false:=rfl
theorem lexLt_nil_cons (y:Int) (ys:List Int):lexLt [] (y::ys)=true:=rfl
theorem lexLt_cons_nil (x:Int) (xs:List Int):lexLt (x::xs) []=false:=rfl
theorem eqAt_int (A:Around) (s:Shared) (a:Int) (t:Tok) (c:Int) (u:Tok):∃ e,SeqAt.EqAt A s (.int a t) (.int c u) e∧(e=true↔a=c):=
 ⟨(a==c),SeqAt.EqAt.int_int a t c u,by simp⟩
theorem rcLt_int (A:Around) (s:Shared) (a:Int) (t:Tok) (c:Int) (u:Tok) (prog:Program) (w:World) (E:Value→Shared→Prop) (Q:Value→Shared→Prop) (h:Q (.bool (decide (a < c))) s):
  wpAny (model prog w) A (richCompare .Lt (.int a t) (.int c u)) Q E s:=
 (PyProof.Rows.lt_int h:wpAny (model prog w) A (compareOp .Lt (.int a t) (.int c u)) Q E s)
section
open PySem.SeqAt
open PySem.AutoSeq1 (wpAny_loadPart')
open PySem.MeetsSeq PySem.MeetsSeq2 PySem.MeetsSeq3
theorem tuple_lt_ints (l b:Addr) (items items2:Array Value) (n n2:Nat) (dd dd2:Option Addr) (sl sl2:Array (Option Value)) (ns ms:List Int) (hi:IntsAre items.toList ns) (hj:IntsAre items2.toList ms):
  Meets (Builtin.«tuple.__lt__» ⟨[.ref l,.ref b],[]⟩)
   (fun _ R s=>s.heap.get? l=some { cls:=.type "tuple",dict:=dd,data:=.seq items n,slots:=sl }∧s.heap.get? b=some { cls:=.type "tuple",dict:=dd2,data:=.seq items2 n2,slots:=sl2 }∧
    R (.ok (.ret (.bool (lexLt ns ms)))) s):=
 .of_wp fun prog w A R s h=>by
  obtain ⟨hp,g,d,tk,os⟩:=s;obtain ⟨hl,hb,h⟩:=h
  have f2:=AutoSeq1.sub_tuple_tuple
  have z1:items.size=ns.length:=by rw [←hi.length];simp
  have z2:items2.size=ms.length:=by rw [←hj.length];simp
  wp_walk using wpAny_loadPart' hl,wpAny_loadPart' hb,wpAny_forIn_list _ (fun rest b s'=>b.1=none∧s'=⟨hp,g,d,tk,os⟩∧∃ (vs ws:List Value) (ns' ms':List Int),rest=vs.zip ws∧
   IntsAre vs ns'∧IntsAre ws ms'∧ns'.length + items2.size=ms'.length + items.size∧R (.ok (.ret (.bool (lexLt ns' ms')))) ⟨hp,g,d,tk,os⟩) _
  case turn=>
   rintro ⟨y,x⟩ rest b s' ⟨hb',rfl,vs,ws,ns',ms',hz,hvi,hwi,hlen,hR⟩
   cases hvi with
   | nil=>rw [List.zip_nil_left] at hz;cases hz
   | cons a t hvi'=>
    cases hwi with
    | nil=>rw [List.zip_nil_right] at hz;cases hz
    | cons c u hwi'=>
     rw [List.zip_cons_cons] at hz
     injection hz with hyx hrest
     injection hyx with hy hx
     subst hy hx
     rw [lexLt_cons] at hR
     simp only [List.length_cons] at hlen
     obtain ⟨e,he,hiff⟩:=eqAt_int A.in1 ⟨hp,g,d,tk,os⟩ a t c u
     refine wpAny_bind (he prog w _ _ ?_)
     cases e with
     | true=>
      rw [if_pos (hiff.mp rfl)] at hR
      wp_walk
      exact ⟨rfl,rfl,_,_,_,_,hrest,hvi',hwi',by omega,hR⟩
     | false=>
      rw [if_neg (fun q=>absurd (hiff.mpr q) Bool.false_ne_true)] at hR
      have hri:=rcLt_int A.in1 ⟨hp,g,d,tk,os⟩ a t c u prog w
      wp_walk using hri
      exact ⟨_,rfl,by simpa using hR⟩
  case fin=>
   rintro ⟨b1,b2⟩ s' ⟨hb',rfl,vs,ws,ns',ms',hz,hvi,hwi,hlen,hR⟩
   simp only at hb'
   subst hb'
   have hv:lexLt ns' ms'=decide (items.size < items2.size):=by
    cases hvi with
    | nil=>
     cases hwi with
     | nil=>
      simp only [List.length_nil] at hlen
      rw [lexLt_nil_nil]
      exact (decide_eq_false (by omega)).symm
     | cons c u hw=>
      simp only [List.length_nil,List.length_cons] at hlen
      rw [lexLt_nil_cons]
      exact (decide_eq_true (by omega)).symm
    | cons a t hv=>
     cases hwi with
     | nil=>
      simp only [List.length_nil,List.length_cons] at hlen
      rw [lexLt_cons_nil]
      exact (decide_eq_false (by omega)).symm
     | cons c u hw=>
      rw [List.zip_cons_cons] at hz
      cases hz
   rw [hv] at hR
   wp_walk
   exact ⟨_,rfl,by simpa [Builtin.Tuple.tupleCompareSizes] using hR⟩
  case h=>
   exact ⟨rfl,rfl,items.toList,items2.toList,ns,ms,rfl,hi,hj,by omega,h⟩
end
section
variable {prog:Program} {w:World} {A:Around} {E:Value→Shared→Prop} {s:Shared}
theorem lt_tupInts {l b:Addr} {items items2:Array Value} {ns ms:List Int} {Q:Value→Shared→Prop} (hl:IsTup s.heap l items) (hb:IsTup s.heap b items2) (hi:IntsAre items.toList ns) (hj:IntsAre items2.toList ms)
  (hu:A.units < cLine) (h:Q (.bool (lexLt ns ms)) s):wpAny (model prog w) A (compareOp .Lt (.ref l) (.ref b)) Q E s:=by
 obtain ⟨⟨cls,dd,data,sl⟩,ho,hc,n,hd⟩:=id hl
 obtain ⟨⟨cls2,dd2,data2,sl2⟩,ho2,hc2,n2,hd2⟩:=id hb
 simp only at hc hd hc2 hd2
 subst hc hd hc2 hd2
 exact richCompare_meets_room (op:=.Lt) ⟨_,ho,rfl⟩ ⟨_,ho2,rfl⟩ PySem.F.slot_tuple_lt PySem.F.entry_tuple_lt (PySem.F.args_tuple_lt_2 _ _) (tuple_lt_ints l b items items2 n n2 dd dd2 sl sl2 ns ms hi hj)
  ⟨ho,ho2,show Value.bool (lexLt ns ms)≠Value.notImplemented∧Q (.bool (lexLt ns ms)) s from ⟨(fun x=>nomatch x),h⟩⟩ hu
theorem cat_tup {t b:Addr} {vs ws:List Value} {Q:Value→Shared→Prop} (ht:IsTup s.heap t vs.toArray) (hb:IsTup s.heap b ws.toArray) (hv:vs≠[])
  (h1:ws=[]→Q (.ref t) s) (h2:ws≠[]→Q (.ref s.heap.objs.size) { s with heap:=s.heap.push { cls:=.type "tuple",data:=.seq (vs++ws).toArray } })
  (hsz:vs.length + ws.length≤sizeLine):wpAny (model prog w) A (binaryOp .Add (.ref t) (.ref b)) Q E s:=by
 obtain ⟨⟨cls,dd,data,sl⟩,ho,hc,n,hd⟩:=id ht
 obtain ⟨⟨cls2,dd2,data2,sl2⟩,ho2,hc2,n2,hd2⟩:=id hb
 simp only at hc hd hc2 hd2
 subst hc hd hc2 hd2
 have e:vs.toArray++ws.toArray=(vs++ws).toArray:=by simp
 by_cases hw:ws=[]
 ·exact concat_meets ⟨_,ho,rfl⟩ ⟨_,ho2,rfl⟩ noFill_tuple_add seq_tuple_add PySem.F.slot_tuple_add PySem.F.entry_tuple_add (PySem.F.args_tuple_add_2 _ _)
   (tuple_addW1 t b vs.toArray ws.toArray n n2 dd dd2 sl sl2 (by simpa using hv) (by simp [hw])) ⟨ho,ho2,h1 hw⟩
 ·refine concat_meets ⟨_,ho,rfl⟩ ⟨_,ho2,rfl⟩ noFill_tuple_add seq_tuple_add PySem.F.slot_tuple_add PySem.F.entry_tuple_add (PySem.F.args_tuple_add_2 _ _)
   (tuple_addW2 t b vs.toArray ws.toArray n n2 dd dd2 sl sl2 (by simpa using hv) (by simpa using hw) (by rw [List.size_toArray,List.size_toArray];exact hsz)) ⟨ho,ho2,?_⟩
  rw [e]
  exact h2 hw
end
end HT
namespace L2
open PySem PySem.Spec PyProof.Rows
noncomputable abbrev TO:=St→Hp→(Option Int→Hp→Prop)→Prop
theorem intsAre_of {ns:List Int}:∀ {us:List Value},Vals (ns.map V.int) us→IntsAre us ns:=by
 induction ns with
 | nil=>intro us r;rw [List.map_nil] at r;cases r;exact .nil
 | cons n ns ih=>
  intro us r
  rw [List.map_cons] at r
  cases r with
  | cons r1 r2=>
   obtain ⟨t,e⟩:=r1
   subst e
   exact .cons n t (ih r2)
section
variable {X:Cx} {e:Expr} {te:TE} {lo hi:Option Expr} {tl th:TO} {pos p2:Pos}
noncomputable def SlR (X:Cx) (r:V→Option Int→Option Int→Hp→VK→Prop):Prop:=
 ∀ (pins:List (Addr×Obj)) (s:Shared) (σ:St) (H:Hp) (x:V) (v vl vu:Value) (lo hi:Option Int) (sl:Addr) (Q:VK),Inv X pins σ H s→RelV x v→s.heap.IsSliceOf sl vl vu .none→IsPart vl lo→IsPart vu hi→r x lo hi H Q→
  ∃ T id,typeLookup (.type T) "__getitem__"=pure (some (.builtin id))∧s.TypeIs v T∧wpAny (model X.prog X.w) X.A (getItem v (.ref sl)) (EP X pins σ Q) X.xe s
theorem SlR.or {r r':V→Option Int→Option Int→Hp→VK→Prop} (h:SlR X r) (h':SlR X r'):SlR X (fun x lo hi H Q=>r x lo hi H Q∨r' x lo hi H Q):=by
 intro pins s σ H x v vl vu lo hi sl Q I rx hs pl pu q
 rcases q with q | q
 ·exact h pins s σ H x v vl vu lo hi sl Q I rx hs pl pu q
 ·exact h' pins s σ H x v vl vu lo hi sl Q I rx hs pl pu q
noncomputable def rLtT (K:PySem.W.Frag):R2:=fun x y H Q=>∃ a b ns ms,x=.ref a∧y=.ref b∧SqT K H a (ns.map V.int)∧SqT K H b (ms.map V.int)∧Q (.bl (HT.lexLt ns ms)) H
theorem op_ltT (hu:X.A.units < cLine):OpR X (compareOp .Lt) (rLtT X.K):=by
 intro pins s σ H x y v u Q I rx ry h
 obtain ⟨a,b,ns,ms,rfl,rfl,ha,hb,q⟩:=h
 cases rx
 cases ry
 obtain ⟨its,r1,p1,_⟩:=I.tuple ha
 obtain ⟨its2,r2,p2,_⟩:=I.tuple hb
 have i1:IntsAre its.toArray.toList ns:=intsAre_of r1
 have i2:IntsAre its2.toArray.toList ms:=intsAre_of r2
 exact HT.lt_tupInts p1 p2 i1 i2 hu ⟨.bl (HT.lexLt ns ms),H,I,rfl,q⟩
noncomputable def rCatT (K:PySem.W.Frag):R2:=fun x y H Q=>∃ a b xs ys,x=.ref a∧y=.ref b∧SqT K H a xs∧SqT K H b ys∧xs≠[]∧xs.length + ys.length≤sizeLine∧
 (ys=[]→Q (.ref a) H)∧(ys≠[]→∀ p,H p=none→Q (.ref p) (upd H p (.tup (xs++ys))))
theorem Vals.nil_iff {xs:List V} {us:List Value} (r:Vals xs us):us=[]↔xs=[]:=by
 cases r with
 | nil=>simp
 | cons _ _=>simp
theorem op_catT:OpR X (binaryOp .Add) (rCatT X.K):=by
 intro pins s σ H x y v u Q I rx ry h
 obtain ⟨a,b,xs,ys,rfl,rfl,ha,hb,hx,hz,q1,q2⟩:=h
 cases rx
 cases ry
 obtain ⟨its,r1,p1,_⟩:=I.tuple ha
 obtain ⟨its2,r2,p2,_⟩:=I.tuple hb
 refine HT.cat_tup p1 p2 (fun z=>hx (r1.nil_iff.mp z)) (fun z=>⟨.ref a,H,I,rfl,q1 (r2.nil_iff.mp z)⟩) (fun z=>?_) (by rw [←r1.length,←r2.length];exact hz)
 refine ⟨.ref s.heap.objs.size,_,I.laid (t':=s.toks) (o:=.tup (xs++ys)) (fun b ob q=>Heap.get?_push_of_some _ q) (Nat.le_refl _) ?_,rfl,q2 (fun w=>z (r2.nil_iff.mpr w)) _ (I.hok.fresh (Nat.le_refl _))⟩
 exact ⟨by rw [List.length_append];exact hz,_,r1.append r2,IsTupN.new _ _⟩
end
end L2
namespace L2
open PySem PySem.Spec PyProof.Rows
noncomputable def ixN (n:Nat) (i:Int):Option Nat:=if 0≤i then (if i < n then some i.toNat else none) else if -(n:Int)≤i then some (i + n).toNat else none
noncomputable def atI {α:Type} (xs:List α) (i:Int):Option α:=(ixN xs.length i).bind fun j=>xs[j]?
theorem ixN_seq {n:Nat} {i:Int} {j:Nat} (h:ixN n i=some j):seqIndex? i n=some j∧j < n∧-(n:Int)≤i∧i < n:=by
 unfold ixN at h
 by_cases h0:0≤i
 ·rw [if_pos h0] at h
  by_cases h1:i < n
  ·rw [if_pos h1] at h
   have e:i.toNat=j:=Option.some.inj h
   exact ⟨by rw [seqIndex_of h0 h1,e],by omega,by omega,h1⟩
  ·rw [if_neg h1] at h;cases h
 ·rw [if_neg h0] at h
  by_cases h1:-(n:Int)≤i
  ·rw [if_pos h1] at h
   have e:(i + n).toNat=j:=Option.some.inj h
   exact ⟨by rw [seqIndex_neg (by omega) h1,e],by omega,h1,by omega⟩
  ·rw [if_neg h1] at h;cases h
theorem atI_get {α:Type} {xs:List α} {i:Int} {v:α} (h:atI xs i=some v):∃ j,seqIndex? i xs.length=some j∧xs[j]? =some v∧j < xs.length∧-(xs.length:Int)≤i∧i < xs.length:=by
 unfold atI at h
 cases e:ixN xs.length i with
 | none=>rw [e] at h;cases h
 | some j=>
  rw [e] at h
  obtain ⟨h1,h2,h3,h4⟩:=ixN_seq e
  exact ⟨j,h1,h,h2,h3,h4⟩
theorem atI_nat {α:Type} {xs:List α} {j:Nat} {v:α} (h:xs[j]? =some v):atI xs (j:Int)=some v:=by
 have hj:j < xs.length:=(List.getElem?_eq_some_iff.mp h).1
 have e:ixN xs.length (j:Int)=some j:=by
  unfold ixN
  rw [if_pos (by omega),if_pos (by omega)];simp
 unfold atI;rw [e];exact h
noncomputable def PlainIx (b:Expr):Prop:=∀ o i,subscripted b false o i=operate [o,i] (getItem o i)
noncomputable def IxR (X:Cx) (r:R2):Prop:=
 ∀ (value slice:Expr) (pins:List (Addr×Obj)) (s:Shared) (σ:St) (H:Hp) (x y:V) (v u:Value) (Q:VK),Inv X pins σ H s→RelV x v→RelV y u→r x y H Q→
  subscripted slice false v u=operate [v,u] (getItem v u)→wpAny (model X.prog X.w) X.A (subscriptTail value slice v u) (EP X pins σ Q) X.xe s
noncomputable def MtR (X:Cx) (id:String) (r:V→List V→Hp→VK→Prop):Prop:=
 ∀ (pins:List (Addr×Obj)) (s:Shared) (σ:St) (H:Hp) (x:V) (xs:List V) (v:Value) (us:List Value) (Q:VK),Inv X pins σ H s→RelV x v→Vals xs us→r x xs H Q→
  wpAny (model X.prog X.w) X.A (call (.builtin id) (v::us)) (EP X pins σ Q) X.xe s
section
variable {X:Cx} {a b:Expr} {ta tb:TE} {pos:Pos}
theorem IxR.or {r r':R2} (h:IxR X r) (h':IxR X r'):IxR X (fun x y H Q=>r x y H Q∨r' x y H Q):=by
 intro value slice pins s σ H x y v u Q I rx ry q hs
 rcases q with q | q
 ·exact h value slice pins s σ H x y v u Q I rx ry q hs
 ·exact h' value slice pins s σ H x y v u Q I rx ry q hs
theorem MtR.or {id:String} {r r':V→List V→Hp→VK→Prop} (h:MtR X id r) (h':MtR X id r'):MtR X id (fun x xs H Q=>r x xs H Q∨r' x xs H Q):=by
 intro pins s σ H x xs v us Q I rx rs q
 rcases q with q | q
 ·exact h pins s σ H x xs v us Q I rx rs q
 ·exact h' pins s σ H x xs v us Q I rx rs q
theorem pe_ix {r:R2} (hr:IxR X r) (ha:PE X a ta) (hb:PE X b tb) (hs:PlainIx b):PE X (.Subscript a b pos) (tOp r ta tb):=by
 intro pins s σ H Q I h
 exact Subscript_ (binT ha hb I h fun v u s2 x y H2 I2 rx ry q=>hr a b pins s2 σ H2 x y v u Q I2 rx ry q (hs _ _))
noncomputable def rIxL (K:PySem.W.Frag):R2:=fun x y H Q=>∃ p xs i v,x=.ref p∧y=.int i∧SqL K H p xs∧atI xs i=some v∧Q v H
noncomputable def rIxT (K:PySem.W.Frag):R2:=fun x y H Q=>∃ p xs i v,x=.ref p∧y=.int i∧SqT K H p xs∧atI xs i=some v∧Q v H
theorem ix_list:IxR X (rIxL X.K):=by
 intro value slice pins s σ H x y v u Q I rx ry h hs
 obtain ⟨p,xs,i,z,rfl,rfl,hq,he,q⟩:=h
 cases rx
 obtain ⟨t,rfl⟩:=ry
 obtain ⟨its,r,pl,hz⟩:=I.list hq
 obtain ⟨j,h1,h2,h3,h4,h5⟩:=atI_get he
 obtain ⟨w,ew,rw'⟩:=r.get h2
 have hl:=r.length
 have hn:=line63
 have fin:EP X pins σ Q w s:=⟨z,H,I,rw',q⟩
 by_cases h0:0≤i
 ·have hj:i.toNat=j:=by
   rw [seqIndex_of h0 h5] at h1
   exact Option.some.inj h1
  exact item_listR pl.isList h0 (by omega) (by rw [hj];simpa using ew) fin hs
 ·have hj:(i + (its.toArray.size:Int)).toNat=j:=by
   rw [seqIndex_neg (by omega) h4] at h1
   rw [List.size_toArray,←hl]
   exact Option.some.inj h1
  exact subscriptTail_builtinR (x:=w) pl.isList.typeIs slot_list_getitem.lookup
   (wpAny_getItem_list_neg (Q:=fun r s'=>r=w∧EP X pins σ Q r s') pl.isList (by omega) (by rw [List.size_toArray] <;> omega) (by omega) (by rw [hj];simpa using ew) ⟨rfl,fin⟩) hs
theorem ix_tup:IxR X (rIxT X.K):=by
 intro value slice pins s σ H x y v u Q I rx ry h hs
 obtain ⟨p,xs,i,z,rfl,rfl,hq,he,q⟩:=h
 cases rx
 obtain ⟨t,rfl⟩:=ry
 obtain ⟨its,r,pl,hz⟩:=I.tuple hq
 obtain ⟨j,h1,h2,h3,h4,h5⟩:=atI_get he
 obtain ⟨w,ew,rw'⟩:=r.get h2
 have hl:=r.length
 have hn:=line63
 have fin:EP X pins σ Q w s:=⟨z,H,I,rw',q⟩
 exact subscriptTail_builtinR (x:=w) pl.typeIs slot_tuple_getitem.lookup
  (getItem_tuple (j:=j) (Q:=fun r s'=>r=w∧EP X pins σ Q r s') pl (by omega) (by omega) (by rw [List.size_toArray,←hl];exact h1) (by simpa using ew) ⟨rfl,fin⟩) hs
theorem mapSeq_set (its:List Value) (n j:Nat) (u:Value):Obj.mapSeq (·.setIfInBounds j u) { cls:=.type "list",data:=.seq its.toArray n }={ cls:=.type "list",data:=.seq (its.set j u).toArray n }:=by
 simp [Obj.mapSeq]
theorem Inv.lst {pins:List (Addr×Obj)} {σ:St} {H:Hp} {s:Shared} {p:Addr} {xs:List V} (I:Inv X pins σ H s) (h:H p=some (.lst xs)):
  ∃ (its:List Value) (n:Nat),Vals xs its∧s.heap.get? p=some { cls:=.type "list",data:=.seq its.toArray n }∧xs.length≤sizeLine:=by
 obtain ⟨z,its,n,r,e⟩:=I.hok p _ h
 exact ⟨its,n,r,e,z⟩
theorem Inv.lstUpd {pins:List (Addr×Obj)} {σ:St} {H:Hp} {s:Shared} {p:Addr} {xs ys:List V} {its its':List Value} {n n':Nat} {f:Obj→Obj} (I:Inv X pins σ H s) (h:H p=some (.lst xs))
  (ho:s.heap.get? p=some { cls:=.type "list",data:=.seq its.toArray n }) (hf:f { cls:=.type "list",data:=.seq its.toArray n }={ cls:=.type "list",data:=.seq its'.toArray n' }) (r:Vals ys its') (hz:ys.length≤sizeLine) (t:Nat):
  Inv X pins σ (upd H p (.lst ys)) { s with heap:=s.heap.update p f,toks:=t }:=by
 have e:(s.heap.update p f).get? p=some { cls:=.type "list",data:=.seq its'.toArray n' }:=by
  rw [Heap.get?_update_self f ho (by rw [hf] <;> rfl),hf]
 refine I.write (x:=p) (e:=p) (by rw [h];trivial) (.inl rfl) (fun b u hb q=>(Heap.get?_update_other _ _ (Ne.symm hb)).trans q) ⟨_,e⟩ ?_
 exact ⟨hz,its',n',r,e⟩
noncomputable def rSetL:V→V→V→Hp→(Hp→Prop)→Prop:=fun o i v H Q=>∃ p xs k j,o=.ref p∧i=.int k∧H p=some (.lst xs)∧ixN xs.length k=some j∧Q (upd H p (.lst (xs.set j v)))
theorem set_list:PSet X rSetL:=by
 intro pins s σ H o i v ov iv u Q I ro ri rv h
 obtain ⟨p,xs,k,j,rfl,rfl,hp,hj,q⟩:=h
 cases ro
 obtain ⟨t,rfl⟩:=ri
 obtain ⟨its,n,r,ho,hz⟩:=I.lst hp
 obtain ⟨h1,h2,h3,h4⟩:=ixN_seq hj
 have hl:=r.length
 have hn:=line63
 have I':Inv X pins σ (upd H p (.lst (xs.set j v))) { s with heap:=s.heap.update p (Obj.mapSeq (·.setIfInBounds j u)) }:=
  I.lstUpd hp ho (mapSeq_set its n j u) (r.set rv j) (by rw [List.length_set];exact hz) s.toks
 by_cases h0:0≤k
 ·have hk:k.toNat=j:=by
   rw [seqIndex_of h0 h4] at h1
   exact Option.some.inj h1
  exact PySem.W.ki_setAt ho h0 (by omega) (by rw [List.size_toArray,←hl];exact h4) (by rw [hk];exact ⟨_,I',q⟩)
 ·have hk:(k + (its.toArray.size:Int)).toNat=j:=by
   rw [seqIndex_neg (by omega) h3] at h1
   rw [List.size_toArray,←hl]
   exact Option.some.inj h1
  exact PySem.W.ki_setBack ho (by omega) (by rw [List.size_toArray,←hl];exact h3) (by omega) (by rw [hk];exact ⟨_,I',q⟩)
theorem call_len_seq:CallR X (.builtin "len") (fun xs H Q=>∃ p ys,xs=[.ref p]∧(SqL X.K H p ys∨SqT X.K H p ys)∧Q (.int ys.length) H):=by
 intro pins s σ H xs us Q I r h
 obtain ⟨p,ys,rfl,hq,q⟩:=h
 obtain ⟨u,rfl,rx⟩:=vals1 r
 cases rx
 have hn:=line63
 rcases hq with hq | hq
 ·obtain ⟨its,r',pl,hz⟩:=I.list hq
  have hlen:=r'.length
  exact Calls.call_len_list pl.isList (by simp only [List.size_toArray] <;> omega) ⟨.int ys.length,H,I.tok _,⟨s.toks + 1,by rw [List.size_toArray,hlen]⟩,q⟩
 ·obtain ⟨its,r',pl,hz⟩:=I.tuple hq
  have hlen:=r'.length
  exact len_tuple pl (by simp only [List.size_toArray] <;> omega) ⟨.int ys.length,H,I.tok _,⟨s.toks + 1,by rw [List.size_toArray,hlen]⟩,q⟩
theorem CallR.or {f:Value} {r r':List V→Hp→VK→Prop} (h:CallR X f r) (h':CallR X f r'):CallR X f (fun xs H Q=>r xs H Q∨r' xs H Q):=by
 intro pins s σ H xs us Q I rs q
 rcases q with q | q
 ·exact h pins s σ H xs us Q I rs q
 ·exact h' pins s σ H xs us Q I rs q
theorem call_list_of:CallR X (.type "list") (fun xs H Q=>∃ p ys,xs=[.ref p]∧(SqL X.K H p ys∨SqT X.K H p ys)∧∀ l,H l=none→Q (.ref l) (upd H l (.lst ys))):=by
 intro pins s σ H xs us Q I r h
 obtain ⟨p,ys,rfl,hq,q⟩:=h
 obtain ⟨u,rfl,rx⟩:=vals1 r
 cases rx
 have fin:∀ (its:List Value),Vals ys its→ys.length≤sizeLine→∀ (h':Heap) (c':Nat),(∀ b o',s.heap.get? b=some o'→h'.get? b=some o')→
   h'.get? s.heap.objs.size=some { cls:=.type "list",dict:=none,data:=.seq its.toArray c',slots:=#[] }→EP X pins σ Q (.ref s.heap.objs.size) { s with heap:=h' }:=fun its r' hz h' c' kp e=>
  ⟨.ref s.heap.objs.size,_,I.laid (t':=s.toks) kp (Nat.le_refl _) (show ObjOk X.prog X.w _ h' _ (.lst ys) from ⟨hz,its,c',r',e⟩),rfl,q _ (I.hok.fresh (Nat.le_refl _))⟩
 rcases hq with hq | hq
 ·obtain ⟨its,r',pl,hz⟩:=I.list hq
  have hlen:=r'.length
  obtain ⟨o,ho,hc,n,hd⟩:=pl.isList
  exact call_list_seq p (.inl rfl) ho hc hd (fun h' c' kp e=>fin its r' hz h' c' kp e) (by simp only [List.size_toArray] <;> omega)
 ·obtain ⟨its,r',pl,hz⟩:=I.tuple hq
  have hlen:=r'.length
  obtain ⟨o,ho,hc,n,hd⟩:=pl
  exact call_list_seq p (.inr rfl) ho hc hd (fun h' c' kp e=>fin its r' hz h' c' kp e) (by simp only [List.size_toArray] <;> omega)
theorem call_tuple_of:CallR X (.type "tuple") (fun xs H Q=>∃ p ys,xs=[.ref p]∧((SqL X.K H p ys∧∀ l,H l=none→Q (.ref l) (upd H l (.tup ys)))∨(SqT X.K H p ys∧Q (.ref p) H))):=by
 intro pins s σ H xs us Q I r h
 obtain ⟨p,ys,rfl,h⟩:=h
 obtain ⟨u,rfl,rx⟩:=vals1 r
 cases rx
 rcases h with ⟨hq,q⟩ | ⟨hq,q⟩
 ·obtain ⟨its,r',pl,hz⟩:=I.list hq
  have hlen:=r'.length
  refine call_tuple_list pl.isList (fun h' kp=>?_) (by simp only [List.size_toArray] <;> omega)
  have I1:Inv X pins σ H { s with heap:=h' }:=I.kept (t':=s.toks) kp
  have I2:Inv X pins σ (upd H h'.objs.size (.tup ys)) { s with heap:=h'.push { cls:=.type "tuple",data:=.seq its.toArray } }:=
   I1.laid (t':=s.toks) (fun b o e=>Heap.get?_push_of_some _ e) (Nat.le_refl _) (show ObjOk X.prog X.w _ _ _ (.tup ys) from ⟨hz,its,r',IsTupN.new _ _⟩)
  exact ⟨.ref h'.objs.size,_,I2,rfl,q _ (I1.hok.fresh (Nat.le_refl _))⟩
 ·obtain ⟨its,r',pl,hz⟩:=I.tuple hq
  exact call_tuple_same pl ⟨.ref p,H,I,rfl,q⟩
noncomputable def tyV (K:PySem.W.Frag) (T:String) (x:V) (H:Hp):Prop:=match x with
 | .str _=>T="str"
 | .int _=>T="int"
 | .ref p=>(T="list"∧∃ xs,SqL K H p xs)∨(T="tuple"∧∃ o,K.lookup p=some o∧o.cls=.type "tuple"∧o.dict=none)∨
   (T="dict"∧((∃ kvs,H p=some (.dK kvs))∨∃ kvs,H p=some (.dT kvs)))∨(T="set"∧∃ S n,H p=some (.set S n))
 | _=>False
theorem tyV_is {pins:List (Addr×Obj)} {σ:St} {H:Hp} {s:Shared} {T:String} {x:V} {v:Value} (I:Inv X pins σ H s) (r:RelV x v) (ty:tyV X.K T x H):
  s.TypeIs v T∧∀ a,v=.ref a→∃ ob,s.heap.get? a=some ob∧ob.dict=none:=by
 cases x with
 | str z=>
  obtain ⟨t,rfl⟩:=r
  cases (show T="str" from ty)
  exact ⟨typeIs_str s z t,fun _ e=>nomatch e⟩
 | int i=>
  obtain ⟨t,rfl⟩:=r
  cases (show T="int" from ty)
  exact ⟨typeIs_int s i t,fun _ e=>nomatch e⟩
 | ref p=>
  cases r
  rcases ty with ⟨rfl,xs,hq⟩ | ⟨rfl,o,hk,hc,hd⟩ | ⟨rfl,hk⟩ | ⟨rfl,S,n,hk⟩
  ·obtain ⟨its,_,pl,_⟩:=I.list hq
   refine ⟨pl.isList.typeIs,fun a e=>?_⟩
   cases e
   obtain ⟨o,n,e,c,hd,_⟩:=pl
   exact ⟨o,e,hd⟩
  ·refine ⟨⟨o,I.kIn p o hk,hc⟩,fun a e=>?_⟩
   cases e
   exact ⟨o,I.kIn _ o hk,hd⟩
  ·have z:∃ o,s.heap.get? p=some o∧o.ExactDict:=by
    rcases hk with ⟨kvs,hk⟩ | ⟨kvs,hk⟩
    ·obtain ⟨_,_,_,_,o,_,_,e,ex,_⟩:=I.hok p _ hk
     exact ⟨o,e,ex⟩
    ·obtain ⟨_,_,_,_,o,_,_,e,ex,_⟩:=I.hok p _ hk
     exact ⟨o,e,ex⟩
   obtain ⟨o,e,ex⟩:=z
   refine ⟨⟨o,e,ex.1⟩,fun a e2=>?_⟩
   cases e2
   exact ⟨o,e,ex.2.1⟩
  ·obtain ⟨o,_,_,_,e,ex,_⟩:=I.hok p _ hk
   refine ⟨⟨o,e,ex.1⟩,fun a e2=>?_⟩
   cases e2
   exact ⟨o,e,ex.2.1⟩
 | _=>exact False.elim ty
noncomputable def tBM (K:PySem.W.Frag) (T:String) (r:V→List V→Hp→VK→Prop) (to:TE) (t:TA):TE:=fun σ H Q=>to σ H fun x H1=>tyV K T x H1∧t σ H1 fun xs H2=>r x xs H2 Q
variable {o e:Expr} {es:List Expr} {to:TE} {t:TA} {name:Str} {apos cpos:Pos} {T id:String} {r:V→List V→Hp→VK→Prop}
theorem pe_bm (pa:PlainAttrs T) (slot:Slot T name id) (hty:typeOf (.builtin id)=pure (.type "method_descriptor")) (hm:MtR X id r) (ho:PE X o to) (ha:PA X (e::es) t)
  (hbase:attributeBase o name X.env (eval o X.env)=eval o X.env:=by rfl)
  (hfew:((backTo cpos (starEach (e::es) X.env)).all (fun x=> !x.1)&&(backToKw cpos (keywordEach [] X.env)).all (fun x=>x.1.isSome)
   &&decide ((e::es).length + ([]:List Keyword).length + (if ([]:List Keyword).isEmpty then 0 else 1) < 30))=true:=by rfl)
  (hline:(apos.endLine==cpos.line)=true:=by rfl) (hs:starEach (e::es) X.env=(false,eval e X.env)::starEach es X.env:=by rfl) (hplain:(backTo cpos (starEach es X.env)).any (·.1)=false:=by rfl):
  PE X (.Call (.Attribute o name apos) (e::es) [] cpos) (tBM X.K T r to t):=by
 intro pins s σ H Q I h
 refine wpAny_Call_method_late hbase hfew hline rfl (thn (ho pins s σ H _ I h) fun v s1 ⟨x,H1,I1,r1,ty,q1⟩=>?_)
 obtain ⟨h1,h2⟩:=tyV_is I1 r1 ty
 refine ⟨T,id,pa,slot,hty,h1,h2,?_⟩
 have hA:=ha cpos pins s1 σ H1 _ I1 q1
 rw [hs] at hA ⊢
 refine Calls.callWith_builtin (by show (false||(backTo cpos (starEach es X.env)).any (·.1))=false;rw [hplain] <;> rfl) (Calls.evalArgs_plain ?_)
 exact thn hA fun us s2 ⟨vs,H2,I2,r2,q2⟩=>hm pins s2 σ H2 x vs v us Q I2 r1 r2 q2
end
end L2
namespace L2
open PySem PySem.Spec PyProof.Rows
noncomputable def MtM (X:Cx) (id:String) (r:V→List V→Hp→VK→Prop):Prop:=
 ∀ (pins:List (Addr×Obj)) (s:Shared) (σ:St) (H:Hp) (x:V) (xs:List V) (v:Value) (us:List Value) (Q:VK),Inv X pins σ H s→RelV x v→Vals xs us→r x xs H Q→
  wpAny (model X.prog X.w) X.A (call (.builtin id) (v::us)) (EP X pins σ Q) X.xe s
theorem Vals.one:∀ {x:V} {us:List Value},Vals [x] us→∃ u,us=[u]∧RelV x u
 | _,_,.cons r .nil=>⟨_,rfl,r⟩
theorem Vals.two {x y:V} {us:List Value} (h:Vals [x,y] us):∃ u v,us=[u,v]∧RelV x u∧RelV y v:=by
 cases h with
 | cons r t=>
 cases t with
 | cons q t=>
 cases t
 exact ⟨_,_,rfl,r,q⟩
theorem Vals.eraseIdx:∀ {xs:List V} {us:List Value} (i:Nat),Vals xs us→Vals (xs.eraseIdx i) (us.eraseIdx i)
 | _,_,_,.nil=>.nil
 | _,_,0,.cons _ t=>t
 | _,_,i + 1,.cons r t=>.cons r (Vals.eraseIdx i t)
theorem Vals.reverse {xs:List V} {us:List Value} (h:Vals xs us):Vals xs.reverse us.reverse:=by
 induction h with
 | nil=>exact .nil
 | cons r t ih=>rw [List.reverse_cons,List.reverse_cons];exact Vals.append ih (.cons r .nil)
theorem Vals.rep {xs:List V} {us:List Value} (h:Vals xs us):∀ k:Nat,Vals (List.replicate k xs).flatten (List.replicate k us).flatten
 | 0=>.nil
 | k + 1=>by
  rw [List.replicate_succ,List.replicate_succ,List.flatten_cons,List.flatten_cons]
  exact Vals.append h (Vals.rep h k)
theorem len_erase {α:Type}:∀ (l:List α) (i:Nat),(l.eraseIdx i).length≤l.length
 | [],_=>Nat.le_refl _
 | _::_,0=>Nat.le_succ _
 | _::r,i + 1=>Nat.succ_le_succ (len_erase r i)
theorem foldl_rep (its:List Value):∀ (k:Nat) (acc:List Value),
  List.foldl (fun x1 x2=>x1++x2) acc.toArray (List.replicate k its.toArray)=(acc++(List.replicate k its).flatten).toArray
 | 0,acc=>by simp
 | k + 1,acc=>by
  have e:acc.toArray++its.toArray=(acc++its).toArray:=by simp
  have e2:(acc++its)++(List.replicate k its).flatten=acc++(List.replicate (k + 1) its).flatten:=by
   rw [List.replicate_succ,List.flatten_cons,List.append_assoc]
  rw [←e2,←foldl_rep its k (acc++its),←e,List.replicate_succ,List.foldl_cons]
section
variable {X:Cx} {pins:List (Addr×Obj)} {σ:St} {H:Hp} {s:Shared} {l b:Addr} {xs ys zs:List V}
theorem Inv.lset {its its':List Value} {n:Nat} {f:Array Value→Array Value} {t':Nat} (I:Inv X pins σ H s) (hH:H l=some (.lst xs))
  (e:s.heap.get? l=some { cls:=.type "list",data:=.seq its.toArray n }) (hf:f its.toArray=its'.toArray) (hv:Vals ys its') (hz:ys.length≤sizeLine):
  Inv X pins σ (upd H l (.lst ys)) { s with heap:=s.heap.update l (Obj.mapSeq f),toks:=t' }:=by
 have q:=PySem.IsL.update e f
 rw [hf] at q
 refine I.write (x:=l) (e:=l) (by rw [hH];exact trivial) (.inl rfl) (fun b' u hb hu=>(Heap.get?_update_other s.heap (Obj.mapSeq f) (Ne.symm hb)).trans hu) ⟨_,q⟩ ?_
 exact ⟨hz,its',_,hv,q⟩
theorem Inv.lnew {its:List Value} {t':Nat} (I:Inv X pins σ H s) (hv:Vals ys its) (hz:ys.length≤sizeLine):
  Inv X pins σ (upd H s.heap.objs.size (.lst ys)) { s with heap:=s.heap.push { cls:=.type "list",data:=.seq its.toArray },toks:=t' }:=
 I.laid (fun _ _ q=>Heap.get?_push_of_some _ q) (Nat.le_refl _) ⟨hz,its,0,hv,Heap.get?_push_size _ rfl⟩
theorem Inv.fresh (I:Inv X pins σ H s):H s.heap.objs.size=none:=I.hok.fresh (Nat.le_refl _)
theorem Inv.lstM (I:Inv X pins σ H s) (hH:H l=some (.lst xs)):xs.length≤sizeLine∧∃ (its:List Value) (n:Nat),Vals xs its∧xs.length=its.length∧s.heap.get? l=some { cls:=.type "list",data:=.seq its.toArray n }:=by
 obtain ⟨z,its,n,r,e⟩:=I.hok l _ hH
 exact ⟨z,its,n,r,r.length,e⟩
theorem notLongL {n:Nat} (h:n≤sizeLine):Builtin.List.listTooLong n=false:=by
 unfold Builtin.List.listTooLong
 exact decide_eq_false (by omega)
end
section
variable {X:Cx}
noncomputable def rAppend:V→List V→Hp→VK→Prop:=fun x vs H Q=>∃ l xs y,x=.ref l∧vs=[y]∧H l=some (.lst xs)∧xs.length < sizeLine∧Q .non (upd H l (.lst (xs++[y])))
theorem mt_append:MtM X "list.append" rAppend:=by
 intro pins s σ H x vs v us Q I rx rv h
 obtain ⟨l,xs,y,rfl,rfl,hH,hz,q⟩:=h
 cases rx
 obtain ⟨u,rfl,ru⟩:=rv.one
 obtain ⟨z,its,n,r,hl,e⟩:=I.lstM hH
 refine call_meets F.slot_list_append ⟨_,e,rfl⟩ F.entry_list_append (F.args_list_append_2 _ _) (PySem.list_append l its.toArray n u (by rw [List.size_toArray];omega)) ⟨e,?_⟩
 refine ⟨.non,_,I.lset (its':=its++[u]) hH e (by simp) (r.append (.cons ru .nil)) ?_,rfl,q⟩
 rw [List.length_append,List.length_singleton]
 omega
noncomputable def rExtend:V→List V→Hp→VK→Prop:=fun x vs H Q=>∃ l b xs zs,x=.ref l∧vs=[.ref b]∧H l=some (.lst xs)∧H b=some (.lst zs)∧xs.length + zs.length≤sizeLine∧Q .non (upd H l (.lst (xs++zs)))
theorem mt_extend:MtM X "list.extend" rExtend:=by
 intro pins s σ H x vs v us Q I rx rv h
 obtain ⟨l,b,xs,zs,rfl,rfl,hH,hB,hz,q⟩:=h
 cases rx
 obtain ⟨u,rfl,ru⟩:=rv.one
 cases ru
 obtain ⟨z,its,n,r,hl,e⟩:=I.lstM hH
 obtain ⟨z2,its2,n2,r2,hl2,e2⟩:=I.lstM hB
 have hsz:its.toArray.size + its2.toArray.size≤sizeLine:=by rw [List.size_toArray,List.size_toArray];omega
 have hlong:¬(!its.toArray.isEmpty&&Builtin.List.listTooLong (its.toArray.size + its2.toArray.size))=true:=by
  rw [notLongL hsz,Bool.and_false]
  exact Bool.false_ne_true
 refine call_meets F.slot_list_extend ⟨_,e,rfl⟩ F.entry_list_extend (F.args_list_extend_2 _ _)
  (AutoSeq1.list_extend_list_list_0 l its.toArray n b its2.toArray n2 hlong (by rw [List.size_toArray];omega) (by omega)) ⟨e,e2,?_⟩
 refine ⟨.non,_,I.lset (its':=its++its2) hH e (by simp) (r.append r2) ?_,rfl,q⟩
 rw [List.length_append]
 omega
noncomputable def rPopAt:V→List V→Hp→VK→Prop:=fun x vs H Q=>∃ l xs i k y,x=.ref l∧vs=[.int i]∧H l=some (.lst xs)∧-(2 ^ 63)≤i∧i < 2 ^ 63∧seqIndex? i xs.length=some k∧xs[k]? =some y∧Q y (upd H l (.lst (xs.eraseIdx k)))
theorem mt_popAt:MtM X "list.pop" rPopAt:=by
 intro pins s σ H x vs v us Q I rx rv h
 obtain ⟨l,xs,i,k,y,rfl,rfl,hH,h1,h2,hk,hy,q⟩:=h
 cases rx
 obtain ⟨u,rfl,ru⟩:=rv.one
 obtain ⟨t,rfl⟩:=ru
 obtain ⟨z,its,n,r,hl,e⟩:=I.lstM hH
 obtain ⟨w,hw,rw'⟩:=r.get hy
 refine call_meets F.slot_list_pop ⟨_,e,rfl⟩ F.entry_list_pop (F.args_list_pop_2 _ _)
  (MeetsSeq.list_pop_at l its.toArray n i t k w (fitsIndex_both h1 h2) (by rw [List.size_toArray,←hl];exact hk) (by rw [←Array.getElem?_toList];exact hw) (by rw [List.size_toArray];omega)) ⟨e,?_⟩
 refine ⟨y,_,I.lset (its':=its.eraseIdx k) hH e ?_ (r.eraseIdx k) ?_,rw',q⟩
 ·show its.toArray.eraseIdxIfInBounds k=(its.eraseIdx k).toArray
  rw [List.eraseIdxIfInBounds_toArray]
 ·have:=len_erase xs k
  omega
noncomputable def rCat:R2:=fun x y H Q=>∃ l b xs zs,x=.ref l∧y=.ref b∧H l=some (.lst xs)∧H b=some (.lst zs)∧xs.length + zs.length≤sizeLine∧∀ p,H p=none→Q (.ref p) (upd H p (.lst (xs++zs)))
theorem op_cat:OpR X (binaryOp .Add) rCat:=by
 intro pins s σ H x y v u Q I rx ry h
 obtain ⟨l,b,xs,zs,rfl,rfl,hH,hB,hz,q⟩:=h
 cases rx
 cases ry
 obtain ⟨z,its,n,r,hl,e⟩:=I.lstM hH
 obtain ⟨z2,its2,n2,r2,hl2,e2⟩:=I.lstM hB
 refine PySem.P.add_list e e2 ?_ (by rw [List.size_toArray,List.size_toArray];omega)
 have ea:its.toArray++its2.toArray=(its++its2).toArray:=by simp
 rw [ea]
 exact ⟨.ref _,_,I.lnew (t':=s.toks) (r.append r2) (by rw [List.length_append];omega),rfl,q _ I.fresh⟩
noncomputable def rRep:R2:=fun x y H Q=>∃ l k xs,x=.ref l∧y=.int k∧H l=some (.lst xs)∧-(2 ^ 63)≤k∧k < 2 ^ 63∧xs.length * k.toNat≤sizeLine∧
 ∀ p,H p=none→Q (.ref p) (upd H p (.lst (List.replicate k.toNat xs).flatten))
theorem len_rep {α:Type} (xs:List α) (k:Nat):(List.replicate k xs).flatten.length=k * xs.length:=by
 induction k with
 | zero=>simp
 | succ k ih=>rw [List.replicate_succ,List.flatten_cons,List.length_append,ih,Nat.succ_mul,Nat.add_comm]
theorem op_rep:OpR X (binaryOp .Mult) rRep:=by
 intro pins s σ H x y v u Q I rx ry h
 obtain ⟨l,k,xs,rfl,rfl,hH,h1,h2,hz,q⟩:=h
 cases rx
 obtain ⟨t,rfl⟩:=ry
 obtain ⟨z,its,n,r,hl,e⟩:=I.lstM hH
 have hlen:its.toArray.size * k.toNat≤sizeLine:=by rw [List.size_toArray,←hl];exact hz
 have hcap:¬its.toArray.size * k.toNat > (2 ^ 63 - 1) / 8:=by
  have:(sizeLine:Nat)≤(2 ^ 63 - 1) / 8:=by decide
  omega
 have hfit:¬(!Builtin.List.listFitsIndex k)=true:=by
  rw [fitsIndex_both h1 h2]
  exact Bool.false_ne_true
 have hlong:¬Builtin.List.listTooLong (its.toArray.size * k.toNat)=true:=by
  rw [notLongL hlen]
  exact Bool.false_ne_true
 have hnew:List.foldl (fun x1 x2=>x1++x2) #[] (List.replicate (if its.toArray.isEmpty=true then 0 else k.toNat) its.toArray)=(List.replicate k.toNat its).flatten.toArray:=by
  have f0:∀ m:Nat,List.foldl (fun x1 x2=>x1++x2) #[] (List.replicate m its.toArray)=(List.replicate m its).flatten.toArray:=fun m=>by
   have:=foldl_rep its m []
   rw [List.nil_append] at this
   exact this
  rw [f0]
  cases its with
  | nil=>simp
  | cons a r'=>rw [if_neg (by simp)]
 refine wpAny_binaryOp_repeat_ref (T:="list") (U:="int") (by decide) ⟨_,e,rfl⟩ (fun s'=>typeIs_int s' k t) noFill_list_mul F.fills_int_mul F.slot_int_rmul repeat_list F.slot_int_index.lookup
  (call_meets F.slot_int_rmul (typeIs_int s k t) F.entry_int_rmul (F.args_int_rmul_2 _ _) (int___rmul___int_list k t l its.toArray n)
   ⟨e,rfl,⟨_,e,rfl⟩,call_meets F.slot_list_mul ⟨_,e,rfl⟩ F.entry_list_mul (F.args_list_mul_2 _ _) (AutoListH.list___mul___list_int_3 l its.toArray n k t hfit hcap hlong) ⟨e,?_⟩⟩)
 rw [hnew]
 exact ⟨.ref _,_,I.lnew (t':=s.toks) (r.rep k.toNat) (by rw [len_rep,Nat.mul_comm];exact hz),rfl,q _ I.fresh⟩
end
section
variable {prog:Program} {w:World} {A:Around} {E:Value→Shared→Prop} {s:Shared}
end
section
variable {X:Cx}
end
end L2
namespace Att
open PySem PySem.W PySem.Calls PyProof.Rows
theorem ints_of_wellAll {P:Params} {h:Heap}:∀ (ns:List Int) (vs:List Value),WellAll P h vs (ns.map WData.int)→IntsAre vs ns:=by
 intro ns
 induction ns with
 | nil=>
  intro vs w
  rw [List.map_nil] at w
  cases w
  exact .nil
 | cons n ns ih=>
  intro vs w
  rw [List.map_cons] at w
  cases w with
  | cons a b=>
   cases a
   exact .cons _ _ (ih _ b)
theorem script_of {l:OpenLaw} {n:Nat} (hn:l.most=some n) {P:Params} {h:Heap} {args:List WData} {vals:List Value}
  (hpre:l.row.toRowW.claim.pre args=true) (hwl:WellAll P h vals args):
  ∃ a vs ns,vals=[Value.ref a]∧args=[WData.list (ns.map WData.int)]∧h.get? a=some { cls:=.type "list",data:=.seq vs.toArray }∧IntsAre vs ns∧ns.length≤n:=by
 have hsh:WShape.hasAll [] args [.list .int]=true:=(pre_splitW hpre).1
 have hc:l.pre.holds [] { args:=args }=true:=(pre_splitW hpre).2
 obtain ⟨d,r,rfl,h1,h2⟩:=hasAllW_cons hsh
 obtain rfl:=hasAllW_nil h2
 obtain ⟨xs,rfl,h3⟩:=hasW_list h1
 obtain ⟨ns,rfl⟩:=items_int h3
 have hlen:ns.length≤n:=by
  unfold OpenLaw.pre at hc
  have h4:(WTm.not (.lt (.lit (.int (n:Int))) (.len (.arg 0)))).holds [] { args:=[.list (ns.map .int)] }=true:=by
   have h4:=(holds_andW hc).1
   rw [hn] at h4
   exact h4
  have h5:=condW_of h4 (w_not (w_lt w_lit (w_len_list (w_arg rfl))))
  rw [List.length_map] at h5
  refine Nat.le_of_not_lt fun q=>?_
  have q':(n:Int) < ((ns.length:Nat):Int):=by omega
  first
   | (rw [decide_eq_true q'] at h5;exact absurd h5 (by decide))
   | (simp at h5;omega)
 cases hwl with
 | cons w1 w2=>
  cases w2
  cases w1 with
  | list ho hall=>exact ⟨_,_,ns,rfl,rfl,ho,ints_of_wellAll ns _ hall,hlen⟩
theorem post_true (l:OpenLaw) (args:List WData):l.row.toRowW.claim.post args (.bool true) args=true:=
 postW_of (r:=l.row.toRowW) (X:=(true==true))
  (show WShape.has [] (.bool true) .bool=true by first | rfl | decide | simp [WShape.has,WShape.arms,WShape.armsAll])
  (show (WTm.eq .res (.lit (.bool true))).value [] { args:=args,res:=some (.bool true),after:=args }=some (.bool (true==true)) from w_eq_bool (w_res rfl) w_lit) rfl
theorem attach_call {l:OpenLaw} {n:Nat} {q:Program} {loose:List Str} {XP:(Str→Option Value)→Heap→Prop} {YP:World→Heap→Prop} {d:DefRec}
  (hn:l.most=some n) (hdf:d.params.defaults=[])
  (call:∀ (w:World) (s₀ s₁:Shared) (mg mb:Str→Option Value) (fa:Addr) (o:Obj) (pm cd doc:Value) (a:Addr) (vs:List Value) (ns:List Int),
   Ground q loose [] XP w s₀ mg mb s₁.heap→YP w s₁.heap→
   s₁.heap.get? fa=some o→o.data=.func (docDef d.name d.params d.body d.scope pm cd doc)→s₁.heap.CodeRec cd d.name→mg d.name=some (.ref fa)→
   s₁.heap.get? a=some { cls:=.type "list",data:=.seq vs.toArray }→IntsAre vs ns→ns.length≤n→s₁.gens=#[]→
   codeAny (model l.prog w) callerA (.call (.ref fa) ⟨[.ref a],[]⟩) (fun r s'=>r=.ok (.ret (.bool true))∧OldK s₁.heap s'.heap∧s'.os=s₁.os∧AllBare s'.gens) s₁):
  WalkO q loose XP YP l.row.toRowW d [] (fun f vs=>PySem.call f vs):=by
 intro w s₀ s₁ mg mb G Y fa o pm cd doc dV kV ho hd hcd hD hmg hg args vals as hpre hlay hrd hwl hlo
 obtain rfl:dV=.none:=Dflts.none hD hdf
 obtain rfl:kV=.none:=Dflts.noKw hD
 obtain ⟨a,vs,ns,rfl,rfl,hobj,hints,hlen⟩:=script_of hn hpre hwl
 refine enter_call (codeAny_mono (call w s₀ s₁ mg mb fa o pm cd doc a vs ns G Y ho (fd_plain hd) hcd hmg hobj hints hlen hg) fun r s' hq=>?_)
 obtain ⟨rfl,h2,h3,h4⟩:=hq
 exact ⟨.inl ⟨.bool true,.bool true,[],rfl,fun _=>rfl,.bool true,post_true l _,fun _=>⟨List.Pairwise.nil,fun _ hm=>(nomatch hm)⟩⟩,h2,h3,h4⟩
section
variable {prog:Program} {w:World} {A:Around} {E:Value→Shared→Prop} {s:Shared} {K:Frag}
end
end Att
namespace L2
open PySem PySem.Spec PyProof.Rows
theorem vals_ints:∀ {vs:List Value} {ns:List Int},IntsAre vs ns→Vals (ns.map V.int) vs
 | _,_,.nil=>.nil
 | _,_,.cons n t h=>.cons ⟨t,rfl⟩ (vals_ints h)
noncomputable def Only (H:Hp):Prop:=∀ b,H b=none∨∃ o xs,H b=some (.frz o (.lst xs))
theorem law_call {P:Program} {w:World} {K:PySem.W.Frag} {mg mb:Str→Option Value} {CX:CXT} {k:Nat} {fa a:Addr} {fd:FuncData} {x:Str} {sp:Sp} {s₁:Shared} {vs:List Value} {ns:List Int}
  (KX:K.In s₁.heap) (hns:s₁.heap.Ns mainGlobals mg) (hb:s₁.heap.Ns builtinsNs mb) (hbb:∀ x:Str,x≠"__name__"→mb x=bootBuiltins x) (hlim:s₁.heap.NoLimit) (hg:s₁.gens=#[])
  (ha:s₁.heap.get? a=some { cls:=.type "list",data:=.seq vs.toArray }) (hi:IntsAre vs ns) (hl:ns.length≤sizeLine) (hr:Room k callerA)
  (F:∀ base:Heap,K.In base→base.Ns mainGlobals mg→FnOk P w K mg base CX k fa fd [x] sp) (hbind:∀ (s:Shared) (u:Value),BindsTo s fd ⟨[u],[]⟩ [(x,u)])
  (hsp:∀ H:Hp,Only H→SqL K H a (ns.map V.int)→sp [.ref a] H (fun v _=>v=.bl true) fun _ _ _=>False)
  (hCX:∀ H e s',CX [] H s₁ (fun _ _ _=>False) e s'→False):
  codeAny (model P w) callerA (.call (.ref fa) ⟨[.ref a],[]⟩) (fun r s'=>r=.ok (.ret (.bool true))∧OldK s₁.heap s'.heap∧s'.os=s₁.os∧AllBare s'.gens) s₁:=by
 have rv:=vals_ints hi
 have lenV:=hi.length
 have core:∀ H:Hp,Only H→SqL K H a (ns.map V.int)→HOk P w H s₁.heap→(∀ b,H b≠none→b=a)→(H a≠none→K.lookup a=none)→
   codeAny (model P w) callerA (.call (.ref fa) ⟨[.ref a],[]⟩) (fun r s'=>r=.ok (.ret (.bool true))∧OldK s₁.heap s'.heap∧s'.os=s₁.os∧AllBare s'.gens) s₁:=by
  intro H hO hS hok hA hK
  have base_of:∀ {b:Addr} {o:Obj},s₁.heap.get? b=some o→H b=none→(hidT s₁.heap H).get? b=some o:=fun e n=>hidT_get e n
  have noA:∀ {b:Addr} {o:Obj} {es:Array DictEntry} {ep:Nat},s₁.heap.get? b=some o→o.data=.dict es ep→H b=none:=fun {b o es ep} e d=>by
   cases q:H b with
   | none=>rfl
   | some u=>
    have e':b=a:=hA b (by rw [q];simp)
    subst e'
    rw [ha] at e;cases e
    have d':Data.seq vs.toArray _=Data.dict es ep:=d
    cases d'
  have nsK:∀ {b:Addr} {m:Str→Option Value},s₁.heap.Ns b m→(hidT s₁.heap H).Ns b m:=fun {b m} ⟨o,es,ep,e,d,r⟩=>⟨o,es,ep,base_of e (noA e d),d,r⟩
  have hKb:K.In (hidT s₁.heap H):=fun b o e=>base_of (KX b o e) (by
   cases q:H b with
   | none=>rfl
   | some u=>
    have e':b=a:=hA b (by rw [q];simp)
    subst e'
    rw [hK (by rw [q];simp)] at e;cases e)
  have hM:Mod K mg (hidT s₁.heap H):=⟨hKb,nsK hns,⟨mb,nsK hb,hbb⟩,let ⟨mc,h1,h2⟩:=hlim;⟨mc,nsK h1,h2⟩⟩
  have e0:Env0 P w K mg (hidT s₁.heap H) callerA [] s₁ H:=⟨rfl,hM,fun b o e=>of_hidT e,Nat.le_of_eq (hidT_size _ _),trivial,fun b hb=>absurd (show b∈([]:List Addr) from hb) (by simp),hok,.of_eq hg⟩
  refine codeAny_mono ((F _ hKb (nsK hns)).run callerA [] s₁ H ⟨[.ref a],[]⟩ [.ref a] [.ref a] _ _ hr e0 (hbind s₁ (.ref a)) (.cons rfl .nil) (hsp H hO hS)) fun r s' h=>?_
  cases r with
  | error e=>exact (hCX H e s' h).elim
  | ok fl=>
   cases fl with
   | next=>exact False.elim h
   | brk=>exact False.elim h
   | cont=>exact False.elim h
   | ret u=>
    obtain ⟨v,H',os,bare,un,hok',r',q⟩:=h
    have q':v=.bl true:=q
    subst q'
    obtain rfl:u=Value.bool true:=r'
    refine ⟨rfl,OldK.of_keep fun b o e=>?_,os,bare⟩
    cases q:H b with
    | none=>exact un.keep b o e q (by intro z;exact absurd (show b∈([]:List Addr) from z) (by simp)) (by simp)
    | some u=>
     rcases hO b with z | ⟨ob,xs,z⟩
     ·rw [q] at z;cases z
     ·have z2:=un.frzs b ob _ z
      obtain ⟨e1,_⟩:=hok b _ z
      obtain ⟨e2,_⟩:=hok' b _ z2
      rw [e] at e1;cases e1
      exact e2
 cases hk:K.lookup a with
 | some o=>
  have e:=KX a o hk
  rw [ha] at e
  cases e
  refine core (fun _=>none) (fun _=>.inl rfl) (.inr ⟨_,vs.toArray,_,hk,rfl,rfl,rfl,by rw [List.size_toArray,lenV];exact hl,by simpa using rv⟩) (fun b u z=>by have z':(none:Option HO)=some u:=z;cases z') (fun b z=>absurd rfl z) fun z=>absurd rfl z
 | none=>
  refine core (fun b=>if b=a then some (.frz { cls:=.type "list",data:=.seq vs.toArray } (.lst (ns.map V.int))) else none) (fun b=>?_) (.inl (.inr ⟨{ cls:=.type "list",data:=.seq vs.toArray },if_pos rfl⟩)) (fun b u z=>?_) (fun b z=>?_) fun _=>hk
  ·by_cases hb:b=a
   ·exact .inr ⟨_,_,if_pos hb⟩
   ·exact .inl (if_neg hb)
  ·by_cases hb:b=a
   ·have z':=(if_pos hb).symm.trans z
    cases z'
    subst hb
    exact ⟨ha,by rw [List.length_map];exact hl,vs,_,rv,ha⟩
   ·have z':=(if_neg hb).symm.trans z
    cases z'
  ·by_cases hb:b=a
   ·exact hb
   ·exact absurd (if_neg hb) z
end L2
namespace L2
open PySem PySem.Spec PyProof.Rows
noncomputable abbrev KOf {K:PySem.W.Frag} {h:Heap} (_:K.In h):PySem.W.Frag:=K
theorem walk_of {l:PySem.W.OpenLaw} {n k:Nat} {q:Program} {loose:List Str} {XP:(Str→Option Value)→Heap→Prop} {YP:World→Heap→Prop} {d:DefRec} {K:Params→PySem.W.Frag} {CX:World→CXT} {sp:World→Sp} {x:Str}
  (hn:l.most=some n) (hn2:n≤sizeLine) (hdf:d.params.defaults=[]) (hr:Room k callerA)
  (hY:∀ (w:World) (h:Heap),YP w h→(K w.params).In h)
  (F:∀ (w:World) (mg:Str→Option Value) (fa:Addr) (h:Heap),(K w.params).In h→h.Ns mainGlobals mg→mg d.name=some (.ref fa)→
   ∃ fd:FuncData,(∀ (s:Shared) (u:Value),BindsTo s fd ⟨[u],[]⟩ [(x,u)])∧
    ∀ base:Heap,(K w.params).In base→base.Ns mainGlobals mg→FnOk l.prog w (K w.params) mg base (CX w) k fa fd [x] (sp w))
  (hsp:∀ (w:World) (H:Hp) (a:Addr) (ns:List Int),ns.length≤n→Only H→SqL (K w.params) H a (ns.map V.int)→sp w [.ref a] H (fun v _=>v=.bl true) fun _ _ _=>False)
  (hCX:∀ (w:World) (H:Hp) (s:Shared) (e:Value) (s':Shared),CX w [] H s (fun _ _ _=>False) e s'→False):
  PySem.W.WalkO q loose XP YP l.row.toRowW d [] (fun f vs=>PySem.call f vs):=by
 refine Att.attach_call hn hdf fun w s₀ s₁ mg mb fa o pm cd doc a vs ns G Y ho hd hcd hmg hobj hints hlen hg=>?_
 have KX:=hY w _ Y
 obtain ⟨fd,hb,hF⟩:=F w mg fa _ KX G.T.g hmg
 exact law_call KX G.T.g G.T.b G.T.builtins G.T.nolimit hg hobj hints (Nat.le_trans hlen hn2) hr hF hb (fun H hO hS=>hsp w H a ns hlen hO hS) fun H e s'=>hCX w H s₁ e s'
end L2
namespace L2
open PySem PySem.Spec PyProof.Rows
noncomputable def defArgs (s:Stmt):Arguments:=match s with
 | .FunctionDef _ a _ _ _ _ _ _ _ _=>a
 | _=>{ posonlyargs:=[],args:=[],vararg:=none,kwonlyargs:=[],kw_defaults:=[],kwarg:=none,defaults:=[] }
noncomputable def defBody (s:Stmt):List Stmt:=match s with
 | .FunctionDef _ _ b _ _ _ _ _ _ _=>b
 | _=>[]
noncomputable def defScope (s:Stmt):Scope:=match s with
 | .FunctionDef _ _ _ _ _ _ sc _ _ _=>sc
 | _=>{ kind:=.function,names:=[],isGenerator:=false,isCoroutine:=false }
noncomputable abbrev CX0:CXT:=fun _ _ _ _ _ _=>False
noncomputable abbrev E0:XK:=fun _ _ _=>False
theorem pass0 {X:Cx}:Passes CX0 X E0:=fun _ _ _ _ _ _ _ h=>h.elim
structure Fun (K:PySem.W.Frag) (x qual:Str) (st:Stmt) (f:Addr) (fd:FuncData):Prop where
 ex:∃ (oc:Value) (od:Option Addr) (kV doc pm:Value) (an:Option Addr) (cdv ct:Value) (osl:Array (Option Value)),
  fd=PySem.W.fnOf x qual (defArgs st) (defBody st) (defScope st) .none kV doc pm an cdv ct∧K.lookup f=some ⟨oc,od,.func fd,osl⟩∧PySem.W.codeIn K cdv qual=true
 kp:PySem.W.keepIn K (.ref f)=true
section
variable {P:Program} {w:World} {K:PySem.W.Frag} {mg:Str→Option Value} {base:Heap}
theorem Fun.ok {x qual:Str} {st:Stmt} {f:Addr} {fd:FuncData} {N ps:List Str} {k:Nat} {sp:Sp} (F:Fun K x qual st f fd) (S:FnScope N ps (defScope st)) (len:∀ vs H Q E,sp vs H Q E→vs.length=ps.length)
  (hbody:∀ (cdv:Value) (A:Around) (outer:List Env) (s:Shared) (H:Hp) (vs:List V) (Q:VK) (E:XK),Room k (A.deeper (envOfC qual (defScope st) s.heap.objs.size f cdv))→sp vs H Q E→
   ∃ t,PSs (cxOf CX0 P w K mg base N qual (defScope st) f cdv A outer s H E).nox (defBody st) t∧t { nx:=fun _ H'=>Q .non H',rt:=Q } (start N vs) H):FnOk P w K mg base CX0 (k + 1) f fd ps sp:=by
 obtain ⟨oc,od,kV,doc,pm,an,cdv,ct,osl,rfl,lk,hcd⟩:=F.ex
 refine fn_of lk hcd S len fun A outer s H vs Q E hr hsp=>?_
 obtain ⟨t,h,q⟩:=hbody cdv A outer s H vs Q E hr hsp
 exact ⟨t,h.nox,q⟩
theorem Fun.binds {x qual:Str} {st:Stmt} {f:Addr} {fd:FuncData} {ps:List Str} (F:Fun K x qual st f fd)
  (h:∀ (kV doc pm:Value) (an:Option Addr) (cdv ct:Value) (us:List Value),us.length=ps.length→bindArgs (PySem.W.fnOf x qual (defArgs st) (defBody st) (defScope st) .none kV doc pm an cdv ct) ⟨us,[]⟩=pure (ps.zip us)):Binds K fd ps []:=by
 obtain ⟨oc,od,kV,doc,pm,an,cdv,ct,osl,rfl,lk,hcd⟩:=F.ex
 exact .all (h kV doc pm an cdv ct)
theorem fun_mk {x qual:Str} {st:Stmt} {f:Addr} {oc:Value} {od an:Option Addr} {osl:Array (Option Value)} {kV doc pm cdv ct:Value} (l:K.lookup f=some ⟨oc,od,.func (PySem.W.fnOf x qual (defArgs st) (defBody st) (defScope st) .none kV doc pm an cdv ct),osl⟩)
  (c:PySem.W.codeIn K cdv qual=true) (k:PySem.W.keepIn K (.ref f)=true):Fun K x qual st f (PySem.W.fnOf x qual (defArgs st) (defBody st) (defScope st) .none kV doc pm an cdv ct):=⟨⟨oc,od,kV,doc,pm,an,cdv,ct,osl,rfl,l,c⟩,k⟩
end
theorem hu_of {A:Around} {k:Nat} (hr:Room k A):A.units + 1 < cLine:=Nat.lt_of_le_of_lt (Nat.add_le_add_left (by decide:1≤64) _) hr.units
theorem small1000 {n:Nat} (h:n≤1000):n < sizeLine:=Nat.lt_of_le_of_lt h (by decide)
section
variable {X:Cx}
theorem pv (i:Nat) {x:Str} {pos:Pos} (hN:X.N[i]? =some x:=by rfl) (hv:Vis X.env.scope x:=by first | exact Or.inl rfl | exact Or.inr (Or.inl rfl) | exact Or.inr (Or.inr rfl)) (hd:(x==("__debug__":Str))=false:=by decide)
  (hcd:(x==("__classdict__":Str))=false:=by decide):PE X (.Name x pos) (tVar i):=pe_var hN hv hd hcd
end
theorem iteF {A B:Prop} (h:B):if false=true then A else B:=by
 rw [if_neg Bool.false_ne_true]
 exact h
theorem iteT {A B:Prop} (h:A):if true=true then A else B:=by
 rw [if_pos rfl]
 exact h
noncomputable def Same (H H':Hp):Prop:=∀ b o,H b=some o→H' b=some o
theorem Same.refl (H:Hp):Same H H:=fun _ _ h=>h
theorem Same.trans {H H1 H2:Hp} (a:Same H H1) (b:Same H1 H2):Same H H2:=fun c o h=>b c o (a c o h)
theorem Same.free {H H':Hp} (e:Same H H') {l:Addr} (h:H' l=Option.none):H l=Option.none:=by
 cases q:H l with
 | none=>rfl
 | some o=>
  rw [e l o q] at h
  cases h
theorem Same.seq {K:PySem.W.Frag} {H H':Hp} {a:Addr} {xs:List V} (e:Same H H') (h:SqL K H a xs):SqL K H' a xs:=by
 rcases h with (h | ⟨o,h⟩) | h
 ·exact .inl (.inl (e _ _ h))
 ·exact .inl (.inr ⟨o,e _ _ h⟩)
 ·exact .inr h
end L2
namespace L2
open PySem PySem.Spec PyProof.Rows
noncomputable def closL (env:Env):List (Str×NameKind)→List (Str×Addr)→List (Str×Addr)
 | [],cs=>cs
 | (n,k)::r,cs=>closL env r (if k==.free then (match env.cells.lookup n with | some a=>(n,a)::cs | none=>cs) else cs)
noncomputable def FrOk (env:Env):List (Str×NameKind)→Prop
 | []=>True
 | (n,k)::r=>(match k with | .free=>(env.kindOf n=some .cell∨env.kindOf n=some .free) | .cell=>False | _=>True)∧FrOk env r
theorem FrOk.free {env:Env}:∀ {ns:List (Str×NameKind)} {n:Str},FrOk env ns→(n,NameKind.free)∈ns→env.kindOf n=some .cell∨env.kindOf n=some .free
 | [],_,_,h=>by cases h
 | (m,k)::r,n,f,h=>by
  obtain ⟨a,b⟩:=f
  rcases List.mem_cons.mp h with e | e
  ·cases e;exact a
  ·exact b.free e
theorem FrOk.nocell {env:Env}:∀ {ns:List (Str×NameKind)},FrOk env ns→∀ y∈ns,y.2≠.cell
 | [],_,_,h=>by cases h
 | (m,k)::r,f,y,h=>by
  obtain ⟨a,b⟩:=f
  rcases List.mem_cons.mp h with e | e
  ·subst e
   intro e
   have e':k=.cell:=e
   subst e'
   exact a
  ·exact b.nocell y e
theorem closure_go {env:Env}:∀ (ns:List (Str×NameKind)) (cs:List (Str×Addr)),(∀ n,(n,NameKind.free)∈ns→∃ a,env.cells.lookup n=some a)→
  (forIn (m:=Sem) ns cs fun x r=>match x with | (name,kind)=>(if (kind==NameKind.free)=true then (do let a ←cellOf env name;pure (ForInStep.yield ((name,a)::r))) else pure (ForInStep.yield r)))=pure (closL env ns cs)
 | [],cs,_=>rfl
 | (n,k)::r,cs,h=>by
  rw [List.forIn_cons]
  cases hk:(k==NameKind.free) with
  | false=>
   simp only [hk,Bool.false_eq_true,if_false]
   rw [pure_bind]
   show forIn (m:=Sem) r cs _=pure (closL env r (if (k==NameKind.free)=true then _ else cs))
   rw [hk]
   exact closure_go r cs fun n hn=>h n (List.mem_cons_of_mem _ hn)
  | true=>
   have ek:k=.free:=by simpa using hk
   subst ek
   obtain ⟨a,ha⟩:=h n List.mem_cons_self
   simp only [hk,if_true]
   unfold cellOf
   rw [ha]
   simp only [pure_bind]
   show forIn (m:=Sem) r ((n,a)::cs) _=pure (closL env r (if (NameKind.free==NameKind.free)=true then (match env.cells.lookup n with | some a=>(n,a)::cs | none=>cs) else cs))
   rw [hk,if_pos rfl,ha]
   exact closure_go r _ fun n hn=>h n (List.mem_cons_of_mem _ hn)
theorem closure_eq {env:Env} {sc:Scope} (h:∀ n,(n,NameKind.free)∈sc.names→∃ a,env.cells.lookup n=some a):closureFor sc env=pure (closL env sc.names []):=by
 unfold closureFor
 exact (congrArg (fun z=>z >>=fun r=>pure r) (closure_go sc.names [] h)).trans (by simp)
theorem closL_sub {env:Env}:∀ {ns:List (Str×NameKind)} {cs:List (Str×Addr)},(∀ x c,cs.lookup x=some c→env.cells.lookup x=some c)→∀ x c,(closL env ns cs).lookup x=some c→env.cells.lookup x=some c
 | [],_,h,x,c,e=>h x c e
 | (n,k)::r,cs,h,x,c,e=>by
  refine closL_sub (ns:=r) (fun y d q=>?_) x c e
  by_cases hk:(k==NameKind.free)=true
  ·rw [if_pos hk] at q
   cases hn:env.cells.lookup n with
   | none=>rw [hn] at q;exact h y d q
   | some a=>
    rw [hn] at q
    simp only [List.lookup_cons] at q
    cases hy:(y==n) with
    | true=>
     rw [hy] at q
     have:y=n:=by simpa using hy
     subst this
     rw [hn];exact q
    | false=>rw [hy] at q;exact h y d q
  ·rw [if_neg hk] at q;exact h y d q
theorem closL_has {env:Env}:∀ {ns:List (Str×NameKind)} {cs:List (Str×Addr)} {x:Str},((∃ c,cs.lookup x=some c)∨((x,NameKind.free)∈ns∧∃ a,env.cells.lookup x=some a))→∃ c,(closL env ns cs).lookup x=some c
 | [],cs,x,h=>by
  rcases h with h | ⟨h,_⟩
  ·exact h
  ·cases h
 | (n,k)::r,cs,x,h=>by
  refine closL_has (ns:=r) ?_
  rcases h with ⟨c,h⟩ | ⟨h,a,ha⟩
  ·left
   by_cases hk:(k==NameKind.free)=true
   ·rw [if_pos hk]
    cases hn:env.cells.lookup n with
    | none=>exact ⟨c,h⟩
    | some a=>
     simp only [List.lookup_cons]
     cases hy:(x==n) with
     | true=>exact ⟨a,rfl⟩
     | false=>exact ⟨c,h⟩
   ·rw [if_neg hk];exact ⟨c,h⟩
  ·rcases List.mem_cons.mp h with e | e
   ·left
    cases e
    rw [if_pos (by rfl),ha]
    exact ⟨a,by simp⟩
   ·exact .inr ⟨e,a,ha⟩
theorem lookup_mem {α:Type}:∀ {ns:List (Str×α)} {x:Str} {k:α},ns.lookup x=some k→(x,k)∈ns
 | [],_,_,h=>by cases h
 | (n,j)::r,x,k,h=>by
  simp only [List.lookup_cons] at h
  cases hx:(x==n) with
  | true=>
   rw [hx] at h
   cases h
   have:x=n:=by simpa using hx
   subst this
   exact List.mem_cons_self
  | false=>rw [hx] at h;exact List.mem_cons_of_mem _ (lookup_mem h)
noncomputable def rlb (env:Env) (p:Str×NameKind):Str×NameKind:=if (p.2==NameKind.free&&env.scope.kind==.function&&env.kindOf p.1==some .cell) then (p.1,NameKind.cell) else (p.1,p.2)
theorem rlb_fst (env:Env) (p:Str×NameKind):(rlb env p).1=p.1:=by
 unfold rlb
 split <;> rfl
theorem rlb_free (env:Env) (n:Str):(rlb env (n,.free)).2=.cell∨(rlb env (n,.free)).2=.free:=by
 unfold rlb
 split
 ·exact .inl rfl
 ·exact .inr rfl
theorem rlb_back (env:Env) (p:Str×NameKind) (hn:p.2≠.cell) (h:(rlb env p).2=.cell∨(rlb env p).2=.free):p.2=.free:=by
 unfold rlb at h
 split at h
 ·rename_i hc
  have h1:=(Bool.and_eq_true _ _).mp hc
  have h2:=(Bool.and_eq_true _ _).mp h1.1
  simpa using h2.1
 ·rcases h with h | h
  ·exact absurd h hn
  ·exact h
theorem lookup_consP {α:Type} (x:Str) (p:Str×α) (r:List (Str×α)):(p::r).lookup x=if (x==p.1)=true then some p.2 else r.lookup x:=by
 obtain ⟨n,k⟩:=p
 rw [List.lookup_cons]
 cases (x==n) <;> rfl
theorem relabel_free {env:Env}:∀ {names:List (Str×NameKind)} {x:Str},names.lookup x=some .free→(names.map (rlb env)).lookup x=some .cell∨(names.map (rlb env)).lookup x=some .free
 | [],_,h=>by cases h
 | (n,k)::r,x,h=>by
  have ih:=@relabel_free env r x
  rw [List.map_cons,lookup_consP,rlb_fst]
  rw [lookup_consP] at h
  by_cases hx:(x==n)=true
  ·rw [if_pos hx] at h ⊢
   cases h
   rcases rlb_free env n with e | e
   ·exact .inl (congrArg some e)
   ·exact .inr (congrArg some e)
  ·rw [if_neg hx] at h ⊢
   exact ih h
theorem relabel_back {env:Env}:∀ {names:List (Str×NameKind)} {x:Str},(∀ y∈names,y.2≠.cell)→((names.map (rlb env)).lookup x=some .cell∨(names.map (rlb env)).lookup x=some .free)→(x,NameKind.free)∈names
 | [],_,_,h=>by rcases h with h | h <;> cases h
 | (n,k)::r,x,hn,h=>by
  have ih:=@relabel_back env r x (fun y hy=>hn y (List.mem_cons_of_mem _ hy))
  rw [List.map_cons,lookup_consP,rlb_fst] at h
  by_cases hx:(x==n)=true
  ·rw [if_pos hx] at h
   have ex:x=n:=by simpa using hx
   subst ex
   have e:=rlb_back env (x,k) (hn _ List.mem_cons_self) (h.imp Option.some.inj Option.some.inj)
   have e':k=.free:=e
   subst e'
   exact List.mem_cons_self
  ·rw [if_neg hx] at h
   exact List.mem_cons_of_mem _ (ih h)
noncomputable def blk (X:Cx) (sc:Scope) (M:List Str) (C:Addr) (fp:List Addr) (s:Shared) (H:Hp):Cx:=
 { X with N:=M,s₀:=s,H₀:=H,env:=compEnvC sc (closL X.env sc.names []) C X.env,outer:=X.stack,stack:=X.stack,ex:=fp,fn:=fun _=>false,pn:=[],xe:=fun _ _=>False }
inductive FmOk (N:List Str) (sc:Scope):List Str→List (Option Nat)→Prop
 | nil:FmOk N sc [] []
 | own {x M fm}:FmOk N sc M fm→FmOk N sc (x::M) (none::fm)
 | free {x M fm} (j:Nat):N[j]? =some x→sc.names.lookup x=some .free→FmOk N sc M fm→FmOk N sc (x::M) (some j::fm)
noncomputable def fmSt (fm:List (Option Nat)) (σ:St):St:=fm.map fun o=>match o with | none=>none | some j=>(σ[j]?).join
theorem FmOk.len {N:List Str} {sc:Scope}:∀ {M:List Str} {fm:List (Option Nat)},FmOk N sc M fm→fm.length=M.length
 | _,_,.nil=>rfl
 | _,_,.own h=>by simp [h.len]
 | _,_,.free _ _ _ h=>by simp [h.len]
theorem FmOk.get {N:List Str} {sc:Scope} {σ:St}:∀ {M:List Str} {fm:List (Option Nat)} {i:Nat} {x:Str} {v:V},FmOk N sc M fm→M[i]? =some x→(fmSt fm σ)[i]? =some (some v)→∃ (j:Nat),N[j]? =some x∧sc.names.lookup x=some .free∧σ[j]? =some (some v)
 | _,_,i,x,v,.nil,e,_=>by simp at e
 | _,_,0,x,v,.own h,e,q=>by simp [fmSt] at q
 | _,_,0,x,v,.free j a b h,e,q=>by
  simp at e
  subst e
  refine ⟨j,a,b,?_⟩
  have q':(σ[j]?).join=some v:=by simpa [fmSt] using q
  cases hs:σ[j]? with
  | none=>rw [hs] at q';cases q'
  | some o=>
   rw [hs] at q'
   have:o=some v:=q'
   rw [this]
 | _,_,i + 1,x,v,.own h,e,q=>h.get (i:=i) (by simpa using e) (by simpa [fmSt] using q)
 | _,_,i + 1,x,v,.free j a b h,e,q=>h.get (i:=i) (by simpa using e) (by simpa [fmSt] using q)
section
variable {X:Cx} {pins:List (Addr×Obj)} {σ:St} {H:Hp} {s:Shared} {sc:Scope} {M:List Str} {C:Addr} {fp:List Addr}
theorem blk_ok (I:Inv X pins σ H s) (hf:∀ b∈fp,FpOk X pins H b) (hl:∀ b∈fp,b < s.heap.objs.size) (hC:s.heap.objs.size≤C) (fr:FrOk X.env sc.names) (hk:sc.kind=.function):(blk X sc M C fp s H).Ok where
 mod:=I.ok.mod
 kind:=hk
 glob:=I.ok.glob
 blt:=I.ok.blt
 above:=hC
 inj:=fun x y c e1 e2=>I.ok.inj x y c (closL_sub (fun _ _ z=>by cases z) x c e1) (closL_sub (fun _ _ z=>by cases z) y c e2)
 has:=fun x h=>by
  have hm:(x,NameKind.free)∈sc.names:=relabel_back (env:=X.env) fr.nocell h
  exact closL_has (.inr ⟨hm,I.ok.has x (fr.free hm)⟩)
 cab:=fun x c h _=>by cases h
 hd:=I.ok.hd
 frames:=I.ok.frames
 stk:=.inl rfl
 exf:=fun b hb=>⟨Nat.ne_of_lt (Nat.lt_of_lt_of_le (hl b hb) hC),fun x c e=>(hf b hb).2.2.2.2.1 x c (closL_sub (fun _ _ z=>by cases z) x c e)⟩
 bs:=I.bs
 bsz:=Nat.le_trans I.ok.bsz I.sz
 noex:=fun b o e hb=>by
  rcases (hf b hb).2.2.2.1 with z | z
  ·exact I.ok.noex b o e z
  ·exact absurd (Nat.lt_of_lt_of_le (Heap.lt_size (I.ok.bs b o e).1) z) (Nat.lt_irrefl _)
 exfs:=fun b hb hs=>by
  rcases List.mem_cons.mp (I.stkSub b hs) with e | e
  ·exact (hf b hb).2.1 e
  ·exact (hf b hb).2.2.1 e
 funs:=I.stack
 frf:=I.stkFree
theorem blk_in {h₁:Heap} {t:Nat} {pl:List (Addr×Obj)} {m:Str→Option Value} {fm:List (Option Nat)} (I:Inv X pins σ H s) (hf:∀ b∈fp,FpOk X pins H b) (hl:∀ b∈fp,b < s.heap.objs.size) (hC:s.heap.objs.size≤C) (fr:FrOk X.env sc.names) (hk:sc.kind=.function)
  (hfm:FmOk X.N sc M fm) (k:∀ b o,s.heap.get? b=some o→h₁.get? b=some o) (hn:h₁.Ns C m)
  (hp:∀ p∈pl,h₁.get? p.1=some p.2∧H p.1=none∧p.1≠C∧p.1∉frs X.stack∧∀ v,p.2.data≠.cell v):Inv (blk X sc M C fp s H) pl (fmSt fm σ) H { s with heap:=h₁,toks:=t } where
 ok:=blk_ok I hf hl hC fr hk
 os:=rfl
 bare:=I.bare
 base:=Un.kept k
 loc:=⟨m,hn,fun i x v e1 e2 e3=>by
  obtain ⟨j,a,b,c⟩:=hfm.get e1 e2
  obtain ⟨m',hn',hl'⟩:=I.loc
  have hm:=lookup_mem b
  have hk':=fr.free hm
  have vis:Vis X.env.scope x:=by
   rcases hk' with z | z
   ·exact .inr (.inl z)
   ·exact .inr (.inr z)
  obtain ⟨u,r,l⟩:=hl' j x v a c vis
  refine ⟨u,r,.inr ⟨relabel_free b,?_⟩⟩
  rcases l with ⟨z,_⟩ | ⟨_,cc,hcc,hcell⟩
  ·rcases hk' with y | y <;> (rw [z] at y;cases y)
  ·obtain ⟨c2,e2⟩:=closL_has (env:=X.env) (ns:=sc.names) (cs:=[]) (x:=x) (.inr ⟨hm,cc,hcc⟩)
   have e3:=closL_sub (fun _ _ z=>by cases z) x c2 e2
   rw [hcc] at e3
   cases e3
   refine ⟨cc,e2,?_⟩
   obtain ⟨o,ho,hd⟩:=hcell
   exact ⟨o,k _ _ ho,hd⟩⟩
 cell:=fun x c e=>by
  obtain ⟨v,o,ho,hd⟩:=I.cell x c (closL_sub (fun _ _ z=>by cases z) x c e)
  exact ⟨v,o,k _ _ ho,hd⟩
 free:=I.hok.fresh hC
 freeC:=fun x c e=>I.freeC x c (closL_sub (fun _ _ z=>by cases z) x c e)
 pin:=fun p hp'=>by
  have hp':p∈pl:=by simpa [blk] using hp'
  exact hp p hp'
 hok:=I.hok.kept k
 len:=by simp [fmSt,hfm.len,blk]
end
end L2
namespace L2
open PySem PySem.Spec PyProof.Rows
theorem compLoop_any {prog:Program} {w:World} {A:Around} {R:Result→Shared→Prop} {s:Shared} {elt target iter:Expr} {ifs:List Expr} {scope:Scope} {pos:Pos} {it acc:Value} {env:Env} (I:Nat→Shared→Prop)
  (turn:∀ n s,I n s→wpAny (model prog w) A (pyNext it) (fun r s₁=>match r with
   | none=>R (.ok .next) s₁
   | some v=>wpAny (model prog w) A (letOwnedTupleGo target it v) (fun _ s₁'=>wpAny (model prog w) A (assign target env v) (fun _ s₂=>
     wpAny (model prog w) A (forIn ifs true fun c r=>if r=true then do let ok ←isTrue c env (eval c env);pure (ForInStep.yield ok) else pure (ForInStep.yield r)) (fun ok s₃=>
      if ok=true then wpAny (model prog w) A (eval elt env) (fun x s₄=>
       wpAny (model prog w) A (call (.builtin "list.append") [acc,x]) (fun _ s₅=>∃ m,m < n∧I m s₅) (fun _ _=>False) s₄) (fun _ _=>False) s₃
      else ∃ m,m < n∧I m s₃) (fun _ _=>False) s₂) (fun _ _=>False) s₁') (fun _ _=>False) s₁) (fun _ _=>False) s)
  (n:Nat) (h:I n s):
  codeAny (model prog w) A (.compLoop (.ListComp elt [⟨target,iter,ifs,0⟩] scope pos) 0 it acc env) R s:=by
 refine codeAny_loop rfl I (fun n s hI=>?_) n h
 show wpAny _ A ((compTurn (.ListComp elt [⟨target,iter,ifs,0⟩] scope pos) 0 it acc env).onRaise (fun x=>do noteFrame x env;theTreesLotGoes x)) _ _ s
 refine wpAny_noted ?_
 rw [compTurn_list]
 refine wpAny_bind (wpAny_standAt (wpAny_bind (wpAny_mono (turn n s hI) (fun r s₁ h₁=>?_) fun _ _ h'=>h'.elim)))
 cases r with
 | none=>exact wpAny_pure h₁
 | some v=>
  refine wpAny_bind (wpAny_mono h₁ (fun _ s₁' h₁'=>?_) fun _ _ h'=>h'.elim)
  refine wpAny_bind (wpAny_mono h₁' (fun _ s₂ h₂=>wpAny_bind (wpAny_mono h₂ (fun ok s₃ h₃=>?_) fun _ _ h'=>h'.elim)) fun _ _ h'=>h'.elim)
  cases ok with
  | false=>exact wpAny_pure ⟨rfl,h₃⟩
  | true=>
   exact wpAny_bind (wpAny_bind (wpAny_mono h₃ (fun x s₄ h₄=>wpAny_bind (wpAny_mono h₄ (fun _ s₅ h₅=>wpAny_pure (wpAny_pure ⟨rfl,h₅⟩)) fun _ _ h'=>h'.elim)) fun _ _ h'=>h'.elim))
noncomputable def PIf (X:Cx) (ifs:List Expr) (t:TT):Prop:=
 ∀ (pins:List (Addr×Obj)) (s:Shared) (σ:St) (H:Hp) (Q:Bool→Hp→Prop),Inv X pins σ H s→t σ H Q→
  wpAny (model X.prog X.w) X.A (forIn ifs true fun c r=>if r=true then do let ok ←isTrue c X.env (eval c X.env);pure (ForInStep.yield ok) else pure (ForInStep.yield r)) (TP X pins σ Q) X.xe s
noncomputable def tYes:TT:=fun _ H Q=>Q true H
theorem pif_nil {X:Cx}:PIf X [] tYes:=fun pins s σ H Q I h=>wpAny_tests_nil ⟨H,I,h⟩
theorem pif_one {X:Cx} {c:Expr} {t:TT} (h:PT X c t):PIf X [c] t:=fun pins s σ H Q I hw=>wpAny_tests_one (h pins s σ H Q I hw)
noncomputable def GK (fm:List (Option Nat)) (g:TG):Prop:=∀ (x:V) (σ:St) (H:Hp) (Q:St→Hp→Prop),g x σ H Q→g x σ H fun σ' H'=>Q σ' H'∧∀ (i j:Nat),fm[i]? =some (some j)→σ'[i]? =σ[i]?
noncomputable def GKs (fm:List (Option Nat)) (g:TGs):Prop:=∀ (xs:List V) (σ:St) (H:Hp) (Q:St→Hp→Prop),g xs σ H Q→g xs σ H fun σ' H'=>Q σ' H'∧∀ (i j:Nat),fm[i]? =some (some j)→σ'[i]? =σ[i]?
theorem gk_name {fm:List (Option Nat)} {i:Nat} (h:fm[i]? =some none):GK fm (gName i):=fun x σ H Q q=>⟨q,fun i' j e=>by
 by_cases hi:i=i'
 ·subst hi;rw [h] at e;cases e
 ·exact List.getElem?_set_ne hi⟩
theorem gks_nil {fm:List (Option Nat)}:GKs fm gNil:=fun xs σ H Q ⟨e,q⟩=>⟨e,q,fun _ _ _=>rfl⟩
theorem gks_cons {fm:List (Option Nat)} {i:Nat} {u:TGs} (h:fm[i]? =some none) (h2:GKs fm u):GKs fm (gCons (gName i) u):=fun xs σ H Q ⟨v,r,e,q⟩=>⟨v,r,e,by
 have q2:=h2 r (σ.set i (some v)) H Q q
 have mono:∀ (σ0 σ1:St),σ1=σ0.set i (some v)→(u r σ1 H fun σ' H'=>Q σ' H'∧∀ (i j:Nat),fm[i]? =some (some j)→σ'[i]? =σ1[i]?)=(u r σ1 H fun σ' H'=>Q σ' H'∧∀ (i j:Nat),fm[i]? =some (some j)→σ'[i]? =σ0[i]?):=fun σ0 σ1 e1=>by
  subst e1
  congr 1
  funext σ' H'
  apply propext
  constructor
  ·rintro ⟨a,b⟩
   refine ⟨a,fun i' j e=>(b i' j e).trans ?_⟩
   by_cases hi:i=i'
   ·subst hi;rw [h] at e;cases e
   ·exact List.getElem?_set_ne hi
  ·rintro ⟨a,b⟩
   refine ⟨a,fun i' j e=>(b i' j e).trans ?_⟩
   by_cases hi:i=i'
   ·subst hi;rw [h] at e;cases e
   ·exact (List.getElem?_set_ne hi).symm
 show u r (σ.set i (some v)) H _
 rw [←mono σ _ rfl]
 exact q2⟩
theorem gk_tup {K:PySem.W.Frag} {fm:List (Option Nat)} {n:Nat} {t:TGs} (h:GKs fm t):GK fm (gTup K n t):=fun x σ H Q ⟨a,xs,e,q,l,r⟩=>⟨a,xs,e,q,l,h xs σ H Q r⟩
theorem fm_slot {fm:List (Option Nat)} {σ:St} {i:Nat} {v:V} (e:(fmSt fm σ)[i]? =some (some v)):∃ j,fm[i]? =some (some j):=by
 unfold fmSt at e
 rw [List.getElem?_map] at e
 cases h:fm[i]? with
 | none=>rw [h] at e;cases e
 | some o=>
  cases o with
  | none=>rw [h] at e;cases e
  | some j=>exact ⟨j,rfl⟩
noncomputable def tLC (wi:TI) (fm:List (Option Nat)) (g:TG) (tt:TT) (te:TE):TE:=fun σ H Q=>wi σ H fun J H1=>∃ W:Nat→Nat→List V→Hp→Prop,(∃ m,W 0 m [] H1)∧∀ i m ys H,W i m ys H→
 (J.stop i H∧∀ p,H p=none→Q (.ref p) (upd H p (.lst ys)))∨
 (J.go i H∧ys.length < sizeLine∧∃ N:List V→Hp→Prop,(∀ ys' H',N ys' H'→∃ m',m' < m∧W (i + 1) m' ys' H')∧
  ∀ x H',J.yld i H x H'→g x (fmSt fm σ) H' fun σ2 H2=>tt σ2 H2 fun ok H3=>if ok=true then te σ2 H3 fun v H4=>N (ys++[v]) H4 else N ys H3)
section
variable {X:Cx} {pins:List (Addr×Obj)} {σ:St} {sc:Scope} {M:List Str} {fm:List (Option Nat)} {tg iter elt:Expr} {ifs:List Expr} {pos:Pos} {g:TG} {tt:TT} {te:TE}
theorem comp_core {it:Addr} {fp:List Addr} {tn:Nat→Heap→Prop} {J:It} {H2:Hp} {s2:Shared} {E:Value→Shared→Prop} {RR:Value→Addr→Result→Shared→Prop} {Q:VK} (hc:X.calm=true)
  (I2:Inv X pins σ H2 s2) (T:Turn X.prog X.w X.K tg J fp it tn) (st:tn 0 s2.heap) (hf:∀ b∈fp,FpOk X pins H2 b) (fr:FrOk X.env sc.names) (hk:sc.kind=.function) (hfm:FmOk X.N sc M fm) (hgk:GK fm g)
  (hB:∀ C fp s H,PG (blk X sc M C fp s H) tg g∧PIf (blk X sc M C fp s H) ifs tt∧PE (blk X sc M C fp s H) elt te)
  (W:Nat→Nat→List V→Hp→Prop) (hw:∃ m,W 0 m [] H2)
  (turn:∀ i m ys H,W i m ys H→(J.stop i H∧∀ p,H p=none→Q (.ref p) (upd H p (.lst ys)))∨
   (J.go i H∧ys.length < sizeLine∧∃ N:List V→Hp→Prop,(∀ ys' H',N ys' H'→∃ m',m' < m∧W (i + 1) m' ys' H')∧
    ∀ x H',J.yld i H x H'→g x (fmSt fm σ) H' fun σ2 H2=>tt σ2 H2 fun ok H3=>if ok=true then te σ2 H3 fun v H4=>N (ys++[v]) H4 else N ys H3))
  (hRR:∀ D C H' m s',s'.heap.Ns C m→Inv X pins σ H' s'→FpOk X pins H' C→Q (.ref D) H'→RR (.ref D) C (.ok .next) s'):
  wpAny (model X.prog X.w) X.A (newList []) (fun acc s₃=>wpAny (model X.prog X.w) X.A (newFunctionEnv sc X.env.globals (closL X.env sc.names []) [] X.env.qual none .none (some X.env)) (fun cenv s₄=>
   codeAny (model X.prog X.w) X.A (.compStart (.ListComp elt [⟨tg,iter,ifs,0⟩] sc pos) 0 (.ref it) acc { cenv with scope:=relabel sc X.env }) (RR acc cenv.locals) s₄) E s₃) E s2:=by
 have hl:∀ b∈fp,b < s2.heap.objs.size:=fun b hb=>by
  obtain ⟨o,e,_⟩:=T.obj _ _ st b hb
  exact Heap.lt_size e
 refine wpAny_newObj_type (wpAny_newFunctionEnv fr.nocell (by intro y hy;simp at hy) (fun h₁ hns₁ hsb₁=>?_) hk)
 dsimp only at hns₁ hsb₁ ⊢
 generalize hH2:s2.heap.push { cls:=.type "list",dict:=none,data:=.seq ([]:List Value).toArray }=G2 at hns₁ hsb₁ ⊢
 have hC:G2.objs.size=s2.heap.objs.size + 1:=by rw [←hH2,Heap.size_push]
 have hCle:s2.heap.objs.size≤G2.objs.size:=by rw [hC];exact Nat.le_succ _
 have hDC:s2.heap.objs.size≠G2.objs.size:=by rw [hC];exact Nat.ne_of_lt (Nat.lt_succ_self _)
 have below:∀ b,b < s2.heap.objs.size→b≠G2.objs.size:=fun b hb=>Nat.ne_of_lt (Nat.lt_of_lt_of_le hb hCle)
 have old:∀ b o,s2.heap.get? b=some o→h₁.get? b=some o:=fun b o e=>hsb₁.extBut b o (below b (Heap.lt_size e)) (Heap.get?_push_of_some _ (hH2▸Heap.get?_push_of_some _ e))
 have hacc:h₁.PlainList s2.heap.objs.size #[]:=⟨_,hsb₁.extBut _ _ hDC (Heap.get?_push_of_some _ (hH2▸Heap.get?_push_size _ rfl))⟩
 have hst₁:tn 0 h₁:=T.keep _ _ _ st fun b _ o e=>old b o e
 obtain ⟨B1,B2,B3⟩:=hB G2.objs.size fp s2 H2
 have hDfs:s2.heap.objs.size∉frs X.stack:=fun hb=>by
  rcases List.mem_cons.mp (I2.stkSub _ hb) with e | e
  ·exact absurd I2.lt (by rw [←e];exact Nat.lt_irrefl _)
  ·exact I2.nofs (Nat.le_refl _) e
 have hDf:s2.heap.objs.size∉fp:=fun hb=>Nat.lt_irrefl _ (hl _ hb)
 have fpB:∀ {pl:List (Addr×Obj)} {H':Hp},(∀ b∈fp,H' b=none)→(∀ p∈pl,p.1∉fp)→∀ b∈fp,FpOk (blk X sc M G2.objs.size fp s2 H2) pl H' b:=fun {pl H'} hn hp b hb=>by
  refine ⟨hn b hb,below b (hl b hb),fun z=>?_,.inl hb,fun x c e=>(hf b hb).2.2.2.2.1 x c (closL_sub (fun _ _ z=>by cases z) x c e),fun p hp' z=>?_⟩
  ·rcases List.mem_cons.mp (I2.stkSub b z) with e | e
   ·exact (hf b hb).2.1 e
   ·exact (hf b hb).2.2.1 e
  ·have hp'':p∈pl:=by simpa [blk] using hp'
   exact hp p hp'' (z▸hb)
 have loop:∀ s₃:Shared,s₃={ s2 with heap:=h₁,toks:=s2.toks + ([]:List (Str×Value)).length }→
   codeAny (model X.prog X.w) X.A (.compLoop (.ListComp elt [⟨tg,iter,ifs,0⟩] sc pos) 0 (.ref it) (.ref s2.heap.objs.size) (compEnvC sc (closL X.env sc.names []) G2.objs.size X.env)) (RR (.ref s2.heap.objs.size) G2.objs.size) s₃:=by
  rintro s₃ rfl
  obtain ⟨m0,w0⟩:=hw
  refine compLoop_any (fun n s'=>∃ (i:Nat) (ys:List V) (its:List Value) (k:Nat) (H':Hp),Inv (blk X sc M G2.objs.size fp s2 H2) [(s2.heap.objs.size,{ cls:=.type "list",data:=.seq its.toArray k })] (fmSt fm σ) H' s'∧Vals ys its∧ys.length≤sizeLine∧
   tn i s'.heap∧(∀ b∈fp,H' b=none)∧W i n ys H') ?_ m0 ?_
  ·rintro n s' ⟨i,ys,its,k,H',I',rv,hz,st',fn',w'⟩
   have np:∀ p∈[((s2.heap.objs.size,{ cls:=.type "list",data:=.seq its.toArray k }):Addr×Obj)],p.1∉fp:=fun p hp=>by
    rcases List.mem_singleton.mp hp with rfl
    exact hDf
   rcases turn i n ys H' w' with ⟨stop,qn⟩ | ⟨go,hz',N,hN,step⟩
   ·refine thn (T.done (blk X sc M G2.objs.size fp s2 H2) rfl rfl rfl hc i _ s' _ H' _ I' (fpB fn' np) st' stop) fun r s4 ⟨hr,I4⟩=>?_
    subst hr
    obtain ⟨eD,nD,_,_,_⟩:=I4.pin _ (List.mem_append_right _ List.mem_cons_self)
    obtain ⟨m4,hn4,_⟩:=I4.loc
    have u4:Un (frs X.stack) fp H2 H' s2.heap s4.heap:=I4.base
    have eD':s4.heap.get? s2.heap.objs.size=some { cls:=.type "list",data:=.seq its.toArray k }:=eD
    have nD':H' s2.heap.objs.size=none:=nD
    have ne:∀ b,b < s2.heap.objs.size→b≠s2.heap.objs.size:=fun b hb=>Nat.ne_of_lt hb
    have hok:HOk X.prog X.w (upd H' s2.heap.objs.size (.lst ys)) s4.heap:=fun b ob e=>by
     by_cases hb:b=s2.heap.objs.size
     ·subst hb
      rw [upd_same] at e
      cases e
      exact ⟨hz,its,k,rv,eD'⟩
     ·rw [upd_ne hb] at e
      exact (I4.hok b ob e).stay (fun _ _ _ q=>q) (fun c q=>by rw [upd_ne (ne_of_none q nD')];exact q) fun c xs q=>by rw [upd_ne (ne_of_none q nD')];exact q
    have u5:Un (frs X.stack) fp H2 (upd H' s2.heap.objs.size (.lst ys)) s2.heap s4.heap:=
     ⟨u4.keep,u4.slot,fun b o e n hx=>by rw [upd_ne (ne b (Heap.lt_size e))];exact u4.free b o e n hx,u4.there,
      fun b xs e=>by have:=u4.tups b xs e;rw [upd_ne (ne_of_none this nD')];exact this,
      fun b o u e=>by have:=u4.frzs b o u e;rw [upd_ne (ne_of_none this nD')];exact this,
      fun b ps e=>by obtain ⟨mo,this⟩:=u4.tbls b ps e;exact ⟨mo,by rw [upd_ne (ne_of_none this nD')];exact this⟩⟩
    have I5:Inv X pins σ (upd H' s2.heap.objs.size (.lst ys)) s4:=
     I2.call' I4.os u5 hok I4.bare fun b hb=>⟨(hf b hb).2.2.2.1,(hf b hb).2.1,(hf b hb).2.2.2.2.1,(hf b hb).2.2.2.2.2⟩
    refine hRR _ _ _ m4 s4 hn4 I5 (I2.fpOk hCle ?_) (qn _ nD')
    rw [upd_ne (Ne.symm hDC)]
    exact I4.free
   ·refine thn (T.item (blk X sc M G2.objs.size fp s2 H2) rfl rfl rfl hc i _ s' _ H' _ I' (fpB fn' np) st' go) fun r s4 ⟨u,hr,h4⟩=>?_
    subst hr
    refine thn h4 fun _ s5 ⟨x,H5,I5,r5,y5,st5,fr5⟩=>?_
    have I5':=I5.pinned (fpB fr5 np) (T.obj _ _ st5)
    refine thn (B1 _ s5 _ H5 x u _ I5' r5 (hgk _ _ _ _ (step x H5 y5))) fun _ s6 ⟨σ6,H6,I6,q6,k6⟩=>?_
    refine thn (B2 _ s6 σ6 H6 _ I6 q6) fun ok s7 ⟨H7,I7,q7⟩=>?_
    have len6:(fmSt fm σ).length=σ6.length:=I'.len.trans I6.len.symm
    have wk:∀ (j:Nat) (v:V),(fmSt fm σ)[j]? =some (some v)→σ6[j]? =some (some v):=fun j v e=>by
     obtain ⟨j',e'⟩:=fm_slot e
     rw [k6 j j' e']
     exact e
    have back:∀ {σ8:St} {H8:Hp} {s8:Shared},Inv (blk X sc M G2.objs.size fp s2 H2) ([(s2.heap.objs.size,{ cls:=.type "list",data:=.seq its.toArray k })]++pinsAt fp s5.heap) σ8 H8 s8→tn (i + 1) s8.heap∧∀ b∈fp,H8 b=none:=fun {σ8 H8 s8} I8=>by
     refine ⟨T.keep _ _ _ st5 fun b hb o e=>(I8.pin (b,o) (List.mem_append_right _ (List.mem_append_right _ (mem_pinsAt hb e)))).1,fun b hb=>?_⟩
     obtain ⟨o,e,d⟩:=T.obj _ _ st5 b hb
     exact (I8.pin (b,o) (List.mem_append_right _ (List.mem_append_right _ (mem_pinsAt hb e)))).2.1
    cases ok with
    | false=>
     rw [if_neg Bool.false_ne_true] at q7
     rw [if_neg Bool.false_ne_true]
     obtain ⟨m',hm,w7⟩:=hN ys H7 q7
     exact ⟨m',hm,i + 1,ys,its,k,H7,(I7.weak len6 wk).unpinned,rv,hz,(back I7).1,(back I7).2,w7⟩
    | true=>
     rw [if_pos rfl] at q7
     rw [if_pos rfl]
     refine thn (B3 _ s7 σ6 H7 _ I7 q7) fun y s8 ⟨v,H8,I8,r8,q8⟩=>?_
     obtain ⟨st8,fr8⟩:=back I8
     obtain ⟨m',hm,w8⟩:=hN _ H8 q8
     obtain ⟨eD,nD,_,_,_⟩:=I8.pin _ (List.mem_append_right _ (List.mem_append_left _ List.mem_cons_self))
     have hits:its.toArray.size=ys.length:=by simp [rv.length]
     refine wpAny_list_append_plain (items:=its.toArray) ⟨k,eD⟩ (fun h' hpl hsb=>?_) (by rw [hits];exact hz)
     obtain ⟨k',ek⟩:=hpl
     have ek':h'.get? s2.heap.objs.size=some { cls:=.type "list",data:=.seq (its++[y]).toArray k' }:=by simpa using ek
     have np8:∀ p∈pinsAt fp s5.heap,p.1≠s2.heap.objs.size:=fun p hp z=>hDf (z▸(of_pinsAt hp).1)
     have I9:Inv (blk X sc M G2.objs.size fp s2 H2) (pinsAt fp s5.heap) σ6 H8 s8:=I8.pins_of fun p hp=>I8.pin p (List.mem_append_right _ (List.mem_append_right _ hp))
     have I10:Inv (blk X sc M G2.objs.size fp s2 H2) (pinsAt fp s5.heap) σ6 H8 { s8 with heap:=h',toks:=s8.toks }:=
      I9.turned (it:=s2.heap.objs.size) (fun b o hb e=>hsb.extBut b o hb e) nD hDC (.inr (Nat.le_refl _)) (fun x c e z=>by
       obtain ⟨v',q⟩:=I2.cell x c (closL_sub (fun _ _ z=>by cases z) x c e)
       exact absurd (show c < s2.heap.objs.size from q.lt) (by rw [z];exact Nat.lt_irrefl _)) fun p hp=>np8 p (by simpa [blk] using hp)
     have I11:Inv (blk X sc M G2.objs.size fp s2 H2) [(s2.heap.objs.size,{ cls:=.type "list",data:=.seq (its++[y]).toArray k' })] (fmSt fm σ) H8 { s8 with heap:=h',toks:=s8.toks }:=
      (I10.weak len6 wk).pins_of fun p hp=>by
       rcases List.mem_singleton.mp hp with rfl
       exact ⟨ek',nD,hDC,hDfs,fun _ z=>nomatch z⟩
     refine ⟨m',hm,i + 1,ys++[v],its++[y],k',H8,I11,rv.append (.cons r8 .nil),?_,?_,fr8,w8⟩
     ·rw [List.length_append];exact hz'
     ·exact T.keep _ _ _ st8 fun b hb o e=>hsb.extBut b o (fun z=>hDf (z▸hb)) e
  ·obtain ⟨k0,e0⟩:=hacc
   refine ⟨0,[],[],k0,H2,blk_in I2 hf hl hCle fr hk hfm old hns₁ fun p hp=>?_,.nil,Nat.zero_le _,hst₁,fun b hb=>(hf b hb).1,w0⟩
   rcases List.mem_singleton.mp hp with rfl
   exact ⟨e0,I2.hok.fresh (Nat.le_refl _),hDC,hDfs,fun _ z=>nomatch z⟩
 exact codeAny_compStart_list (loop _ rfl) (T.self _ 0 _ _ _ hst₁ (loop _ rfl))
end
end L2
namespace L2
open PySem PySem.Spec PyProof.Rows
section
variable {X:Cx} {sc:Scope} {M:List Str} {fm:List (Option Nat)} {tg iter elt:Expr} {ifs:List Expr} {pos:Pos} {g:TG} {tt:TT} {te:TE} {wi:TI}
theorem Inv.letGo {pins:List (Addr×Obj)} {σ:St} {H:Hp} {s:Shared} {C:Addr} {h':Heap} (I:Inv X pins σ H s) (f:FpOk X pins H C) (hs:Heap.SameBut C s.heap h'):Inv X pins σ H { s with heap:=h' }:=
 I.turned (t':=s.toks) (it:=C) (fun b o hb e=>hs.extBut b o hb e) f.1 f.2.1 f.2.2.2.1 f.2.2.2.2.1 f.2.2.2.2.2
theorem pe_lc (hc:X.calm=true) (fr:FrOk X.env sc.names) (hfm:FmOk X.N sc M fm) (hgk:GK fm g) (hk:sc.kind=.function) (hnm:∀ y∈sc.names,y.2=.local→sc.names.lookup y.1=some .local) (hi:PI X tg iter wi)
  (hB:∀ C fp s H,PG (blk X sc M C fp s H) tg g∧PIf (blk X sc M C fp s H) ifs tt∧PE (blk X sc M C fp s H) elt te) (hs:∀ x,foldedSetIterable iter X.env x=pure x:=by intro _;rfl):
  PE X (.ListComp elt [⟨tg,iter,ifs,0⟩] sc pos) (tLC wi fm g tt te):=by
 intro pins s σ H Q I h
 rw [eval_ListComp]
 have hclos:=closure_eq (env:=X.env) (sc:=sc) fun n hn=>I.ok.has n (fr.free hn)
 refine wpAny_comprehension_free (use:=none) rfl hs hclos hk hnm (thn (hi pins s σ H _ I h) fun v s1 h1=>thn h1 fun itv s2 h2=>?_)
 obtain ⟨it,fp,tn,J,H2,e,I2,T,st2,f2,W,w0,turn⟩:=h2
 subst e
 refine comp_core (Q:=Q) (RR:=fun acc C=>compPost (model X.prog X.w) X.A X.xe none (EP X pins σ Q) acc C) hc I2 T st2 f2 fr hk hfm hgk hB W w0 turn ?_
 intro D C H' m s' hn I' f' q
 exact ⟨m,hn,fun h' hs'=>⟨.ref D,H',I'.letGo f' hs',rfl,q⟩⟩
theorem ps_set_lc {i:Nat} {x:Str} {px pst:Pos} (hN:X.N.Nodup) (hix:X.N[i]? =some x) (hx:X.env.kindOf x=some .local) (hsw:swapsWith (.ListComp elt [⟨tg,iter,ifs,0⟩] sc pos) (some (.Name x px)) pst.line X.env=pure true)
  (hc:X.calm=true) (fr:FrOk X.env sc.names) (hfm:FmOk X.N sc M fm) (hgk:GK fm g) (hk:sc.kind=.function) (hnm:∀ y∈sc.names,y.2=.local→sc.names.lookup y.1=some .local) (hi:PI X tg iter wi)
  (hB:∀ C fp s H,PG (blk X sc M C fp s H) tg g∧PIf (blk X sc M C fp s H) ifs tt∧PE (blk X sc M C fp s H) elt te) (hs:∀ x,foldedSetIterable iter X.env x=pure x:=by intro _;rfl):
  PS X (.Assign [.Name x px] (.ListComp elt [⟨tg,iter,ifs,0⟩] sc pos) pst) (tAsg (tLC wi fm g tt te) (gName i)):=by
 intro pins s σ H D I h
 rw [exec_Assign_Name_used _ _ _ _ hsw]
 refine wpAny_bind (wpAny_standAt (wpAny_bind ?_))
 show wpAny _ _ (do let _ ←comprehension (.ListComp elt [⟨tg,iter,ifs,0⟩] sc pos) sc X.env _ (newList []) false (eval iter X.env) (some (assign (.Name x px) X.env))) _ _ s
 have hclos:=closure_eq (env:=X.env) (sc:=sc) fun n hn=>I.ok.has n (fr.free hn)
 refine wpAny_bind (wpAny_mono (wpAny_comprehension_free (use:=some (assign (.Name x px) X.env)) (Q:=fun _ s'=>SP X pins D .next s') rfl hs hclos hk hnm (thn (hi pins s σ H _ I h) fun v s1 h1=>thn h1 fun itv s2 h2=>?_))
  (fun _ s' hq=>wpAny_pure (wpAny_pure hq)) fun _ _ e=>e)
 obtain ⟨it,fp,tn,J,H2,e,I2,T,st2,f2,W,w0,turn⟩:=h2
 subst e
 refine comp_core (Q:=fun v H'=>gName i v σ H' D.nx) (RR:=fun acc C=>compPost (model X.prog X.w) X.A X.xe (some (assign (.Name x px) X.env)) (fun _ s'=>SP X pins D .next s') acc C) hc I2 T st2 f2 fr hk hfm hgk hB W w0 turn ?_
 intro Da C H' m s' hn I' f' q
 show wpAny _ _ (assign (.Name x px) X.env (.ref Da)) _ _ s'
 refine wpAny_assign_Name (store_ok2 (v:=.ref Da) I' hN hix (.inl hx) rfl (fun s2 I2' hs2=>?_) (.inr hx))
 obtain ⟨a,hsb,ha⟩:=hs2
 have hCa:C≠a:=by
  rcases ha with rfl | ha
  ·exact f'.2.1
  ·exact (f'.2.2.2.2.1 x a ha).symm
 exact ⟨m,hn.sameBut hsb hCa,fun h' hs'=>⟨_,H',I2'.letGo f' hs',q⟩⟩
end
end L2
namespace L2
open PySem PySem.Spec PyProof.Rows
mutual
inductive Is (H:Hp):V→PyData→Prop
 | non:Is H .non .none
 | bl (b:Bool):Is H (.bl b) (.bool b)
 | int (i:Int):Is H (.int i) (.int i)
 | str (x:Str):Is H (.str x) (.str x)
 | tup {a:Addr} {xs:List V} {ds:List PyData}:H a=some (.tup xs)→IsAll H xs ds→Is H (.ref a) (.tuple ds)
 | lst {a:Addr} {xs:List V} {ds:List PyData}:Rd H a (.lst xs)→IsAll H xs ds→Is H (.ref a) (.list ds)
inductive IsAll (H:Hp):List V→List PyData→Prop
 | nil:IsAll H [] []
 | cons {v:V} {d:PyData} {vs:List V} {ds:List PyData}:Is H v d→IsAll H vs ds→IsAll H (v::vs) (d::ds)
end
theorem IsAll.length {H:Hp}:∀ {vs:List V} {ds:List PyData},IsAll H vs ds→vs.length=ds.length
 | _,_,.nil=>rfl
 | _,_,.cons _ t=>by simp [t.length]
theorem IsAll.get {H:Hp}:∀ {vs:List V} {ds:List PyData} {i:Nat} {d:PyData},IsAll H vs ds→ds[i]? =some d→∃ v,vs[i]? =some v∧Is H v d
 | _,_,_,_,.nil,e=>by simp at e
 | _,_,0,_,.cons h t,e=>by simp at e;subst e;exact ⟨_,rfl,h⟩
 | _,_,i + 1,d,.cons h t,e=>by
  obtain ⟨v,a,b⟩:=t.get (i:=i) (d:=d) (by simpa using e)
  exact ⟨v,by simpa using a,b⟩
theorem IsAll.get' {H:Hp}:∀ {vs:List V} {ds:List PyData} {i:Nat} {v:V},IsAll H vs ds→vs[i]? =some v→∃ d,ds[i]? =some d∧Is H v d
 | _,_,_,_,.nil,e=>by simp at e
 | _,_,0,_,.cons h t,e=>by simp at e;subst e;exact ⟨_,rfl,h⟩
 | _,_,i + 1,d,.cons h t,e=>by
  obtain ⟨v,a,b⟩:=t.get' (i:=i) (v:=d) (by simpa using e)
  exact ⟨v,by simpa using a,b⟩
theorem IsAll.append {H:Hp}:∀ {vs:List V} {ds:List PyData} {us:List V} {es:List PyData},IsAll H vs ds→IsAll H us es→IsAll H (vs++us) (ds++es)
 | _,_,_,_,.nil,s=>s
 | _,_,_,_,.cons h t,s=>.cons h (t.append s)
theorem IsAll.snoc {H:Hp} {vs:List V} {ds:List PyData} {v:V} {d:PyData} (h:IsAll H vs ds) (q:Is H v d):IsAll H (vs++[v]) (ds++[d]):=h.append (.cons q .nil)
theorem IsAll.take {H:Hp}:∀ {vs:List V} {ds:List PyData} (n:Nat),IsAll H vs ds→IsAll H (vs.take n) (ds.take n)
 | _,_,0,_=>.nil
 | _,_,_ + 1,.nil=>.nil
 | _,_,n + 1,.cons h t=>.cons h (t.take n)
theorem IsAll.drop {H:Hp}:∀ {vs:List V} {ds:List PyData} (n:Nat),IsAll H vs ds→IsAll H (vs.drop n) (ds.drop n)
 | _,_,0,h=>h
 | _,_,_ + 1,.nil=>.nil
 | _,_,n + 1,.cons h t=>t.drop n
theorem IsAll.ints {H:Hp}:∀ ns:List Int,IsAll H (ns.map V.int) (ns.map PyData.int)
 | []=>.nil
 | n::ns=>.cons (.int n) (IsAll.ints ns)
theorem IsAll.of_ints {H:Hp}:∀ {vs:List V} {ns:List Int},IsAll H vs (ns.map PyData.int)→vs=ns.map V.int
 | _,[],h=>by cases h;rfl
 | _,n::ns,h=>by
  rw [List.map_cons] at h
  cases h with
  | cons h1 t=>
  cases h1
  rw [List.map_cons,t.of_ints]
mutual
theorem Is.mono {H H':Hp} (ht:∀ a xs,H a=some (.tup xs)→H' a=some (.tup xs)) (hl:∀ a xs,Rd H a (.lst xs)→Rd H' a (.lst xs)):∀ {v:V} {d:PyData},Is H v d→Is H' v d
 | _,_,.non=>.non
 | _,_,.bl b=>.bl b
 | _,_,.int i=>.int i
 | _,_,.str x=>.str x
 | _,_,.tup e h=>.tup (ht _ _ e) (IsAll.mono ht hl h)
 | _,_,.lst e h=>.lst (hl _ _ e) (IsAll.mono ht hl h)
theorem IsAll.mono {H H':Hp} (ht:∀ a xs,H a=some (.tup xs)→H' a=some (.tup xs)) (hl:∀ a xs,Rd H a (.lst xs)→Rd H' a (.lst xs)):∀ {vs:List V} {ds:List PyData},IsAll H vs ds→IsAll H' vs ds
 | _,_,.nil=>.nil
 | _,_,.cons h t=>.cons (Is.mono ht hl h) (IsAll.mono ht hl t)
end
mutual
noncomputable def noL:PyData→Bool
 | .none | .bool _ | .int _ | .str _=>true
 | .tuple xs=>noLs xs
 | .list _ | .dict _=>false
noncomputable def noLs:List PyData→Bool
 | []=>true
 | x::xs=>noL x&&noLs xs
end
mutual
theorem Is.tmono {H H':Hp} (ht:∀ a xs,H a=some (.tup xs)→H' a=some (.tup xs)):∀ {v:V} {d:PyData},noL d=true→Is H v d→Is H' v d
 | _,_,_,.non=>.non
 | _,_,_,.bl b=>.bl b
 | _,_,_,.int i=>.int i
 | _,_,_,.str x=>.str x
 | _,_,n,.tup e h=>.tup (ht _ _ e) (IsAll.tmono ht (by simpa [noL] using n) h)
 | _,_,n,.lst e h=>by simp [noL] at n
theorem IsAll.tmono {H H':Hp} (ht:∀ a xs,H a=some (.tup xs)→H' a=some (.tup xs)):∀ {vs:List V} {ds:List PyData},noLs ds=true→IsAll H vs ds→IsAll H' vs ds
 | _,_,_,.nil=>.nil
 | _,_,n,.cons h t=>by
  rw [noLs,Bool.and_eq_true] at n
  exact .cons (Is.tmono ht n.1 h) (IsAll.tmono ht n.2 t)
end
theorem Same.rd {H H':Hp} (e:Same H H') {a:Addr} {u:HO} (h:Rd H a u):Rd H' a u:=by
 rcases h with h | ⟨o,h⟩
 ·exact .inl (e _ _ h)
 ·exact .inr ⟨o,e _ _ h⟩
theorem Is.same {H H':Hp} (e:Same H H') {v:V} {d:PyData} (h:Is H v d):Is H' v d:=h.mono (fun _ _ q=>e _ _ q) fun _ _ q=>e.rd q
theorem IsAll.same {H H':Hp} (e:Same H H') {v:List V} {d:List PyData} (h:IsAll H v d):IsAll H' v d:=h.mono (fun _ _ q=>e _ _ q) fun _ _ q=>e.rd q
section
variable {X:Cx} {pins:List (Addr×Obj)} {σ:St} {H:Hp} {s:Shared}
mutual
theorem Is.reads (I:Inv X pins σ H s):∀ {v:V} {d:PyData} {u:Value},Is H v d→RelV v u→∃ as,Reads s.heap u d as
 | _,_,_,.non,r=>by cases (show _=Value.none from r);exact ⟨_,.none⟩
 | _,_,_,.bl b,r=>by cases (show _=Value.bool b from r);exact ⟨_,.bool b⟩
 | _,_,_,.int i,r=>by obtain ⟨t,rfl⟩:=r;exact ⟨_,.int i t⟩
 | _,_,_,.str x,r=>by obtain ⟨t,rfl⟩:=r;exact ⟨_,.str x t⟩
 | _,_,_,.tup (a:=a) e h,r=>by
  cases (show _=Value.ref a from r)
  obtain ⟨its,rv,⟨o,h1,h2,n,h3⟩,_⟩:=I.tuple (SqT.of e)
  obtain ⟨as,ra⟩:=IsAll.reads I h rv
  exact ⟨_,.tuple h1 h2 h3 (by simpa using ra)⟩
 | _,_,_,.lst (a:=a) e h,r=>by
  cases (show _=Value.ref a from r)
  obtain ⟨its,rv,⟨o,n,h1,h2,_,h3⟩,_⟩:=I.list (.inl e)
  obtain ⟨as,ra⟩:=IsAll.reads I h rv
  exact ⟨_,.list h1 h2 h3 (by simpa using ra)⟩
theorem IsAll.reads (I:Inv X pins σ H s):∀ {vs:List V} {ds:List PyData} {us:List Value},IsAll H vs ds→Vals vs us→∃ as,ReadsAll s.heap us ds as
 | _,_,_,.nil,.nil=>⟨_,.nil⟩
 | _,_,_,.cons h t,.cons r q=>by
  obtain ⟨as,ra⟩:=Is.reads I h r
  obtain ⟨bs,rb⟩:=IsAll.reads I t q
  exact ⟨_,.cons ra rb⟩
end
end
noncomputable def okD (d:PyData):Prop:=d.canLay0=true∧d.depth≤40
noncomputable def okDs (ds:List PyData):Prop:=PyData.canLayAll0 ds=true∧PyData.depthAll ds≤40
section
variable {X:Cx}
noncomputable def rEqD (neg:Bool):R2:=fun x y H Q=>∃ d e,Is H x d∧Is H y e∧okD d∧okD e∧Q (.bl (if neg then !PyData.eqv d e else PyData.eqv d e)) H
theorem op_eqD (hu:X.A.units + 64 < cLine):OpR X (compareOp .Eq) (rEqD false):=by
 intro pins s σ H x y v u Q I rx ry h
 obtain ⟨d,e,hx,hy,od,oe,q⟩:=h
 obtain ⟨as,ra⟩:=hx.reads I rx
 obtain ⟨bs,rb⟩:=hy.reads I ry
 exact SeqAt.compareEq_reads ra rb od.1 oe.1 (by have:=od.2;omega) ⟨.bl _,H,I,rfl,q⟩
theorem op_neD (hu:X.A.units + 64 < cLine):OpR X (compareOp .NotEq) (rEqD true):=by
 intro pins s σ H x y v u Q I rx ry h
 obtain ⟨d,e,hx,hy,od,oe,q⟩:=h
 obtain ⟨as,ra⟩:=hx.reads I rx
 obtain ⟨bs,rb⟩:=hy.reads I ry
 exact SeqAt.compareNe_reads ra rb od.1 oe.1 (by have:=od.2;omega) ⟨.bl _,H,I,rfl,q⟩
noncomputable def inD (d:PyData) (ds:List PyData):Bool:=ds.any fun y=>PyData.eqv y d
noncomputable def rInD (neg:Bool):R2:=fun x y H Q=>∃ d ds,Is H x d∧(Is H y (.tuple ds)∨Is H y (.list ds))∧okD d∧okDs ds∧Q (.bl (if neg then !inD d ds else inD d ds)) H
theorem op_inD (hu:X.A.units + 64 < cLine):OpR X (compareOp .In) (rInD false):=by
 intro pins s σ H x y v u Q I rx ry h
 obtain ⟨d,ds,hx,hy,od,oe,q⟩:=h
 obtain ⟨as,ra⟩:=hx.reads I rx
 rcases hy with hy | hy
 ·obtain ⟨bs,rb⟩:=hy.reads I ry
  exact SeqAt.in_tuple_reads rb ra oe.1 od.1 (by have:=od.2;omega) ⟨.bl _,H,I,rfl,q⟩
 ·obtain ⟨bs,rb⟩:=hy.reads I ry
  exact SeqAt.in_list_reads rb ra oe.1 od.1 (by have:=od.2;omega) ⟨.bl _,H,I,rfl,q⟩
theorem op_notInD (hu:X.A.units + 64 < cLine):OpR X (compareOp .NotIn) (rInD true):=by
 intro pins s σ H x y v u Q I rx ry h
 obtain ⟨d,ds,hx,hy,od,oe,q⟩:=h
 obtain ⟨as,ra⟩:=hx.reads I rx
 rcases hy with hy | hy
 ·obtain ⟨bs,rb⟩:=hy.reads I ry
  exact SeqAt.notIn_tuple_reads rb ra oe.1 od.1 (by have:=od.2;omega) ⟨.bl _,H,I,rfl,q⟩
 ·obtain ⟨bs,rb⟩:=hy.reads I ry
  exact SeqAt.notIn_list_reads rb ra oe.1 od.1 (by have:=od.2;omega) ⟨.bl _,H,I,rfl,q⟩
end
noncomputable def tyD:PyData→String
 | .none=>"NoneType"
 | .bool _=>"bool"
 | .int _=>"int"
 | .str _=>"str"
 | .list _=>"list"
 | .tuple _=>"tuple"
 | .dict _=>"dict"
theorem Is.ty {K:PySem.W.Frag} {H:Hp} {v:V} {d:PyData} (h:Is H v d):TyOf K H v (.type (tyD d)):=by
 cases h with
 | non=>exact .non
 | bl b=>exact .bl b
 | int i=>exact .int i
 | str x=>exact .str x
 | tup e _=>exact .tup e
 | lst e _=>
  rcases e with e | ⟨o,e⟩
  ·exact .lst e
  ·exact .frz e
noncomputable def isTy (T:String) (d:PyData):Bool:=tyD d==T||(T=="int"&&tyD d=="bool")
theorem kit_bool {K:PySem.W.Frag} (d:PyData):PySem.W.kitOne K (.type (tyD d)) (.type "bool")=some (isTy "bool" d):=by cases d <;> with_unfolding_all rfl
theorem kit_int {K:PySem.W.Frag} (d:PyData):PySem.W.kitOne K (.type (tyD d)) (.type "int")=some (isTy "int" d):=by cases d <;> with_unfolding_all rfl
theorem kit_tuple {K:PySem.W.Frag} (d:PyData):PySem.W.kitOne K (.type (tyD d)) (.type "tuple")=some (isTy "tuple" d):=by cases d <;> with_unfolding_all rfl
theorem kit_list {K:PySem.W.Frag} (d:PyData):PySem.W.kitOne K (.type (tyD d)) (.type "list")=some (isTy "list" d):=by cases d <;> with_unfolding_all rfl
theorem kit_str {K:PySem.W.Frag} (d:PyData):PySem.W.kitOne K (.type (tyD d)) (.type "str")=some (isTy "str" d):=by cases d <;> with_unfolding_all rfl
theorem kit_dict {K:PySem.W.Frag} (d:PyData):PySem.W.kitOne K (.type (tyD d)) (.type "dict")=some (isTy "dict" d):=by cases d <;> with_unfolding_all rfl
section
variable {X:Cx}
theorem call_isinst:CallR X (.builtin "isinstance") (fun xs H Q=>∃ x T d,xs=[x,.ty T]∧T∈(["bool","int","tuple","list","str","dict"]:List String)∧Is H x d∧Q (.bl (isTy T d)) H):=by
 intro pins s σ H xs us Q I r h
 obtain ⟨x,T,d,rfl,hT,hx,q⟩:=h
 obtain ⟨u,v,rfl,rx,ry⟩:=Vals.two r
 cases (show v=Value.type T from ry)
 have fin:∀ {b:Bool},PySem.W.kitOne X.K (.type (tyD d)) (.type T)=some b→b=isTy T d→wpAny (model X.prog X.w) X.A (call (.builtin "isinstance") [u,.type T]) (EP X pins σ Q) X.xe s:=fun {b} e eb=>by
  subst eb
  exact isinst_ok I rx hx.ty e fun tk=>⟨.bl _,H,I.tok tk,rfl,q⟩
 simp only [List.mem_cons,List.not_mem_nil,or_false] at hT
 rcases hT with rfl | rfl | rfl | rfl | rfl | rfl
 ·exact fin (kit_bool d) rfl
 ·exact fin (kit_int d) rfl
 ·exact fin (kit_tuple d) rfl
 ·exact fin (kit_list d) rfl
 ·exact fin (kit_str d) rfl
 ·exact fin (kit_dict d) rfl
end
end L2
set_option maxHeartbeats 8000000
namespace L2
open PySem PySem.Spec PyProof.Rows
noncomputable def Run {α:Type} (lt:Nat→Nat→Bool) (n:Nat):PySem.W.KasT α→(α→Prop)→Prop
 | .ret a,Q=>Q a
 | .ask i j k,Q=>i < n∧j < n∧Run lt n (k (lt i j)) Q
section
variable {lt:Nat→Nat→Bool} {n:Nat}
theorem Run.mono {α:Type} {Q Q':α→Prop} (h:∀ a,Q a→Q' a):∀ {t:PySem.W.KasT α},Run lt n t Q→Run lt n t Q'
 | .ret a,q=>h a q
 | .ask i j k,⟨a,b,q⟩=>⟨a,b,Run.mono h q⟩
theorem Run.bind {α β:Type} {f:α→PySem.W.KasT β} {Q:β→Prop}:∀ {t:PySem.W.KasT α},Run lt n t (fun a=>Run lt n (f a) Q)→Run lt n (t.bind f) Q
 | .ret a,q=>q
 | .ask i j k,⟨a,b,q⟩=>⟨a,b,Run.bind q⟩
theorem Run.wp {α:Type} {cmp:Nat→Nat→(Bool→Shared→Prop)→Shared→Prop} {Q:α→Prop} {R:α→Shared→Prop} {s:Shared} (hc:∀ i j C,i < n→j < n→C (lt i j) s→cmp i j C s) (hR:∀ a,Q a→R a s):
  ∀ {t:PySem.W.KasT α},Run lt n t Q→t.kasWp cmp R s
 | .ret a,q=>hR a q
 | .ask i j k,⟨a,b,q⟩=>hc i j _ a b (Run.wp hc hR q)
structure Str1 (lt:Nat→Nat→Bool) (n:Nat):Prop where
 tr:∀ i j k,i < n→j < n→k < n→lt i j=true→lt j k=true→lt i k=true
 tot:∀ i j,i < n→j < n→i≠j→lt i j=false→lt j i=true
 irr:∀ i j,i < n→j < n→lt i j=true→lt j i=false
structure Plc (n:Nat) (p:Array Nat):Prop where
 sz:p.size=n
 lt:∀ i,i < n→p.getD i 0 < n
 ne:∀ i j,i < n→j < n→i≠j→p.getD i 0≠p.getD j 0
 pm:p.toList.Perm (List.range n)
noncomputable def Up (lt:Nat→Nat→Bool) (p:Array Nat) (k:Nat):Prop:=∀ i j,i < j→j < k→lt (p.getD i 0) (p.getD j 0)=true
noncomputable def Dn (lt:Nat→Nat→Bool) (p:Array Nat) (k:Nat):Prop:=∀ i j,i < j→j < k→lt (p.getD j 0) (p.getD i 0)=true
variable (S:Str1 lt n)
include S
theorem up_next {p:Array Nat} {k:Nat} (P:Plc n p) (h1:1≤k) (hk:k < n) (u:Up lt p k) (h:lt (p.getD (k - 1) 0) (p.getD k 0)=true):Up lt p (k + 1):=fun i j hij hj=>by
 by_cases e:j=k
 ·subst e
  by_cases e2:i=j - 1
  ·subst e2;exact h
  ·exact S.tr _ _ _ (P.lt _ (by omega)) (P.lt _ (by omega)) (P.lt _ (by omega)) (u i (j - 1) (by omega) (by omega)) h
 ·exact u i j hij (by omega)
theorem dn_next {p:Array Nat} {k:Nat} (P:Plc n p) (h1:1≤k) (hk:k < n) (u:Dn lt p k) (h:lt (p.getD k 0) (p.getD (k - 1) 0)=true):Dn lt p (k + 1):=fun i j hij hj=>by
 by_cases e:j=k
 ·subst e
  by_cases e2:i=j - 1
  ·subst e2;exact h
  ·exact S.tr _ _ _ (P.lt _ (by omega)) (P.lt _ (by omega)) (P.lt _ (by omega)) h (u i (j - 1) (by omega) (by omega))
 ·exact u i j hij (by omega)
theorem run_asc {p:Array Nat} (P:Plc n p):∀ (f k:Nat),1≤k→k + f≤n→Up lt p k→Run lt n (PySem.W.kas_asc p f k) fun r=>k≤r∧r≤k + f∧Up lt p r∧(r < k + f→lt (p.getD r 0) (p.getD (r - 1) 0)=true)
 | 0,k,_,_,u=>⟨Nat.le_refl _,Nat.le_refl _,u,fun h=>absurd h (Nat.lt_irrefl _)⟩
 | f + 1,k,h1,hn,u=>by
  refine ⟨P.lt _ (by omega),P.lt _ (by omega),?_⟩
  cases c:lt (p.getD k 0) (p.getD (k - 1) 0) with
  | true=>exact ⟨Nat.le_refl _,by omega,u,fun _=>c⟩
  | false=>
   have c':=S.tot _ _ (P.lt _ (by omega)) (P.lt _ (by omega)) (P.ne k (k - 1) (by omega) (by omega) (by omega)) c
   exact (run_asc P f (k + 1) (by omega) (by omega) (up_next S P h1 (by omega) u c')).mono fun r ⟨a,b,c,d⟩=>⟨by omega,by omega,c,fun h=>d (by omega)⟩
theorem run_desc {p:Array Nat} (P:Plc n p):∀ (f k:Nat),1≤k→k + f≤n→Dn lt p k→Run lt n (PySem.W.kas_desc f p k 0) fun r=>r.1=p∧r.2.2=0∧k≤r.2.1∧r.2.1≤k + f∧Dn lt p r.2.1
 | 0,k,_,_,u=>⟨rfl,rfl,Nat.le_refl _,Nat.le_refl _,u⟩
 | f + 1,k,h1,hn,u=>by
  refine ⟨P.lt _ (by omega),P.lt _ (by omega),?_⟩
  cases c:lt (p.getD k 0) (p.getD (k - 1) 0) with
  | true=>
   show Run lt n (if (0:Nat) > 0 then PySem.W.kas_desc f (PySem.W.kas_rev p (k - (0 + 1)) k) (k + 1) 0 else PySem.W.kas_desc f p (k + 1) 0) _
   rw [if_neg (Nat.lt_irrefl 0)]
   exact (run_desc P f (k + 1) (by omega) (by omega) (dn_next S P h1 (by omega) u c)).mono fun r ⟨a,b,c,d,e⟩=>⟨a,b,by omega,by omega,e⟩
  | false=>
   have c':=S.tot _ _ (P.lt _ (by omega)) (P.lt _ (by omega)) (P.ne k (k - 1) (by omega) (by omega) (by omega)) c
   refine ⟨P.lt _ (by omega),P.lt _ (by omega),?_⟩
   rw [c']
   exact ⟨rfl,rfl,Nat.le_refl _,Nat.le_add_right _ _,u⟩
omit S in
theorem getD_rev {p:Array Nat} {k:Nat} (hk:k≤p.size) (i:Nat):(PySem.W.kas_rev p 0 k).getD i 0=if i < k then p.getD (k - 1 - i) 0 else p.getD i 0:=by
 have e:∀ (q:Array Nat) (i:Nat),q.getD i 0=(q[i]?).getD 0:=fun q i=>by
  by_cases h:i < q.size
  ·simp [Array.getD,h]
  ·simp [Array.getD,h]
 rw [e,e,e]
 unfold PySem.W.kas_rev
 rw [getElem?_mirror hk _ (by omega)]
 by_cases h:i < k
 ·rw [if_pos h]
  by_cases h2:(0≤i∧i < 0 + (k - 0) / 2)∨(k - (k - 0) / 2≤i∧i < k)
  ·rw [if_pos h2]
   congr 2
   omega
  ·rw [if_neg h2]
   have:k - 1 - i=i:=by omega
   rw [this]
 ·rw [if_neg h,if_neg (by omega)]
omit S in
theorem rev_plc {p:Array Nat} (P:Plc n p) {k:Nat} (hk:k≤n):Plc n (PySem.W.kas_rev p 0 k) where
 sz:=(mirror_size _ _ _ _).trans P.sz
 lt:=fun i hi=>by
  rw [getD_rev (by rw [P.sz];exact hk)]
  split
  ·exact P.lt _ (by omega)
  ·exact P.lt _ hi
 ne:=fun i j hi hj hne=>by
  rw [getD_rev (by rw [P.sz];exact hk),getD_rev (by rw [P.sz];exact hk)]
  split <;> split <;> exact P.ne _ _ (by omega) (by omega) (by omega)
 pm:=(Array.perm_iff_toList_perm.mp (mirror_perm _ _ _ _)).trans P.pm
omit S in
theorem rev_up {p:Array Nat} (P:Plc n p) {k:Nat} (hk:k≤n) (d:Dn lt p k):Up lt (PySem.W.kas_rev p 0 k) k:=fun i j hij hj=>by
 rw [getD_rev (by rw [P.sz];exact hk),getD_rev (by rw [P.sz];exact hk),if_pos (by omega),if_pos hj]
 exact d _ _ (by omega) (by omega)
theorem run_tail3 {p:Array Nat} (P:Plc n p) {k:Nat} (h1:1≤k) (hk:k≤n) (d:Dn lt p k):Run lt n (PySem.W.kas_tail3 k n p) fun r=>1≤r.1∧r.1≤n∧Plc n r.2∧Up lt r.2 r.1:=by
 unfold PySem.W.kas_tail3
 refine Run.bind ((run_asc S (rev_plc P hk) (n - k) k h1 (by omega) (rev_up P hk d)).mono fun r ⟨a,b,c,_⟩=>?_)
 exact ⟨by omega,by omega,rev_plc P hk,c⟩
theorem run_count {p:Array Nat} (P:Plc n p) (h1:1≤n):Run lt n (PySem.W.kas_count n p) fun r=>1≤r.1∧r.1≤n∧Plc n r.2∧Up lt r.2 r.1:=by
 unfold PySem.W.kas_count
 refine Run.bind ((run_asc S P (n - 1) 1 (Nat.le_refl _) (by omega) (fun i j hij hj=>by omega)).mono fun r ⟨a,b,u,c⟩=>?_)
 by_cases hr:(r==n)=true
 ·rw [if_pos hr]
  exact ⟨a,by omega,P,u⟩
 ·rw [if_neg hr]
  have hr':r≠n:=by simpa using hr
  by_cases h2:r > 1
  ·rw [if_pos h2]
   refine ⟨P.lt _ (by omega),P.lt _ (by omega),?_⟩
   rw [u 0 (r - 1) (by omega) (by omega)]
   exact ⟨a,by omega,P,u⟩
  ·rw [if_neg h2]
   have er:r=1:=by omega
   subst er
   unfold PySem.W.kas_descPart
   have c0:=c (by omega)
   have d2:Dn lt p 2:=fun i j hij hj=>by
    have ei:i=0:=by omega
    have ej:j=1:=by omega
    subst ei ej
    exact c0
   refine Run.bind ((run_desc S P (n - (1 + 1)) (1 + 1) (by omega) (by omega) d2).mono fun q ⟨e1,e2,e3,e4,e5⟩=>?_)
   rw [e2,if_neg (Nat.lt_irrefl 0),e1]
   exact run_tail3 S P (by omega) (by omega) e5
theorem run_place {p:Array Nat} (P:Plc n p) {k:Nat} (hk:k < n):∀ (f l r:Nat),r≤l + f→l≤r→r≤k→(∀ i,i < l→lt (p.getD i 0) (p.getD k 0)=true)→(∀ i,r≤i→i < k→lt (p.getD k 0) (p.getD i 0)=true)→Up lt p k→
  Run lt n (PySem.W.kas_place p k f l r) fun x=>x≤k∧(∀ i,i < x→lt (p.getD i 0) (p.getD k 0)=true)∧(∀ i,x≤i→i < k→lt (p.getD k 0) (p.getD i 0)=true)
 | 0,l,r,h1,h2,h3,hl,hr,_=>by
  have e:l=r:=by omega
  subst e
  exact ⟨h3,hl,hr⟩
 | f + 1,l,r,h1,h2,h3,hl,hr,u=>by
  unfold PySem.W.kas_place
  by_cases h:l≥r
  ·rw [if_pos h]
   have e:l=r:=by omega
   subst e
   exact ⟨h3,hl,hr⟩
  ·rw [if_neg h]
   refine ⟨P.lt _ (by omega),P.lt _ (by omega),?_⟩
   cases c:lt (p.getD k 0) (p.getD ((l + r) / 2) 0) with
   | true=>
    refine run_place P hk f l ((l + r) / 2) (by omega) (by omega) (by omega) hl (fun i hi1 hi2=>?_) u
    by_cases e:i=(l + r) / 2
    ·subst e;exact c
    ·exact S.tr _ _ _ (P.lt _ (by omega)) (P.lt _ (by omega)) (P.lt _ (by omega)) c (u _ _ (by omega) (by omega))
   | false=>
    have c':=S.tot _ _ (P.lt _ (by omega)) (P.lt _ (by omega)) (P.ne k ((l + r) / 2) (by omega) (by omega) (by omega)) c
    refine run_place P hk f ((l + r) / 2 + 1) r (by omega) (by omega) h3 (fun i hi=>?_) hr u
    by_cases e:i=(l + r) / 2
    ·subst e;exact c'
    ·exact S.tr _ _ _ (P.lt _ (by omega)) (P.lt _ (by omega)) (P.lt _ (by omega)) (u _ _ (by omega) (by omega)) c'
omit S in
theorem getD_bubble {p:Array Nat} {k d:Nat} (hk:k < p.size) (hd:d≤k) (i:Nat):(bubble p k d).getD i 0=if i=k - d then p.getD k 0 else if k - d < i∧i≤k then p.getD (i - 1) 0 else p.getD i 0:=by
 have e:∀ (q:Array Nat) (i:Nat),q.getD i 0=(q[i]?).getD 0:=fun q i=>by
  by_cases h:i < q.size
  ·simp [Array.getD,h]
  ·simp [Array.getD,h]
 rw [e,e,e,e,getElem?_bubble hk d hd]
 split
 ·rfl
 ·split <;> rfl
omit S in
theorem bubble_plc {p:Array Nat} (P:Plc n p) {k d:Nat} (hk:k < n) (hd:d≤k):Plc n (bubble p k d) where
 sz:=(bubble_size _ _ _).trans P.sz
 lt:=fun i hi=>by
  rw [getD_bubble (by rw [P.sz];exact hk) hd]
  split
  ·exact P.lt _ hk
  ·split
   ·exact P.lt _ (by omega)
   ·exact P.lt _ hi
 ne:=fun i j hi hj hne=>by
  rw [getD_bubble (by rw [P.sz];exact hk) hd,getD_bubble (by rw [P.sz];exact hk) hd]
  split <;> split <;> first | (split <;> first | exact P.ne _ _ (by omega) (by omega) (by omega) | (split <;> exact P.ne _ _ (by omega) (by omega) (by omega))) | exact P.ne _ _ (by omega) (by omega) (by omega) | omega
 pm:=(Array.perm_iff_toList_perm.mp (bubble_perm _ _ _)).trans P.pm
theorem run_bin:∀ (f:Nat) (p:Array Nat) (k:Nat),Plc n p→k + f=n→1≤k→Up lt p k→Run lt n (PySem.W.kas_bin f p k) fun q=>Plc n q∧Up lt q n
 | 0,p,k,P,e,_,u=>by
  have e':k=n:=by omega
  subst e'
  exact ⟨P,u⟩
 | f + 1,p,k,P,e,h1,u=>by
  unfold PySem.W.kas_bin
  refine Run.bind ((run_place S P (by omega:k < n) k 0 k (by omega) (by omega) (Nat.le_refl _) (fun i hi=>by omega) (fun i h1 h2=>by omega) u).mono fun l ⟨hl,ha,hb⟩=>?_)
  have hp:k < p.size:=by rw [P.sz];omega
  refine run_bin f _ (k + 1) (bubble_plc P (by omega) (by omega)) (by omega) (by omega) fun i j hij hj=>?_
  rw [getD_bubble hp (by omega),getD_bubble hp (by omega)]
  have el:k - (k - l)=l:=by omega
  rw [el]
  by_cases hi:i=l
  ·rw [if_pos hi]
   rw [if_neg (by omega:¬j=l),if_pos (by omega)]
   exact hb _ (by omega) (by omega)
  ·rw [if_neg hi]
   by_cases hj':j=l
   ·rw [if_pos hj',if_neg (by omega)]
    exact ha _ (by omega)
   ·rw [if_neg hj']
    by_cases c1:l < i∧i≤k
    ·rw [if_pos c1,if_pos (by omega)]
     exact u _ _ (by omega) (by omega)
    ·rw [if_neg c1]
     by_cases c2:l < j∧j≤k
     ·rw [if_pos c2]
      exact u _ _ (by omega) (by omega)
     ·rw [if_neg c2]
      exact u _ _ (by omega) (by omega)
theorem run_sort (h1:1≤n):Run lt n (PySem.W.kas_sort n) fun q=>Plc n q∧Up lt q n:=by
 unfold PySem.W.kas_sort
 have P0:Plc n (List.toArray (List.range n)):=by
  have e:∀ i,i < n→(List.toArray (List.range n)).getD i 0=i:=fun i hi=>by simp [Array.getD,hi]
  exact ⟨by simp,fun i hi=>by rw [e i hi];exact hi,fun i j hi hj hne=>by rw [e i hi,e j hj];exact hne,List.Perm.refl _⟩
 refine Run.bind ((run_count S P0 h1).mono fun r ⟨a,b,P,u⟩=>?_)
 by_cases h:r.1 < n
 ·rw [if_pos h]
  have em:max r.1 1=r.1:=by omega
  rw [em]
  exact run_bin S _ _ _ P (by omega) a u
 ·rw [if_neg h]
  have e:r.1=n:=by omega
  rw [e] at u
  exact ⟨P,u⟩
end
end L2
namespace L2
open PySem PySem.Spec PyProof.Rows
theorem ns_one {h:Heap} {a:Addr} {m m':Str→Option Value} (x:h.Ns a m) (y:h.Ns a m'):m=m':=by
 obtain ⟨o,es,ep,e,d,_,f⟩:=x
 obtain ⟨o',es',ep',e',d',_,f'⟩:=y
 rw [e] at e';cases e'
 rw [d] at d';cases d'
 funext z
 rw [←f z,←f' z]
theorem ObjOk.there {P:Program} {w:World} {H:Hp} {h:Heap} {a:Addr} {o:HO} (x:ObjOk P w H h a o):∃ u,h.get? a=some u:=by
 cases o with
 | lst xs=>obtain ⟨_,_,_,_,e⟩:=x;exact ⟨_,e⟩
 | tup xs=>obtain ⟨_,_,_,_,o,e,_⟩:=x;exact ⟨_,e⟩
 | dK kvs=>obtain ⟨_,_,_,_,o,_,_,e,_⟩:=x;exact ⟨_,e⟩
 | dT kvs=>obtain ⟨_,_,_,_,o,_,_,e,_⟩:=x;exact ⟨_,e⟩
 | set S n=>obtain ⟨o,_,_,_,e,_⟩:=x;exact ⟨_,e⟩
 | ins C dx fs=>obtain ⟨_,_,_,e,_⟩:=x;exact ⟨_,e⟩
 | own y=>obtain ⟨_,e⟩:=x;exact ⟨_,e⟩
 | xd fs=>obtain ⟨_,⟨_,_,_,e,_⟩,_⟩:=x;exact ⟨_,e⟩
 | rng lo hi=>obtain ⟨_,_,_,e⟩:=x;exact ⟨_,e⟩
 | frz ob u=>obtain ⟨e,_⟩:=x;exact ⟨_,e⟩
 | tbl ps=>exact ⟨_,show h.get? a=some _ from x⟩
 | met f y=>exact ⟨_,show h.get? a=some _ from x⟩
 | ext φ=>obtain ⟨_,⟨_,e⟩,_⟩:=x;exact ⟨_,e⟩
section
variable {X:Cx} {pins:List (Addr×Obj)} {σ:St} {H:Hp} {s:Shared}
theorem Inv.none_of (I:Inv X pins σ H s) {a:Addr} (h:s.heap.get? a=none):H a=none:=by
 cases q:H a with
 | none=>rfl
 | some o=>
  obtain ⟨u,e⟩:=(I.hok a o q).there
  rw [h] at e;cases e
theorem Inv.laidBut {a:Addr} {xs:List V} {its:List Value} {n t':Nat} {h':Heap} {m:Str→Option Value} (I:Inv X pins σ H s) (k:∀ b u,b≠X.env.locals→s.heap.get? b=some u→h'.get? b=some u) (hm:s.heap.Ns X.env.locals m) (hm':h'.Ns X.env.locals m)
  (hp:s.heap.get? a=none) (rv:Vals xs its) (hz:xs.length≤sizeLine) (ho:h'.get? a=some { cls:=.type "list",data:=.seq its.toArray n }):Inv X pins σ (upd H a (.lst xs)) { s with heap:=h',toks:=t' }:=by
 have hn:H a=none:=I.none_of hp
 have neL:∀ b u,H b=some u→b≠X.env.locals:=fun b u e z=>by rw [z,I.free] at e;cases e
 refine I.step (g':=s.gens) (d':=s.drawn) (ch:=[]) (fun _ z=>nomatch z) (fun b o h1 _ _ e _=>k b o h1 e) (fun b o h1 _ _ e _=>⟨o.slots,k b o h1 e⟩)
  (fun b o _ e q=>by rw [upd_ne (fun z=>by rw [z,hp] at e;cases e)];exact q) (fun b o _ e=>?_)
  (fun b xs q=>by rw [upd_ne (ne_of_none q hn)];exact q) (fun b o u q=>by rw [upd_ne (ne_of_none q hn)];exact q) (fun b ps q=>⟨#[],by rw [upd_ne (ne_of_none q hn),q];simp⟩) (fun m2 h2=>?_) (fun b u e=>?_) I.bare
 ·by_cases hb:b=X.env.locals
  ·subst hb
   obtain ⟨o',_,_,e',_⟩:=hm'
   exact ⟨o',e'⟩
  ·exact ⟨o,k b o hb e⟩
 ·rw [ns_one h2 hm];exact hm'
 ·by_cases hb:b=a
  ·subst hb
   rw [upd_same] at e
   cases e
   exact ⟨hz,its,n,rv,ho⟩
  ·rw [upd_ne hb] at e
   refine (I.hok b u e).stay (fun c v hc q=>k c v ?_ q) (fun c q=>by rw [upd_ne (ne_of_none q hn)];exact q) fun c xs q=>by rw [upd_ne (ne_of_none q hn)];exact q
   rcases hc with rfl | hc
   ·exact neL _ _ e
   ·exact neL _ _ hc
end
section
variable {X:Cx}
theorem bools_of:∀ {bs:List Bool} {vs:List Value},Vals (bs.map V.bl) vs→LSm.BoolsAre vs bs
 | [],_,.nil=>.nil
 | b::bs,_,.cons r t=>by
  cases (show _=Value.bool b from r)
  exact .cons b (bools_of t)
theorem call_all (hc:X.calm=true):CallR X (.builtin "all") (fun xs H Q=>∃ (p:Addr) (bs:List Bool),xs=[.ref p]∧SqL X.K H p (bs.map V.bl)∧Q (.bl (bs.all id)) H):=by
 intro pins s σ H xs us Q I r h
 obtain ⟨p,bs,rfl,hq,q⟩:=h
 obtain ⟨u,rfl,rx⟩:=Vals.one r
 cases (show u=Value.ref p from rx)
 obtain ⟨its,rv,pl,hz⟩:=I.list hq
 obtain ⟨m,F⟩:=I.fr
 have hb:=bools_of rv
 have hl:s.heap.IsList p its.toArray:=pl.isList
 have hlt:p < s.heap.objs.size:=by obtain ⟨_,e,_⟩:=hl;exact Heap.lt_size e
 refine call_all_walk (wpAny_pyIter_list hl ?_)
 refine ⟨s.heap.objs.size,[s.heap.objs.size,p],[s.heap.objs.size],its.toArray.size,_,_,fun i=>(bs[i]?).getD true,rfl,Walks.list (A:=X.A.in1) (I.ok.hd hc) _ p (Nat.ne_of_lt hlt) its.toArray,
  ⟨⟨_,Heap.get?_push_size _ rfl,rfl,rfl⟩,hl.push _⟩,fun i v s' Q' E' hP hQ=>?_,fun h' tk hk=>?_⟩
 ·obtain ⟨b,e,rfl⟩:=hb.get i v (by simpa using hP)
  simp only [e,Option.getD_some] at hQ
  exact wpAny_truthy_bool hQ
 ·have e:((List.range its.toArray.size).all fun i=>(bs[i]?).getD true)=bs.all id:=by
   rw [List.size_toArray,hb.length];exact LSm.range_all bs
  rw [e]
  exact ⟨.bl _,H,I.kept (LSm.kept_iter hk),rfl,q⟩
end
section
variable {prog:Program} {w:World} {A:Around} {E:Value→Shared→Prop} {s:Shared}
noncomputable def Col (prog:Program) (w:World) (s:Shared) (l:Addr) (vs:List Value):Prop:=∀ (A:Around) (E:Value→Shared→Prop) (Q:List Value→Shared→Prop),
 Q vs { s with heap:=(s.heap.push (seqObj "list" #[] 0)).update s.heap.objs.size (Obj.mapSeq (· ++vs.toArray)) }→wpAny (model prog w) A (collect (.ref l)) Q E s
theorem Col.list {l:Addr} {vs:List Value} (hl:s.heap.IsList l vs.toArray) (hz:vs.length≤sizeLine):Col prog w s l vs:=fun _ _ _ h=>collect_list hl h hz
theorem Col.tup {l:Addr} {vs:List Value} (hl:IsTup s.heap l vs.toArray) (hz:vs.length≤sizeLine):Col prog w s l vs:=by
 intro A E Q h
 obtain ⟨o,ho,hc,n,hd⟩:=hl
 have ho':(s.heap.push (seqObj "list" #[] 0)).get? l=some o:=Heap.get?_push_of_some _ ho
 have e0:((#[]:Array Value)++vs.toArray).toList=vs:=by simp
 unfold collect
 refine wpAny_bind (wpAny_runValue (codeAny_builtin entry_proto_collect' ?_))
 show wpAny _ _ (do again (.builtin "list.__iadd__" ⟨[←newList [],.ref l],[]⟩)) _ _ s
 refine wpAny_bind (wpAny_newList (wpAny_pure ⟨Code.quiet_builtin _ (by decide +kernel),codeAny_builtin entry_list_iadd' ?_⟩))
 show wpAny _ _ (Builtin.List.listExtendWith (.ref s.heap.objs.size) (.ref l) (.ref s.heap.objs.size)) _ _ { s with heap:=s.heap.push (seqObj "list" #[] 0) }
 unfold Builtin.List.listExtendWith
 refine wpAny_bind (wpAny_typeOf (T:="tuple") ⟨o,ho',hc⟩ ?_)
 have ht2:(Value.type "tuple"==Value.type "tuple")=true:=by rfl
 rw [if_pos (by rw [ht2];simp)]
 refine wpAny_bind (listItems_at ho' hd ?_)
 refine wpAny_bind (listItems_at (xs:=#[]) (n:=0) (Heap.get?_push_size _ rfl) rfl ?_)
 rw [if_neg (by simp)]
 refine wpAny_bind (listUpdate_at (xs:=#[]) (n:=0) (Heap.get?_push_size _ rfl) rfl ?_ (Nat.zero_le _) (Nat.le_trans (Nat.le_of_eq (by rw [←Array.length_toList,e0])) (Nat.le_succ_of_le hz)))
 refine wpAny_pure ?_
 show wpAny (model prog w) A (do
   let ob ←load s.heap.objs.size
   match ob.data with
   | .seq xs _=>pure xs.toList
   | _=>unsupported "internal:collect") Q E { s with heap:=(s.heap.push (seqObj "list" #[] 0)).update s.heap.objs.size (Obj.mapSeq (· ++vs.toArray)) }
 refine wpAny_bind (wpAny_load (get?_update_seq (Heap.get?_push_size _ rfl) _) ?_)
 show wpAny _ _ (pure ((#[]:Array Value)++vs.toArray).toList) Q E _
 rw [e0]
 exact wpAny_pure h
theorem sorted_many {l:Addr} {vs:List Value} {Q:Value→Shared→Prop} {h₀:Heap} {L:Addr} {m:Str→Option Value} {news:List (Addr×Obj)} (F:Fr h₀ L s.heap m) (N:News h₀ L s.heap news) (hl:Col prog w s l vs) (h2:2≤vs.length) (h64:vs.length < 64)
  (h:∀ D e1 h',Fr h₀ L h' m→News h₀ L h' ((D,seqObj "list" #[] e1)::news)→(∀ q∈news,q.1 < D)→
   wpAny (model prog w) A.in1.in1 (keyKind' vs.toArray) (fun κ s'=>(PySem.W.kas_sort vs.length).kasWp (PySem.W.kas_ask prog w A.in1.in1 κ vs) (fun p s''=>PySem.W.KasFin h₀ L m D e1 (p.toList.map fun i=>vs.getD i Value.none) (fun s3=>Q (.ref D) s3) s'') s') (fun _ _=>False) { s with heap:=h' }):
  wpAny (model prog w) A (call (.builtin "sorted") [.ref l]) Q E s:=by
 have hsl:vs.length≤sizeLine:=by rw [sizeLine_eq];omega
 refine Calls.call_function_entry kind_sorted plain_sorted entry_sorted (args_sorted1 _) ?_
 unfold Builtin.«sorted»
 refine wpAny_bind (m:=checkCount "sorted" 1 1 _) (wpAny_pure ?_)
 refine wpAny_bind (hl _ _ _ ?_)
 refine wpAny_bind (wpAny_newList ?_ hsl)
 have hsz:((s.heap.push (seqObj "list" #[] 0)).update s.heap.objs.size (Obj.mapSeq (· ++vs.toArray))).objs.size=s.heap.objs.size + 1:=by
  rw [Heap.size_update,size_push']
 have hoL:(((s.heap.push (seqObj "list" #[] 0)).update s.heap.objs.size (Obj.mapSeq (· ++vs.toArray))).push (seqObj "list" vs.toArray 0)).get? (s.heap.objs.size + 1)=some (seqObj "list" vs.toArray 0):=by
  rw [←hsz];exact Heap.get?_push_size _ rfl
 have keep:∀ b o,s.heap.get? b=some o→(((s.heap.push (seqObj "list" #[] 0)).update s.heap.objs.size (Obj.mapSeq (· ++vs.toArray))).push (seqObj "list" vs.toArray 0)).get? b=some o:=fun b o q=>by
  have hlt:b < s.heap.objs.size:=Heap.lt_size q
  rw [Heap.get?_push_ne _ _ _ (by rw [hsz];exact Nat.ne_of_lt (Nat.lt_succ_of_lt hlt)),Heap.get?_update_ne _ _ _ _ (Nat.ne_of_lt hlt),Heap.get?_push_ne _ _ _ (Nat.ne_of_lt hlt)]
  exact q
 have hL:L < s.heap.objs.size:=F.ns.lt
 show wpAny _ _ _ _ _ { s with heap:=((s.heap.push (seqObj "list" #[] 0)).update s.heap.objs.size (Obj.mapSeq (· ++vs.toArray))).push (seqObj "list" vs.toArray 0) }
 rw [hsz]
 refine wpAny_bind (wpAny_holding (wpAny_call_entry slot_list_sort ⟨_,hoL,rfl⟩ entry_list_sort ?body (args_list_sort _)))
 case body=>
  refine PySem.W.kat_list_sort (s:={ s with heap:=((s.heap.push (seqObj "list" #[] 0)).update s.heap.objs.size (Obj.mapSeq (· ++vs.toArray))).push (seqObj "list" vs.toArray 0) })
   (F.kept keep) (N.grown keep) hoL (Nat.ne_of_gt (Nat.lt_succ_of_lt hL)) (Heap.get?_none_of_le (Nat.le_trans F.above (Nat.le_succ_of_le (Nat.le_of_lt hL))))
   (fun p hp=>Nat.ne_of_lt (Nat.lt_succ_of_lt (Heap.lt_size (N p hp).1))) h2 h64 fun e1 h' F' N'=>?_
  refine wpAny_mono (h _ e1 h' F' N' fun q hq=>Nat.lt_succ_of_lt (Heap.lt_size (N q hq).1)) (fun κ s' hk=>?_) fun _ _ x=>x
  rw [PySem.W.kat_ask_eq rfl] at hk ⊢
  exact PySem.W.kas_wp_mono hk fun p s'' hk'=>hk'.mono fun s3 hq=>⟨_,rfl,wpAny_pure ⟨_,rfl,hq⟩⟩
theorem sorted_few {l:Addr} {vs:List Value} {Q:Value→Shared→Prop} (hl:Col prog w s l vs) (h2:vs.length < 2)
  (h:∀ D h' n,s.heap.objs.size≤D→(∀ b o,s.heap.get? b=some o→h'.get? b=some o)→h'.get? D=some { cls:=.type "list",data:=.seq vs.toArray n }→Q (.ref D) { s with heap:=h' }):
  wpAny (model prog w) A (call (.builtin "sorted") [.ref l]) Q E s:=by
 have hsl:vs.length≤sizeLine:=by rw [sizeLine_eq];omega
 refine Calls.call_function_entry kind_sorted plain_sorted entry_sorted (args_sorted1 _) ?_
 unfold Builtin.«sorted»
 refine wpAny_bind (m:=checkCount "sorted" 1 1 _) (wpAny_pure ?_)
 refine wpAny_bind (hl _ _ _ ?_)
 refine wpAny_bind (wpAny_newList ?_ hsl)
 have hsz:((s.heap.push (seqObj "list" #[] 0)).update s.heap.objs.size (Obj.mapSeq (· ++vs.toArray))).objs.size=s.heap.objs.size + 1:=by
  rw [Heap.size_update,size_push']
 have hoL:(((s.heap.push (seqObj "list" #[] 0)).update s.heap.objs.size (Obj.mapSeq (· ++vs.toArray))).push (seqObj "list" vs.toArray 0)).get? (s.heap.objs.size + 1)=some (seqObj "list" vs.toArray 0):=by
  rw [←hsz];exact Heap.get?_push_size _ rfl
 have keep:∀ b o,s.heap.get? b=some o→(((s.heap.push (seqObj "list" #[] 0)).update s.heap.objs.size (Obj.mapSeq (· ++vs.toArray))).push (seqObj "list" vs.toArray 0)).get? b=some o:=fun b o q=>by
  have hlt:b < s.heap.objs.size:=Heap.lt_size q
  rw [Heap.get?_push_ne _ _ _ (by rw [hsz];exact Nat.ne_of_lt (Nat.lt_succ_of_lt hlt)),Heap.get?_update_ne _ _ _ _ (Nat.ne_of_lt hlt),Heap.get?_push_ne _ _ _ (Nat.ne_of_lt hlt)]
  exact q
 show wpAny _ _ _ _ _ { s with heap:=((s.heap.push (seqObj "list" #[] 0)).update s.heap.objs.size (Obj.mapSeq (· ++vs.toArray))).push (seqObj "list" vs.toArray 0) }
 rw [hsz]
 generalize ((s.heap.push (seqObj "list" #[] 0)).update s.heap.objs.size (Obj.mapSeq (· ++vs.toArray))).push (seqObj "list" vs.toArray 0)=g at hoL keep ⊢
 refine wpAny_bind (wpAny_holding (wpAny_call_entry slot_list_sort ⟨_,hoL,rfl⟩ entry_list_sort ?body (args_list_sort _)))
 case body=>
  rw [list_sort_plain]
  have ha:s.heap.objs.size + 1 < g.objs.size:=Heap.lt_size hoL
  refine wpAny_bind (listItems_at hoL rfl ?_)
  refine wpAny_bind (listUpdate_at hoL rfl ?_ (by rw [List.size_toArray];exact hsl) (Nat.zero_le _))
  obtain ⟨e1,ho1⟩:∃ e1,(g.update (s.heap.objs.size + 1) (Obj.mapSeq fun _=>(#[]:Array Value))).get? (s.heap.objs.size + 1)=some (seqObj "list" #[] e1):=⟨_,get?_update_seq hoL (fun _=>#[])⟩
  refine wpAny_bind (seqEpoch_at ho1 rfl ?_)
  refine wpAny_bind (wpAny_newTuple ?_ hsl)
  refine wpAny_bind (wpAny_newList ?_ (Nat.zero_le _))
  refine wpAny_holding ?_
  have ho6:(((g.update (s.heap.objs.size + 1) (Obj.mapSeq fun _=>(#[]:Array Value))).push (seqObj "tuple" vs.toArray 0)).push (seqObj "list" #[] 0)).get? (s.heap.objs.size + 1)=some (seqObj "list" #[] e1):=by
   rw [Heap.get?_push_ne _ _ _ (by rw [size_push',Heap.size_update];exact Nat.ne_of_lt (Nat.lt_succ_of_lt ha)),Heap.get?_push_ne _ _ _ (by rw [Heap.size_update];exact Nat.ne_of_lt ha)]
   exact ho1
  show wpAny (model prog w) _ _ _ _ { s with heap:=((g.update (s.heap.objs.size + 1) (Obj.mapSeq fun _=>(#[]:Array Value))).push (seqObj "tuple" vs.toArray 0)).push (seqObj "list" #[] 0) }
  dsimp only
  have h2':vs.toArray.size < 2:=by simpa using h2
  rw [if_pos h2',if_pos h2']
  refine wpAny_bind (wpAny_pure ?_)
  rw [StateT.run_pure]
  refine wpAny_bind (wpAny_pure ?_)
  dsimp only
  refine wpAny_bind (seqEpoch_at ho6 rfl ?_)
  have earr:(arrOf (SortSt.mk' general' (vs.toArray.zip vs.toArray) #[] 7 none)).map (·.2)=vs.toArray:=by
   show (pairsOf vs).map (·.2)=vs.toArray
   apply Array.toList_inj.mp
   rw [Array.toList_map,pairsOf_toList]
   have e:∀ l:List Value,(l.zip l).map (·.2)=l:=fun l=>by
    induction l with
    | nil=>rfl
    | cons a r ih=>rw [List.zip_cons_cons,List.map_cons,ih]
   rw [e]
  refine wpAny_bind (listUpdate_at ho6 rfl ?_ (Nat.zero_le _) (hsz2:=by rw [earr,List.size_toArray];exact Nat.le_succ_of_le hsl))
  simp only [bne_self_eq_false,Bool.false_eq_true,if_false]
  refine wpAny_pure ⟨_,rfl,wpAny_pure ⟨_,rfl,?_⟩⟩
  have s2:=get?_update_seq ho6 fun _=>vs.toArray
  rw [earr]
  refine h _ _ _ (Nat.le_succ _) (fun b o q=>?_) s2
  have hlt:b < s.heap.objs.size:=Heap.lt_size q
  have hlt2:b < g.objs.size:=Heap.lt_size (keep b o q)
  rw [Heap.get?_update_ne _ _ _ _ (Nat.ne_of_lt (Nat.lt_succ_of_lt hlt)),Heap.get?_push_ne _ _ _ (by rw [size_push',Heap.size_update];exact Nat.ne_of_lt (Nat.lt_succ_of_lt hlt2)),Heap.get?_push_ne _ _ _ (by rw [Heap.size_update];exact Nat.ne_of_lt hlt2),
   Heap.get?_update_ne _ _ _ _ (Nat.ne_of_lt (Nat.lt_succ_of_lt hlt))]
  exact keep b o q
end
end L2
namespace L2
open PySem PySem.Spec PyProof.Rows
theorem lex_asym:∀ {a b:List Int},HT.lexLt a b=true→HT.lexLt b a=false
 | [],[],h=>by cases h
 | [],_::_,_=>rfl
 | _::_,[],h=>by cases h
 | x::a,y::b,h=>by
  rw [HT.lexLt_cons] at h ⊢
  by_cases e:x=y
  ·rw [if_pos e] at h
   rw [if_pos e.symm]
   exact lex_asym h
  ·rw [if_neg e] at h
   rw [if_neg (Ne.symm e)]
   have:=of_decide_eq_true h
   exact decide_eq_false (by omega)
theorem lex_tot:∀ {a b:List Int},a≠b→HT.lexLt a b=false→HT.lexLt b a=true
 | [],[],h,_=>(h rfl).elim
 | [],_::_,_,h=>by cases h
 | _::_,[],_,_=>rfl
 | x::a,y::b,hne,h=>by
  rw [HT.lexLt_cons] at h ⊢
  by_cases e:x=y
  ·rw [if_pos e] at h
   rw [if_pos e.symm]
   exact lex_tot (fun z=>hne (by rw [e,z])) h
  ·rw [if_neg e] at h
   rw [if_neg (Ne.symm e)]
   have:=of_decide_eq_false h
   exact decide_eq_true (by omega)
theorem lex_tr:∀ {a b c:List Int},HT.lexLt a b=true→HT.lexLt b c=true→HT.lexLt a c=true
 | [],_,[],h1,h2=>by
  rename_i b
  cases b
  ·exact h1
  ·cases h2
 | [],_,_::_,_,_=>rfl
 | _::_,[],_,h,_=>by cases h
 | _::_,_::_,[],_,h=>by cases h
 | x::a,y::b,z::c,h1,h2=>by
  rw [HT.lexLt_cons] at h1 h2 ⊢
  by_cases e1:x=y
  ·rw [if_pos e1] at h1
   by_cases e2:y=z
   ·rw [if_pos e2] at h2
    rw [if_pos (e1.trans e2)]
    exact lex_tr h1 h2
   ·rw [if_neg e2] at h2
    rw [if_neg (by rw [e1];exact e2),e1]
    exact h2
  ·rw [if_neg e1] at h1
   by_cases e2:y=z
   ·rw [if_pos e2] at h2
    rw [if_neg (by rw [←e2];exact e1),←e2]
    exact h1
   ·rw [if_neg e2] at h2
    have p:=of_decide_eq_true h1
    have q:=of_decide_eq_true h2
    rw [if_neg (by omega)]
    exact decide_eq_true (by omega)
section
variable {prog:Program} {w:World} {A:Around} {E:Value→Shared→Prop} {s:Shared}
theorem lex_ints {b:Bool} {Q:Bool→Shared→Prop}:∀ {ns ms:List Int} {vs us:List Value} (i:Nat),Vals (ns.map V.int) vs→Vals (ms.map V.int) us→ns.length=ms.length→Q (HT.lexLt ns ms) s→
  PySem.W.KatLex prog w A b false Q (vs.zip us) i s
 | [],[],_,_,_,.nil,.nil,_,q=>q
 | [],_::_,_,_,_,_,_,h,_=>by simp at h
 | _::_,[],_,_,_,_,_,h,_=>by simp at h
 | n::ns,m::ms,_,_,i,.cons r1 t1,.cons r2 t2,h,q=>by
  obtain ⟨t,rfl⟩:=r1
  obtain ⟨u,rfl⟩:=r2
  rw [List.zip_cons_cons]
  refine PySem.W.kat_cons (SeqAt.EqAt.int_int n t m u prog w _ _ ?_)
  rw [HT.lexLt_cons] at q
  by_cases e:n=m
  ·rw [if_pos e] at q
   rw [show (n==m)=true by simpa using e]
   exact PySem.W.kat_yes (lex_ints (i + 1) t1 t2 (by simpa using h) q)
  ·rw [if_neg e] at q
   rw [show (n==m)=false by simpa using e]
   refine PySem.W.kat_no ?_
   cases hb:(b&&i==0) with
   | true=>exact oneLt_int q
   | false=>exact PySem.W.kat_one _ _ (lt_int (show PySem.W.BoolBack Q (.bool (decide (n < m))) s from q))
theorem lex_pre {b:Bool} {Q:Bool→Shared→Prop} {ns ms:List Int}:∀ {ps:List Str} {vs us:List Value} (i:Nat),Vals (ps.map V.str++ns.map V.int) vs→Vals (ps.map V.str++ms.map V.int) us→ns.length=ms.length→Q (HT.lexLt ns ms) s→
  PySem.W.KatLex prog w A b false Q (vs.zip us) i s
 | [],_,_,i,h1,h2,h,q=>lex_ints i h1 h2 h q
 | p::ps,_,_,i,.cons r1 t1,.cons r2 t2,h,q=>by
  obtain ⟨t,rfl⟩:=r1
  obtain ⟨u,rfl⟩:=r2
  rw [List.zip_cons_cons]
  refine PySem.W.kat_cons (SeqAt.EqAt.str_str p t p u prog w _ _ ?_)
  rw [beq_self_eq_true]
  exact PySem.W.kat_yes (lex_pre (i + 1) t1 t2 h q)
end
noncomputable def tupOf (ps:List Str) (ns:List Int):PyData:=.tuple (ps.map .str++ns.map .int)
theorem IsAll.preInts {H:Hp} {ns:List Int}:∀ {ps:List Str} {vs:List V},IsAll H vs (ps.map PyData.str++ns.map PyData.int)→vs=ps.map V.str++ns.map V.int
 | [],_,h=>h.of_ints
 | p::ps,_,h=>by
  rw [List.map_cons,List.cons_append] at h
  cases h with
  | cons h1 t=>
  cases h1
  have:=IsAll.preInts (ps:=ps) t
  rw [this]
  rfl
theorem katTups_of {h:Heap} {G:Value→Prop}:∀ (its:List Value),(∀ (i:Nat) u,its[i]? =some u→∃ (a:Addr) (o:Obj) (zs:Array Value) (n:Nat) (f:Value),u=.ref a∧h.get? a=some o∧o.cls=.type "tuple"∧o.data=.seq zs n∧zs[0]? =some f∧G f)→
  ∃ fs,PySem.W.KatTups h its fs∧fs.length=its.length∧∀ v∈fs,G v
 | [],_=>⟨[],PySem.W.KatTups.nil,rfl,fun _ h=>nomatch h⟩
 | u::its,hi=>by
  obtain ⟨fs,t,l,g⟩:=katTups_of its fun i u e=>hi (i + 1) u (by simpa using e)
  obtain ⟨a,o,zs,n,f,rfl,h1,h2,h3,h4,h5⟩:=hi 0 u rfl
  refine ⟨f::fs,PySem.W.KatTups.cons h1 h2 h3 h4 t,by simp [l],fun v hv=>?_⟩
  rcases List.mem_cons.mp hv with rfl | hv
  ·exact h5
  ·exact g v hv
theorem map_getD_range {α:Type} (d:α) (l:List α):(List.range l.length).map (fun i=>l.getD i d)=l:=by
 apply List.ext_getElem?
 intro i
 rw [List.getElem?_map]
 by_cases h:i < l.length
 ·rw [List.getElem?_range h]
  simp [h]
 ·rw [List.getElem?_eq_none (by simpa using h),List.getElem?_eq_none (by simpa using h)]
  rfl
section
variable {X:Cx}
noncomputable def rSorted (K:PySem.W.Frag):List V→Hp→VK→Prop:=fun xs H Q=>∃ (p:Addr) (vs:List V) (ps:List Str) (nss:List (List Int)) (k:Nat),xs=[.ref p]∧(SqL K H p vs∨SqT K H p vs)∧IsAll H vs (nss.map (tupOf ps))∧(∀ ns∈nss,ns.length=k)∧0 < ps.length + k∧nss.Nodup∧nss.length < 64∧
 ∀ (l:Addr) (vs':List V) (nss':List (List Int)),H l=none→IsAll H vs' (nss'.map (tupOf ps))→nss'.Perm nss→nss'.Pairwise (fun a b=>HT.lexLt a b=true)→Q (.ref l) (upd H l (.lst vs'))
theorem call_sorted:CallR X (.builtin "sorted") (rSorted X.K):=by
 intro pins s σ H xs us Q I r h
 obtain ⟨p,vs,ps,nss,k,rfl,hq,ha,hk,hpos,hnd,h64,q⟩:=h
 obtain ⟨u,rfl,rx⟩:=Vals.one r
 cases (show u=Value.ref p from rx)
 obtain ⟨its,rv,hl,hz⟩:∃ its,Vals vs its∧Col X.prog X.w s p its∧vs.length≤sizeLine:=by
  rcases hq with hq | hq
  ·obtain ⟨its,rv,pl,hz⟩:=I.list hq
   exact ⟨its,rv,Col.list pl.isList (by rw [←rv.length];exact hz),hz⟩
  ·obtain ⟨its,rv,pl,hz⟩:=I.tuple hq
   exact ⟨its,rv,Col.tup pl (by rw [←rv.length];exact hz),hz⟩
 have e1:vs.length=nss.length:=by rw [ha.length,List.length_map]
 have e2:its.length=nss.length:=by rw [←rv.length,e1]
 by_cases h2:its.length < 2
 ·refine sorted_few hl h2 fun D h' n hD hkeep ho=>?_
  refine ⟨.ref D,_,I.laid (t':=s.toks) (o:=.lst vs) hkeep hD ⟨hz,its,n,rv,ho⟩,rfl,q D vs nss (I.hok.fresh hD) ha (List.Perm.refl _) ?_⟩
  match nss,e2,h2 with
  | [],_,_=>exact .nil
  | [a],_,_=>exact List.pairwise_singleton _ _
  | a::b::r,e2,h2=>simp at e2;omega
 ·obtain ⟨m,F⟩:=I.fr
  refine sorted_many F (news:=allNews X.base s.heap X.env.locals) news_all hl (by omega) (by omega) fun D e0 h' F' N' hD=>?_
  have hkeep:∀ b o,b≠X.env.locals→s.heap.get? b=some o→h'.get? b=some o:=fun b o hb e=>by
   cases qb:X.base.get? b with
   | some u=>
    have:=I.bk b u qb
    rw [e] at this;cases this
    exact F'.keep b _ qb
   | none=>exact (N' (b,o) (List.mem_cons_of_mem _ (mem_allNews hb qb e))).1
  have item:∀ (i:Nat) (ns:List Int),nss[i]? =some ns→∃ (a:Addr) (o:Obj) (zs:List Value) (n:Nat),its.getD i Value.none=.ref a∧h'.get? a=some o∧o.cls=.type "tuple"∧o.data=.seq zs.toArray n∧Vals (ps.map V.str++ns.map V.int) zs:=fun i ns e=>by
   obtain ⟨v,ev,iv⟩:=ha.get (i:=i) (d:=tupOf ps ns) (by rw [List.getElem?_map,e];rfl)
   obtain ⟨u,eu,ru⟩:=rv.get ev
   unfold tupOf at iv
   cases iv with
   | @tup a xs _ ea hxs=>
    obtain rfl:=hxs.preInts
    obtain ⟨zs,rz,⟨o,h1,h2,n,h3⟩,_⟩:=I.tuple (SqT.of ea)
    have hL:a≠X.env.locals:=fun z=>by rw [z,I.free] at ea;cases ea
    refine ⟨a,o,zs,n,?_,hkeep a o hL h1,h2,h3,rz⟩
    rw [List.getD_eq_getElem?_getD,eu]
    exact ru
  obtain ⟨T,fs,tups,hfl,hT,hTT⟩:∃ (T:String) (fs:List Value),PySem.W.KatTups h' its fs∧fs.length=its.length∧(∀ v∈fs,typeOf v=pure (Value.type T))∧(Value.type T==Value.type T)=true:=by
   have go:∀ T:String,(∀ (ns:List Int) (zs:List Value),ns.length=k→Vals (ps.map V.str++ns.map V.int) zs→∃ f,zs.toArray[0]? =some f∧typeOf f=pure (Value.type T))→
     ∃ (fs:List Value),PySem.W.KatTups h' its fs∧fs.length=its.length∧(∀ v∈fs,typeOf v=pure (Value.type T)):=fun T hf=>
    katTups_of its fun i u eu=>by
     have hi:i < nss.length:=by rw [←e2];exact (List.getElem?_eq_some_iff.mp eu).1
     obtain ⟨a,o,zs,n,g1,g2,g3,g4,g5⟩:=item i nss[i] (List.getElem?_eq_getElem hi)
     rw [List.getD_eq_getElem?_getD,eu] at g1
     obtain ⟨f,f1,f2⟩:=hf _ zs (hk _ (List.getElem_mem hi)) g5
     exact ⟨a,o,zs.toArray,n,f,g1,g2,g3,g4,f1,f2⟩
   cases hps:ps with
   | nil=>
    obtain ⟨fs,a,b,c⟩:=go "int" fun ns zs hn rz=>by
     subst hps
     match ns,zs,rz,hn with
     | [],_,_,hn=>simp at hpos;subst hn;simp at hpos
     | n::ns,_,.cons r _,_=>
      obtain ⟨t,rfl⟩:=r
      exact ⟨_,rfl,rfl⟩
    exact ⟨"int",fs,a,b,c,rfl⟩
   | cons p1 pr=>
    obtain ⟨fs,a,b,c⟩:=go "str" fun ns zs hn rz=>by
     subst hps
     match zs,rz with
     | _,.cons r _=>
      obtain ⟨t,rfl⟩:=r
      exact ⟨_,rfl,rfl⟩
    exact ⟨"str",fs,a,b,c,rfl⟩
  refine PySem.W.kat_kind tups (by omega) (fun v hv=>PySem.W.Looks.of_pure (hT v hv)) hTT ?_
  have S:Str1 (fun i j=>HT.lexLt (nss.getD i []) (nss.getD j [])) its.length:=⟨fun i j k _ _ _ a b=>lex_tr a b,fun i j hi hj hne a=>lex_tot (fun z=>hne ?_) a,fun i j _ _ a=>lex_asym a⟩
  ·rw [e2]
   rw [e2] at S
   refine Run.wp (fun i j C hi hj hC=>?_) (fun pq hpq=>?_) (run_sort S (by omega))
   ·show wpAny _ _ (keyLt' _ (its.getD i Value.none) (its.getD j Value.none)) C _ _
    obtain ⟨a,o,zs,n,g1,g2,g3,g4,g5⟩:=item i nss[i] (List.getElem?_eq_getElem hi)
    obtain ⟨a',o',zs',n',g1',g2',g3',g4',g5'⟩:=item j nss[j] (List.getElem?_eq_getElem hj)
    rw [g1,g1']
    refine PySem.W.kat_lt g2 g4 g2' g4' ?_
    have hn1:=hk _ (List.getElem_mem hi)
    have hn2:=hk _ (List.getElem_mem hj)
    have ez:decide (zs.toArray.size < zs'.toArray.size)=false:=by
     have l1:=g5.length
     have l2:=g5'.length
     simp only [List.length_append,List.length_map] at l1 l2
     simp only [List.size_toArray]
     exact decide_eq_false (by omega)
    rw [ez]
    refine lex_pre 0 (by simpa using g5) (by simpa using g5') (by omega) ?_
    have e1':nss.getD i []=nss[i]:=by simp [hi]
    have e2':nss.getD j []=nss[j]:=by simp [hj]
    rw [←e1',←e2']
    exact hC
   ·obtain ⟨P,up⟩:=hpq
    refine PySem.W.KasFin.intro F' N' (.head fun x hx=>Nat.ne_of_lt (hD x hx)) fun h'' c F'' N''=>?_
    have hnD:s.heap.get? D=none:=by
     cases qd:s.heap.get? D with
     | none=>rfl
     | some o=>
      have hh:=N' (D,_) List.mem_cons_self
      have hm:=hD (D,o) (mem_allNews hh.2.1 hh.2.2 qd)
      exact absurd hm (Nat.lt_irrefl _)
    have hkeep2:∀ b o,b≠X.env.locals→s.heap.get? b=some o→h''.get? b=some o:=fun b o hb e=>by
     cases qb:X.base.get? b with
     | some u=>
      have:=I.bk b u qb
      rw [e] at this;cases this
      exact F''.keep b _ qb
     | none=>exact (N'' (b,o) (List.mem_cons_of_mem _ (mem_allNews hb qb e))).1
    have hlt:∀ x∈pq.toList,x < nss.length:=fun x hx=>List.mem_range.mp (P.pm.mem_iff.mp hx)
    have rv2:∀ l:List Nat,(∀ x∈l,x < nss.length)→Vals (l.map fun i=>vs.getD i .non) (l.map fun i=>its.getD i Value.none)∧IsAll H (l.map fun i=>vs.getD i .non) ((l.map fun i=>nss.getD i []).map (tupOf ps)):=fun l=>by
     induction l with
     | nil=>exact fun _=>⟨.nil,.nil⟩
     | cons x l ih=>
      intro hx
      obtain ⟨ih1,ih2⟩:=ih fun y hy=>hx y (List.mem_cons_of_mem _ hy)
      have hxn:=hx x List.mem_cons_self
      obtain ⟨v,ev,iv⟩:=ha.get (i:=x) (d:=tupOf ps nss[x]) (by rw [List.getElem?_map,List.getElem?_eq_getElem hxn];rfl)
      obtain ⟨u,eu,ru⟩:=rv.get ev
      have a1:vs.getD x .non=v:=by rw [List.getD_eq_getElem?_getD,ev];rfl
      have a2:its.getD x Value.none=u:=by rw [List.getD_eq_getElem?_getD,eu];rfl
      have a3:nss.getD x []=nss[x]:=by simp [hxn]
      simp only [List.map_cons,a1,a2,a3]
      exact ⟨.cons ru ih1,.cons iv ih2⟩
    obtain ⟨rv3,ia3⟩:=rv2 pq.toList hlt
    have ho:=(N'' (D,_) List.mem_cons_self).1
    have hpl:pq.toList.length=nss.length:=by rw [Array.length_toList];exact P.sz
    refine ⟨.ref D,_,I.laidBut (t':=s.toks) hkeep2 F.ns F''.ns hnD rv3 (by rw [List.length_map,hpl,sizeLine_eq];omega) ho,rfl,q D _ _ (I.none_of hnD) ia3 ?_ ?_⟩
    ·have:=P.pm.map fun i=>nss.getD i []
     rw [map_getD_range] at this
     exact this
    ·rw [List.pairwise_iff_getElem]
     intro i j hi hj hij
     simp only [List.length_map] at hi hj
     have:=up i j hij (by rw [←hpl];exact hj)
     have z:∀ x (hx:x < pq.toList.length),pq.getD x 0=pq.toList[x]:=fun x hx=>by
      have hx':x < pq.size:=by simpa using hx
      simp [Array.getD,hx']
     rw [z i hi,z j hj] at this
     simpa using this
  ·rw [e2] at hi hj
   have e1':nss.getD i []=nss[i]:=by simp [hi]
   have e2':nss.getD j []=nss[j]:=by simp [hj]
   rw [e1',e2'] at z
   exact (List.getElem_inj hnd).mp z
end
end L2
namespace L2
open PySem PySem.Spec PyProof.Rows
theorem bt_len:bootBuiltins "len"=some (.builtin "len"):=by decide +kernel
theorem bt_isinstance:bootBuiltins "isinstance"=some (.builtin "isinstance"):=by decide +kernel
theorem bt_all:bootBuiltins "all"=some (.builtin "all"):=by decide +kernel
theorem bt_sorted:bootBuiltins "sorted"=some (.builtin "sorted"):=by decide +kernel
theorem bt_max:bootBuiltins "max"=some (.builtin "max"):=by decide +kernel
theorem bt_tuple:bootBuiltins "tuple"=some (.type "tuple"):=by decide +kernel
theorem bt_list:bootBuiltins "list"=some (.type "list"):=by decide +kernel
theorem bt_int:bootBuiltins "int"=some (.type "int"):=by decide +kernel
theorem bt_bool:bootBuiltins "bool"=some (.type "bool"):=by decide +kernel
theorem bt_set:bootBuiltins "set"=some (.type "set"):=by decide +kernel
theorem bt_range:bootBuiltins "range"=some (.type "range"):=by decide +kernel
theorem pe_gint {X:Cx} {x:Str} {n:Int} {pos:Pos} (hg:Gl X x) (hm:∃ tk,X.mg x=some (.int n tk)) (hd:(x==("__debug__":Str))=false:=by decide):PE X (.Name x pos) (tC (.int n)):=
 fun _ _ _ H _ I h=>let ⟨tk,e⟩:=hm;ld_glob I hg e ⟨.int n,H,I,⟨tk,rfl⟩,h⟩ hd
noncomputable def rIxA (K:PySem.W.Frag):R2:=fun x y H Q=>∃ p xs i v,x=.ref p∧y=.int i∧(SqL K H p xs∨SqT K H p xs)∧atI xs i=some v∧Q v H
theorem ix_any {X:Cx}:IxR X (rIxA X.K):=by
 intro value slice pins s σ H x y v u Q I rx ry h hs
 obtain ⟨p,xs,i,w,e1,e2,hq,ha,q⟩:=h
 rcases hq with hq | hq
 ·exact ix_list value slice pins s σ H x y v u Q I rx ry ⟨p,xs,i,w,e1,e2,hq,ha,q⟩ hs
 ·exact ix_tup value slice pins s σ H x y v u Q I rx ry ⟨p,xs,i,w,e1,e2,hq,ha,q⟩ hs
noncomputable def rIsinst:List V→Hp→VK→Prop:=fun xs H Q=>∃ x T d,xs=[x,.ty T]∧T∈(["bool","int","tuple","list","str","dict"]:List String)∧Is H x d∧Q (.bl (isTy T d)) H
noncomputable def rLen (K:PySem.W.Frag):List V→Hp→VK→Prop:=fun xs H Q=>∃ p ys,xs=[.ref p]∧(SqL K H p ys∨SqT K H p ys)∧Q (.int ys.length) H
noncomputable def rAll (K:PySem.W.Frag):List V→Hp→VK→Prop:=fun xs H Q=>∃ (p:Addr) (bs:List Bool),xs=[.ref p]∧SqL K H p (bs.map V.bl)∧Q (.bl (bs.all id)) H
noncomputable def rAny (K:PySem.W.Frag):List V→Hp→VK→Prop:=fun xs H Q=>∃ (p:Addr) (bs:List Bool),xs=[.ref p]∧SqL K H p (bs.map V.bl)∧Q (.bl (bs.any id)) H
noncomputable def rIsN:R2:=fun x y H Q=>y=.non∧Q (.bl (decide (x=.non))) H
noncomputable def rNotN:R2:=fun x y H Q=>y=.non∧Q (.bl (!decide (x=.non))) H
section
variable {X:Cx}
theorem c_isinst:CallR X (.builtin "isinstance") rIsinst:=call_isinst
theorem c_len:CallR X (.builtin "len") (rLen X.K):=call_len_seq
theorem c_all (hc:X.calm=true):CallR X (.builtin "all") (rAll X.K):=call_all hc
theorem o_isN:OpR X (compareOp .Is) rIsN:=op_isN
theorem o_notN:OpR X (compareOp .IsNot) rNotN:=op_notN
noncomputable def rTupOf (K:PySem.W.Frag):List V→Hp→VK→Prop:=fun xs H Q=>∃ p ys,xs=[.ref p]∧((SqL K H p ys∧∀ l,H l=none→Q (.ref l) (upd H l (.tup ys)))∨(SqT K H p ys∧Q (.ref p) H))
noncomputable def rLstOf (K:PySem.W.Frag):List V→Hp→VK→Prop:=fun xs H Q=>∃ p ys,xs=[.ref p]∧(SqL K H p ys∨SqT K H p ys)∧∀ l,H l=none→Q (.ref l) (upd H l (.lst ys))
theorem c_list:CallR X (.type "list") (rLstOf X.K):=call_list_of
theorem c_tuple:CallR X (.type "tuple") (rTupOf X.K):=call_tuple_of
noncomputable def rMax2:List V→Hp→VK→Prop:=fun xs H Q=>∃ i j:Int,xs=[.int i,.int j]∧Q (.int (if j > i then j else i)) H
noncomputable def rInt1:List V→Hp→VK→Prop:=fun xs H Q=>(∃ i,xs=[.int i]∧Q (.int i) H)∨∃ k,xs=[.bl k]∧Q (.int (if k then 1 else 0)) H
theorem c_int:CallR X (.type "int") rInt1:=call_int1
end
@[reducible] def isBoolD:PyData→Bool | .bool _=>true | _=>false
@[reducible] def isIntD:PyData→Bool | .bool _=>true | .int _=>true | _=>false
@[reducible] def isTupD:PyData→Bool | .tuple _=>true | _=>false
@[reducible] def isLstD:PyData→Bool | .list _=>true | _=>false
@[reducible] def isStrD:PyData→Bool | .str _=>true | _=>false
section
variable {σ:St} {H:Hp} {Q:VK} {D:Ends} {K:PySem.W.Frag}
theorem rd_seq {t u:TS} (h:t { D with nx:=u D } σ H):tSeq t u D σ H:=h
theorem rd_next (h:D.nx σ H):tNext D σ H:=h
theorem rd_ifS {c:TT} {t u:TS} (h:c σ H fun b H1=>if b=true then t D σ H1 else u D σ H1):tIfS c t u D σ H:=h
theorem rd_ret {te:TE} (h:te σ H D.rt):tRet te D σ H:=h
theorem rd_drop {te:TE} (h:te σ H fun _ H1=>D.nx σ H1):tDrop te D σ H:=h
theorem rd_asg {te:TE} {g:TG} (h:te σ H fun x H1=>g x σ H1 D.nx):tAsg te g D σ H:=h
theorem rd_gname {i:Nat} {v:V} {P:St→Hp→Prop} (h:P (σ.set i (some v)) H):gName i v σ H P:=h
theorem rd_var {i:Nat} {v:V} (e:σ[i]? =some (some v)) (h:Q v H):tVar i σ H Q:=⟨v,e,h⟩
theorem rd_C {v:V} (h:Q v H):tC v σ H Q:=h
theorem rd_test {te:TE} {P:Bool→Hp→Prop} (h:te σ H fun x H'=>∃ k,x=.bl k∧P k H'):tTest te σ H P:=h
theorem rd_B {te:TE} {P:Bool→Hp→Prop} (h:te σ H fun x H'=>∃ k,x=.bl k∧P k H'):tB te σ H P:=h
theorem rd_bl {b:Bool} {P:Bool→Hp→Prop} (h:P b H):∃ k,V.bl b=.bl k∧P k H:=⟨b,rfl,h⟩
theorem rd_op {r:R2} {ta tb:TE} (h:ta σ H fun x H1=>tb σ H1 fun y H2=>r x y H2 Q):tOp r ta tb σ H Q:=h
theorem rd_un {r:V→Hp→VK→Prop} {ta:TE} (h:ta σ H fun x H1=>r x H1 Q):tUn r ta σ H Q:=h
theorem rd_I0 {g:Int→Int→V} {i j:Int} (h:Q (g i j) H):rI0 g (.int i) (.int j) H Q:=⟨i,j,rfl,rfl,h⟩
theorem rd_I {C:Int→Int→Prop} {g:Int→Int→V} {i j:Int} (hc:C i j) (h:Q (g i j) H):rI C g (.int i) (.int j) H Q:=⟨i,j,rfl,rfl,hc,h⟩
theorem rd_and {t u:TT} {P:Bool→Hp→Prop} (h:t σ H fun c H1=>if c=true then u σ H1 P else P false H1):tAnd t u σ H P:=h
theorem rd_or {t u:TT} {P:Bool→Hp→Prop} (h:t σ H fun c H1=>if c=true then P true H1 else u σ H1 P):tOr t u σ H P:=h
theorem rd_not {t:TT} {P:Bool→Hp→Prop} (h:t σ H fun c H1=>P (!c) H1):tNot t σ H P:=h
theorem rd_andV {ta tb:TE} (h:ta σ H fun x H1=>∃ c,x=.bl c∧if c=true then tb σ H1 Q else Q (.bl false) H1):tAndV ta tb σ H Q:=h
theorem rd_orV {ta tb:TE} (h:ta σ H fun x H1=>∃ c,x=.bl c∧if c=true then Q (.bl true) H1 else tb σ H1 Q):tOrV ta tb σ H Q:=h
theorem rd_notV {ta:TE} (h:ta σ H fun x H1=>∃ c,x=.bl c∧Q (.bl (!c)) H1):tNotV ta σ H Q:=h
theorem rd_blE {b:Bool} {P:Bool→Prop} (h:P b):∃ c,V.bl b=.bl c∧P c:=⟨b,rfl,h⟩
theorem rd_nil {P:List V→Hp→Prop} (h:P [] H):tNil σ H P:=h
theorem rd_cons {ta:TE} {tr:TA} {P:List V→Hp→Prop} (h:ta σ H fun x H1=>tr σ H1 fun xs H2=>P (x::xs) H2):tCons ta tr σ H P:=h
theorem rd_tup {t:TA} (h:t σ H fun xs H1=>xs.length≤sizeLine∧∀ p,H1 p=none→Q (.ref p) (upd H1 p (.tup xs))):tTup t σ H Q:=h
theorem rd_lst {t:TA} (h:t σ H fun xs H1=>xs.length≤sizeLine∧∀ p,H1 p=none→Q (.ref p) (upd H1 p (.lst xs))):tLst t σ H Q:=h
theorem rd_call {sp:Sp} {dvs:List V} {E:XK} {t:TA} (h:t σ H fun vs H1=>sp (vs++dvs) H1 Q E):tCall sp dvs E t σ H Q:=h
theorem rd_cb {r:List V→Hp→VK→Prop} {t:TA} (h:t σ H fun vs H1=>r vs H1 Q):tCB r t σ H Q:=h
theorem rd_ixT {p:Addr} {xs:List V} {i:Int} {v:V} (e:H p=some (.tup xs)) (a:atI xs i=some v) (h:Q v H):rIxA K (.ref p) (.int i) H Q:=⟨p,xs,i,v,rfl,rfl,.inr (SqT.of e),a,h⟩
theorem rd_ixL {p:Addr} {xs:List V} {i:Int} {v:V} (e:H p=some (.lst xs)) (a:atI xs i=some v) (h:Q v H):rIxA K (.ref p) (.int i) H Q:=⟨p,xs,i,v,rfl,rfl,.inl (SqL.of e),a,h⟩
theorem rd_chain {r r':R2} {ta tb tc:TE} (h:ta σ H fun x H1=>tb σ H1 fun y H2=>r x y H2 fun z H3=>∃ k,z=.bl k∧(if k=true then tc σ H3 fun w' H4=>r' y w' H4 Q else Q (.bl false) H3)):tChain r r' ta tb tc σ H Q:=h
theorem ifT {b:Bool} {A B:Prop} (h:b=true) (x:A):if b=true then A else B:=by rw [if_pos h];exact x
theorem ifF {b:Bool} {A B:Prop} (h:b=false) (x:B):if b=true then A else B:=by rw [if_neg (by rw [h];exact Bool.false_ne_true)];exact x
theorem ifB {b:Bool} {A B:Prop} (h1:b=true→A) (h0:b=false→B):if b=true then A else B:=by
 cases b with
 | true=>rw [if_pos rfl];exact h1 rfl
 | false=>rw [if_neg Bool.false_ne_true];exact h0 rfl
theorem rd_isN {x:V} (h:Q (.bl (decide (x=.non))) H):rIsN x .non H Q:=⟨rfl,h⟩
theorem rd_notN {x:V} (h:Q (.bl (!decide (x=.non))) H):rNotN x .non H Q:=⟨rfl,h⟩
theorem rd_isBool {x:V} {d:PyData} (hx:Is H x d) (h:Q (.bl (isBoolD d)) H):rIsinst [x,.ty "bool"] H Q:=⟨x,"bool",d,rfl,by decide,hx,by cases d <;> exact h⟩
theorem rd_isInt {x:V} {d:PyData} (hx:Is H x d) (h:Q (.bl (isIntD d)) H):rIsinst [x,.ty "int"] H Q:=⟨x,"int",d,rfl,by decide,hx,by cases d <;> exact h⟩
theorem rd_isTup {x:V} {d:PyData} (hx:Is H x d) (h:Q (.bl (isTupD d)) H):rIsinst [x,.ty "tuple"] H Q:=⟨x,"tuple",d,rfl,by decide,hx,by cases d <;> exact h⟩
theorem rd_isLst {x:V} {d:PyData} (hx:Is H x d) (h:Q (.bl (isLstD d)) H):rIsinst [x,.ty "list"] H Q:=⟨x,"list",d,rfl,by decide,hx,by cases d <;> exact h⟩
theorem rd_isStr {x:V} {d:PyData} (hx:Is H x d) (h:Q (.bl (isStrD d)) H):rIsinst [x,.ty "str"] H Q:=⟨x,"str",d,rfl,by decide,hx,by cases d <;> exact h⟩
theorem ifNT {A B:Prop} (h:B):if (!true)=true then A else B:=iteF h
theorem ifNF {A B:Prop} (h:A):if (!false)=true then A else B:=iteT h
theorem rd_all {p:Addr} {bs:List Bool} (e:H p=some (.lst (bs.map V.bl))) (h:Q (.bl (bs.all id)) H):rAll K [.ref p] H Q:=⟨p,bs,rfl,SqL.of e,h⟩
theorem rd_any {p:Addr} {bs:List Bool} (e:H p=some (.lst (bs.map V.bl))) (h:Q (.bl (bs.any id)) H):rAny K [.ref p] H Q:=⟨p,bs,rfl,SqL.of e,h⟩
theorem rd_max2 {i j:Int} (h:Q (.int (if j > i then j else i)) H):rMax2 [.int i,.int j] H Q:=⟨i,j,rfl,h⟩
theorem rd_int1 {k:Bool} (h:Q (.int (if k then 1 else 0)) H):rInt1 [.bl k] H Q:=.inr ⟨k,rfl,h⟩
theorem rd_tupL {p:Addr} {ys:List V} (e:H p=some (.lst ys)) (h:∀ l,H l=none→Q (.ref l) (upd H l (.tup ys))):rTupOf K [.ref p] H Q:=⟨p,ys,rfl,.inl ⟨SqL.of e,h⟩⟩
theorem rd_eqD {neg:Bool} {x y:V} {d e:PyData} (hx:Is H x d) (hy:Is H y e) (od:okD d) (oe:okD e) (h:Q (.bl (if neg then !PyData.eqv d e else PyData.eqv d e)) H):rEqD neg x y H Q:=⟨d,e,hx,hy,od,oe,h⟩
theorem rd_eqI {x y:Int} (h:Q (.bl (x==y)) H):rEqD false (.int x) (.int y) H Q:=⟨.int x,.int y,.int x,.int y,⟨rfl,Nat.zero_le _⟩,⟨rfl,Nat.zero_le _⟩,h⟩
theorem rd_neI {x y:Int} (h:Q (.bl (!(x==y))) H):rEqD true (.int x) (.int y) H Q:=⟨.int x,.int y,.int x,.int y,⟨rfl,Nat.zero_le _⟩,⟨rfl,Nat.zero_le _⟩,h⟩
theorem rd_eqB {x y:Bool} (h:Q (.bl (x==y)) H):rEqD false (.bl x) (.bl y) H Q:=⟨.bool x,.bool y,.bl x,.bl y,⟨rfl,Nat.zero_le _⟩,⟨rfl,Nat.zero_le _⟩,h⟩
theorem rd_neB {x y:Bool} (h:Q (.bl (!(x==y))) H):rEqD true (.bl x) (.bl y) H Q:=⟨.bool x,.bool y,.bl x,.bl y,⟨rfl,Nat.zero_le _⟩,⟨rfl,Nat.zero_le _⟩,h⟩
theorem rd_inD {neg:Bool} {x y:V} {d:PyData} {ds:List PyData} (hx:Is H x d) (hy:Is H y (.tuple ds)) (od:okD d) (oe:okDs ds) (h:Q (.bl (if neg then !inD d ds else inD d ds)) H):rInD neg x y H Q:=⟨d,ds,hx,.inl hy,od,oe,h⟩
theorem rd_lenT {p:Addr} {xs:List V} (e:H p=some (.tup xs)) (h:Q (.int xs.length) H):rLen K [.ref p] H Q:=⟨p,xs,rfl,.inr (SqT.of e),h⟩
theorem rd_lenL {p:Addr} {xs:List V} (e:H p=some (.lst xs)) (h:Q (.int xs.length) H):rLen K [.ref p] H Q:=⟨p,xs,rfl,.inl (SqL.of e),h⟩
end
end L2
namespace L2
open PySem PySem.Spec PyProof.Rows
section
variable {σ:St} {H:Hp} {Q:VK} {D:Ends} {K:PySem.W.Frag} {R:It→Hp→Prop}
theorem rd_for {wi:TI} {g:TG} {tb:TS} (h:wi σ H fun J H1=>∃ W:Nat→Nat→St→Hp→Prop,(∃ m,W 0 m σ H1)∧∀ i m σ H,W i m σ H→
 (J.stop i H∧D.nx σ H)∨(J.go i H∧∃ N:St→Hp→Prop,(∀ σ' H',N σ' H'→∃ m',m' < m∧W (i + 1) m' σ' H')∧∀ x H',J.yld i H x H'→g x σ H' fun σ2 H2=>tb { D with nx:=N,ct:=N,bk:=D.nx } σ2 H2)):tFor wi g tb D σ H:=h
theorem rd_lc {wi:TI} {fm:List (Option Nat)} {g:TG} {tt:TT} {te:TE} (h:wi σ H fun J H1=>∃ W:Nat→Nat→List V→Hp→Prop,(∃ m,W 0 m [] H1)∧∀ i m ys H,W i m ys H→
 (J.stop i H∧∀ p,H p=none→Q (.ref p) (upd H p (.lst ys)))∨
 (J.go i H∧ys.length < sizeLine∧∃ N:List V→Hp→Prop,(∀ ys' H',N ys' H'→∃ m',m' < m∧W (i + 1) m' ys' H')∧
  ∀ x H',J.yld i H x H'→g x (fmSt fm σ) H' fun σ2 H2=>tt σ2 H2 fun ok H3=>if ok=true then te σ2 H3 fun v H4=>N (ys++[v]) H4 else N ys H3)):tLC wi fm g tt te σ H Q:=h
theorem rd_rng1 {ta:TA} (h:ta σ H fun vs H1=>∃ j:Int,vs=[.int j]∧-(2 ^ 62)≤j∧j < 2 ^ 62∧R (Itr 0 j.toNat) H1):iRng1 ta σ H R:=h
theorem rd_itup {tl:TE} (h:tl σ H fun x H1=>∃ a,x=.ref a∧(∃ xs,SqT K H1 a xs)∧R (Itt K a) H1):iTup K tl σ H R:=h
theorem rd_ilst {tl:TE} (h:tl σ H fun x H1=>∃ a,x=.ref a∧(∃ xs,SqL K H1 a xs)∧R (Itl K a) H1):iList K tl σ H R:=h
theorem rd_yes {P:Bool→Hp→Prop} (h:P true H):tYes σ H P:=h
theorem rd_gtup {n:Nat} {t:TGs} {a:Addr} {xs:List V} {P:St→Hp→Prop} (e:H a=some (.tup xs)) (l:xs.length=n) (h:t xs σ H P):gTup K n t (.ref a) σ H P:=⟨a,xs,rfl,SqT.of e,l,h⟩
theorem rd_gcons {t:TG} {u:TGs} {v:V} {r:List V} {P:St→Hp→Prop} (h:t v σ H fun σ' H'=>u r σ' H' P):gCons t u (v::r) σ H P:=⟨v,r,rfl,h⟩
theorem rd_gnil {P:St→Hp→Prop} (h:P σ H):gNil [] σ H P:=⟨rfl,h⟩
end
theorem Same.upd {H:Hp} {l:Addr} {o:HO} (h:H l=none):Same H (upd H l o):=fun b u e=>by rw [upd_ne (ne_of_none e h)];exact e
theorem Same.tup {H H':Hp} (e:Same H H') {a:Addr} {xs:List V} (h:H a=some (.tup xs)):H' a=some (.tup xs):=e _ _ h
end L2
namespace L2
open PySem PySem.Spec PyProof.Rows
section
variable {X:Cx}
theorem k_ix (K:PySem.W.Frag) (h:X.K=K:=by rfl):IxR X (rIxA K):=h▸ix_any
theorem k_len (K:PySem.W.Frag) (h:X.K=K:=by rfl):CallR X (.builtin "len") (rLen K):=h▸c_len
theorem k_all (K:PySem.W.Frag) (hc:X.calm=true:=by rfl) (h:X.K=K:=by rfl):CallR X (.builtin "all") (rAll K):=h▸c_all hc
theorem k_tuple (K:PySem.W.Frag) (h:X.K=K:=by rfl):CallR X (.type "tuple") (rTupOf K):=h▸c_tuple
theorem k_list (K:PySem.W.Frag) (h:X.K=K:=by rfl):CallR X (.type "list") (rLstOf K):=h▸c_list
theorem k_sorted (K:PySem.W.Frag) (h:X.K=K:=by rfl):CallR X (.builtin "sorted") (rSorted K):=h▸call_sorted
theorem k_ltT (K:PySem.W.Frag) (hu:X.A.units < cLine) (h:X.K=K:=by rfl):OpR X (compareOp .Lt) (rLtT K):=h▸op_ltT hu
theorem k_ptup (K:PySem.W.Frag) {tg l:Expr} {tl:TE} (hl:PE X l tl) (h:X.K=K:=by rfl):PI X tg l (iTup K tl):=h▸pi_tup hl
theorem k_plst (K:PySem.W.Frag) {tg l:Expr} {tl:TE} (hl:PE X l tl) (h:X.K=K:=by rfl):PI X tg l (iList K tl):=h▸pi_list hl
theorem k_gtup (K:PySem.W.Frag) {pos:Pos} {es:List Expr} {k:Nat} {t:TGs} {n:Nat} (hc:X.calm=true) (hh:PGs X es t)
  (hn:(assignEach es X.env).length=n:=by rfl) (hst:(assignEach es X.env).findIdx? (·.1)=none:=by rfl) (h:X.K=K:=by rfl):PG X (.Tuple es k pos) (gTup K n t):=h▸pg_tup hc hh hn hst
theorem k_bm (K:PySem.W.Frag) {o e:Expr} {es:List Expr} {to:TE} {t:TA} {name:Str} {apos cpos:Pos} {T id:String} {r:V→List V→Hp→VK→Prop} (pa:PlainAttrs T) (slot:Slot T name id) (hty:typeOf (.builtin id)=pure (.type "method_descriptor")) (hm:MtR X id r) (ho:PE X o to) (ha:PA X (e::es) t)
  (hbase:attributeBase o name X.env (eval o X.env)=eval o X.env:=by rfl)
  (hfew:((backTo cpos (starEach (e::es) X.env)).all (fun x=> !x.1)&&(backToKw cpos (keywordEach [] X.env)).all (fun x=>x.1.isSome)
   &&decide ((e::es).length + ([]:List Keyword).length + (if ([]:List Keyword).isEmpty then 0 else 1) < 30))=true:=by rfl)
  (hline:(apos.endLine==cpos.line)=true:=by rfl) (hs:starEach (e::es) X.env=(false,eval e X.env)::starEach es X.env:=by rfl) (hplain:(backTo cpos (starEach es X.env)).any (·.1)=false:=by rfl) (h:X.K=K:=by rfl):
  PE X (.Call (.Attribute o name apos) (e::es) [] cpos) (tBM K T r to t):=h▸pe_bm pa slot hty hm ho ha hbase hfew hline hs hplain
end
section
variable {σ:St} {H:Hp} {Q:VK} {D:Ends} {K:PySem.W.Frag}
theorem rd_ltT {a b:Addr} {i j k l:Int} (h1:H a=some (.tup [.int i,.int j])) (h2:H b=some (.tup [.int k,.int l])) (h:Q (.bl (HT.lexLt [i,j] [k,l])) H):rLtT K (.ref a) (.ref b) H Q:=
 ⟨a,b,[i,j],[k,l],rfl,rfl,SqT.of h1,SqT.of h2,h⟩
theorem rd_bm {T:String} {r:V→List V→Hp→VK→Prop} {to:TE} {t:TA} (h:to σ H fun x H1=>tyV K T x H1∧t σ H1 fun xs H2=>r x xs H2 Q):tBM K T r to t σ H Q:=h
theorem rd_append {l:Addr} {xs:List V} {v:V} (e:H l=some (.lst xs)) (hz:xs.length < sizeLine) (h:Q .non (upd H l (.lst (xs++[v])))):rAppend (.ref l) [v] H Q:=⟨l,xs,v,rfl,rfl,e,hz,h⟩
theorem tyV_lst {l:Addr} {xs:List V} (e:H l=some (.lst xs)):tyV K "list" (.ref l) H:=.inl ⟨rfl,_,SqL.of e⟩
end
theorem if_nn {A B:Prop} (h:A):if decide (V.non=V.non)=true then A else B:=by rw [decide_eq_true rfl];exact iteT h
theorem if_rn {a:Addr} {A B:Prop} (h:B):if decide (V.ref a=V.non)=true then A else B:=by rw [decide_eq_false (fun z=>nomatch z)];exact iteF h
theorem if_in {a:Int} {A B:Prop} (h:B):if decide (V.int a=V.non)=true then A else B:=by rw [decide_eq_false (fun z=>nomatch z)];exact iteF h
theorem if_nnN {A B:Prop} (h:B):if (!decide (V.non=V.non))=true then A else B:=by rw [decide_eq_true rfl];exact iteF h
theorem if_rnN {a:Addr} {A B:Prop} (h:A):if (!decide (V.ref a=V.non))=true then A else B:=by rw [decide_eq_false (fun z=>nomatch z)];exact iteT h
theorem if_inN {a:Int} {A B:Prop} (h:A):if (!decide (V.int a=V.non))=true then A else B:=by rw [decide_eq_false (fun z=>nomatch z)];exact iteT h
section
variable {σ:St} {H:Hp} {Q:VK} {D:Ends}
theorem rd_while {c:TT} {tb:TS} (h:∃ W:Nat→St→Hp→Prop,(∃ m,W m σ H)∧∀ m σ H,W m σ H→c σ H fun b H1=>if b=true then ∃ N:St→Hp→Prop,(∀ σ' H',N σ' H'→∃ m',m' < m∧W m' σ' H')∧tb { D with nx:=N,ct:=N,bk:=D.nx } σ H1 else D.nx σ H1):tWhile c tb D σ H:=h
theorem rd_gsub {to ti:TE} {t:TSet} {v:V} {P:St→Hp→Prop} (h:to σ H fun o H1=>ti σ H1 fun i H2=>t o i v H2 fun H3=>P σ H3):gSub to ti t v σ H P:=h
theorem ixN_of {n j:Nat} {k:Int} (hk:k=(j:Int)) (hj:j < n):ixN n k=some j:=by
 subst hk
 unfold ixN
 rw [if_pos (Int.natCast_nonneg _),if_pos (by omega),Int.toNat_natCast]
theorem rd_setL {p:Addr} {xs:List V} {k:Int} {j:Nat} {v:V} {P:Hp→Prop} (e:H p=some (.lst xs)) (hk:k=(j:Int)) (hj:j < xs.length) (h:P (upd H p (.lst (xs.set j v)))):rSetL (.ref p) (.int k) v H P:=⟨p,xs,k,j,rfl,rfl,e,ixN_of hk hj,h⟩
theorem rep_one {α:Type} (x:α):∀ n:Nat,(List.replicate n [x]).flatten=List.replicate n x
 | 0=>rfl
 | n + 1=>by rw [List.replicate_succ,List.flatten_cons,rep_one x n];rfl
theorem rd_rep {l:Addr} {v:V} {n:Nat} (e:H l=some (.lst [v])) (hn:n≤1000) (h:∀ p,H p=none→Q (.ref p) (upd H p (.lst (List.replicate n v)))):rRep (.ref l) (.int n) H Q:=
 ⟨l,n,[v],rfl,rfl,e,by omega,by omega,by rw [Int.toNat_natCast];have:=small1000 hn;simp;omega,fun p hp=>by rw [Int.toNat_natCast,rep_one];exact h p hp⟩
end
section
variable {H:Hp} {K:PySem.W.Frag}
theorem lp_range {lo:Int} {n:Nat} {G:List V→Hp→Prop} {B:(List V→Hp→Prop)→List V→V→Hp→Prop} (hn:n≤sizeLine) (Pv:Nat→List V→Hp→Prop) (h0:Pv 0 [] H) (hlen:∀ i ys H,Pv i ys H→ys.length≤i)
  (hs:∀ i ys H,i < n→Pv i ys H→B (Pv (i + 1)) ys (.int (lo + i)) H) (hd:∀ ys H,Pv n ys H→G ys H):
  ∃ W:Nat→Nat→List V→Hp→Prop,(∃ m,W 0 m [] H)∧∀ i m ys H,W i m ys H→((Itr lo n).stop i H∧G ys H)∨((Itr lo n).go i H∧ys.length < sizeLine∧
   ∃ N:List V→Hp→Prop,(∀ ys' H',N ys' H'→∃ m',m' < m∧W (i + 1) m' ys' H')∧∀ x H',(Itr lo n).yld i H x H'→B N ys x H'):=by
 refine ⟨fun i m ys H=>m=n - i∧i≤n∧Pv i ys H,⟨n,by simp,Nat.zero_le _,h0⟩,?_⟩
 rintro i m ys H ⟨rfl,hi,p⟩
 have hl:=hlen i ys H p
 by_cases hlt:i < n
 ·refine .inr ⟨hlt,by omega,Pv (i + 1),fun ys' H' p'=>⟨n - (i + 1),by omega,rfl,hlt,p'⟩,fun x H' y=>?_⟩
  obtain ⟨e,y⟩:=y
  subst e y
  exact hs i ys _ hlt p
 ·have e:i=n:=by omega
  subst e
  exact .inl ⟨Nat.le_refl _,hd ys H p⟩
theorem lp_tup {a:Addr} {xs:List V} {G:List V→Hp→Prop} {B:(List V→Hp→Prop)→List V→V→Hp→Prop} (hn:xs.length≤sizeLine) (Pv:Nat→List V→Hp→Prop) (h0:Pv 0 [] H) (hlen:∀ i ys H,Pv i ys H→ys.length≤i)
  (hl:∀ i ys H,i≤xs.length→Pv i ys H→SqT K H a xs) (hs:∀ i x ys H,xs[i]? =some x→Pv i ys H→B (Pv (i + 1)) ys x H) (hd:∀ ys H,Pv xs.length ys H→G ys H):
  ∃ W:Nat→Nat→List V→Hp→Prop,(∃ m,W 0 m [] H)∧∀ i m ys H,W i m ys H→((Itt K a).stop i H∧G ys H)∨((Itt K a).go i H∧ys.length < sizeLine∧
   ∃ N:List V→Hp→Prop,(∀ ys' H',N ys' H'→∃ m',m' < m∧W (i + 1) m' ys' H')∧∀ x H',(Itt K a).yld i H x H'→B N ys x H'):=by
 refine ⟨fun i m ys H=>m=xs.length - i∧i≤xs.length∧Pv i ys H,⟨xs.length,by simp,Nat.zero_le _,h0⟩,?_⟩
 rintro i m ys H ⟨rfl,hi,p⟩
 have hly:=hlen i ys H p
 have q:=hl i ys H hi p
 by_cases hlt:i < xs.length
 ·refine .inr ⟨⟨xs,xs[i],q,by simp [hlt]⟩,by omega,Pv (i + 1),fun ys' H' p'=>⟨xs.length - (i + 1),by omega,rfl,hlt,p'⟩,fun x H' y=>?_⟩
  obtain ⟨e,y⟩:=y
  subst e
  exact hs i x ys _ (y xs q) p
 ·have e:i=xs.length:=by omega
  subst e
  exact .inl ⟨⟨xs,q,Nat.le_refl _⟩,hd ys H p⟩
theorem lp_list {a:Addr} {xs:List V} {G:List V→Hp→Prop} {B:(List V→Hp→Prop)→List V→V→Hp→Prop} (hn:xs.length≤sizeLine) (Pv:Nat→List V→Hp→Prop) (h0:Pv 0 [] H) (hlen:∀ i ys H,Pv i ys H→ys.length≤i)
  (hl:∀ i ys H,i≤xs.length→Pv i ys H→SqL K H a xs) (hs:∀ i x ys H,xs[i]? =some x→Pv i ys H→B (Pv (i + 1)) ys x H) (hd:∀ ys H,Pv xs.length ys H→G ys H):
  ∃ W:Nat→Nat→List V→Hp→Prop,(∃ m,W 0 m [] H)∧∀ i m ys H,W i m ys H→((Itl K a).stop i H∧G ys H)∨((Itl K a).go i H∧ys.length < sizeLine∧
   ∃ N:List V→Hp→Prop,(∀ ys' H',N ys' H'→∃ m',m' < m∧W (i + 1) m' ys' H')∧∀ x H',(Itl K a).yld i H x H'→B N ys x H'):=by
 refine ⟨fun i m ys H=>m=xs.length - i∧i≤xs.length∧Pv i ys H,⟨xs.length,by simp,Nat.zero_le _,h0⟩,?_⟩
 rintro i m ys H ⟨rfl,hi,p⟩
 have hly:=hlen i ys H p
 have q:=hl i ys H hi p
 by_cases hlt:i < xs.length
 ·refine .inr ⟨⟨xs,xs[i],q,by simp [hlt]⟩,by omega,Pv (i + 1),fun ys' H' p'=>⟨xs.length - (i + 1),by omega,rfl,hlt,p'⟩,fun x H' y=>?_⟩
  obtain ⟨e,y⟩:=y
  subst e
  exact hs i x ys _ (y xs q) p
 ·have e:i=xs.length:=by omega
  subst e
  exact .inl ⟨⟨xs,q,Nat.le_refl _⟩,hd ys H p⟩
theorem fp_range {σ:St} {lo:Int} {n:Nat} {G:St→Hp→Prop} {B:(St→Hp→Prop)→V→St→Hp→Prop} (Pv:Nat→St→Hp→Prop) (h0:Pv 0 σ H) (hs:∀ i σ H,i < n→Pv i σ H→B (Pv (i + 1)) (.int (lo + i)) σ H) (hd:∀ σ H,Pv n σ H→G σ H):
  ∃ W:Nat→Nat→St→Hp→Prop,(∃ m,W 0 m σ H)∧∀ i m σ H,W i m σ H→((Itr lo n).stop i H∧G σ H)∨((Itr lo n).go i H∧
   ∃ N:St→Hp→Prop,(∀ σ' H',N σ' H'→∃ m',m' < m∧W (i + 1) m' σ' H')∧∀ x H',(Itr lo n).yld i H x H'→B N x σ H'):=by
 refine ⟨fun i m σ H=>m=n - i∧i≤n∧Pv i σ H,⟨n,by simp,Nat.zero_le _,h0⟩,?_⟩
 rintro i m σ H ⟨rfl,hi,p⟩
 by_cases hlt:i < n
 ·refine .inr ⟨hlt,Pv (i + 1),fun σ' H' p'=>⟨n - (i + 1),by omega,rfl,hlt,p'⟩,fun x H' y=>?_⟩
  obtain ⟨e,y⟩:=y
  subst e y
  exact hs i σ _ hlt p
 ·have e:i=n:=by omega
  subst e
  exact .inl ⟨Nat.le_refl _,hd σ H p⟩
theorem fp_tup {σ:St} {a:Addr} {xs:List V} {G:St→Hp→Prop} {B:(St→Hp→Prop)→V→St→Hp→Prop} (Pv:Nat→St→Hp→Prop) (h0:Pv 0 σ H) (hl:∀ i σ H,i≤xs.length→Pv i σ H→SqT K H a xs)
  (hs:∀ i x σ H,xs[i]? =some x→Pv i σ H→B (Pv (i + 1)) x σ H) (hd:∀ σ H,Pv xs.length σ H→G σ H):
  ∃ W:Nat→Nat→St→Hp→Prop,(∃ m,W 0 m σ H)∧∀ i m σ H,W i m σ H→((Itt K a).stop i H∧G σ H)∨((Itt K a).go i H∧
   ∃ N:St→Hp→Prop,(∀ σ' H',N σ' H'→∃ m',m' < m∧W (i + 1) m' σ' H')∧∀ x H',(Itt K a).yld i H x H'→B N x σ H'):=by
 refine ⟨fun i m σ H=>m=xs.length - i∧i≤xs.length∧Pv i σ H,⟨xs.length,by simp,Nat.zero_le _,h0⟩,?_⟩
 rintro i m σ H ⟨rfl,hi,p⟩
 have q:=hl i σ H hi p
 by_cases hlt:i < xs.length
 ·refine .inr ⟨⟨xs,xs[i],q,by simp [hlt]⟩,Pv (i + 1),fun σ' H' p'=>⟨xs.length - (i + 1),by omega,rfl,hlt,p'⟩,fun x H' y=>?_⟩
  obtain ⟨e,y⟩:=y
  subst e
  exact hs i x σ _ (y xs q) p
 ·have e:i=xs.length:=by omega
  subst e
  exact .inl ⟨⟨xs,q,Nat.le_refl _⟩,hd σ H p⟩
theorem fp_list {σ:St} {a:Addr} {xs:List V} {G:St→Hp→Prop} {B:(St→Hp→Prop)→V→St→Hp→Prop} (Pv:Nat→St→Hp→Prop) (h0:Pv 0 σ H) (hl:∀ i σ H,i≤xs.length→Pv i σ H→SqL K H a xs)
  (hs:∀ i x σ H,xs[i]? =some x→Pv i σ H→B (Pv (i + 1)) x σ H) (hd:∀ σ H,Pv xs.length σ H→G σ H):
  ∃ W:Nat→Nat→St→Hp→Prop,(∃ m,W 0 m σ H)∧∀ i m σ H,W i m σ H→((Itl K a).stop i H∧G σ H)∨((Itl K a).go i H∧
   ∃ N:St→Hp→Prop,(∀ σ' H',N σ' H'→∃ m',m' < m∧W (i + 1) m' σ' H')∧∀ x H',(Itl K a).yld i H x H'→B N x σ H'):=by
 refine ⟨fun i m σ H=>m=xs.length - i∧i≤xs.length∧Pv i σ H,⟨xs.length,by simp,Nat.zero_le _,h0⟩,?_⟩
 rintro i m σ H ⟨rfl,hi,p⟩
 have q:=hl i σ H hi p
 by_cases hlt:i < xs.length
 ·refine .inr ⟨⟨xs,xs[i],q,by simp [hlt]⟩,Pv (i + 1),fun σ' H' p'=>⟨xs.length - (i + 1),by omega,rfl,hlt,p'⟩,fun x H' y=>?_⟩
  obtain ⟨e,y⟩:=y
  subst e
  exact hs i x σ _ (y xs q) p
 ·have e:i=xs.length:=by omega
  subst e
  exact .inl ⟨⟨xs,q,Nat.le_refl _⟩,hd σ H p⟩
end
end L2
namespace L2
open PySem PySem.Spec PyProof.Rows
noncomputable def rEqNil (K:PySem.W.Frag):R2:=fun x y H Q=>∃ p q ns,x=.ref p∧y=.ref q∧SqL K H p (ns.map V.int)∧SqL K H q []∧Q (.bl (decide (ns=[]))) H
theorem op_eqNil {X:Cx} (hu:X.A.units < cLine):OpR X (compareOp .Eq) (rEqNil X.K):=by
 intro pins s σ H x y v u Q I rx ry h
 obtain ⟨p,q,ns,rfl,rfl,h1,h2,hq⟩:=h
 cases (show v=Value.ref p from rx)
 cases (show u=Value.ref q from ry)
 obtain ⟨its,r1,p1,_⟩:=I.list h1
 obtain ⟨its2,r2,p2,_⟩:=I.list h2
 have e2:its2=[]:=by cases r2;rfl
 subst e2
 have hl:=r1.length
 rw [List.length_map] at hl
 match ns,hl with
 | [],hl=>
  have e1:its=[]:=by
   have:its.length=0:=by simpa using hl.symm
   exact List.length_eq_zero_iff.mp this
  subst e1
  exact SeqAt.eq_listAt (e:=fun _=>true) p1.isList p2.isList rfl hu (fun j g _=>absurd g (Nat.not_lt_zero _)) ⟨.bl true,H,I,rfl,hq⟩
 | n::ns,hl=>
  refine SeqAt.eq_list_lengthsAt p1.isList p2.isList ?_ hu ⟨.bl false,H,I,rfl,hq⟩
  have:its.length=ns.length + 1:=by simpa using hl.symm
  simp [this]
theorem k_eqNil {X:Cx} (K:PySem.W.Frag) (hu:X.A.units < cLine) (h:X.K=K:=by rfl):OpR X (compareOp .Eq) (rEqNil K):=h▸op_eqNil hu
section
variable {σ:St} {H:Hp} {Q:VK} {K:PySem.W.Frag}
theorem rd_lenS {p:Addr} {xs:List V} (e:SqL K H p xs) (h:Q (.int xs.length) H):rLen K [.ref p] H Q:=⟨p,xs,rfl,.inl e,h⟩
theorem rd_ixS {p:Addr} {xs:List V} {i:Int} {v:V} (e:SqL K H p xs) (a:atI xs i=some v) (h:Q v H):rIxA K (.ref p) (.int i) H Q:=⟨p,xs,i,v,rfl,rfl,.inl e,a,h⟩
theorem rd_extend {l b:Addr} {xs zs:List V} (e:H l=some (.lst xs)) (e2:H b=some (.lst zs)) (hz:xs.length + zs.length≤sizeLine) (h:Q .non (upd H l (.lst (xs++zs)))):rExtend (.ref l) [.ref b] H Q:=⟨l,b,xs,zs,rfl,rfl,e,e2,hz,h⟩
end
noncomputable def Scr (K:PySem.W.Frag) (H:Hp) (a:Addr) (ns:List Int):Prop:=(∃ o,H a=some (.frz o (.lst (ns.map V.int))))∨
 ∃ (o:Obj) (its:Array Value) (n:Nat),K.lookup a=some o∧o.cls=.type "list"∧o.dict=none∧o.data=.seq its n∧its.size≤sizeLine∧Vals (ns.map V.int) its.toList
theorem Scr.sq {K:PySem.W.Frag} {H:Hp} {a:Addr} {ns:List Int} (h:Scr K H a ns):SqL K H a (ns.map V.int):=by
 rcases h with ⟨o,h⟩ | h
 ·exact .inl (.inr ⟨o,h⟩)
 ·exact .inr h
theorem Scr.of {K:PySem.W.Frag} {H:Hp} {a:Addr} {ns:List Int} (hO:Only H) (h:SqL K H a (ns.map V.int)):Scr K H a ns:=by
 rcases h with (h | ⟨o,h⟩) | h
 ·rcases hO a with g | ⟨o,xs,g⟩
  ·rw [g] at h;cases h
  ·rw [g] at h;cases h
 ·exact .inl ⟨o,h⟩
 ·exact .inr h
noncomputable def SameT (w:Addr) (H H':Hp):Prop:=∀ b u,H b=some u→b≠w→H' b=some u
theorem SameT.refl (w:Addr) (H:Hp):SameT w H H:=fun _ _ h _=>h
theorem SameT.trans {w:Addr} {H H1 H2:Hp} (a:SameT w H H1) (b:SameT w H1 H2):SameT w H H2:=fun c u h g=>b c u (a c u h g) g
theorem Same.t {w:Addr} {H H':Hp} (h:Same H H'):SameT w H H':=fun b u e _=>h b u e
theorem Scr.t {K:PySem.W.Frag} {H H':Hp} {w a:Addr} {ns:List Int} {ts:List V} (hw:H w=some (.lst ts)) (s:SameT w H H') (h:Scr K H a ns):Scr K H' a ns:=by
 rcases h with ⟨o,h⟩ | h
 ·exact .inl ⟨o,s _ _ h (ne_of h hw (by intro z;cases z))⟩
 ·exact .inr h
theorem Scr.same {K:PySem.W.Frag} {H H':Hp} {a:Addr} {ns:List Int} (s:Same H H') (h:Scr K H a ns):Scr K H' a ns:=by
 rcases h with ⟨o,h⟩ | h
 ·exact .inl ⟨o,s _ _ h⟩
 ·exact .inr h
end L2
namespace L2
open PySem PySem.Spec PyProof.Rows
noncomputable def rCatU:R2:=fun x y H Q=>∃ a b xs ys,x=.ref a∧y=.ref b∧H a=some (.tup xs)∧H b=some (.tup ys)∧xs.length + ys.length≤sizeLine∧∀ r H',Same H H'→H' r=some (.tup (xs++ys))→Q (.ref r) H'
theorem op_catU {X:Cx}:OpR X (binaryOp .Add) rCatU:=by
 intro pins s σ H x y v u Q I rx ry h
 obtain ⟨a,b,xs,ys,rfl,rfl,ha,hb,hz,q⟩:=h
 by_cases hx:xs=[]
 ·subst hx
  cases (show v=Value.ref a from rx)
  cases (show u=Value.ref b from ry)
  obtain ⟨its,r1,p1,_⟩:=I.tuple (SqT.of ha)
  obtain ⟨its2,r2,p2,_⟩:=I.tuple (SqT.of hb)
  obtain ⟨⟨cls,dd,data,sl⟩,ho,hc,n,hd⟩:=p1
  obtain ⟨⟨cls2,dd2,data2,sl2⟩,ho2,hc2,n2,hd2⟩:=p2
  simp only at hc hd hc2 hd2
  subst hc hd hc2 hd2
  have e0:its=[]:=r1.nil_iff.mpr rfl
  exact concat_meets ⟨_,ho,rfl⟩ ⟨_,ho2,rfl⟩ noFill_tuple_add seq_tuple_add PySem.F.slot_tuple_add PySem.F.entry_tuple_add (PySem.F.args_tuple_add_2 _ _)
   (tuple_addW0 a b its.toArray its2.toArray n n2 dd dd2 sl sl2 (by simp [e0])) ⟨ho,ho2,⟨.ref b,H,I,rfl,q b H (Same.refl H) hb⟩⟩
 ·refine op_catT pins s σ H _ _ v u Q I rx ry ⟨a,b,xs,ys,rfl,rfl,SqT.of ha,SqT.of hb,hx,hz,fun e=>?_,fun e p hp=>?_⟩
  ·subst e
   exact q a H (Same.refl H) (by rw [List.append_nil];exact ha)
  ·exact q p _ (fun b u e=>by rw [upd_ne (ne_of_none e hp)];exact e) upd_same
section
variable {σ:St} {H:Hp} {Q:VK} {D:Ends} {K:PySem.W.Frag}
theorem rd_ifE {t:TT} {ta tb:TE} (h:t σ H fun c H1=>if c=true then ta σ H1 Q else tb σ H1 Q):tIf t ta tb σ H Q:=h
theorem rd_catU {a b:Addr} {xs ys:List V} (ha:H a=some (.tup xs)) (hb:H b=some (.tup ys)) (hz:xs.length + ys.length≤sizeLine) (h:∀ r H',Same H H'→H' r=some (.tup (xs++ys))→Q (.ref r) H'):rCatU (.ref a) (.ref b) H Q:=
 ⟨a,b,xs,ys,rfl,rfl,ha,hb,hz,h⟩
theorem rd_cat {a b:Addr} {xs ys:List V} (ha:H a=some (.lst xs)) (hb:H b=some (.lst ys)) (hz:xs.length + ys.length≤sizeLine) (h:∀ p,H p=none→Q (.ref p) (upd H p (.lst (xs++ys)))):rCat (.ref a) (.ref b) H Q:=
 ⟨a,b,xs,ys,rfl,rfl,ha,hb,hz,h⟩
theorem rd_lstT {p:Addr} {ys:List V} (e:H p=some (.tup ys)) (h:∀ l,H l=none→Q (.ref l) (upd H l (.lst ys))):rLstOf K [.ref p] H Q:=⟨p,ys,rfl,.inr (SqT.of e),h⟩
end
end L2
namespace Nt
section
variable {n:Nat} {R:Nat→Nat→Prop}
noncomputable def Con (n:Nat) (R:Nat→Nat→Prop) (s:Int) (x:Nat→Int):Prop:=∀ i j,i < n→j < n→(x j - x i≥s↔R i j)
noncomputable def NN (n:Nat) (x:Nat→Int):Prop:=∀ i,i < n→0≤x i
structure TP (n:Nat) (R:Nat→Nat→Prop) (s:Int) (x:Nat→Int) (N:Nat) (v:Nat→Nat) (k:Nat→Bool):Prop where
 lt:∀ t,t≤N→v t < n
 st:x (v 0)=0
 up:∀ t,t < N→k t=true→R (v t) (v (t + 1))∧x (v (t + 1))=x (v t) + s
 dn:∀ t,t < N→k t=false→¬R (v (t + 1)) (v t)∧x (v (t + 1))=x (v t) + 1 - s
noncomputable def D (k:Nat→Bool):Nat→Int
 | 0=>0
 | t + 1=>D k t + (if k t=true then 1 else -1)
noncomputable def Mc (k:Nat→Bool):Nat→Int
 | 0=>0
 | t + 1=>Mc k t + (if k t=true then 0 else 1)
theorem TP.val {s:Int} {x:Nat→Int} {N:Nat} {v:Nat→Nat} {k:Nat→Bool} (p:TP n R s x N v k):∀ t,t≤N→x (v t)=D k t * s + Mc k t
 | 0,_=>by rw [p.st];simp [D,Mc]
 | t + 1,h=>by
  have ih:=p.val t (by omega)
  simp only [D,Mc]
  cases hk:k t with
  | true=>
   rw [(p.up t (by omega) hk).2,ih,if_pos rfl,if_pos rfl,Int.add_mul]
   omega
  | false=>
   rw [(p.dn t (by omega) hk).2,ih,if_neg Bool.false_ne_true,if_neg Bool.false_ne_true,Int.add_mul]
   omega
theorem TP.cut {s:Int} {x:Nat→Int} (hx:Con n R s x) {N:Nat} {v:Nat→Nat} {k:Nat→Bool} (p:TP n R s x N v k) {a b:Nat} (hab:a < b) (hb:b≤N) (e:x (v a)=x (v b)) (hbN:b < N):
  TP n R s x (N - (b - a)) (fun t=>if t≤a then v t else v (t + (b - a))) (fun t=>if t < a then k t else k (t + (b - a))) where
 lt:=fun t ht=>by
  by_cases h:t≤a
  ·rw [if_pos h];exact p.lt t (by omega)
  ·rw [if_neg h];exact p.lt _ (by omega)
 st:=by rw [if_pos (Nat.zero_le _)];exact p.st
 up:=fun t ht hk=>by
  by_cases h:t < a
  ·rw [if_pos h] at hk
   rw [if_pos (by omega),if_pos (by omega)]
   exact p.up t (by omega) hk
  ·rw [if_neg h] at hk
   have q:=p.up (t + (b - a)) (by omega) hk
   rw [if_neg (by omega:¬t + 1≤a)]
   have e1:t + 1 + (b - a)=t + (b - a) + 1:=by omega
   rw [e1]
   by_cases h2:t≤a
   ·have ta:t=a:=by omega
    subst ta
    rw [if_pos (Nat.le_refl _)]
    have eb:t + (b - t)=b:=by omega
    rw [eb] at q ⊢
    refine ⟨?_,by rw [e];exact q.2⟩
    exact (hx _ _ (p.lt t (by omega)) (p.lt _ (by omega))).mp (by rw [q.2,e];omega)
   ·rw [if_neg h2];exact q
 dn:=fun t ht hk=>by
  by_cases h:t < a
  ·rw [if_pos h] at hk
   rw [if_pos (by omega),if_pos (by omega)]
   exact p.dn t (by omega) hk
  ·rw [if_neg h] at hk
   have q:=p.dn (t + (b - a)) (by omega) hk
   rw [if_neg (by omega:¬t + 1≤a)]
   have e1:t + 1 + (b - a)=t + (b - a) + 1:=by omega
   rw [e1]
   by_cases h2:t≤a
   ·have ta:t=a:=by omega
    subst ta
    rw [if_pos (Nat.le_refl _)]
    have eb:t + (b - t)=b:=by omega
    rw [eb] at q ⊢
    refine ⟨fun hR=>q.1 ?_,by rw [e];exact q.2⟩
    have:=(hx _ _ (p.lt _ (by omega)) (p.lt t (by omega))).mpr hR
    exact (hx _ _ (p.lt _ (by omega)) (p.lt b (by omega))).mp (by rw [e] at this;exact this)
   ·rw [if_neg h2];exact q
theorem met (f:Nat→Int) (c:Int):∀ m:Nat,f 0 < c→c≤f m→(∀ j,f (j + 1)≤f j + 1)→∃ j,j≤m∧f j=c
 | 0,h1,h2,_=>by omega
 | m + 1,h1,h2,h3=>by
  by_cases h:c≤f m
  ·obtain ⟨j,a,b⟩:=met f c m h1 h h3
   exact ⟨j,by omega,b⟩
  ·have:=h3 m
   exact ⟨m + 1,Nat.le_refl _,by omega⟩
end
end Nt
namespace Nt
section
variable {n:Nat} {R:Nat→Nat→Prop}
theorem scale {s:Int} (hs:1≤s) {x:Nat→Int} (h:Con n R s x) (hn:NN n x):Con n R (s + 1) (fun i=>x i + x i / s)∧NN n (fun i=>x i + x i / s):=by
 constructor
 ·intro i j hi hj
  rw [←h i j hi hj]
  show x j + x j / s - (x i + x i / s)≥s + 1↔x j - x i≥s
  have e:(x i + 1 * s) / s=x i / s + 1:=Int.add_mul_ediv_right _ _ (by omega)
  rw [Int.one_mul] at e
  constructor
  ·intro g
   by_cases c:x j - x i≥s
   ·exact c
   ·have:x j / s≤(x i + s) / s:=Int.ediv_le_ediv (by omega) (by omega)
    omega
  ·intro g
   have:(x i + s) / s≤x j / s:=Int.ediv_le_ediv (by omega) (by omega)
   omega
 ·intro i hi
  have a:=hn i hi
  have b:0≤x i / s:=Int.ediv_nonneg a (by omega)
  show 0≤x i + x i / s
  omega
theorem scale_le {s B v:Int} (hs:1≤s) (h:v≤B * s):v + v / s≤B * (s + 1):=by
 have:v / s≤B:=by
  have a:v / s≤(B * s) / s:=Int.ediv_le_ediv (by omega) h
  rw [Int.mul_ediv_cancel _ (by omega)] at a
  exact a
 rw [Int.mul_add,Int.mul_one]
 omega
theorem scales {s B:Int} (hs:1≤s) {x:Nat→Int} (h:Con n R s x) (hn:NN n x) (hB:∀ i,i < n→x i≤B * s):∀ k:Nat,∃ y,Con n R (s + k) y∧NN n y∧∀ i,i < n→y i≤B * (s + k)
 | 0=>⟨x,by simpa using h,hn,by simpa using hB⟩
 | k + 1=>by
  obtain ⟨y,a,b,c⟩:=scales hs h hn hB k
  obtain ⟨a',b'⟩:=scale (by omega) a b
  refine ⟨_,?_,b',fun i hi=>?_⟩
  ·have e:s + ((k + 1:Nat):Int)=s + (k:Int) + 1:=by omega
   rw [e];exact a'
  ·have e:s + ((k + 1:Nat):Int)=s + (k:Int) + 1:=by omega
   rw [e]
   exact scale_le (by omega) (c i hi)
theorem no_two {s:Int} {x:Nat→Int} (h:Con n R s x) {a b c d:Nat} (ha:a < n) (hb:b < n) (hc:c < n) (hd:d < n) (h1:R a b) (h2:R c d) (h3:¬R a d) (h4:¬R c b):False:=by
 have g1:=(h a b ha hb).mpr h1
 have g2:=(h c d hc hd).mpr h2
 have g3:¬(x d - x a≥s):=fun z=>h3 ((h a d ha hd).mp z)
 have g4:¬(x b - x c≥s):=fun z=>h4 ((h c b hc hb).mp z)
 omega
theorem no_three {s:Int} {x:Nat→Int} (h:Con n R s x) {a b c d:Nat} (ha:a < n) (hb:b < n) (hc:c < n) (hd:d < n) (h1:R a b) (h2:R b c) (h3:¬R a d) (h4:¬R d c):False:=by
 have g1:=(h a b ha hb).mpr h1
 have g2:=(h b c hb hc).mpr h2
 have g3:¬(x d - x a≥s):=fun z=>h3 ((h a d ha hd).mp z)
 have g4:¬(x c - x d≥s):=fun z=>h4 ((h d c hd hc).mp z)
 omega
end
noncomputable def sumTo (x:Nat→Int):Nat→Int
 | 0=>0
 | n + 1=>sumTo x n + x n
theorem sum_nn {x:Nat→Int}:∀ {n:Nat},NN n x→0≤sumTo x n
 | 0,_=>Int.le_refl _
 | n + 1,h=>by
  have a:=sum_nn (n:=n) fun i hi=>h i (by omega)
  have b:=h n (by omega)
  simp only [sumTo]
  omega
theorem sum_lt {x y:Nat→Int}:∀ {n:Nat} {v:Nat},(∀ i,i < n→y i≤x i)→v < n→y v < x v→sumTo y n < sumTo x n
 | 0,v,_,hv,_=>absurd hv (Nat.not_lt_zero _)
 | n + 1,v,h,hv,hl=>by
  simp only [sumTo]
  by_cases e:v=n
  ·subst e
   have le:∀ m,m≤v→sumTo y m≤sumTo x m:=fun m=>by
    induction m with
    | zero=>intro _;exact Int.le_refl _
    | succ m ih=>
     intro hm
     have a:=ih (by omega)
     have b:=h m (by omega)
     simp only [sumTo]
     omega
   have a:=le v (Nat.le_refl _)
   omega
  ·have a:=sum_lt (n:=n) (v:=v) (fun i hi=>h i (by omega)) (by omega) hl
   have b:=h n (by omega)
   omega
theorem least_sum {n:Nat} {p:(Nat→Int)→Prop}:∀ (m:Nat) (x:Nat→Int),p x→NN n x→sumTo x n=(m:Int)→∃ y,p y∧NN n y∧∀ z,p z→NN n z→sumTo y n≤sumTo z n:=by
 intro m
 induction m using Nat.strongRecOn with
 | ind m ih=>
  intro x px nx ex
  by_cases h:∃ z,p z∧NN n z∧sumTo z n < sumTo x n
  ·obtain ⟨z,pz,nz,lz⟩:=h
   have s0:=sum_nn nz
   exact ih (sumTo z n).toNat (by omega) z pz nz (by omega)
  ·exact ⟨x,px,nx,fun z pz nz=>by
    by_cases g:sumTo x n≤sumTo z n
    ·exact g
    ·exact absurd ⟨z,pz,nz,by omega⟩ h⟩
theorem countP_lt {p q:Nat→Bool}:∀ {l:List Nat} {v:Nat},(∀ i∈l,p i=true→q i=true)→v∈l→p v=false→q v=true→l.countP p < l.countP q
 | [],v,_,hv,_,_=>by cases hv
 | a::l,v,h,hv,h1,h2=>by
  have le:∀ m:List Nat,(∀ i∈m,p i=true→q i=true)→m.countP p≤m.countP q:=fun m=>by
   induction m with
   | nil=>intro _;exact Nat.le_refl _
   | cons b m ih=>
    intro g
    have i1:=ih fun i hi=>g i (List.mem_cons_of_mem _ hi)
    have i2:=g b List.mem_cons_self
    simp only [List.countP_cons]
    cases hb:p b with
    | true=>rw [i2 hb];simp;exact i1
    | false=>simp;omega
  simp only [List.countP_cons]
  by_cases e:v=a
  ·subst e
   have i1:=le l fun i hi=>h i (List.mem_cons_of_mem _ hi)
   rw [h1,h2]
   simp
   omega
  ·have hv':v∈l:=by
    rcases List.mem_cons.mp hv with g | g
    ·exact absurd g e
    ·exact g
   have ih:=countP_lt (l:=l) (fun i hi=>h i (List.mem_cons_of_mem _ hi)) hv' h1 h2
   have i2:=h a List.mem_cons_self
   cases ha:p a with
   | true=>rw [i2 ha];simp;exact ih
   | false=>simp;omega
end Nt
namespace Wk
section
variable {n:Nat} {R:Nat→Nat→Prop}
structure Sm (n:Nat) (R:Nat→Nat→Prop):Prop where
 irr:∀ a,a < n→¬R a a
 two:∀ a b c d,a < n→b < n→c < n→d < n→R a b→R c d→R a d∨R c b
 three:∀ a b c d,a < n→b < n→c < n→d < n→R a b→R b c→R a d∨R d c
inductive W (n:Nat) (R:Nat→Nat→Prop):Nat→Nat→List Bool→Prop
 | nil {a:Nat}:a < n→W n R a a []
 | up {a b c:Nat} {l:List Bool}:a < n→R a b→W n R b c l→W n R a c (true::l)
 | fl {a b c:Nat} {l:List Bool}:a < n→¬R b a→W n R b c l→W n R a c (false::l)
theorem W.fst {a b:Nat} {l:List Bool} (h:W n R a b l):a < n:=by cases h <;> assumption
theorem W.snd {a b:Nat} {l:List Bool} (h:W n R a b l):b < n:=by
 induction h with
 | nil h=>exact h
 | up _ _ _ ih=>exact ih
 | fl _ _ _ ih=>exact ih
theorem W.app {a b c:Nat} {l m:List Bool} (h:W n R a b l) (g:W n R b c m):W n R a c (l++m):=by
 induction h with
 | nil _=>exact g
 | up h1 h2 _ ih=>exact .up h1 h2 (ih g)
 | fl h1 h2 _ ih=>exact .fl h1 h2 (ih g)
theorem W.cut {c:Nat} {m:List Bool}:∀ {l:List Bool} {a:Nat},W n R a c (l++m)→∃ b,W n R a b l∧W n R b c m
 | [],a,h=>⟨a,.nil h.fst,h⟩
 | x::l,a,h=>by
  cases h with
  | up h1 h2 h3=>
   obtain ⟨b,g1,g2⟩:=W.cut h3
   exact ⟨b,.up h1 h2 g1,g2⟩
  | fl h1 h2 h3=>
   obtain ⟨b,g1,g2⟩:=W.cut h3
   exact ⟨b,.fl h1 h2 g1,g2⟩
theorem Sm.tr (h:Sm n R) {a b c:Nat} (ha:a < n) (hb:b < n) (hc:c < n) (h1:R a b) (h2:R b c):R a c:=
 (h.two a b b c ha hb hb hc h1 h2).resolve_right (h.irr b hb)
theorem ups (h:Sm n R):∀ (l:List Bool) {a c:Nat},l.all id=true→l≠[]→W n R a c l→R a c
 | [],_,_,_,e,_=>absurd rfl e
 | [x],a,c,e,_,w=>by
  cases w with
  | up h1 h2 h3=>cases h3;exact h2
  | fl h1 h2 h3=>cases e
 | x::y::l,a,c,e,_,w=>by
  cases w with
  | up h1 h2 h3=>exact h.tr h1 h3.fst h3.snd h2 (ups h (y::l) e (by simp) h3)
  | fl h1 h2 h3=>cases e
noncomputable def nt (l:List Bool):Nat:=l.countP id
noncomputable def nf (l:List Bool):Nat:=l.countP (!·)
theorem nt_app (l m:List Bool):nt (l++m)=nt l + nt m:=List.countP_append
theorem nf_app (l m:List Bool):nf (l++m)=nf l + nf m:=List.countP_append
noncomputable def Two3 (l:List Bool):Prop:=∃ u v x y z,l=u++([x,y,z]++v)∧nt [x,y,z]=2
theorem Two3.cons {l:List Bool} (a:Bool) (h:Two3 l):Two3 (a::l):=by
 obtain ⟨u,v,x,y,z,rfl,g⟩:=h
 exact ⟨a::u,v,x,y,z,rfl,g⟩
theorem all_or:∀ (l:List Bool),¬Two3 l→(true::true::l).all id=true∨Two3 (true::true::l)
 | [],_=>.inl rfl
 | true::l,h=>by
  have h':¬Two3 l:=fun z=>h (z.cons true)
  rcases all_or l h' with g | g
  ·exact .inl (by simpa using g)
  ·exact .inr (g.cons true)
 | false::l,h=>.inr ⟨[],l,true,true,false,rfl,rfl⟩
theorem few:∀ (l:List Bool),¬Two3 l→l.all id=true∨3 * nt l≤l.length + 2
  | [],_=>.inl rfl
  | [x],_=>by cases x <;> simp [nt]
  | [x,y],_=>by cases x <;> cases y <;> simp [nt]
  | x::y::z::l,h=>by
    have hx:∀ {m},(Two3 m→Two3 (x::y::z::l))→¬Two3 m:=fun f g=>h (f g)
    have h3:nt [x,y,z]≠2:=fun e=>h ⟨[],l,x,y,z,rfl,e⟩
    have hl:¬Two3 l:=hx fun g=>((g.cons z).cons y).cons x
    cases x <;> cases y <;> cases z <;> first | exact absurd rfl h3 | skip
    all_goals first
      | (rcases few l hl with g | g
         ·
           match l,g,h,hl with
           | [],_,_,_=>exact .inr (by decide)
           | [true],_,_,_=>exact .inr (by decide)
           | true::true::r,g,h,_=>first
             | exact absurd ⟨[_,_],r,_,true,true,rfl,rfl⟩ h
             | exact absurd ⟨[_],true::r,_,_,true,rfl,rfl⟩ h
             | exact .inl (by simpa using g)
           | false::r,g,_,_=>simp at g
           | true::false::r,g,_,_=>simp at g
         · exact .inr (by simp [nt] at g ⊢;omega))
      | skip
    all_goals
      rcases all_or (true::l) (hx fun g=>(g.cons true).cons true) with g | g
      · exact .inl g
      · exact absurd g h
theorem shrink (h:Sm n R) {a d:Nat} {x y z:Bool} (e:nt [x,y,z]=2) (w:W n R a d [x,y,z]):R a d:=by
 cases x <;> cases y <;> cases z <;> first | (exfalso;revert e;decide) | skip
 ·cases w with
  | fl h1 h2 w=>cases w with
   | up h3 h4 w=>cases w with
    | up h5 h6 w=>cases w with
     | nil h7=>exact (h.three _ _ _ _ h3 h5 h7 h1 h4 h6).resolve_left h2
 ·cases w with
  | up h1 h2 w=>cases w with
   | fl h3 h4 w=>cases w with
    | up h5 h6 w=>cases w with
     | nil h7=>exact (h.two _ _ _ _ h1 h3 h5 h7 h2 h6).resolve_right h4
 ·cases w with
  | up h1 h2 w=>cases w with
   | up h3 h4 w=>cases w with
    | fl h5 h6 w=>cases w with
     | nil h7=>exact (h.three _ _ _ _ h1 h3 h5 h7 h2 h4).resolve_right h6
theorem up_of (h:Sm n R):∀ (k:Nat) (l:List Bool) {a c:Nat},l.length≤k→nf l < nt l→W n R a c l→R a c
 | 0,l,_,_,hk,hn,_=>by
  have:l=[]:=List.length_eq_zero_iff.mp (by omega)
  subst this
  cases hn
 | k + 1,l,a,c,hk,hn,w=>by
  have hne:l≠[]:=by rintro rfl;cases hn
  by_cases z:Two3 l
  ·obtain ⟨u,v,x,y,z,rfl,e⟩:=z
   obtain ⟨b,w1,w2⟩:=w.cut
   obtain ⟨d,w2,w3⟩:=w2.cut
   have r:=shrink h e w2
   have w':=w1.app (W.up w2.fst r w3)
   refine up_of h k _ ?_ ?_ w'
   ·simp only [List.length_append,List.length_cons,List.length_nil] at hk ⊢
    omega
   ·have ef:nf [x,y,z]=1:=by
     revert e
     cases x <;> cases y <;> cases z <;> decide
    rw [nf_app,nf_app] at hn
    rw [nt_app,nt_app] at hn
    rw [nf_app,nt_app,show (true::v)=[true]++v from rfl,nf_app,nt_app]
    have e1:nf [true]=0:=rfl
    have e2:nt [true]=1:=rfl
    omega
  ·rcases few l z with g | g
   ·exact ups h l g hne w
   ·apply Classical.byContradiction
    intro z2
    have el:l.length=nt l + nf l:=by
     have:=List.length_eq_countP_add_countP (l:=l) id
     unfold nt nf
     rw [this]
     congr 1
     refine List.countP_congr ?_
     intro x _
     cases x <;> simp
    have e0:nf l=0:=by omega
    have ea:l.all id=true:=List.all_eq_true.mpr fun x hx=>by
     have:=List.countP_eq_zero.mp e0 x hx
     cases x
     ·exact absurd rfl this
     ·rfl
    exact z2 (ups h l ea hne w)
end
end Wk
namespace L2
open PySem PySem.Spec PyProof.Rows
structure XEnd (P:Program) (w:World) (outer:List Env) (H:Hp) (s:Shared) (e C t:Addr) (H':Hp) (B:Heap) (s':Shared):Prop where
 os:s'.os=s.os
 bare:AllBare s'.gens
 un:Un (frs outer) [] H H' s.heap s'.heap
 cov:∀ b o,s.heap.get? b=some o→H b=none→b∉frs outer→B.get? b=some o
 thr:∀ b o,s.heap.get? b=some o→b∉frs outer→∃ o',B.get? b=some o'
 hok:HOk P w H' B
 fl:Heap.FlyingW B outer e (.ref C) (.ref t) s'.heap
section
variable {CX:CXT} {P:Program} {w:World} {K:PySem.W.Frag} {mg:Str→Option Value} {base:Heap} {N:List Str} {qual:Str} {scope:Scope} {f:Addr} {cd:Value} {A:Around} {outer:List Env} {s₀:Shared} {H₀:Hp} {E:XK}
 {pins:List (Addr×Obj)} {σ:St} {H:Hp} {s:Shared}
abbrev bmV:List Value:=[.type "ValueError",.type "Exception",.type "BaseException",.type "object"]
noncomputable def tRaise (E:XK) (C:Addr) (t:TA):TS:=fun _ σ H=>t σ H fun vs H1=>vs.length≤sizeLine∧E (.ref C) none H1
end
end L2
namespace L2
open PySem PySem.Spec PyProof.Rows
section
variable {P:Program} {w:World} {l:List Env} {H H':Hp} {s s':Shared} {e C t:Addr} {B h':Heap}
theorem XEnd.new (x:XEnd P w l H s e C t H' B s'):s.heap.get? e=none:=by
 cases q:s.heap.get? e with
 | none=>rfl
 | some o=>
  exfalso
  by_cases nb:e∈frs l
  ·obtain ⟨_,o3,e3,d3⟩:=x.fl.2.2.1.mem nb
   obtain ⟨oe,vs,he,_,hd,_⟩:=x.fl.first
   rw [e3] at he
   cases he
   exact d3 vs hd
  ·obtain ⟨o',e1⟩:=x.thr e o q nb
   rw [x.fl.2.1] at e1
   cases e1
theorem XEnd.free (x:XEnd P w l H s e C t H' B s'):H' e=none:=by
 cases q:H' e with
 | none=>rfl
 | some o=>
  obtain ⟨u,e1⟩:=(x.hok e o q).there
  rw [x.fl.2.1] at e1
  cases e1
end
section
variable {X:Cx} {pins:List (Addr×Obj)} {σ:St} {H H':Hp} {s s':Shared} {e C t:Addr} {B:Heap}
noncomputable abbrev Cx.pinned (X:Cx) (pn:List (Addr×Obj)) (E1:Value→Shared→Prop):Cx:={ X with pn:=pn,xe:=E1 }
theorem Inv.unpn1 {E1:Value→Shared→Prop} {pins':List (Addr×Obj)} (I:Inv (X.pinned (X.pn++pins) E1) pins' σ H s):Inv X pins σ H s:=
 ⟨⟨I.ok.mod,I.ok.kind,I.ok.glob,I.ok.blt,I.ok.above,I.ok.inj,I.ok.has,I.ok.cab,I.ok.hd,I.ok.frames,I.ok.stk,I.ok.exf,I.ok.bs,I.ok.bsz,I.ok.noex,I.ok.exfs,I.ok.funs,I.ok.frf⟩,I.os,I.bare,I.base,I.loc,I.cell,I.free,I.freeC,fun p hp=>I.pin p (List.mem_append_left _ hp),I.hok,I.len⟩
theorem SP.unpinned {E1:Value→Shared→Prop} {pins':List (Addr×Obj)} {D:Ends} {f:Flow} (h:SP (X.pinned (X.pn++pins) E1) pins' D f s'):SP X pins D f s':=by
 cases f with
 | next=>obtain ⟨σ',H',I,q⟩:=h;exact ⟨σ',H',I.unpn1,q⟩
 | brk=>obtain ⟨σ',H',I,q⟩:=h;exact ⟨σ',H',I.unpn1,q⟩
 | cont=>obtain ⟨σ',H',I,q⟩:=h;exact ⟨σ',H',I.unpn1,q⟩
 | ret u=>obtain ⟨v,σ',H',I,r,q⟩:=h;exact ⟨v,σ',H',I.unpn1,r,q⟩
end
end L2
namespace L2
open PySem PySem.Spec PyProof.Rows
structure ExcC (K:PySem.W.Frag) (C:Addr):Prop where
 exc:PySem.W.excIn K C bmV "ValueError.__new__"=true
 ga:PySem.W.findIn K (.ref C) "__getattribute__"=some (some (.builtin "BaseException.__getattribute__"))
 gn:PySem.W.findIn K (.ref C) "__getattr__"=some none
 gc:PySem.W.findIn K (.ref C) "__class__"=some (some (.builtin "object.__class__"))
 sb:PySem.W.subIn K (.ref C) (.type "BaseException")=some true
 so:PySem.W.subIn K (.ref C) (.type "object")=some true
 cl:∃ cd,PySem.W.clsIn K C=some cd
section
variable {prog:Program} {w:World} {A:Around} {E:Value→Shared→Prop} {h:Heap} {g:Array GenState} {d:Drawn} {t:Nat} {os:OsState} {a C:Addr} {o:Obj} {K:PySem.W.Frag}
end
end L2
namespace L2
open PySem PySem.Spec PyProof.Rows
section
variable {X:Cx}
end
structure RoomH (k:Nat) (A:Around):Prop where
 dp:A.depth + 3 * k + 5 < recursionLimit
 un:A.units + 16 * k + 200 < cLine
theorem RoomH.mono {j k:Nat} {A:Around} (r:RoomH k A) (h:j≤k):RoomH j A:=⟨by have:=r.dp;omega,by have:=r.un;omega⟩
theorem RoomH.deeper {k:Nat} {A:Around} (r:RoomH (k + 1) A) (env:Env):RoomH k (A.deeper env):=⟨by have:=r.dp;show A.depth + 1 + 3 * k + 5 < _;omega,by have:=r.un;show A.units + 3 + 16 * k + 200 < _;omega⟩
theorem RoomH.units {k:Nat} {A:Around} (r:RoomH k A):A.units + 64 < cLine:=by have:=r.un;omega
theorem RoomH.units0 {k:Nat} {A:Around} (r:RoomH k A):A.units < cLine:=by have:=r.un;omega
structure FnOkH (P:Program) (w:World) (K:PySem.W.Frag) (mg:Str→Option Value) (base:Heap) (k:Nat) (f:Addr) (fd:FuncData) (ps:List Str) (sp:Sp):Prop where
 len:∀ vs H Q E,sp vs H Q E→vs.length=ps.length
 run:∀ (A:Around) (outer:List Env) (s:Shared) (H:Hp) (args:Args) (us:List Value) (vs:List V) (Q:VK),RoomH k A→Env0 P w K mg base A outer s H→BindsTo s fd args (ps.zip us)→Vals vs us→sp vs H Q E0→
  codeAny (model P w) A (.call (.ref f) args) (CR CX0 outer P w H s Q E0) s
section
variable {P:Program} {w:World} {K:PySem.W.Frag} {mg:Str→Option Value} {base:Heap}
end
section
variable {X:Cx} {k:Nat} {f:Addr} {fd:FuncData} {ps:List Str} {sp:Sp} {x:Str} {p pos:Pos} {e:Expr} {es:List Expr} {t:TA}
end
section
variable {σ:St} {H:Hp} {Q:VK} {D:Ends} {K:PySem.W.Frag}
theorem rd_raise {E:XK} {C:Addr} {t:TA} (h:t σ H fun vs H1=>vs.length≤sizeLine∧E (.ref C) none H1):tRaise E C t D σ H:=h
end
end L2
namespace L2
open PySem PySem.Spec PyProof.Rows
section
variable {P:Program} {w:World} {A:Around} {E:Value→Shared→Prop}
end
section
variable {X:Cx}
end
section
variable {K:PySem.W.Frag} {σ:St} {H:Hp}
end
end L2
namespace L2
open PySem PySem.Spec PyProof.Rows
section
variable {P:Program} {w:World} {A:Around} {E:Value→Shared→Prop} {s:Shared}
end
section
variable {X:Cx}
end
section
variable {K:PySem.W.Frag} {σ:St} {H:Hp} {Q:VK}
end
end L2
namespace L2
open PySem PySem.Spec PyProof.Rows
noncomputable def Fresh (H H':Hp) (v:V) (d:PyData):Prop:=∀ H2:Hp,(∀ a u,H a=none→H' a=some u→H2 a=some u)→Is H2 v d
inductive FreshAll (H H':Hp):List V→List PyData→Prop
 | nil:FreshAll H H' [] []
 | cons {v:V} {d:PyData} {vs:List V} {ds:List PyData}:Fresh H H' v d→FreshAll H H' vs ds→FreshAll H H' (v::vs) (d::ds)
theorem Fresh.mono {H H1 H2 H3:Hp} {v:V} {d:PyData} (s1:Same H H1) (s2:Same H2 H3) (h:Fresh H1 H2 v d):Fresh H H3 v d:=fun K k=>h K fun a u n e=>k a u (by
 cases q:H a with
 | none=>rfl
 | some w=>rw [s1 _ _ q] at n;cases n) (s2 _ _ e)
theorem FreshAll.mono {H H1 H2 H3:Hp} (s1:Same H H1) (s2:Same H2 H3):∀ {vs:List V} {ds:List PyData},FreshAll H1 H2 vs ds→FreshAll H H3 vs ds
 | _,_,.nil=>.nil
 | _,_,.cons h t=>.cons (h.mono s1 s2) (t.mono s1 s2)
theorem FreshAll.length {H H':Hp}:∀ {vs:List V} {ds:List PyData},FreshAll H H' vs ds→vs.length=ds.length
 | _,_,.nil=>rfl
 | _,_,.cons _ t=>by rw [List.length_cons,List.length_cons,t.length]
theorem FreshAll.is {H H' H2:Hp} (k:∀ a u,H a=none→H' a=some u→H2 a=some u):∀ {vs:List V} {ds:List PyData},FreshAll H H' vs ds→IsAll H2 vs ds
 | _,_,.nil=>.nil
 | _,_,.cons h t=>.cons (h H2 k) (t.is k)
theorem FreshAll.mem {H H':Hp}:∀ {vs:List V} {ds:List PyData} {v:V},FreshAll H H' vs ds→v∈vs→∃ d∈ds,Fresh H H' v d
 | _,_,_,.nil,h=>nomatch h
 | _,_,_,.cons h t,hv=>by
  rcases List.mem_cons.mp hv with rfl | hv
  ·exact ⟨_,List.mem_cons_self,h⟩
  ·obtain ⟨d,hd,f⟩:=t.mem hv
   exact ⟨d,List.mem_cons_of_mem _ hd,f⟩
section
variable {X:Cx} {e:Expr} {es:List Expr} {pos:Pos} {d:PyData} {ds:List PyData}
theorem PE.imp {t t':TE} (h:PE X e t) (k:∀ σ H Q,t' σ H Q→t σ H Q):PE X e t':=fun pins s σ H Q I q=>h pins s σ H Q I (k σ H Q q)
theorem PA.imp {t t':TA} (h:PA X es t) (k:∀ σ H Q,t' σ H Q→t σ H Q):PA X es t':=fun pos pins s σ H Q I q=>h pos pins s σ H Q I (k σ H Q q)
end
inductive CallL (X:Cx) (E:XK):List (Addr×Sp)→Prop
 | nil:CallL X E []
 | cons {CX:CXT} {k:Nat} {f:Addr} {fd:FuncData} {ps:List Str} {sp:Sp} {l:List (Addr×Sp)} (F:FnOk X.prog X.w X.K X.mg X.base CX k f fd ps sp) (hr:Room k X.A) (hk:PySem.W.keepIn X.K (.ref f)=true) (hb:Binds X.K fd ps []) (hx:Passes CX X E) (r:CallL X E l):CallL X E ((f,sp)::l)
theorem CallL.get {X:Cx} {E:XK}:∀ {l:List (Addr×Sp)} {i:Nat} {f:Addr} {sp:Sp},CallL X E l→l[i]? =some (f,sp)→∃ (CX:CXT) (k:Nat) (fd:FuncData) (ps:List Str),FnOk X.prog X.w X.K X.mg X.base CX k f fd ps sp∧Room k X.A∧PySem.W.keepIn X.K (.ref f)=true∧Binds X.K fd ps []∧Passes CX X E
 | _,_,_,_,.nil,e=>by simp at e
 | _,0,_,_,.cons F hr hk hb hx r,e=>by simp at e;obtain ⟨rfl,rfl⟩:=e;exact ⟨_,_,_,_,F,hr,hk,hb,hx⟩
 | _,i + 1,_,_,.cons F hr hk hb hx r,e=>r.get (i:=i) (by simpa using e)
end L2
namespace L2
open PySem PySem.Spec PyProof.Rows
section
variable {prog:Program} {w:World} {A:Around} {E:Value→Shared→Prop} {s:Shared}
end
theorem vals_intsA {us:List Value} {ns:List Int} (h:IntsAre us ns):Vals (ns.map V.int) us:=by
 induction h with
 | nil=>exact .nil
 | cons _ _ _ ih=>exact .cons ⟨_,rfl⟩ ih
section
variable {X:Cx}
noncomputable def rMkR:List V→Hp→VK→Prop:=fun xs H Q=>∃ j:Int,xs=[.int j]∧∀ p,H p=none→Q (.ref p) (upd H p (.rng 0 j))
theorem call_mkR:CallR X (.type "range") rMkR:=by
 intro pins s σ H xs us Q I r h
 obtain ⟨j,rfl,q⟩:=h
 obtain ⟨u,rfl,rx⟩:=Vals.one r
 obtain ⟨t,rfl⟩:=rx
 refine call_range_1 ⟨.ref s.heap.objs.size,_,I.laid (o:=.rng 0 j) (fun b o e=>Heap.get?_push_of_some _ e) (Nat.le_refl _) ⟨_,_,_,Heap.get?_push_size _ rfl⟩,rfl,q _ (I.hok.fresh (Nat.le_refl _))⟩
noncomputable def upTo (n:Nat):List Int:=(List.range n).map fun (i:Nat)=>(i:Int)
theorem upTo_len (n:Nat):(upTo n).length=n:=by unfold upTo;simp
theorem items_vals {acc:Array Value} {n:Nat} (h:ItemsOf (fun i v=>∃ t,v=.int (0 + (i:Int) * 1) t) acc n):Vals ((upTo n).map V.int) acc.toList:=by
 obtain ⟨hs,hv⟩:=h
 have key:∀ (l:List Value) (k:Nat),(∀ j v,l[j]? =some v→∃ t,v=Value.int (((k + j:Nat)):Int) t)→Vals (((List.range' k l.length).map fun (i:Nat)=>(i:Int)).map V.int) l:=fun l=>by
  induction l with
  | nil=>intro k _;exact .nil
  | cons x l ih=>
   intro k hk
   rw [List.length_cons,List.range'_succ,List.map_cons,List.map_cons]
   obtain ⟨t,rfl⟩:=hk 0 x rfl
   refine .cons ⟨t,rfl⟩ (ih (k + 1) fun j v e=>?_)
   obtain ⟨t,rfl⟩:=hk (j + 1) v (by simpa using e)
   exact ⟨t,by rw [show k + 1 + j=k + (j + 1) by omega]⟩
 have:=key acc.toList 0 fun j v e=>by
  obtain ⟨t,rfl⟩:=hv j v (by simpa using e)
  exact ⟨t,by simp⟩
 rw [Array.length_toList,hs,←List.range_eq_range'] at this
 exact this
noncomputable def rLstR:List V→Hp→VK→Prop:=fun xs H Q=>∃ (p:Addr) (n:Nat),xs=[.ref p]∧H p=some (.rng 0 n)∧n≤1000∧∀ l,H l=none→Q (.ref l) (upd H l (.lst ((upTo n).map V.int)))
theorem call_lstR (hc:X.calm=true):CallR X (.type "list") rLstR:=by
 intro pins s σ H xs us Q I r h
 obtain ⟨p,n,rfl,hp,hn,q⟩:=h
 obtain ⟨u,rfl,rx⟩:=Vals.one r
 cases (show u=Value.ref p from rx)
 obtain ⟨t,u,v,ho⟩:=I.hok p _ hp
 refine call_list_range (I.ok.hd hc) ho (small_one (by omega) (by omega) (by omega) (by omega)) (n:=n) (by rw [rangeSize_one];split <;> omega) (by omega) fun h' tk acc c hk hS hacc=>?_
 have hv:=items_vals hacc
 refine ⟨.ref s.heap.objs.size,_,I.laid (t':=tk) (o:=.lst ((upTo n).map V.int)) hk (Nat.le_refl _) ⟨?_,acc.toList,c,hv,by simpa using hS⟩,rfl,q _ (I.hok.fresh (Nat.le_refl _))⟩
 rw [List.length_map,upTo_len]
 exact Nat.le_of_lt (small1000 hn)
end
end L2
namespace L2
open PySem PySem.Spec PyProof.Rows
open AutoSeq1 (wpAny_loadPart')
section
variable {prog:Program} {w:World} {A:Around} {E:Value→Shared→Prop} {s:Shared}
end
section
variable {X:Cx}
end
section
variable {σ:St} {H:Hp} {Q:VK} {K:PySem.W.Frag}
theorem rd_mkR {j:Int} (h:∀ p,H p=none→Q (.ref p) (upd H p (.rng 0 j))):rMkR [.int j] H Q:=⟨j,rfl,h⟩
theorem rd_lstR {p:Addr} {n:Nat} (e:H p=some (.rng 0 n)) (hn:n≤1000) (h:∀ l,H l=none→Q (.ref l) (upd H l (.lst ((upTo n).map V.int)))):rLstR [.ref p] H Q:=⟨p,n,rfl,e,hn,h⟩
end
end L2
namespace L2
open PySem PySem.Spec PyProof.Rows
section
variable {K:PySem.W.Frag} {σ:St} {H:Hp} {Q:VK}
theorem FreshAll.append {H H':Hp}:∀ {vs:List V} {ds:List PyData} {ws:List V} {es:List PyData},FreshAll H H' vs ds→FreshAll H H' ws es→FreshAll H H' (vs++ws) (ds++es)
 | _,_,_,_,.nil,h=>h
 | _,_,_,_,.cons a t,h=>.cons a (t.append h)
theorem mem_upTo {n:Nat} {i:Int}:i∈upTo n↔0≤i∧i < n:=by
 unfold upTo
 rw [List.mem_map]
 constructor
 ·rintro ⟨k,hk,rfl⟩
  have:=List.mem_range.mp hk
  omega
 ·intro h
  exact ⟨i.toNat,List.mem_range.mpr (by omega),by omega⟩
theorem upTo_nd (n:Nat):(upTo n).Nodup:=by
 unfold upTo List.Nodup
 rw [List.pairwise_map]
 refine List.Pairwise.imp (fun h=>?_) (List.nodup_range (n:=n))
 omega
end
inductive Lit:List Expr→List PyData→Prop
 | nil:Lit [] []
 | int {i:Int} {j p es ds}:Lit es ds→Lit (.Constant (.int i) j p::es) (.int i::ds)
 | bl {b:Bool} {j p es ds}:Lit es ds→Lit (.Constant (.bool b) j p::es) (.bool b::ds)
 | non {j p es ds}:Lit es ds→Lit (.Constant .none j p::es) (.none::ds)
 | str {x:Str} {j p es ds}:Lit es ds→Lit (.Constant (.str x) j p::es) (.str x::ds)
 | neg {i:Int} {j p p2 es ds}:Lit es ds→Lit (.UnaryOp .USub (.Constant (.int i) j p2) p::es) (.int (-i)::ds)
 | tup {es' ds' x p es ds}:Lit es' ds'→ds'.length≤100→Lit es ds→Lit (.Tuple es' x p::es) (.tuple ds'::ds)
 | lst {es' ds' p es ds}:Lit es' ds'→ds'.length≤100→Lit es ds→Lit (.List es' p::es) (.list ds'::ds)
end L2
namespace L2
open PySem PySem.Spec PyProof.Rows
section
variable {κ:Type} [DecidableEq κ]
noncomputable def valV (kvs:List (κ×V)) (k:κ):Option V:=(kvs.find? fun kv=>decide (kv.1=k)).map (·.2)
noncomputable def putK (kvs:List (κ×V)) (k:κ) (v:V):List (κ×V):=
 if (kvs.any fun kv=>decide (kv.1=k))=true then kvs.map (fun kv=>if kv.1=k then (kv.1,v) else kv) else kvs++[(k,v)]
noncomputable def dropK (kvs:List (κ×V)) (k:κ):List (κ×V):=kvs.filter fun kv=>decide (kv.1≠k)
theorem valV_pos {p:κ×V} {r:List (κ×V)} {k:κ} (e:p.1=k):valV (p::r) k=some p.2:=by simp [valV,List.find?_cons,e]
theorem valV_neg {p:κ×V} {r:List (κ×V)} {k:κ} (e:¬p.1=k):valV (p::r) k=valV r k:=by simp [valV,List.find?_cons,e]
theorem valV_any (k:κ):∀ kvs:List (κ×V),(kvs.any fun kv=>decide (kv.1=k))=(valV kvs k).isSome
 | []=>rfl
 | p::r=>by
  rw [List.any_cons]
  by_cases e:p.1=k
  ·simp only [valV_pos e,decide_eq_true e,Bool.true_or,Option.isSome_some]
  ·rw [valV_neg e,decide_eq_false e,Bool.false_or];exact valV_any k r
theorem length_putK (kvs:List (κ×V)) (k:κ) (v:V):(putK kvs k v).length≤kvs.length + 1:=by
 unfold putK
 split
 ·rw [List.length_map];omega
 ·rw [List.length_append,List.length_cons,List.length_nil];omega
theorem putK_new {kvs:List (κ×V)} {k:κ} (v:V) (h:valV kvs k=none):putK kvs k v=kvs++[(k,v)]:=by
 unfold putK
 rw [valV_any,h]
 exact if_neg (by decide)
theorem RelO.isSome_eq {o:Option V} {u:Option Value} (r:RelO o u):o.isSome=u.isSome:=by
 cases o with
 | none=>cases u with
  | none=>rfl
  | some _=>exact (show False from r).elim
 | some _=>cases u with
  | none=>exact (show False from r).elim
  | some _=>rfl
theorem RelO.getD {o:Option V} {u:Option Value} {d:V} {d':Value} (r:RelO o u) (rd:RelV d d'):RelV (o.getD d) (u.getD d'):=by
 cases o with
 | none=>cases u with
  | none=>exact rd
  | some _=>exact (show False from r).elim
 | some _=>cases u with
  | none=>exact (show False from r).elim
  | some _=>exact r
theorem KV.val {kvs:List (κ×V)} {vs:List (κ×Value)} (r:KV kvs vs) (k:κ):RelO (valV kvs k) (valueAt vs k):=by
 unfold KV at r
 induction r with
 | nil=>exact True.intro
 | @cons p q ps qs h t ih=>
  obtain ⟨h1,h2⟩:=h
  by_cases e:p.1=k
  ·have e':q.1=k:=h1.symm.trans e
   have b:valueAt (q::qs) k=some q.2:=by simp [valueAt,List.find?_cons,e']
   rw [valV_pos e,b];exact h2
  ·have e':¬q.1=k:=fun z=>e (h1.trans z)
   have b:valueAt (q::qs) k=valueAt qs k:=by simp [valueAt,List.find?_cons,e']
   rw [valV_neg e,b];exact ih
theorem KV.any {kvs:List (κ×V)} {vs:List (κ×Value)} (r:KV kvs vs) (k:κ):(kvs.any fun kv=>decide (kv.1=k))=vs.any fun kv=>decide (kv.1=k):=by
 unfold KV at r
 induction r with
 | nil=>rfl
 | cons h t ih=>rw [List.any_cons,List.any_cons,ih,h.1]
theorem KV.repl {kvs:List (κ×V)} {vs:List (κ×Value)} (r:KV kvs vs) (k:κ) {y:V} {u:Value} (ry:RelV y u):
  KV (kvs.map fun kv=>if kv.1=k then (kv.1,y) else kv) (vs.map fun kv=>if kv.1=k then (kv.1,u) else kv):=by
 unfold KV at r ⊢
 induction r with
 | nil=>exact .nil
 | @cons p q ps qs h t ih=>
  rw [List.map_cons,List.map_cons]
  refine .cons ?_ ih
  obtain ⟨h1,h2⟩:=h
  by_cases e:p.1=k
  ·rw [if_pos e,if_pos (h1.symm.trans e)];exact ⟨h1,ry⟩
  ·rw [if_neg e,if_neg (fun z=>e (h1.trans z))];exact ⟨h1,h2⟩
theorem KV.put {kvs:List (κ×V)} {vs:List (κ×Value)} (r:KV kvs vs) (k:κ) {y:V} {u:Value} (ry:RelV y u):KV (putK kvs k y) (stored vs k u):=by
 unfold putK stored
 rw [r.any k]
 by_cases e:(vs.any fun kv=>decide (kv.1=k))=true
 ·rw [if_pos e,if_pos e];exact r.repl k ry
 ·rw [if_neg e,if_neg e];exact Paired.snoc r ⟨rfl,ry⟩
theorem KV.drop {kvs:List (κ×V)} {vs:List (κ×Value)} (r:KV kvs vs) (k:κ):KV (dropK kvs k) (without vs k):=by
 unfold KV at r ⊢
 unfold dropK without
 induction r with
 | nil=>exact .nil
 | @cons p q ps qs h t ih=>
  obtain ⟨h1,h2⟩:=h
  rw [List.filter_cons,List.filter_cons]
  by_cases e:p.1=k
  ·have a:¬decide (p.1≠k)=true:=by simp [e]
   have b:¬decide (q.1≠k)=true:=by simp [h1.symm.trans e]
   rw [if_neg a,if_neg b];exact ih
  ·have e':¬q.1=k:=fun z=>e (h1.trans z)
   have a:decide (p.1≠k)=true:=by simp [e]
   have b:decide (q.1≠k)=true:=by simp [e']
   rw [if_pos a,if_pos b];exact .cons ⟨h1,h2⟩ ih
theorem KV.length {kvs:List (κ×V)} {vs:List (κ×Value)} (r:KV kvs vs):kvs.length=vs.length:=Paired.length r
end
theorem kV_is {P:Program} {w:World} {k:Key} {u:Value} (r:RelV (kV k) u):(mixKind P w).is k u=true:=by
 cases k with
 | inl i=>obtain ⟨t,e⟩:=(show ∃ t,u=Value.int i t from r);subst e;exact mixKind_int P w i t
 | inr x=>obtain ⟨t,e⟩:=(show ∃ t,u=Value.str x t from r);subst e;exact mixKind_str P w x t
theorem items_are {P:Program} {w:World}:∀ {ks:List Key} {us:List Value},Vals (ks.map kV) us→ItemsAre (mixKind P w) ks us
 | [],_,r=>by rw [List.map_nil] at r;cases r;exact .nil
 | k::ks,_,r=>by
  rw [List.map_cons] at r
  cases r with
  | cons h t=>exact .cons (kV_is h) (items_are t)
noncomputable abbrev KT (H:Hp):List (List Key×V)→List (List Key×Addr×Value)→Prop:=Paired fun p q=>p.1=q.1∧H q.2.1=some (.tup (p.1.map kV))∧RelV p.2 q.2.2
theorem KT.val {H:Hp} {kvs:List (List Key×V)} {xs:List (List Key×Addr×Value)} (r:KT H kvs xs) (k:List Key):RelO (valV kvs k) ((atKey xs k).map (·.2)):=by
 induction r with
 | nil=>exact True.intro
 | @cons p q ps qs h t ih=>
  obtain ⟨h1,_,h2⟩:=h
  by_cases e:p.1=k
  ·have e':q.1=k:=h1.symm.trans e
   have b:atKey (q::qs) k=some q.2:=by simp [atKey,List.find?_cons,e']
   rw [valV_pos e,b];exact h2
  ·have e':¬q.1=k:=fun z=>e (h1.trans z)
   have b:atKey (q::qs) k=atKey qs k:=by simp [atKey,List.find?_cons,e']
   rw [valV_neg e,b];exact ih
theorem KT.repl {H:Hp} {kvs:List (List Key×V)} {xs:List (List Key×Addr×Value)} (r:KT H kvs xs) (k:List Key) {y:V} {u:Value} (ry:RelV y u):
  KT H (kvs.map fun kv=>if kv.1=k then (kv.1,y) else kv) (xs.map (putAt k u)):=by
 induction r with
 | nil=>exact .nil
 | @cons p q ps qs h t ih=>
  rw [List.map_cons,List.map_cons]
  refine .cons ?_ ih
  obtain ⟨h1,h2,h3⟩:=h
  unfold putAt
  by_cases e:p.1=k
  ·rw [if_pos e,if_pos (h1.symm.trans e)];exact ⟨h1,h2,ry⟩
  ·rw [if_neg e,if_neg (fun z=>e (h1.trans z))];exact ⟨h1,h2,h3⟩
theorem KT.put {H:Hp} {kvs:List (List Key×V)} {xs:List (List Key×Addr×Value)} (r:KT H kvs xs) (k:List Key) {b:Addr} {y:V} {u:Value} (hb:H b=some (.tup (k.map kV))) (ry:RelV y u):
  KT H (putK kvs k y) (storedH xs k b u):=by
 have e:(kvs.any fun kv=>decide (kv.1=k))=(atKey xs k).isSome:=by
  rw [valV_any,(r.val k).isSome_eq,Option.isSome_map]
 unfold putK storedH
 rw [e]
 by_cases q:(atKey xs k).isSome=true
 ·rw [if_pos q,if_pos q];exact r.repl k ry
 ·rw [if_neg q,if_neg q];exact Paired.snoc r ⟨rfl,hb,ry⟩
theorem KT.keeps {H H':Hp} {kvs:List (List Key×V)} {xs:List (List Key×Addr×Value)} (r:KT H kvs xs) (ht:∀ b ys,H b=some (.tup ys)→H' b=some (.tup ys)):KT H' kvs xs:=
 Paired.mapP r fun _ _ z=>⟨z.1,ht _ _ z.2.1,z.2.2⟩
section
variable {P:Program} {w:World} {H:Hp} {h:Heap} {a:Addr}
theorem rd_of {u:HO} (ok:HOk P w H h) (e:Rd H a u):ObjOk P w H h a u:=e.ok ok
theorem dk_rd {kvs:List (Key×V)} (ok:HOk P w H h) (e:Rd H a (.dK kvs)):kvs.length≤sizeLine∧(a==sysModules)=false∧∃ vs,KV kvs vs∧h.DictOf (mixKind P w) a vs:=
 show ObjOk P w H h a (.dK kvs) from rd_of ok e
theorem dk_of {kvs:List (Key×V)} (ok:HOk P w H h) (e:H a=some (.dK kvs)):kvs.length≤sizeLine∧(a==sysModules)=false∧∃ vs,KV kvs vs∧h.DictOf (mixKind P w) a vs:=dk_rd ok (.inl e)
theorem key_of {ks:List Key} (ok:HOk P w H h) (e:H a=some (.tup (ks.map kV))):(tupleKind (mixKind P w)).is h ks a:=by
 obtain ⟨_,its,r,⟨o,h1,h2,n,h3⟩,_⟩:=(show ObjOk P w H h a (.tup (ks.map kV)) from ok a _ e)
 exact ⟨o,its.toArray,n,h1,h2,h3,by simpa using items_are r⟩
theorem dt_rd {kvs:List (List Key×V)} (ok:HOk P w H h) (e:Rd H a (.dT kvs)):kvs.length≤sizeLine∧(a==sysModules)=false∧
  ∃ xs,KT H kvs xs∧h.DictOfH (tupleKind (mixKind P w)) a xs:=by
 obtain ⟨z,y,xs,r,o,es,ep,h1,h2,h3,h4,h5⟩:=(show ObjOk P w H h a (.dT kvs) from rd_of ok e)
 refine ⟨z,y,xs,r,o,es,ep,h1,h2,h3,h4,fun x hx=>?_,h5⟩
 have all:∀ {l:List (List Key×V)} {m:List (List Key×Addr×Value)},KT H l m→∀ x∈m,(tupleKind (mixKind P w)).is h x.1 x.2.1:=by
  intro l m q
  induction q with
  | nil=>intro x hx;exact nomatch hx
  | @cons p q ps qs hq t ih=>
   intro x hx
   rcases List.mem_cons.mp hx with e | hx
   ·subst e
    exact key_of ok (by rw [←hq.1];exact hq.2.1)
   ·exact ih x hx
 exact all r x hx
theorem dt_of {kvs:List (List Key×V)} (ok:HOk P w H h) (e:H a=some (.dT kvs)):kvs.length≤sizeLine∧(a==sysModules)=false∧
  ∃ xs,KT H kvs xs∧h.DictOfH (tupleKind (mixKind P w)) a xs:=dt_rd ok (.inl e)
end
noncomputable def DGet (H:Hp) (a:Addr) (y:V) (r:Option V):Prop:=
 (∃ kvs k,Rd H a (.dK kvs)∧y=kV k∧r=valV kvs k)∨∃ kvs k b,Rd H a (.dT kvs)∧y=.ref b∧H b=some (.tup (k.map kV))∧r=valV kvs k
noncomputable def DPut (H:Hp) (a:Addr) (y v:V) (H':Hp):Prop:=
 (∃ kvs k,H a=some (.dK kvs)∧y=kV k∧kvs.length < sizeLine∧H'=upd H a (.dK (putK kvs k v)))∨
 ∃ kvs k b,H a=some (.dT kvs)∧y=.ref b∧H b=some (.tup (k.map kV))∧kvs.length < sizeLine∧H'=upd H a (.dT (putK kvs k v))
theorem DGet.k {H:Hp} {a:Addr} {kvs:List (Key×V)} {k:Key} (e:H a=some (.dK kvs)):DGet H a (kV k) (valV kvs k):=.inl ⟨kvs,k,.inl e,rfl,rfl⟩
theorem DGet.t {H:Hp} {a b:Addr} {kvs:List (List Key×V)} {k:List Key} (e:H a=some (.dT kvs)) (eb:H b=some (.tup (k.map kV))):DGet H a (.ref b) (valV kvs k):=.inr ⟨kvs,k,b,.inl e,rfl,eb,rfl⟩
theorem DPut.k {H:Hp} {a:Addr} {kvs:List (Key×V)} {k:Key} {v:V} (e:H a=some (.dK kvs)) (hl:kvs.length < sizeLine):DPut H a (kV k) v (upd H a (.dK (putK kvs k v))):=.inl ⟨kvs,k,e,rfl,hl,rfl⟩
theorem DPut.t {H:Hp} {a b:Addr} {kvs:List (List Key×V)} {k:List Key} {v:V} (e:H a=some (.dT kvs)) (eb:H b=some (.tup (k.map kV))) (hl:kvs.length < sizeLine):
  DPut H a (.ref b) v (upd H a (.dT (putK kvs k v))):=.inr ⟨kvs,k,b,e,rfl,eb,hl,rfl⟩
section
variable {X:Cx} {pins:List (Addr×Obj)} {σ:St} {H:Hp} {s:Shared} {a:Addr} {y v:V} {u r:Value} {o:Option V} {A:Around} {E:Value→Shared→Prop}
theorem Inv.big (I:Inv X pins σ H s):sysModules < s.heap.objs.size:=by
 have h:mainGlobals < s.heap.objs.size:=(I.mod.glob.keeps I.bk).lt
 exact Nat.lt_trans (by decide) h
theorem d_getItem {Q:Value→Shared→Prop} (hu:A.units + 1 < cLine) (I:Inv X pins σ H s) (g:DGet H a y (some v)) (ry:RelV y u) (h:∀ w' s',Inv X pins σ H s'→RelV v w'→Q w' s'):
  wpAny (model X.prog X.w) A (getItem (.ref a) u) Q E s:=by
 rcases g with ⟨kvs,k,e,ey,l⟩ | ⟨kvs,k,b,e,ey,eb,l⟩
 ·subst ey
  obtain ⟨z,hd,vs,rel,dd⟩:=dk_rd I.hok e
  obtain ⟨w',hw,rw'⟩:=RelO.some_of (v:=v) (o:=valueAt vs k) (by rw [l];exact rel.val k)
  exact wpAny_getItem_of (kV_is ry) dd.mapOf hw (h w' _ (I.tok _) rw')
 ·subst ey
  cases (show u=Value.ref b from ry)
  obtain ⟨z,hd,xs,rel,dd⟩:=dt_rd I.hok e
  obtain ⟨w',hw,rw'⟩:=RelO.some_of (v:=v) (o:=(atKey xs k).map (·.2)) (by rw [l];exact rel.val k)
  obtain ⟨p,hp,hp2⟩:=Option.map_eq_some_iff.mp hw
  refine wpAny_getItem_heap (tupleKind_room_in1 hu) (key_of I.hok eb) dd hp ?_
  rw [hp2]
  exact h w' _ (I.tok _) rw'
theorem d_write {h':Heap} {t':Nat} {ob:HO} (I:Inv X pins σ H s) (mu:Mut (H a)) (hs:Heap.SameBut a s.heap h') (he:∃ q,h'.get? a=some q) (new:ObjOk X.prog X.w (upd H a ob) h' a ob):
  Inv X pins σ (upd H a ob) { s with heap:=h',toks:=t' }:=
 I.write (x:=a) (e:=a) mu (.inl rfl) (fun b q hb z=>(hs.2 b hb).trans z) he new
theorem dk_new {P:Program} {w:World} {H':Hp} {h':Heap} {kvs:List (Key×V)} {vs:List (Key×Value)} (z:kvs.length≤sizeLine) (hd:(a==sysModules)=false) (rel:KV kvs vs) (dd:h'.DictOf (mixKind P w) a vs):
  ObjOk P w H' h' a (.dK kvs):=⟨z,hd,vs,rel,dd⟩
theorem d_setItem {H':Hp} {Q:Unit→Shared→Prop} (hu:A.units + 1 < cLine) (I:Inv X pins σ H s) (g:DPut H a y v H') (ry:RelV y u) (rv:RelV v r) (h:∀ s',Inv X pins σ H' s'→Q () s'):
  wpAny (model X.prog X.w) A (setItem (.ref a) u r) Q E s:=by
 rcases g with ⟨kvs,k,e,ey,l,eH⟩ | ⟨kvs,k,b,e,ey,eb,l,eH⟩
 ·subst ey eH
  obtain ⟨z,hd,vs,rel,dd⟩:=dk_of I.hok e
  have hz:vs.length≤sizeLine:=by rw [←rel.length];exact z
  have hl:(putK kvs k v).length≤sizeLine:=by have:=length_putK kvs k v;omega
  refine wpAny_setItem_pairs (hsz:=hz) (kV_is ry) dd fun h' dd' hs=>h _ ?_
  have he:∃ q,h'.get? a=some q:=let ⟨q,_,_,hq,_⟩:=dd';⟨q,hq⟩
  exact d_write I (by rw [e];exact True.intro) hs he (dk_new hl hd (rel.put k rv) dd')
 ·subst ey eH
  cases (show u=Value.ref b from ry)
  obtain ⟨z,hd,xs,rel,dd⟩:=dt_of I.hok e
  have hz:xs.length≤sizeLine:=by rw [←Paired.length rel];exact z
  have hl:(putK kvs k v).length≤sizeLine:=by have:=length_putK kvs k v;omega
  refine wpAny_setItem_heap (hsz:=hz) (tupleKind_room_in1 hu) (key_of I.hok eb) dd fun h' dd' hs=>h _ ?_
  obtain ⟨q,es,ep,hq,h2,h3,h4,_,h5⟩:=dd'
  refine d_write I (by rw [e];exact True.intro) hs ⟨q,hq⟩ ⟨hl,hd,_,(rel.put k eb rv).keeps fun c ys ec=>?_,q,es,ep,hq,h2,h3,h4,h5⟩
  rw [upd_ne (ne_of ec e (fun z=>nomatch z))]
  exact ec
end
section
variable {X:Cx} {pins:List (Addr×Obj)} {σ:St} {H:Hp} {s:Shared} {a:Addr} {kvs:List (Key×V)} {k:Key} {u:Value} {A:Around} {E:Value→Shared→Prop}
end
noncomputable def NoSl (i:Expr):Prop:=∀ ov iv,subscripted i false ov iv=operate [ov,iv] (getItem ov iv)
theorem subD_of {prog:Program} {w:World} {A:Around} {E:Value→Shared→Prop} {s:Shared} {env:Env} {value slice:Expr} {pos:Pos} {T id:String} {Q:Value→Shared→Prop}
  (hl:typeLookup (.type T) "__getitem__"=pure (some (.builtin id))) (hs:NoSl slice)
  (h:wpAny (model prog w) A (eval value env) (fun o s₁=>wpAny (model prog w) A (eval slice env) (fun i s₂=>s₂.TypeIs o T∧wpAny (model prog w) A (getItem o i) Q E s₂) E s₁) E s):
  wpAny (model prog w) A (eval (.Subscript value slice pos) env) Q E s:=by
 refine Subscript_ (wpAny_mono h (fun o s₁ h₁=>wpAny_mono h₁ (fun i s₂ h₂=>?_) fun _ _ x=>x) fun _ _ x=>x)
 obtain ⟨hT,h₂⟩:=h₂
 unfold subscriptTail
 refine wpAny_bind ?_
 rw [getitemInPython_of_ne hT.not_modules]
 refine wpAny_bind (wpAny_specialOf hT hl ?_)
 have fin:wpAny (model prog w) A (subscripted slice false o i) (fun r s₃=>wpAny (model prog w) A (letTemporaryGo value o r >>=fun _=>pure r) Q E s₃) E s₂:=by
  rw [hs o i]
  exact wpAny_operating (wpAny_mono h₂ (fun r s₃ h₃=>wpAny_bind (wpAny_letTemporaryGo (wpAny_pure h₃))) fun _ _ x=>x)
 first
  | exact wpAny_pure (wpAny_bind fin)
  | exact wpAny_bind (wpAny_pure (wpAny_bind fin))
  | exact wpAny_bind fin
theorem dict_typeIs {X:Cx} {pins:List (Addr×Obj)} {σ:St} {H:Hp} {s:Shared} {a:Addr} {y:V} {o:Option V} (I:Inv X pins σ H s) (g:DGet H a y o):s.TypeIs (.ref a) "dict":=by
 rcases g with ⟨kvs,k,e,_,_⟩ | ⟨kvs,k,b,e,_,_,_⟩
 ·obtain ⟨_,_,vs,_,dd⟩:=dk_rd I.hok e
  exact dd.typeIs
 ·obtain ⟨_,_,xs,_,dd⟩:=dt_rd I.hok e
  exact dd.typeIs
noncomputable def tDGet (td ty:TE):TE:=fun σ H Q=>td σ H fun x H1=>ty σ H1 fun y H2=>∃ a v,x=.ref a∧DGet H2 a y (some v)∧Q v H2
noncomputable def sDPut (td ty tv:TE):TS:=fun D σ H=>tv σ H fun v H1=>td σ H1 fun x H2=>ty σ H2 fun y H3=>∃ a H4,x=.ref a∧DPut H3 a y v H4∧D.nx σ H4
section
variable {X:Cx} {o i e value:Expr} {pos pos' tpos:Pos} {td ty tv:TE}
theorem pe_dget (hu:X.A.units + 1 < cLine) (ho:PE X o td) (hi:PE X i ty) (hs:NoSl i):PE X (.Subscript o i pos) (tDGet td ty):=by
 intro pins s σ H Q I h
 refine subD_of PySem.F.slot_dict_getitem.lookup hs (thn (ho pins s σ H _ I h) fun u s1 ⟨x,H1,I1,rx,q1⟩=>thn (hi pins s1 σ H1 _ I1 q1) fun iv s2 ⟨y,H2,I2,ry,a,v,ex,g,q2⟩=>?_)
 subst ex
 obtain rfl:u=Value.ref a:=rx
 exact ⟨dict_typeIs I2 g,d_getItem hu I2 g ry fun w' s3 I3 rw'=>⟨v,H2,I3,rw',q2⟩⟩
theorem ps_dput (hu:X.A.units + 1 < cLine) (ho:PE X o td) (hi:PE X i ty) (hv:PE X value tv) (hs:swapsWith value (some (.Subscript o i pos')) pos.line X.env=pure false):
  PS X (.Assign [.Subscript o i pos'] value pos) (sDPut td ty tv):=by
 intro pins s σ H D I h
 refine wpAny_Assign_Subscript (thn (hv pins s σ H _ I h) fun r s1 ⟨v,H1,I1,rv,q1⟩=>thn (ho pins s1 σ H1 _ I1 q1) fun u s2 ⟨x,H2,I2,rx,q2⟩=>thn (hi pins s2 σ H2 _ I2 q2) fun iv s3 ⟨y,H3,I3,ry,a,H4,ex,g,q3⟩=>?_) hs
 subst ex
 obtain rfl:u=Value.ref a:=rx
 exact d_setItem hu I3 g ry rv fun s4 I4=>⟨σ,H4,I4,q3⟩
end
theorem dk_empty {P:Program} {w:World} {H:Hp} (h:Heap) (hb:sysModules < h.objs.size):ObjOk P w H (h.push { cls:=.type "dict",data:=.dict #[] }) h.objs.size (.dK []):=
 ⟨Nat.zero_le _,beq_eq_false_iff_ne.mpr (Ne.symm (Nat.ne_of_lt hb)),[],.nil,Heap.DictOf.new h⟩
noncomputable def tDNewK:TE:=fun _ H Q=>∀ p,H p=none→Q (.ref p) (upd H p (.dK []))
section
variable {X:Cx} {pos:Pos}
theorem pe_dnewK:PE X (.Dict [] [] pos) tDNewK:=fun pins s σ H Q I h=>
 wpAny_Dict_empty ⟨.ref s.heap.objs.size,_,I.laid (a:=s.heap.objs.size) (o:=.dK []) (t':=s.toks) (fun _ _ q=>Heap.get?_push_of_some _ q) (Nat.le_refl _) (dk_empty s.heap I.big),rfl,h _ (I.hok.fresh (Nat.le_refl _))⟩
end
structure M1 (X:Cx) (o:Expr) (m:Str) (apos:Pos) (e:Expr) (cpos:Pos):Prop where
 base:attributeBase o m X.env (eval o X.env)=eval o X.env
 few:((backTo cpos (starEach [e] X.env)).all (fun x=> !x.1)&&(backToKw cpos (keywordEach [] X.env)).all (fun x=>x.1.isSome)
  &&decide (([e]:List Expr).length + ([]:List Keyword).length + (if ([]:List Keyword).isEmpty then 0 else 1) < 30))=true
 line:(apos.endLine==cpos.line)=true
 trees:backTo cpos (starEach [e] X.env)=[(false,eval e X.env)]
structure M2 (X:Cx) (o:Expr) (m:Str) (apos:Pos) (e f:Expr) (cpos:Pos):Prop where
 base:attributeBase o m X.env (eval o X.env)=eval o X.env
 few:((backTo cpos (starEach [e,f] X.env)).all (fun x=> !x.1)&&(backToKw cpos (keywordEach [] X.env)).all (fun x=>x.1.isSome)
  &&decide (([e,f]:List Expr).length + ([]:List Keyword).length + (if ([]:List Keyword).isEmpty then 0 else 1) < 30))=true
 line:(apos.endLine==cpos.line)=true
 trees:backTo cpos (starEach [e,f] X.env)=[(false,eval e X.env),(false,eval f X.env)]
noncomputable def IsD (H:Hp) (a:Addr):Prop:=(∃ kvs,Rd H a (.dK kvs))∨∃ kvs,Rd H a (.dT kvs)
theorem isD_at {X:Cx} {pins:List (Addr×Obj)} {σ:St} {H:Hp} {s:Shared} {a:Addr} (I:Inv X pins σ H s) (d:IsD H a):
  s.TypeIs (.ref a) "dict"∧(∀ b,Value.ref a=.ref b→∃ ob,s.heap.get? b=some ob∧ob.dict=none)∧(a==sysModules)=false:=by
 rcases d with ⟨kvs,e⟩ | ⟨kvs,e⟩
 ·obtain ⟨_,hd,vs,_,dd⟩:=dk_rd I.hok e
  refine ⟨dd.typeIs,fun b q=>?_,hd⟩
  cases q
  obtain ⟨ob,_,_,h1,h2,_⟩:=dd
  exact ⟨ob,h1,h2.2.1⟩
 ·obtain ⟨_,hd,xs,_,dd⟩:=dt_rd I.hok e
  refine ⟨dd.typeIs,fun b q=>?_,hd⟩
  cases q
  obtain ⟨ob,_,_,h1,h2,_⟩:=dd
  exact ⟨ob,h1,h2.2.1⟩
section
variable {X:Cx} {pins:List (Addr×Obj)} {σ:St} {H:Hp} {s:Shared} {a:Addr} {y d:V} {u r:Value} {o:Option V} {A:Around} {E:Value→Shared→Prop}
end
section
variable {X:Cx} {o e f:Expr} {apos cpos:Pos} {td ty tx:TE}
end
section
variable {X:Cx} {pins:List (Addr×Obj)} {σ:St} {H:Hp} {s:Shared} {a:Addr} {kvs:List (Key×V)} {A:Around} {E:Value→Shared→Prop}
end
section
variable {X:Cx} {pins:List (Addr×Obj)} {σ:St} {H:Hp} {s:Shared} {a:Addr} {y:V} {u:Value} {A:Around} {E:Value→Shared→Prop}
end
end L2
namespace L2
open PySem PySem.Spec PyProof.Rows
section
variable {X:Cx}
end
section
variable {K:PySem.W.Frag} {σ:St} {H:Hp} {Q:VK}
theorem rd_dget {td ty:TE} (h:td σ H fun x H1=>ty σ H1 fun y H2=>∃ a v,x=.ref a∧DGet H2 a y (some v)∧Q v H2):tDGet td ty σ H Q:=h
theorem rd_dput {td ty tv:TE} {D:Ends} (h:tv σ H fun v H1=>td σ H1 fun x H2=>ty σ H2 fun y H3=>∃ a H4,x=.ref a∧DPut H3 a y v H4∧D.nx σ H4):sDPut td ty tv D σ H:=h
end
end L2
namespace L2
open PySem PyProof.Rows
noncomputable def RcLt (A:Around) (s:Shared) (u v:Value) (r:Bool):Prop:=∀ (prog:Program) (w:World) (E Q:Value→Shared→Prop),Q (.bool r) s→wpAny (model prog w) A (richCompare .Lt u v) Q E s
inductive LtAt (A:Around) (s:Shared):List Value→List Value→Bool→Prop
 | nn:LtAt A s [] [] false
 | nc {v vs}:LtAt A s [] (v::vs) true
 | cn {u us}:LtAt A s (u::us) [] false
 | eq {u v us vs r}:SeqAt.EqAt A s u v true→LtAt A s us vs r→LtAt A s (u::us) (v::vs) r
 | ne {u v us vs r}:SeqAt.EqAt A s u v false→RcLt A s u v r→LtAt A s (u::us) (v::vs) r
section
open PySem.SeqAt
open PySem.AutoSeq1 (wpAny_loadPart')
open PySem.MeetsSeq PySem.MeetsSeq2 PySem.MeetsSeq3
end
end L2
namespace L2
open PySem PySem.Spec PyProof.Rows
noncomputable abbrev Cx.in1 (X:Cx):Cx:={ X with A:=X.A.in1 }
section
variable {X:Cx} {pins:List (Addr×Obj)} {σ:St} {H:Hp} {s:Shared}
theorem Cx.Ok.in1 (ok:X.Ok):X.in1.Ok:=⟨ok.mod,ok.kind,ok.glob,ok.blt,ok.above,ok.inj,ok.has,ok.cab,ok.hd,ok.frames,ok.stk,ok.exf,ok.bs,ok.bsz,ok.noex,ok.exfs,ok.funs,ok.frf⟩
theorem Cx.Ok.out1 (ok:X.in1.Ok):X.Ok:=⟨ok.mod,ok.kind,ok.glob,ok.blt,ok.above,ok.inj,ok.has,ok.cab,ok.hd,ok.frames,ok.stk,ok.exf,ok.bs,ok.bsz,ok.noex,ok.exfs,ok.funs,ok.frf⟩
theorem Inv.in1 (I:Inv X pins σ H s):Inv X.in1 pins σ H s:=⟨I.ok.in1,I.os,I.bare,I.base,I.loc,I.cell,I.free,I.freeC,I.pin,I.hok,I.len⟩
theorem Inv.out1 (I:Inv X.in1 pins σ H s):Inv X pins σ H s:=⟨I.ok.out1,I.os,I.bare,I.base,I.loc,I.cell,I.free,I.freeC,I.pin,I.hok,I.len⟩
end
section
variable {X:Cx} {pins:List (Addr×Obj)} {σ:St} {H:Hp} {s:Shared} {qual:Str} {sc:Scope} {M:List Str} {q:Addr} {cd:Value}
end
end L2
namespace L2
open PySem PySem.Spec PyProof.Rows
structure TabB (base:Heap) (mg:Str→Option Value) (c P:Addr):Prop where
 hd:PySem.W.CodeHd base c P
 bl:base.BuiltinsAt mg P
section
variable {X:Cx} {pins:List (Addr×Obj)} {σ:St} {H:Hp} {s:Shared}
theorem Inv.pinNew {H0:Hp} (I:Inv X pins σ H0 s) {q:Addr} {o:Obj} {h':Heap} {t':Nat} (I':Inv X pins σ H { s with heap:=h',toks:=t' }) (hq:h'.get? q=some o) (hs:s.heap.objs.size≤q) (hn:H q=none) (hd:∀ v,o.data≠.cell v):Inv X ((q,o)::pins) σ H { s with heap:=h',toks:=t' }:=
 ⟨I'.ok,I'.os,I'.bare,I'.base,I'.loc,I'.cell,I'.free,I'.freeC,fun p hp=>by
  rcases List.mem_append.mp hp with z | z
  ·exact I'.pin p (List.mem_append_left _ z)
  ·rcases List.mem_cons.mp z with rfl | z
   ·exact ⟨hq,hn,Nat.ne_of_gt (Nat.lt_of_lt_of_le I.lt hs),I.nofs hs,hd⟩
   ·exact I'.pin p (List.mem_append_right _ z),I'.hok,I'.len⟩
end
end L2
namespace L2
open PySem PySem.Spec PyProof.Rows
structure Ow (X:Cx) (pins:List (Addr×Obj)) (a:Addr):Prop where
 loc:a≠X.env.locals
 fs:a∉X.fs
 new:a∈X.ex∨X.s₀.heap.objs.size≤a
 cel:∀ x c,X.env.cells.lookup x=some c→c≠a
 pin:∀ p∈X.pn++pins,p.1≠a
section
variable {X:Cx} {pins p1 p2:List (Addr×Obj)} {σ:St} {H:Hp} {s:Shared}
theorem Inv.ow (I:Inv X pins σ H s) {a:Addr} (h:s.heap.objs.size≤a):Ow X pins a where
 loc:=Nat.ne_of_gt (Nat.lt_of_lt_of_le I.lt h)
 fs:=I.nofs h
 new:=.inr (Nat.le_trans I.sz h)
 cel:=fun x c e z=>by
  obtain ⟨v,o,ho,_⟩:=I.cell x c e
  exact absurd (Heap.lt_size ho) (by rw [z];exact Nat.not_lt.mpr h)
 pin:=fun p hp z=>absurd (Heap.lt_size (I.pin p hp).1) (by rw [z];exact Nat.not_lt.mpr h)
theorem Ow.sub {a:Addr} {pl:List (Addr×Obj)} (o:Ow X pins a) (h:∀ p∈pl,p∈pins∨p.1≠a):Ow X pl a:=
 ⟨o.loc,o.fs,o.new,o.cel,fun p hp=>by
  rcases List.mem_append.mp hp with z | z
  ·exact o.pin p (List.mem_append_left _ z)
  ·rcases h p z with y | y
   ·exact o.pin p (List.mem_append_right _ y)
   ·exact y⟩
theorem Inv.repin {a:Addr} {o o':Obj} {h':Heap} {t':Nat} (I:Inv X (p1++(a,o)::p2) σ H s) (ow:Ow X (p1++p2) a) (k:∀ b u,b≠a→s.heap.get? b=some u→h'.get? b=some u) (e:h'.get? a=some o') (hd:∀ v,o'.data≠.cell v):
  Inv X (p1++(a,o')::p2) σ H { s with heap:=h',toks:=t' }:=by
 have me:=I.pin (a,o) (List.mem_append_right _ (List.mem_append_right _ List.mem_cons_self))
 have I1:Inv X (p1++p2) σ H s:=I.pins_of fun p hp=>I.pin p (List.mem_append_right _ (by
  rcases List.mem_append.mp hp with z | z
  ·exact List.mem_append_left _ z
  ·exact List.mem_append_right _ (List.mem_cons_of_mem _ z)))
 have I2:=I1.turned (h':=h') (t':=t') k me.2.1 ow.loc ow.new ow.cel ow.pin
 refine ⟨I2.ok,I2.os,I2.bare,I2.base,I2.loc,I2.cell,I2.free,I2.freeC,fun p hp=>?_,I2.hok,I2.len⟩
 rcases List.mem_append.mp hp with z | z
 ·exact I2.pin p (List.mem_append_left _ z)
 ·rcases List.mem_append.mp z with z | z
  ·exact I2.pin p (List.mem_append_right _ (List.mem_append_left _ z))
  ·rcases List.mem_cons.mp z with rfl | z
   ·exact ⟨e,me.2.1,ow.loc,ow.fs,hd⟩
   ·exact I2.pin p (List.mem_append_right _ (List.mem_append_right _ z))
structure MinW (K:PySem.W.Frag) (σ:St) (l:Addr) (xs:List V) (lt:R2) (te:TE) (f:V→St) (G:Hp→Prop) (W:Nat→Nat→V→Hp→Prop) (Q:VK):Prop where
 lst:∀ j b k H,W j b k H→H l=some (.lst xs)∧G H
 turn:∀ j b k H x,W j b k H→xs[j]? =some x→te (f x) H fun k' H'=>lt k' k H' fun z H''=>∃ c,z=.bl c∧if c=true then W (j + 1) j k' H'' else W (j + 1) b k H''
 fin:∀ b k H x,W xs.length b k H→xs[b]? =some x→Q x H
end
end L2
namespace L2
open PySem PySem.Spec PyProof.Rows
structure TabK (K:PySem.W.Frag) (base:Heap) (mg:Str→Option Value) (x:Str) (c P:Addr):Prop where
 kin:K.In base
 ns:base.Ns mainGlobals mg
 tab:PySem.W.tabIn K x=some (c,P)
 b:TabB base mg c P
end L2
namespace L2
open PySem PySem.Spec PyProof.Rows
section
variable {X:Cx} {pins:List (Addr×Obj)} {σ:St} {H:Hp} {s:Shared}
end
end L2
namespace L2
open PySem PySem.Spec PyProof.Rows
section
open PySem.AutoSeq1 (wpAny_loadPart')
variable {prog:Program} {w:World} {A:Around} {E:Value→Shared→Prop} {s:Shared}
end
section
variable {H:Hp} {K:PySem.W.Frag}
end
end L2
namespace L2
open PySem PySem.Spec PyProof.Rows
theorem lk {z x:Str} {c0 c:Addr} {cl:List (Str×Addr)} (h:((z,c0)::cl).lookup x=some c):(x=z∧c=c0)∨(x≠z∧cl.lookup x=some c):=by
 rw [lookup_consP] at h
 by_cases e:(x==z)=true
 ·rw [if_pos e] at h;cases h;exact .inl ⟨by simpa using e,rfl⟩
 ·rw [if_neg e] at h;exact .inr ⟨by simpa using e,h⟩
noncomputable def FrOk2 (env:Env) (z:Str):List (Str×NameKind)→Prop
 | []=>True
 | (n,k)::r=>(match k with | .free=>(env.kindOf n=some .cell∨env.kindOf n=some .free)∧n≠z | .cell=>n=z | _=>True)∧FrOk2 env z r
theorem FrOk2.free {env:Env} {z:Str}:∀ {ns:List (Str×NameKind)} {n:Str},FrOk2 env z ns→(n,NameKind.free)∈ns→(env.kindOf n=some .cell∨env.kindOf n=some .free)∧n≠z
 | [],_,_,h=>by cases h
 | (m,k)::r,n,f,h=>by
  obtain ⟨a,b⟩:=f
  rcases List.mem_cons.mp h with e | e
  ·cases e;exact a
  ·exact b.free e
section
variable {M:Model} {A:Around} {E:Value→Shared→Prop} {s:Shared}
end
section
variable {X:Cx} {pins:List (Addr×Obj)} {σ:St} {H:Hp} {s:Shared} {sc:Scope} {z:Str} {M:List Str} {C:Addr} {fp:List Addr}
end
section
variable {X:Cx} {pins:List (Addr×Obj)} {σ:St} {sc:Scope} {z:Str} {M:List Str} {fm:List (Option Nat)} {tg iter elt:Expr} {ifs:List Expr} {pos:Pos} {g:TG} {tt:TT} {te:TE}
end
section
variable {X:Cx} {sc:Scope} {M:List Str} {fm:List (Option Nat)} {tg iter elt:Expr} {ifs:List Expr} {pos:Pos} {g:TG} {tt:TT} {te:TE} {wi:TI}
end
end L2
namespace L2
open PySem PyProof.Rows
section
open PySem.SeqAt
open PySem.AutoSeq1 (wpAny_loadPart')
open PySem.MeetsSeq PySem.MeetsSeq2 PySem.MeetsSeq3
end
section
variable {X:Cx}
end
end L2
namespace L2
open PySem PyProof.Rows
section
variable {X:Cx}
noncomputable def rIndexD:V→List V→Hp→VK→Prop:=fun x vs H Q=>∃ (l:Addr) (y:V) (zs:List V) (ds:List PyData) (d:PyData) (j:Nat),x=.ref l∧vs=[y]∧H l=some (.lst zs)∧IsAll H zs ds∧Is H y d∧okD d∧okDs ds∧(∃ e,ds[j]? =some e∧PyData.eqv e d=true)∧(∀ m e,m < j→ds[m]? =some e→PyData.eqv e d=false)∧Q (.int (j:Nat)) H
theorem mt_indexD (hu:X.A.units + 64 < cLine):MtM X "list.index" rIndexD:=by
 intro pins s σ H x vs v us Q I rx rv h
 obtain ⟨l,y,zs,ds,d,j,rfl,rfl,hH,hz,hy,od,ods,hj,hno,q⟩:=h
 cases (show v=Value.ref l from rx)
 obtain ⟨u,rfl,ru⟩:=rv.one
 obtain ⟨z,its,n,r,hl,e⟩:=I.lstM hH
 obtain ⟨as,ra⟩:=hz.reads I r
 obtain ⟨bs,rb⟩:=hy.reads I ru
 obtain ⟨e0,hj,hq⟩:=hj
 have hm:=SeqAt.readsAll_map ds its as ods.1 ra
 have hlen:its.length=ds.length:=by rw [←hm,List.length_map]
 have hlt:j < its.length:=by rw [hlen];exact (List.getElem?_eq_some_iff.mp hj).1
 have hat:∀ m (h:m < its.length),ds[m]? =some (SeqAt.readOf s.heap its[m]):=fun m h=>by
  rw [←hm,List.getElem?_map,List.getElem?_eq_getElem h]
  rfl
 have zz:zs.length≤sizeLine:=by simpa using z
 have hzl:zs.length=its.length:=r.length
 have hsm:(j:Int) < 2 ^ 63 - 1:=by
  have:sizeLine < 2 ^ 62:=by decide
  omega
 refine call_meets F.slot_list_index ⟨_,e,rfl⟩ F.entry_list_index (F.args_list_index_2 _ _) (SeqAt.list_indexAt l _ n none #[] u (fun y=>PyData.eqv (SeqAt.readOf s.heap y) d) j (by simpa using hlt) hsm ?_ (fun m hm' hmj=>?_)) ⟨e,?_,?_⟩
 ·have h1:=hat j hlt
  rw [hj] at h1
  injection h1 with h1
  simp only [List.getElem_toArray]
  rw [←h1]
  exact hq
 ·have hm2:m < its.length:=by simpa using hm'
  simp only [List.getElem_toArray]
  exact hno m _ hmj (hat m hm2)
 ·refine SeqAt.items_eqAt (by simpa using ra) rb ods.1 od.1 ?_
  have:=od.2
  have:=Nat.min_le_right (PyData.depthAll ds) d.depth
  omega
 ·exact ⟨.int _,H,I.tok _,⟨_,rfl⟩,q⟩
end
theorem rd_indexD {H:Hp} {Q:VK} {l:Addr} {y:V} {zs:List V} {ds:List PyData} {d e:PyData} {j:Nat} (hH:H l=some (.lst zs)) (hz:IsAll H zs ds) (hy:Is H y d) (od:okD d) (ods:okDs ds) (hj:ds[j]? =some e) (hq:PyData.eqv e d=true) (hno:∀ m e,m < j→ds[m]? =some e→PyData.eqv e d=false) (h:Q (.int (j:Nat)) H):rIndexD (.ref l) [y] H Q:=⟨l,y,zs,ds,d,j,rfl,rfl,hH,hz,hy,od,ods,⟨e,hj,hq⟩,hno,h⟩
section
variable {X:Cx}
open PySem.AutoSeq1 (wpAny_loadPart')
end
end L2
namespace L2
open PySem PySem.Spec PyProof.Rows
section
variable {P:Program} {w:World} {A:Around} {E:Value→Shared→Prop} {s:Shared}
theorem max_tup {l:Addr} {us:List Value} {ns:List Int} {Q:Value→Shared→Prop} (hh:A.handled=none) (ht:s.heap.IsTuple l us.toArray) (hi:IntsAre us ns) (ne:0 < ns.length)
  (q:∀ g M (t:Tok) tk,(∀ b o,s.heap.get? b=some o→g.get? b=some o)→M∈ns→(∀ a∈ns,a≤M)→Q (.int M t) { s with heap:=g,toks:=tk }):wpAny (model P w) A (call (.builtin "max") [.ref l]) Q E s:=by
 obtain ⟨zs,e⟩:=hi.allInts.items
 have en:ns=zs.toList.map (·.1):=by rw [←hi.numsOf,←nums_intItems,←e]
 have zz:0 < zs.size:=by rw [en,List.length_map,Array.length_toList] at ne;exact ne
 rw [e] at ht
 have lt:l < s.heap.objs.size:=by obtain ⟨_,eo,_⟩:=ht;exact Heap.lt_size eo
 refine call_max_walk (wpAny_pyIter_tuple ht ?_)
 refine ⟨_,_,_,_,_,_,_,rfl,Walks.tuple (A:=A.in1) hh _ l (Nat.ne_of_lt lt) (intItems zs),⟨⟨_,Heap.get?_push_size _ rfl,rfl,rfl⟩,ht.push _⟩,fun b hb=>?_,by simpa [intItems] using zz,CmpOf.ints_gt (numAt zs) (fun _ _=>intItems_at),fun v g tk hP hk=>?_⟩
 ·show b < (s.heap.push _).objs.size
  rw [Heap.size_push]
  simp only [List.mem_cons,List.not_mem_nil,or_false] at hb
  rcases hb with rfl | rfl
  ·exact Nat.lt_succ_self _
  ·exact Nat.lt_succ_of_lt lt
 ·obtain ⟨t,rfl⟩:=intItems_at hP
  obtain ⟨k1,k2⟩:=argBest_gt (numAt zs) (zs.size - 1)
  have e2:(intItems zs).size=zs.size:=by simp [intItems]
  rw [e2]
  refine q g _ t tk (fun b o eb=>hk b o (fun hm=>?_) (Heap.get?_push_of_some _ eb)) ?_ fun a ha=>?_
  ·rcases List.mem_singleton.mp hm with z
   exact absurd (z▸Heap.lt_size eb) (Nat.lt_irrefl _)
  ·rw [en,numAt_eq]
   exact getD_mem (by rw [List.length_map,Array.length_toList];omega)
  ·rw [en] at ha
   obtain ⟨j,hj,rfl⟩:=mem_getD ha
   rw [List.length_map,Array.length_toList] at hj
   rw [←numAt_eq]
   exact k2 j (by omega)
end
section
variable {X:Cx}
noncomputable def rMaxT (K:PySem.W.Frag):List V→Hp→VK→Prop:=fun xs H Q=>∃ (p:Addr) (ns:List Int),xs=[.ref p]∧SqT K H p (ns.map V.int)∧0 < ns.length∧∀ M,M∈ns→(∀ a∈ns,a≤M)→Q (.int M) H
theorem call_maxT (hc:X.calm=true):CallR X (.builtin "max") (rMaxT X.K):=by
 intro pins s σ H xs us Q I r h
 obtain ⟨p,ns,rfl,hq,ne,q⟩:=h
 obtain ⟨u,rfl,rx⟩:=Vals.one r
 cases (show u=Value.ref p from rx)
 obtain ⟨its,rv,pl,hz⟩:=I.tuple hq
 exact max_tup (I.ok.hd hc) (show s.heap.IsTuple p its.toArray from pl) (intsAre_of rv) ne fun g M t tk hk hM hA=>⟨.int M,H,I.kept (t':=tk) hk,⟨t,rfl⟩,q M hM hA⟩
theorem k_maxT (K:PySem.W.Frag) (hc:X.calm=true:=by rfl) (h:X.K=K:=by rfl):CallR X (.builtin "max") (rMaxT K):=h▸call_maxT hc
end
section
variable {K:PySem.W.Frag} {σ:St} {H:Hp} {Q:VK}
theorem rd_maxT {p:Addr} {ns:List Int} (e:H p=some (.tup (ns.map V.int))) (ne:0 < ns.length) (h:∀ M,M∈ns→(∀ a∈ns,a≤M)→Q (.int M) H):rMaxT K [.ref p] H Q:=⟨p,ns,rfl,SqT.of e,ne,h⟩
end
end L2
namespace L2
open PySem PySem.Spec PyProof.Rows
section
open PySem.F
variable {prog:Program} {w:World} {A:Around} {E:Value→Shared→Prop} {s:Shared}
end
section
variable {X:Cx}
end
end L2
namespace L2
open PySem PySem.Spec PyProof.Rows
structure ZipD (z TI TO i1 i2:Addr):Prop where
 TIz:TI≠z
 TOz:TO≠z
 i1z:i1≠z
 i2z:i2≠z
 TITO:TI≠TO
 TIi1:TI≠i1
 TIi2:TI≠i2
 TOi1:TO≠i1
 TOi2:TO≠i2
 i12:i1≠i2
section
variable {H:Hp} {K:PySem.W.Frag}
end
end L2
namespace L2
open PySem PySem.Spec PyProof.Rows
section
variable {X:Cx}
end
end L2
namespace L2
open PySem PySem.Spec PyProof.Rows
section
variable {X:Cx} {pins p1 p2:List (Addr×Obj)} {σ:St} {H:Hp} {s:Shared}
end
end L2
namespace L2
open PySem PySem.Spec PyProof.Rows
structure BestW (l:Addr) (xs:List V) (lt:R2) (te:V→Hp→VK→Prop) (W:Nat→Nat→V→Hp→Prop) (Q:VK):Prop where
 lst:∀ j b k H,W j b k H→H l=some (.lst xs)
 turn:∀ j b k H x,W j b k H→xs[j]? =some x→te x H fun k' H'=>lt k' k H' fun z H''=>∃ c,z=.bl c∧if c=true then W (j + 1) j k' H'' else W (j + 1) b k H''
 fin:∀ b k H x,W xs.length b k H→xs[b]? =some x→Q x H
noncomputable def dO:Obj:=seqObj "list" #[] 0
section
variable {X:Cx} {pins p1 p2:List (Addr×Obj)} {σ:St} {H:Hp} {s:Shared}
theorem maxV_loop {l S It:Addr} {xs:List V} {lt:R2} {te:V→Hp→VK→Prop} {W:Nat→Nat→V→Hp→Prop} {Q:VK} {kw:List (Str×Value)} {R:Result→Shared→Prop} (hh:X.A.handled=none)
  (M:BestW l xs lt te W Q) (hlt:OpR X.in1.nox (compareOp .Gt) lt) (hte:∀ x H Q,te x H Q→Q x H) (oS:Ow X.in1 ((It,dO)::pins) S) (oI:Ow X.in1 ((S,dO)::pins) It)
  (hR:∀ (v:V) (u:Value) (H:Hp) (s:Shared),Inv X pins σ H s→RelV v u→Q v H→R (.ok (.ret u)) s):
  ∀ (r j b:Nat) (H:Hp) (s:Shared) (xb k:V) (vb kb:Value) (c:Nat) (ob:Obj),xs.length - j=r→j≤xs.length→Inv X.in1 ((S,seqObj "list" #[vb,kb] c)::(It,ob)::pins) σ H s→s.heap.IsListIter It l j→xs[b]? =some xb→RelV xb vb→RelV k kb→W j b k H→
   codeAny (model X.prog X.w) X.A (.builtin "max.loop" ⟨[.ref It,.none,.ref S],kw⟩) R s:=by
 have hname:(toString "max"++toString ".loop":String)="max.loop":=by decide
 have hSI:S≠It:=fun z=>oS.pin (It,dO) (List.mem_append_right _ List.mem_cons_self) z.symm
 have ofS:∀ {d:Obj},Ow X.in1 ((It,d)::pins) S:=⟨oS.loc,oS.fs,oS.new,oS.cel,fun p hp=>by
  rcases List.mem_append.mp hp with z | z
  ·exact oS.pin p (List.mem_append_left _ z)
  ·rcases List.mem_cons.mp z with rfl | z
   ·exact Ne.symm hSI
   ·exact oS.pin p (List.mem_append_right _ (List.mem_cons_of_mem _ z))⟩
 have ofI:∀ {d:Obj},Ow X.in1 ((S,d)::pins) It:=⟨oI.loc,oI.fs,oI.new,oI.cel,fun p hp=>by
  rcases List.mem_append.mp hp with z | z
  ·exact oI.pin p (List.mem_append_left _ z)
  ·rcases List.mem_cons.mp z with rfl | z
   ·exact hSI
   ·exact oI.pin p (List.mem_append_right _ (List.mem_cons_of_mem _ z))⟩
 have ofS0:Ow X.in1 pins S:=⟨oS.loc,oS.fs,oS.new,oS.cel,fun p hp=>by
  rcases List.mem_append.mp hp with z | z
  ·exact oS.pin p (List.mem_append_left _ z)
  ·exact oS.pin p (List.mem_append_right _ (List.mem_cons_of_mem _ z))⟩
 intro r
 induction r with
 | zero=>
  intro j b H s xb k vb kb c ob hr hj I hit hxb rb rk w
  have hin:j=xs.length:=by omega
  subst hin
  have hl:=M.lst _ _ _ _ w
  obtain ⟨its,rv,pl,_⟩:=I.list (SqL.of hl)
  have lenI:its.length=xs.length:=rv.length.symm
  have hlI:l≠It:=fun z=>by
   have:=(I.pin (It,ob) (List.mem_append_right _ (List.mem_cons_of_mem _ List.mem_cons_self))).2.1
   rw [←z,hl] at this;cases this
  have Wk:=Walks.list (prog:=X.prog) (w:=X.w) (A:=X.A.in1) hh It l hlI its.toArray
  have nS:=(I.pin (S,seqObj "list" #[vb,kb] c) (List.mem_append_right _ List.mem_cons_self)).1
  refine codeAny_builtin PySem.F.entry_max_loop ?_
  rw [Around.under_plainId PySem.F.plain_max_loop _]
  show wpAny _ X.A.in1 (seqItems? (.ref S) >>=_) _ _ _
  refine wpAny_bind (wpAny_seqItems nS rfl ?_)
  show wpAny _ X.A.in1 (tryCatch (pyNext (.ref It)) _ >>=_) _ _ _
  refine wpAny_bind (wpAny_tryCatch (Wk.done _ _ _ ⟨by rw [List.size_toArray,lenI];exact hit,pl.isList⟩ fun h' tk' hk'=>?_))
  have hk:∀ b u,b≠It→s.heap.get? b=some u→h'.get? b=some u:=fun b u hb e=>hk' b u (by simpa using hb) e
  have I1:Inv X.in1 ((S,seqObj "list" #[vb,kb] c)::pins) σ H s:=I.pins_of fun p hp=>I.pin p (List.mem_append_right _ (by
   rcases List.mem_cons.mp hp with rfl | z
   ·exact List.mem_cons_self
   ·exact List.mem_cons_of_mem _ (List.mem_cons_of_mem _ z)))
  have oI':=ofI (d:=seqObj "list" #[vb,kb] c)
  have I2:=I1.turned (h':=h') (t':=tk') hk (I.pin (It,ob) (List.mem_append_right _ (List.mem_cons_of_mem _ List.mem_cons_self))).2.1 oI'.loc oI'.new oI'.cel oI'.pin
  have hS':=hk S _ hSI nS
  have s1:=Heap.SameBut.update h' S (Obj.mapSeq fun _=>(#[]:Array Value))
  show wpAny _ X.A.in1 (updateSeq S (fun _=>#[]) >>=_) _ _ _
  refine wpAny_bind ?_
  refine wpAny_updateSeq hS' rfl (wpAny_bind (wpAny_letGo (wpAny_pure ?_)))
  have I3:Inv X.in1 pins σ H { s with heap:=h',toks:=tk' }:=I2.pins_of fun p hp=>I2.pin p (List.mem_append_right _ (List.mem_cons_of_mem _ hp))
  have hSn:=(I2.pin (S,seqObj "list" #[vb,kb] c) (List.mem_append_right _ List.mem_cons_self)).2.1
  have I4:=I3.turned (h':=h'.update S (Obj.mapSeq fun _=>(#[]:Array Value))) (t':=tk') (fun b u hb e=>s1.extBut b u hb e) hSn ofS0.loc ofS0.new ofS0.cel ofS0.pin
  exact hR xb vb H _ I4.out1 rb (M.fin b k H xb w hxb)
 | succ r ih=>
  intro j b H s xb k vb kb c ob hr hj I hit hxb rb rk w
  have hlt':j < xs.length:=by omega
  have hl:=M.lst _ _ _ _ w
  obtain ⟨its,rv,pl,_⟩:=I.list (SqL.of hl)
  have lenI:its.length=xs.length:=rv.length.symm
  have hlI:l≠It:=fun z=>by
   have:=(I.pin (It,ob) (List.mem_append_right _ (List.mem_cons_of_mem _ List.mem_cons_self))).2.1
   rw [←z,hl] at this;cases this
  have Wk:=Walks.list (prog:=X.prog) (w:=X.w) (A:=X.A.in1) hh It l hlI its.toArray
  have nS:=(I.pin (S,seqObj "list" #[vb,kb] c) (List.mem_append_right _ List.mem_cons_self)).1
  refine codeAny_builtin PySem.F.entry_max_loop ?_
  rw [Around.under_plainId PySem.F.plain_max_loop _]
  show wpAny _ X.A.in1 (seqItems? (.ref S) >>=_) _ _ _
  refine wpAny_bind (wpAny_seqItems nS rfl ?_)
  show wpAny _ X.A.in1 (tryCatch (pyNext (.ref It)) _ >>=_) _ _ _
  refine wpAny_bind (wpAny_tryCatch (Wk.item j _ _ _ (by rw [List.size_toArray,lenI];exact hlt') ⟨hit,pl.isList⟩ fun v h' tk' hP hst' hk'=>?_))
  have hv:its[j]? =some v:=by simpa using hP
  obtain ⟨x,hx⟩:∃ x,xs[j]? =some x:=⟨_,List.getElem?_eq_getElem hlt'⟩
  have rx:RelV x v:=by
   obtain ⟨u,hu,ru⟩:=rv.get hx
   rw [hv] at hu;cases hu;exact ru
  obtain ⟨oI',hoI',hoc,hod⟩:=id hst'.1
  have hk:∀ b u,b≠It→s.heap.get? b=some u→h'.get? b=some u:=fun b u hb e=>hk' b u (by simpa using hb) e
  have I1:Inv X.in1 ((S,seqObj "list" #[vb,kb] c)::(It,oI')::pins) σ H { s with heap:=h',toks:=tk' }:=
   Inv.repin (p1:=[(S,seqObj "list" #[vb,kb] c)]) I ofI hk hoI' (fun v z=>by rw [hod] at z;cases z)
  have mt:=M.turn j b k H x w hx
  refine wpAny_bind (wpAny_pure ?_)
  have q2:=hte _ _ _ mt
  have I2:=I1
  show wpAny _ X.A.in1 (tryCatch (holding [v,v] (richCompare .Gt v kb >>=_)) _ >>=_) _ _ _
  refine wpAny_bind (wpAny_tryCatch (wpAny_holding (wpAny_bind (wpAny_mono (hlt _ ({ s with heap:=h',toks:=tk' }:Shared) σ H x k v kb _ (I2.wish _) rx rk q2) (fun u3 s3 ⟨z,H3,I3w,r3,cc,ez,q3⟩=>?_) fun e s' hF=>(show False from hF).elim))))
  have I3:=I3w.unwish
  subst ez
  obtain rfl:u3=Value.bool cc:=r3
  refine wpAny_bind (wpAny_holding (wpAny_truthy_bool ?_))
  refine wpAny_bind (wpAny_letGo (wpAny_pure ?_))
  have nS3:=(I3.pin (S,seqObj "list" #[vb,kb] c) (List.mem_append_right _ List.mem_cons_self)).1
  have nI3:=(I3.pin (It,oI') (List.mem_append_right _ (List.mem_cons_of_mem _ List.mem_cons_self))).1
  have hit3:s3.heap.IsListIter It l (j + 1):=⟨oI',nI3,hoc,hod⟩
  cases cc with
  | true=>
   have s1:=Heap.SameBut.update s3.heap S (Obj.mapSeq fun _=>#[v,v])
   obtain ⟨c2,hc2⟩:∃ c2,(s3.heap.update S (Obj.mapSeq fun _=>#[v,v])).get? S=some (seqObj "list" #[v,v] c2):=⟨_,get?_update_seq nS3 fun _=>#[v,v]⟩
   simp only [if_true]
   refine wpAny_bind ?_
   refine wpAny_updateSeq nS3 rfl (wpAny_bind (wpAny_letGo ?_))
   rw [hname]
   rw [if_pos rfl] at q3
   have I4:Inv X.in1 ((S,seqObj "list" #[v,v] c2)::(It,oI')::pins) σ H3 { s3 with heap:=s3.heap.update S (Obj.mapSeq fun _=>#[v,v]),toks:=s3.toks }:=
    Inv.repin (p1:=[]) I3 ofS (fun b u hb e=>s1.extBut b u hb e) hc2 (fun v z=>by cases z)
   exact wpAny_pure ⟨plainId_quiet PySem.F.plain_max_loop _,ih (j + 1) j H3 _ x x v v c2 oI' (by omega) hlt' I4 ⟨oI',(s1.2 It (Ne.symm hSI)).trans nI3,hoc,hod⟩ hx rx rx q3⟩
  | false=>
   simp only [Bool.false_eq_true,if_false]
   refine wpAny_bind (wpAny_letGo ?_)
   rw [hname]
   rw [if_neg Bool.false_ne_true] at q3
   exact wpAny_pure ⟨plainId_quiet PySem.F.plain_max_loop _,ih (j + 1) b H3 _ xb k vb kb c oI' (by omega) hlt' I3 hit3 hxb rb rk q3⟩
theorem maxV_first {l:Addr} {xs:List V} {lt:R2} {te:V→Hp→VK→Prop} {W:Nat→Nat→V→Hp→Prop} {Q:VK} {kw:List (Str×Value)} {x0:V} (hh:X.A.handled=none)
  (M:BestW l xs lt te W Q) (hlt:OpR X.in1.nox (compareOp .Gt) lt) (hte:∀ x H Q,te x H Q→Q x H) (I2:Inv X pins σ H s) (hl2:H l=some (.lst xs)) (hx0:xs[0]? =some x0) (w0:te x0 H fun k H3=>W 1 0 k H3):
  wpAny (model X.prog X.w) X.A.in1 (do let it ←pyIter (.ref l);again (.builtin "max.loop" ⟨[it,.none,←newList []],kw⟩)) (fun fin s'=>match fin with
   | .done f=>(match (Except.ok f:Result) with | .ok (.ret v)=>EP X pins σ Q v s' | .ok _=>False | .error e=>X.xe e s')
   | .again c'=>c'.quiet=true∧codeAny (model X.prog X.w) X.A c' (fun r s'=>match r with | .ok (.ret v)=>EP X pins σ Q v s' | .ok _=>False | .error e=>X.xe e s') s') X.xe s:=by
 have hname:(toString "max"++toString ".loop":String)="max.loop":=by decide
 have I2':=I2.in1
 obtain ⟨its,rv,pl,_⟩:=I2'.list (SqL.of hl2)
 have lenI:its.length=xs.length:=rv.length.symm
 refine wpAny_bind (wpAny_pyIter_list pl.isList ?_)
 refine wpAny_bind (wpAny_newList ?_ (Nat.zero_le _))
 refine wpAny_pure ⟨plainId_quiet PySem.F.plain_max_loop _,?_⟩
 have gI:(s.heap.push { cls:=.type "list_iterator",data:=.fields #[.ref l,.int 0 0] }).get? s.heap.objs.size=some { cls:=.type "list_iterator",data:=.fields #[.ref l,.int 0 0] }:=Heap.get?_push_size _ rfl
 have I3:Inv X.in1 ((s.heap.objs.size,{ cls:=.type "list_iterator",data:=.fields #[.ref l,.int 0 0] })::pins) σ H { s with heap:=s.heap.push { cls:=.type "list_iterator",data:=.fields #[.ref l,.int 0 0] },toks:=s.toks }:=
  I2'.pinNew (I2'.kept (t':=s.toks) fun b o e=>Heap.get?_push_of_some _ e) gI (Nat.le_refl _) (I2'.hok.fresh (Nat.le_refl _)) fun v z=>by cases z
 have oI0:Ow X.in1 pins s.heap.objs.size:=I2'.ow (Nat.le_refl _)
 generalize hh3:s.heap.push { cls:=.type "list_iterator",data:=.fields #[.ref l,.int 0 0] }=h3 at I3 gI ⊢
 have I4:Inv X.in1 ((h3.objs.size,seqObj "list" #[] 0)::(s.heap.objs.size,{ cls:=.type "list_iterator",data:=.fields #[.ref l,.int 0 0] })::pins) σ H { s with heap:=h3.push (seqObj "list" #[] 0),toks:=s.toks }:=
  I3.pinNew (I3.kept (t':=s.toks) fun b o e=>Heap.get?_push_of_some _ e) (Heap.get?_push_size _ rfl) (Nat.le_refl _) (I3.hok.fresh (Nat.le_refl _)) fun v z=>by cases z
 have oS0:Ow X.in1 ((s.heap.objs.size,{ cls:=.type "list_iterator",data:=.fields #[.ref l,.int 0 0] })::pins) h3.objs.size:=I3.ow (Nat.le_refl _)
 have gS:(h3.push (seqObj "list" #[] 0)).get? h3.objs.size=some (seqObj "list" #[] 0):=Heap.get?_push_size _ rfl
 have gI2:(h3.push (seqObj "list" #[] 0)).get? s.heap.objs.size=some { cls:=.type "list_iterator",data:=.fields #[.ref l,.int 0 0] }:=Heap.get?_push_of_some _ gI
 have hSI:h3.objs.size≠s.heap.objs.size:=fun z=>oS0.pin _ (List.mem_append_right _ List.mem_cons_self) z.symm
 have pl4:(h3.push (seqObj "list" #[] 0)).IsList l its.toArray:=by
  obtain ⟨o,e,r⟩:=pl.isList
  exact ⟨o,Heap.get?_push_of_some _ (by rw [←hh3];exact Heap.get?_push_of_some _ e),r⟩
 have hlI:l≠s.heap.objs.size:=fun z=>by
  have:=I2'.hok.fresh (a:=s.heap.objs.size) (Nat.le_refl _)
  rw [←z,hl2] at this;cases this
 generalize h3.objs.size=S at *
 generalize s.heap.objs.size=It at *
 generalize h3.push (seqObj "list" #[] 0)=h4 at *
 have ofS:∀ {d:Obj},Ow X.in1 ((It,d)::pins) S:=⟨oS0.loc,oS0.fs,oS0.new,oS0.cel,fun p hp=>by
  rcases List.mem_append.mp hp with z | z
  ·exact oS0.pin p (List.mem_append_left _ z)
  ·rcases List.mem_cons.mp z with rfl | z
   ·exact Ne.symm hSI
   ·exact oS0.pin p (List.mem_append_right _ (List.mem_cons_of_mem _ z))⟩
 have ofI:∀ {d:Obj},Ow X.in1 ((S,d)::pins) It:=⟨oI0.loc,oI0.fs,oI0.new,oI0.cel,fun p hp=>by
  rcases List.mem_append.mp hp with z | z
  ·exact oI0.pin p (List.mem_append_left _ z)
  ·rcases List.mem_cons.mp z with rfl | z
   ·exact hSI
   ·exact oI0.pin p (List.mem_append_right _ z)⟩
 have Wk:=Walks.list (prog:=X.prog) (w:=X.w) (A:=X.A.in1) hh It l hlI its.toArray
 have hpos:0 < xs.length:=(List.getElem?_eq_some_iff.mp hx0).1
 refine codeAny_builtin PySem.F.entry_max_loop ?_
 rw [Around.under_plainId PySem.F.plain_max_loop _]
 show wpAny _ X.A.in1 (seqItems? (.ref S) >>=_) _ _ _
 refine wpAny_bind (wpAny_seqItems gS rfl ?_)
 show wpAny _ X.A.in1 (tryCatch (pyNext (.ref It)) _ >>=_) _ _ _
 refine wpAny_bind (wpAny_tryCatch (Wk.item 0 _ _ _ (by rw [List.size_toArray,lenI];exact hpos) ⟨⟨_,gI2,rfl,rfl⟩,pl4⟩ fun v h' tk' hP hst' hk'=>?_))
 have hv:its[0]? =some v:=by simpa using hP
 have rx:RelV x0 v:=by
  obtain ⟨u,hu,ru⟩:=rv.get hx0
  rw [hv] at hu;cases hu;exact ru
 obtain ⟨oI',hoI',hoc,hod⟩:=id hst'.1
 have hk2:∀ b u,b≠It→h4.get? b=some u→h'.get? b=some u:=fun b u hb e=>hk' b u (by simpa using hb) e
 have I1:Inv X.in1 ((S,seqObj "list" #[] 0)::(It,oI')::pins) σ H { s with heap:=h',toks:=tk' }:=
  Inv.repin (s:={ s with heap:=h4,toks:=s.toks }) (p1:=[(S,seqObj "list" #[] 0)]) I4 ofI hk2 hoI' (fun v z=>by rw [hod] at z;cases z)
 have mt:=w0
 refine wpAny_bind (wpAny_pure ?_)
 have q2:=hte _ _ _ mt
 have I2:=I1
 have nS3:=(I2.pin (S,seqObj "list" #[] 0) (List.mem_append_right _ List.mem_cons_self)).1
 have nI3:=(I2.pin (It,oI') (List.mem_append_right _ (List.mem_cons_of_mem _ List.mem_cons_self))).1
 have s1':=Heap.SameBut.update h' S (Obj.mapSeq fun _=>#[v,v])
 obtain ⟨c2,hc2⟩:∃ c2,(h'.update S (Obj.mapSeq fun _=>#[v,v])).get? S=some (seqObj "list" #[v,v] c2):=⟨_,get?_update_seq nS3 fun _=>#[v,v]⟩
 show wpAny _ X.A.in1 (updateSeq S (fun _=>#[v,v]) >>=_) _ _ _
 refine wpAny_bind ?_
 refine wpAny_updateSeq nS3 rfl ?_
 rw [hname]
 have I7:Inv X.in1 ((S,seqObj "list" #[v,v] c2)::(It,oI')::pins) σ H { s with heap:=h'.update S (Obj.mapSeq fun _=>#[v,v]),toks:=tk' }:=
  Inv.repin (s:=({ s with heap:=h',toks:=tk' }:Shared)) (p1:=[]) I2 ofS (fun b u hb e=>s1'.extBut b u hb e) hc2 (fun v z=>by cases z)
 exact wpAny_pure ⟨plainId_quiet PySem.F.plain_max_loop _,maxV_loop (pins:=pins) (Q:=Q) hh M hlt hte ofS ofI (fun v u H s J r hq=>⟨v,H,J,r,hq⟩) _ 1 0 H _ x0 x0 v v c2 oI' rfl hpos I7 ⟨oI',(s1'.2 It (Ne.symm hSI)).trans nI3,hoc,hod⟩ hx0 rx rx q2⟩
end
section
variable {X:Cx}
noncomputable def tMaxD (tl:TA) (td:TE):TE:=fun σ H Q=>tl σ H fun vs H1=>td σ H1 fun d H2=>∃ l ns,vs=[.ref l]∧H2 l=some (.lst (ns.map V.int))∧(ns=[]→Q d H2)∧∀ M:Int,M∈ns→(∀ a∈ns,a≤M)→Q (.int M) H2
theorem max_def (a v:Value):argsOk "max" ⟨[a],[(Str.ofString "default",v)]⟩:=by unfold argsOk;kernel_rfl
theorem best_ints {l:Addr} {ns:List Int} {H:Hp} {Q:VK} (hl:H l=some (.lst (ns.map V.int))) (q:∀ M:Int,M∈ns→(∀ a∈ns,a≤M)→Q (.int M) H):
  BestW l (ns.map V.int) (rI0 fun i j=>.bl (decide (j < i))) (fun x H Q=>Q x H) (fun j b k H'=>H'=H∧∃ B:Int,ns[b]? =some B∧k=.int B∧∀ i (z:Int),i < j→ns[i]? =some z→z≤B) Q where
 lst:=fun j b k H' w=>w.1▸hl
 turn:=fun j b k H' x w hx=>by
  obtain ⟨rfl,B,hb,rfl,hB⟩:=w
  rw [List.getElem?_map] at hx
  cases hz:ns[j]? with
  | none=>rw [hz] at hx;cases hx
  | some z=>
   rw [hz] at hx
   cases hx
   refine ⟨z,B,rfl,rfl,_,rfl,?_⟩
   by_cases g:B < z
   ·rw [if_pos (decide_eq_true g)]
    refine ⟨rfl,z,by first | exact hz | rfl,rfl,fun i y hi hy=>?_⟩
    by_cases e:i=j
    ·subst e;rw [hz] at hy;cases hy;exact Int.le_refl _
    ·have:=hB i y (by omega) hy;omega
   ·rw [if_neg (by simpa using g)]
    refine ⟨rfl,B,hb,rfl,fun i y hi hy=>?_⟩
    by_cases e:i=j
    ·subst e;rw [hz] at hy;cases hy;omega
    ·exact hB i y (by omega) hy
 fin:=fun b k H' x w hx=>by
  obtain ⟨rfl,B,hb,rfl,hB⟩:=w
  rw [List.getElem?_map,hb] at hx
  cases hx
  refine q B (List.mem_of_getElem? hb) fun a ha=>?_
  obtain ⟨i,hi,e⟩:=List.mem_iff_getElem.mp ha
  exact hB i a (by rw [List.length_map];exact hi) (by rw [List.getElem?_eq_getElem hi,e])
theorem pe_maxD {e de:Expr} {p pos kpos:Pos} {tl:TA} {td:TE} (hc:X.calm=true) (hg:Gl X "max") (hm:X.mg "max"=none) (hl:PA X [e] tl) (hd:PE X de td) (he:starEach [e] X.env=[(false,eval e X.env)]:=by rfl):
  PE X (.Call (.Name "max" p) [e] [⟨some "default",de,kpos⟩] pos) (tMaxD tl td):=by
 intro pins s σ H Q I h
 have hname:(toString "max"++toString ".loop":String)="max.loop":=by decide
 refine wpAny_Call_Name_kw (ld_blt I hg hm (show bootBuiltins "max"=some (.builtin "max") by first | rfl | exact bt_max) ?_ (by decide) (by decide))
 refine callWith_kw ?_ (by rw [he];rfl) (by rw [he];rfl) rfl rfl
 refine thn (hl pos pins s σ H _ I h) fun us s1 ⟨vs,H1,I1,r1,q1⟩=>?_
 show wpAny _ _ (evalAll [(do let v ←eval de X.env;standAt pos;pure v)]) _ _ s1
 refine wpAny_evalAll_cons (wpAny_bind (thn (hd pins s1 σ H1 _ I1 q1) fun dv s2 ⟨d,H2,I2,rd,l,ns,ex,hl2,q0,q⟩=>?_))
 subst ex
 obtain ⟨u,rfl,rx1⟩:=Vals.one r1
 obtain rfl:u=Value.ref l:=rx1
 refine wpAny_bind (wpAny_standAt (wpAny_pure (wpAny_evalAll_nil ?_)))
 show wpAny _ _ (call (.builtin "max") [.ref l] [(Str.ofString "default",dv)]) _ _ s2
 refine kmk_tree PySem.F.kind_max PySem.F.plain_max PySem.F.entry_max (max_def _ _) ?_
 show wpAny _ X.A.in1 (Builtin.Builtins.bindParams "max" ["key","default"] 0 ⟨[],[(Str.ofString "default",dv)]⟩ >>=_) _ _ s2
 refine wpAny_bind (wpAny_of_eq (show Builtin.Builtins.bindParams "max" ["key","default"] 0 ⟨[],[(Str.ofString "default",dv)]⟩=pure [none,some dv] from rfl) ?_)
 refine wpAny_bind (wpAny_pure ?_)
 rw [hname]
 cases hns:ns with
 | cons n0 ns'=>
  refine maxV_first (kw:=[(Str.ofString "default",dv)]) (I2.ok.hd hc) (best_ints hl2 q) op_gt (fun _ _ _ h=>h) I2 hl2 (x0:=.int n0) (by rw [hns];rfl) ⟨rfl,n0,by rw [hns];rfl,rfl,fun i z hi hz=>?_⟩
  have:i=0:=by omega
  subst this
  rw [hns] at hz
  cases hz
  exact Int.le_refl _
 | nil=>
  rw [hns] at hl2
  have I2':=I2.in1
  have hh:X.A.handled=none:=I2.ok.hd hc
  obtain ⟨its,rv,pl,_⟩:=I2'.list (SqL.of hl2)
  have e0:its.toArray.size=0:=by rw [List.size_toArray];exact rv.length.symm
  refine wpAny_bind (wpAny_pyIter_list pl.isList ?_)
  refine wpAny_bind (wpAny_newList ?_ (Nat.zero_le _))
  refine wpAny_pure ⟨plainId_quiet PySem.F.plain_max_loop _,?_⟩
  have ltl:l < s2.heap.objs.size:=by obtain ⟨o,e,_⟩:=pl.isList;exact Heap.lt_size e
  have gI:((s2.heap.push { cls:=.type "list_iterator",data:=.fields #[.ref l,.int 0 0] }).push (seqObj "list" #[] 0)).get? s2.heap.objs.size=some { cls:=.type "list_iterator",data:=.fields #[.ref l,.int 0 0] }:=Heap.get?_push_of_some _ (Heap.get?_push_size _ rfl)
  have gS:((s2.heap.push { cls:=.type "list_iterator",data:=.fields #[.ref l,.int 0 0] }).push (seqObj "list" #[] 0)).get? (s2.heap.push { cls:=.type "list_iterator",data:=.fields #[.ref l,.int 0 0] }).objs.size=some (seqObj "list" #[] 0):=Heap.get?_push_size _ rfl
  have up:∀ b o,s2.heap.get? b=some o→((s2.heap.push { cls:=.type "list_iterator",data:=.fields #[.ref l,.int 0 0] }).push (seqObj "list" #[] 0)).get? b=some o:=fun b o e=>Heap.get?_push_of_some _ (Heap.get?_push_of_some _ e)
  have pl4:((s2.heap.push { cls:=.type "list_iterator",data:=.fields #[.ref l,.int 0 0] }).push (seqObj "list" #[] 0)).IsList l its.toArray:=by
   obtain ⟨o,e,r⟩:=pl.isList
   exact ⟨o,up _ _ e,r⟩
  refine codeAny_builtin PySem.F.entry_max_loop ?_
  rw [Around.under_plainId PySem.F.plain_max_loop _]
  show wpAny _ X.A.in1 (seqItems? (.ref (s2.heap.push { cls:=.type "list_iterator",data:=.fields #[.ref l,.int 0 0] }).objs.size) >>=_) _ _ _
  refine wpAny_bind (wpAny_seqItems gS rfl ?_)
  have Wk:=Walks.list (prog:=X.prog) (w:=X.w) (A:=X.A.in1) hh s2.heap.objs.size l (Nat.ne_of_lt ltl) its.toArray
  show wpAny _ X.A.in1 (tryCatch (pyNext (.ref s2.heap.objs.size)) _ >>=_) _ _ _
  refine wpAny_bind (wpAny_tryCatch (Wk.done _ _ _ ⟨by rw [e0];exact ⟨_,gI,rfl,rfl⟩,pl4⟩ fun h' tk' hk'=>?_))
  refine wpAny_bind (wpAny_rule (wpAny_pure ?_))
  refine ⟨d,H2,I2.kept (t':=tk') fun b o e=>hk' b o ?_ (up b o e),rd,q0 hns⟩
  intro hm
  rcases List.mem_singleton.mp hm with z
  exact absurd (Heap.lt_size e) (by rw [z];exact Nat.lt_irrefl _)
theorem k_maxD {e de:Expr} {p pos kpos:Pos} {tl:TA} {td:TE} (hg:Gl X "max") (hm:X.mg "max"=none) (hl:PA X [e] tl) (hd:PE X de td) (hc:X.calm=true:=by rfl) (he:starEach [e] X.env=[(false,eval e X.env)]:=by rfl):
  PE X (.Call (.Name "max" p) [e] [⟨some "default",de,kpos⟩] pos) (tMaxD tl td):=pe_maxD hc hg hm hl hd he
section
variable {σ:St} {H:Hp} {Q:VK} {K:PySem.W.Frag}
theorem rd_maxD {tl:TA} {td:TE} (h:tl σ H fun vs H1=>td σ H1 fun d H2=>∃ l ns,vs=[.ref l]∧H2 l=some (.lst (ns.map V.int))∧(ns=[]→Q d H2)∧∀ M:Int,M∈ns→(∀ a∈ns,a≤M)→Q (.int M) H2):tMaxD tl td σ H Q:=h
end
end
end L2
namespace L2
open PySem PySem.Spec PyProof.Rows
noncomputable def UpT (t:SetTable):Prop:=t.place.toList.Pairwise (· < ·)∧t.dummies=#[]
structure Bel (xs:Array Nat) (j k:Nat):Prop where
 le:k≤xs.size
 lo:∀ i,i < k→xs.getD i j < j
 hi:∀ i,k≤i→i < xs.size→j≤xs.getD i j
theorem up_at {xs:Array Nat} (h:xs.toList.Pairwise (· < ·)) {i k j:Nat} (hik:i < k) (hk:k < xs.size):xs.getD i j < xs.getD k j:=by
 have:=List.pairwise_iff_getElem.mp h i k (by simpa using Nat.lt_trans hik hk) (by simpa using hk) hik
 have e1:xs.getD i j=xs[i]'(Nat.lt_trans hik hk):=by simp [Array.getD,Nat.lt_trans hik hk]
 have e2:xs.getD k j=xs[k]'hk:=by simp [Array.getD,hk]
 rw [e1,e2]
 simpa using this
theorem below_go {xs:Array Nat} (h:xs.toList.Pairwise (· < ·)) (j:Nat):∀ (f lo hi:Nat),hi - lo≤f→lo≤hi→hi≤xs.size→(∀ i,i < lo→xs.getD i j < j)→(∀ i,hi≤i→i < xs.size→j≤xs.getD i j)→Bel xs j (SetTable.below.go xs j f lo hi)
 | 0,lo,hi,hf,h1,h2,h3,h4=>by
  have:lo=hi:=by omega
  subst this
  exact ⟨h2,h3,h4⟩
 | f + 1,lo,hi,hf,h1,h2,h3,h4=>by
  unfold SetTable.below.go
  by_cases g:lo < hi
  ·rw [if_pos g]
   dsimp only
   have hm:(lo + hi) / 2 < hi:=by omega
   have hm2:lo≤(lo + hi) / 2:=by omega
   split
   ·rename_i g2
    refine below_go h j f _ _ (by omega) (by omega) h2 (fun i hi'=>?_) h4
    by_cases e:i=(lo + hi) / 2
    ·rw [e];exact g2
    ·exact Nat.lt_trans (up_at h (show i < (lo + hi) / 2 by omega) (by omega)) g2
   ·rename_i g2
    refine below_go h j f _ _ (by omega) (by omega) (by omega) h3 (fun i hi' hi2=>?_)
    by_cases e:i=(lo + hi) / 2
    ·rw [e];omega
    ·have:=up_at (j:=j) h (show (lo + hi) / 2 < i by omega) hi2
     omega
  ·rw [if_neg g]
   have:lo=hi:=by omega
   subst this
   exact ⟨h2,h3,h4⟩
theorem below_is {xs:Array Nat} (h:xs.toList.Pairwise (· < ·)) (j:Nat):Bel xs j (SetTable.below xs j):=
 below_go h j xs.size 0 xs.size (by omega) (Nat.zero_le _) (Nat.le_refl _) (fun i z=>by omega) (fun i z1 z2=>by omega)
theorem ins_up {xs:Array Nat} (h:xs.toList.Pairwise (· < ·)) {j:Nat} (hn:xs[SetTable.below xs j]? ≠some j):(SetTable.insertAt xs (SetTable.below xs j) j).toList.Pairwise (· < ·):=by
 have B:=below_is h j
 generalize SetTable.below xs j=k at B hn
 rw [SetTable.toList_insertAt,List.pairwise_append]
 have len:xs.toList.length=xs.size:=Array.length_toList
 refine ⟨h.sublist (List.take_sublist _ _),?_,?_⟩
 ·rw [List.pairwise_cons]
  refine ⟨fun y hy=>?_,h.sublist (List.drop_sublist _ _)⟩
  obtain ⟨i,hi,e⟩:=List.getElem_of_mem hy
  rw [List.length_drop,len] at hi
  rw [List.getElem_drop] at e
  have h1:=B.hi (k + i) (by omega) (by omega)
  have e1:xs.getD (k + i) j=y:=by
   rw [←e]
   simp [Array.getD,show k + i < xs.size by omega]
  rw [e1] at h1
  refine Nat.lt_of_le_of_ne h1 fun z=>?_
  subst z
  by_cases i0:i=0
  ·subst i0
   apply hn
   rw [Array.getElem?_eq_getElem (show k < xs.size by omega)]
   congr 1
  ·have h2:=B.hi k (Nat.le_refl _) (by omega)
   have h3:=up_at (j:=j) h (show k < k + i by omega) (by omega)
   omega
 ·intro a ha b hb
  obtain ⟨i,hi,e⟩:=List.getElem_of_mem ha
  rw [List.length_take,len] at hi
  rw [List.getElem_take] at e
  have h1:=B.lo i (by omega)
  have e1:xs.getD i j=a:=by
   rw [←e]
   simp [Array.getD,show i < xs.size by omega]
  rw [e1] at h1
  rcases List.mem_cons.mp hb with rfl | hb
  ·exact h1
  ·obtain ⟨i2,hi2,e2⟩:=List.getElem_of_mem hb
   rw [List.length_drop,len] at hi2
   rw [List.getElem_drop] at e2
   have h2:=B.hi (k + i2) (by omega) (by omega)
   have e3:xs.getD (k + i2) j=b:=by
    rw [←e2]
    simp [Array.getD,show k + i2 < xs.size by omega]
   omega
theorem up_standIn (t:SetTable) (n:Nat):UpT (t.standIn n):=by
 refine ⟨?_,rfl⟩
 show (Array.range n).toList.Pairwise (· < ·)
 rw [Array.toList_range]
 exact List.pairwise_lt_range
theorem up_orStandIn {t:SetTable} (h:UpT t) (n:Nat):UpT (t.orStandIn n):=by
 unfold SetTable.orStandIn
 split
 ·exact h
 ·exact up_standIn t n
theorem probe_go {t:SetTable} (hd:t.dummies=#[]) {f:Nat→Int} {h:Int}:∀ (n:Nat) (p:SetTable.Probe) (j:Nat) (d:Option Nat),p.dummy=none→SetTable.probe.go t f h n p=some (.empty j d)→d=none∧t.slot j=.empty
 | 0,p,j,d,hp,e=>by cases e
 | n + 1,p,j,d,hp,e=>by
  unfold SetTable.probe.go at e
  have nd:t.slot p.j≠.dummy:=by
   unfold SetTable.slot
   dsimp only
   split
   ·exact fun z=>nomatch z
   ·have:SetTable.has t.dummies p.j=false:=by
     unfold SetTable.has
     rw [hd]
     simp
    rw [this]
    exact fun z=>nomatch z
  have ad:(t.advance p).dummy=none:=by
   unfold SetTable.advance
   split
   ·exact hp
   ·exact hp
  split at e
  ·rename_i g
   cases e
   exact ⟨hp,g⟩
  ·rename_i g
   exact absurd g nd
  ·split at e
   ·cases e
   ·exact probe_go hd n _ j d ad e
theorem slot_empty {t:SetTable} {j:Nat} (h:t.slot j=.empty):t.place[SetTable.below t.place j]? ≠some j:=by
 intro z
 unfold SetTable.slot at h
 dsimp only at h
 rw [z] at h
 simp at h
theorem up_layNew {t:SetTable} (u:UpT t) (es:Array (Int×Value)) (h:Int) (x:Value):UpT (layNew t es h x).2.1∧(layNew t es h x).2.1.led=t.led:=by
 unfold layNew
 split
 ·rename_i slot wd e
  dsimp only
  unfold SetTable.freeSlot at e
  split at e
  ·rename_i j d g
   unfold SetTable.probe at g
   obtain ⟨rfl,g2⟩:=probe_go u.2 _ _ j d rfl g
   cases e
   have up:UpT (t.put j).1:=by
    unfold SetTable.put
    refine ⟨ins_up u.1 (slot_empty g2),?_⟩
    dsimp only
    have:SetTable.has t.dummies j=false:=by
     unfold SetTable.has
     rw [u.2]
     simp
    rw [this]
    exact u.2
   refine ⟨up_orStandIn up _,?_⟩
   show (SetTable.orStandIn (t.put j).1 _).led=t.led
   unfold SetTable.orStandIn
   split <;> rfl
  ·cases e
 ·exact ⟨up_standIn t _,rfl⟩
theorem up_relay (t:SetTable) (es:Array (Int×Value)) (n:Nat):UpT (relayAll t es n).2.1∧(relayAll t es n).2.1.led=t.led:=by
 unfold relayAll
 split
 ·rename_i t' order e
  dsimp only
  split
  ·unfold SetTable.relaid SetTable.laid at e
   simp only [Option.bind_eq_bind,Option.bind_eq_some_iff] at e
   obtain ⟨owner,_,e⟩:=e
   cases e
   refine ⟨⟨?_,rfl⟩,rfl⟩
   dsimp only
   have sub:((List.filterMap (fun j=>Option.map (fun x=>(j,x)) (owner.getD j none)) (List.range (SetTable.sizeAbove n - 1 + 1))).map (·.1)).Sublist (List.range (SetTable.sizeAbove n - 1 + 1)):=by
    generalize List.range (SetTable.sizeAbove n - 1 + 1)=l
    induction l with
    | nil=>exact List.Sublist.refl _
    | cons a l ih=>
     rw [List.filterMap_cons]
     cases owner.getD a none with
     | none=>exact ih.cons a
     | some y=>exact ih.cons₂ a
   exact List.pairwise_lt_range.sublist sub
  ·exact ⟨up_standIn t _,rfl⟩
 ·exact ⟨up_standIn t _,rfl⟩
end L2
namespace L2
open PySem PySem.Spec PyProof.Rows
noncomputable def byT (w:World):Bool:=w.params.followText "set-order"
noncomputable def TabU (w:World) (t:SetTable):Prop:=UpT t∧t.led= !byT w
noncomputable def SetU (prog:Program) (w:World) (h:Heap) (a:Addr) (S:Int→Bool) (n:Nat):Prop:=
 ∃ o es ep t,(h.get? a=some o∧o.ExactSet∧o.data=.set es ep t)∧ElemsOf (intKind prog w) es.toList∧(∀ k,S k=true↔∃ e∈es.toList,(intKind prog w).is k e.2=true)∧es.size < scanBound∧t.fits es.size=true∧es.size=n∧TabU w t
section
variable {prog:Program} {w:World} {A:Around} {E:Value→Shared→Prop} {s:Shared}
theorem SetU.of {h h':Heap} {a:Addr} {S:Int→Bool} {n:Nat} (x:SetU prog w h a S n) (k:∀ o,h.get? a=some o→h'.get? a=some o):SetU prog w h' a S n:=by
 obtain ⟨o,es,ep,t,⟨h1,h2,h3⟩,r⟩:=x
 exact ⟨o,es,ep,t,⟨k o h1,h2,h3⟩,r⟩
theorem SetU.congr {h:Heap} {a:Addr} {S S':Int→Bool} {n n':Nat} (x:SetU prog w h a S n) (e:∀ k,S k=S' k) (en:n=n'):SetU prog w h a S' n':=by
 have:S=S':=funext e
 subst this en
 exact x
theorem add_tail {g:Bool→Sem Unit} (hg:∀ (b:Bool) (s₁:Shared) (Q':Unit→Shared→Prop),Q' () s₁→wpAny (model prog w) A (g b) Q' E s₁) {a:Addr} {o:Obj} {es:Array (Int×Value)} {ep:Nat} {t:SetTable} (ho:s.heap.get? a=some o∧o.ExactSet∧o.data=.set es ep t)
  {es1:Array (Int×Value)} {t2:SetTable} {S':Int→Bool} (hel1:ElemsOf (intKind prog w) es1.toList) (hm:∀ k',S' k'=true↔∃ e∈es1.toList,(intKind prog w).is k' e.2=true) (hb1:es1.size < scanBound) (hf2:t2.fits es1.size=true) (hU:TabU w t2) {wd:Bool} {R:Option Bool→Shared→Prop}
  (h:∀ h',Heap.SameBut a s.heap h'→SetU prog w h' a S' es1.size→R (some true) { s with heap:=h' }):
  wpAny (model prog w) A (do
   storeSet a es1 t2
   if (!wd&&t2.tooFull)=true then do
     g (relayAll t2 es1 (SetTable.grown es1.size)).2.2
     storeSet a (relayAll t2 es1 (SetTable.grown es1.size)).1 (relayAll t2 es1 (SetTable.grown es1.size)).2.1
     pure (some true)
    else pure (some true)) R E s:=by
 refine wpAny_bind (wpAny_storeSet_of ho.1 ho.2.2 ?_ (fits_of_scanBound hb1))
 have st:=SetOf_store (knd:=intKind prog w) ho.1 ho.2.1 ho.2.2 hel1 hm hb1 hf2
 have sb:=Heap.SameBut.update s.heap a (Obj.putSet es1 t2)
 by_cases hc:(!wd&&t2.tooFull)=true
 ·rw [if_pos hc]
  have hp:=relayAll_perm t2 es1 (SetTable.grown es1.size)
  have hfr:=relayAll_fits t2 es1 (SetTable.grown es1.size)
  have hur:=up_relay t2 es1 (SetTable.grown es1.size)
  generalize relayAll t2 es1 (SetTable.grown es1.size)=R3 at hp hfr hur ⊢
  obtain ⟨es2,t3,gv⟩:=R3
  dsimp only at hp hfr hur ⊢
  have hz:es2.size=es1.size:=by rw [←Array.length_toList,hp.length_eq,Array.length_toList]
  have hm2:∀ k',S' k'=true↔∃ e∈es2.toList,(intKind prog w).is k' e.2=true:=fun k'=>(hm k').trans ⟨fun ⟨e,he,q⟩=>⟨e,hp.mem_iff.mpr he,q⟩,fun ⟨e,he,q⟩=>⟨e,hp.mem_iff.mp he,q⟩⟩
  have hb2:es2.size < scanBound:=by omega
  refine wpAny_bind (hg _ _ _ ?_)
  refine wpAny_bind (wpAny_storeSet_of st.1 rfl ?_ (fits_of_scanBound hb2))
  have st2:=SetOf_store (knd:=intKind prog w) (es:=es1) (ep:=ep + 1) (t:=t2) st.1 ho.2.1 rfl (hel1.perm hp) hm2 hb2 hfr
  refine wpAny_pure (h _ (sb.trans (Heap.SameBut.update _ a _)) ?_)
  exact ⟨_,es2,_,t3,⟨st2.1,ho.2.1,rfl⟩,hel1.perm hp,hm2,hb2,hfr,hz,hur.1,hur.2.trans hU.2⟩
 ·rw [if_neg hc]
  exact wpAny_pure (h _ sb ⟨_,es1,_,t2,⟨st.1,ho.2.1,rfl⟩,hel1,hm,hb1,hf2,rfl,hU⟩)
theorem gave {b:Bool} {Q':Unit→Shared→Prop} (hq:Q' () s):wpAny (model prog w) A (match b with | true=>rule "set.scan.the-table-gave-way" | false=>pure ()) Q' E s:=by
 cases b
 ·exact wpAny_pure hq
 ·exact wpAny_rule hq
theorem add_int {a:Addr} {S:Int→Bool} {n:Nat} {k:Int} {tk:Tok} {Q:Bool→Shared→Prop} (hS:SetU prog w s.heap a S n) (hr:n + 1 < scanBound)
  (h:∀ h',Heap.SameBut a s.heap h'→SetU prog w h' a (fun k'=>S k'||decide (k'=k)) (if S k then n else n + 1)→Q (!S k) { s with heap:=h' }):
  wpAny (model prog w) A (setAddHashed a (.int k tk) ((intKind prog w).hash k)) Q E s:=by
 obtain ⟨o,es,ep,t,ho,hel,hm,hb,hf,hn,hU⟩:=hS
 have hk:(intKind prog w).is k (.int k tk)=true:=intKind_is _ _ _ _
 have hsc:(Value.int k tk).scannable=true:=rfl
 unfold setAddHashed setAddHashedIn;refine wpAny_holding (wpAny_bind (wpAny_setState_of ho.1 ho.2.2 hf ?_))
 dsimp only;rw [byScan_of hsc hb hel];simp only [↓reduceIte]
 unfold setAddByScan;refine wpAny_bind ?_;refine wpAny_bind (wpAny_rule ?_)
 refine wpAny_bind (wpAny_setScan_of hk ho.1 ho.2.2 hf hel ?_)
 cases hi:List.findIdx? (fun e=>(intKind prog w).is k e.2) es.toList with
 | some j=>
  dsimp only
  obtain ⟨hj,hpj,_⟩:=List.findIdx?_eq_some_iff_getElem.mp hi
  have hSk:S k=true:=(hm k).mpr ⟨es.toList[j],List.getElem_mem hj,hpj⟩
  refine wpAny_pure (wpAny_pure ?_)
  have e:s={ s with heap:=s.heap }:=by cases s;rfl
  have q:=h s.heap (Heap.SameBut.refl a s.heap) ⟨o,es,ep,t,ho,hel,fun k'=>by
   rw [Bool.or_eq_true,decide_eq_true_eq,←hm k']
   exact ⟨fun z=>z.elim id (fun e=>e▸hSk),.inl⟩,hb,hf,by rw [hSk];exact hn,hU⟩
  rw [hSk] at q;rw [e];exact q
 | none=>
  dsimp only
  have hSk:S k=false:=by
   cases z:S k with
   | false=>rfl
   | true=>
    obtain ⟨e,he,hp⟩:=(hm k).mp z
    have:=List.findIdx?_eq_none_iff.mp hi e he
    rw [hp] at this;cases this
  have hp:=layNew_perm t es ((intKind prog w).hash k) (.int k tk)
  have hfit:=layNew_fits t es ((intKind prog w).hash k) (.int k tk)
  have hup:=up_layNew hU.1 es ((intKind prog w).hash k) (.int k tk)
  generalize layNew t es ((intKind prog w).hash k) (.int k tk)=L at hp hfit hup ⊢
  obtain ⟨es1,t1,wd,gv⟩:=L
  dsimp only at hp hfit hup ⊢
  rw [Array.toList_push] at hp
  have hel1:ElemsOf (intKind prog w) es1.toList:=(hel.push hk hsc).perm hp
  have hm1:=mem_push_iff hk hm hp
  have hz1:es1.size=n + 1:=by rw [←Array.length_toList,hp.length_eq,List.length_append,Array.length_toList,hn];rfl
  have hb1:es1.size < scanBound:=by omega
  have hU1:TabU w t1:=⟨hup.1,hup.2.trans hU.2⟩
  have fin:∀ h',Heap.SameBut a s.heap h'→SetU prog w h' a (fun k'=>S k'||decide (k'=k)) es1.size→Q true { s with heap:=h' }:=fun h' sb x=>by
   have:=h h' sb
   rw [hSk] at this
   rw [hz1] at x
   exact this x
  refine wpAny_bind (gave ?_)
  ·split
   ·refine wpAny_bind ?_
    rw [hashByValue_scannable 8 hsc]
    refine wpAny_pure ?_
    refine add_tail (fun b s₁ Q' hq=>by cases b <;> first | exact wpAny_pure hq | exact wpAny_rule hq) ho hel1 hm1 hb1 ?_ ?_ fun h' sb x=>by (dsimp only;exact wpAny_pure (fin h' sb x))
    ·split
     ·exact hfit
     ·exact SetTable.fits_plain_off hfit
    ·split
     ·exact hU1
     ·exact hU1
   ·refine wpAny_bind (wpAny_pure ?_)
    simp only [↓reduceIte]
    exact add_tail (fun b s₁ Q' hq=>by cases b <;> first | exact wpAny_pure hq | exact wpAny_rule hq) ho hel1 hm1 hb1 hfit hU1 fun h' sb x=>by (dsimp only;exact wpAny_pure (fin h' sb x))
end
end L2
namespace L2
open PySem PySem.Spec PyProof.Rows
noncomputable def set0 (w:World):Obj:={ cls:=.type "set",dict:=none,data:=.set #[] 0 (.fresh 0 0 (!byT w)) }
section
variable {prog:Program} {w:World} {A:Around} {E:Value→Shared→Prop} {s:Shared}
theorem new_setU (a:Value) {Q₁:Value→Shared→Prop} (h:Q₁ (.ref s.heap.objs.size) { s with heap:=s.heap.push (set0 w) }):
  codeAny (model prog w) A (.call (.builtin "set.__new__") ⟨[.type "set",a],[]⟩) (wants Q₁ E) s:=by
 refine codeAny_of_tree ?_
 show wpAny _ A.in1 (checkBuiltinCall "set.__new__" ⟨[.type "set",a],[]⟩ >>=fun _=>again (.builtin "set.__new__" ⟨[.type "set",a],[]⟩)) _ _ s
 refine wpAny_bind (wpAny_of_eq (PySem.F.newCall_set_1 a) (wpAny_pure ⟨plainId_quiet PySem.F.plain_set_new _,codeAny_builtin PySem.F.entry_set_new ?_⟩))
 rw [Around.under_plainId PySem.F.plain_set_new _]
 unfold Builtin.«set.__new__» Builtin.Frozenset.newClass
 have hsub:=sub_set_self
 obtain ⟨hp,g,d,tk,os⟩:=s
 dsimp only
 wp_walk
 refine wpAny_askSetting (wpAny_pure ?_)
 dsimp only
 simp only [newObj]
 refine wpAny_bind (wpAny_alloc (wpAny_pure ?_))
 exact wpAny_pure h
theorem setU0 {h:Heap} {a:Addr} (e:h.get? a=some (set0 w)) (val:Nat→Int):SetU prog w h a (fun k=>(firstMet val 0).any (· ==k)) (firstMet val 0).length:=by
 obtain ⟨o,es,ep,t,ho,h1,h2,h3,h4,h5,h6,h7⟩:=((setObjOf_fresh (knd:=intKind prog w) (!byT w)).setOf e (by unfold scanBound;omega))
 rw [e] at ho
 cases ho
 cases h2
 exact ⟨_,_,_,_,⟨e,h1,rfl⟩,h3,h4,h5,h6,h7,⟨List.Pairwise.nil,rfl⟩,rfl⟩
theorem loop_setU {I l S:Addr} {items:Array Value} {ns:List Int} {R:Result→Shared→Prop} (hh:A.in1.handled=none) (hI:IntsAre items.toList ns) (hb:items.size + 1 < scanBound) (hl:l≠I) (hSI:S≠I) (hSl:S≠l):
  ∀ (k i:Nat) (s:Shared),items.size - i=k→i≤items.size→s.heap.IsListIter I l i→s.heap.IsList l items→SetU prog w s.heap S (fun k=>(firstMet (fun i=>ns.getD i 0) i).any (· ==k)) (firstMet (fun i=>ns.getD i 0) i).length→
   (∀ h' tk,(∀ b o,b≠I→b≠S→s.heap.get? b=some o→h'.get? b=some o)→SetU prog w h' S (fun k=>(firstMet (fun i=>ns.getD i 0) items.size).any (· ==k)) (firstMet (fun i=>ns.getD i 0) items.size).length→R (.ok (.ret .none)) { s with heap:=h',toks:=tk })→
   codeAny (model prog w) A (.builtin "set.update.loop" ⟨[.ref S,.ref I],[]⟩) R s:=by
 have W:=Walks.list (prog:=prog) (w:=w) (A:=A.in1) hh I l hl items
 intro k
 induction k with
 | zero=>
  intro i s hk hi hit hls hS hR
  obtain rfl:i=items.size:=by omega
  refine codeAny_builtin PyProof.Rows.F.entry_set_update_loop ?_
  rw [Around.under_plainId PyProof.Rows.F.plain_set_update_loop _]
  show wpAny _ A.in1 (pyNext (.ref I) >>=_) _ _ s
  refine wpAny_bind (W.done s _ _ ⟨hit,hls⟩ fun h' tk hk=>?_)
  show wpAny _ A.in1 (ret Value.none) _ _ _
  exact wpAny_pure (hR h' tk (fun b o h1 _ e=>hk b o (by simpa using h1) e) (hS.of fun o e=>hk S o (by simpa using hSI) e))
 | succ k ih=>
  intro i s hk hi hit hls hS hR
  have hlt:i < items.size:=by omega
  refine codeAny_builtin PyProof.Rows.F.entry_set_update_loop ?_
  rw [Around.under_plainId PyProof.Rows.F.plain_set_update_loop _]
  show wpAny _ A.in1 (pyNext (.ref I) >>=_) _ _ s
  refine wpAny_bind (W.item i s _ _ hlt ⟨hit,hls⟩ fun v h1 tk1 hP hst k1=>?_)
  obtain ⟨t,rfl⟩:=hI.int_at i v (by rw [Array.getElem?_toList];exact hP)
  have hS1:=hS.of fun o e=>k1 S o (by simpa using hSI) e
  show wpAny _ A.in1 (holding [Value.int (ns.getD i 0) t] (setAdd S (.int (ns.getD i 0) t)) >>=_) _ _ _
  refine wpAny_bind (wpAny_holding ?_)
  unfold setAdd
  refine wpAny_holding ?_
  refine wpAny_bind ((intKind prog w).pyHash (k:=ns.getD i 0) (intKind_is _ _ _ _) ?_)
  have hroom:(firstMet (fun i=>ns.getD i 0) i).length + 1 < scanBound:=by have:=firstMet_length_le (fun i=>ns.getD i 0) i;omega
  refine add_int (s:={ s with heap:=h1,toks:=tk1 + 1 }) hS1 hroom fun h2 sb hS2=>?_
  have hS3:SetU prog w h2 S (fun k=>(firstMet (fun i=>ns.getD i 0) (i + 1)).any (· ==k)) (firstMet (fun i=>ns.getD i 0) (i + 1)).length:=
   hS2.congr (fun k'=>by rw [firstMet_succ,step_any]) (by rw [firstMet_succ,step_length])
  refine wpAny_pure ⟨plainId_quiet PyProof.Rows.F.plain_set_update_loop _,ih (i + 1) { s with heap:=h2,toks:=tk1 + 1 } (by omega) hlt (hst.1.at fun o e=>?_) (hst.2.at fun o e=>?_) hS3 fun h' tk k2 hS'=>hR h' tk (fun b o h1 h2 e=>k2 b o h1 h2 ?_) hS'⟩
  ·rw [sb.2 I hSI.symm];exact e
  ·rw [sb.2 l hSl.symm];exact e
  ·show Heap.get? _ b=_
   rw [sb.2 b h2]
   exact k1 b o (by simpa using h1) e
theorem call_setU {l:Addr} {items:Array Value} {ns:List Int} {Q:Value→Shared→Prop} (hh:A.handled=none) (hl:s.heap.IsList l items) (hi:IntsAre items.toList ns) (hb:items.size + 1 < scanBound)
  (h:∀ (h':Heap) (tk:Nat),SetU prog w h' s.heap.objs.size (fun k=>(firstMet (fun i=>ns.getD i 0) items.size).any (· ==k)) (firstMet (fun i=>ns.getD i 0) items.size).length→
   (∀ b o,s.heap.get? b=some o→h'.get? b=some o)→Q (.ref s.heap.objs.size) { s with heap:=h',toks:=tk }):
  wpAny (model prog w) A (call (.type "set") [.ref l]) Q E s:=by
 obtain ⟨c,tl,hmro⟩:=PySem.F.called_set.mro
 have hmade:=PySem.F.called_set.made
 have hsub:=PySem.F.called_set.sub
 have h1:=PySem.F.called_set.notType
 have h2:=PySem.F.called_set.canCreate
 have hct:=PySem.F.typeCall_set_1 (.ref l)
 refine wpAny_call (codeAny_of_tree ?_)
 show wpAny _ _ (callAny (.type "set") _) _ _ _
 refine wpAny_pure ⟨Code.quiet_builtin _ (by decide +kernel),codeAny_builtin PySem.F.entry_type_call ?_⟩
 rw [Around.under_plain (weight_type_call_type "set" [.ref l] []) rfl]
 repeat (any_goals (first | assumption | wp_step))
 refine codeAny_mono (new_setU (.ref l) (E:=E) (Q₁:=fun obj s₁=>obj=.ref s.heap.objs.size∧s₁={ s with heap:=s.heap.push (set0 w) }) ⟨rfl,rfl⟩) fun r s₁ hr=>?_
 rcases r with e | fl
 ·exact hr
 rcases fl with _ | _ | _ | obj
 all_goals first
  | exact hr.elim
  | skip
 obtain ⟨rfl,rfl⟩:=hr
 have hS:(s.heap.push (set0 w)).get? s.heap.objs.size=some (set0 w):=Heap.get?_push_size _ rfl
 have hT:Shared.TypeIs { s with heap:=s.heap.push (set0 w) } (.ref s.heap.objs.size) "set":=⟨_,hS,rfl⟩
 have hli:=PySem.F.called_set.init.lookup
 have hbi:=PySem.F.called_set.init.bind (.ref s.heap.objs.size)
 repeat (any_goals (first | assumption | wp_step))
 refine codeAny_mono (codeAny_call_builtin (R:=wants (fun r s₂=>r=.none∧∃ h' tk,s₂={ s with heap:=h',toks:=tk }∧
   SetU prog w h' s.heap.objs.size (fun k=>(firstMet (fun i=>ns.getD i 0) items.size).any (· ==k)) (firstMet (fun i=>ns.getD i 0) items.size).length∧
   (∀ b o,s.heap.get? b=some o→h'.get? b=some o)) E) PySem.F.called_set.init.plain PySem.F.entry_set_init (check_set_init_1 hT ?_)) fun r₂ s₂ hr₂=>?_
 ·obtain ⟨ol,hol,hcl,nl,hdl⟩:=hl
  obtain ⟨ocls,odict,odata,oslots⟩:=ol
  dsimp only at hcl hdl
  subst hcl hdl
  have hol':(s.heap.push (set0 w)).get? l=some { cls:=.type "list",dict:=odict,data:=.seq items nl,slots:=oslots }:=Heap.get?_push_of_some _ hol
  have hl1:(s.heap.push (set0 w)).IsList l items:=⟨_,hol',rfl,nl,rfl⟩
  have hsls:=PySem.F.sub_list_set
  have hslf:=PySem.F.sub_list_frozenset
  have hne:(Value.type "list"==Value.type "dict")=false:=by decide
  have hlS:l < s.heap.objs.size:=Heap.lt_size hol
  have hS0:(s.heap.push (set0 w)).get? s.heap.objs.size=some { cls:=.type "set",dict:=none,data:=.set #[] 0 (.fresh 0 0 (!byT w)) }:=hS
  have hh3:A.in1.in1.in1.handled=none:=by simp [hh]
  unfold Builtin.«set.__init__» noKeywords Builtin.Frozenset.updateFrom
  generalize hPI:pyIter=PI
  wp_walk
  subst hPI
  refine wpAny_pyIter_list hl1 ?_
  refine wpAny_bind (wpAny_runValue ?_)
  have e1:(s.heap.push (set0 w)).objs.size=s.heap.objs.size + 1:=Heap.size_push _ _
  refine loop_setU (l:=l) (items:=items) (ns:=ns) hh3 hi hb (by rw [e1];exact Nat.ne_of_lt (Nat.lt_succ_of_lt hlS)) (by rw [e1];exact Nat.ne_of_lt (Nat.lt_succ_self _)) (Nat.ne_of_gt hlS) (items.size - 0) 0 _ (by omega) (Nat.zero_le _) ⟨_,Heap.get?_push_size _ rfl,rfl,rfl⟩ (hl1.push _) (setU0 (Heap.get?_push_of_some _ hS) _) fun h' tk k2 hS'=>?_
  show wpAny _ _ _ _ _ _
  refine wpAny_pure ?_
  show wpAny _ _ (ret Value.none) _ _ _
  refine wpAny_pure ⟨rfl,h',tk,rfl,hS',fun b o e=>?_⟩
  have hb:=Heap.lt_size e
  exact k2 b o (by rw [e1];exact Nat.ne_of_lt (Nat.lt_succ_of_lt hb)) (Nat.ne_of_lt hb) (Heap.get?_push_of_some _ (Heap.get?_push_of_some _ e))
 ·rcases r₂ with e | fl
  ·exact hr₂
  rcases fl with _ | _ | _ | r
  all_goals first
   | exact hr₂.elim
   | skip
  obtain ⟨rfl,h',tk,rfl,hS',hk'⟩:=hr₂
  repeat (any_goals (first | assumption | wp_step))
  exact h _ _ hS' hk'
end
end L2
namespace L2
open PySem PySem.Spec PyProof.Rows
theorem slot_sin:Slot "set_iterator" "__next__" "set_iterator.__next__":=
 .of (owner:="set_iterator") (n:="__next__") (by rw [typeLookup_type,builtinLookup_eq_fast];kernel_rfl) (by decide +kernel) (by decide +kernel) (by decide +kernel)
  (by first | exact .inl (by decide +kernel) | exact .inr (by decide +kernel)) (by rw [isSubtype_type];kernel_rfl)
theorem entry_sin:entryFor table "set_iterator.__next__"=some Builtin.«set_iterator.__next__»:=entryFor_of_tree (by kernel_rfl)
theorem args_sin (a:Value):argsOk "set_iterator.__next__" ⟨[a],[]⟩:=by unfold argsOk;kernel_rfl
noncomputable def slotAt (t:SetTable) (i:Nat):Nat:=match i with
 | 0=>0
 | i + 1=>t.place.getD i 0 + 1
theorem below_slot {t:SetTable} (u:UpT t) {i:Nat} (hi:i≤t.place.size):SetTable.below t.place (slotAt t i)=i:=by
 have B:=below_is u.1 (slotAt t i)
 generalize SetTable.below t.place (slotAt t i)=k at B
 have g:∀ m d,m < t.place.size→t.place.getD m d=t.place.getD m 0:=fun m d hm=>by simp [Array.getD,hm]
 cases i with
 | zero=>
  cases k with
  | zero=>rfl
  | succ k=>have:=B.lo 0 (by omega);exact absurd this (Nat.not_lt_zero _)
 | succ i=>
  rcases Nat.lt_trichotomy k (i + 1) with h | h | h
  ·have h1:=B.hi i (by omega) (by omega)
   rw [g _ _ (by omega)] at h1
   show k=i + 1
   have:slotAt t (i + 1)=t.place.getD i 0 + 1:=rfl
   omega
  ·exact h
  ·have h1:=B.lo (i + 1) h
   have hz:i + 1 < t.place.size:=Nat.lt_of_lt_of_le h B.le
   rw [g _ _ hz] at h1
   have h2:=up_at (j:=0) u.1 (show i < i + 1 by omega) hz
   have:slotAt t (i + 1)=t.place.getD i 0 + 1:=rfl
   omega
noncomputable def SAt (h:Heap) (a:Addr) (es:Array (Int×Value)) (ep:Nat) (t:SetTable):Prop:=∃ o,h.get? a=some o∧o.data=.set es ep t
noncomputable def drawnB (es:Array (Int×Value)) (t:SetTable):Bool:= !t.plain&&decide (es.size > 1)
section
variable {prog:Program} {w:World} {A:Around} {E:Value→Shared→Prop} {s:Shared} {a:Addr} {es:Array (Int×Value)} {ep:Nat} {t:SetTable}
theorem by_text {Q:Bool→Shared→Prop} (h:Q (byT w) s):wpAny (model prog w) A setsByText Q E s:=by
 unfold setsByText
 exact wpAny_bind (wpAny_askSetting (wpAny_pure h))
theorem next_txt {slot i:Nat} {Q:Option (Value×Nat)→Shared→Prop} (hS:SAt s.heap a es ep t) (hf:t.fits es.size=true) (hb:byT w=true) (h:Q (((pickOrder (w.params.setOrder a ep) es)[i]?).map fun e=>(e.2,slot)) s):
  wpAny (model prog w) A (setNext a slot i ep) Q E s:=by
 obtain ⟨o,ho,hd⟩:=hS
 unfold setNext
 refine wpAny_bind (wpAny_setState_of ho hd hf ?_)
 dsimp only
 refine wpAny_bind (by_text ?_)
 rw [hb]
 simp only [↓reduceIte,bne_self_eq_false,Bool.false_eq_true]
 unfold setWalk
 refine wpAny_bind (wpAny_bind (wpAny_setState_of ho hd hf ?_))
 dsimp only
 refine wpAny_bind (by_text ?_)
 rw [hb]
 simp only [↓reduceIte]
 exact wpAny_bind (wpAny_askSetting (wpAny_pure (wpAny_pure h)))
theorem next_plc {slot i:Nat} {Q:Option (Value×Nat)→Shared→Prop} (hS:SAt s.heap a es ep t) (hf:t.fits es.size=true) (hb:byT w=false) (hd:drawnB es t=false) (hl:t.led=true)
  (h:Q (match es[SetTable.below t.place slot]?,t.place[SetTable.below t.place slot]? with | some (_,x),some j=>some (x,j + 1) | _,_=>none) s):
  wpAny (model prog w) A (setNext a slot i ep) Q E s:=by
 obtain ⟨o,ho,hdt⟩:=hS
 unfold setNext
 refine wpAny_bind (wpAny_setState_of ho hdt hf ?_)
 dsimp only
 refine wpAny_bind (by_text ?_)
 rw [hb]
 simp only [Bool.false_eq_true,↓reduceIte]
 have e2:¬(drawnB es t=true):=by rw [hd];exact Bool.false_ne_true
 refine wpAny_ite_split (fun z=>absurd z e2) (fun _=>?_)
 refine wpAny_bind (wpAny_of_eq (a:=()) ?_ (wpAny_pure h))
 show (if (!t.led&& !es.isEmpty)=true then (unsupported "set:maker-not-led":Sem Unit) else pure ())=pure ()
 rw [hl]
 rfl
noncomputable def SIt (h:Heap) (I a:Addr) (f:Value) (i n ep:Nat):Prop:=∃ o,h.get? I=some o∧o.cls=.type "set_iterator"∧o.data=.fields #[f,.int i 0,.ref a,.int n 0,.int ep 0]
theorem SIt.ty {I:Addr} {f:Value} {i n:Nat} (h:SIt s.heap I a f i n ep):s.TypeIs (.ref I) "set_iterator":=let ⟨o,ho,hc,_⟩:=h;⟨o,ho,hc⟩
theorem entr {Q:Array (Int×Value)→Shared→Prop} (hS:SAt s.heap a es ep t) (hf:t.fits es.size=true) (h:Q es s):wpAny (model prog w) A (setEntries a) Q E s:=by
 obtain ⟨o,ho,hd⟩:=hS
 unfold setEntries
 exact wpAny_bind (wpAny_setState_of ho hd hf (wpAny_pure h))
theorem nx_item {I:Addr} {slot i n nx:Nat} {x:Value} {Q:Option Value→Shared→Prop} (hit:SIt s.heap I a (.int slot 0) i n ep) (hS:SAt s.heap a es ep t) (hf:t.fits es.size=true) (hn:es.size=n)
  (hN:∀ (A':Around) (E':Value→Shared→Prop) (Q':Option (Value×Nat)→Shared→Prop),Q' (some (x,nx)) s→wpAny (model prog w) A' (setNext a slot i ep) Q' E' s)
  (hQ:∀ h',SIt h' I a (.int nx 0) (i + 1) n ep→Heap.SameBut I s.heap h'→Q (some x) { s with heap:=h' }):
  wpAny (model prog w) A (pyNext (.ref I)) Q E s:=by
 obtain ⟨o,ho,hc,hd⟩:=id hit
 unfold pyNext
 refine wpAny_bind (wpAny_attempt (wpAny_callSpecial?_slot (name:=Str.ofString "__next__") hit.ty slot_sin (wpAny_call_entry slot_sin hit.ty entry_sin ?_ (args_sin _))))
 unfold Builtin.«set_iterator.__next__»
 refine wpAny_bind (wpAny_of_eq (a:=(Value.ref I,([]:List Value))) rfl ?_)
 refine wpAny_bind (wpAny_fieldsOf ho hd ?_)
 dsimp only
 refine wpAny_bind (entr hS hf ?_)
 rw [hn]
 simp only [bne_self_eq_false,Bool.false_eq_true,↓reduceIte,Int.toNat_natCast]
 refine wpAny_bind (hN _ _ _ ?_)
 dsimp only
 refine wpAny_bind (wpAny_setField ho hd (by simp) ?_)
 have ho1:(s.heap.update I (Obj.mapFields (·.setIfInBounds 0 (rawInt nx)))).get? I=some (Obj.mapFields (·.setIfInBounds 0 (rawInt nx)) o):=Heap.get?_update_self _ ho (Obj.isFreed_of_fields (Obj.data_mapFields hd _))
 have hd1:=Obj.data_mapFields hd (·.setIfInBounds 0 (rawInt nx))
 refine wpAny_bind (wpAny_setField ho1 hd1 (by simp) (wpAny_pure ⟨x,rfl,wpAny_pure (hQ _ ?_ ((Heap.SameBut.update ..).trans (Heap.SameBut.update ..)))⟩))
 refine ⟨_,Heap.get?_update_self _ ho1 (Obj.isFreed_of_fields (Obj.data_mapFields hd1 _)),(Obj.cls_mapFields ..).trans ((Obj.cls_mapFields ..).trans hc),?_⟩
 rw [Obj.data_mapFields hd1]
 simp [rawInt]
theorem nx_done {I:Addr} {slot i n:Nat} {Q:Option Value→Shared→Prop} (hh:A.handled=none) (hit:SIt s.heap I a (.int slot 0) i n ep) (hS:SAt s.heap a es ep t) (hf:t.fits es.size=true) (hn:es.size=n)
  (hN:∀ (A':Around) (E':Value→Shared→Prop) (Q':Option (Value×Nat)→Shared→Prop),Q' none s→wpAny (model prog w) A' (setNext a slot i ep) Q' E' s)
  (hQ:∀ h',Heap.ExtBut I s.heap h'→Q none { s with heap:=h' }):
  wpAny (model prog w) A (pyNext (.ref I)) Q E s:=by
 obtain ⟨o,ho,hc,hd⟩:=id hit
 unfold pyNext
 refine wpAny_bind (wpAny_attempt (wpAny_callSpecial?_slot (name:=Str.ofString "__next__") hit.ty slot_sin (wpAny_call_entry slot_sin hit.ty entry_sin ?_ (args_sin _))))
 unfold Builtin.«set_iterator.__next__»
 refine wpAny_bind (wpAny_of_eq (a:=(Value.ref I,([]:List Value))) rfl ?_)
 refine wpAny_bind (wpAny_fieldsOf ho hd ?_)
 dsimp only
 refine wpAny_bind (entr hS hf ?_)
 rw [hn]
 simp only [bne_self_eq_false,Bool.false_eq_true,↓reduceIte,Int.toNat_natCast]
 refine wpAny_bind (hN _ _ _ ?_)
 dsimp only
 refine wpAny_bind (wpAny_setField ho hd (by simp) ?_)
 show wpAny _ _ (newExc (.type "StopIteration") [] >>=_) _ _ _
 refine wpAny_bind ?_
 simp only [newExc,newTuple]
 refine wpAny_bind (wpAny_newObj_type ?_ (by size_fits))
 refine wpAny_bind (m:=firstArgMember _ _) (wpAny_of_eq (a:=Value.none) (by first | rfl | (simp only [firstArgMember];rfl)) ?_)
 refine wpAny_newObj_type ?_ (by size_fits)
 simp only [raiseNew]
 refine wpAny_bind (wpAny_handled ?_)
 rw [show A.in1.handled=none from hh]
 refine wpAny_bind (wpAny_pure (wpAny_throw ?_))
 refine wpAny_bind (wpAny_isInstance (T:="StopIteration") (b:=true) ⟨_,Heap.get?_push_size _ rfl,rfl⟩ isSubtype_stop ?_)
 exact wpAny_pure (hQ _ (((Heap.SameBut.update ..).extBut.push _).push _))
end
end L2
namespace L2
open PySem PySem.Spec PyProof.Rows
theorem slot_sii:Slot "set_iterator" "__iter__" "set_iterator.__iter__":=
 .of (owner:="set_iterator") (n:="__iter__") (by rw [typeLookup_type,builtinLookup_eq_fast];kernel_rfl) (by decide +kernel) (by decide +kernel) (by decide +kernel)
  (by first | exact .inl (by decide +kernel) | exact .inr (by decide +kernel)) (by rw [isSubtype_type];kernel_rfl)
theorem entry_sii:entryFor table "set_iterator.__iter__"=some Builtin.«dict_keyiterator.__iter__»:=entryFor_alias (id':="dict_keyiterator.__iter__") (by kernel_rfl) rfl (by decide +kernel) (by kernel_rfl)
theorem args_sii (a:Value):argsOk "set_iterator.__iter__" ⟨[a],[]⟩:=by unfold argsOk;kernel_rfl
theorem entry_set_it:entryFor table "set.__iter__"=some Builtin.«frozenset.__iter__»:=entryFor_alias (id':="frozenset.__iter__") (by kernel_rfl) rfl (by decide +kernel) (by kernel_rfl)
theorem perm_erase {α:Type}:∀ {l:List α} {i:Nat} (h:i < l.length),(l[i]::l.eraseIdx i).Perm l
 | x::l,0,_=>List.Perm.refl _
 | x::l,i + 1,h=>by
  show (l[i]'(by simpa using h)::x::l.eraseIdx i).Perm (x::l)
  exact (List.Perm.swap _ _ _).trans ((perm_erase (by simpa using h)).cons _)
theorem pick_go {α:Type} (next:Nat→Nat):∀ (f k:Nat) (left:List α) (out:Array α),left.length=f→(pickOrder.go next f k left out).toList.Perm (out.toList++left)
 | 0,k,left,out,h=>by
  obtain rfl:left=[]:=List.eq_nil_of_length_eq_zero h
  unfold pickOrder.go
  simp
 | f + 1,k,left,out,h=>by
  unfold pickOrder.go
  have hlt:next k % left.length < left.length:=Nat.mod_lt _ (by omega)
  rw [List.getElem?_eq_getElem hlt]
  dsimp only
  refine (pick_go next f (k + 1) _ _ (by rw [List.length_eraseIdx,if_pos hlt];omega)).trans ?_
  rw [Array.toList_push,List.append_assoc]
  exact (perm_erase hlt).append_left _
theorem pick_perm {α:Type} (next:Nat→Nat) (xs:Array α):(pickOrder next xs).toList.Perm xs.toList:=by
 unfold pickOrder
 have:=pick_go next xs.size 0 xs.toList #[] (by simp)
 simpa using this
section
variable {prog:Program} {w:World} {A:Around} {E:Value→Shared→Prop} {s:Shared} {a:Addr} {es:Array (Int×Value)} {ep:Nat} {t:SetTable}
theorem choose_any {src:Source} {n:Nat} {Q:Nat→Shared→Prop} (h0:n≠0) (h:∀ i d,i < n→Q i { s with drawn:=d }):wpAny (model prog w) A (choose src n) Q E s:=by
 intro Γ p hΓ
 unfold choose
 rw [Sem.wp_choose]
 exact ⟨h0,h _ _ (Nat.mod_lt _ (Nat.pos_of_ne_zero h0))⟩
theorem draw_any {α:Type}:∀ (n:Nat) (xs:List α) (s:Shared) (Q:List α→Shared→Prop),xs.length=n→(∀ ys d,ys.Perm xs→Q ys { s with drawn:=d })→wpAny (model prog w) A (drawOrder n xs) Q E s
 | 0,xs,s,Q,hn,h=>by
  obtain rfl:xs=[]:=List.eq_nil_of_length_eq_zero hn
  unfold drawOrder
  exact wpAny_pure (h [] s.drawn (List.Perm.refl _))
 | n + 1,[],s,Q,hn,h=>by cases hn
 | n + 1,x::xs,s,Q,hn,h=>by
  unfold drawOrder
  refine wpAny_bind (choose_any (by simp) fun i d hi=>?_)
  rw [List.getElem?_eq_getElem hi]
  dsimp only
  refine wpAny_bind (draw_any n _ _ _ (by rw [List.length_eraseIdx,if_pos hi];omega) fun ys d' hp=>?_)
  refine wpAny_pure (h _ d' ?_)
  exact (hp.cons _).trans (perm_erase hi)
theorem SIt.self {I:Addr} {f:Value} {i n:Nat} {Q:Value→Shared→Prop} (hit:SIt s.heap I a f i n ep) (h:Q (.ref I) s):wpAny (model prog w) A (pyIter (.ref I)) Q E s:=by
 refine wpAny_pyIter_slot hit.ty slot_sii (wpAny_call_entry slot_sii hit.ty entry_sii ?_ (args_sii _))
 show wpAny _ _ (ret (.ref I)) _ _ s
 exact wpAny_pure ⟨_,rfl,"set_iterator",_,hit.ty,slot_sin.lookup,h⟩
theorem SAt.at {h h':Heap} (x:SAt h a es ep t) (k:∀ o,h.get? a=some o→h'.get? a=some o):SAt h' a es ep t:=let ⟨o,ho,hd⟩:=x;⟨o,k o ho,hd⟩
theorem SIt.at {h h':Heap} {I:Addr} {f:Value} {i n:Nat} (x:SIt h I a f i n ep) (k:∀ o,h.get? I=some o→h'.get? I=some o):SIt h' I a f i n ep:=let ⟨o,ho,hd⟩:=x;⟨o,k o ho,hd⟩
theorem walk_int (hh:A.handled=none) {I:Addr} (hne:a≠I) {n:Nat} (hf:t.fits es.size=true) (hn:es.size=n) {sl:Nat→Nat} {out:List Value} (hl:out.length=n)
  (hN:∀ (i:Nat) (s:Shared) (A':Around) (E':Value→Shared→Prop) (Q':Option (Value×Nat)→Shared→Prop),i≤n→SAt s.heap a es ep t→Q' ((out[i]?).map fun x=>(x,sl (i + 1))) s→wpAny (model prog w) A' (setNext a (sl i) i ep) Q' E' s):
  Walks prog w A I [I,a] [I] n (fun i v=>out[i]? =some v) (fun i h=>SAt h a es ep t∧SIt h I a (.int (sl i) 0) i n ep) where
 sub:=fun b hb=>by simp at hb;simp [hb]
 frame:=fun _ _ _ st hk=>⟨st.1.at fun o e=>hk a (by simp) o e,st.2.at fun o e=>hk I (by simp) o e⟩
 item:=fun i s Q E hi st hQ=>by
  have e:out[i]? =some (out[i]'(by omega)):=List.getElem?_eq_getElem (by omega)
  refine nx_item st.2 st.1 hf hn (x:=out[i]'(by omega)) (nx:=sl (i + 1)) (fun A' E' Q' q=>hN i s A' E' Q' (by omega) st.1 (by rw [e];exact q)) fun h' hit' sb=>?_
  exact hQ _ h' s.toks e ⟨st.1.at fun o z=>by rw [sb.2 a hne];exact z,hit'⟩ fun b o hb z=>sb.extBut b o (fun h=>hb (by simp [h])) z
 done:=fun s Q E st hQ=>by
  have e:out[n]? =none:=List.getElem?_eq_none (by omega)
  exact nx_done hh st.2 st.1 hf hn (fun A' E' Q' q=>hN n s A' E' Q' (Nat.le_refl _) st.1 (by rw [e];exact q)) fun h' he=>hQ h' s.toks fun b o hb z=>he b o (fun h=>hb (by simp [h])) z
 self:=fun _ _ _ _ st hQ=>st.2.self hQ
theorem walk_txt {I:Addr} (hne:a≠I) {n:Nat} (hf:t.fits es.size=true) (hn:es.size=n) (hb:byT w=true):
  ∃ out:List Value,out.Perm (es.toList.map (·.2))∧∀ A:Around,A.handled=none→Walks prog w A I [I,a] [I] n (fun i v=>out[i]? =some v) (fun i h=>SAt h a es ep t∧SIt h I a (.int ((fun _=>0:Nat→Nat) i:Nat) 0) i n ep):=by
 have hp:=pick_perm (w.params.setOrder a ep) es
 refine ⟨(pickOrder (w.params.setOrder a ep) es).toList.map (·.2),hp.map _,fun A hh=>walk_int hh hne hf hn (by rw [List.length_map,hp.length_eq,Array.length_toList,hn]) fun i s A' E' Q' hi hS q=>next_txt hS hf hb ?_⟩
 rw [List.getElem?_map,Array.getElem?_toList,Option.map_map] at q
 exact q
theorem walk_plc (hh:A.handled=none) {I:Addr} (hne:a≠I) {n:Nat} (hf:t.fits es.size=true) (hn:es.size=n) (hb:byT w=false) (hd:drawnB es t=false) (hl:t.led=true) (u:UpT t):
  Walks prog w A I [I,a] [I] n (fun i v=>(es.toList.map (·.2))[i]? =some v) (fun i h=>SAt h a es ep t∧SIt h I a (.int (slotAt t i:Nat) 0) i n ep):=by
 have hz:t.place.size=n:=by
  unfold SetTable.fits at hf
  rw [Bool.and_eq_true,beq_iff_eq] at hf
  omega
 refine walk_int hh hne hf hn (by rw [List.length_map,Array.length_toList,hn]) fun i s A' E' Q' hi hS q=>next_plc hS hf hb hd hl ?_
 rw [below_slot u (by omega)]
 rw [List.getElem?_map,Array.getElem?_toList,Option.map_map] at q
 by_cases g:i < n
 ·have e1:es[i]? =some (es[i]'(by omega)):=Array.getElem?_eq_getElem (by omega)
  have e2:t.place[i]? =some (t.place[i]'(by omega)):=Array.getElem?_eq_getElem (by omega)
  rw [e1] at q ⊢
  rw [e2]
  dsimp only
  have e3:slotAt t (i + 1)=t.place[i]'(by omega) + 1:=by
   show t.place.getD i 0 + 1=_
   rw [Array.getD,dif_pos (by omega)]
   rfl
  have q':Q' (some ((es[i]'(by omega)).2,slotAt t (i + 1))) s:=q
  rw [e3] at q'
  exact q'
 ·have e1:es[i]? =none:=Array.getElem?_eq_none (by omega)
  rw [e1] at q ⊢
  exact q
end
end L2
namespace L2
open PySem PySem.Spec PyProof.Rows
noncomputable def TPl (h:Heap) (T:Addr) (ps:List Nat):Prop:=∃ o k,h.get? T=some o∧o.data=.seq (ps.map fun (p:Nat)=>rawInt p).toArray k
noncomputable def outD (es:Array (Int×Value)) (ps:List Nat):List Value:=ps.map fun p=>(es.getD p (0,.none)).2
theorem outD_all (es:Array (Int×Value)):outD es (List.range es.size)=es.toList.map (·.2):=by
 refine List.ext_getElem? fun i=>?_
 unfold outD
 rw [List.getElem?_map,List.getElem?_map,Array.getElem?_toList (xs:=es)]
 by_cases h:i < es.size
 ·rw [List.getElem?_range h,Array.getElem?_eq_getElem h]
  simp [Array.getD,h]
 ·rw [List.getElem?_eq_none (by simpa using h),Array.getElem?_eq_none (by omega)]
  rfl
section
variable {prog:Program} {w:World} {A:Around} {E:Value→Shared→Prop} {s:Shared} {a:Addr} {es:Array (Int×Value)} {ep:Nat} {t:SetTable}
theorem TPl.at {h h':Heap} {T:Addr} {ps:List Nat} (x:TPl h T ps) (k:∀ o,h.get? T=some o→h'.get? T=some o):TPl h' T ps:=let ⟨o,n,ho,hd⟩:=x;⟨o,n,k o ho,hd⟩
theorem drw_item {I T:Addr} {i n p:Nat} {ps:List Nat} {Q:Option Value→Shared→Prop} (hit:SIt s.heap I a (.ref T) i n ep) (hS:SAt s.heap a es ep t) (hT:TPl s.heap T ps) (hf:t.fits es.size=true) (hn:es.size=n) (hp:ps[i]? =some p) (hpn:p < n)
  (hQ:∀ h',SIt h' I a (.ref T) (i + 1) n ep→Heap.SameBut I s.heap h'→Q (some (es.getD p (0,.none)).2) { s with heap:=h' }):
  wpAny (model prog w) A (pyNext (.ref I)) Q E s:=by
 obtain ⟨o,ho,hc,hd⟩:=id hit
 obtain ⟨oT,kT,hoT,hdT⟩:=hT
 unfold pyNext
 refine wpAny_bind (wpAny_attempt (wpAny_callSpecial?_slot (name:=Str.ofString "__next__") hit.ty slot_sin (wpAny_call_entry slot_sin hit.ty entry_sin ?_ (args_sin _))))
 unfold Builtin.«set_iterator.__next__»
 refine wpAny_bind (wpAny_of_eq (a:=(Value.ref I,([]:List Value))) rfl ?_)
 refine wpAny_bind (wpAny_fieldsOf ho hd ?_)
 dsimp only
 refine wpAny_bind (entr hS hf ?_)
 rw [hn]
 simp only [bne_self_eq_false,Bool.false_eq_true,↓reduceIte,Int.toNat_natCast]
 refine wpAny_bind (wpAny_seqItems hoT hdT ?_)
 dsimp only
 have e1:((ps.map fun (p:Nat)=>rawInt p).toArray)[i]? =some (rawInt p):=by
  rw [List.getElem?_toArray,List.getElem?_map,hp]
  rfl
 rw [e1]
 simp only [rawInt,Int.toNat_natCast]
 unfold setNextDrawn
 obtain ⟨oS,hoS,hdS⟩:=hS
 refine wpAny_bind (wpAny_bind (wpAny_setState_of hoS hdS hf ?_))
 have e2:es[p]? =some (es.getD p (0,.none)):=by
  rw [Array.getElem?_eq_getElem (by omega)]
  simp [Array.getD,show p < es.size by omega]
 simp only [bne_self_eq_false,Bool.false_eq_true,↓reduceIte,e2]
 refine wpAny_pure ?_
 refine wpAny_bind (wpAny_setField ho hd (by simp) (wpAny_pure ⟨_,rfl,wpAny_pure (hQ _ ?_ (Heap.SameBut.update ..))⟩))
 refine ⟨_,Heap.get?_update_self _ ho (Obj.isFreed_of_fields (Obj.data_mapFields hd _)),(Obj.cls_mapFields ..).trans hc,?_⟩
 rw [Obj.data_mapFields hd]
 simp
theorem drw_done {I T:Addr} {n:Nat} {ps:List Nat} {Q:Option Value→Shared→Prop} (hh:A.handled=none) (hit:SIt s.heap I a (.ref T) n n ep) (hS:SAt s.heap a es ep t) (hT:TPl s.heap T ps) (hf:t.fits es.size=true) (hn:es.size=n) (hp:ps.length=n)
  (hQ:∀ h',Heap.ExtBut I s.heap h'→Q none { s with heap:=h' }):
  wpAny (model prog w) A (pyNext (.ref I)) Q E s:=by
 obtain ⟨o,ho,hc,hd⟩:=id hit
 obtain ⟨oT,kT,hoT,hdT⟩:=hT
 unfold pyNext
 refine wpAny_bind (wpAny_attempt (wpAny_callSpecial?_slot (name:=Str.ofString "__next__") hit.ty slot_sin (wpAny_call_entry slot_sin hit.ty entry_sin ?_ (args_sin _))))
 unfold Builtin.«set_iterator.__next__»
 refine wpAny_bind (wpAny_of_eq (a:=(Value.ref I,([]:List Value))) rfl ?_)
 refine wpAny_bind (wpAny_fieldsOf ho hd ?_)
 dsimp only
 refine wpAny_bind (entr hS hf ?_)
 rw [hn]
 simp only [bne_self_eq_false,Bool.false_eq_true,↓reduceIte,Int.toNat_natCast]
 refine wpAny_bind (wpAny_seqItems hoT hdT ?_)
 dsimp only
 have e1:((ps.map fun (p:Nat)=>rawInt p).toArray)[n]? =none:=by
  rw [List.getElem?_toArray,List.getElem?_map,List.getElem?_eq_none (by omega)]
  rfl
 rw [e1]
 dsimp only
 refine wpAny_bind (wpAny_setField ho hd (by simp) ?_)
 have ho1:(s.heap.update I (Obj.mapFields (·.setIfInBounds 0 (rawInt 0)))).get? I=some (Obj.mapFields (·.setIfInBounds 0 (rawInt 0)) o):=Heap.get?_update_self _ ho (Obj.isFreed_of_fields (Obj.data_mapFields hd _))
 have hd1:=Obj.data_mapFields hd (·.setIfInBounds 0 (rawInt 0))
 refine wpAny_bind (wpAny_setField ho1 hd1 (by simp) ?_)
 show wpAny _ _ (newExc (.type "StopIteration") [] >>=_) _ _ _
 refine wpAny_bind ?_
 simp only [newExc,newTuple]
 refine wpAny_bind (wpAny_newObj_type ?_ (by size_fits))
 refine wpAny_bind (m:=firstArgMember _ _) (wpAny_of_eq (a:=Value.none) (by first | rfl | (simp only [firstArgMember];rfl)) ?_)
 refine wpAny_newObj_type ?_ (by size_fits)
 simp only [raiseNew]
 refine wpAny_bind (wpAny_handled ?_)
 rw [show A.in1.handled=none from hh]
 refine wpAny_bind (wpAny_pure (wpAny_throw ?_))
 refine wpAny_bind (wpAny_isInstance (T:="StopIteration") (b:=true) ⟨_,Heap.get?_push_size _ rfl,rfl⟩ isSubtype_stop ?_)
 exact wpAny_pure (hQ _ ((((Heap.SameBut.update ..).trans (Heap.SameBut.update ..)).extBut.push _).push _))
theorem walk_drw (hh:A.handled=none) {I T:Addr} (hne:a≠I) (hTI:T≠I) {n:Nat} (hf:t.fits es.size=true) (hn:es.size=n) {ps:List Nat} (hp:ps.Perm (List.range n)):
  Walks prog w A I [I,a,T] [I] n (fun i v=>(outD es ps)[i]? =some v) (fun i h=>SAt h a es ep t∧SIt h I a (.ref T) i n ep∧TPl h T ps) where
 sub:=fun b hb=>by simp at hb;simp [hb]
 frame:=fun _ _ _ st hk=>⟨st.1.at fun o e=>hk a (by simp) o e,st.2.1.at fun o e=>hk I (by simp) o e,st.2.2.at fun o e=>hk T (by simp) o e⟩
 item:=fun i s Q E hi st hQ=>by
  have hl:ps.length=n:=by rw [hp.length_eq,List.length_range]
  have e:ps[i]? =some (ps[i]'(by omega)):=List.getElem?_eq_getElem (by omega)
  have hpn:ps[i]'(by omega) < n:=List.mem_range.mp (hp.mem_iff.mp (List.getElem_mem (by omega)))
  refine drw_item st.2.1 st.1 st.2.2 hf hn e hpn fun h' hit' sb=>?_
  exact hQ _ h' s.toks (by unfold outD;rw [List.getElem?_map,e];rfl) ⟨st.1.at fun o z=>by rw [sb.2 a hne];exact z,hit',st.2.2.at fun o z=>by rw [sb.2 T hTI];exact z⟩ fun b o hb z=>sb.extBut b o (fun h=>hb (by simp [h])) z
 done:=fun s Q E st hQ=>drw_done hh st.2.1 st.1 st.2.2 hf hn (by rw [hp.length_eq,List.length_range]) fun h' he=>hQ h' s.toks fun b o hb z=>he b o (fun h=>hb (by simp [h])) z
 self:=fun _ _ _ _ st hQ=>st.2.1.self hQ
theorem iter_set {n:Nat} {Q:Value→Shared→Prop} (hT:s.TypeIs (.ref a) "set") (hS:SAt s.heap a es ep t) (hf:t.fits es.size=true) (hn:es.size=n) (hz:n≤sizeLine) (hU:TabU w t)
  (h:∀ (h':Heap) d (I:Addr) (fp:List Addr) (out:List Value) (St:Nat→Heap→Prop),(∀ b o,s.heap.get? b=some o→h'.get? b=some o)→I∈fp→(∀ b∈fp,b=a∨s.heap.objs.size≤b)→s.heap.objs.size≤I→out.Perm (es.toList.map (·.2))→
   (∀ A:Around,A.handled=none→Walks prog w A I fp [I] n (fun i v=>out[i]? =some v) St)→St 0 h'→Q (.ref I) { s with heap:=h',drawn:=d }):
  wpAny (model prog w) A (pyIter (.ref a)) Q E s:=by
 have haz:a < s.heap.objs.size:=let ⟨o,ho,_⟩:=hS;Heap.lt_size ho
 refine wpAny_pyIter_slot hT PySem.F.slot_set_iter (wpAny_call_entry PySem.F.slot_set_iter hT entry_set_it ?_ (PySem.F.args_set_iter_1 _))
 unfold Builtin.«frozenset.__iter__»
 refine wpAny_bind (wpAny_of_eq (a:=a) rfl ?_)
 unfold Builtin.Frozenset.sizeOf
 refine wpAny_bind (wpAny_bind (entr hS hf (wpAny_pure ?_)))
 obtain ⟨oS,hoS,hdS⟩:=id hS
 unfold setDrawn
 refine wpAny_bind (wpAny_bind (wpAny_setState_of hoS hdS hf ?_))
 dsimp only
 refine wpAny_bind (by_text (wpAny_pure ?_))
 by_cases hd:(!byT w&&drawnB es t)=true
 ·refine wpAny_ite_split (fun _=>?_) (fun z=>absurd hd z)
  refine wpAny_bind (draw_any _ _ _ _ List.length_range fun ps d hp=>?_)
  have hl:ps.length=n:=by rw [hp.length_eq,List.length_range,hn]
  refine wpAny_bind (wpAny_newTuple ?_ (by rw [List.length_map,hl];exact hz))
  have hS1:SAt (s.heap.push { cls:=.type "tuple",data:=.seq (ps.map fun (i:Nat)=>rawInt i).toArray }) a es ep t:=hS.at fun o e=>Heap.get?_push_of_some _ e
  obtain ⟨oS1,hoS1,hdS1⟩:=id hS1
  unfold setEpoch
  refine wpAny_bind (wpAny_bind (wpAny_setState_of hoS1 hdS1 hf (wpAny_pure ?_)))
  refine wpAny_bind (wpAny_newObj_type (wpAny_pure ⟨_,rfl,"set_iterator",_,⟨_,Heap.get?_push_size _ rfl,rfl⟩,slot_sin.lookup,?_⟩) (by size_fits))
  have e1:(s.heap.push { cls:=.type "tuple",data:=.seq (ps.map fun (i:Nat)=>rawInt i).toArray }).objs.size=s.heap.objs.size + 1:=Heap.size_push _ _
  refine h _ d _ [(s.heap.push { cls:=.type "tuple",data:=.seq (ps.map fun (i:Nat)=>rawInt i).toArray }).objs.size,a,s.heap.objs.size] (outD es ps) _ (fun b o e=>Heap.get?_push_of_some _ (Heap.get?_push_of_some _ e)) (by simp) (fun b hb=>?_) (by rw [e1];exact Nat.le_succ _) ?_
   (fun A' hA'=>walk_drw hA' (by rw [e1];exact Nat.ne_of_lt (Nat.lt_succ_of_lt haz)) (by rw [e1];exact Nat.ne_of_lt (Nat.lt_succ_self _)) hf hn (hn▸hp)) ⟨hS1.at fun o e=>Heap.get?_push_of_some _ e,⟨_,Heap.get?_push_size _ rfl,rfl,?_⟩,⟨_,_,Heap.get?_push_of_some _ (Heap.get?_push_size _ rfl),rfl⟩⟩
  ·rcases List.mem_cons.mp hb with rfl | hb
   ·exact .inr (by rw [e1];exact Nat.le_succ _)
   rcases List.mem_cons.mp hb with rfl | hb
   ·exact .inl rfl
   rw [List.mem_singleton] at hb
   exact .inr (Nat.le_of_eq hb.symm)
  ·rw [←outD_all]
   exact hp.map _
  ·rw [hn]
   rfl
 ·refine wpAny_ite_split (fun z=>absurd z hd) (fun _=>wpAny_bind (wpAny_pure ?_))
  unfold setEpoch
  refine wpAny_bind (wpAny_bind (wpAny_setState_of hoS hdS hf (wpAny_pure ?_)))
  refine wpAny_bind (wpAny_newObj_type (wpAny_pure ⟨_,rfl,"set_iterator",_,⟨_,Heap.get?_push_size _ rfl,rfl⟩,slot_sin.lookup,?_⟩) (by size_fits))
  have hne:a≠s.heap.objs.size:=Nat.ne_of_lt haz
  have hfp:∀ b∈[s.heap.objs.size,a],b=a∨s.heap.objs.size≤b:=fun b hb=>by
   rcases List.mem_cons.mp hb with rfl | hb
   ·exact .inr (Nat.le_refl _)
   ·exact .inl (List.mem_singleton.mp hb)
  cases hb:byT w with
  | true=>
   obtain ⟨out,hp,hw⟩:=walk_txt (prog:=prog) (w:=w) (ep:=ep) (t:=t) (I:=s.heap.objs.size) hne hf hn hb
   refine h _ s.drawn _ [s.heap.objs.size,a] out _ (fun b o e=>Heap.get?_push_of_some _ e) (by simp) hfp (Nat.le_refl _) hp hw ⟨hS.at fun o e=>Heap.get?_push_of_some _ e,_,Heap.get?_push_size _ rfl,rfl,?_⟩
   rw [hn]
   rfl
  | false=>
   have hd':drawnB es t=false:=by rw [hb] at hd;simpa using hd
   have hl:t.led=true:=by rw [hU.2,hb];rfl
   refine h _ s.drawn _ [s.heap.objs.size,a] (es.toList.map (·.2)) _ (fun b o e=>Heap.get?_push_of_some _ e) (by simp) hfp (Nat.le_refl _) (List.Perm.refl _) (fun A' hA'=>walk_plc hA' hne hf hn hb hd' hl hU.1) ⟨hS.at fun o e=>Heap.get?_push_of_some _ e,_,Heap.get?_push_size _ rfl,rfl,?_⟩
   rw [hn]
   rfl
end
end L2
namespace L2
open PySem PySem.Spec PyProof.Rows
section
variable {prog:Program} {w:World} {A:Around} {E:Value→Shared→Prop} {s:Shared} {a:Addr}
theorem hint_set {Q:Bool→Shared→Prop} (hT:s.TypeIs (.ref a) "set") (h:Q false s):wpAny (model prog w) A (Builtin.List.listLengthHint (.ref a)) Q E s:=by
 unfold Builtin.List.listLengthHint
 refine wpAny_bind (wpAny_specialOf hT PySem.F.slot_set_len.lookup ?_)
 generalize hid:("set.__len__":String)=id0
 wp_delta
 rw [show splitId id0=some ("set","__len__") from by subst hid;decide +kernel]
 subst hid
 refine wpAny_bind (wpAny_isInstance (T:="set") (b:=true) hT (by rw [isSubtype_type];kernel_rfl) ?_)
 refine wpAny_ite_split (fun hab=>absurd hab (by decide)) (fun _=>?_)
 refine wpAny_ite_split (fun _=>?_) (fun hab=>absurd (by decide +kernel) hab)
 refine wpAny_bind (wpAny_typeOf hT ?_)
 exact wpAny_pure h
theorem items_is {P:List Value} {acc:Array Value} {n:Nat} (hl:P.length=n) (h:ItemsOf (fun i v=>P[i]? =some v) acc n):acc.toList=P:=by
 refine List.ext_getElem? fun i=>?_
 rw [Array.getElem?_toList]
 by_cases g:i < n
 ·have e:acc[i]? =some (acc[i]'(by have:=h.1;omega)):=Array.getElem?_eq_getElem (by have:=h.1;omega)
  rw [e]
  exact (h.2 i _ e).symm
 ·rw [Array.getElem?_eq_none (by have:=h.1;omega),List.getElem?_eq_none (by omega)]
theorem collect_set {es:Array (Int×Value)} {ep:Nat} {t:SetTable} {n:Nat} {Q:List Value→Shared→Prop} (hh:A.handled=none) (hT:s.TypeIs (.ref a) "set") (hS:SAt s.heap a es ep t) (hf:t.fits es.size=true) (hn:es.size=n) (hz:n≤sizeLine) (hU:TabU w t)
  (h:∀ (h':Heap) d tk (out:List Value),(∀ b o,s.heap.get? b=some o→h'.get? b=some o)→s.heap.objs.size≤h'.objs.size→out.Perm (es.toList.map (·.2))→Q out { s with heap:=h',drawn:=d,toks:=tk }):
  wpAny (model prog w) A (collect (.ref a)) Q E s:=by
 have haz:a < s.heap.objs.size:=let ⟨o,ho,_⟩:=hS;Heap.lt_size ho
 unfold collect
 refine wpAny_bind (wpAny_runValue (codeAny_builtin PySem.F.entry_proto_collect ?_))
 rw [Around.under_plainId PySem.F.plain_proto_collect _]
 show wpAny _ A.in1 (newList [] >>=fun l=>again (.builtin "list.__iadd__" ⟨[l,.ref a],[]⟩)) _ _ s
 refine wpAny_bind (wpAny_newObj_type ?_)
 refine wpAny_pure ⟨plainId_quiet PySem.F.plain_list_iadd _,codeAny_builtin PySem.F.entry_list_iadd ?_⟩
 rw [Around.under_plainId PySem.F.plain_list_iadd _]
 have k0:∀ b o,s.heap.get? b=some o→(s.heap.push { cls:=.type "list",data:=.seq ([]:List Value).toArray }).get? b=some o:=fun b o e=>Heap.get?_push_of_some _ e
 have hS0:(s.heap.push { cls:=.type "list",data:=.seq ([]:List Value).toArray }).get? s.heap.objs.size=some { cls:=.type "list",data:=.seq ([]:List Value).toArray }:=Heap.get?_push_size _ rfl
 have z0:(s.heap.push { cls:=.type "list",data:=.seq ([]:List Value).toArray }).objs.size=s.heap.objs.size + 1:=Heap.size_push _ _
 generalize hG:s.heap.push { cls:=.type "list",data:=.seq ([]:List Value).toArray }=G at k0 hS0 z0
 have hSa:s.heap.objs.size≠a:=Nat.ne_of_gt haz
 have hT0:Shared.TypeIs { s with heap:=G } (.ref a) "set":=let ⟨o,ho,hc⟩:=hT;⟨o,k0 a o ho,hc⟩
 have h1:Builtin.List.listSameRef (.ref s.heap.objs.size) (.ref a)=false:=by simp [Builtin.List.listSameRef,hSa]
 show wpAny _ A.in1 (Builtin.List.listExtendWith (.ref s.heap.objs.size) (.ref a) (.ref s.heap.objs.size)) _ _ { s with heap:=G }
 unfold Builtin.List.listExtendWith
 refine wpAny_bind (wpAny_typeOf hT0 ?_)
 rw [if_neg (by rw [h1];decide)]
 refine wpAny_bind (iter_set (s:={ s with heap:=G }) hT0 (hS.at fun o e=>k0 a o e) hf hn hz hU fun h1 d I fp out St k1 hI hfp hIz hp hw hst=>?_)
 have hl:out.length=n:=by rw [hp.length_eq,List.length_map,Array.length_toList,hn]
 have hSf:s.heap.objs.size∉fp:=fun hm=>by
  rcases hfp _ hm with e | e
  ·exact hSa e
  ·have e':G.objs.size≤s.heap.objs.size:=e
   rw [z0] at e'
   exact absurd e' (Nat.not_succ_le_self _)
 have hS1:=k1 _ _ hS0
 have hT1:Shared.TypeIs { s with heap:=h1,drawn:=d } (.ref a) "set":=let ⟨o,ho,hc⟩:=hT0;⟨o,k1 a o ho,hc⟩
 refine wpAny_bind (wpAny_holding (hint_set hT1 ?_))
 refine wpAny_ite_split (fun _=>?_) (fun z=>absurd (by decide +kernel) z)
 refine wpAny_bind (wpAny_rule ?_)
 refine wpAny_bind ?_
 show wpAny _ _ (updateSeq s.heap.objs.size (·.push .none) >>=fun _=>updateSeq s.heap.objs.size (·.pop)) _ _ _
 refine wpAny_bind (wpAny_updateSeq hS1 rfl ?_)
 have hS2:=Heap.get?_update_self (Obj.mapSeq (·.push Value.none)) hS1 rfl
 refine wpAny_updateSeq (hz:=by seq_fits) hS2 rfl ?_
 have hS3:=Heap.get?_update_self (Obj.mapSeq (·.pop)) hS2 rfl
 have k3:∀ b o,b≠s.heap.objs.size→h1.get? b=some o→((h1.update s.heap.objs.size (Obj.mapSeq (·.push Value.none))).update s.heap.objs.size (Obj.mapSeq (·.pop))).get? b=some o:=fun b o hb e=>
  (Heap.get?_update_other _ _ (Ne.symm hb)).trans ((Heap.get?_update_other _ _ (Ne.symm hb)).trans e)
 have hh1:A.in1.handled=none:=hh
 have W:=hw A.in1 hh1
 have hst3:=W.frame 0 _ _ hst fun b hb o e=>k3 b o (fun z=>hSf (z▸hb)) e
 refine wpAny_pure ⟨plainId_quiet PySem.F.plain_extend_loop _,codeAny_extend_loopS W.toS hz _ hSf _ n 0 _ _ _ rfl (Nat.zero_le _) hst3 hS3 (ItemsOf.nil _) fun s' acc' c' hm hS' hacc=>?_⟩
 show wpAny _ A (load s.heap.objs.size >>=_) _ _ s'
 refine wpAny_bind (wpAny_load hS' ?_)
 show wpAny _ A (pure acc'.toList) _ _ s'
 rw [items_is hl hacc,Moved.eq_with hm]
 refine wpAny_pure (h s'.heap d s'.toks out (fun b o e=>hm.heap b o (fun z=>?_) (k3 b o (Nat.ne_of_lt (Heap.lt_size e)) (k1 b o (k0 b o e)))) (Nat.le_of_lt (Heap.lt_size hS')) hp)
 rcases List.mem_cons.mp z with z | z
 ·exact absurd z (Nat.ne_of_lt (Heap.lt_size e))
 ·rw [List.mem_singleton] at z
  have q:G.objs.size≤I:=hIz
  rw [←z,z0] at q
  exact absurd (Heap.lt_size e) (Nat.not_lt.mpr (Nat.le_of_succ_le q))
theorem sortedHeap_keep {G:Heap} {x:Addr} {vs:List Value} {out:Array Value} {b:Addr} {o:Obj} (hb:b≠x) (e:G.get? b=some o):(sortedHeap G x vs out).get? b=some o:=by
 have hlt:b < G.objs.size:=Heap.lt_size e
 unfold sortedHeap
 rw [Heap.get?_update_ne _ _ _ _ hb,Heap.get?_push_ne _ _ _ (by rw [size_push',Heap.size_update];exact Nat.ne_of_lt (Nat.lt_succ_of_lt hlt)),Heap.get?_push_ne _ _ _ (by rw [Heap.size_update];exact Nat.ne_of_lt hlt),Heap.get?_update_ne _ _ _ _ hb]
 exact e
theorem sortedHeap_new {G:Heap} {x:Addr} {vs:List Value} {out:Array Value} {n:Nat} (e:G.get? x=some (seqObj "list" vs.toArray n)):∃ n,(sortedHeap G x vs out).get? x=some (seqObj "list" out n):=by
 have hlt:x < G.objs.size:=Heap.lt_size e
 unfold sortedHeap
 obtain ⟨e1,ho1⟩:∃ e1,(G.update x (Obj.mapSeq fun _=>(#[]:Array Value))).get? x=some (seqObj "list" #[] e1):=⟨_,get?_update_seq e (fun _=>#[])⟩
 have ho6:(((G.update x (Obj.mapSeq fun _=>(#[]:Array Value))).push (seqObj "tuple" vs.toArray 0)).push (seqObj "list" #[] 0)).get? x=some (seqObj "list" #[] e1):=by
  rw [Heap.get?_push_ne _ _ _ (by rw [size_push',Heap.size_update];exact Nat.ne_of_lt (Nat.lt_succ_of_lt hlt)),Heap.get?_push_ne _ _ _ (by rw [Heap.size_update];exact Nat.ne_of_lt hlt)]
  exact ho1
 exact ⟨_,get?_update_seq ho6 fun _=>out⟩
structure Nub (ns ms:List Int):Prop where
 up:ms.Pairwise (· < ·)
 mem:∀ k,k∈ms↔k∈ns
theorem perm_of_len:∀ {L ns:List Int},L.Nodup→(∀ x∈L,x∈ns)→ns.length=L.length→L.Perm ns
 | [],ns,_,_,h=>by rw [List.eq_nil_of_length_eq_zero h]
 | x::L,ns,nd,sub,h=>by
  have hx:=sub x List.mem_cons_self
  rw [List.nodup_cons] at nd
  have p1:=List.perm_cons_erase hx
  refine ((perm_of_len nd.2 (fun y hy=>?_) ?_).cons x).trans p1.symm
  ·exact (List.mem_erase_of_ne (fun z:y=x=>nd.1 (z▸hy))).mpr (sub y (List.mem_cons_of_mem _ hy))
  ·have:=p1.length_eq
   simp only [List.length_cons] at this h
   omega
theorem met_nodup (val:Nat→Int):∀ i,(firstMet val i).Nodup
 | 0=>List.nodup_nil
 | i + 1=>by
  rw [firstMet_succ]
  unfold step_dedup
  split
  ·exact met_nodup val i
  ·rename_i g
   rw [List.nodup_append]
   refine ⟨met_nodup val i,by simp,fun a ha b hb=>?_⟩
   rw [List.mem_singleton] at hb
   subst hb
   exact fun z=>g (List.any_eq_true.mpr ⟨a,ha,by rw [z];exact beq_self_eq_true _⟩)
theorem met_mem {ns:List Int} (k:Int):k∈firstMet (fun i=>ns.getD i 0) ns.length↔k∈ns:=by
 have h:=firstMet_any (fun i=>ns.getD i 0) ns.length k
 have e:(List.range ns.length).map (fun i=>ns.getD i 0)=ns:=by
  refine List.ext_getElem? fun i=>?_
  rw [List.getElem?_map]
  by_cases g:i < ns.length
  ·rw [List.getElem?_range g,List.getElem?_eq_getElem g]
   simp [List.getD_eq_getElem?_getD,g]
  ·rw [List.getElem?_eq_none (by simpa using g),List.getElem?_eq_none (by omega)]
   rfl
 rw [e] at h
 have c:∀ l:List Int,l.any (· ==k)=true↔k∈l:=fun l=>by simp
 rw [←c,←c,h]
theorem lt_of_le_nd:∀ {l:List Int},l.Pairwise (· ≤ ·)→l.Nodup→l.Pairwise (· < ·)
 | [],_,_=>.nil
 | x::l,h,n=>by
  rw [List.pairwise_cons] at h ⊢
  rw [List.nodup_cons] at n
  exact ⟨fun y hy=>by have h1:=h.1 y hy;have h2:x≠y:=fun z=>n.1 (z▸hy);omega,lt_of_le_nd h.2 n.2⟩
theorem ints_of_set {es:List (Int×Value)} (h:ElemsOf (intKind prog w) es):∀ {out:List Value},out.Perm (es.map (·.2))→∃ ns,IntsAre out ns∧∀ k,k∈ns↔∃ e∈es,(intKind prog w).is k e.2=true:=by
 intro out hp
 have key:∀ l:List Value,(∀ v∈l,v∈es.map (·.2))→∃ ns,IntsAre l ns∧∀ k,k∈ns↔∃ v∈l,Value.isInt k v=true:=by
  intro l
  induction l with
  | nil=>intro _;exact ⟨[],.nil,fun k=>by simp⟩
  | cons v l ih=>
   intro hv
   obtain ⟨ns,h1,h2⟩:=ih fun u hu=>hv u (List.mem_cons_of_mem _ hu)
   obtain ⟨e,he,ee⟩:=List.mem_map.mp (hv v List.mem_cons_self)
   obtain ⟨⟨k,hk,_⟩,_⟩:=h e he
   obtain ⟨t,et⟩:=Value.isInt_shape hk
   obtain rfl:v=.int k t:=ee.symm.trans et
   refine ⟨k::ns,.cons k t h1,fun j=>?_⟩
   rw [List.mem_cons,h2 j]
   have:Value.isInt j (.int k t)=true↔j=k:=⟨fun q=>by (obtain ⟨t',e'⟩:=Value.isInt_shape q;cases e';rfl),fun e'=>by (rw [e'];exact intKind_is prog w k t)⟩
   constructor
   ·rintro (rfl | ⟨u,hu,q⟩)
    ·exact ⟨_,List.mem_cons_self,this.mpr rfl⟩
    ·exact ⟨u,List.mem_cons_of_mem _ hu,q⟩
   ·rintro ⟨u,hu,q⟩
    rcases List.mem_cons.mp hu with rfl | hu
    ·exact .inl (this.mp q)
    ·exact .inr ⟨u,hu,q⟩
 obtain ⟨ns,h1,h2⟩:=key out fun v hv=>hp.mem_iff.mp hv
 refine ⟨ns,h1,fun k=>(h2 k).trans ⟨fun ⟨v,hv,q⟩=>?_,fun ⟨e,he,q⟩=>⟨e.2,hp.mem_iff.mpr (List.mem_map.mpr ⟨e,he,rfl⟩),q⟩⟩⟩
 obtain ⟨e,he,ee⟩:=List.mem_map.mp (hp.mem_iff.mp hv)
 exact ⟨e,he,by rw [ee];exact q⟩
theorem sorted_setU {ns:List Int} {Q:Value→Shared→Prop} (hh:A.handled=none) (hS:SetU prog w s.heap a (fun k=>(firstMet (fun i=>ns.getD i 0) ns.length).any (· ==k)) (firstMet (fun i=>ns.getD i 0) ns.length).length) (h64:ns.length < 64)
  (h:∀ (h':Heap) d tk (l:Addr) (n:Nat) (out:Array Value) (ms:List Int),(∀ b o,s.heap.get? b=some o→h'.get? b=some o)→s.heap.objs.size≤l→h'.get? l=some (seqObj "list" out n)→IntsAre out.toList ms→Nub ns ms→ms.length≤ns.length→Q (.ref l) { s with heap:=h',drawn:=d,toks:=tk }):
  wpAny (model prog w) A (call (.builtin "sorted") [.ref a]) Q E s:=by
 obtain ⟨o,es,ep,t,ho,hel,hm,hb,hf,hn,hU⟩:=hS
 have hle:=firstMet_length_le (fun i=>ns.getD i 0) ns.length
 have hz:(firstMet (fun i=>ns.getD i 0) ns.length).length≤sizeLine:=by rw [sizeLine_eq];omega
 refine Calls.call_function_entry kind_sorted plain_sorted entry_sorted (args_sorted1 _) ?_
 unfold Builtin.«sorted»
 refine wpAny_bind (m:=checkCount "sorted" 1 1 _) (wpAny_pure ?_)
 refine wpAny_bind (collect_set (by simpa using hh) ⟨o,ho.1,ho.2.1.1⟩ ⟨o,ho.1,ho.2.2⟩ hf hn hz hU fun h1 d tk vs k1 hz1 hp=>?_)
 obtain ⟨ns1,hI,hmem⟩:=ints_of_set hel hp
 have hvl:vs.length=(firstMet (fun i=>ns.getD i 0) ns.length).length:=by rw [hp.length_eq,List.length_map,Array.length_toList,hn]
 have hnl:ns1.length=(firstMet (fun i=>ns.getD i 0) ns.length).length:=by rw [←IntsAre.length hI,hvl]
 have pm:(firstMet (fun i=>ns.getD i 0) ns.length).Perm ns1:=perm_of_len (met_nodup _ _) (fun x hx=>(hmem x).mpr ((hm x).mp (List.any_eq_true.mpr ⟨x,hx,beq_self_eq_true _⟩))) hnl
 refine wpAny_bind (wpAny_newList ?_ (by rw [hvl];exact hz))
 have hk1:(h1.push (seqObj "list" vs.toArray 0)).get? h1.objs.size=some (seqObj "list" vs.toArray 0):=Heap.get?_push_size _ rfl
 show wpAny _ _ _ _ _ { s with heap:=h1.push (seqObj "list" vs.toArray 0),drawn:=d,toks:=tk }
 refine wpAny_bind (wpAny_holding (wpAny_call_entry slot_list_sort ⟨_,hk1,rfl⟩ entry_list_sort (list_sort_tree hk1 hI (by omega) fun out ms a1 a2 a3=>⟨_,rfl,?_⟩) (args_list_sort _)))
 have hnew:=sortedHeap_new (out:=out) hk1
 obtain ⟨n,hn'⟩:=hnew
 refine wpAny_pure ⟨_,rfl,h _ d tk h1.objs.size n out ms (fun b o e=>sortedHeap_keep (Nat.ne_of_lt (Heap.lt_size (k1 b o e))) (Heap.get?_push_of_some _ (k1 b o e))) hz1 hn' a1 ⟨lt_of_le_nd a3 ?_,fun k=>?_⟩ ?_⟩
 ·exact (a2.trans pm.symm).nodup_iff.mpr (met_nodup _ _)
 ·rw [(a2.trans pm.symm).mem_iff,met_mem]
 ·rw [(a2.trans pm.symm).length_eq];exact hle
end
section
variable {X:Cx}
theorem Inv.drawn {pins:List (Addr×Obj)} {σ:St} {H:Hp} {s:Shared} (I:Inv X pins σ H s) (d:Drawn):Inv X pins σ H { s with drawn:=d }:=⟨I.ok,I.os,I.bare,I.base,I.loc,I.cell,I.free,I.freeC,I.pin,I.hok,I.len⟩
noncomputable def tSortSet (K:PySem.W.Frag) (ta:TA):TE:=fun σ H Q=>ta σ H fun vs H1=>∃ (p:Addr) (ns:List Int),vs=[.ref p]∧SqL K H1 p (ns.map V.int)∧ns.length < 64∧
 ∀ (l:Addr) (ms:List Int),H1 l=none→Nub ns ms→Q (.ref l) (upd H1 l (.lst (ms.map V.int)))
theorem pe_sortSet {e:Expr} {ta:TA} {p1 p2 p3 p4:Pos} (hc:X.calm=true) (hg:Gl X "sorted") (hm:X.mg "sorted"=none) (hg2:Gl X "set") (hm2:X.mg "set"=none) (ha:PA X [e] ta) (hs:starEach [e] X.env=[(false,eval e X.env)]:=by rfl)
  (hs2:starEach [Expr.Call (.Name "set" p2) [e] [] p3] X.env=[(false,eval (.Call (.Name "set" p2) [e] [] p3) X.env)]:=by rfl):
  PE X (.Call (.Name "sorted" p1) [.Call (.Name "set" p2) [e] [] p3] [] p4) (tSortSet X.K ta):=by
 intro pins s σ H Q I h
 refine wpAny_Call_Name_kw (ld_blt I hg hm bt_sorted (PyProof.Rows.callWith_builtin1 ?_ hs2 rfl) (by decide) (by decide))
 rw [hs2]
 show wpAny _ _ (spliced ((false,eval (.Call (.Name "set" p2) [e] [] p3) X.env)::backTo p4 [])) _ _ s
 refine Calls.spliced_cons (Call_ (ld_blt I hg2 hm2 bt_set (PyProof.Rows.callWith_type1 (thn (ha p3 pins s σ H _ I h) fun us s1 ⟨vs,H1,I1,r1,q1⟩=>?_) hs rfl)))
 obtain ⟨b,ns,e,hq,hz1,q⟩:=q1
 subst e
 obtain ⟨u,rfl,rx⟩:=Vals.one r1
 obtain rfl:u=Value.ref b:=rx
 obtain ⟨its,rv,pl,hz⟩:=I1.list hq
 have hi:=intsAre_of rv
 have hsz:its.toArray.size=ns.length:=by rw [List.size_toArray,←rv.length,List.length_map]
 have hsc:its.toArray.size + 1 < scanBound:=Nat.lt_of_le_of_lt (Nat.succ_le_of_lt (by rw [hsz];exact hz1)) (by decide)
 refine call_setU (I1.ok.hd hc) pl.isList hi hsc fun h' tk hS hk=>?_
 have I2:Inv X pins σ H1 { s1 with heap:=h',toks:=tk }:=I1.kept fun c o e=>hk c o e
 refine Calls.spliced_nil ?_
 rw [hsz] at hS
 refine sorted_setU (s:={ s1 with heap:=h',toks:=tk }) (I1.ok.hd hc) hS hz1 fun h2 d tk2 l n out ms k2 hl ho ia nb hle=>?_
 have hv:=vals_intsA ia
 refine ⟨.ref l,_,(I2.drawn d).laid (t':=tk2) (o:=.lst (ms.map V.int)) k2 hl ⟨?_,out.toList,n,hv,by simpa using ho⟩,rfl,q l ms (I2.hok.fresh hl) nb⟩
 rw [List.length_map,sizeLine_eq]
 omega
theorem k_sortSet (K:PySem.W.Frag) {e:Expr} {ta:TA} {p1 p2 p3 p4:Pos} (hg:Gl X "sorted") (hm:X.mg "sorted"=none) (hg2:Gl X "set") (hm2:X.mg "set"=none) (ha:PA X [e] ta) (hc:X.calm=true:=by rfl) (h:X.K=K:=by rfl) (hs:starEach [e] X.env=[(false,eval e X.env)]:=by rfl)
  (hs2:starEach [Expr.Call (.Name "set" p2) [e] [] p3] X.env=[(false,eval (.Call (.Name "set" p2) [e] [] p3) X.env)]:=by rfl):
  PE X (.Call (.Name "sorted" p1) [.Call (.Name "set" p2) [e] [] p3] [] p4) (tSortSet K ta):=h▸pe_sortSet hc hg hm hg2 hm2 ha hs hs2
theorem rd_sortSet {K:PySem.W.Frag} {σ:St} {H:Hp} {Q:VK} {ta:TA} (h:ta σ H fun vs H1=>∃ (p:Addr) (ns:List Int),vs=[.ref p]∧SqL K H1 p (ns.map V.int)∧ns.length < 64∧∀ (l:Addr) (ms:List Int),H1 l=none→Nub ns ms→Q (.ref l) (upd H1 l (.lst (ms.map V.int)))):tSortSet K ta σ H Q:=h
end
end L2
namespace L2
open PySem PySem.Spec PyProof.Rows
theorem paired_at {α β:Type} {R:α→β→Prop}:∀ {xs:List α} {ys:List β},Paired R xs ys→∀ {i:Nat} {y:β},ys[i]? =some y→∃ x,xs[i]? =some x∧R x y
 | _,_,.nil,i,y,h=>by simp at h
 | _,_,.cons r _,0,y,h=>by simp at h;exact ⟨_,rfl,h▸r⟩
 | _,_,.cons r rs,i + 1,y,h=>by
  obtain ⟨x,hx,rx⟩:=paired_at rs (i:=i) (by simpa using h)
  exact ⟨x,by simpa using hx,rx⟩
section
variable {X:Cx}
noncomputable def tMaxVals (td:TE):TE:=fun σ H Q=>td σ H fun x H1=>∃ (a:Addr) (kvs:List (Key×Int)),x=.ref a∧H1 a=some (.dK (kvs.map fun p=>(p.1,V.int p.2)))∧kvs≠[]∧∀ m:Int,(∃ p∈kvs,p.2=m)→(∀ p∈kvs,p.2≤m)→Q (.int m) H1
theorem pe_maxVals {o:Expr} {td:TE} {p1 p4 apos cpos:Pos} (hc:X.calm=true) (hg:Gl X "max") (hm:X.mg "max"=none) (ho:PE X o td)
  (hs2:starEach [Expr.Call (.Attribute o "values" apos) [] [] cpos] X.env=[(false,eval (.Call (.Attribute o "values" apos) [] [] cpos) X.env)]:=by rfl)
  (hbase:attributeBase o "values" X.env (eval o X.env)=eval o X.env:=by rfl) (hline:(apos.endLine==cpos.line)=true:=by rfl):
  PE X (.Call (.Name "max" p1) [.Call (.Attribute o "values" apos) [] [] cpos] [] p4) (tMaxVals td):=by
 intro pins s σ H Q I h
 refine wpAny_Call_Name_kw (ld_blt I hg hm (show bootBuiltins "max"=some (.builtin "max") by first | rfl | exact bt_max) (PyProof.Rows.callWith_builtin1 ?_ hs2 rfl) (by decide) (by decide))
 rw [hs2]
 show wpAny _ _ (spliced ((false,eval (.Call (.Attribute o "values" apos) [] [] cpos) X.env)::backTo p4 [])) _ _ s
 refine Calls.spliced_cons (wpAny_Call_method hbase rfl hline PySem.F.plainAttrs_dict PySem.F.slot_dict_values PySem.F.type_dict_values (thn (ho pins s σ H _ I h) fun u s1 ⟨x,H1,I1,rx,a,kvs,ex,ea,ne,q⟩=>?_))
 subst ex
 obtain rfl:u=Value.ref a:=rx
 obtain ⟨t1,t2,lo⟩:=isD_at I1 (.inl ⟨_,.inl ea⟩)
 refine ⟨t1,t2,?_⟩
 obtain ⟨_,_,vs,rel,dd⟩:=dk_of I1.hok ea
 refine Calls.callWith_builtin rfl (PySem.evalArgs_none ?_)
 refine call_meetsIn PySem.F.slot_dict_values dd.typeIs PySem.F.entry_dict_values (PySem.F.args_dict_values_1 _) (meets_dict_values (mixKind X.prog X.w) a lo) ⟨⟨vs,dd⟩,?_⟩
 refine Calls.spliced_nil ?_
 have hlen:vs.length=kvs.length:=by
  have:=Paired.length rel
  rw [List.length_map] at this
  exact this.symm
 let val:Nat→Int:=fun i=>(kvs[i]?.map (·.2)).getD 0
 have hval:∀ (i:Nat) (v:Value),(∃ k,vs[i]? =some (k,v))→∃ t,v=Value.int (val i) t:=by
  rintro i v ⟨k,e⟩
  obtain ⟨x,hx,_,rx⟩:=paired_at rel e
  rw [List.getElem?_map] at hx
  cases e2:kvs[i]? with
  | none=>rw [e2] at hx;cases hx
  | some p=>
   rw [e2] at hx
   cases hx
   obtain ⟨t,et⟩:=rx
   refine ⟨t,(show v=Value.int p.2 t from et).trans ?_⟩
   show _=Value.int ((kvs[i]?.map (·.2)).getD 0) t
   rw [e2]
   rfl
 generalize hG:s1.heap.push { cls:=Value.type "dict_values",data:=Data.fields #[Value.ref a] }=G
 have k1:∀ b u,s1.heap.get? b=some u→G.get? b=some u:=fun b u e=>by rw [←hG];exact Heap.get?_push_of_some _ e
 have hv:G.IsValuesView s1.heap.objs.size a:=by rw [←hG];exact ⟨_,Heap.get?_push_size _ rfl,rfl,rfl⟩
 obtain ⟨ep,dat⟩:=dd.dictAt
 have dat1:G.DictAt (mixKind X.prog X.w) a vs ep:=dat.at' fun u e=>k1 a u e
 refine call_max_walk (wpAny_pyIter_values (s:={ s1 with heap:=G }) hv dat1 ?_)
 refine ⟨_,_,_,_,_,_,_,rfl,Walks.dictValues (A:=X.A.in1) (I1.ok.hd hc) _ a (Nat.ne_of_lt dat1.lt_size) vs ep,⟨⟨_,Heap.get?_push_size _ rfl,rfl,rfl⟩,dat1.push _⟩,fun b hb=>?_,?_,CmpOf.ints_gt val hval,fun v h' tk hP hk=>?_⟩
 ·rw [Heap.size_push]
  rcases List.mem_cons.mp hb with rfl | hb
  ·exact Nat.lt_succ_self _
  ·rw [List.mem_singleton.mp hb]
   exact Nat.lt_succ_of_lt dat1.lt_size
 ·rw [hlen]
  exact List.length_pos_iff.mpr ne
 ·have hp:0 < kvs.length:=List.length_pos_iff.mpr ne
  have B:=argBest_gt val (vs.length - 1)
  obtain ⟨t,et⟩:=hval _ v hP
  have hin:argBest (fun i j=>decide (val i > val j)) (vs.length - 1) < kvs.length:=by omega
  have vi:∀ i (hi:i < kvs.length),val i=(kvs[i]).2:=fun i hi=>by
   show (kvs[i]?.map (·.2)).getD 0=_
   rw [List.getElem?_eq_getElem hi]
   rfl
  refine ⟨.int (val (argBest (fun i j=>decide (val i > val j)) (vs.length - 1))),H1,?_,⟨t,et⟩,q _ ⟨_,List.getElem_mem hin,(vi _ hin).symm⟩ fun p hp'=>?_⟩
  ·refine I1.kept fun b u e=>hk b u (fun z=>?_) (Heap.get?_push_of_some _ (k1 b u e))
   rw [List.mem_singleton] at z
   have:=Heap.lt_size (k1 b u e)
   rw [z] at this
   exact Nat.lt_irrefl _ this
  ·obtain ⟨i,hi,e⟩:=List.getElem_of_mem hp'
   have:=B.2 i (by omega)
   rw [vi i hi,e] at this
   exact this
theorem k_maxVals {o:Expr} {td:TE} {p1 p4 apos cpos:Pos} (hg:Gl X "max") (hm:X.mg "max"=none) (ho:PE X o td) (hc:X.calm=true:=by rfl)
  (hs2:starEach [Expr.Call (.Attribute o "values" apos) [] [] cpos] X.env=[(false,eval (.Call (.Attribute o "values" apos) [] [] cpos) X.env)]:=by rfl)
  (hbase:attributeBase o "values" X.env (eval o X.env)=eval o X.env:=by rfl) (hline:(apos.endLine==cpos.line)=true:=by rfl):
  PE X (.Call (.Name "max" p1) [.Call (.Attribute o "values" apos) [] [] cpos] [] p4) (tMaxVals td):=pe_maxVals hc hg hm ho hs2 hbase hline
theorem rd_maxVals {σ:St} {H:Hp} {Q:VK} {td:TE} (h:td σ H fun x H1=>∃ (a:Addr) (kvs:List (Key×Int)),x=.ref a∧H1 a=some (.dK (kvs.map fun p=>(p.1,V.int p.2)))∧kvs≠[]∧∀ m:Int,(∃ p∈kvs,p.2=m)→(∀ p∈kvs,p.2≤m)→Q (.int m) H1):tMaxVals td σ H Q:=h
end
end L2
namespace My
open PySem L2
noncomputable def top (i:Nat):Stmt:=PySem.Challenge.pw_noticed_k07_whole_changed.main.body.getD i (.Pass ⟨0,0,0,0⟩)
noncomputable abbrev s_is_whole:Stmt:=top 10
noncomputable abbrev s_is_thing:Stmt:=top 11
noncomputable abbrev s_is_pair:Stmt:=top 12
noncomputable abbrev s_is_rising:Stmt:=top 13
noncomputable abbrev s_is_order:Stmt:=top 14
noncomputable abbrev s_is_step:Stmt:=top 15
noncomputable abbrev s_is_numbers:Stmt:=top 16
noncomputable abbrev s_need_order:Stmt:=top 17
noncomputable abbrev s_need_step:Stmt:=top 18
noncomputable abbrev s_need_numbers:Stmt:=top 19
noncomputable abbrev s_bars_as_two:Stmt:=top 21
noncomputable abbrev s_bars_as_three:Stmt:=top 22
noncomputable abbrev s_first_two:Stmt:=top 23
noncomputable abbrev s_first_three:Stmt:=top 24
noncomputable abbrev s_bar:Stmt:=top 25
noncomputable abbrev s_need_unbarred:Stmt:=top 26
noncomputable abbrev s_demand:Stmt:=top 28
noncomputable abbrev s_all_demands:Stmt:=top 29
noncomputable abbrev s_raise_once:Stmt:=top 30
noncomputable abbrev s_raise_all:Stmt:=top 31
noncomputable abbrev s_least_values:Stmt:=top 32
noncomputable abbrev s_numbers:Stmt:=top 33
noncomputable abbrev s_least:Stmt:=top 34
noncomputable abbrev s_told_pairs:Stmt:=top 36
noncomputable abbrev s_told:Stmt:=top 37
noncomputable abbrev s_fits:Stmt:=top 38
noncomputable abbrev s_height:Stmt:=top 40
noncomputable abbrev s_things_at:Stmt:=top 41
noncomputable abbrev s_row:Stmt:=top 42
noncomputable abbrev s_longest:Stmt:=top 43
noncomputable abbrev s__law_cell_at:Stmt:=top 45
noncomputable abbrev s__law_mixed:Stmt:=top 46
noncomputable abbrev s__law_draw:Stmt:=top 47
noncomputable abbrev s__law_pick:Stmt:=top 48
noncomputable abbrev s__law_by:Stmt:=top 49
noncomputable abbrev s__law_order:Stmt:=top 50
noncomputable abbrev s_law:Stmt:=top 51
theorem sc_is_whole:FnScope ["value","low","high"] ["value","low","high"] (defScope s_is_whole):=⟨rfl,rfl,rfl,by decide +kernel,rfl,by decide +kernel,by decide +kernel⟩
theorem sc_is_thing:FnScope ["value","many"] ["value","many"] (defScope s_is_thing):=⟨rfl,rfl,rfl,by decide +kernel,rfl,by decide +kernel,by decide +kernel⟩
theorem sc_is_pair:FnScope ["value","many"] ["value","many"] (defScope s_is_pair):=⟨rfl,rfl,rfl,by decide +kernel,rfl,by decide +kernel,by decide +kernel⟩
theorem sc_is_rising:FnScope ["pairs"] ["pairs"] (defScope s_is_rising):=⟨rfl,rfl,rfl,by decide +kernel,rfl,by decide +kernel,by decide +kernel⟩
theorem sc_is_order:FnScope ["value","many","pairs"] ["value"] (defScope s_is_order):=⟨rfl,rfl,rfl,by decide +kernel,rfl,by decide +kernel,by decide +kernel⟩
theorem sc_is_step:FnScope ["value"] ["value"] (defScope s_is_step):=⟨rfl,rfl,rfl,by decide +kernel,rfl,by decide +kernel,by decide +kernel⟩
theorem sc_is_numbers:FnScope ["value","fewest","most"] ["value","fewest","most"] (defScope s_is_numbers):=⟨rfl,rfl,rfl,by decide +kernel,rfl,by decide +kernel,by decide +kernel⟩
theorem sc_need_order:FnScope ["value"] ["value"] (defScope s_need_order):=⟨rfl,rfl,rfl,by decide +kernel,rfl,by decide +kernel,by decide +kernel⟩
theorem sc_need_step:FnScope ["value"] ["value"] (defScope s_need_step):=⟨rfl,rfl,rfl,by decide +kernel,rfl,by decide +kernel,by decide +kernel⟩
theorem sc_need_numbers:FnScope ["value","fewest","most"] ["value","fewest","most"] (defScope s_need_numbers):=⟨rfl,rfl,rfl,by decide +kernel,rfl,by decide +kernel,by decide +kernel⟩
theorem sc_bars_as_two:FnScope ["pairs","a","b","c","d"] ["pairs","a","b","c","d"] (defScope s_bars_as_two):=⟨rfl,rfl,rfl,by decide +kernel,rfl,by decide +kernel,by decide +kernel⟩
theorem sc_bars_as_three:FnScope ["pairs","a","b","c","d"] ["pairs","a","b","c","d"] (defScope s_bars_as_three):=⟨rfl,rfl,rfl,by decide +kernel,rfl,by decide +kernel,by decide +kernel⟩
theorem sc_first_two:FnScope ["pairs","a","b","c","d"] ["pairs"] (defScope s_first_two):=⟨rfl,rfl,rfl,by decide +kernel,rfl,by decide +kernel,by decide +kernel⟩
theorem sc_first_three:FnScope ["many","pairs","a","b","c","d"] ["many","pairs"] (defScope s_first_three):=⟨rfl,rfl,rfl,by decide +kernel,rfl,by decide +kernel,by decide +kernel⟩
theorem sc_bar:FnScope ["order","found"] ["order"] (defScope s_bar):=⟨rfl,rfl,rfl,by decide +kernel,rfl,by decide +kernel,by decide +kernel⟩
theorem sc_need_unbarred:FnScope ["order"] ["order"] (defScope s_need_unbarred):=⟨rfl,rfl,rfl,by decide +kernel,rfl,by decide +kernel,by decide +kernel⟩
theorem sc_demand:FnScope ["pairs","step","one","other"] ["pairs","step","one","other"] (defScope s_demand):=⟨rfl,rfl,rfl,by decide +kernel,rfl,by decide +kernel,by decide +kernel⟩
theorem sc_all_demands:FnScope ["order","step","demands","one","other","by"] ["order","step"] (defScope s_all_demands):=⟨rfl,rfl,rfl,by decide +kernel,rfl,by decide +kernel,by decide +kernel⟩
theorem sc_raise_once:FnScope ["demands","values","origins","raised","one","other","by"] ["demands","values","origins"] (defScope s_raise_once):=⟨rfl,rfl,rfl,by decide +kernel,rfl,by decide +kernel,by decide +kernel⟩
theorem sc_raise_all:FnScope ["demands","values","origins","raised","turn"] ["demands","values","origins"] (defScope s_raise_all):=⟨rfl,rfl,rfl,by decide +kernel,rfl,by decide +kernel,by decide +kernel⟩
theorem sc_least_values:FnScope ["many","demands","values"] ["many","demands"] (defScope s_least_values):=⟨rfl,rfl,rfl,by decide +kernel,rfl,by decide +kernel,by decide +kernel⟩
theorem sc_numbers:FnScope ["order","step"] ["order","step"] (defScope s_numbers):=⟨rfl,rfl,rfl,by decide +kernel,rfl,by decide +kernel,by decide +kernel⟩
theorem sc_least:FnScope ["order","step","found"] ["order"] (defScope s_least):=⟨rfl,rfl,rfl,by decide +kernel,rfl,by decide +kernel,by decide +kernel⟩
theorem sc_told_pairs:FnScope ["step","numbers","pairs","one","other"] ["step","numbers"] (defScope s_told_pairs):=⟨rfl,rfl,rfl,by decide +kernel,rfl,by decide +kernel,by decide +kernel⟩
theorem sc_told:FnScope ["step","numbers"] ["step","numbers"] (defScope s_told):=⟨rfl,rfl,rfl,by decide +kernel,rfl,by decide +kernel,by decide +kernel⟩
theorem sc_fits:FnScope ["order","step","numbers"] ["order","step","numbers"] (defScope s_fits):=⟨rfl,rfl,rfl,by decide +kernel,rfl,by decide +kernel,by decide +kernel⟩
theorem sc_height:FnScope ["pairs","thing","less","more"] ["pairs","thing"] (defScope s_height):=⟨rfl,rfl,rfl,by decide +kernel,rfl,by decide +kernel,by decide +kernel⟩
theorem sc_things_at:FnScope ["heights","level"] ["heights","level"] (defScope s_things_at):=⟨rfl,rfl,rfl,by decide +kernel,rfl,by decide +kernel,by decide +kernel⟩
theorem sc_row:FnScope ["order","heights"] ["order"] (defScope s_row):=⟨rfl,rfl,rfl,by decide +kernel,rfl,by decide +kernel,by decide +kernel⟩
theorem sc_longest:FnScope ["order","lengths","things","thing","ahead"] ["order"] (defScope s_longest):=⟨rfl,rfl,rfl,by decide +kernel,rfl,by decide +kernel,by decide +kernel⟩
theorem sc__law_cell_at:FnScope ["_law_script","_law_k"] ["_law_script","_law_k"] (defScope s__law_cell_at):=⟨rfl,rfl,rfl,by decide +kernel,rfl,by decide +kernel,by decide +kernel⟩
theorem sc__law_mixed:FnScope ["_law_script","_law_k","_law_many","_law_drawn"] ["_law_script","_law_k","_law_many"] (defScope s__law_mixed):=⟨rfl,rfl,rfl,by decide +kernel,rfl,by decide +kernel,by decide +kernel⟩
theorem sc__law_draw:FnScope ["_law_script","_law_town","_law_many"] ["_law_script","_law_town","_law_many"] (defScope s__law_draw):=⟨rfl,rfl,rfl,by decide +kernel,rfl,by decide +kernel,by decide +kernel⟩
theorem sc__law_pick:FnScope ["_law_script","_law_town","_law_some"] ["_law_script","_law_town","_law_some"] (defScope s__law_pick):=⟨rfl,rfl,rfl,by decide +kernel,rfl,by decide +kernel,by decide +kernel⟩
theorem sc__law_by:FnScope ["_law_step","_law_longs","_law_pairs","_law_one","_law_other"] ["_law_step","_law_longs"] (defScope s__law_by):=⟨rfl,rfl,rfl,by decide +kernel,rfl,by decide +kernel,by decide +kernel⟩
theorem sc__law_order:FnScope ["_law_script","_law_town","_law_most","_law_many","_law_k","_law_longs","_law_order_here","_law_pairs","_law_one","_law_other"] ["_law_script","_law_town","_law_most"] (defScope s__law_order):=⟨rfl,rfl,rfl,by decide +kernel,rfl,by decide +kernel,by decide +kernel⟩
theorem sc_law:FnScope ["_law_script","_law_town","_law_order_here","_law_many","_law_pairs","_law_names","_law_left","_law_named","_law_about","_law_like","_law_more","_law_wide","_law_free","_law_step","_law_longs","_law_times","_law_gone","_law_rest","_law_less"] ["_law_script"] (defScope s_law):=⟨rfl,rfl,rfl,by decide +kernel,rfl,by decide +kernel,by decide +kernel⟩
set_option genSizeOf false in
set_option genInjectivity false in
structure Ad where
 a_is_whole:Addr
 d_is_whole:FuncData
 a_is_thing:Addr
 d_is_thing:FuncData
 a_is_pair:Addr
 d_is_pair:FuncData
 a_is_rising:Addr
 d_is_rising:FuncData
 a_is_order:Addr
 d_is_order:FuncData
 a_is_step:Addr
 d_is_step:FuncData
 a_is_numbers:Addr
 d_is_numbers:FuncData
 a_need_order:Addr
 d_need_order:FuncData
 a_need_step:Addr
 d_need_step:FuncData
 a_need_numbers:Addr
 d_need_numbers:FuncData
 a_bars_as_two:Addr
 d_bars_as_two:FuncData
 a_bars_as_three:Addr
 d_bars_as_three:FuncData
 a_first_two:Addr
 d_first_two:FuncData
 a_first_three:Addr
 d_first_three:FuncData
 a_bar:Addr
 d_bar:FuncData
 a_need_unbarred:Addr
 d_need_unbarred:FuncData
 a_demand:Addr
 d_demand:FuncData
 a_all_demands:Addr
 d_all_demands:FuncData
 a_raise_once:Addr
 d_raise_once:FuncData
 a_raise_all:Addr
 d_raise_all:FuncData
 a_least_values:Addr
 d_least_values:FuncData
 a_numbers:Addr
 d_numbers:FuncData
 a_least:Addr
 d_least:FuncData
 a_told_pairs:Addr
 d_told_pairs:FuncData
 a_told:Addr
 d_told:FuncData
 a_fits:Addr
 d_fits:FuncData
 a_height:Addr
 d_height:FuncData
 a_things_at:Addr
 d_things_at:FuncData
 a_row:Addr
 d_row:FuncData
 a_longest:Addr
 d_longest:FuncData
 a__law_cell_at:Addr
 d__law_cell_at:FuncData
 a__law_mixed:Addr
 d__law_mixed:FuncData
 a__law_draw:Addr
 d__law_draw:FuncData
 a__law_pick:Addr
 d__law_pick:FuncData
 a__law_by:Addr
 d__law_by:FuncData
 a__law_order:Addr
 d__law_order:FuncData
 a_law:Addr
 d_law:FuncData
structure Txt (K:PySem.W.Frag) (mg:Str→Option Value) (t:Ad):Prop where
 m_is_whole:mg "is_whole"=some (.ref t.a_is_whole)
 F_is_whole:Fun K "is_whole" "is_whole" s_is_whole t.a_is_whole t.d_is_whole
 b_is_whole:Binds K t.d_is_whole ["value","low","high"] []
 m_is_thing:mg "is_thing"=some (.ref t.a_is_thing)
 F_is_thing:Fun K "is_thing" "is_thing" s_is_thing t.a_is_thing t.d_is_thing
 b_is_thing:Binds K t.d_is_thing ["value","many"] []
 m_is_pair:mg "is_pair"=some (.ref t.a_is_pair)
 F_is_pair:Fun K "is_pair" "is_pair" s_is_pair t.a_is_pair t.d_is_pair
 b_is_pair:Binds K t.d_is_pair ["value","many"] []
 m_is_rising:mg "is_rising"=some (.ref t.a_is_rising)
 F_is_rising:Fun K "is_rising" "is_rising" s_is_rising t.a_is_rising t.d_is_rising
 b_is_rising:Binds K t.d_is_rising ["pairs"] []
 m_is_order:mg "is_order"=some (.ref t.a_is_order)
 F_is_order:Fun K "is_order" "is_order" s_is_order t.a_is_order t.d_is_order
 b_is_order:Binds K t.d_is_order ["value"] []
 m_is_step:mg "is_step"=some (.ref t.a_is_step)
 F_is_step:Fun K "is_step" "is_step" s_is_step t.a_is_step t.d_is_step
 b_is_step:Binds K t.d_is_step ["value"] []
 m_is_numbers:mg "is_numbers"=some (.ref t.a_is_numbers)
 F_is_numbers:Fun K "is_numbers" "is_numbers" s_is_numbers t.a_is_numbers t.d_is_numbers
 b_is_numbers:Binds K t.d_is_numbers ["value","fewest","most"] []
 m_need_order:mg "need_order"=some (.ref t.a_need_order)
 F_need_order:Fun K "need_order" "need_order" s_need_order t.a_need_order t.d_need_order
 b_need_order:Binds K t.d_need_order ["value"] []
 m_need_step:mg "need_step"=some (.ref t.a_need_step)
 F_need_step:Fun K "need_step" "need_step" s_need_step t.a_need_step t.d_need_step
 b_need_step:Binds K t.d_need_step ["value"] []
 m_need_numbers:mg "need_numbers"=some (.ref t.a_need_numbers)
 F_need_numbers:Fun K "need_numbers" "need_numbers" s_need_numbers t.a_need_numbers t.d_need_numbers
 b_need_numbers:Binds K t.d_need_numbers ["value","fewest","most"] []
 m_bars_as_two:mg "bars_as_two"=some (.ref t.a_bars_as_two)
 F_bars_as_two:Fun K "bars_as_two" "bars_as_two" s_bars_as_two t.a_bars_as_two t.d_bars_as_two
 b_bars_as_two:Binds K t.d_bars_as_two ["pairs","a","b","c","d"] []
 m_bars_as_three:mg "bars_as_three"=some (.ref t.a_bars_as_three)
 F_bars_as_three:Fun K "bars_as_three" "bars_as_three" s_bars_as_three t.a_bars_as_three t.d_bars_as_three
 b_bars_as_three:Binds K t.d_bars_as_three ["pairs","a","b","c","d"] []
 m_first_two:mg "first_two"=some (.ref t.a_first_two)
 F_first_two:Fun K "first_two" "first_two" s_first_two t.a_first_two t.d_first_two
 b_first_two:Binds K t.d_first_two ["pairs"] []
 m_first_three:mg "first_three"=some (.ref t.a_first_three)
 F_first_three:Fun K "first_three" "first_three" s_first_three t.a_first_three t.d_first_three
 b_first_three:Binds K t.d_first_three ["many","pairs"] []
 m_bar:mg "bar"=some (.ref t.a_bar)
 F_bar:Fun K "bar" "bar" s_bar t.a_bar t.d_bar
 b_bar:Binds K t.d_bar ["order"] []
 m_need_unbarred:mg "need_unbarred"=some (.ref t.a_need_unbarred)
 F_need_unbarred:Fun K "need_unbarred" "need_unbarred" s_need_unbarred t.a_need_unbarred t.d_need_unbarred
 b_need_unbarred:Binds K t.d_need_unbarred ["order"] []
 m_demand:mg "demand"=some (.ref t.a_demand)
 F_demand:Fun K "demand" "demand" s_demand t.a_demand t.d_demand
 b_demand:Binds K t.d_demand ["pairs","step","one","other"] []
 m_all_demands:mg "all_demands"=some (.ref t.a_all_demands)
 F_all_demands:Fun K "all_demands" "all_demands" s_all_demands t.a_all_demands t.d_all_demands
 b_all_demands:Binds K t.d_all_demands ["order","step"] []
 m_raise_once:mg "raise_once"=some (.ref t.a_raise_once)
 F_raise_once:Fun K "raise_once" "raise_once" s_raise_once t.a_raise_once t.d_raise_once
 b_raise_once:Binds K t.d_raise_once ["demands","values","origins"] []
 m_raise_all:mg "raise_all"=some (.ref t.a_raise_all)
 F_raise_all:Fun K "raise_all" "raise_all" s_raise_all t.a_raise_all t.d_raise_all
 b_raise_all:Binds K t.d_raise_all ["demands","values","origins"] []
 m_least_values:mg "least_values"=some (.ref t.a_least_values)
 F_least_values:Fun K "least_values" "least_values" s_least_values t.a_least_values t.d_least_values
 b_least_values:Binds K t.d_least_values ["many","demands"] []
 m_numbers:mg "numbers"=some (.ref t.a_numbers)
 F_numbers:Fun K "numbers" "numbers" s_numbers t.a_numbers t.d_numbers
 b_numbers:Binds K t.d_numbers ["order","step"] []
 m_least:mg "least"=some (.ref t.a_least)
 F_least:Fun K "least" "least" s_least t.a_least t.d_least
 b_least:Binds K t.d_least ["order"] []
 m_told_pairs:mg "told_pairs"=some (.ref t.a_told_pairs)
 F_told_pairs:Fun K "told_pairs" "told_pairs" s_told_pairs t.a_told_pairs t.d_told_pairs
 b_told_pairs:Binds K t.d_told_pairs ["step","numbers"] []
 m_told:mg "told"=some (.ref t.a_told)
 F_told:Fun K "told" "told" s_told t.a_told t.d_told
 b_told:Binds K t.d_told ["step","numbers"] []
 m_fits:mg "fits"=some (.ref t.a_fits)
 F_fits:Fun K "fits" "fits" s_fits t.a_fits t.d_fits
 b_fits:Binds K t.d_fits ["order","step","numbers"] []
 m_height:mg "height"=some (.ref t.a_height)
 F_height:Fun K "height" "height" s_height t.a_height t.d_height
 b_height:Binds K t.d_height ["pairs","thing"] []
 m_things_at:mg "things_at"=some (.ref t.a_things_at)
 F_things_at:Fun K "things_at" "things_at" s_things_at t.a_things_at t.d_things_at
 b_things_at:Binds K t.d_things_at ["heights","level"] []
 m_row:mg "row"=some (.ref t.a_row)
 F_row:Fun K "row" "row" s_row t.a_row t.d_row
 b_row:Binds K t.d_row ["order"] []
 m_longest:mg "longest"=some (.ref t.a_longest)
 F_longest:Fun K "longest" "longest" s_longest t.a_longest t.d_longest
 b_longest:Binds K t.d_longest ["order"] []
 m__law_cell_at:mg "_law_cell_at"=some (.ref t.a__law_cell_at)
 F__law_cell_at:Fun K "_law_cell_at" "_law_cell_at" s__law_cell_at t.a__law_cell_at t.d__law_cell_at
 b__law_cell_at:Binds K t.d__law_cell_at ["_law_script","_law_k"] []
 m__law_mixed:mg "_law_mixed"=some (.ref t.a__law_mixed)
 F__law_mixed:Fun K "_law_mixed" "_law_mixed" s__law_mixed t.a__law_mixed t.d__law_mixed
 b__law_mixed:Binds K t.d__law_mixed ["_law_script","_law_k","_law_many"] []
 m__law_draw:mg "_law_draw"=some (.ref t.a__law_draw)
 F__law_draw:Fun K "_law_draw" "_law_draw" s__law_draw t.a__law_draw t.d__law_draw
 b__law_draw:Binds K t.d__law_draw ["_law_script","_law_town","_law_many"] []
 m__law_pick:mg "_law_pick"=some (.ref t.a__law_pick)
 F__law_pick:Fun K "_law_pick" "_law_pick" s__law_pick t.a__law_pick t.d__law_pick
 b__law_pick:Binds K t.d__law_pick ["_law_script","_law_town","_law_some"] []
 m__law_by:mg "_law_by"=some (.ref t.a__law_by)
 F__law_by:Fun K "_law_by" "_law_by" s__law_by t.a__law_by t.d__law_by
 b__law_by:Binds K t.d__law_by ["_law_step","_law_longs"] []
 m__law_order:mg "_law_order"=some (.ref t.a__law_order)
 F__law_order:Fun K "_law_order" "_law_order" s__law_order t.a__law_order t.d__law_order
 b__law_order:Binds K t.d__law_order ["_law_script","_law_town","_law_most"] []
 m_law:mg "law"=some (.ref t.a_law)
 F_law:Fun K "law" "law" s_law t.a_law t.d_law
 b_law:Binds K t.d_law ["_law_script"] []
 n_all:mg "all"=none
 n_bool:mg "bool"=none
 n_int:mg "int"=none
 n_isinstance:mg "isinstance"=none
 n_len:mg "len"=none
 n_list:mg "list"=none
 n_max:mg "max"=none
 n_range:mg "range"=none
 n_set:mg "set"=none
 n_sorted:mg "sorted"=none
 n_tuple:mg "tuple"=none
 c_MOST_NUMBER:∃ tk,mg "MOST_NUMBER"=some (.int 9999 tk)
 c_MOST_STEP:∃ tk,mg "MOST_STEP"=some (.int 999 tk)
 c_MOST_THINGS:∃ tk,mg "MOST_THINGS"=some (.int 8 tk)
end My
local macro_rules | `(tactic| walk_at "rd")=>`(tactic| (repeat (first | with_reducible refine L2.rd_seq ?_ | with_reducible refine L2.rd_next ?_ | with_reducible refine L2.rd_ifS ?_ | with_reducible refine L2.rd_ret ?_ | with_reducible refine L2.rd_drop ?_ | with_reducible refine L2.rd_asg ?_ | with_reducible refine L2.rd_gname ?_ | ((with_reducible refine' L2.rd_var ?qe1 ?_);(case qe1=>exact rfl)) | with_reducible refine L2.rd_C ?_ | with_reducible refine L2.rd_for ?_ | with_reducible refine L2.rd_lc ?_ | with_reducible refine L2.rd_rng1 ?_ | with_reducible refine L2.rd_itup ?_ | with_reducible refine L2.rd_ilst ?_ | with_reducible refine L2.rd_yes ?_ | with_reducible refine L2.rd_ifE ?_ | with_reducible refine L2.rd_raise ?_ | with_reducible refine L2.rd_while ?_ | with_reducible refine L2.rd_gsub ?_ | with_reducible refine L2.rd_bm ?_ | with_reducible refine L2.rd_gcons ?_ | with_reducible refine L2.rd_gnil ?_ | with_reducible refine L2.rd_test ?_ | with_reducible refine L2.rd_B ?_ | with_reducible refine L2.rd_bl ?_ | with_reducible refine L2.rd_op ?_ | with_reducible refine L2.rd_un ?_ | with_reducible refine L2.rd_I0 ?_ | with_reducible refine L2.rd_and ?_ | with_reducible refine L2.rd_or ?_ | with_reducible refine L2.rd_not ?_ | with_reducible refine L2.rd_andV ?_ | with_reducible refine L2.rd_orV ?_ | with_reducible refine L2.rd_notV ?_ | with_reducible refine L2.rd_blE ?_ | with_reducible refine L2.rd_nil ?_ | with_reducible refine L2.rd_cons ?_ | with_reducible refine L2.rd_tup ?_ | with_reducible refine L2.rd_lst ?_ | with_reducible refine L2.rd_call ?_ | with_reducible refine L2.rd_cb ?_ | with_reducible refine L2.rd_chain ?_ | with_reducible refine L2.rd_eqI ?_ | with_reducible refine L2.rd_neI ?_ | with_reducible refine L2.rd_eqB ?_ | with_reducible refine L2.rd_neB ?_ | with_reducible refine L2.rd_isN ?_ | with_reducible refine L2.rd_notN ?_ | with_reducible refine L2.rd_max2 ?_ | with_reducible refine L2.rd_int1 ?_ | with_reducible refine L2.iteT ?_ | with_reducible refine L2.iteF ?_ | with_reducible refine L2.if_nn ?_ | with_reducible refine L2.if_rn ?_ | with_reducible refine L2.if_in ?_ | with_reducible refine L2.if_nnN ?_ | with_reducible refine L2.if_rnN ?_ | with_reducible refine L2.if_inN ?_ | with_reducible refine L2.ifNT ?_ | with_reducible refine L2.ifNF ?_ | ((with_reducible refine' L2.rd_isBool ?qe1 ?_);(case qe1=>assumption)) | ((with_reducible refine' L2.rd_isInt ?qe1 ?_);(case qe1=>assumption)) | ((with_reducible refine' L2.rd_isTup ?qe1 ?_);(case qe1=>assumption)) | ((with_reducible refine' L2.rd_isLst ?qe1 ?_);(case qe1=>assumption)) | ((with_reducible refine' L2.rd_isStr ?qe1 ?_);(case qe1=>assumption)) | ((with_reducible refine' L2.rd_all ?qe1 ?_);(case qe1=>assumption)) | ((with_reducible refine' L2.rd_any ?qe1 ?_);(case qe1=>assumption)) | ((with_reducible refine' L2.rd_lenT ?qe1 ?_);(case qe1=>assumption)) | ((with_reducible refine' L2.rd_lenL ?qe1 ?_);(case qe1=>assumption)) | ((with_reducible refine' L2.rd_tupL ?qe1 ?_);(case qe1=>assumption)) | ((with_reducible refine' L2.rd_ixT ?qe1 ?qf1 ?_);(case qe1=>assumption);(case qf1=>exact rfl)) | ((with_reducible refine' L2.rd_ixL ?qe1 ?qf1 ?_);(case qe1=>assumption);(case qf1=>exact rfl)) | ((with_reducible refine L2.ifT ?_ ?_);with_reducible rfl) | ((with_reducible refine L2.ifF ?_ ?_);with_reducible rfl) | (dsimp only))))
namespace My
open PySem L2
section
variable {P:Program} {w:World} {K:PySem.W.Frag} {mg:Str→Option Value} {base:Heap} {t:Ad}
noncomputable def wholeB (d:PyData) (lo hi:Int):Bool:=match d with | .int i=>decide (lo≤i)&&decide (i≤hi) | _=>false
set_option genSizeOf false in
set_option genInjectivity false in
inductive sp_is_whole (vs:List V) (H:Hp) (Q:VK) (zz3:XK):Prop where
 | mk (x lo hi d:_) (zh0:vs=[x,.int lo,.int hi]) (zh1:Is H x d) (zh2:Q (.bl (wholeB d lo hi)) H):sp_is_whole vs H Q zz3
theorem ok_is_whole (T:Txt K mg t):FnOk P w K mg base CX0 1 t.a_is_whole t.d_is_whole ["value","low","high"] sp_is_whole:=by
 refine T.F_is_whole.ok sc_is_whole (fun vs H Q E h=>?_) (fun cdv A outer s H vs Q E hr h=>?_)
 ·obtain ⟨x,lo,hi,d,rfl,_⟩:=h
  rfl
 ·obtain ⟨x,lo,hi,d,rfl,hx,q⟩:=h
  refine ⟨_,(pss_cons (ps_if (PW.pt (pw_or (pt_val (pe_callB c_isinst (by rfl) T.n_isinstance bt_isinstance (pa_cons (pv 0) (pa_cons (pe_bltn (v:=.ty "bool") rfl T.n_bool bt_bool rfl) pa_nil)))) (pw_or1 (pt_not (pt_val (pe_callB c_isinst (by rfl) T.n_isinstance bt_isinstance (pa_cons (pv 0) (pa_cons (pe_bltn (v:=.ty "int") rfl T.n_int bt_int rfl) pa_nil)))))))) (pss_one (ps_ret pe_bl)) pss_nil)
   (pss_one (ps_ret (pe_chain op_le op_le (pv 1) (pv 0) (pv 2))))),?_⟩
  walk_at "rd"
  have hx2:=hx
  cases hx with
  | int i=>
   walk_at "rd"
   refine ifB (fun h=>?_) (fun h=>?_) <;> walk_at "rd" <;> simpa [wholeB,h] using q
  | _=>walk_at "rd" <;> exact q
set_option genSizeOf false in
set_option genInjectivity false in
inductive sp_is_thing (vs:List V) (H:Hp) (Q:VK) (zz3:XK):Prop where
 | mk (x m d:_) (zh0:vs=[x,.int m]) (zh1:Is H x d) (zh2:Q (.bl (wholeB d 0 (m - 1))) H):sp_is_thing vs H Q zz3
theorem ok_is_thing (T:Txt K mg t):FnOk P w K mg base CX0 2 t.a_is_thing t.d_is_thing ["value","many"] sp_is_thing:=by
 refine T.F_is_thing.ok sc_is_thing (fun vs H Q E h=>?_) (fun cdv A outer s H vs Q E hr h=>?_)
 ·obtain ⟨x,m,d,rfl,_⟩:=h
  rfl
 ·obtain ⟨x,m,d,rfl,hx,q⟩:=h
  refine ⟨_,(pss_one (ps_ret (pe_call (ok_is_whole T) (hr.mono (by decide)) rfl T.m_is_whole T.F_is_whole.kp T.b_is_whole .nil pass0 (pa_cons (pv 0) (pa_cons pe_int (pa_cons (pe_op op_sub (pv 1) pe_int) pa_nil)))))),?_⟩
  walk_at "rd"
  exact ⟨_,_,_,_,rfl,hx,q⟩
noncomputable def prD (p:Int×Int):PyData:=.tuple [.int p.1,.int p.2]
noncomputable def pairB (d:PyData) (m:Int):Bool:=match d with | .tuple [a,b]=>wholeB a 0 (m - 1)&&wholeB b 0 (m - 1)&& !PyData.eqv a b | _=>false
set_option genSizeOf false in
set_option genInjectivity false in
inductive sp_is_pair (vs:List V) (H:Hp) (Q:VK) (zz3:XK):Prop where
 | mk (x m d:_) (zh0:vs=[x,.int m]) (zh1:Is H x d) (zh2:Q (.bl (pairB d m)) H):sp_is_pair vs H Q zz3
theorem pair_other {d:PyData} {m:Int} (h:∀ a b,d≠.tuple [a,b]):pairB d m=false:=by
 unfold pairB
 split
 ·rename_i a b
  exact absurd rfl (h a b)
 ·rfl
theorem isTup_no {d:PyData} (h:∀ ds,d≠.tuple ds):isTupD d=false:=by
 cases d <;> first | rfl | exact absurd rfl (h _)
theorem wholeB_int {d:PyData} {lo hi:Int} (h:wholeB d lo hi=true):∃ i:Int,d=.int i∧lo≤i∧i≤hi:=by
 unfold wholeB at h
 split at h
 ·rename_i i
  simp at h
  exact ⟨i,rfl,h.1,h.2⟩
 ·cases h
theorem ok_is_pair (T:Txt K mg t):FnOk P w K mg base CX0 3 t.a_is_pair t.d_is_pair ["value","many"] sp_is_pair:=by
 refine T.F_is_pair.ok sc_is_pair (fun vs H Q E h=>?_) (fun cdv A outer s H vs Q E hr h=>?_)
 ·obtain ⟨x,m,d,rfl,_⟩:=h
  rfl
 ·obtain ⟨x,m,d,rfl,hx,q⟩:=h
  refine ⟨_,(pss_cons (ps_if (PW.pt (pw_or (pt_not (pt_val (pe_callB c_isinst (by rfl) T.n_isinstance bt_isinstance (pa_cons (pv 0) (pa_cons (pe_bltn (v:=.ty "tuple") rfl T.n_tuple bt_tuple rfl) pa_nil))))) (pw_or1 (pt_cmpR (op_neD hr.units) (pe_callB (k_len K) (by rfl) T.n_len bt_len (pa_cons (pv 0) pa_nil)) pe_int (nomark _))))) (pss_one (ps_ret pe_bl)) pss_nil)
   (pss_cons (ps_if (PW.pt (pw_or (pt_not (pt_val (pe_call (ok_is_thing T) (hr.mono (by decide)) rfl T.m_is_thing T.F_is_thing.kp T.b_is_thing .nil pass0 (pa_cons (pe_ix (k_ix K) (pv 0) pe_int (fun _ _=>rfl)) (pa_cons (pv 1) pa_nil))))) (pw_or1 (pt_not (pt_val (pe_call (ok_is_thing T) (hr.mono (by decide)) rfl T.m_is_thing T.F_is_thing.kp T.b_is_thing .nil pass0 (pa_cons (pe_ix (k_ix K) (pv 0) pe_int (fun _ _=>rfl)) (pa_cons (pv 1) pa_nil)))))))) (pss_one (ps_ret pe_bl)) pss_nil)
   (pss_one (ps_ret (pe_cmpR (op_neD hr.units) (pe_ix (k_ix K) (pv 0) pe_int (fun _ _=>rfl)) (pe_ix (k_ix K) (pv 0) pe_int (fun _ _=>rfl)) (nomark _)))))),?_⟩
  walk_at "rd"
  by_cases hd:∃ ds,d=.tuple ds
  ·obtain ⟨ds,rfl⟩:=hd
   cases hx with
   | @tup a xs _ e hxs=>
   walk_at "rd"
   have hl:=hxs.length
   refine ifB (fun h=>?_) (fun h=>?_)
   ·walk_at "rd"
    rw [pair_other] at q
    ·exact q
    ·rintro a b ⟨⟩
     simp at hl
     simp [hl] at h
   ·walk_at "rd"
    match xs,ds,hxs,hl with
    | [x1,x2],[d1,d2],.cons i1 (.cons i2 .nil),_=>
     walk_at "rd"
     refine ⟨_,_,_,rfl,i1,?_⟩
     walk_at "rd"
     have qe:pairB (.tuple [d1,d2]) m=(wholeB d1 0 (m - 1)&&wholeB d2 0 (m - 1)&& !PyData.eqv d1 d2):=rfl
     rw [qe] at q
     refine ifB (fun h1=>?_) (fun h1=>?_)
     ·walk_at "rd"
      have h1':wholeB d1 0 (m - 1)=false:=by simpa using h1
      simpa [h1'] using q
     ·walk_at "rd"
      refine ⟨_,_,_,rfl,i2,?_⟩
      walk_at "rd"
      have h1':wholeB d1 0 (m - 1)=true:=by simpa using h1
      refine ifB (fun h2=>?_) (fun h2=>?_)
      ·walk_at "rd"
       have h2':wholeB d2 0 (m - 1)=false:=by simpa using h2
       simpa [h2'] using q
      ·walk_at "rd"
       have h2':wholeB d2 0 (m - 1)=true:=by simpa using h2
       obtain ⟨i,rfl,_⟩:=wholeB_int h1'
       obtain ⟨j,rfl,_⟩:=wholeB_int h2'
       refine rd_eqD i1 i2 ⟨rfl,Nat.zero_le _⟩ ⟨rfl,Nat.zero_le _⟩ ?_
       simpa [h1',h2'] using q
    | [],_,_,_=>simp at h
    | [_],_,_,_=>simp at h
    | _::_::_::_,_,_,_=>simp at h;omega
  ·have hd':∀ ds,d≠.tuple ds:=fun ds e=>hd ⟨ds,e⟩
   rw [isTup_no hd']
   walk_at "rd"
   rw [pair_other fun a b=>hd' _] at q
   exact q
noncomputable def risingB:List (Int×Int)→Bool
 | a::b::r=>HT.lexLt [a.1,a.2] [b.1,b.2]&&risingB (b::r)
 | _=>true
theorem rising_range:∀ ps:List (Int×Int),risingB ps=((List.range (ps.length - 1)).map fun i=>HT.lexLt [(ps.getD i (0,0)).1,(ps.getD i (0,0)).2] [(ps.getD (i + 1) (0,0)).1,(ps.getD (i + 1) (0,0)).2]).all id
 | []=>rfl
 | [a]=>rfl
 | a::b::r=>by
  rw [risingB,rising_range (b::r)]
  have e:(a::b::r).length - 1=((b::r).length - 1) + 1:=by simp
  rw [e,List.range_succ_eq_map,List.map_cons,List.all_cons,List.map_map]
  rfl
theorem _root_.L2.atI_of {α:Type} {xs:List α} {i:Nat} {k:Int} {v:α} (hk:k=(i:Int)) (h:xs[i]? =some v):atI xs k=some v:=by
 subst hk
 exact atI_nat h
theorem two_ints {H:Hp} {xs:List V} {a b:Int} (h:IsAll H xs [.int a,.int b]):xs=[.int a,.int b]:=by
 cases h with
 | cons h1 t=>
  cases t with
  | cons h2 t2=>
   cases h1
   cases h2
   cases t2
   rfl
theorem two_io {H:Hp} {xs:List V} {a:Int} {ds:List PyData} (h:IsAll H xs [.int a,.tuple ds]):∃ b ys,xs=[.int a,.ref b]∧H b=some (.tup ys)∧IsAll H ys ds:=by
 cases h with
 | cons h1 t=>
  cases t with
  | cons h2 t2=>
   cases h1
   cases t2
   cases h2 with
   | tup eb hb=>exact ⟨_,_,rfl,eb,hb⟩
theorem pr_at {H:Hp} {xs:List V} {ps:List (Int×Int)} {i:Nat} (h:IsAll H xs (ps.map prD)) (hi:i < ps.length):
  ∃ r,xs[i]? =some (.ref r)∧H r=some (.tup [.int (ps.getD i (0,0)).1,.int (ps.getD i (0,0)).2]):=by
 obtain ⟨v,e,iv⟩:=h.get (i:=i) (d:=prD (ps.getD i (0,0))) (by rw [List.getElem?_map];simp [hi])
 unfold prD at iv
 cases iv with
 | @tup a xs _ ea hxs=>
  obtain rfl:=two_ints hxs
  exact ⟨a,e,ea⟩
theorem small_ln {n:Nat} (h:n≤1000):n≤sizeLine:=Nat.le_of_lt (small1000 h)
set_option genSizeOf false in
set_option genInjectivity false in
inductive sp_is_rising (vs:List V) (H:Hp) (Q:VK) (zz3:XK):Prop where
 | mk (x ps:_) (zh0:vs=[x]) (zh1:Is H x (.tuple (ps.map prD))) (zh2:ps.length≤1000) (zh3:∀ H',Same H H'→Q (.bl (risingB ps)) H'):sp_is_rising vs H Q zz3
theorem ok_is_rising (T:Txt K mg t):FnOk P w K mg base CX0 1 t.a_is_rising t.d_is_rising ["pairs"] sp_is_rising:=by
 refine T.F_is_rising.ok sc_is_rising (fun vs H Q E h=>?_) (fun cdv A outer s H vs Q E hr h=>?_)
 ·obtain ⟨x,ps,rfl,_⟩:=h
  rfl
 ·obtain ⟨x,ps,rfl,hx,hsz,q⟩:=h
  refine ⟨_,(pss_one (ps_ret (pe_callB (k_all K) (by rfl) T.n_all bt_all (pa_cons (pe_lc rfl ⟨True.intro,True.intro,(.inl rfl),True.intro⟩ (M:=["place","pairs"]) (.own (.free 0 rfl rfl .nil)) (gk_name rfl) rfl (by decide +kernel) (pi_range1 rfl T.n_range (pa_cons (pe_op op_sub (pe_callB (k_len K) (by rfl) T.n_len bt_len (pa_cons (pv 0) pa_nil)) pe_int) pa_nil)) (fun C fp s1 H1=>⟨pg_name (i:=0) (show (["place","pairs"]:List Str).Nodup by decide +kernel) rfl (Or.inl rfl),pif_nil,(pe_cmpR (k_ltT K hr.units0) (pe_ix (k_ix K) (pv 1) (pv 0) (fun _ _=>rfl)) (pe_ix (k_ix K) (pv 1) (pe_op op_add (pv 0) pe_int) (fun _ _=>rfl)) (nomark _))⟩)) pa_nil)))),?_⟩
  cases hx with
  | @tup a xs _ e hxs=>
  have hl:xs.length=ps.length:=by rw [hxs.length,List.length_map]
  walk_at "rd"
  refine ⟨_,rfl,by omega,by omega,?_⟩
  have en:((xs.length:Int) - 1).toNat=ps.length - 1:=by omega
  rw [en]
  refine lp_range (small_ln (by omega)) (fun i ys H'=>H'=H∧ys=((List.range i).map fun i=>HT.lexLt [(ps.getD i (0,0)).1,(ps.getD i (0,0)).2] [(ps.getD (i + 1) (0,0)).1,(ps.getD (i + 1) (0,0)).2]).map V.bl) ⟨rfl,rfl⟩ (by rintro i ys H' ⟨_,rfl⟩;simp) ?_ ?_
  ·rintro i ys H' hi ⟨rfl,rfl⟩
   obtain ⟨r1,e1,h1⟩:=pr_at hxs (i:=i) (by omega)
   obtain ⟨r2,e2,h2⟩:=pr_at hxs (i:=i + 1) (by omega)
   walk_at "rd"
   refine rd_ixT e (atI_of (i:=i) (by omega) e1) ?_
   walk_at "rd"
   refine rd_ixT e (atI_of (i:=i + 1) (by omega) e2) ?_
   refine rd_ltT h1 h2 ⟨rfl,?_⟩
   rw [List.range_succ,List.map_append,List.map_append]
   rfl
  ·rintro ys H' ⟨rfl,rfl⟩ p hp
   walk_at "rd"
   refine rd_all upd_same ?_
   rw [←rising_range]
   exact q _ (Same.upd hp)
noncomputable def decP (d:PyData):Int×Int:=match d with | .tuple [.int a,.int b]=>(a,b) | _=>(0,0)
noncomputable def orderB (d:PyData):Bool:=match d with | .tuple [.int n,.tuple ds]=>decide (1≤n)&&decide (n≤8)&&ds.all (fun d=>pairB d n)&&risingB (ds.map decP) | _=>false
theorem pairB_dec {d:PyData} {m:Int} (h:pairB d m=true):d=prD (decP d):=by
 unfold pairB at h
 split at h
 ·rename_i a b
  rw [Bool.and_eq_true,Bool.and_eq_true] at h
  obtain ⟨i,rfl,_⟩:=wholeB_int h.1.1
  obtain ⟨j,rfl,_⟩:=wholeB_int h.1.2
  rfl
 ·cases h
theorem pairs_dec {m:Int}:∀ {ds:List PyData},ds.all (fun d=>pairB d m)=true→ds=(ds.map decP).map prD
 | [],_=>rfl
 | d::ds,h=>by
  rw [List.all_cons,Bool.and_eq_true] at h
  rw [List.map_cons,List.map_cons,←pairs_dec h.2,←pairB_dec h.1]
theorem order_other {d:PyData} (h:∀ n ds,d≠.tuple [.int n,.tuple ds]):orderB d=false:=by
 unfold orderB
 split
 ·rename_i n ds
  exact absurd rfl (h n ds)
 ·rfl
noncomputable def okOrd (d:PyData):Prop:=∀ m ds,d=.tuple [m,.tuple ds]→ds.length≤1000
set_option genSizeOf false in
set_option genInjectivity false in
inductive sp_is_order (vs:List V) (H:Hp) (Q:VK) (zz3:XK):Prop where
 | mk (x d:_) (zh0:vs=[x]) (zh1:Is H x d) (zh2:okOrd d) (zh3:∀ H',Same H H'→Q (.bl (orderB d)) H'):sp_is_order vs H Q zz3
theorem ok_is_order (T:Txt K mg t):FnOk P w K mg base CX0 4 t.a_is_order t.d_is_order ["value"] sp_is_order:=by
 refine T.F_is_order.ok sc_is_order (fun vs H Q E h=>?_) (fun cdv A outer s H vs Q E hr h=>?_)
 ·obtain ⟨x,d,rfl,_⟩:=h
  rfl
 ·obtain ⟨x,d,rfl,hx,hok,q⟩:=h
  refine ⟨_,(pss_cons (ps_if (PW.pt (pw_or (pt_not (pt_val (pe_callB c_isinst (by rfl) T.n_isinstance bt_isinstance (pa_cons (pv 0) (pa_cons (pe_bltn (v:=.ty "tuple") rfl T.n_tuple bt_tuple rfl) pa_nil))))) (pw_or1 (pt_cmpR (op_neD hr.units) (pe_callB (k_len K) (by rfl) T.n_len bt_len (pa_cons (pv 0) pa_nil)) pe_int (nomark _))))) (pss_one (ps_ret pe_bl)) pss_nil)
   (pss_cons (ps_set (i:=1) sc_is_order.nd rfl (Or.inr rfl) (pe_ix (k_ix K) (pv 0) pe_int (fun _ _=>rfl)))
   (pss_cons (ps_set (i:=2) sc_is_order.nd rfl (Or.inl rfl) (pe_ix (k_ix K) (pv 0) pe_int (fun _ _=>rfl)))
   (pss_cons (ps_if (PW.pt (pw_or (pt_not (pt_val (pe_call (ok_is_whole T) (hr.mono (by decide)) rfl T.m_is_whole T.F_is_whole.kp T.b_is_whole .nil pass0 (pa_cons (pv 1) (pa_cons pe_int (pa_cons (pe_gint rfl T.c_MOST_THINGS) pa_nil)))))) (pw_or1 (pt_not (pt_val (pe_callB c_isinst (by rfl) T.n_isinstance bt_isinstance (pa_cons (pv 2) (pa_cons (pe_bltn (v:=.ty "tuple") rfl T.n_tuple bt_tuple rfl) pa_nil)))))))) (pss_one (ps_ret pe_bl)) pss_nil)
   (pss_one (ps_ret (pe_and (pe_callB (k_all K) (by rfl) T.n_all bt_all (pa_cons (pe_lc rfl ⟨True.intro,True.intro,True.intro,(.inl rfl),True.intro⟩ (M:=["pair","many"]) (.own (.free 1 rfl rfl .nil)) (gk_name rfl) rfl (by decide +kernel) (k_ptup K (pv 2)) (fun C fp s1 H1=>⟨pg_name (i:=0) (show (["pair","many"]:List Str).Nodup by decide +kernel) rfl (Or.inl rfl),pif_nil,(pe_call (ok_is_pair T) (hr.mono (by decide)) rfl T.m_is_pair T.F_is_pair.kp T.b_is_pair .nil pass0 (pa_cons (pv 0) (pa_cons (pv 1) pa_nil)))⟩)) pa_nil)) (pe_one (pe_call (ok_is_rising T) (hr.mono (by decide)) rfl T.m_is_rising T.F_is_rising.kp T.b_is_rising .nil pass0 (pa_cons (pv 2) pa_nil)))))))))),?_⟩
  walk_at "rd"
  by_cases hd:∃ ds,d=.tuple ds
  ·obtain ⟨ds,rfl⟩:=hd
   cases hx with
   | @tup a xs _ e hxs=>
   walk_at "rd"
   have hl:=hxs.length
   refine ifB (fun h=>?_) (fun h=>?_)
   ·walk_at "rd"
    have q':=q H (Same.refl H)
    rw [order_other] at q'
    ·exact q'
    ·rintro n ds ⟨⟩
     simp at hl
     simp [hl] at h
   ·walk_at "rd"
    match xs,ds,hxs,hl with
    | [x1,x2],[d1,d2],.cons i1 (.cons i2 .nil),_=>
     walk_at "rd"
     refine ⟨_,_,_,_,rfl,i1,?_⟩
     walk_at "rd"
     refine ifB (fun h1=>?_) (fun h1=>?_)
     ·walk_at "rd"
      have h1':wholeB d1 1 8=false:=by simpa using h1
      have q':=q H (Same.refl H)
      by_cases h0:∃ n ds,d1=.int n∧d2=.tuple ds
      ·obtain ⟨n,ds,rfl,rfl⟩:=h0
       have:orderB (.tuple [.int n,.tuple ds])=(decide (1≤n)&&decide (n≤8)&&ds.all (fun d=>pairB d n)&&risingB (ds.map decP)):=rfl
       rw [this,show (decide (1≤n)&&decide (n≤8))=false from h1'] at q'
       exact q'
      ·rw [order_other (by rintro n ds ⟨⟩;exact h0 ⟨_,_,rfl,rfl⟩)] at q'
       exact q'
     ·have h1':wholeB d1 1 8=true:=by simpa using h1
      obtain ⟨n,rfl,hn1,hn8⟩:=wholeB_int h1'
      walk_at "rd"
      by_cases hd2:∃ ds,d2=.tuple ds
      ·obtain ⟨ds,rfl⟩:=hd2
       have hlen:=hok _ _ rfl
       cases i1 with
       | int _=>
       cases i2 with
       | @tup b ys _ eb hys=>
       have hlb:=hys.length
       walk_at "rd"
       refine ⟨b,rfl,⟨ys,SqT.of eb⟩,?_⟩
       refine lp_tup (K:=K) (xs:=ys) (small_ln (by omega)) (fun i zs H'=>H'=H∧zs=((ds.take i).map fun d=>pairB d n).map V.bl) ⟨rfl,rfl⟩ (by rintro i ys H' ⟨_,rfl⟩;simp;omega) (fun i zs H' _ h=>by rw [h.1];exact SqT.of eb) ?_ ?_
       ·rintro i x zs H' hx ⟨rfl,rfl⟩
        obtain ⟨d,ed,id⟩:=hys.get' hx
        walk_at "rd"
        refine ⟨_,_,_,rfl,id,rfl,?_⟩
        rw [List.take_add_one,ed,List.map_append,List.map_append]
        rfl
       ·rintro zs H' ⟨rfl,rfl⟩ p hp
        walk_at "rd"
        refine rd_all upd_same ?_
        rw [hlb,List.take_length,List.all_map]
        walk_at "rd"
        have qe:orderB (.tuple [.int n,.tuple ds])=(decide (1≤n)&&decide (n≤8)&&ds.all (fun d=>pairB d n)&&risingB (ds.map decP)):=rfl
        rw [qe,decide_eq_true hn1,decide_eq_true hn8] at q
        refine ifB (fun h3=>?_) (fun h3=>?_)
        ·walk_at "rd"
         have h3':ds.all (fun d=>pairB d n)=true:=h3
         have ed:=pairs_dec h3'
         have hy2:Is (upd H' p (.lst (((ds.take ys.length).map fun d=>pairB d n).map V.bl))) (.ref b) (.tuple ((ds.map decP).map prD)):=by
          rw [←ed]
          exact Is.same (Same.upd hp) (.tup eb hys)
         rw [hlb,List.take_length] at hy2
         refine ⟨_,_,rfl,hy2,by rw [List.length_map];exact hlen,fun H2 s2=>?_⟩
         have q':=q H2 ((Same.upd hp).trans s2)
         simpa [h3'] using q'
        ·walk_at "rd"
         have h3':ds.all (fun d=>pairB d n)=false:=h3
         have q':=q _ (Same.upd (o:=.lst ((ds.map fun d=>pairB d n).map V.bl)) hp)
         simpa [h3'] using q'
      ·have hd2':∀ ds,d2≠.tuple ds:=fun ds e=>hd2 ⟨ds,e⟩
       rw [isTup_no hd2']
       walk_at "rd"
       have q':=q H (Same.refl H)
       rw [order_other (by rintro n ds ⟨⟩;exact hd2' _ rfl)] at q'
       exact q'
    | [],_,_,_=>simp at h
    | [_],_,_,_=>simp at h
    | _::_::_::_,_,_,_=>simp at h;omega
  ·have hd':∀ ds,d≠.tuple ds:=fun ds e=>hd ⟨ds,e⟩
   rw [isTup_no hd']
   walk_at "rd"
   have q':=q H (Same.refl H)
   rw [order_other fun n ds=>hd' _] at q'
   exact q'
end
end My
namespace My
open PySem L2
section
variable {P:Program} {w:World} {K:PySem.W.Frag} {mg:Str→Option Value} {base:Heap} {t:Ad}
set_option genSizeOf false in
set_option genInjectivity false in
inductive sp_need_order (vs:List V) (H:Hp) (Q:VK) (zz3:XK):Prop where
 | mk (x d:_) (zh0:vs=[x]) (zh1:Is H x d) (zh2:okOrd d) (zh3:orderB d=true) (zh4:∀ H',Same H H'→Q .non H'):sp_need_order vs H Q zz3
theorem ok_need_order (T:Txt K mg t):FnOk P w K mg base CX0 5 t.a_need_order t.d_need_order ["value"] sp_need_order:=by
 refine T.F_need_order.ok sc_need_order (fun vs H Q E h=>?_) (fun cdv A outer s H vs Q E hr h=>?_)
 ·obtain ⟨x,d,rfl,_⟩:=h
  rfl
 ·obtain ⟨x,d,rfl,hx,hok,ho,q⟩:=h
  refine ⟨_,(pss_one (ps_if (pt_not (pt_val (pe_call (ok_is_order T) (hr.mono (by decide)) rfl T.m_is_order T.F_is_order.kp T.b_is_order .nil pass0 (pa_cons (pv 0) pa_nil)))) (pss_one ps_never) pss_nil)),?_⟩
  walk_at "rd"
  refine ⟨_,_,rfl,hx,hok,fun H' s'=>?_⟩
  rw [ho]
  walk_at "rd"
  exact q H' s'
end
end My
namespace My
open PySem L2
section
variable {P:Program} {w:World} {K:PySem.W.Frag} {mg:Str→Option Value} {base:Heap} {t:Ad}
theorem eqv_pr (p q:Int×Int):PyData.eqv (prD p) (prD q)=decide (p=q):=by
 obtain ⟨a,b⟩:=p
 obtain ⟨c,d⟩:=q
 simp only [prD,PyData.eqv,PyData.eqvAll,Bool.and_true]
 by_cases h:a=c
 ·by_cases h2:b=d
  ·subst h h2;simp
  ·simp [h,h2]
 ·simp [h]
theorem inD_pr (p:Int×Int):∀ ps:List (Int×Int),inD (prD p) (ps.map prD)=decide (p∈ps)
 | []=>by simp [inD]
 | q::ps=>by
  have ih:=inD_pr p ps
  unfold inD at ih ⊢
  rw [List.map_cons,List.any_cons,ih,eqv_pr]
  by_cases h:q=p
  ·subst h;simp
  ·have h':¬p=q:=fun e=>h e.symm
   simp [h,h']
theorem ok_pr (p:Int×Int):okD (prD p):=⟨rfl,show 1≤40 by decide⟩
theorem ok_prs:∀ ps:List (Int×Int),okDs (ps.map prD)
 | []=>⟨rfl,Nat.zero_le _⟩
 | p::ps=>by
  obtain ⟨a,b⟩:=ok_prs ps
  refine ⟨?_,?_⟩
  ·rw [List.map_cons,PyData.canLayAll0,a];rfl
  ·rw [List.map_cons,PyData.depthAll]
   exact Nat.max_le.mpr ⟨(ok_pr p).2,b⟩
noncomputable def has (ps:List (Int×Int)) (i j:Int):Bool:=decide ((i,j)∈ps)
theorem rd_inP {H:Hp} {Q:VK} {p:Addr} {y:V} {i j:Int} {ps:List (Int×Int)} (e:H p=some (.tup [.int i,.int j])) (hy:Is H y (.tuple (ps.map prD))) (h:Q (.bl (has ps i j)) H):rInD false (.ref p) y H Q:=by
 refine rd_inD (d:=prD (i,j)) (.tup e (.cons (.int i) (.cons (.int j) .nil))) hy (ok_pr _) (ok_prs _) ?_
 rw [inD_pr]
 exact h
theorem rd_ninP {H:Hp} {Q:VK} {p:Addr} {y:V} {i j:Int} {ps:List (Int×Int)} (e:H p=some (.tup [.int i,.int j])) (hy:Is H y (.tuple (ps.map prD))) (h:Q (.bl (!has ps i j)) H):rInD true (.ref p) y H Q:=by
 refine rd_inD (d:=prD (i,j)) (.tup e (.cons (.int i) (.cons (.int j) .nil))) hy (ok_pr _) (ok_prs _) ?_
 rw [inD_pr]
 exact h
noncomputable def bar2B (ps:List (Int×Int)) (a b c d:Int):Bool:=has ps a b&&has ps c d&&(!has ps a d&& !has ps c b)
noncomputable def bar3B (ps:List (Int×Int)) (a b c d:Int):Bool:=has ps a b&&has ps b c&&(!has ps a d&& !has ps d c)
theorem two_ln {i j:Int}:[V.int i,V.int j].length≤sizeLine:=by
 show 2≤sizeLine
 decide
noncomputable def ordD (n:Nat) (ps:List (Int×Int)):PyData:=.tuple [.int n,.tuple (ps.map prD)]
structure Ord (n:Nat) (ps:List (Int×Int)):Prop where
 lo:1≤n
 hi:n≤8
 ix:∀ p∈ps,0≤p.1∧p.1 < n∧0≤p.2∧p.2 < n∧p.1≠p.2
 up:risingB ps=true
 sz:ps.length≤1000
theorem decP_pr (p:Int×Int):decP (prD p)=p:=rfl
theorem Ord.okd {n:Nat} {ps:List (Int×Int)} (h:Ord n ps):okOrd (ordD n ps):=by
 rintro m ds e
 unfold ordD at e
 injection e with e
 injection e with _ e
 injection e with e _
 injection e with e
 rw [←e,List.length_map]
 exact h.sz
theorem Ord.yes {n:Nat} {ps:List (Int×Int)} (h:Ord n ps):orderB (ordD n ps)=true:=by
 have e:orderB (ordD n ps)=(decide (1≤(n:Int))&&decide ((n:Int)≤8)&&(ps.map prD).all (fun d=>pairB d n)&&risingB ((ps.map prD).map decP)):=rfl
 have e2:(ps.map prD).map decP=ps:=by
  rw [List.map_map]
  exact (List.map_congr_left fun p _=>decP_pr p).trans (List.map_id ps)
 have e3:(ps.map prD).all (fun d=>pairB d n)=true:=by
  rw [List.all_map,List.all_eq_true]
  intro p hp
  obtain ⟨a,b,c,d,f⟩:=h.ix p hp
  show (wholeB (.int p.1) 0 (n - 1)&&wholeB (.int p.2) 0 (n - 1)&& !PyData.eqv (.int p.1) (.int p.2))=true
  have g1:wholeB (.int p.1) 0 (n - 1)=true:=by
   show (decide (0≤p.1)&&decide (p.1≤(n:Int) - 1))=true
   simp;omega
  have g2:wholeB (.int p.2) 0 (n - 1)=true:=by
   show (decide (0≤p.2)&&decide (p.2≤(n:Int) - 1))=true
   simp;omega
  have g3:PyData.eqv (.int p.1) (.int p.2)=false:=by
   show (p.1==p.2)=false
   simpa using f
  rw [g1,g2,g3];rfl
 rw [e,e2,e3,h.up,decide_eq_true (by have:=h.lo;omega),decide_eq_true (by have:=h.hi;omega)]
 rfl
theorem is_ord {H:Hp} {x:V} {n:Nat} {ps:List (Int×Int)} (h:Is H x (ordD n ps)):∃ a b xs,x=.ref a∧H a=some (.tup [.int n,.ref b])∧H b=some (.tup xs)∧IsAll H xs (ps.map prD):=by
 unfold ordD at h
 cases h with
 | @tup a xs _ e hxs=>
  obtain ⟨b,ys,rfl,eb,hb⟩:=two_io hxs
  exact ⟨a,_,_,rfl,e,eb,hb⟩
end
end My
namespace My
open PySem L2
section
variable {P:Program} {w:World} {K:PySem.W.Frag} {mg:Str→Option Value} {base:Heap} {t:Ad}
set_option genSizeOf false in
set_option genInjectivity false in
inductive sp_bar (f:List (Int×Int)→Int→Int→Int→Int→Bool) (vs:List V) (H:Hp) (Q:VK) (zz3:XK):Prop where
 | mk (x ps a b c d:_) (zh0:vs=[x,.int a,.int b,.int c,.int d]) (zh1:Is H x (.tuple (ps.map prD))) (zh2:∀ H',Same H H'→Q (.bl (f ps a b c d)) H'):sp_bar f vs H Q zz3
theorem ok_bars_as_two (T:Txt K mg t):FnOk P w K mg base CX0 1 t.a_bars_as_two t.d_bars_as_two ["pairs","a","b","c","d"] (sp_bar bar2B):=by
 refine T.F_bars_as_two.ok sc_bars_as_two (fun vs H Q E h=>?_) (fun cdv A outer s H vs Q E hr h=>?_)
 ·obtain ⟨x,ps,a,b,c,d,rfl,_⟩:=h
  rfl
 ·obtain ⟨x,ps,a,b,c,d,rfl,hx,q⟩:=h
  refine ⟨_,(pss_cons (ps_if (PW.pt (pw_or (pt_cmpR (op_notInD hr.units) (pe_tup (pa_cons (pv 1) (pa_cons (pv 2) pa_nil))) (pv 0) (by rfl)) (pw_or1 (pt_cmpR (op_notInD hr.units) (pe_tup (pa_cons (pv 3) (pa_cons (pv 4) pa_nil))) (pv 0) (by rfl))))) (pss_one (ps_ret pe_bl)) pss_nil)
   (pss_one (ps_ret (pe_and (pe_cmpR (op_notInD hr.units) (pe_tup (pa_cons (pv 1) (pa_cons (pv 4) pa_nil))) (pv 0) (by rfl)) (pe_one (pe_cmpR (op_notInD hr.units) (pe_tup (pa_cons (pv 3) (pa_cons (pv 2) pa_nil))) (pv 0) (by rfl))))))),?_⟩
  unfold bar2B at q
  walk_at "rd"
  refine ⟨two_ln,fun p1 hp1=>?_⟩
  have s1:=Same.upd (o:=.tup [.int a,.int b]) hp1
  walk_at "rd"
  refine rd_ninP upd_same (hx.same s1) ?_
  walk_at "rd"
  refine ifB (fun h1=>?_) (fun h1=>?_)
  ·walk_at "rd"
   have h1':has ps a b=false:=by simpa using h1
   have q':=q _ s1
   rw [h1'] at q'
   exact q'
  ·have h1':has ps a b=true:=by simpa using h1
   rw [h1'] at q
   walk_at "rd"
   refine ⟨two_ln,fun p2 hp2=>?_⟩
   walk_at "rd"
   refine rd_ninP upd_same (hx.same (s1.trans (Same.upd hp2))) ?_
   walk_at "rd"
   refine ifB (fun h2=>?_) (fun h2=>?_)
   ·walk_at "rd"
    rw [Bool.not_eq_true'] at h2
    rw [h2] at q
    exact q _ (s1.trans (Same.upd hp2))
   ·rw [Bool.not_eq_false'] at h2
    rw [h2] at q
    walk_at "rd"
    refine ⟨two_ln,fun p3 hp3=>?_⟩
    walk_at "rd"
    refine rd_ninP upd_same (hx.same ((s1.trans (Same.upd hp2)).trans (Same.upd hp3))) ?_
    walk_at "rd"
    refine ifB (fun h3=>?_) (fun h3=>?_)
    ·rw [h3] at q
     walk_at "rd"
     refine ⟨two_ln,fun p4 hp4=>?_⟩
     walk_at "rd"
     refine rd_ninP upd_same (hx.same (((s1.trans (Same.upd hp2)).trans (Same.upd hp3)).trans (Same.upd hp4))) ?_
     exact q _ (((s1.trans (Same.upd hp2)).trans (Same.upd hp3)).trans (Same.upd hp4))
    ·rw [h3] at q
     exact q _ ((s1.trans (Same.upd hp2)).trans (Same.upd hp3))
theorem ok_bars_as_three (T:Txt K mg t):FnOk P w K mg base CX0 1 t.a_bars_as_three t.d_bars_as_three ["pairs","a","b","c","d"] (sp_bar bar3B):=by
 refine T.F_bars_as_three.ok sc_bars_as_three (fun vs H Q E h=>?_) (fun cdv A outer s H vs Q E hr h=>?_)
 ·obtain ⟨x,ps,a,b,c,d,rfl,_⟩:=h
  rfl
 ·obtain ⟨x,ps,a,b,c,d,rfl,hx,q⟩:=h
  refine ⟨_,(pss_cons (ps_if (PW.pt (pw_or (pt_cmpR (op_notInD hr.units) (pe_tup (pa_cons (pv 1) (pa_cons (pv 2) pa_nil))) (pv 0) (by rfl)) (pw_or1 (pt_cmpR (op_notInD hr.units) (pe_tup (pa_cons (pv 2) (pa_cons (pv 3) pa_nil))) (pv 0) (by rfl))))) (pss_one (ps_ret pe_bl)) pss_nil)
   (pss_one (ps_ret (pe_and (pe_cmpR (op_notInD hr.units) (pe_tup (pa_cons (pv 1) (pa_cons (pv 4) pa_nil))) (pv 0) (by rfl)) (pe_one (pe_cmpR (op_notInD hr.units) (pe_tup (pa_cons (pv 4) (pa_cons (pv 3) pa_nil))) (pv 0) (by rfl))))))),?_⟩
  unfold bar3B at q
  walk_at "rd"
  refine ⟨two_ln,fun p1 hp1=>?_⟩
  have s1:=Same.upd (o:=.tup [.int a,.int b]) hp1
  walk_at "rd"
  refine rd_ninP upd_same (hx.same s1) ?_
  walk_at "rd"
  refine ifB (fun h1=>?_) (fun h1=>?_)
  ·walk_at "rd"
   have h1':has ps a b=false:=by simpa using h1
   have q':=q _ s1
   rw [h1'] at q'
   exact q'
  ·have h1':has ps a b=true:=by simpa using h1
   rw [h1'] at q
   walk_at "rd"
   refine ⟨two_ln,fun p2 hp2=>?_⟩
   walk_at "rd"
   refine rd_ninP upd_same (hx.same (s1.trans (Same.upd hp2))) ?_
   walk_at "rd"
   refine ifB (fun h2=>?_) (fun h2=>?_)
   ·walk_at "rd"
    rw [Bool.not_eq_true'] at h2
    rw [h2] at q
    exact q _ (s1.trans (Same.upd hp2))
   ·rw [Bool.not_eq_false'] at h2
    rw [h2] at q
    walk_at "rd"
    refine ⟨two_ln,fun p3 hp3=>?_⟩
    walk_at "rd"
    refine rd_ninP upd_same (hx.same ((s1.trans (Same.upd hp2)).trans (Same.upd hp3))) ?_
    walk_at "rd"
    refine ifB (fun h3=>?_) (fun h3=>?_)
    ·rw [h3] at q
     walk_at "rd"
     refine ⟨two_ln,fun p4 hp4=>?_⟩
     walk_at "rd"
     refine rd_ninP upd_same (hx.same (((s1.trans (Same.upd hp2)).trans (Same.upd hp3)).trans (Same.upd hp4))) ?_
     exact q _ (((s1.trans (Same.upd hp2)).trans (Same.upd hp3)).trans (Same.upd hp4))
    ·rw [h3] at q
     exact q _ ((s1.trans (Same.upd hp2)).trans (Same.upd hp3))
end
end My
namespace My
open PySem L2
section
variable {P:Program} {w:World} {K:PySem.W.Frag} {mg:Str→Option Value} {base:Heap} {t:Ad}
theorem fs_next {α β:Type} {F:α→Option β} {l:List α} {i:Nat} {x:α} (h:(l.take i).findSome? F=none) (e:l[i]? =some x) (g:F x=none):(l.take (i + 1)).findSome? F=none:=by
 rw [List.take_add_one,e,List.findSome?_append,h]
 simp [g]
theorem fs_at {α β:Type} {F:α→Option β} {l:List α} {i:Nat} {x:α} {r:β} (h:(l.take i).findSome? F=none) (e:l[i]? =some x) (g:F x=some r):l.findSome? F=some r:=by
 have hl:i < l.length:=(List.getElem?_eq_some_iff.mp e).1
 have e':l[i]=x:=(List.getElem?_eq_some_iff.mp e).2
 have:l=l.take i++x::l.drop (i + 1):=by
  rw [←e',←List.drop_eq_getElem_cons hl,List.take_append_drop]
 rw [this,List.findSome?_append,h]
 simp [g]
theorem fs_end {α β:Type} {F:α→Option β} {l:List α} (h:(l.take l.length).findSome? F=none):l.findSome? F=none:=by
 rwa [List.take_length] at h
theorem rg_at {n i:Nat} (h:i < n):(List.range n)[i]? =some i:=List.getElem?_range h
theorem rg_end {β:Type} {F:Nat→Option β} {n:Nat} (h:((List.range n).take n).findSome? F=none):(List.range n).findSome? F=none:=by
 rwa [List.take_of_length_le (by simp)] at h
noncomputable def tagD (s:Str):Option (List Int)→PyData
 | none=>.none
 | some l=>.tuple (.str s::l.map .int)
noncomputable def f2i (ps:List (Int×Int)) (p q:Int×Int):Option (List Int):=if bar2B ps p.1 p.2 q.1 q.2=true then some [p.1,p.2,q.1,q.2] else none
noncomputable def f2 (ps:List (Int×Int)):Option (List Int):=ps.findSome? fun p=>ps.findSome? (f2i ps p)
set_option genSizeOf false in
set_option genInjectivity false in
inductive sp_first_two (vs:List V) (H:Hp) (Q:VK) (zz3:XK):Prop where
 | mk (x ps:_) (zh0:vs=[x]) (zh1:Is H x (.tuple (ps.map prD))) (zh2:∀ v H',Same H H'→Is H' v (tagD "two" (f2 ps))→Q v H'):sp_first_two vs H Q zz3
theorem ok_first_two (T:Txt K mg t):FnOk P w K mg base CX0 2 t.a_first_two t.d_first_two ["pairs"] sp_first_two:=by
 refine T.F_first_two.ok sc_first_two (fun vs H Q E h=>?_) (fun cdv A outer s H vs Q E hr h=>?_)
 ·obtain ⟨x,ps,rfl,_⟩:=h
  rfl
 ·obtain ⟨x,ps,rfl,hx,q⟩:=h
  refine ⟨_,(pss_cons (ps_for PassesOwn.never rfl (k_ptup K (pv 0)) (k_gtup K rfl (pgs_cons (pg_name (i:=1) sc_first_two.nd rfl (Or.inl rfl)) (pgs_cons (pg_name (i:=2) sc_first_two.nd rfl (Or.inl rfl)) pgs_nil))) (pss_one (ps_for PassesOwn.never rfl (k_ptup K (pv 0)) (k_gtup K rfl (pgs_cons (pg_name (i:=3) sc_first_two.nd rfl (Or.inl rfl)) (pgs_cons (pg_name (i:=4) sc_first_two.nd rfl (Or.inl rfl)) pgs_nil))) (pss_one (ps_if (pt_val (pe_call (ok_bars_as_two T) (hr.mono (by decide)) rfl T.m_bars_as_two T.F_bars_as_two.kp T.b_bars_as_two .nil pass0 (pa_cons (pv 0) (pa_cons (pv 1) (pa_cons (pv 2) (pa_cons (pv 3) (pa_cons (pv 4) pa_nil))))))) (pss_one (ps_ret (pe_tup (pa_cons pe_str (pa_cons (pv 1) (pa_cons (pv 2) (pa_cons (pv 3) (pa_cons (pv 4) pa_nil)))))))) pss_nil)))))
   (pss_one (ps_ret pe_non))),?_⟩
  cases hx with
  | @tup a xs _ e hxs=>
  have hl:xs.length=ps.length:=by rw [hxs.length,List.length_map]
  walk_at "rd"
  refine ⟨a,rfl,⟨xs,SqT.of e⟩,?_⟩
  refine fp_tup (K:=K) (xs:=xs) (fun i σ H'=>(∃ va vb vc vd,σ=[some (.ref a),va,vb,vc,vd])∧Same H H'∧(ps.take i).findSome? (fun p=>ps.findSome? (f2i ps p))=none) ⟨⟨_,_,_,_,rfl⟩,Same.refl H,rfl⟩ (fun i σ H' _ h=>SqT.of (h.2.1 _ _ e)) ?_ ?_
  ·rintro i x σ H1 hx ⟨⟨va,vb,vc,vd,rfl⟩,s1,n1⟩
   obtain ⟨p,ep,ip⟩:=(hxs.same s1).get' hx
   rw [List.getElem?_map] at ep
   cases hpi:ps[i]? with
   | none=>rw [hpi] at ep;cases ep
   | some p0=>
   rw [hpi] at ep
   cases ep
   unfold prD at ip
   cases ip with
   | @tup r ys _ er hys=>
   obtain rfl:=two_ints hys
   refine rd_gtup er rfl ?_
   walk_at "rd"
   refine ⟨a,rfl,⟨xs,SqT.of (s1 _ _ e)⟩,?_⟩
   refine fp_tup (K:=K) (xs:=xs) (fun j σ H'=>(∃ vc vd,σ=[some (.ref a),some (.int p0.1),some (.int p0.2),vc,vd])∧Same H H'∧(ps.take j).findSome? (f2i ps p0)=none) ⟨⟨_,_,rfl⟩,s1,rfl⟩ (fun i σ H' _ h=>SqT.of (h.2.1 _ _ e)) ?_ ?_
   ·rintro j y σ H2 hy ⟨⟨vc,vd,rfl⟩,s2,n2⟩
    obtain ⟨q2,eq2,iq2⟩:=(hxs.same s2).get' hy
    rw [List.getElem?_map] at eq2
    cases hqj:ps[j]? with
    | none=>rw [hqj] at eq2;cases eq2
    | some q0=>
    rw [hqj] at eq2
    cases eq2
    unfold prD at iq2
    cases iq2 with
    | @tup r2 ys2 _ er2 hys2=>
    obtain rfl:=two_ints hys2
    refine rd_gtup er2 rfl ?_
    walk_at "rd"
    refine ⟨_,ps,_,_,_,_,rfl,Is.same s2 (.tup e hxs),fun H3 s3=>?_⟩
    cases hf:bar2B ps p0.1 p0.2 q0.1 q0.2 with
    | true=>
     walk_at "rd"
     refine ⟨by show 5≤sizeLine;decide,fun r3 hr3=>?_⟩
     have ef:f2 ps=some [p0.1,p0.2,q0.1,q0.2]:=fs_at n1 hpi (fs_at n2 hqj (if_pos hf))
     refine q _ _ ((s2.trans s3).trans (Same.upd hr3)) ?_
     rw [ef]
     exact .tup upd_same (.cons (.str _) (.cons (.int _) (.cons (.int _) (.cons (.int _) (.cons (.int _) .nil)))))
    | false=>
     walk_at "rd"
     exact ⟨⟨_,_,rfl⟩,s2.trans s3,fs_next n2 hqj (if_neg (by rw [hf];exact Bool.false_ne_true))⟩
   ·rintro σ H2 ⟨⟨vc,vd,rfl⟩,s2,n2⟩
    rw [hl] at n2
    exact ⟨⟨_,_,_,_,rfl⟩,s2,fs_next n1 hpi (fs_end n2)⟩
  ·rintro σ H1 ⟨⟨va,vb,vc,vd,rfl⟩,s1,n1⟩
   rw [hl] at n1
   walk_at "rd"
   refine q _ H1 s1 ?_
   rw [show f2 ps=none from fs_end n1]
   exact .non
noncomputable def f3i (n:Nat) (ps:List (Int×Int)) (p:Int×Int) (c:Nat):Option (List Int):=(List.range n).findSome? fun (d:Nat)=>if bar3B ps p.1 p.2 c d=true then some [p.1,p.2,(c:Int),(d:Int)] else none
noncomputable def f3 (n:Nat) (ps:List (Int×Int)):Option (List Int):=ps.findSome? fun p=>(List.range n).findSome? (f3i n ps p)
set_option genSizeOf false in
set_option genInjectivity false in
inductive sp_first_three (vs:List V) (H:Hp) (Q:VK) (zz3:XK):Prop where
 | mk (x ps n:_) (zh0:vs=[.int (n:Nat),x]) (zh1:n≤8) (zh2:Is H x (.tuple (ps.map prD))) (zh3:∀ v H',Same H H'→Is H' v (tagD "three" (f3 n ps))→Q v H'):sp_first_three vs H Q zz3
theorem ok_first_three (T:Txt K mg t):FnOk P w K mg base CX0 2 t.a_first_three t.d_first_three ["many","pairs"] sp_first_three:=by
 refine T.F_first_three.ok sc_first_three (fun vs H Q E h=>?_) (fun cdv A outer s H vs Q E hr h=>?_)
 ·obtain ⟨x,ps,n,rfl,_⟩:=h
  rfl
 ·obtain ⟨x,ps,n,rfl,hn,hx,q⟩:=h
  refine ⟨_,(pss_cons (ps_for PassesOwn.never rfl (k_ptup K (pv 1)) (k_gtup K rfl (pgs_cons (pg_name (i:=2) sc_first_three.nd rfl (Or.inl rfl)) (pgs_cons (pg_name (i:=3) sc_first_three.nd rfl (Or.inl rfl)) pgs_nil))) (pss_one (ps_for PassesOwn.never rfl (pi_range1 rfl T.n_range (pa_cons (pv 0) pa_nil)) (pg_name (i:=4) sc_first_three.nd rfl (Or.inl rfl)) (pss_one (ps_for PassesOwn.never rfl (pi_range1 rfl T.n_range (pa_cons (pv 0) pa_nil)) (pg_name (i:=5) sc_first_three.nd rfl (Or.inl rfl)) (pss_one (ps_if (pt_val (pe_call (ok_bars_as_three T) (hr.mono (by decide)) rfl T.m_bars_as_three T.F_bars_as_three.kp T.b_bars_as_three .nil pass0 (pa_cons (pv 1) (pa_cons (pv 2) (pa_cons (pv 3) (pa_cons (pv 4) (pa_cons (pv 5) pa_nil))))))) (pss_one (ps_ret (pe_tup (pa_cons pe_str (pa_cons (pv 2) (pa_cons (pv 3) (pa_cons (pv 4) (pa_cons (pv 5) pa_nil)))))))) pss_nil)))))))
   (pss_one (ps_ret pe_non))),?_⟩
  cases hx with
  | @tup a xs _ e hxs=>
  have hl:xs.length=ps.length:=by rw [hxs.length,List.length_map]
  walk_at "rd"
  refine ⟨a,rfl,⟨xs,SqT.of e⟩,?_⟩
  refine fp_tup (K:=K) (xs:=xs) (fun i σ H'=>(∃ va vb vc vd,σ=[some (.int n),some (.ref a),va,vb,vc,vd])∧Same H H'∧(ps.take i).findSome? (fun p=>(List.range n).findSome? (f3i n ps p))=none) ⟨⟨_,_,_,_,rfl⟩,Same.refl H,rfl⟩ (fun i σ H' _ h=>SqT.of (h.2.1 _ _ e)) ?_ ?_
  ·rintro i x σ H1 hx ⟨⟨va,vb,vc,vd,rfl⟩,s1,n1⟩
   obtain ⟨p,ep,ip⟩:=(hxs.same s1).get' hx
   rw [List.getElem?_map] at ep
   cases hpi:ps[i]? with
   | none=>rw [hpi] at ep;cases ep
   | some p0=>
   rw [hpi] at ep
   cases ep
   unfold prD at ip
   cases ip with
   | @tup r ys _ er hys=>
   obtain rfl:=two_ints hys
   refine rd_gtup er rfl ?_
   walk_at "rd"
   refine ⟨_,rfl,by omega,by omega,?_⟩
   rw [Int.toNat_natCast]
   refine fp_range (fun c σ H'=>(∃ vc vd,σ=[some (.int n),some (.ref a),some (.int p0.1),some (.int p0.2),vc,vd])∧Same H H'∧((List.range n).take c).findSome? (f3i n ps p0)=none) ⟨⟨_,_,rfl⟩,s1,rfl⟩ ?_ ?_
   ·rintro c σ H2 hc ⟨⟨vc,vd,rfl⟩,s2,n2⟩
    walk_at "rd"
    refine ⟨_,rfl,by omega,by omega,?_⟩
    rw [Int.toNat_natCast]
    refine fp_range (fun d σ H'=>(∃ vd,σ=[some (.int n),some (.ref a),some (.int p0.1),some (.int p0.2),some (.int (0 + c)),vd])∧Same H H'∧((List.range n).take d).findSome? (fun (d:Nat)=>if bar3B ps p0.1 p0.2 c d=true then some [p0.1,p0.2,(c:Int),(d:Int)] else none)=none) ⟨⟨_,rfl⟩,s2,rfl⟩ ?_ ?_
    ·rintro d σ H3 hd ⟨⟨vd,rfl⟩,s3,n3⟩
     walk_at "rd"
     refine ⟨_,ps,_,_,_,_,rfl,Is.same s3 (.tup e hxs),fun H4 s4=>?_⟩
     rw [Int.zero_add,Int.zero_add]
     cases hf:bar3B ps p0.1 p0.2 c d with
     | true=>
      walk_at "rd"
      refine ⟨by show 5≤sizeLine;decide,fun r3 hr3=>?_⟩
      have ef:f3 n ps=some [p0.1,p0.2,(c:Int),(d:Int)]:=fs_at n1 hpi (fs_at n2 (rg_at hc) (fs_at n3 (rg_at hd) (if_pos hf)))
      refine q _ _ ((s3.trans s4).trans (Same.upd hr3)) ?_
      rw [ef]
      exact .tup upd_same (.cons (.str _) (.cons (.int _) (.cons (.int _) (.cons (.int _) (.cons (.int _) .nil)))))
     | false=>
      walk_at "rd"
      exact ⟨⟨_,rfl⟩,s3.trans s4,fs_next n3 (rg_at hd) (if_neg (by rw [hf];exact Bool.false_ne_true))⟩
    ·rintro σ H3 ⟨⟨vd,rfl⟩,s3,n3⟩
     exact ⟨⟨_,_,rfl⟩,s3,fs_next n2 (rg_at hc) (rg_end n3)⟩
   ·rintro σ H2 ⟨⟨vc,vd,rfl⟩,s2,n2⟩
    exact ⟨⟨_,_,_,_,rfl⟩,s2,fs_next n1 hpi (rg_end n2)⟩
  ·rintro σ H1 ⟨⟨va,vb,vc,vd,rfl⟩,s1,n1⟩
   rw [hl] at n1
   walk_at "rd"
   refine q _ H1 s1 ?_
   rw [show f3 n ps=none from fs_end n1]
   exact .non
noncomputable def barD (n:Nat) (ps:List (Int×Int)):PyData:=match f2 ps with
 | some l=>tagD "two" (some l)
 | none=>tagD "three" (f3 n ps)
set_option genSizeOf false in
set_option genInjectivity false in
inductive sp_bar_full (vs:List V) (H:Hp) (Q:VK) (zz3:XK):Prop where
 | mk (x n ps:_) (zh0:vs=[x]) (zh1:Is H x (ordD n ps)) (zh2:Ord n ps) (zh3:∀ v H',Same H H'→Is H' v (barD n ps)→Q v H'):sp_bar_full vs H Q zz3
theorem ok_bar (T:Txt K mg t):FnOk P w K mg base CX0 6 t.a_bar t.d_bar ["order"] sp_bar_full:=by
 refine T.F_bar.ok sc_bar (fun vs H Q E h=>?_) (fun cdv A outer s H vs Q E hr h=>?_)
 ·obtain ⟨x,n,ps,rfl,_⟩:=h
  rfl
 ·obtain ⟨x,n,ps,rfl,hx,ho,q⟩:=h
  refine ⟨_,(pss_cons (ps_expr (pe_call (ok_need_order T) (hr.mono (by decide)) rfl T.m_need_order T.F_need_order.kp T.b_need_order .nil pass0 (pa_cons (pv 0) pa_nil)))
   (pss_cons (ps_set (i:=1) sc_bar.nd rfl (Or.inl rfl) (pe_call (ok_first_two T) (hr.mono (by decide)) rfl T.m_first_two T.F_first_two.kp T.b_first_two .nil pass0 (pa_cons (pe_ix (k_ix K) (pv 0) pe_int (fun _ _=>rfl)) pa_nil)))
   (pss_cons (ps_if (pt_cmpR o_isN (pv 1) pe_non (nomark _)) (pss_one (ps_set (i:=1) sc_bar.nd rfl (Or.inl rfl) (pe_call (ok_first_three T) (hr.mono (by decide)) rfl T.m_first_three T.F_first_three.kp T.b_first_three .nil pass0 (pa_cons (pe_ix (k_ix K) (pv 0) pe_int (fun _ _=>rfl)) (pa_cons (pe_ix (k_ix K) (pv 0) pe_int (fun _ _=>rfl)) pa_nil))))) pss_nil)
   (pss_one (ps_ret (pv 1)))))),?_⟩
  walk_at "rd"
  refine ⟨_,_,rfl,hx,ho.okd,ho.yes,fun H1 s1=>?_⟩
  obtain ⟨a,b,xs,rfl,ea,eb,hxs⟩:=is_ord (hx.same s1)
  walk_at "rd"
  refine ⟨_,ps,rfl,.tup eb hxs,fun v H2 s2 iv=>?_⟩
  have ea2:=s2 _ _ ea
  have eb2:=s2 _ _ eb
  unfold barD at q
  cases e2:f2 ps with
  | some l=>
   rw [e2] at iv q
   unfold tagD at iv
   cases iv with
   | @tup r ys _ er hys=>
   walk_at "rd"
   exact q _ H2 (s1.trans s2) (.tup er hys)
  | none=>
   rw [e2] at iv q
   unfold tagD at iv
   cases iv with
   | non=>
   walk_at "rd"
   refine ⟨_,ps,n,rfl,ho.hi,.tup eb2 (hxs.same s2),fun v H3 s3 iv=>?_⟩
   walk_at "rd"
   exact q v H3 ((s1.trans s2).trans s3) iv
noncomputable def bar2L (ps:List (Int×Int)):Bool:=ps.any fun p=>ps.any fun q=>bar2B ps p.1 p.2 q.1 q.2
noncomputable def bar3L (n:Nat) (ps:List (Int×Int)):Bool:=ps.any fun p=>(List.range n).any fun c=>(List.range n).any fun d=>bar3B ps p.1 p.2 c d
noncomputable def barB (n:Nat) (ps:List (Int×Int)):Bool:=bar2L ps||bar3L n ps
theorem f2_none {ps:List (Int×Int)}:f2 ps=none↔bar2L ps=false:=by
 unfold f2 bar2L f2i
 rw [List.findSome?_eq_none_iff,List.any_eq_false]
 refine forall_congr' fun p=>forall_congr' fun hp=>?_
 rw [List.findSome?_eq_none_iff,Bool.not_eq_true,List.any_eq_false]
 refine forall_congr' fun q=>forall_congr' fun hq=>?_
 cases bar2B ps p.1 p.2 q.1 q.2 <;> simp
theorem f3_none {n:Nat} {ps:List (Int×Int)}:f3 n ps=none↔bar3L n ps=false:=by
 unfold f3 bar3L f3i
 rw [List.findSome?_eq_none_iff,List.any_eq_false]
 refine forall_congr' fun p=>forall_congr' fun hp=>?_
 rw [List.findSome?_eq_none_iff,Bool.not_eq_true,List.any_eq_false]
 refine forall_congr' fun c=>forall_congr' fun hc=>?_
 rw [List.findSome?_eq_none_iff,Bool.not_eq_true,List.any_eq_false]
 refine forall_congr' fun d=>forall_congr' fun hd=>?_
 cases bar3B ps p.1 p.2 c d <;> simp
theorem barD_no {n:Nat} {ps:List (Int×Int)} (h:barB n ps=false):barD n ps=.none:=by
 unfold barB at h
 rw [Bool.or_eq_false_iff] at h
 unfold barD
 rw [f2_none.mpr h.1,f3_none.mpr h.2]
 rfl
theorem barD_yes {n:Nat} {ps:List (Int×Int)} (h:barB n ps=true):∃ ds,barD n ps=.tuple ds:=by
 unfold barB at h
 unfold barD
 cases e2:f2 ps with
 | some l=>exact ⟨_,rfl⟩
 | none=>
  rw [f2_none.mp e2,Bool.false_or] at h
  cases e3:f3 n ps with
  | some l=>exact ⟨_,rfl⟩
  | none=>rw [f3_none.mp e3] at h;cases h
end
end My
namespace My
open PySem L2
section
variable {P:Program} {w:World} {K:PySem.W.Frag} {mg:Str→Option Value} {base:Heap} {t:Ad}
set_option genSizeOf false in
set_option genInjectivity false in
inductive sp_unbarred (vs:List V) (H:Hp) (Q:VK) (zz3:XK):Prop where
 | mk (x n ps:_) (zh0:vs=[x]) (zh1:Is H x (ordD n ps)) (zh2:Ord n ps) (zh3:barB n ps=false) (zh4:∀ H',Same H H'→Q .non H'):sp_unbarred vs H Q zz3
theorem ok_need_unbarred (T:Txt K mg t):FnOk P w K mg base CX0 7 t.a_need_unbarred t.d_need_unbarred ["order"] sp_unbarred:=by
 refine T.F_need_unbarred.ok sc_need_unbarred (fun vs H Q E h=>?_) (fun cdv A outer s H vs Q E hr h=>?_)
 ·obtain ⟨x,n,ps,rfl,_⟩:=h
  rfl
 ·obtain ⟨x,n,ps,rfl,hx,ho,hb,q⟩:=h
  refine ⟨_,(pss_one (ps_if (pt_cmpR o_notN (pe_call (ok_bar T) (hr.mono (by decide)) rfl T.m_bar T.F_bar.kp T.b_bar .nil pass0 (pa_cons (pv 0) pa_nil)) pe_non (nomark _)) (pss_one ps_never) pss_nil)),?_⟩
  walk_at "rd"
  refine ⟨x,n,ps,rfl,hx,ho,fun v H' s' iv=>?_⟩
  rw [barD_no hb] at iv
  cases iv with
  | non=>
  walk_at "rd"
  exact q H' s'
end
end My
namespace My
open PySem L2
section
variable {P:Program} {w:World} {K:PySem.W.Frag} {mg:Str→Option Value} {base:Heap} {t:Ad}
set_option genSizeOf false in
set_option genInjectivity false in
inductive sp_is_step (vs:List V) (H:Hp) (Q:VK) (zz3:XK):Prop where
 | mk (x d:_) (zh0:vs=[x]) (zh1:Is H x d) (zh2:Q (.bl (wholeB d 1 999)) H):sp_is_step vs H Q zz3
theorem ok_is_step (T:Txt K mg t):FnOk P w K mg base CX0 2 t.a_is_step t.d_is_step ["value"] sp_is_step:=by
 refine T.F_is_step.ok sc_is_step (fun vs H Q E h=>?_) (fun cdv A outer s H vs Q E hr h=>?_)
 ·obtain ⟨x,d,rfl,_⟩:=h
  rfl
 ·obtain ⟨x,d,rfl,hx,q⟩:=h
  refine ⟨_,(pss_one (ps_ret (pe_call (ok_is_whole T) (hr.mono (by decide)) rfl T.m_is_whole T.F_is_whole.kp T.b_is_whole .nil pass0 (pa_cons (pv 0) (pa_cons pe_int (pa_cons (pe_gint rfl T.c_MOST_STEP) pa_nil)))))),?_⟩
  walk_at "rd"
  exact ⟨_,_,_,_,rfl,hx,q⟩
noncomputable def numsB (d:PyData) (a b:Int):Bool:=match d with | .tuple ds=>decide (a≤ds.length)&&decide ((ds.length:Int)≤b)&&ds.all (fun d=>wholeB d 0 9999) | _=>false
set_option genSizeOf false in
set_option genInjectivity false in
inductive sp_is_numbers (vs:List V) (H:Hp) (Q:VK) (zz3:XK):Prop where
 | mk (x a b d:_) (zh0:vs=[x,.int a,.int b]) (zh1:Is H x d) (zh2:(∀ ds,d=.tuple ds→ds.length≤1000)) (zh3:∀ H',Same H H'→Q (.bl (numsB d a b)) H'):sp_is_numbers vs H Q zz3
theorem ok_is_numbers (T:Txt K mg t):FnOk P w K mg base CX0 2 t.a_is_numbers t.d_is_numbers ["value","fewest","most"] sp_is_numbers:=by
 refine T.F_is_numbers.ok sc_is_numbers (fun vs H Q E h=>?_) (fun cdv A outer s H vs Q E hr h=>?_)
 ·obtain ⟨x,a,b,d,rfl,_⟩:=h
  rfl
 ·obtain ⟨x,a,b,d,rfl,hx,hok,q⟩:=h
  refine ⟨_,(pss_cons (ps_if (PW.pt (pw_or (pt_not (pt_val (pe_callB c_isinst (by rfl) T.n_isinstance bt_isinstance (pa_cons (pv 0) (pa_cons (pe_bltn (v:=.ty "tuple") rfl T.n_tuple bt_tuple rfl) pa_nil))))) (pw_or1 (pt_not (pt_chain op_le op_le (pv 1) (pe_callB (k_len K) (by rfl) T.n_len bt_len (pa_cons (pv 0) pa_nil)) (pv 2)))))) (pss_one (ps_ret pe_bl)) pss_nil)
   (pss_one (ps_ret (pe_callB (k_all K) (by rfl) T.n_all bt_all (pa_cons (pe_lc rfl ⟨True.intro,True.intro,True.intro,True.intro,True.intro⟩ (M:=["number"]) (.own .nil) (gk_name rfl) rfl (by decide +kernel) (k_ptup K (pv 0)) (fun C fp s1 H1=>⟨pg_name (i:=0) (show (["number"]:List Str).Nodup by decide +kernel) rfl (Or.inl rfl),pif_nil,(pe_call (ok_is_whole T) (hr.mono (by decide)) rfl T.m_is_whole T.F_is_whole.kp T.b_is_whole .nil pass0 (pa_cons (pv 0) (pa_cons pe_int (pa_cons (pe_gint rfl T.c_MOST_NUMBER) pa_nil))))⟩)) pa_nil))))),?_⟩
  walk_at "rd"
  by_cases hd:∃ ds,d=.tuple ds
  ·obtain ⟨ds,rfl⟩:=hd
   have hlen:=hok _ rfl
   cases hx with
   | @tup r xs _ e hxs=>
   have hl:=hxs.length
   have qe:numsB (.tuple ds) a b=(decide (a≤ds.length)&&decide ((ds.length:Int)≤b)&&ds.all (fun d=>wholeB d 0 9999)):=rfl
   rw [qe] at q
   walk_at "rd"
   refine ifB (fun h1=>?_) (fun h1=>?_)
   ·walk_at "rd"
    rw [hl] at h1
    refine ifB (fun h2=>?_) (fun h2=>?_)
    ·walk_at "rd"
     have q':=q H (Same.refl H)
     have h2':decide ((ds.length:Int)≤b)=false:=by rw [hl] at h2;simpa using h2
     rw [h2',Bool.and_false,Bool.false_and] at q'
     exact q'
    ·walk_at "rd"
     have h2':decide ((ds.length:Int)≤b)=true:=by rw [hl] at h2;simpa using h2
     refine ⟨r,rfl,⟨xs,SqT.of e⟩,?_⟩
     refine lp_tup (K:=K) (xs:=xs) (small_ln (by omega)) (fun i zs H'=>H'=H∧zs=((ds.take i).map fun d=>wholeB d 0 9999).map V.bl) ⟨rfl,rfl⟩ (by rintro i ys H' ⟨_,rfl⟩;simp;omega) (fun i zs H' _ h=>by rw [h.1];exact SqT.of e) ?_ ?_
     ·rintro i x zs H' hx ⟨rfl,rfl⟩
      obtain ⟨d,ed,id⟩:=hxs.get' hx
      walk_at "rd"
      refine ⟨_,_,_,_,rfl,id,rfl,?_⟩
      rw [List.take_add_one,ed,List.map_append,List.map_append]
      rfl
     ·rintro zs H' ⟨rfl,rfl⟩ p hp
      walk_at "rd"
      refine rd_all upd_same ?_
      rw [hl,List.take_length,List.all_map]
      have q':=q _ (Same.upd (o:=.lst ((ds.map fun d=>wholeB d 0 9999).map V.bl)) hp)
      rw [h1,h2'] at q'
      exact q'
   ·walk_at "rd"
    rw [hl] at h1
    have q':=q H (Same.refl H)
    rw [h1,Bool.false_and,Bool.false_and] at q'
    exact q'
  ·have hd':∀ ds,d≠.tuple ds:=fun ds e=>hd ⟨ds,e⟩
   rw [isTup_no hd']
   walk_at "rd"
   have q':=q H (Same.refl H)
   have e:numsB d a b=false:=by
    unfold numsB
    split
    ·exact absurd rfl (hd' _)
    ·rfl
   rw [e] at q'
   exact q'
set_option genSizeOf false in
set_option genInjectivity false in
inductive sp_need_step (vs:List V) (H:Hp) (Q:VK) (zz3:XK):Prop where
 | mk (x d:_) (zh0:vs=[x]) (zh1:Is H x d) (zh2:wholeB d 1 999=true) (zh3:Q .non H):sp_need_step vs H Q zz3
theorem ok_need_step (T:Txt K mg t):FnOk P w K mg base CX0 3 t.a_need_step t.d_need_step ["value"] sp_need_step:=by
 refine T.F_need_step.ok sc_need_step (fun vs H Q E h=>?_) (fun cdv A outer s H vs Q E hr h=>?_)
 ·obtain ⟨x,d,rfl,_⟩:=h
  rfl
 ·obtain ⟨x,d,rfl,hx,ho,q⟩:=h
  refine ⟨_,(pss_one (ps_if (pt_not (pt_val (pe_call (ok_is_step T) (hr.mono (by decide)) rfl T.m_is_step T.F_is_step.kp T.b_is_step .nil pass0 (pa_cons (pv 0) pa_nil)))) (pss_one ps_never) pss_nil)),?_⟩
  walk_at "rd"
  refine ⟨_,_,rfl,hx,?_⟩
  rw [ho]
  walk_at "rd"
  exact q
set_option genSizeOf false in
set_option genInjectivity false in
inductive sp_need_numbers (vs:List V) (H:Hp) (Q:VK) (zz3:XK):Prop where
 | mk (x a b d:_) (zh0:vs=[x,.int a,.int b]) (zh1:Is H x d) (zh2:(∀ ds,d=.tuple ds→ds.length≤1000)) (zh3:numsB d a b=true) (zh4:∀ H',Same H H'→Q .non H'):sp_need_numbers vs H Q zz3
theorem ok_need_numbers (T:Txt K mg t):FnOk P w K mg base CX0 3 t.a_need_numbers t.d_need_numbers ["value","fewest","most"] sp_need_numbers:=by
 refine T.F_need_numbers.ok sc_need_numbers (fun vs H Q E h=>?_) (fun cdv A outer s H vs Q E hr h=>?_)
 ·obtain ⟨x,a,b,d,rfl,_⟩:=h
  rfl
 ·obtain ⟨x,a,b,d,rfl,hx,hok,ho,q⟩:=h
  refine ⟨_,(pss_one (ps_if (pt_not (pt_val (pe_call (ok_is_numbers T) (hr.mono (by decide)) rfl T.m_is_numbers T.F_is_numbers.kp T.b_is_numbers .nil pass0 (pa_cons (pv 0) (pa_cons (pv 1) (pa_cons (pv 2) pa_nil)))))) (pss_one ps_never) pss_nil)),?_⟩
  walk_at "rd"
  refine ⟨_,_,_,_,rfl,hx,hok,fun H' s'=>?_⟩
  rw [ho]
  walk_at "rd"
  exact q H' s'
end
end My
namespace My
open PySem L2
section
variable {P:Program} {w:World} {K:PySem.W.Frag} {mg:Str→Option Value} {base:Heap} {t:Ad}
noncomputable def dem (ps:List (Int×Int)) (st i j:Int):Option Int:=if has ps i j=true then some st else if has ps j i=true then none else some (1 - st)
noncomputable def oV:Option Int→V
 | some k=>.int k
 | none=>.non
set_option genSizeOf false in
set_option genInjectivity false in
inductive sp_demand (vs:List V) (H:Hp) (Q:VK) (zz3:XK):Prop where
 | mk (x ps st i j:_) (zh0:vs=[x,.int st,.int i,.int j]) (zh1:Is H x (.tuple (ps.map prD))) (zh2:∀ H',Same H H'→Q (oV (dem ps st i j)) H'):sp_demand vs H Q zz3
theorem ok_demand (T:Txt K mg t):FnOk P w K mg base CX0 1 t.a_demand t.d_demand ["pairs","step","one","other"] sp_demand:=by
 refine T.F_demand.ok sc_demand (fun vs H Q E h=>?_) (fun cdv A outer s H vs Q E hr h=>?_)
 ·obtain ⟨x,ps,st,i,j,rfl,_⟩:=h
  rfl
 ·obtain ⟨x,ps,st,i,j,rfl,hx,q⟩:=h
  refine ⟨_,(pss_cons (ps_if (pt_cmpR (op_inD hr.units) (pe_tup (pa_cons (pv 2) (pa_cons (pv 3) pa_nil))) (pv 0) (by rfl)) (pss_one (ps_ret (pv 1))) pss_nil)
   (pss_cons (ps_if (pt_cmpR (op_inD hr.units) (pe_tup (pa_cons (pv 3) (pa_cons (pv 2) pa_nil))) (pv 0) (by rfl)) (pss_one (ps_ret pe_non)) pss_nil)
   (pss_one (ps_ret (pe_op op_sub pe_int (pv 1)))))),?_⟩
  unfold dem at q
  walk_at "rd"
  refine ⟨two_ln,fun p1 hp1=>?_⟩
  have s1:=Same.upd (o:=.tup [.int i,.int j]) hp1
  walk_at "rd"
  refine rd_inP upd_same (hx.same s1) ?_
  walk_at "rd"
  refine ifB (fun h1=>?_) (fun h1=>?_)
  ·walk_at "rd"
   have q':=q _ s1
   rw [if_pos h1] at q'
   exact q'
  ·rw [h1] at q
   walk_at "rd"
   refine ⟨two_ln,fun p2 hp2=>?_⟩
   walk_at "rd"
   refine rd_inP upd_same (hx.same (s1.trans (Same.upd hp2))) ?_
   walk_at "rd"
   refine ifB (fun h2=>?_) (fun h2=>?_)
   ·rw [h2] at q
    walk_at "rd"
    exact q _ (s1.trans (Same.upd hp2))
   ·rw [h2] at q
    walk_at "rd"
    exact q _ (s1.trans (Same.upd hp2))
noncomputable abbrev Dm:=Nat×Nat×Int
noncomputable def trD (d:Dm):PyData:=.tuple [.int d.1,.int d.2.1,.int d.2.2]
noncomputable def dmI (ps:List (Int×Int)) (st:Int) (i j:Nat):List Dm:=if i=j then [] else match dem ps st i j with | some k=>[(i,j,k)] | none=>[]
noncomputable def dmRow (ps:List (Int×Int)) (st:Int) (i m:Nat):List Dm:=(List.range m).flatMap (dmI ps st i)
noncomputable def dmAll (n:Nat) (ps:List (Int×Int)) (st:Int) (m:Nat):List Dm:=(List.range m).flatMap fun i=>dmRow ps st i n
theorem dmI_len (ps:List (Int×Int)) (st:Int) (i j:Nat):(dmI ps st i j).length≤1:=by
 unfold dmI
 split
 ·exact Nat.zero_le _
 ·split
  ·exact Nat.le_refl _
  ·exact Nat.zero_le _
theorem dmRow_succ (ps:List (Int×Int)) (st:Int) (i m:Nat):dmRow ps st i (m + 1)=dmRow ps st i m++dmI ps st i m:=by
 unfold dmRow
 rw [List.range_succ,List.flatMap_append]
 simp
theorem dmAll_succ (n:Nat) (ps:List (Int×Int)) (st:Int) (m:Nat):dmAll n ps st (m + 1)=dmAll n ps st m++dmRow ps st m n:=by
 unfold dmAll
 rw [List.range_succ,List.flatMap_append]
 simp
theorem dmRow_len (ps:List (Int×Int)) (st:Int) (i:Nat):∀ m,(dmRow ps st i m).length≤m
 | 0=>Nat.le_refl _
 | m + 1=>by
  rw [dmRow_succ,List.length_append]
  have:=dmRow_len ps st i m
  have:=dmI_len ps st i m
  omega
theorem dmAll_len (n:Nat) (ps:List (Int×Int)) (st:Int):∀ m,(dmAll n ps st m).length≤m * n
 | 0=>Nat.zero_le _
 | m + 1=>by
  rw [dmAll_succ,List.length_append,Nat.succ_mul]
  have:=dmAll_len n ps st m
  have:=dmRow_len ps st m n
  omega
theorem noLs_tr:∀ ds:List Dm,noLs (ds.map trD)=true
 | []=>rfl
 | d::ds=>by
  rw [List.map_cons,noLs,noLs_tr ds]
  rfl
theorem grow {H:Hp} {l p:Addr} {xs ys:List V} {d:PyData} {ds:List PyData} (hn:noLs ds=true) (hl:H l=some (.lst xs)) (hp:H p=none) (h:IsAll H xs ds) (hd:Is (upd (upd H p (.tup ys)) l (.lst (xs++[.ref p]))) (.ref p) d):
  IsAll (upd (upd H p (.tup ys)) l (.lst (xs++[.ref p]))) (xs++[.ref p]) (ds++[d]):=by
 refine IsAll.snoc (h.tmono (fun a zs e=>?_) hn) hd
 have h1:a≠l:=ne_of e hl (by intro z;cases z)
 have h2:a≠p:=ne_of_none e hp
 rw [upd_ne h1,upd_ne h2]
 exact e
set_option genSizeOf false in
set_option genInjectivity false in
inductive sp_all_demands (vs:List V) (H:Hp) (Q:VK) (zz3:XK):Prop where
 | mk (x n ps st:_) (zh0:vs=[x,.int st]) (zh1:Is H x (ordD n ps)) (zh2:n≤8) (zh3:∀ l xs H',Same H H'→H l=none→H' l=some (.lst xs)→IsAll H' xs ((dmAll n ps st n).map trD)→Q (.ref l) H'):sp_all_demands vs H Q zz3
theorem ok_all_demands (T:Txt K mg t):FnOk P w K mg base CX0 2 t.a_all_demands t.d_all_demands ["order","step"] sp_all_demands:=by
 refine T.F_all_demands.ok sc_all_demands (fun vs H Q E h=>?_) (fun cdv A outer s H vs Q E hr h=>?_)
 ·obtain ⟨x,n,ps,st,rfl,_⟩:=h
  rfl
 ·obtain ⟨x,n,ps,st,rfl,hx,hn,q⟩:=h
  refine ⟨_,(pss_cons (ps_set (i:=2) sc_all_demands.nd rfl (Or.inl rfl) (pe_lst pa_nil))
   (pss_cons (ps_for PassesOwn.never rfl (pi_range1 rfl T.n_range (pa_cons (pe_ix (k_ix K) (pv 0) pe_int (fun _ _=>rfl)) pa_nil)) (pg_name (i:=3) sc_all_demands.nd rfl (Or.inl rfl)) (pss_one (ps_for PassesOwn.never rfl (pi_range1 rfl T.n_range (pa_cons (pe_ix (k_ix K) (pv 0) pe_int (fun _ _=>rfl)) pa_nil)) (pg_name (i:=4) sc_all_demands.nd rfl (Or.inl rfl)) (pss_cons (ps_set (i:=5) sc_all_demands.nd rfl (Or.inl rfl) (pe_call (ok_demand T) (hr.mono (by decide)) rfl T.m_demand T.F_demand.kp T.b_demand .nil pass0 (pa_cons (pe_ix (k_ix K) (pv 0) pe_int (fun _ _=>rfl)) (pa_cons (pv 1) (pa_cons (pv 3) (pa_cons (pv 4) pa_nil))))))
   (pss_one (ps_if (PW.pt (pw_and (pt_cmpR (op_neD hr.units) (pv 3) (pv 4) (nomark _)) (pw_and1 (pt_cmpR o_notN (pv 5) pe_non (nomark _))))) (pss_one (ps_expr (k_bm K PySem.F.plainAttrs_list PySem.F.slot_list_append PySem.F.type_list_append mt_append (pv 2) (pa_cons (pe_tup (pa_cons (pv 3) (pa_cons (pv 4) (pa_cons (pv 5) pa_nil)))) pa_nil)))) pss_nil))))))
   (pss_one (ps_ret (pv 2))))),?_⟩
  obtain ⟨a,b,xs,rfl,ea,eb,hxs⟩:=is_ord hx
  walk_at "rd"
  refine ⟨Nat.zero_le _,fun l hl=>?_⟩
  have s0:=Same.upd (o:=.lst []) hl
  have ea0:=s0 _ _ ea
  walk_at "rd"
  refine ⟨_,rfl,by omega,by omega,?_⟩
  rw [Int.toNat_natCast]
  refine fp_range (fun i σ H'=>(∃ va vb vc,σ=[some (.ref a),some (.int st),some (.ref l),va,vb,vc])∧Same H H'∧∃ zs,H' l=some (.lst zs)∧IsAll H' zs ((dmAll n ps st i).map trD)) ⟨⟨_,_,_,rfl⟩,s0,[],upd_same,.nil⟩ ?_ ?_
  ·rintro i σ H1 hi ⟨⟨va,vb,vc,rfl⟩,s1,zs,hz,iz⟩
   have ea1:=s1 _ _ ea
   walk_at "rd"
   refine ⟨_,rfl,by omega,by omega,?_⟩
   rw [Int.toNat_natCast]
   refine fp_range (fun j σ H'=>(∃ vb vc,σ=[some (.ref a),some (.int st),some (.ref l),some (.int (0 + i)),vb,vc])∧Same H H'∧∃ zs,H' l=some (.lst zs)∧IsAll H' zs ((dmAll n ps st i++dmRow ps st i j).map trD)) ⟨⟨_,_,rfl⟩,s1,zs,hz,by simpa [dmRow] using iz⟩ ?_ ?_
   ·rintro j σ H2 hj ⟨⟨vb,vc,rfl⟩,s2,zs2,hz2,iz2⟩
    have ea2:=s2 _ _ ea
    have eb2:=s2 _ _ eb
    walk_at "rd"
    refine ⟨_,ps,_,_,_,rfl,Is.same s2 (.tup eb hxs),fun H3 s3=>?_⟩
    have hz3:=s3 _ _ hz2
    have iz3:=iz2.same s3
    rw [Int.zero_add,Int.zero_add]
    have dE:dmAll n ps st i++dmRow ps st i (j + 1)=dmAll n ps st i++dmRow ps st i j++dmI ps st i j:=by rw [dmRow_succ,List.append_assoc]
    rw [dE]
    walk_at "rd"
    refine ifB (fun h1=>?_) (fun h1=>?_)
    ·have hij:i≠j:=by intro z;subst z;simp at h1
     walk_at "rd"
     cases hd:dem ps st i j with
     | none=>
      rw [show oV none=V.non from rfl]
      walk_at "rd"
      refine ⟨⟨_,_,rfl⟩,s2.trans s3,zs2,hz3,?_⟩
      simpa [dmI,hij,hd] using iz3
     | some k=>
      rw [show oV (some k)=V.int k from rfl]
      walk_at "rd"
      refine ⟨tyV_lst hz3,?_⟩
      walk_at "rd"
      refine ⟨by show 3≤sizeLine;decide,fun p hp=>?_⟩
      have hlp:l≠p:=ne_of_none hz3 hp
      have hlen:zs2.length≤8 * 8 + 8:=by
       rw [iz2.length,List.length_map,List.length_append]
       have h1:=dmAll_len n ps st i
       have h2:=dmRow_len ps st i j
       have h3:i * n≤8 * 8:=Nat.mul_le_mul (by omega) hn
       omega
      walk_at "rd"
      refine rd_append (xs:=zs2) ?_ (small1000 (by omega)) ?_
      ·rw [upd_ne hlp]
       exact hz3
      walk_at "rd"
      refine ⟨⟨_,_,rfl⟩,fun c u e=>?_,_,upd_same,?_⟩
      ·have e3:=(s2.trans s3) c u e
       rw [upd_ne (ne_of_none e hl),upd_ne (ne_of_none e3 hp)]
       exact e3
      ·have e1:dmI ps st i j=[(i,j,k)]:=by simp [dmI,hij,hd]
       rw [e1,List.map_append]
       refine grow (noLs_tr _) hz3 hp iz3 (.tup ?_ (.cons (.int _) (.cons (.int _) (.cons (.int _) .nil))))
       rw [upd_ne (Ne.symm hlp),upd_same]
    ·have hij:i=j:=by
      have h1':((i:Int)==(j:Int))=true:=by simpa using h1
      have:=eq_of_beq h1'
      omega
     walk_at "rd"
     refine ⟨⟨_,_,rfl⟩,s2.trans s3,zs2,hz3,?_⟩
     simpa [dmI,hij] using iz3
   ·rintro σ H2 ⟨⟨vb,vc,rfl⟩,s2,zs2,hz2,iz2⟩
    exact ⟨⟨_,_,_,rfl⟩,s2,zs2,hz2,by rw [dmAll_succ];exact iz2⟩
  ·rintro σ H1 ⟨⟨va,vb,vc,rfl⟩,s1,zs,hz,iz⟩
   walk_at "rd"
   exact q l zs H1 s1 hl hz iz
noncomputable abbrev Rs:=List Int×List V×V
noncomputable def rel1 (s:Rs) (d:Dm):Rs:=if s.1.getD d.1 0 + d.2.2 > s.1.getD d.2.1 0 then (s.1.set d.2.1 (s.1.getD d.1 0 + d.2.2),s.2.1.set d.2.1 (.int d.1),.int d.2.1) else s
noncomputable def run1 (ds:List Dm) (vals:List Int) (orgs:List V):Rs:=ds.foldl rel1 (vals,orgs,.non)
theorem rel1_len (s:Rs) (d:Dm):(rel1 s d).1.length=s.1.length∧(rel1 s d).2.1.length=s.2.1.length:=by
 unfold rel1
 split
 ·simp
 ·exact ⟨rfl,rfl⟩
theorem fold_len:∀ (ds:List Dm) (s:Rs),(ds.foldl rel1 s).1.length=s.1.length∧(ds.foldl rel1 s).2.1.length=s.2.1.length
 | [],s=>⟨rfl,rfl⟩
 | d::ds,s=>by
  rw [List.foldl_cons]
  have h:=fold_len ds (rel1 s d)
  have g:=rel1_len s d
  exact ⟨h.1.trans g.1,h.2.trans g.2⟩
noncomputable def SameB (v o:Addr) (H H':Hp):Prop:=∀ b u,H b=some u→b≠v→b≠o→H' b=some u
structure Vals2 (H:Hp) (v o:Addr) (vals:List Int) (orgs:List V) (n:Nat):Prop where
 hv:H v=some (.lst (vals.map V.int))
 ho:H o=some (.lst orgs)
 lv:vals.length=n
 lo:orgs.length=n
noncomputable def dmOk (n:Nat) (ds:List Dm):Prop:=∀ d∈ds,d.1 < n∧d.2.1 < n
theorem three_ints {H:Hp} {xs:List V} {a b c:Int} (h:IsAll H xs [.int a,.int b,.int c]):xs=[.int a,.int b,.int c]:=by
 cases h with
 | cons h1 t=>
  cases h1
  cases t with
  | cons h2 t2=>
   cases h2
   cases t2 with
   | cons h3 t3=>
    cases h3
    cases t3
    rfl
theorem tr_at {H:Hp} {xs:List V} {ds:List Dm} {i:Nat} {x:V} (h:IsAll H xs (ds.map trD)) (e:xs[i]? =some x):∃ d r,ds[i]? =some d∧x=.ref r∧H r=some (.tup [.int d.1,.int d.2.1,.int d.2.2]):=by
 obtain ⟨d,ed,id⟩:=h.get' e
 rw [List.getElem?_map] at ed
 cases hd:ds[i]? with
 | none=>rw [hd] at ed;cases ed
 | some d0=>
  rw [hd] at ed
  cases ed
  unfold trD at id
  cases id with
  | @tup r ys _ er hys=>
   rw [three_ints hys] at er
   exact ⟨d0,r,rfl,rfl,er⟩
theorem SameB.refl {v o:Addr} (H:Hp):SameB v o H H:=fun _ _ h _ _=>h
theorem SameB.trans {v o:Addr} {H H1 H2:Hp} (a:SameB v o H H1) (b:SameB v o H1 H2):SameB v o H H2:=fun c u h h1 h2=>b c u (a c u h h1 h2) h1 h2
set_option genSizeOf false in
set_option genInjectivity false in
inductive sp_raise_once (vs:List V) (H:Hp) (Q:VK) (zz3:XK):Prop where
 | mk (l v o ds vals orgs n xs:_) (zh0:vs=[.ref l,.ref v,.ref o]) (zh1:H l=some (.lst xs)) (zh2:IsAll H xs (ds.map trD)) (zh3:Vals2 H v o vals orgs n) (zh4:l≠v) (zh5:l≠o) (zh6:v≠o) (zh7:dmOk n ds) (zh8:∀ H',SameB v o H H'→Vals2 H' v o (run1 ds vals orgs).1 (run1 ds vals orgs).2.1 n→Q (run1 ds vals orgs).2.2 H'):sp_raise_once vs H Q zz3
theorem getD_map {vals:List Int} {i:Nat} (hi:i < vals.length):(vals.map V.int)[i]? =some (.int (vals.getD i 0)):=by
 rw [List.getElem?_map]
 simp [hi]
theorem set_map (vals:List Int) (i:Nat) (k:Int):(vals.map V.int).set i (.int k)=(vals.set i k).map V.int:=by
 rw [List.map_set]
theorem ok_raise_once (T:Txt K mg t):FnOk P w K mg base CX0 1 t.a_raise_once t.d_raise_once ["demands","values","origins"] sp_raise_once:=by
 refine T.F_raise_once.ok sc_raise_once (fun vs H Q E h=>?_) (fun cdv A outer s H vs Q E hr h=>?_)
 ·obtain ⟨l,v,o,ds,vals,orgs,n,xs,rfl,_⟩:=h
  rfl
 ·obtain ⟨l,v,o,ds,vals,orgs,n,xs,rfl,hl,hxs,V0,nlv,nlo,nvo,hds,q⟩:=h
  refine ⟨_,(pss_cons (ps_set (i:=3) sc_raise_once.nd rfl (Or.inl rfl) pe_non)
   (pss_cons (ps_for PassesOwn.never rfl (k_plst K (pv 0)) (k_gtup K rfl (pgs_cons (pg_name (i:=4) sc_raise_once.nd rfl (Or.inl rfl)) (pgs_cons (pg_name (i:=5) sc_raise_once.nd rfl (Or.inl rfl)) (pgs_cons (pg_name (i:=6) sc_raise_once.nd rfl (Or.inl rfl)) pgs_nil)))) (pss_one (ps_if (pt_cmpR (op_gt) (pe_op op_add (pe_ix (k_ix K) (pv 1) (pv 4) (fun _ _=>rfl)) (pv 6)) (pe_ix (k_ix K) (pv 1) (pv 5) (fun _ _=>rfl)) (nomark _)) (pss_cons (ps_asg (pe_op op_add (pe_ix (k_ix K) (pv 1) (pv 4) (fun _ _=>rfl)) (pv 6)) (pg_sub (pv 1) (pv 5) set_list (fun _=>rfl)))
   (pss_cons (ps_asg (pv 4) (pg_sub (pv 2) (pv 5) set_list (fun _=>rfl)))
   (pss_one (ps_set (i:=3) sc_raise_once.nd rfl (Or.inl rfl) (pv 5))))) pss_nil)))
   (pss_one (ps_ret (pv 3))))),?_⟩
  have hlen:xs.length=ds.length:=by rw [hxs.length,List.length_map]
  walk_at "rd"
  refine ⟨l,rfl,⟨xs,SqL.of hl⟩,?_⟩
  refine fp_list (K:=K) (xs:=xs) (fun i σ H'=>(∃ va vb vc,σ=[some (.ref l),some (.ref v),some (.ref o),some ((ds.take i).foldl rel1 (vals,orgs,.non)).2.2,va,vb,vc])∧SameB v o H H'∧Vals2 H' v o ((ds.take i).foldl rel1 (vals,orgs,.non)).1 ((ds.take i).foldl rel1 (vals,orgs,.non)).2.1 n)
   ⟨⟨_,_,_,rfl⟩,SameB.refl H,V0⟩ (fun i σ H' _ h=>SqL.of (h.2.1 _ _ hl nlv nlo)) ?_ ?_
  ·rintro i x σ H1 hx ⟨⟨va,vb,vc,rfl⟩,s1,V1⟩
   obtain ⟨d,r,ed,rfl,er0⟩:=tr_at hxs hx
   have er:H1 r=some (.tup [.int d.1,.int d.2.1,.int d.2.2]):=s1 r _ er0 (ne_of er0 V0.hv (by intro z;cases z)) (ne_of er0 V0.ho (by intro z;cases z))
   obtain ⟨hd1,hd2⟩:=hds d (List.mem_of_getElem? ed)
   have e1:(ds.take (i + 1)).foldl rel1 (vals,orgs,V.non)=rel1 ((ds.take i).foldl rel1 (vals,orgs,V.non)) d:=by
    rw [List.take_add_one,ed,List.foldl_append]
    rfl
   rw [e1]
   generalize hS:(ds.take i).foldl rel1 (vals,orgs,V.non)=S at V1 ⊢
   obtain ⟨hv1,ho1,lv1,lo1⟩:=id V1
   refine rd_gtup er rfl ?_
   walk_at "rd"
   refine rd_ixL hv1 (atI_of rfl (getD_map (by rw [lv1];exact hd1))) ?_
   walk_at "rd"
   refine rd_ixL hv1 (atI_of rfl (getD_map (by rw [lv1];exact hd2))) ?_
   walk_at "rd"
   unfold rel1
   refine ifB (fun h1=>?_) (fun h1=>?_)
   ·have h1':=of_decide_eq_true h1
    rw [if_pos h1']
    walk_at "rd"
    refine rd_ixL hv1 (atI_of rfl (getD_map (by rw [lv1];exact hd1))) ?_
    walk_at "rd"
    refine rd_setL hv1 rfl (by rw [List.length_map,lv1];exact hd2) ?_
    walk_at "rd"
    refine rd_setL (xs:=S.2.1) (by rw [upd_ne (Ne.symm nvo)];exact ho1) rfl (by rw [lo1];exact hd2) ?_
    walk_at "rd"
    refine ⟨⟨_,_,_,rfl⟩,fun b u e n1 n2=>?_,?_,upd_same,by rw [List.length_set];exact lv1,by rw [List.length_set];exact lo1⟩
    ·rw [upd_ne n2,upd_ne n1]
     exact s1 b u e n1 n2
    ·rw [upd_ne nvo,upd_same,set_map]
   ·have h1':=of_decide_eq_false h1
    rw [if_neg h1']
    walk_at "rd"
    exact ⟨⟨_,_,_,rfl⟩,s1,V1⟩
  ·rintro σ H1 ⟨⟨va,vb,vc,rfl⟩,s1,V1⟩
   rw [hlen,List.take_length] at V1 ⊢
   walk_at "rd"
   exact q H1 s1 V1
end
end My
namespace My
open PySem L2
section
variable {P:Program} {w:World} {K:PySem.W.Frag} {mg:Str→Option Value} {base:Heap} {t:Ad}
theorem run1_len (ds:List Dm) (vals:List Int) (orgs:List V):(run1 ds vals orgs).1.length=vals.length∧(run1 ds vals orgs).2.1.length=orgs.length:=fold_len ds _
noncomputable def rounds (ds:List Dm):Nat→List Int→List V→V→Rs
 | 0,vals,orgs,r=>(vals,orgs,r)
 | k + 1,vals,orgs,_=>if (run1 ds vals orgs).2.2=.non then ((run1 ds vals orgs).1,(run1 ds vals orgs).2.1,.non) else rounds ds k (run1 ds vals orgs).1 (run1 ds vals orgs).2.1 (run1 ds vals orgs).2.2
theorem rel1_r (s:Rs) (d:Dm) (h:s.2.2=.non∨∃ k,s.2.2=.int k):(rel1 s d).2.2=.non∨∃ k,(rel1 s d).2.2=.int k:=by
 unfold rel1
 split
 ·exact .inr ⟨_,rfl⟩
 ·exact h
theorem fold_r:∀ (ds:List Dm) (s:Rs),(s.2.2=.non∨∃ k,s.2.2=.int k)→((ds.foldl rel1 s).2.2=.non∨∃ k,(ds.foldl rel1 s).2.2=.int k)
 | [],s,h=>h
 | d::ds,s,h=>by
  rw [List.foldl_cons]
  exact fold_r ds _ (rel1_r s d h)
theorem run1_r (ds:List Dm) (vals:List Int) (orgs:List V):(run1 ds vals orgs).2.2=.non∨∃ k,(run1 ds vals orgs).2.2=.int k:=fold_r ds _ (.inl rfl)
set_option genSizeOf false in
set_option genInjectivity false in
inductive sp_raise_all (vs:List V) (H:Hp) (Q:VK) (zz3:XK):Prop where
 | mk (l v o ds vals orgs n xs:_) (zh0:vs=[.ref l,.ref v,.ref o]) (zh1:n≤8) (zh2:H l=some (.lst xs)) (zh3:IsAll H xs (ds.map trD)) (zh4:Vals2 H v o vals orgs n) (zh5:l≠v) (zh6:l≠o) (zh7:v≠o) (zh8:dmOk n ds) (zh9:∀ H',SameB v o H H'→Vals2 H' v o (rounds ds n vals orgs .non).1 (rounds ds n vals orgs .non).2.1 n→Q (rounds ds n vals orgs .non).2.2 H'):sp_raise_all vs H Q zz3
theorem ok_raise_all (T:Txt K mg t):FnOk P w K mg base CX0 2 t.a_raise_all t.d_raise_all ["demands","values","origins"] sp_raise_all:=by
 refine T.F_raise_all.ok sc_raise_all (fun vs H Q E h=>?_) (fun cdv A outer s H vs Q E hr h=>?_)
 ·obtain ⟨l,v,o,ds,vals,orgs,n,xs,rfl,_⟩:=h
  rfl
 ·obtain ⟨l,v,o,ds,vals,orgs,n,xs,rfl,hn,hl,hxs,V0,nlv,nlo,nvo,hds,q⟩:=h
  refine ⟨_,(pss_cons (ps_set (i:=3) sc_raise_all.nd rfl (Or.inl rfl) pe_non)
   (pss_cons (ps_for PassesOwn.never rfl (pi_range1 rfl T.n_range (pa_cons (pe_callB (k_len K) (by rfl) T.n_len bt_len (pa_cons (pv 1) pa_nil)) pa_nil)) (pg_name (i:=4) sc_raise_all.nd rfl (Or.inl rfl)) (pss_cons (ps_set (i:=3) sc_raise_all.nd rfl (Or.inl rfl) (pe_call (ok_raise_once T) (hr.mono (by decide)) rfl T.m_raise_once T.F_raise_once.kp T.b_raise_once .nil pass0 (pa_cons (pv 0) (pa_cons (pv 1) (pa_cons (pv 2) pa_nil)))))
   (pss_one (ps_if (pt_cmpR o_isN (pv 3) pe_non (nomark _)) (pss_one (ps_ret pe_non)) pss_nil))))
   (pss_one (ps_ret (pv 3))))),?_⟩
  have hv0:=V0.hv
  have hlv:(vals.map V.int).length=n:=by rw [List.length_map];exact V0.lv
  walk_at "rd"
  refine ⟨_,rfl,by omega,by omega,?_⟩
  rw [hlv,Int.toNat_natCast]
  refine fp_range (fun i σ H'=>i≤n∧SameB v o H H'∧∃ vals' orgs' r va,σ=[some (.ref l),some (.ref v),some (.ref o),some r,va]∧Vals2 H' v o vals' orgs' n∧rounds ds (n - i) vals' orgs' r=rounds ds n vals orgs .non)
   ⟨Nat.zero_le _,SameB.refl H,vals,orgs,.non,_,rfl,V0,rfl⟩ ?_ ?_
  ·rintro i σ H1 hi ⟨_,s1,vals',orgs',r,va,rfl,V1,hR⟩
   walk_at "rd"
   refine ⟨l,v,o,ds,vals',orgs',n,xs,rfl,s1 _ _ hl nlv nlo,?_,V1,nlv,nlo,nvo,hds,fun H2 s2 V2=>?_⟩
   ·refine hxs.tmono (fun a zs e=>s1 a _ e ?_ ?_) (noLs_tr _)
    ·exact ne_of e V0.hv (by intro z;cases z)
    ·exact ne_of e V0.ho (by intro z;cases z)
   have ek:n - i=(n - (i + 1)) + 1:=by omega
   rw [ek,rounds] at hR
   rcases run1_r ds vals' orgs' with hr0 | ⟨k,hr0⟩
   ·rw [hr0] at hR ⊢
    rw [if_pos rfl] at hR
    rw [←hR] at q
    walk_at "rd"
    exact q H2 (s1.trans s2) V2
   ·rw [hr0] at hR ⊢
    rw [if_neg (by intro z;cases z)] at hR
    walk_at "rd"
    exact ⟨hi,s1.trans s2,_,_,_,_,rfl,V2,hR⟩
  ·rintro σ H1 ⟨_,s1,vals',orgs',r,va,rfl,V1,hR⟩
   rw [Nat.sub_self,rounds] at hR
   walk_at "rd"
   rw [←hR] at q
   exact q H1 s1 V1
noncomputable def lv (n:Nat) (ds:List Dm):Option (List Int):=if (rounds ds n (List.replicate n 0) (List.replicate n .non) .non).2.2=.non then some (rounds ds n (List.replicate n 0) (List.replicate n .non) .non).1 else none
noncomputable def Ans (Q:VK) (H':Hp):Option (List Int)→Prop
 | none=>Q .non H'
 | some vals=>∀ p,H' p=some (.tup (vals.map V.int))→Q (.ref p) H'
set_option genSizeOf false in
set_option genInjectivity false in
inductive sp_least_values (vs:List V) (H:Hp) (Q:VK) (zz3:XK):Prop where
 | mk (l ds n xs:_) (zh0:vs=[.int (n:Nat),.ref l]) (zh1:n≤8) (zh2:H l=some (.lst xs)) (zh3:IsAll H xs (ds.map trD)) (zh4:dmOk n ds) (zh5:∀ H',Same H H'→Ans Q H' (lv n ds)):sp_least_values vs H Q zz3
theorem rep_int (n:Nat):List.replicate n (V.int 0)=(List.replicate n (0:Int)).map V.int:=by rw [List.map_replicate]
theorem ok_least_values (T:Txt K mg t):FnOk P w K mg base CX0 3 t.a_least_values t.d_least_values ["many","demands"] sp_least_values:=by
 refine T.F_least_values.ok sc_least_values (fun vs H Q E h=>?_) (fun cdv A outer s H vs Q E hr h=>?_)
 ·obtain ⟨l,ds,n,xs,rfl,_⟩:=h
  rfl
 ·obtain ⟨l,ds,n,xs,rfl,hn,hl,hxs,hds,q⟩:=h
  refine ⟨_,(pss_cons (ps_set (i:=2) sc_least_values.nd rfl (Or.inl rfl) (pe_op op_rep (pe_lst (pa_cons pe_int pa_nil)) (pv 0)))
   (pss_cons (ps_if (pt_cmpR o_isN (pe_call (ok_raise_all T) (hr.mono (by decide)) rfl T.m_raise_all T.F_raise_all.kp T.b_raise_all .nil pass0 (pa_cons (pv 1) (pa_cons (pv 2) (pa_cons (pe_op op_rep (pe_lst (pa_cons pe_non pa_nil)) (pv 0)) pa_nil)))) pe_non (nomark _)) (pss_one (ps_ret (pe_callTy (k_tuple K) (by rfl) T.n_tuple bt_tuple (pa_cons (pv 2) pa_nil)))) pss_nil)
   (pss_one (ps_ret pe_non)))),?_⟩
  walk_at "rd"
  refine ⟨by show 1≤sizeLine;decide,fun p1 hp1=>?_⟩
  have s1:=Same.upd (o:=.lst [V.int 0]) hp1
  walk_at "rd"
  refine rd_rep upd_same (by omega) fun v hv=>?_
  have s2:=s1.trans (Same.upd (o:=.lst (List.replicate n (V.int 0))) hv)
  walk_at "rd"
  refine ⟨by show 1≤sizeLine;decide,fun p2 hp2=>?_⟩
  have s3:=s2.trans (Same.upd (o:=.lst [V.non]) hp2)
  walk_at "rd"
  refine rd_rep upd_same (by omega) fun o ho=>?_
  walk_at "rd"
  generalize hG:upd (upd (upd (upd H p1 (.lst [V.int 0])) v (.lst (List.replicate n (V.int 0)))) p2 (.lst [V.non])) o (.lst (List.replicate n V.non))=G at *
  have s4:Same H G:=by rw [←hG];exact s3.trans (Same.upd ho)
  have nvp:v≠p2:=ne_of_none upd_same hp2
  have nvo:v≠o:=by
   refine ne_of_none (o:=.lst (List.replicate n (V.int 0))) ?_ ho
   rw [upd_ne nvp,upd_same]
  have gv:G v=some (.lst ((List.replicate n (0:Int)).map V.int)):=by rw [←hG,upd_ne nvo,upd_ne nvp,upd_same,rep_int]
  have go:G o=some (.lst (List.replicate n V.non)):=by rw [←hG,upd_same]
  have nlv:l≠v:=by
   intro z
   subst z
   rw [s1 _ _ hl] at hv
   cases hv
  have nlo:l≠o:=by
   intro z
   subst z
   rw [s3 _ _ hl] at ho
   cases ho
  refine ⟨l,v,o,ds,_,_,n,xs,rfl,hn,s4 _ _ hl,hxs.same s4,⟨gv,go,List.length_replicate,List.length_replicate⟩,nlv,nlo,nvo,hds,fun H' s5 V5=>?_⟩
  have sH:Same H H':=fun b u e=>by
   refine s5 b u (s4 b u e) ?_ ?_
   ·intro z;subst z;rw [s1 _ _ e] at hv;cases hv
   ·intro z;subst z;rw [s3 _ _ e] at ho;cases ho
  unfold lv at q
  have hv5:=V5.hv
  rcases (show (rounds ds n (List.replicate n 0) (List.replicate n .non) .non).2.2=.non∨¬(rounds ds n (List.replicate n 0) (List.replicate n .non) .non).2.2=.non from Classical.em _) with hz | hz
  ·rw [hz]
   rw [if_pos hz] at q
   walk_at "rd"
   intro p hp
   walk_at "rd"
   have q':=q _ (sH.trans (Same.upd (o:=.tup ((rounds ds n (List.replicate n 0) (List.replicate n .non) .non).1.map V.int)) hp))
   exact q' p upd_same
  ·rw [if_neg hz] at q
   walk_at "rd"
   refine ifF (decide_eq_false hz) ?_
   walk_at "rd"
   exact q H' sH
theorem dmI_ok {n:Nat} {ps:List (Int×Int)} {st:Int} {i j:Nat} (hi:i < n) (hj:j < n):dmOk n (dmI ps st i j):=by
 intro d hd
 unfold dmI at hd
 split at hd
 ·cases hd
 ·split at hd
  ·rcases List.mem_singleton.mp hd with rfl
   exact ⟨hi,hj⟩
  ·cases hd
theorem dmAll_ok (n:Nat) (ps:List (Int×Int)) (st:Int):dmOk n (dmAll n ps st n):=by
 intro d hd
 obtain ⟨i,hi,hd⟩:=List.mem_flatMap.mp hd
 obtain ⟨j,hj,hd⟩:=List.mem_flatMap.mp hd
 exact dmI_ok (List.mem_range.mp hi) (List.mem_range.mp hj) d hd
noncomputable def nums (n:Nat) (ps:List (Int×Int)) (st:Int):Option (List Int):=lv n (dmAll n ps st n)
theorem step_ok {st:Int} (h1:1≤st) (h2:st≤999):wholeB (.int st) 1 999=true:=by
 show (decide (1≤st)&&decide (st≤999))=true
 simp [h1,h2]
set_option genSizeOf false in
set_option genInjectivity false in
inductive sp_numbers (vs:List V) (H:Hp) (Q:VK) (zz3:XK):Prop where
 | mk (x n ps st:_) (zh0:vs=[x,.int st]) (zh1:Is H x (ordD n ps)) (zh2:Ord n ps) (zh3:1≤st) (zh4:st≤999) (zh5:∀ H',Same H H'→Ans Q H' (nums n ps st)):sp_numbers vs H Q zz3
theorem ok_numbers (T:Txt K mg t):FnOk P w K mg base CX0 6 t.a_numbers t.d_numbers ["order","step"] sp_numbers:=by
 refine T.F_numbers.ok sc_numbers (fun vs H Q E h=>?_) (fun cdv A outer s H vs Q E hr h=>?_)
 ·obtain ⟨x,n,ps,st,rfl,_⟩:=h
  rfl
 ·obtain ⟨x,n,ps,st,rfl,hx,ho,h1,h2,q⟩:=h
  refine ⟨_,(pss_cons (ps_expr (pe_call (ok_need_order T) (hr.mono (by decide)) rfl T.m_need_order T.F_need_order.kp T.b_need_order .nil pass0 (pa_cons (pv 0) pa_nil)))
   (pss_cons (ps_expr (pe_call (ok_need_step T) (hr.mono (by decide)) rfl T.m_need_step T.F_need_step.kp T.b_need_step .nil pass0 (pa_cons (pv 1) pa_nil)))
   (pss_one (ps_ret (pe_call (ok_least_values T) (hr.mono (by decide)) rfl T.m_least_values T.F_least_values.kp T.b_least_values .nil pass0 (pa_cons (pe_ix (k_ix K) (pv 0) pe_int (fun _ _=>rfl)) (pa_cons (pe_call (ok_all_demands T) (hr.mono (by decide)) rfl T.m_all_demands T.F_all_demands.kp T.b_all_demands .nil pass0 (pa_cons (pv 0) (pa_cons (pv 1) pa_nil))) pa_nil))))))),?_⟩
  walk_at "rd"
  refine ⟨_,_,rfl,hx,ho.okd,ho.yes,fun H1 s1=>?_⟩
  walk_at "rd"
  refine ⟨_,_,rfl,.int st,step_ok h1 h2,?_⟩
  obtain ⟨a,b,xs,rfl,ea,eb,hxs⟩:=is_ord (hx.same s1)
  walk_at "rd"
  refine ⟨_,n,ps,st,rfl,hx.same s1,ho.hi,fun l ys H2 s2 hl hl2 hys=>?_⟩
  walk_at "rd"
  exact ⟨l,_,n,ys,rfl,ho.hi,hl2,hys,dmAll_ok n ps st,fun H3 s3=>q H3 ((s1.trans s2).trans s3)⟩
set_option genSizeOf false in
set_option genInjectivity false in
inductive sp_least (vs:List V) (H:Hp) (Q:VK) (zz3:XK):Prop where
 | mk (x n ps st vals:_) (zh0:vs=[x]) (zh1:Is H x (ordD n ps)) (zh2:Ord n ps) (zh3:barB n ps=false) (zh4:1≤st) (zh5:st≤999) (zh6:nums n ps st=some vals) (zh7:(∀ s',1≤s'→s' < st→nums n ps s'=none)) (zh8:∀ H' p r,Same H H'→H' p=some (.tup [.int st,.ref r])→H' r=some (.tup (vals.map V.int))→Q (.ref p) H'):sp_least vs H Q zz3
theorem ok_least (T:Txt K mg t):FnOk P w K mg base CX0 8 t.a_least t.d_least ["order"] sp_least:=by
 refine T.F_least.ok sc_least (fun vs H Q E h=>?_) (fun cdv A outer s H vs Q E hr h=>?_)
 ·obtain ⟨x,n,ps,st,vals,rfl,_⟩:=h
  rfl
 ·obtain ⟨x,n,ps,st,vals,rfl,hx,ho,hb,h1,h2,hS,hmin,q⟩:=h
  refine ⟨_,(pss_cons (ps_expr (pe_call (ok_need_unbarred T) (hr.mono (by decide)) rfl T.m_need_unbarred T.F_need_unbarred.kp T.b_need_unbarred .nil pass0 (pa_cons (pv 0) pa_nil)))
   (pss_cons (ps_set (i:=1) sc_least.nd rfl (Or.inl rfl) pe_int)
   (pss_cons (ps_set (i:=2) sc_least.nd rfl (Or.inl rfl) (pe_call (ok_numbers T) (hr.mono (by decide)) rfl T.m_numbers T.F_numbers.kp T.b_numbers .nil pass0 (pa_cons (pv 0) (pa_cons (pv 1) pa_nil))))
   (pss_cons (ps_while PassesOwn.never (pt_cmpR o_isN (pv 2) pe_non (nomark _)) (pss_cons (ps_set (i:=1) sc_least.nd rfl (Or.inl rfl) (pe_op op_add (pv 1) pe_int))
   (pss_one (ps_set (i:=2) sc_least.nd rfl (Or.inl rfl) (pe_call (ok_numbers T) (hr.mono (by decide)) rfl T.m_numbers T.F_numbers.kp T.b_numbers .nil pass0 (pa_cons (pv 0) (pa_cons (pv 1) pa_nil)))))))
   (pss_one (ps_ret (pe_tup (pa_cons (pv 1) (pa_cons (pv 2) pa_nil))))))))),?_⟩
  walk_at "rd"
  refine ⟨x,n,ps,rfl,hx,ho,hb,fun H1 s1=>?_⟩
  walk_at "rd"
  refine ⟨x,n,ps,1,rfl,hx.same s1,ho,by omega,by omega,fun H2 s2=>?_⟩
  have key:∀ (sc:Int) (H':Hp) (Q':VK),Same H H'→1≤sc→sc≤st→(∀ f,((sc < st∧f=V.non)∨(sc=st∧∃ r,f=.ref r∧H' r=some (.tup (vals.map V.int))))→Q' f H')→Ans Q' H' (nums n ps sc):=fun sc H' Q' _ g1 g2 k=>by
   by_cases e:sc=st
   ·subst e
    rw [hS]
    exact fun p hp=>k _ (.inr ⟨rfl,p,rfl,hp⟩)
   ·rw [hmin sc g1 (by omega)]
    exact k _ (.inl ⟨by omega,rfl⟩)
  refine key 1 H2 _ (s1.trans s2) (by omega) h1 fun f hf=>?_
  walk_at "rd"
  refine ⟨fun m σ H'=>∃ sc f,σ=[some x,some (.int sc),some f]∧Same H H'∧1≤sc∧sc≤st∧m=(st - sc).toNat∧((sc < st∧f=V.non)∨(sc=st∧∃ r,f=.ref r∧H' r=some (.tup (vals.map V.int)))),⟨_,1,f,rfl,s1.trans s2,by omega,h1,rfl,hf⟩,?_⟩
  rintro m σ H3 ⟨sc,f,rfl,s3,g1,g2,rfl,hf⟩
  rcases hf with ⟨g3,rfl⟩ | ⟨rfl,r,rfl,hr'⟩
  ·walk_at "rd"
   refine ⟨fun σ' H'=>∃ m',m' < (st - sc).toNat∧∃ sc' f,σ'=[some x,some (.int sc'),some f]∧Same H H'∧1≤sc'∧sc'≤st∧m'=(st - sc').toNat∧((sc' < st∧f=V.non)∨(sc'=st∧∃ r,f=.ref r∧H' r=some (.tup (vals.map V.int)))),fun σ' H' h=>h,?_⟩
   walk_at "rd"
   refine ⟨x,n,ps,sc + 1,rfl,hx.same s3,ho,by omega,by omega,fun H4 s4=>?_⟩
   refine key (sc + 1) H4 _ (s3.trans s4) (by omega) (by omega) fun f hf=>?_
   walk_at "rd"
   exact ⟨_,by omega,sc + 1,f,rfl,s3.trans s4,by omega,by omega,rfl,hf⟩
  ·walk_at "rd"
   refine ⟨by show 2≤sizeLine;decide,fun p hp=>?_⟩
   exact q _ p r (s3.trans (Same.upd hp)) upd_same (by rw [upd_ne (ne_of_none hr' hp)];exact hr')
set_option genSizeOf false in
set_option genInjectivity false in
inductive sp_least_step (vs:List V) (H:Hp) (Q:VK) (zz3:XK):Prop where
 | mk (x n ps st vals:_) (zh0:vs=[x]) (zh1:Is H x (ordD n ps)) (zh2:Ord n ps) (zh3:barB n ps=false) (zh4:1≤st) (zh5:st≤999) (zh6:nums n ps st=some vals) (zh7:(∀ s',1≤s'→s' < st→nums n ps s'=none)) (zh8:∀ H',Same H H'→Q (.int st) H'):sp_least_step vs H Q zz3
end
end My
namespace My
open PySem L2
section
variable {P:Program} {w:World} {K:PySem.W.Frag} {mg:Str→Option Value} {base:Heap} {t:Ad}
noncomputable def tlI (st:Int) (vals:List Int) (i j:Nat):List (Int×Int):=if vals.getD j 0 - vals.getD i 0≥st then [((i:Int),(j:Int))] else []
noncomputable def tlRow (st:Int) (vals:List Int) (i m:Nat):List (Int×Int):=(List.range m).flatMap (tlI st vals i)
noncomputable def tlAll (st:Int) (vals:List Int) (m:Nat):List (Int×Int):=(List.range m).flatMap fun i=>tlRow st vals i vals.length
noncomputable def toldL (st:Int) (vals:List Int):List (Int×Int):=tlAll st vals vals.length
theorem tlRow_succ (st:Int) (vals:List Int) (i m:Nat):tlRow st vals i (m + 1)=tlRow st vals i m++tlI st vals i m:=by
 unfold tlRow
 rw [List.range_succ,List.flatMap_append]
 simp
theorem tlAll_succ (st:Int) (vals:List Int) (m:Nat):tlAll st vals (m + 1)=tlAll st vals m++tlRow st vals m vals.length:=by
 unfold tlAll
 rw [List.range_succ,List.flatMap_append]
 simp
theorem tlI_len (st:Int) (vals:List Int) (i j:Nat):(tlI st vals i j).length≤1:=by
 unfold tlI
 split
 ·exact Nat.le_refl _
 ·exact Nat.zero_le _
theorem tlRow_len (st:Int) (vals:List Int) (i:Nat):∀ m,(tlRow st vals i m).length≤m
 | 0=>Nat.le_refl _
 | m + 1=>by
  rw [tlRow_succ,List.length_append]
  have:=tlRow_len st vals i m
  have:=tlI_len st vals i m
  omega
theorem tlAll_len (st:Int) (vals:List Int):∀ m,(tlAll st vals m).length≤m * vals.length
 | 0=>Nat.zero_le _
 | m + 1=>by
  rw [tlAll_succ,List.length_append,Nat.succ_mul]
  have:=tlAll_len st vals m
  have:=tlRow_len st vals m vals.length
  omega
theorem noLs_pr:∀ ds:List (Int×Int),noLs (ds.map prD)=true
 | []=>rfl
 | d::ds=>by
  rw [List.map_cons,noLs,noLs_pr ds]
  rfl
theorem eqvAll_pr:∀ ps qs:List (Int×Int),PyData.eqvAll (ps.map prD) (qs.map prD)=decide (ps=qs)
 | [],[]=>rfl
 | [],_::_=>rfl
 | _::_,[]=>rfl
 | p::ps,q::qs=>by
  rw [List.map_cons,List.map_cons,PyData.eqvAll,eqv_pr,eqvAll_pr ps qs]
  by_cases h:p=q
  ·by_cases h2:ps=qs
   ·subst h h2;simp
   ·simp [h,h2]
  ·simp [h]
theorem ok_prT (ps:List (Int×Int)):okD (.tuple (ps.map prD)):=by
 have h:=ok_prs ps
 refine ⟨?_,?_⟩
 ·rw [PyData.canLay0];exact h.1
 ·rw [PyData.depth]
  have:PyData.depthAll (ps.map prD)≤1:=by
   clear h
   induction ps with
   | nil=>exact Nat.zero_le _
   | cons p ps ih=>
    rw [List.map_cons,PyData.depthAll]
    exact Nat.max_le.mpr ⟨Nat.le_refl _,ih⟩
  omega
noncomputable abbrev ltP (p q:Int×Int):Prop:=HT.lexLt [p.1,p.2] [q.1,q.2]=true
theorem ltP_of {p q:Int×Int} (h:p.1 < q.1∨(p.1=q.1∧p.2 < q.2)):ltP p q:=by
 show HT.lexLt [p.1,p.2] [q.1,q.2]=true
 rw [HT.lexLt_cons]
 rcases h with h | ⟨h1,h2⟩
 ·rw [if_neg (by omega)]
  exact decide_eq_true h
 ·rw [if_pos h1,HT.lexLt_cons,if_neg (by omega)]
  exact decide_eq_true h2
theorem mem_tlI {st:Int} {vals:List Int} {i j:Nat} {p:Int×Int}:p∈tlI st vals i j↔p=((i:Int),(j:Int))∧vals.getD j 0 - vals.getD i 0≥st:=by
 unfold tlI
 split
 ·rename_i h
  rw [List.mem_singleton]
  exact ⟨fun e=>⟨e,h⟩,fun e=>e.1⟩
 ·rename_i h
  constructor
  ·intro e;cases e
  ·intro e;exact absurd e.2 h
theorem mem_tlRow {st:Int} {vals:List Int} {i m:Nat} {p:Int×Int}:p∈tlRow st vals i m↔∃ j,j < m∧p=((i:Int),(j:Int))∧vals.getD j 0 - vals.getD i 0≥st:=by
 unfold tlRow
 rw [List.mem_flatMap]
 constructor
 ·rintro ⟨j,hj,h⟩
  exact ⟨j,List.mem_range.mp hj,mem_tlI.mp h⟩
 ·rintro ⟨j,hj,h⟩
  exact ⟨j,List.mem_range.mpr hj,mem_tlI.mpr h⟩
theorem mem_tlAll {st:Int} {vals:List Int} {m:Nat} {p:Int×Int}:p∈tlAll st vals m↔∃ i j,i < m∧j < vals.length∧p=((i:Int),(j:Int))∧vals.getD j 0 - vals.getD i 0≥st:=by
 unfold tlAll
 rw [List.mem_flatMap]
 constructor
 ·rintro ⟨i,hi,h⟩
  obtain ⟨j,hj,e,g⟩:=mem_tlRow.mp h
  exact ⟨i,j,List.mem_range.mp hi,hj,e,g⟩
 ·rintro ⟨i,j,hi,hj,e,g⟩
  exact ⟨i,List.mem_range.mpr hi,mem_tlRow.mpr ⟨j,hj,e,g⟩⟩
theorem has_told {st:Int} {vals:List Int} {i j:Nat} (hi:i < vals.length) (hj:j < vals.length):has (toldL st vals) i j=decide (vals.getD j 0 - vals.getD i 0≥st):=by
 unfold has
 congr 1
 apply propext
 unfold toldL
 rw [mem_tlAll]
 constructor
 ·rintro ⟨a,b,_,_,e,g⟩
  have e1:(i:Int)=a:=congrArg Prod.fst e
  have e2:(j:Int)=b:=congrArg Prod.snd e
  have:i=a:=by omega
  have:j=b:=by omega
  subst_vars
  exact g
 ·intro g
  exact ⟨i,j,hi,hj,rfl,g⟩
theorem row_up (st:Int) (vals:List Int) (i:Nat):∀ m,(tlRow st vals i m).Pairwise ltP
 | 0=>.nil
 | m + 1=>by
  rw [tlRow_succ,List.pairwise_append]
  refine ⟨row_up st vals i m,?_,fun p hp q hq=>?_⟩
  ·unfold tlI
   split
   ·exact List.pairwise_singleton _ _
   ·exact .nil
  ·obtain ⟨j,hj,rfl,_⟩:=mem_tlRow.mp hp
   obtain ⟨rfl,_⟩:=mem_tlI.mp hq
   exact ltP_of (.inr ⟨rfl,by show (j:Int) < m;omega⟩)
theorem all_up (st:Int) (vals:List Int):∀ m,(tlAll st vals m).Pairwise ltP
 | 0=>.nil
 | m + 1=>by
  rw [tlAll_succ,List.pairwise_append]
  refine ⟨all_up st vals m,row_up st vals m _,fun p hp q hq=>?_⟩
  obtain ⟨i,j,hi,hj,rfl,_⟩:=mem_tlAll.mp hp
  obtain ⟨j',_,rfl,_⟩:=mem_tlRow.mp hq
  exact ltP_of (.inl (by show (i:Int) < m;omega))
theorem rising_of:∀ {ps:List (Int×Int)},ps.Pairwise ltP→risingB ps=true
 | [],_=>rfl
 | [_],_=>rfl
 | a::b::r,h=>by
  rw [risingB,rising_of (List.pairwise_cons.mp h).2,(List.pairwise_cons.mp h).1 b List.mem_cons_self]
  rfl
theorem row_len {st:Int} (hs:1≤st) {vals:List Int} {i:Nat}:∀ m,i < m→(tlRow st vals i m).length + 1≤m
 | 0,h=>by omega
 | m + 1,h=>by
  rw [tlRow_succ,List.length_append]
  by_cases e:i=m
  ·subst e
   have:tlI st vals i i=[]:=by
    unfold tlI
    rw [if_neg (by omega)]
   rw [this]
   have:=tlRow_len st vals i i
   simp only [List.length_nil]
   omega
  ·have a:=row_len (i:=i) hs (vals:=vals) m (by omega)
   have b:=tlI_len st vals i m
   omega
theorem all_len {st:Int} (hs:1≤st) {vals:List Int}:∀ m,m≤vals.length→(tlAll st vals m).length + m≤m * vals.length
 | 0,_=>by simp [tlAll]
 | m + 1,h=>by
  rw [tlAll_succ,List.length_append,Nat.succ_mul]
  have a:=all_len hs (vals:=vals) m (by omega)
  have b:=row_len hs (vals:=vals) (i:=m) vals.length (by omega)
  omega
theorem told_len {st:Int} (hs:1≤st) {vals:List Int} (h1:1≤vals.length) (h8:vals.length≤8):(toldL st vals).length < 64:=by
 have a:=all_len hs (vals:=vals) vals.length (Nat.le_refl _)
 have b:vals.length * vals.length≤8 * 8:=Nat.mul_le_mul h8 h8
 unfold toldL
 omega
theorem told_ord {st:Int} (hs:1≤st) {vals:List Int} (h1:1≤vals.length) (h8:vals.length≤8):Ord vals.length (toldL st vals) where
 lo:=h1
 hi:=h8
 ix:=fun p hp=>by
  obtain ⟨i,j,hi,hj,rfl,g⟩:=mem_tlAll.mp hp
  refine ⟨by show (0:Int)≤i;omega,by show (i:Int) < vals.length;omega,by show (0:Int)≤j;omega,by show (j:Int) < vals.length;omega,?_⟩
  intro e
  have e':(i:Int)=j:=e
  have:i=j:=by omega
  subst this
  omega
 up:=rising_of (all_up st vals _)
 sz:=by
  have:=told_len hs h1 h8
  omega
end
end My
namespace My
open PySem L2
section
variable {P:Program} {w:World} {K:PySem.W.Frag} {mg:Str→Option Value} {base:Heap} {t:Ad}
set_option genSizeOf false in
set_option genInjectivity false in
inductive sp_told_pairs (vs:List V) (H:Hp) (Q:VK) (zz3:XK):Prop where
 | mk (a st vals:_) (zh0:vs=[.int st,.ref a]) (zh1:H a=some (.tup (vals.map V.int))) (zh2:vals.length≤8) (zh3:∀ p H',Same H H'→Is H' (.ref p) (.tuple ((toldL st vals).map prD))→Q (.ref p) H'):sp_told_pairs vs H Q zz3
theorem ok_told_pairs (T:Txt K mg t):FnOk P w K mg base CX0 1 t.a_told_pairs t.d_told_pairs ["step","numbers"] sp_told_pairs:=by
 refine T.F_told_pairs.ok sc_told_pairs (fun vs H Q E h=>?_) (fun cdv A outer s H vs Q E hr h=>?_)
 ·obtain ⟨a,st,vals,rfl,_⟩:=h
  rfl
 ·obtain ⟨a,st,vals,rfl,ea,hn,q⟩:=h
  refine ⟨_,(pss_cons (ps_set (i:=2) sc_told_pairs.nd rfl (Or.inl rfl) (pe_lst pa_nil))
   (pss_cons (ps_for PassesOwn.never rfl (pi_range1 rfl T.n_range (pa_cons (pe_callB (k_len K) (by rfl) T.n_len bt_len (pa_cons (pv 1) pa_nil)) pa_nil)) (pg_name (i:=3) sc_told_pairs.nd rfl (Or.inl rfl)) (pss_one (ps_for PassesOwn.never rfl (pi_range1 rfl T.n_range (pa_cons (pe_callB (k_len K) (by rfl) T.n_len bt_len (pa_cons (pv 1) pa_nil)) pa_nil)) (pg_name (i:=4) sc_told_pairs.nd rfl (Or.inl rfl)) (pss_one (ps_if (pt_cmpR (op_ge) (pe_op op_sub (pe_ix (k_ix K) (pv 1) (pv 4) (fun _ _=>rfl)) (pe_ix (k_ix K) (pv 1) (pv 3) (fun _ _=>rfl))) (pv 0) (nomark _)) (pss_one (ps_expr (k_bm K PySem.F.plainAttrs_list PySem.F.slot_list_append PySem.F.type_list_append mt_append (pv 2) (pa_cons (pe_tup (pa_cons (pv 3) (pa_cons (pv 4) pa_nil))) pa_nil)))) pss_nil)))))
   (pss_one (ps_ret (pe_callTy (k_tuple K) (by rfl) T.n_tuple bt_tuple (pa_cons (pv 2) pa_nil)))))),?_⟩
  walk_at "rd"
  refine ⟨Nat.zero_le _,fun l hl=>?_⟩
  have s0:=Same.upd (o:=.lst []) hl
  have ea0:=s0 _ _ ea
  walk_at "rd"
  rw [List.length_map]
  refine ⟨_,rfl,by omega,by omega,?_⟩
  rw [Int.toNat_natCast]
  refine fp_range (fun i σ H'=>(∃ va vb,σ=[some (.int st),some (.ref a),some (.ref l),va,vb])∧Same H H'∧∃ zs,H' l=some (.lst zs)∧IsAll H' zs ((tlAll st vals i).map prD)) ⟨⟨_,_,rfl⟩,s0,[],upd_same,.nil⟩ ?_ ?_
  ·rintro i σ H1 hi ⟨⟨va,vb,rfl⟩,s1,zs,hz,iz⟩
   have ea1:=s1 _ _ ea
   walk_at "rd"
   rw [List.length_map]
   refine ⟨_,rfl,by omega,by omega,?_⟩
   rw [Int.toNat_natCast]
   refine fp_range (fun j σ H'=>(∃ vb,σ=[some (.int st),some (.ref a),some (.ref l),some (.int (0 + i)),vb])∧Same H H'∧∃ zs,H' l=some (.lst zs)∧IsAll H' zs ((tlAll st vals i++tlRow st vals i j).map prD)) ⟨⟨_,rfl⟩,s1,zs,hz,by simpa [tlRow] using iz⟩ ?_ ?_
   ·rintro j σ H2 hj ⟨⟨vb,rfl⟩,s2,zs2,hz2,iz2⟩
    have ea2:=s2 _ _ ea
    have dE:tlAll st vals i++tlRow st vals i (j + 1)=tlAll st vals i++tlRow st vals i j++tlI st vals i j:=by rw [tlRow_succ,List.append_assoc]
    rw [dE]
    walk_at "rd"
    refine rd_ixT ea2 (atI_of (Int.zero_add _) (getD_map hj)) ?_
    walk_at "rd"
    refine rd_ixT ea2 (atI_of (Int.zero_add _) (getD_map hi)) ?_
    walk_at "rd"
    refine ifB (fun h1=>?_) (fun h1=>?_)
    ·have h1':vals.getD j 0 - vals.getD i 0≥st:=of_decide_eq_true h1
     walk_at "rd"
     refine ⟨tyV_lst hz2,?_⟩
     walk_at "rd"
     refine ⟨two_ln,fun p hp=>?_⟩
     have hlp:l≠p:=ne_of_none hz2 hp
     have hlen:zs2.length≤8 * 8 + 8:=by
      rw [iz2.length,List.length_map,List.length_append]
      have h1:=tlAll_len st vals i
      have h2:=tlRow_len st vals i j
      have h3:i * vals.length≤8 * 8:=Nat.mul_le_mul (by omega) hn
      omega
     walk_at "rd"
     refine rd_append (xs:=zs2) ?_ (small1000 (by omega)) ?_
     ·rw [upd_ne hlp]
      exact hz2
     walk_at "rd"
     refine ⟨⟨_,rfl⟩,fun c u e=>?_,_,upd_same,?_⟩
     ·have e3:=s2 c u e
      rw [upd_ne (ne_of_none e hl),upd_ne (ne_of_none e3 hp)]
      exact e3
     ·have e1:tlI st vals i j=[((i:Int),(j:Int))]:=by unfold tlI;rw [if_pos h1']
      rw [e1,List.map_append,Int.zero_add,Int.zero_add]
      refine grow (noLs_pr _) hz2 hp iz2 (.tup ?_ (.cons (.int _) (.cons (.int _) .nil)))
      rw [upd_ne (Ne.symm hlp),upd_same]
    ·have h1':¬vals.getD j 0 - vals.getD i 0≥st:=of_decide_eq_false h1
     walk_at "rd"
     refine ⟨⟨_,rfl⟩,s2,zs2,hz2,?_⟩
     unfold tlI
     rw [if_neg h1',List.append_nil]
     exact iz2
   ·rintro σ H2 ⟨⟨vb,rfl⟩,s2,zs2,hz2,iz2⟩
    exact ⟨⟨_,_,rfl⟩,s2,zs2,hz2,by rw [tlAll_succ];exact iz2⟩
  ·rintro σ H1 ⟨⟨va,vb,rfl⟩,s1,zs,hz,iz⟩
   walk_at "rd"
   intro p hp
   have s2:=Same.upd (o:=.tup zs) hp
   exact q p _ (s1.trans s2) (.tup upd_same (iz.same s2))
theorem nums_ok {vals:List Int} {n:Nat} (hl:vals.length=n) (hv:∀ v∈vals,0≤v∧v≤9999):numsB (.tuple (vals.map .int)) n n=true:=by
 show (decide ((n:Int)≤((vals.map PyData.int).length:Nat))&&decide ((((vals.map PyData.int).length:Nat):Int)≤n)&&(vals.map PyData.int).all (fun d=>wholeB d 0 9999))=true
 rw [List.length_map,hl]
 have:(vals.map PyData.int).all (fun d=>wholeB d 0 9999)=true:=by
  rw [List.all_map,List.all_eq_true]
  intro v hm
  obtain ⟨a,b⟩:=hv v hm
  show (decide (0≤v)&&decide (v≤9999))=true
  simp [a,b]
 rw [this]
 simp
set_option genSizeOf false in
set_option genInjectivity false in
inductive sp_fits (vs:List V) (H:Hp) (Q:VK) (zz3:XK):Prop where
 | mk (x a n ps st vals:_) (zh0:vs=[x,.int st,.ref a]) (zh1:Is H x (ordD n ps)) (zh2:Ord n ps) (zh3:1≤st) (zh4:st≤999) (zh5:H a=some (.tup (vals.map V.int))) (zh6:vals.length=n) (zh7:(∀ v∈vals,0≤v∧v≤9999)) (zh8:∀ H',Same H H'→Q (.bl (decide (toldL st vals=ps))) H'):sp_fits vs H Q zz3
theorem ok_fits (T:Txt K mg t):FnOk P w K mg base CX0 6 t.a_fits t.d_fits ["order","step","numbers"] sp_fits:=by
 refine T.F_fits.ok sc_fits (fun vs H Q E h=>?_) (fun cdv A outer s H vs Q E hr h=>?_)
 ·obtain ⟨x,a,n,ps,st,vals,rfl,_⟩:=h
  rfl
 ·obtain ⟨x,a,n,ps,st,vals,rfl,hx,ho,h1,h2,ea,hl,hv,q⟩:=h
  refine ⟨_,(pss_cons (ps_expr (pe_call (ok_need_order T) (hr.mono (by decide)) rfl T.m_need_order T.F_need_order.kp T.b_need_order .nil pass0 (pa_cons (pv 0) pa_nil)))
   (pss_cons (ps_expr (pe_call (ok_need_step T) (hr.mono (by decide)) rfl T.m_need_step T.F_need_step.kp T.b_need_step .nil pass0 (pa_cons (pv 1) pa_nil)))
   (pss_cons (ps_expr (pe_call (ok_need_numbers T) (hr.mono (by decide)) rfl T.m_need_numbers T.F_need_numbers.kp T.b_need_numbers .nil pass0 (pa_cons (pv 2) (pa_cons (pe_ix (k_ix K) (pv 0) pe_int (fun _ _=>rfl)) (pa_cons (pe_ix (k_ix K) (pv 0) pe_int (fun _ _=>rfl)) pa_nil)))))
   (pss_one (ps_ret (pe_cmpR (op_eqD hr.units) (pe_call (ok_told_pairs T) (hr.mono (by decide)) rfl T.m_told_pairs T.F_told_pairs.kp T.b_told_pairs .nil pass0 (pa_cons (pv 1) (pa_cons (pv 2) pa_nil))) (pe_ix (k_ix K) (pv 0) pe_int (fun _ _=>rfl)) (nomark _))))))),?_⟩
  have hn:=ho.hi
  walk_at "rd"
  refine ⟨_,_,rfl,hx,ho.okd,ho.yes,fun H1 s1=>?_⟩
  walk_at "rd"
  refine ⟨_,_,rfl,.int st,step_ok h1 h2,?_⟩
  obtain ⟨c,b,xs,rfl,ec,eb,hxs⟩:=is_ord (hx.same s1)
  have ea1:=s1 _ _ ea
  walk_at "rd"
  refine ⟨_,_,_,_,rfl,.tup ea1 (IsAll.ints vals),?_,nums_ok hl hv,fun H2 s2=>?_⟩
  ·rintro ds ⟨⟩
   rw [List.length_map]
   omega
  have ea2:=s2 _ _ ea1
  walk_at "rd"
  refine ⟨a,st,vals,rfl,ea2,by omega,fun p H3 s3 ip=>?_⟩
  have ec3:=s3 _ _ (s2 _ _ ec)
  have eb3:=s3 _ _ (s2 _ _ eb)
  walk_at "rd"
  refine rd_eqD ip (.tup eb3 (hxs.same (s2.trans s3))) (ok_prT _) (ok_prT _) ?_
  have:PyData.eqv (.tuple ((toldL st vals).map prD)) (.tuple (ps.map prD))=decide (toldL st vals=ps):=by
   rw [PyData.eqv];exact eqvAll_pr _ _
  rw [this]
  exact q H3 ((s1.trans s2).trans s3)
end
end My
namespace My
open PySem L2
section
variable {P:Program} {w:World} {K:PySem.W.Frag} {mg:Str→Option Value} {base:Heap} {t:Ad}
theorem filter_one {α:Type} (f:α→Bool) (x:α):[x].filter f=if f x=true then [x] else []:=by
 cases h:f x <;> simp [h]
theorem lt_asym (p q:Int×Int):ltP p q→¬ltP q p:=fun h1 h2=>by
 have h2':HT.lexLt [q.1,q.2] [p.1,p.2]=true:=h2
 rw [lex_asym h1] at h2'
 cases h2'
theorem pw_of:∀ {ps:List (Int×Int)},risingB ps=true→ps.Pairwise ltP
 | [],_=>.nil
 | [_],_=>List.pairwise_singleton _ _
 | a::b::r,h=>by
  rw [risingB,Bool.and_eq_true] at h
  have ih:=pw_of h.2
  refine List.pairwise_cons.mpr ⟨fun x hx=>?_,ih⟩
  rcases List.mem_cons.mp hx with rfl | hx
  ·exact h.1
  ·exact lex_tr h.1 ((List.pairwise_cons.mp ih).1 x hx)
theorem pw_ext:∀ {l1 l2:List (Int×Int)},l1.Pairwise ltP→l2.Pairwise ltP→(∀ x,x∈l1↔x∈l2)→l1=l2
 | [],[],_,_,_=>rfl
 | [],b::t,_,_,h=>by cases (h b).mpr List.mem_cons_self
 | a::t,[],_,_,h=>by cases (h a).mp List.mem_cons_self
 | a::t1,b::t2,p1,p2,h=>by
  have q1:=List.pairwise_cons.mp p1
  have q2:=List.pairwise_cons.mp p2
  have e:a=b:=by
   apply Classical.byContradiction
   intro hne
   have ha:a∈t2:=by
    rcases List.mem_cons.mp ((h a).mp List.mem_cons_self) with g | g
    ·exact absurd g hne
    ·exact g
   have hb:b∈t1:=by
    rcases List.mem_cons.mp ((h b).mpr List.mem_cons_self) with g | g
    ·exact absurd g.symm hne
    ·exact g
   exact lt_asym a b (q1.1 b hb) (q2.1 a ha)
  subst e
  have irr:∀ x,ltP a x→x≠a:=fun x hx z=>by subst z;exact lt_asym _ _ hx hx
  rw [pw_ext q1.2 q2.2 fun x=>⟨fun hx=>?_,fun hx=>?_⟩]
  ·rcases List.mem_cons.mp ((h x).mp (List.mem_cons_of_mem _ hx)) with g | g
   ·exact absurd g (irr x (q1.1 x hx))
   ·exact g
  ·rcases List.mem_cons.mp ((h x).mpr (List.mem_cons_of_mem _ hx)) with g | g
   ·exact absurd g (irr x (q2.1 x hx))
   ·exact g
theorem has_iff {ps:List (Int×Int)} {i j:Int}:has ps i j=true↔(i,j)∈ps:=by
 unfold has
 exact decide_eq_true_iff
theorem nd_of {ps:List (Int×Int)} (h:ps.Pairwise ltP):ps.Nodup:=by
 refine List.Pairwise.imp (fun {a b} hab z=>?_) h
 subst z
 exact lt_asym _ _ hab hab
theorem nat_len:∀ (m:Nat) (l:List Nat),l.Nodup→(∀ x∈l,x < m)→l.length≤m
 | 0,[],_,_=>Nat.le_refl _
 | 0,x::_,_,h=>absurd (h x List.mem_cons_self) (Nat.not_lt_zero _)
 | m + 1,l,nd,h=>by
  by_cases hm:m∈l
  ·have:=nat_len m (l.erase m) (nd.erase m) fun x hx=>by
    have:=(List.Nodup.mem_erase_iff nd).mp hx
    have:=h x this.2
    omega
   rw [List.length_erase_of_mem hm] at this
   omega
  ·have:=nat_len m l nd fun x hx=>by
    have h1:=h x hx
    have:x≠m:=fun z=>hm (z▸hx)
    omega
   omega
noncomputable def inBox (p:Int×Int):Prop:=0≤p.1∧p.1 < 8∧0≤p.2∧p.2 < 8∧p.1≠p.2
theorem small_prs {ps:List (Int×Int)} (nd:ps.Nodup) (h:∀ p∈ps,inBox p):ps.length < 64:=by
 have e:=nat_len 63 (ps.map fun p=>(8 * p.1 + p.2).toNat) (by
  unfold List.Nodup
  rw [List.pairwise_map]
  refine List.Pairwise.imp_of_mem (fun {a b} ha hb hab z=>hab ?_) nd
  obtain ⟨a1,a2,a3,a4,_⟩:=h a ha
  obtain ⟨b1,b2,b3,b4,_⟩:=h b hb
  have:8 * a.1 + a.2=8 * b.1 + b.2:=by omega
  exact Prod.ext (by omega) (by omega)) (fun x hx=>by
  obtain ⟨p,hp,rfl⟩:=List.mem_map.mp hx
  obtain ⟨a1,a2,a3,a4,_⟩:=h p hp
  show (8 * p.1 + p.2).toNat < 63
  omega)
 rw [List.length_map] at e
 omega
noncomputable def inN (n:Nat) (p:Int×Int):Prop:=0≤p.1∧p.1 < n∧0≤p.2∧p.2 < n∧p.1≠p.2
theorem inN.box {n:Nat} (h8:n≤8) {p:Int×Int} (h:inN n p):inBox p:=by
 obtain ⟨a,b,c,d,e⟩:=h
 exact ⟨a,by omega,c,by omega,e⟩
theorem ord_of {n:Nat} {ps:List (Int×Int)} (lo:1≤n) (hi:n≤8) (ix:∀ p∈ps,inN n p) (up:ps.Pairwise ltP):Ord n ps:=
 ⟨lo,hi,ix,rising_of up,Nat.le_of_lt (Nat.lt_of_lt_of_le (small_prs (nd_of up) fun p hp=>(ix p hp).box hi) (by decide))⟩
theorem Ord.box {n:Nat} {ps:List (Int×Int)} (h:Ord n ps) {p:Int×Int} (hp:p∈ps):inBox p:=inN.box h.hi (h.ix p hp)
theorem Ord.small {n:Nat} {ps:List (Int×Int)} (h:Ord n ps):ps.length < 64:=small_prs (nd_of (pw_of h.up)) fun _ hp=>h.box hp
theorem rd_sortP {H:Hp} {Q:VK} {p:Addr} {vs:List V} {ps:List (Int×Int)} (e:H p=some (.lst vs)∨H p=some (.tup vs)) (hv:IsAll H vs (ps.map prD)) (nd:ps.Nodup) (hb:∀ p∈ps,inBox p)
  (h:∀ (l:Addr) (vs':List V) (ps':List (Int×Int)),H l=none→IsAll H vs' (ps'.map prD)→ps'.Perm ps→ps'.Pairwise ltP→Q (.ref l) (upd H l (.lst vs'))):rSorted K [.ref p] H Q:=by
 have tn:∀ ps:List (Int×Int),(ps.map fun p=>[p.1,p.2]).map (tupOf [])=ps.map prD:=fun ps=>by rw [List.map_map];rfl
 refine ⟨p,vs,[],ps.map fun p=>[p.1,p.2],2,rfl,e.elim (fun e=>.inl (SqL.of e)) (fun e=>.inr (SqT.of e)),by rw [tn];exact hv,?_,by decide,?_,by rw [List.length_map];exact small_prs nd hb,fun l vs' nss' hl ha hp hw=>?_⟩
 ·intro ns hm
  obtain ⟨q,_,rfl⟩:=List.mem_map.mp hm
  rfl
 ·unfold List.Nodup
  rw [List.pairwise_map]
  refine List.Pairwise.imp (fun {a b} hab z=>hab ?_) nd
  injection z with z1 z2
  injection z2 with z2 _
  exact Prod.ext z1 z2
 ·have key:∀ l:List (List Int),(∀ ns∈l,∃ a b,ns=[a,b])→l=(l.map fun ns=>(ns.getD 0 0,ns.getD 1 0)).map fun p=>[p.1,p.2]:=fun l hl=>by
   induction l with
   | nil=>rfl
   | cons x l ih=>
    obtain ⟨a,b,rfl⟩:=hl x List.mem_cons_self
    rw [List.map_cons,List.map_cons,←ih fun ns hns=>hl ns (List.mem_cons_of_mem _ hns)]
    rfl
  have e':=key nss' fun ns hns=>by
   obtain ⟨q,_,rfl⟩:=List.mem_map.mp (hp.mem_iff.mp hns)
   exact ⟨_,_,rfl⟩
  generalize nss'.map (fun ns=>(ns.getD 0 0,ns.getD 1 0))=ps' at e'
  subst e'
  rw [tn] at ha
  have hw':=List.pairwise_map.mp hw
  refine h l vs' ps' hl ha ?_ hw'
  have h2:=hp.map fun ns:List Int=>(ns.getD 0 0,ns.getD 1 0)
  rw [List.map_map,List.map_map] at h2
  have e1:∀ l:List (Int×Int),l.map ((fun ns:List Int=>(ns.getD 0 0,ns.getD 1 0)) ∘ fun p=>[p.1,p.2])=l:=fun l=>by
   refine (List.map_congr_left fun p _=>?_).trans (List.map_id l)
   rfl
  rw [e1,e1] at h2
  exact h2
theorem eqv_ord (n m:Nat) (ps qs:List (Int×Int)):PyData.eqv (ordD n ps) (ordD m qs)=decide (n=m∧ps=qs):=by
 unfold ordD
 rw [PyData.eqv,PyData.eqvAll,PyData.eqvAll,PyData.eqvAll,PyData.eqv,PyData.eqv,eqvAll_pr]
 by_cases h:n=m
 ·by_cases h2:ps=qs
  ·subst h h2;simp
  ·simp [h,h2]
 ·have:¬((n:Int)=(m:Int)):=by omega
  simp [h,this]
theorem ok_ord (n:Nat) (ps:List (Int×Int)):okD (ordD n ps):=by
 obtain ⟨a,b⟩:=ok_prT ps
 have hd:PyData.depth (.tuple (ps.map prD))≤2:=by
  rw [PyData.depth]
  have:PyData.depthAll (ps.map prD)≤1:=by
   clear a b
   induction ps with
   | nil=>exact Nat.zero_le _
   | cons p ps ih=>
    rw [List.map_cons,PyData.depthAll]
    exact Nat.max_le.mpr ⟨Nat.le_refl _,ih⟩
  omega
 refine ⟨?_,?_⟩
 ·unfold ordD
  rw [PyData.canLay0,PyData.canLayAll0,PyData.canLayAll0,a]
  rfl
 ·unfold ordD
  rw [PyData.depth,PyData.depthAll,PyData.depthAll,PyData.depthAll]
  have:PyData.depth (.int (n:Int))=0:=rfl
  omega
theorem eqvAll_ints:∀ as bs:List Int,PyData.eqvAll (as.map .int) (bs.map .int)=decide (as=bs)
 | [],[]=>rfl
 | [],_::_=>rfl
 | _::_,[]=>rfl
 | a::as,b::bs=>by
  rw [List.map_cons,List.map_cons,PyData.eqvAll,eqvAll_ints as bs,PyData.eqv]
  by_cases h:a=b
  ·by_cases h2:as=bs
   ·subst h h2;simp
   ·simp [h,h2]
  ·simp [h]
theorem ok_ints (as:List Int):okD (.list (as.map .int)):=by
 have h1:PyData.canLayAll0 (as.map PyData.int)=true:=by
  induction as with
  | nil=>rfl
  | cons a as ih=>rw [List.map_cons,PyData.canLayAll0,ih];rfl
 have h2:PyData.depthAll (as.map PyData.int)≤0:=by
  clear h1
  induction as with
  | nil=>exact Nat.le_refl _
  | cons a as ih=>rw [List.map_cons,PyData.depthAll];exact Nat.max_le.mpr ⟨Nat.le_refl _,ih⟩
 refine ⟨?_,?_⟩
 ·rw [PyData.canLay0];exact h1
 ·rw [PyData.depth];omega
theorem rd_neL {H:Hp} {Q:VK} {p r:Addr} {as bs:List Int} (hx:H p=some (.lst (as.map V.int))) (hy:H r=some (.lst (bs.map V.int))) (h:Q (.bl (!decide (as=bs))) H):rEqD true (.ref p) (.ref r) H Q:=
 rd_eqD (.lst (Rd.of hx) (IsAll.ints as)) (.lst (Rd.of hy) (IsAll.ints bs)) (ok_ints as) (ok_ints bs) (by rw [PyData.eqv,eqvAll_ints];exact h)
noncomputable def gI (f:Nat→Nat→Bool) (i j:Nat):List (Int×Int):=if f i j=true then [((i:Int),(j:Int))] else []
end
end My
namespace My
open PySem L2
section
variable {P:Program} {w:World} {K:PySem.W.Frag} {mg:Str→Option Value} {base:Heap} {t:Ad}
set_option genSizeOf false in
set_option genInjectivity false in
inductive sp_cell (K:PySem.W.Frag) (vs:List V) (H:Hp) (Q:VK) (zz3:XK):Prop where
 | mk (a ns k:_) (zh0:vs=[.ref a,.int k]) (zh1:Scr K H a ns) (zh2:0≤k) (zh3:∀ c H',Same H H'→Q (.int c) H'):sp_cell K vs H Q zz3
theorem int_at {ns:List Int} {k:Int} (h0:0≤k) (h1:k < ns.length):atI (ns.map V.int) k=some (.int (ns.getD k.toNat 0)):=by
 refine atI_of (i:=k.toNat) (by omega) ?_
 rw [List.getElem?_map]
 have:k.toNat < ns.length:=by omega
 simp [this]
theorem ok__law_cell_at (T:Txt K mg t):FnOk P w K mg base CX0 1 t.a__law_cell_at t.d__law_cell_at ["_law_script","_law_k"] (sp_cell K):=by
 refine T.F__law_cell_at.ok sc__law_cell_at (fun vs H Q E h=>?_) (fun cdv A outer s H vs Q E hr h=>?_)
 ·obtain ⟨a,ns,k,rfl,_⟩:=h
  rfl
 ·obtain ⟨a,ns,k,rfl,hs,hk,q⟩:=h
  refine ⟨_,(pss_cons (ps_if (pt_cmpR (op_lt) (pv 1) (pe_callB (k_len K) (by rfl) T.n_len bt_len (pa_cons (pv 0) pa_nil)) (nomark _)) (pss_one (ps_ret (pe_ix (k_ix K) (pv 0) (pv 1) (fun _ _=>rfl)))) pss_nil)
   (pss_cons (ps_if (pt_cmpR (k_eqNil K hr.units0) (pv 0) (pe_lst pa_nil) (nomark _)) (pss_one (ps_ret pe_int)) pss_nil)
   (pss_one (ps_ret (pe_op op_add (pe_op op_mul (pe_ix (k_ix K) (pv 0) (pe_op op_mod (pv 1) (pe_callB (k_len K) (by rfl) T.n_len bt_len (pa_cons (pv 0) pa_nil))) (fun _ _=>rfl)) pe_int) (pv 1)))))),?_⟩
  walk_at "rd"
  refine rd_lenS hs.sq ?_
  walk_at "rd"
  refine ifB (fun h1=>?_) (fun h1=>?_)
  ·have h1':=of_decide_eq_true h1
   rw [List.length_map] at h1'
   walk_at "rd"
   refine rd_ixS hs.sq (int_at hk h1') ?_
   exact q _ H (Same.refl H)
  ·walk_at "rd"
   refine ⟨Nat.zero_le _,fun p hp=>?_⟩
   have s1:=Same.upd (o:=.lst []) hp
   walk_at "rd"
   refine ⟨a,p,ns,rfl,rfl,(hs.same s1).sq,SqL.of upd_same,?_⟩
   walk_at "rd"
   refine ifB (fun h2=>?_) (fun h2=>?_)
   ·walk_at "rd"
    exact q _ _ s1
   ·have h2':=of_decide_eq_false h2
    have hl:0 < ns.length:=List.length_pos_iff.mpr h2'
    walk_at "rd"
    refine rd_lenS (hs.same s1).sq ?_
    rw [List.length_map]
    refine rd_I (by omega) ?_
    refine rd_ixS (hs.same s1).sq (int_at (Int.emod_nonneg _ (by omega)) (Int.emod_lt_of_pos _ (by omega))) ?_
    walk_at "rd"
    refine rd_I (.inr ⟨by decide,by decide⟩) ?_
    walk_at "rd"
    exact q _ _ s1
set_option genSizeOf false in
set_option genInjectivity false in
inductive sp_mixed (K:PySem.W.Frag) (vs:List V) (H:Hp) (Q:VK) (zz3:XK):Prop where
 | mk (a ns k m:_) (zh0:vs=[.ref a,.int k,.int m]) (zh1:Scr K H a ns) (zh2:0≤k) (zh3:0 < m) (zh4:∀ r H',Same H H'→0≤r→r < m→Q (.int r) H'):sp_mixed K vs H Q zz3
theorem ok__law_mixed (T:Txt K mg t):FnOk P w K mg base CX0 2 t.a__law_mixed t.d__law_mixed ["_law_script","_law_k","_law_many"] (sp_mixed K):=by
 refine T.F__law_mixed.ok sc__law_mixed (fun vs H Q E h=>?_) (fun cdv A outer s H vs Q E hr h=>?_)
 ·obtain ⟨a,ns,k,m,rfl,_⟩:=h
  rfl
 ·obtain ⟨a,ns,k,m,rfl,hs,hk,hm,q⟩:=h
  refine ⟨_,(pss_cons (ps_set (i:=3) sc__law_mixed.nd rfl (Or.inl rfl) (pe_op op_mod (pe_op op_mul (pe_op op_add (pe_op op_add (pe_call (ok__law_cell_at T) (hr.mono (by decide)) rfl T.m__law_cell_at T.F__law_cell_at.kp T.b__law_cell_at .nil pass0 (pa_cons (pv 0) (pa_cons (pv 1) pa_nil))) (pe_op op_mul pe_int (pv 1))) pe_int) pe_int) pe_int))
   (pss_one (ps_ret (pe_op op_mod (pe_op op_mod (pe_op op_add (pe_op op_add (pe_op op_mul (pv 3) (pv 3)) (pe_op op_mul pe_int (pv 3))) (pv 1)) pe_int) (pv 2))))),?_⟩
  walk_at "rd"
  refine ⟨a,ns,k,rfl,hs,hk,fun c H1 s1=>?_⟩
  walk_at "rd"
  refine rd_I (.inl ⟨by decide,by decide⟩) ?_
  walk_at "rd"
  refine rd_I (.inr ⟨by decide,by decide⟩) ?_
  walk_at "rd"
  refine rd_I (by decide) ?_
  walk_at "rd"
  have d0:=Int.emod_nonneg ((c + 7919 * k + 1) * 48271) (show (2147483647:Int)≠0 by decide)
  have d1:=Int.emod_lt_of_pos ((c + 7919 * k + 1) * 48271) (show (0:Int) < 2147483647 by decide)
  generalize ((c + 7919 * k + 1) * 48271) % 2147483647=dr at d0 d1
  refine rd_I (.inl ⟨by omega,by omega⟩) ?_
  walk_at "rd"
  refine rd_I (.inl ⟨by decide,by decide⟩) ?_
  walk_at "rd"
  refine rd_I (by decide) ?_
  walk_at "rd"
  refine rd_I hm ?_
  exact q _ H1 s1 (Int.emod_nonneg _ (by omega)) (Int.emod_lt_of_pos _ hm)
set_option genSizeOf false in
set_option genInjectivity false in
inductive sp_draw (K:PySem.W.Frag) (vs:List V) (H:Hp) (Q:VK) (zz3:XK):Prop where
 | mk (a ns tw ts m:_) (zh0:vs=[.ref a,.ref tw,.int m]) (zh1:Scr K H a ns) (zh2:H tw=some (.lst ts)) (zh3:ts.length≤500) (zh4:0 < m) (zh5:∀ r H' ts',SameT tw H H'→H' tw=some (.lst ts')→ts'.length=ts.length + 1→0≤r→r < m→Q (.int r) H'):sp_draw K vs H Q zz3
theorem ok__law_draw (T:Txt K mg t):FnOk P w K mg base CX0 3 t.a__law_draw t.d__law_draw ["_law_script","_law_town","_law_many"] (sp_draw K):=by
 refine T.F__law_draw.ok sc__law_draw (fun vs H Q E h=>?_) (fun cdv A outer s H vs Q E hr h=>?_)
 ·obtain ⟨a,ns,tw,ts,m,rfl,_⟩:=h
  rfl
 ·obtain ⟨a,ns,tw,ts,m,rfl,hs,ht,hl,hm,q⟩:=h
  refine ⟨_,(pss_cons (ps_expr (k_bm K PySem.F.plainAttrs_list PySem.F.slot_list_append PySem.F.type_list_append mt_append (pv 1) (pa_cons pe_int pa_nil)))
   (pss_one (ps_ret (pe_call (ok__law_mixed T) (hr.mono (by decide)) rfl T.m__law_mixed T.F__law_mixed.kp T.b__law_mixed .nil pass0 (pa_cons (pv 0) (pa_cons (pe_callB (k_len K) (by rfl) T.n_len bt_len (pa_cons (pv 1) pa_nil)) (pa_cons (pv 2) pa_nil))))))),?_⟩
  walk_at "rd"
  refine ⟨tyV_lst ht,?_⟩
  walk_at "rd"
  refine rd_append ht (small1000 (by omega)) ?_
  have s1:SameT tw H (upd H tw (.lst (ts++[V.int 0]))):=fun b u e g=>by rw [upd_ne g];exact e
  have ht1:upd H tw (.lst (ts++[V.int 0])) tw=some (.lst (ts++[V.int 0])):=upd_same
  walk_at "rd"
  refine ⟨a,ns,_,m,rfl,hs.t ht s1,by omega,hm,fun r H2 s2 h0 h1=>?_⟩
  exact q r H2 _ (s1.trans s2.t) (s2 _ _ ht1) (by simp) h0 h1
set_option genSizeOf false in
set_option genInjectivity false in
inductive sp_pick (K:PySem.W.Frag) (vs:List V) (H:Hp) (Q:VK) (zz3:XK):Prop where
 | mk (a ns tw ts l xs:_) (zh0:vs=[.ref a,.ref tw,.ref l]) (zh1:Scr K H a ns) (zh2:H tw=some (.lst ts)) (zh3:ts.length≤500) (zh4:H l=some (.lst xs)) (zh5:l≠tw) (zh6:0 < xs.length) (zh7:∀ v H' ts',SameT tw H H'→H' tw=some (.lst ts')→ts'.length=ts.length + 1→v∈xs→Q v H'):sp_pick K vs H Q zz3
theorem ok__law_pick (T:Txt K mg t):FnOk P w K mg base CX0 4 t.a__law_pick t.d__law_pick ["_law_script","_law_town","_law_some"] (sp_pick K):=by
 refine T.F__law_pick.ok sc__law_pick (fun vs H Q E h=>?_) (fun cdv A outer s H vs Q E hr h=>?_)
 ·obtain ⟨a,ns,tw,ts,l,xs,rfl,_⟩:=h
  rfl
 ·obtain ⟨a,ns,tw,ts,l,xs,rfl,hs,ht,hl,el,nl,hx,q⟩:=h
  refine ⟨_,(pss_one (ps_ret (pe_ix (k_ix K) (pv 2) (pe_call (ok__law_draw T) (hr.mono (by decide)) rfl T.m__law_draw T.F__law_draw.kp T.b__law_draw .nil pass0 (pa_cons (pv 0) (pa_cons (pv 1) (pa_cons (pe_callB (k_len K) (by rfl) T.n_len bt_len (pa_cons (pv 2) pa_nil)) pa_nil)))) (fun _ _=>rfl)))),?_⟩
  walk_at "rd"
  refine ⟨a,ns,tw,ts,_,rfl,hs,ht,hl,by omega,fun r H1 ts' s1 ht1 hl1 h0 h1=>?_⟩
  have hr':r.toNat < xs.length:=by omega
  refine rd_ixL (s1 _ _ el nl) (atI_of (i:=r.toNat) (by omega) (List.getElem?_eq_getElem hr')) ?_
  exact q _ H1 ts' s1 ht1 hl1 (List.getElem_mem hr')
end
end My
namespace My
open PySem L2
section
variable {P:Program} {w:World} {K:PySem.W.Frag} {mg:Str→Option Value} {base:Heap} {t:Ad}
theorem SameT.of {w:Addr} {H:Hp} {l:Addr} {o:HO} (h:H l=none):SameT w H (upd H l o):=(Same.upd h).t
end
end My
namespace My
open PySem L2
noncomputable abbrev gt (l:List Int) (v:Nat):Int:=l.getD v 0
theorem gt_set {l:List Int} {j v:Nat} {a:Int} (hj:j < l.length):gt (l.set j a) v=if v=j then a else gt l v:=by
 unfold gt
 rw [List.getD_eq_getElem?_getD,List.getD_eq_getElem?_getD,List.getElem?_set]
 by_cases h:v=j
 ·subst h;simp [hj]
 ·rw [if_neg (Ne.symm h),if_neg h]
noncomputable def SolD (ds:List Dm) (x:Nat→Int):Prop:=∀ d∈ds,x d.1 + d.2.2≤x d.2.1
theorem rel1_mono {s:Rs} {d:Dm} {n:Nat} (hl:s.1.length=n) (hd:d.2.1 < n) (v:Nat):gt s.1 v≤gt (rel1 s d).1 v:=by
 unfold rel1
 split
 ·rename_i h
  show gt s.1 v≤gt (s.1.set d.2.1 (s.1.getD d.1 0 + d.2.2)) v
  rw [gt_set (by omega)]
  split
  ·rename_i e
   subst e
   exact Int.le_of_lt h
  ·exact Int.le_refl _
 ·exact Int.le_refl _
theorem fold_mono {n:Nat}:∀ (ds:List Dm) (s:Rs),s.1.length=n→dmOk n ds→∀ v,gt s.1 v≤gt (ds.foldl rel1 s).1 v
 | [],s,_,_,v=>Int.le_refl _
 | d::ds,s,hl,hd,v=>by
  rw [List.foldl_cons]
  have a:=rel1_mono hl (hd d List.mem_cons_self).2 v
  have b:=fold_mono ds (rel1 s d) ((rel1_len s d).1.trans hl) (fun e he=>hd e (List.mem_cons_of_mem _ he)) v
  exact Int.le_trans a b
theorem rel1_le {s:Rs} {d:Dm} {n:Nat} {x:Nat→Int} (hl:s.1.length=n) (hd:d.1 < n∧d.2.1 < n) (hx:x d.1 + d.2.2≤x d.2.1) (h:∀ v,v < n→gt s.1 v≤x v):∀ v,v < n→gt (rel1 s d).1 v≤x v:=fun v hv=>by
 unfold rel1
 split
 ·show gt (s.1.set d.2.1 (s.1.getD d.1 0 + d.2.2)) v≤x v
  rw [gt_set (by omega)]
  split
  ·rename_i e
   subst e
   have:=h d.1 hd.1
   show gt s.1 d.1 + d.2.2≤_
   omega
  ·exact h v hv
 ·exact h v hv
theorem fold_le {n:Nat} {x:Nat→Int}:∀ (ds:List Dm) (s:Rs),s.1.length=n→dmOk n ds→SolD ds x→(∀ v,v < n→gt s.1 v≤x v)→∀ v,v < n→gt (ds.foldl rel1 s).1 v≤x v
 | [],s,_,_,_,h=>h
 | d::ds,s,hl,hd,hx,h=>by
  rw [List.foldl_cons]
  exact fold_le ds (rel1 s d) ((rel1_len s d).1.trans hl) (fun e he=>hd e (List.mem_cons_of_mem _ he)) (fun e he=>hx e (List.mem_cons_of_mem _ he)) (rel1_le hl (hd d List.mem_cons_self) (hx d List.mem_cons_self) h)
theorem fold_ge {n:Nat}:∀ (ds:List Dm) (s:Rs),s.1.length=n→dmOk n ds→∀ d∈ds,gt s.1 d.1 + d.2.2≤gt (ds.foldl rel1 s).1 d.2.1
 | [],s,_,_,d,h=>by cases h
 | e::ds,s,hl,hd,d,h=>by
  rw [List.foldl_cons]
  have hl':=(rel1_len s e).1.trans hl
  have hd':dmOk n ds:=fun e he=>hd e (List.mem_cons_of_mem _ he)
  have m1:=rel1_mono hl (hd e List.mem_cons_self).2 d.1
  rcases List.mem_cons.mp h with rfl | h'
  ·have m2:=fold_mono ds (rel1 s d) hl' hd' d.2.1
   have:gt s.1 d.1 + d.2.2≤gt (rel1 s d).1 d.2.1:=by
    unfold rel1
    split
    ·show _≤gt (s.1.set d.2.1 (s.1.getD d.1 0 + d.2.2)) d.2.1
     rw [gt_set (by have:=(hd d List.mem_cons_self).2;omega),if_pos rfl]
     exact Int.le_refl _
    ·rename_i g
     exact Int.not_lt.mp g
   omega
  ·have:=fold_ge ds (rel1 s e) hl' hd' d h'
   omega
theorem fold_int:∀ (ds:List Dm) (s:Rs) (k:Int),s.2.2=.int k→∃ k',(ds.foldl rel1 s).2.2=.int k'
 | [],s,k,h=>⟨k,h⟩
 | d::ds,s,k,h=>by
  rw [List.foldl_cons]
  by_cases g:s.1.getD d.1 0 + d.2.2 > s.1.getD d.2.1 0
  ·refine fold_int ds (rel1 s d) d.2.1 ?_
   unfold rel1
   rw [if_pos g]
  ·refine fold_int ds (rel1 s d) k ?_
   unfold rel1
   rw [if_neg g]
   exact h
theorem fold_non:∀ (ds:List Dm) (s:Rs),(ds.foldl rel1 s).2.2=.non→ds.foldl rel1 s=s∧∀ d∈ds,gt s.1 d.1 + d.2.2≤gt s.1 d.2.1
 | [],s,_=>⟨rfl,fun _ h=>nomatch h⟩
 | d::ds,s,h=>by
  rw [List.foldl_cons] at h ⊢
  by_cases g:s.1.getD d.1 0 + d.2.2 > s.1.getD d.2.1 0
  ·obtain ⟨k,e⟩:=fold_int ds (rel1 s d) d.2.1 (by unfold rel1;rw [if_pos g])
   rw [e] at h
   cases h
  ·have e:rel1 s d=s:=by unfold rel1;rw [if_neg g]
   rw [e] at h ⊢
   obtain ⟨a,b⟩:=fold_non ds s h
   refine ⟨a,fun c hc=>?_⟩
   rcases List.mem_cons.mp hc with rfl | hc
   ·exact Int.not_lt.mp g
   ·exact b c hc
theorem fold_fix:∀ (ds:List Dm) (s:Rs),(∀ d∈ds,gt s.1 d.1 + d.2.2≤gt s.1 d.2.1)→ds.foldl rel1 s=s
 | [],s,_=>rfl
 | d::ds,s,h=>by
  rw [List.foldl_cons]
  have e:rel1 s d=s:=by unfold rel1;rw [if_neg (Int.not_lt.mpr (h d List.mem_cons_self))]
  rw [e]
  exact fold_fix ds s fun e he=>h e (List.mem_cons_of_mem _ he)
theorem rounds_ok {n:Nat} {ds:List Dm} (hd:dmOk n ds):∀ (k:Nat) (vals:List Int) (orgs:List V) (r:V),vals.length=n→(1≤k∨r≠.non)→(rounds ds k vals orgs r).2.2=.non→
  (rounds ds k vals orgs r).1.length=n∧(∀ v,gt vals v≤gt (rounds ds k vals orgs r).1 v)∧(∀ d∈ds,gt (rounds ds k vals orgs r).1 d.1 + d.2.2≤gt (rounds ds k vals orgs r).1 d.2.1)∧
  ∀ x,SolD ds x→(∀ v,v < n→gt vals v≤x v)→∀ v,v < n→gt (rounds ds k vals orgs r).1 v≤x v
 | 0,vals,orgs,r,hl,h,e=>by
  rcases h with h | h
  ·omega
  ·exact absurd e h
 | k + 1,vals,orgs,r,hl,_,e=>by
  rw [rounds] at e ⊢
  by_cases g:(run1 ds vals orgs).2.2=.non
  ·rw [if_pos g]
   obtain ⟨a,b⟩:=fold_non ds _ g
   have ea:(run1 ds vals orgs).1=vals:=congrArg (fun s:Rs=>s.1) a
   show (run1 ds vals orgs).1.length=n∧(∀ v,gt vals v≤gt (run1 ds vals orgs).1 v)∧(∀ d∈ds,gt (run1 ds vals orgs).1 d.1 + d.2.2≤gt (run1 ds vals orgs).1 d.2.1)∧∀ x,SolD ds x→(∀ v,v < n→gt vals v≤x v)→∀ v,v < n→gt (run1 ds vals orgs).1 v≤x v
   rw [ea]
   exact ⟨hl,fun v=>Int.le_refl _,b,fun x _ h=>h⟩
  ·rw [if_neg g] at e ⊢
   have hl':(run1 ds vals orgs).1.length=n:=(run1_len ds vals orgs).1.trans hl
   obtain ⟨a,b,c,d⟩:=rounds_ok hd k _ _ _ hl' (.inr g) e
   refine ⟨a,fun v=>Int.le_trans (fold_mono ds (vals,orgs,.non) hl hd v) (b v),c,fun x sx hx=>d x sx (fold_le ds (vals,orgs,.non) hl hd sx hx)⟩
noncomputable def cnt (n:Nat) (x:Nat→Int) (vals:List Int):Nat:=(List.range n).countP fun v=>decide (gt vals v=x v)
theorem cnt_le (n:Nat) (x:Nat→Int) (vals:List Int):cnt n x vals≤n:=by
 have:=List.countP_le_length (l:=List.range n) (p:=fun v=>decide (gt vals v=x v))
 rw [List.length_range] at this
 exact this
theorem cnt_all {n:Nat} {x:Nat→Int} {vals:List Int} (h:n≤cnt n x vals):∀ v,v < n→gt vals v=x v:=by
 have e:(List.range n).countP (fun v=>decide (gt vals v=x v))=(List.range n).length:=by
  have:=cnt_le n x vals
  rw [List.length_range]
  unfold cnt at h this
  omega
 have:=List.countP_eq_length.mp e
 intro v hv
 exact of_decide_eq_true (this v (List.mem_range.mpr hv))
theorem turn_more {n:Nat} {ds:List Dm} (hd:dmOk n ds) {x:Nat→Int} (sx:SolD ds x) (nx:Nt.NN n x) (mx:∀ z,SolD ds z→Nt.NN n z→Nt.sumTo x n≤Nt.sumTo z n) {F:Nat→Bool} (hF:∃ v,v < n∧F v=false) (hp:∀ v,v < n→F v=false→0 < x v):
  ∃ d∈ds,F d.1=true∧F d.2.1=false∧x d.2.1=x d.1 + d.2.2:=by
 apply Classical.byContradiction
 intro hno
 obtain ⟨v,hv,fv⟩:=hF
 have s2:SolD ds (fun i=>if F i=true then x i else x i - 1):=fun d hm=>by
  obtain ⟨h1,h2⟩:=hd d hm
  have g:=sx d hm
  show (if F d.1=true then x d.1 else x d.1 - 1) + d.2.2≤(if F d.2.1=true then x d.2.1 else x d.2.1 - 1)
  cases f1:F d.1 with
  | true=>
   cases f2:F d.2.1 with
   | true=>simp;exact g
   | false=>
    simp
    by_cases e:x d.2.1=x d.1 + d.2.2
    ·exact absurd ⟨d,hm,f1,f2,e⟩ hno
    ·omega
  | false=>
   cases f2:F d.2.1 with
   | true=>simp;omega
   | false=>simp;omega
 have n2:Nt.NN n (fun i=>if F i=true then x i else x i - 1):=fun i hi=>by
  show 0≤(if F i=true then x i else x i - 1)
  cases f:F i with
  | true=>simp;exact nx i hi
  | false=>
   simp
   have:=hp i hi f
   omega
 have:=mx _ s2 n2
 have lt:=Nt.sum_lt (x:=x) (y:=fun i=>if F i=true then x i else x i - 1) (n:=n) (v:=v) (fun i _=>by
  show (if F i=true then x i else x i - 1)≤x i
  split <;> omega) hv (by
  show (if F v=true then x v else x v - 1) < x v
  rw [fv];simp;omega)
 omega
theorem cnt_more {n:Nat} {ds:List Dm} (hd:dmOk n ds) {x:Nat→Int} (sx:SolD ds x) (nx:Nt.NN n x) (mx:∀ z,SolD ds z→Nt.NN n z→Nt.sumTo x n≤Nt.sumTo z n) {vals:List Int} {orgs:List V} (hl:vals.length=n) (h0:∀ v,v < n→0≤gt vals v) (hx:∀ v,v < n→gt vals v≤x v)
  (hc:cnt n x vals < n):cnt n x vals < cnt n x (run1 ds vals orgs).1:=by
 have hF:∃ v,v < n∧decide (gt vals v=x v)=false:=by
  apply Classical.byContradiction
  intro hno
  have:(List.range n).countP (fun v=>decide (gt vals v=x v))=(List.range n).length:=List.countP_eq_length.mpr fun v hv=>by
   cases g:decide (gt vals v=x v) with
   | true=>rfl
   | false=>exact absurd ⟨v,List.mem_range.mp hv,g⟩ hno
  rw [List.length_range] at this
  unfold cnt at hc
  omega
 obtain ⟨d,hm,f1,f2,e⟩:=turn_more hd sx nx mx (F:=fun v=>decide (gt vals v=x v)) hF fun v hv g=>by
  have g':=of_decide_eq_false g
  have:=h0 v hv
  have:=hx v hv
  omega
 have f1':gt vals d.1=x d.1:=of_decide_eq_true f1
 have up:∀ v,v < n→gt (run1 ds vals orgs).1 v≤x v:=fold_le ds (vals,orgs,.non) hl hd sx hx
 have mo:=fold_mono ds (vals,orgs,V.non) hl hd
 have ge:=fold_ge ds (vals,orgs,V.non) hl hd d hm
 refine Nt.countP_lt (v:=d.2.1) (fun i hi g=>?_) (List.mem_range.mpr (hd d hm).2) f2 ?_
 ·have g':gt vals i=x i:=of_decide_eq_true g
  have a:=up i (List.mem_range.mp hi)
  have b:=mo i
  refine decide_eq_true ?_
  have b':gt vals i≤gt (run1 ds vals orgs).1 i:=b
  omega
 ·refine decide_eq_true ?_
  have a:=up _ (hd d hm).2
  have ge':gt vals d.1 + d.2.2≤gt (run1 ds vals orgs).1 d.2.1:=ge
  omega
theorem rounds_end {n:Nat} {ds:List Dm} (hd:dmOk n ds) {x:Nat→Int} (sx:SolD ds x) (nx:Nt.NN n x) (mx:∀ z,SolD ds z→Nt.NN n z→Nt.sumTo x n≤Nt.sumTo z n):∀ (k:Nat) (vals:List Int) (orgs:List V) (r:V),vals.length=n→(∀ v,v < n→0≤gt vals v)→(∀ v,v < n→gt vals v≤x v)→
  n≤cnt n x vals + k→(rounds ds (k + 1) vals orgs r).2.2=.non
 | k,vals,orgs,r,hl,h0,hx,hc=>by
  rw [rounds]
  by_cases g:(run1 ds vals orgs).2.2=.non
  ·rw [if_pos g]
  ·rw [if_neg g]
   by_cases hall:cnt n x vals < n
   ·match k,hc with
    | 0,hc=>omega
    | k + 1,hc=>
     have more:=cnt_more (orgs:=orgs) hd sx nx mx hl h0 hx hall
     refine rounds_end hd sx nx mx k _ _ _ ((run1_len ds vals orgs).1.trans hl) (fun v hv=>?_) (fold_le ds (vals,orgs,.non) hl hd sx hx) (by omega)
     have:=fold_mono ds (vals,orgs,V.non) hl hd v
     have:=h0 v hv
     show 0≤gt (run1 ds vals orgs).1 v
     have e:gt vals v≤gt (run1 ds vals orgs).1 v:=by assumption
     omega
   ·exfalso
    apply g
    have ev:=cnt_all (n:=n) (x:=x) (vals:=vals) (by omega)
    have:run1 ds vals orgs=(vals,orgs,.non):=fold_fix ds _ fun d hm=>by
     obtain ⟨a,b⟩:=hd d hm
     show gt vals d.1 + d.2.2≤gt vals d.2.1
     rw [ev _ a,ev _ b]
     exact sx d hm
    rw [this]
theorem gt_rep (n v:Nat):gt (List.replicate n (0:Int)) v=0:=by
 unfold gt
 rw [List.getD_eq_getElem?_getD,List.getElem?_replicate]
 split <;> rfl
theorem lv_some {n:Nat} (hn:1≤n) {ds:List Dm} (hd:dmOk n ds) {vals:List Int} (h:lv n ds=some vals):vals.length=n∧(∀ v,v < n→0≤gt vals v)∧SolD ds (gt vals)∧∀ x,SolD ds x→Nt.NN n x→∀ v,v < n→gt vals v≤x v:=by
 unfold lv at h
 split at h
 ·rename_i e
  cases h
  obtain ⟨a,b,c,d⟩:=rounds_ok hd n _ _ _ List.length_replicate (.inl hn) e
  refine ⟨a,fun v _=>?_,c,fun x sx nx=>d x sx fun v hv=>?_⟩
  ·have:=b v
   rw [gt_rep] at this
   exact this
  ·rw [gt_rep]
   exact nx v hv
 ·cases h
theorem lv_none {n:Nat} (hn:1≤n) {ds:List Dm} (hd:dmOk n ds) {x:Nat→Int} (sx:SolD ds x) (nx:Nt.NN n x):∃ vals,lv n ds=some vals:=by
 have s0:=Nt.sum_nn nx
 obtain ⟨y,sy,ny,my⟩:=Nt.least_sum (n:=n) (p:=SolD ds) (Nt.sumTo x n).toNat x sx nx (by omega)
 have c1:1≤cnt n y (List.replicate n 0):=by
  have:∃ v,v < n∧y v=0:=by
   apply Classical.byContradiction
   intro hno
   obtain ⟨d,hm,f1,_⟩:=turn_more hd sy ny my (F:=fun _=>false) ⟨0,hn,rfl⟩ fun v hv _=>by
    have a:=ny v hv
    by_cases e:y v=0
    ·exact absurd ⟨v,hv,e⟩ hno
    ·omega
   cases f1
  obtain ⟨v,hv,e⟩:=this
  unfold cnt
  exact List.countP_pos_iff.mpr ⟨v,List.mem_range.mpr hv,decide_eq_true (by rw [gt_rep,e])⟩
 obtain ⟨m,rfl⟩:∃ m,n=m + 1:=⟨n - 1,by omega⟩
 have e:=rounds_end hd sy ny my m (List.replicate (m + 1) 0) (List.replicate (m + 1) .non) .non List.length_replicate (fun v _=>by rw [gt_rep];exact Int.le_refl _) (fun v hv=>by rw [gt_rep];exact ny v hv) (by omega)
 exact ⟨_,by unfold lv;rw [if_pos e]⟩
end My
namespace My
open PySem L2
structure Orig (ds:List Dm) (s:Rs) (R T:Nat→Nat) (v u:Nat) (b:Int):Prop where
 at':s.2.1[v]? =some (.int (u:Nat))
 mem:(u,v,b)∈ds
 rr:R v≤R u + 1
 le:gt s.1 v≤gt s.1 u + b
 lt:T v < T u→gt s.1 v < gt s.1 u + b
structure Gh (n:Nat) (ds:List Dm) (p c:Nat) (pre suf:List Dm) (s:Rs) (R T:Nat→Nat):Prop where
 lv:s.1.length=n
 lo:s.2.1.length=n
 or:∀ v,v < n→(s.2.1[v]? =some .non∧R v=0)∨(1≤T v∧∃ u b,Orig ds s R T v u b)
 suf:∀ d∈suf,R d.1 + 1 < p→gt s.1 d.1 + d.2.2≤gt s.1 d.2.1
 pre:∀ d∈pre,R d.1 < p→gt s.1 d.1 + d.2.2≤gt s.1 d.2.1
 rp:∀ v,R v≤p
 tc:∀ v,T v≤c
 inj:∀ a b,1≤T a→T a=T b→a=b
noncomputable def setN (R:Nat→Nat) (v k:Nat):Nat→Nat:=fun i=>if i=v then k else R i
theorem setN_at (R:Nat→Nat) (v k:Nat):setN R v k v=k:=by unfold setN;rw [if_pos rfl]
theorem setN_ne {R:Nat→Nat} {v k i:Nat} (h:i≠v):setN R v k i=R i:=by unfold setN;rw [if_neg h]
theorem gh_step {n:Nat} {ds:List Dm} (hd:dmOk n ds) (hne:∀ d∈ds,d.1≠d.2.1) {p c:Nat} {pre suf:List Dm} {d:Dm} {s:Rs} {R T:Nat→Nat} (hm:d∈ds) (g:Gh n ds p c pre (d::suf) s R T):
  ∃ R' T',Gh n ds p (c + 1) (pre++[d]) suf (rel1 s d) R' T'∧((rel1 s d).2.2=s.2.2∨∃ v:Nat,v < n∧(rel1 s d).2.2=.int v∧R' v=p)∧∀ v,R v=p→R' v=p:=by
 obtain ⟨h1,h2⟩:=hd d hm
 have hn:=hne d hm
 by_cases h:s.1.getD d.1 0 + d.2.2 > s.1.getD d.2.1 0
 ·have e:rel1 s d=(s.1.set d.2.1 (s.1.getD d.1 0 + d.2.2),s.2.1.set d.2.1 (.int d.1),.int d.2.1):=by unfold rel1;rw [if_pos h]
  rw [e]
  have hu:p≤R d.1 + 1:=by
   refine Nat.le_of_not_lt fun z=>?_
   have:=g.suf d List.mem_cons_self z
   show False
   have h':gt s.1 d.1 + d.2.2 > gt s.1 d.2.1:=h
   omega
  have hlt:d.2.1 < s.1.length:=by rw [g.lv];exact h2
  have gs:∀ w,gt (s.1.set d.2.1 (s.1.getD d.1 0 + d.2.2)) w=if w=d.2.1 then gt s.1 d.1 + d.2.2 else gt s.1 w:=fun w=>gt_set hlt
  have up:∀ w,gt s.1 w≤gt (s.1.set d.2.1 (s.1.getD d.1 0 + d.2.2)) w:=fun w=>by
   rw [gs]
   split
   ·rename_i e;subst e;exact Int.le_of_lt h
   ·exact Int.le_refl _
  refine ⟨setN R d.2.1 p,setN T d.2.1 (c + 1),⟨?_,?_,fun v hv=>?_,fun x hx hr=>?_,fun x hx hr=>?_,fun v=>?_,fun v=>?_,fun a b ha hab=>?_⟩,.inr ⟨d.2.1,h2,rfl,setN_at _ _ _⟩,fun v hv=>?_⟩
  ·show (s.1.set d.2.1 _).length=n
   rw [List.length_set];exact g.lv
  ·show (s.2.1.set d.2.1 _).length=n
   rw [List.length_set];exact g.lo
  ·by_cases ev:v=d.2.1
   ·subst ev
    refine .inr ⟨by rw [setN_at];omega,d.1,d.2.2,?_,hm,?_,?_,?_⟩
    ·show (s.2.1.set d.2.1 (.int d.1))[d.2.1]? =_
     rw [List.getElem?_set_self (by rw [g.lo];exact h2)]
    ·rw [setN_at,setN_ne hn];exact hu
    ·show gt (s.1.set d.2.1 (s.1.getD d.1 0 + d.2.2)) d.2.1≤gt (s.1.set d.2.1 (s.1.getD d.1 0 + d.2.2)) d.1 + d.2.2
     rw [gs,gs,if_pos rfl,if_neg hn]
     exact Int.le_refl _
    ·rw [setN_at,setN_ne hn]
     intro z
     have:=g.tc d.1
     omega
   ·rcases g.or v hv with ⟨a,b⟩ | ⟨t1,u,b,o⟩
    ·refine .inl ⟨?_,by rw [setN_ne ev];exact b⟩
     show (s.2.1.set d.2.1 (.int d.1))[v]? =_
     rw [List.getElem?_set_ne (Ne.symm ev)];exact a
    ·refine .inr ⟨by rw [setN_ne ev];exact t1,u,b,?_,o.mem,?_,?_,?_⟩
     ·show (s.2.1.set d.2.1 (.int d.1))[v]? =_
      rw [List.getElem?_set_ne (Ne.symm ev)];exact o.at'
     ·rw [setN_ne ev]
      by_cases eu:u=d.2.1
      ·subst eu;rw [setN_at];have:=g.rp v;omega
      ·rw [setN_ne eu];exact o.rr
     ·show gt (s.1.set d.2.1 (s.1.getD d.1 0 + d.2.2)) v≤gt (s.1.set d.2.1 (s.1.getD d.1 0 + d.2.2)) u + b
      rw [gs v,if_neg ev]
      have:=up u
      have:=o.le
      omega
     ·show _→gt (s.1.set d.2.1 (s.1.getD d.1 0 + d.2.2)) v < gt (s.1.set d.2.1 (s.1.getD d.1 0 + d.2.2)) u + b
      rw [gs v,if_neg ev,setN_ne ev]
      by_cases eu:u=d.2.1
      ·subst eu
       intro _
       rw [gs,if_pos rfl]
       have:=o.le
       have h':gt s.1 d.1 + d.2.2 > gt s.1 d.2.1:=h
       omega
      ·rw [setN_ne eu,gs u,if_neg eu]
       exact o.lt
  ·have ex:x.1≠d.2.1:=fun z=>by rw [z,setN_at] at hr;omega
   rw [setN_ne ex] at hr
   show gt (s.1.set d.2.1 (s.1.getD d.1 0 + d.2.2)) x.1 + x.2.2≤gt (s.1.set d.2.1 (s.1.getD d.1 0 + d.2.2)) x.2.1
   rw [gs x.1,if_neg ex]
   have:=g.suf x (List.mem_cons_of_mem _ hx) hr
   have:=up x.2.1
   omega
  ·have ex:x.1≠d.2.1:=fun z=>by rw [z,setN_at] at hr;omega
   rw [setN_ne ex] at hr
   show gt (s.1.set d.2.1 (s.1.getD d.1 0 + d.2.2)) x.1 + x.2.2≤gt (s.1.set d.2.1 (s.1.getD d.1 0 + d.2.2)) x.2.1
   rw [gs x.1,if_neg ex]
   rcases List.mem_append.mp hx with hx | hx
   ·have:=g.pre x hx hr
    have:=up x.2.1
    omega
   ·rcases List.mem_singleton.mp hx with rfl
    rw [gs,if_pos rfl]
    exact Int.le_refl _
  ·by_cases ev:v=d.2.1
   ·subst ev;rw [setN_at];exact Nat.le_refl _
   ·rw [setN_ne ev];exact g.rp v
  ·by_cases ev:v=d.2.1
   ·subst ev;rw [setN_at];exact Nat.le_refl _
   ·rw [setN_ne ev];have:=g.tc v;omega
  ·by_cases ea:a=d.2.1
   ·by_cases eb:b=d.2.1
    ·rw [ea,eb]
    ·subst ea
     rw [setN_at,setN_ne eb] at hab
     have:=g.tc b
     omega
   ·by_cases eb:b=d.2.1
    ·subst eb
     rw [setN_at,setN_ne ea] at hab
     have:=g.tc a
     omega
    ·rw [setN_ne ea] at ha hab
     rw [setN_ne eb] at hab
     exact g.inj a b ha hab
  ·by_cases ev:v=d.2.1
   ·subst ev;rw [setN_at]
   ·rw [setN_ne ev];exact hv
 ·have e:rel1 s d=s:=by unfold rel1;rw [if_neg h]
  rw [e]
  refine ⟨R,T,⟨g.lv,g.lo,g.or,fun x hx=>g.suf x (List.mem_cons_of_mem _ hx),fun x hx hr=>?_,g.rp,fun v=>Nat.le_succ_of_le (g.tc v),g.inj⟩,.inl rfl,fun v h=>h⟩
  rcases List.mem_append.mp hx with hx | hx
  ·exact g.pre x hx hr
  ·rcases List.mem_singleton.mp hx with rfl
   exact Int.not_lt.mp h
theorem gh_fold {n:Nat} {ds:List Dm} (hd:dmOk n ds) (hne:∀ d∈ds,d.1≠d.2.1) {p:Nat}:∀ (suf pre:List Dm) (c:Nat) (s:Rs) (R T:Nat→Nat),(∀ d∈suf,d∈ds)→Gh n ds p c pre suf s R T→(s.2.2=.non∨∃ v:Nat,v < n∧s.2.2=.int v∧R v=p)→
  ∃ c' R' T',Gh n ds p c' (pre++suf) [] (suf.foldl rel1 s) R' T'∧((suf.foldl rel1 s).2.2=.non∨∃ v:Nat,v < n∧(suf.foldl rel1 s).2.2=.int v∧R' v=p)
 | [],pre,c,s,R,T,_,g,h=>⟨c,R,T,by rw [List.append_nil];exact g,h⟩
 | d::suf,pre,c,s,R,T,hs,g,h=>by
  obtain ⟨R',T',g',h',k'⟩:=gh_step hd hne (hs d List.mem_cons_self) g
  have:=gh_fold hd hne suf (pre++[d]) (c + 1) (rel1 s d) R' T' (fun x hx=>hs x (List.mem_cons_of_mem _ hx)) g' (by
   rcases h' with h' | h'
   ·rw [h']
    rcases h with h | ⟨v,hv,a,b⟩
    ·exact .inl h
    ·exact .inr ⟨v,hv,a,k' v b⟩
   ·exact .inr h')
  rw [List.append_assoc] at this
  exact this
theorem gh_rounds {n:Nat} {ds:List Dm} (hd:dmOk n ds) (hne:∀ d∈ds,d.1≠d.2.1):∀ (k:Nat) (p c:Nat) (s:Rs) (R T:Nat→Nat),Gh n ds (p + 1) c [] ds s R T→(s.2.2=.non∨∃ v:Nat,v < n∧s.2.2=.int v∧R v=p)→(∀ v,R v≤p)→
  (rounds ds k s.1 s.2.1 s.2.2).2.2≠.non→∃ c' R' T',Gh n ds (p + k + 1) c' [] ds (rounds ds k s.1 s.2.1 s.2.2) R' T'∧∃ v:Nat,v < n∧(rounds ds k s.1 s.2.1 s.2.2).2.2=.int v∧R' v=p + k
 | 0,p,c,s,R,T,g,h,hp,e=>by
  rw [rounds] at e ⊢
  rcases h with h | h
  ·exact absurd h e
  ·exact ⟨c,R,T,g,h⟩
 | k + 1,p,c,s,R,T,g,h,hp,e=>by
  rw [rounds] at e ⊢
  obtain ⟨c',R',T',g',h'⟩:=gh_fold hd hne ds [] c (s.1,s.2.1,.non) R T (fun _ h=>h) ⟨g.lv,g.lo,fun v hv=>(g.or v hv).imp id fun ⟨a,u,b,o⟩=>⟨a,u,b,o.at',o.mem,o.rr,o.le,o.lt⟩,g.suf,g.pre,g.rp,g.tc,g.inj⟩ (.inl rfl)
  change Gh n ds (p + 1) c' ([]++ds) [] (run1 ds s.1 s.2.1) R' T' at g'
  by_cases z:(run1 ds s.1 s.2.1).2.2=.non
  ·rw [if_pos z] at e
   exact absurd rfl e
  ·rw [if_neg z] at e ⊢
   have g2:Gh n ds (p + 1 + 1) c' [] ds (run1 ds s.1 s.2.1) R' T':=⟨g'.lv,g'.lo,g'.or,fun d hd' hr=>g'.pre d (by simpa using hd') (by omega),fun _ h=>(nomatch h),fun v=>Nat.le_succ_of_le (g'.rp v),g'.tc,g'.inj⟩
   have:=gh_rounds hd hne k (p + 1) c' (run1 ds s.1 s.2.1) R' T' g2 h' g'.rp e
   rw [show p + (k + 1)=p + 1 + k by omega]
   exact this
theorem gh_end {n:Nat} {ds:List Dm} (hd:dmOk n ds) (hne:∀ d∈ds,d.1≠d.2.1) (e:(rounds ds n (List.replicate n 0) (List.replicate n .non) .non).2.2≠.non):
  ∃ c R T,Gh n ds (n + 1) c [] ds (rounds ds n (List.replicate n 0) (List.replicate n .non) .non) R T∧∃ v:Nat,v < n∧(rounds ds n (List.replicate n 0) (List.replicate n .non) .non).2.2=.int v∧R v=n:=by
 have g:Gh n ds (0 + 1) 0 [] ds (List.replicate n 0,List.replicate n .non,.non) (fun _=>0) (fun _=>0):=⟨List.length_replicate,List.length_replicate,fun v hv=>.inl ⟨by rw [List.getElem?_replicate,if_pos hv],rfl⟩,fun _ _ h=>absurd h (by omega),fun _ h=>(nomatch h),fun _=>Nat.zero_le _,fun _=>Nat.le_refl _,fun _ _ h=>absurd h (by decide)⟩
 have:=gh_rounds hd hne n 0 0 _ _ _ g (.inl rfl) (fun _=>Nat.le_refl _) e
 rw [Nat.zero_add] at this
 exact this
noncomputable def bk (orgs:List V) (v:Nat):Nat:=match orgs[v]? with | some (.int u)=>u.toNat | _=>v
noncomputable def bks (orgs:List V):Nat→Nat→Nat
 | 0,v=>v
 | k + 1,v=>bk orgs (bks orgs k v)
theorem bks_add (orgs:List V) (a v:Nat):∀ b,bks orgs (a + b) v=bks orgs b (bks orgs a v)
 | 0=>rfl
 | b + 1=>by show bk orgs (bks orgs (a + b) v)=bk orgs _;rw [bks_add orgs a v b]
theorem bk_of {orgs:List V} {v u:Nat} (h:orgs[v]? =some (.int (u:Nat))):bk orgs v=u:=by
 unfold bk;rw [h];exact Int.toNat_natCast u
theorem pigeon:∀ (n:Nat) (f:Nat→Nat),(∀ i,i≤n→f i < n)→∃ i j,i < j∧j≤n∧f i=f j:=by
 intro n f h
 by_cases z:∃ i j,i < j∧j≤n∧f i=f j
 ·exact z
 ·exfalso
  have nd:((List.range (n + 1)).map f).Nodup:=by
   unfold List.Nodup
   rw [List.pairwise_map]
   refine List.Pairwise.imp_of_mem ?_ (List.pairwise_lt_range (n:=n + 1))
   intro a b ha hb hab e
   exact z ⟨a,b,hab,by have:=List.mem_range.mp hb;omega,e⟩
  have sub:((List.range (n + 1)).map f)⊆List.range n:=fun x hx=>by
   obtain ⟨i,hi,rfl⟩:=List.mem_map.mp hx
   exact List.mem_range.mpr (h i (by have:=List.mem_range.mp hi;omega))
  have:=nd.length_le_of_subset sub
  rw [List.length_map,List.length_range,List.length_range] at this
  omega
structure Rnd (n:Nat) (ds:List Dm) (orgs:List V) (s c:Nat):Prop where
 c2:2≤c
 cn:c≤n
 ret:bks orgs c s=s
 first:∀ i,1≤i→i < c→bks orgs i s≠s
 org:∀ i,∃ b,orgs[bks orgs i s]? =some (.int (bks orgs (i + 1) s:Nat))∧(bks orgs (i + 1) s,bks orgs i s,b)∈ds
 dist:∀ i j,i < j→j < c→bks orgs i s≠bks orgs j s
theorem rnd_of {n:Nat} {ds:List Dm} (hd:dmOk n ds) (hne:∀ d∈ds,d.1≠d.2.1) (e:(rounds ds n (List.replicate n 0) (List.replicate n .non) .non).2.2≠.non) {orgs:List V} (ho:orgs=(rounds ds n (List.replicate n 0) (List.replicate n .non) .non).2.1):
  ∃ r:Nat,r < n∧(rounds ds n (List.replicate n 0) (List.replicate n .non) .non).2.2=.int r∧(∀ i,orgs[bks orgs i r]? =some (.int (bks orgs (i + 1) r:Nat)))∧(∃ c,Rnd n ds orgs (bks orgs n r) c)∧
   ∃ (vals:List Int) (T:Nat→Nat),∀ i,∃ b,(bks orgs (i + 1) r,bks orgs i r,b)∈ds∧gt vals (bks orgs i r)≤gt vals (bks orgs (i + 1) r) + b∧(T (bks orgs i r) < T (bks orgs (i + 1) r)→gt vals (bks orgs i r) < gt vals (bks orgs (i + 1) r) + b)∧(T (bks orgs i r)=T (bks orgs (i + 1) r)→bks orgs i r=bks orgs (i + 1) r):=by
 obtain ⟨c,R,T,g,r,hr,er,eR⟩:=gh_end hd hne e
 have st:∀ v,v < n→1≤R v→∃ b,Orig ds (rounds ds n (List.replicate n 0) (List.replicate n .non) .non) R T v (bk orgs v) b∧1≤T v∧bk orgs v < n:=fun v hv h1=>by
  rcases g.or v hv with ⟨_,h⟩ | ⟨t1,u,b,o⟩
  ·omega
  ·have:bk orgs v=u:=bk_of (by rw [ho];exact o.at')
   rw [this]
   exact ⟨b,o,t1,(hd _ o.mem).1⟩
 have ch:∀ i,i≤n→bks orgs i r < n∧n≤R (bks orgs i r) + i:=by
  intro i
  induction i with
  | zero=>intro _;exact ⟨hr,by show n≤R r + 0;omega⟩
  | succ i ih=>
   intro hi
   obtain ⟨a,b⟩:=ih (by omega)
   obtain ⟨w,o,_,l⟩:=st _ a (by omega)
   refine ⟨l,?_⟩
   show n≤R (bk orgs (bks orgs i r)) + (i + 1)
   have:=o.rr
   omega
 obtain ⟨i,j,hij,hj,ef⟩:=pigeon n (fun i=>bks orgs i r) fun i hi=>(ch i hi).1
 have ef':bks orgs i r=bks orgs j r:=ef
 have back:∀ m,∃ m',m' < j∧bks orgs m r=bks orgs m' r:=by
  intro m
  induction m with
  | zero=>exact ⟨0,by omega,rfl⟩
  | succ m ih=>
   obtain ⟨m',h1,h2⟩:=ih
   have e2:bks orgs (m + 1) r=bks orgs (m' + 1) r:=by show bk orgs _=bk orgs _;rw [h2]
   by_cases z:m' + 1 < j
   ·exact ⟨m' + 1,z,e2⟩
   ·have:m' + 1=j:=by omega
    exact ⟨i,hij,by rw [e2,this,ef']⟩
 have all:∀ m,bks orgs m r < n∧∃ b,Orig ds (rounds ds n (List.replicate n 0) (List.replicate n .non) .non) R T (bks orgs m r) (bks orgs (m + 1) r) b∧1≤T (bks orgs m r):=fun m=>by
  obtain ⟨m',h1,h2⟩:=back m
  obtain ⟨a,b⟩:=ch m' (by omega)
  have e2:bks orgs (m + 1) r=bk orgs (bks orgs m' r):=by show bk orgs _=_;rw [h2]
  rw [e2,h2]
  obtain ⟨w,o,t1,_⟩:=st _ a (by omega)
  exact ⟨a,w,o,t1⟩
 have at':∀ m,orgs[bks orgs m r]? =some (.int (bks orgs (m + 1) r:Nat)):=fun m=>by
  obtain ⟨_,b,o,_⟩:=all m
  have:=o.at'
  rw [←ho] at this
  exact this
 have per:bks orgs (j - i) (bks orgs n r)=bks orgs n r:=by
  rw [←bks_add,show n + (j - i)=j + (n - i) by omega,bks_add,←ef',←bks_add,show i + (n - i)=n by omega]
 have ex:∃ c,1≤c∧c≤n∧bks orgs c (bks orgs n r)=bks orgs n r∧∀ k,1≤k→k < c→bks orgs k (bks orgs n r)≠bks orgs n r:=by
  have:∀ m,1≤m→m≤n→bks orgs m (bks orgs n r)=bks orgs n r→∃ c,1≤c∧c≤n∧bks orgs c (bks orgs n r)=bks orgs n r∧∀ k,1≤k→k < c→bks orgs k (bks orgs n r)≠bks orgs n r:=by
   intro m
   induction m using Nat.strongRecOn with
   | _ m ih=>
    intro h1 h2 h3
    by_cases z:∃ k,1≤k∧k < m∧bks orgs k (bks orgs n r)=bks orgs n r
    ·obtain ⟨k,k1,k2,k3⟩:=z
     exact ih k k2 k1 (by omega) k3
    ·exact ⟨m,h1,h2,h3,fun k k1 k2 k3=>z ⟨k,k1,k2,k3⟩⟩
  exact this (j - i) (by omega) (by omega) per
 obtain ⟨c0,c1,cn,cr,cf⟩:=ex
 refine ⟨r,hr,er,at',⟨c0,⟨?_,cn,cr,cf,fun m=>?_,fun a b hab hb z=>?_⟩⟩,(rounds ds n (List.replicate n 0) (List.replicate n .non) .non).1,T,fun m=>?_⟩
 ·refine Nat.le_of_not_lt fun z=>?_
  have e1:c0=1:=by omega
  subst e1
  obtain ⟨_,b,o,_⟩:=all n
  have:=hne _ o.mem
  exact this cr
 ·rw [←bks_add,←bks_add]
  obtain ⟨_,b,o,_⟩:=all (n + m)
  exact ⟨b,at' (n + m),o.mem⟩
 ·
  have e1:bks orgs (c0 - b) (bks orgs a (bks orgs n r))=bks orgs (c0 - b) (bks orgs b (bks orgs n r)):=by rw [z]
  have e2:bks orgs (a + (c0 - b)) (bks orgs n r)=bks orgs (b + (c0 - b)) (bks orgs n r):=by rw [bks_add,bks_add];exact e1
  rw [show b + (c0 - b)=c0 by omega,cr] at e2
  exact cf (a + (c0 - b)) (by omega) (by omega) e2
 ·obtain ⟨_,b,o,t1⟩:=all m
  exact ⟨b,o.mem,o.le,o.lt,fun z=>g.inj _ _ t1 z⟩
end My
namespace My
open PySem L2
theorem mem_dm {n:Nat} {ps:List (Int×Int)} {st:Int} {d:Dm}:d∈dmAll n ps st n↔d.1 < n∧d.2.1 < n∧d.1≠d.2.1∧dem ps st d.1 d.2.1=some d.2.2:=by
 unfold dmAll dmRow
 rw [List.mem_flatMap]
 constructor
 ·rintro ⟨i,hi,h⟩
  obtain ⟨j,hj,h⟩:=List.mem_flatMap.mp h
  unfold dmI at h
  split at h
  ·cases h
  ·rename_i hne
   split at h
   ·rename_i k e
    rcases List.mem_singleton.mp h with rfl
    exact ⟨List.mem_range.mp hi,List.mem_range.mp hj,hne,e⟩
   ·cases h
 ·rintro ⟨hi,hj,hne,e⟩
  refine ⟨d.1,List.mem_range.mpr hi,List.mem_flatMap.mpr ⟨d.2.1,List.mem_range.mpr hj,?_⟩⟩
  unfold dmI
  rw [if_neg hne,e]
  exact List.mem_singleton.mpr rfl
theorem dm_ne {n:Nat} {ps:List (Int×Int)} {st:Int}:∀ d∈dmAll n ps st n,d.1≠d.2.1:=fun d h=>(mem_dm.mp h).2.2.1
noncomputable def rnL (orgs:List V) (s c:Nat):List Nat:=((List.range c).map fun i=>bks orgs i s).reverse
theorem rnL_len (orgs:List V) (s c:Nat):(rnL orgs s c).length=c:=by simp [rnL]
theorem rnL_at {orgs:List V} {s c i:Nat} (h:i < c):(rnL orgs s c)[i]? =some (bks orgs (c - 1 - i) s):=by
 unfold rnL
 rw [List.getElem?_reverse (by simpa using h),List.getElem?_map,List.length_map,List.length_range,List.getElem?_range (by omega)]
 rfl
structure RB (n:Nat) (ds:List Dm) (orgs:List V) (r c:Nat):Prop where
 lo:orgs.length=n
 rn:r < n
 at':∀ i,orgs[bks orgs i r]? =some (.int (bks orgs (i + 1) r:Nat))
 rnd:Rnd n ds orgs (bks orgs n r) c
 val:∃ (vals:List Int) (T:Nat→Nat),∀ i,∃ b,(bks orgs (i + 1) r,bks orgs i r,b)∈ds∧gt vals (bks orgs i r)≤gt vals (bks orgs (i + 1) r) + b∧(T (bks orgs i r) < T (bks orgs (i + 1) r)→gt vals (bks orgs i r) < gt vals (bks orgs (i + 1) r) + b)∧(T (bks orgs i r)=T (bks orgs (i + 1) r)→bks orgs i r=bks orgs (i + 1) r)
noncomputable def IsRnd (n:Nat) (ds:List Dm) (th:List Nat):Prop:=∃ orgs r c,RB n ds orgs r c∧th=rnL orgs (bks orgs n r) c
theorem isRnd_len {n:Nat} {ds:List Dm} {th:List Nat} (h:IsRnd n ds th):2≤th.length∧th.length≤n:=by
 obtain ⟨orgs,r,c,R,rfl⟩:=h
 rw [rnL_len]
 exact ⟨R.rnd.c2,R.rnd.cn⟩
theorem isRnd_next {n:Nat} {ds:List Dm} {th:List Nat} (h:IsRnd n ds th) {i:Nat} (hi:i < th.length):∃ a b k,th[i]? =some a∧th[(i + 1) % th.length]? =some b∧(a,b,k)∈ds:=by
 obtain ⟨orgs,r,c,R,rfl⟩:=h
 rw [rnL_len] at hi ⊢
 by_cases z:i + 1 < c
 ·rw [Nat.mod_eq_of_lt z,rnL_at hi,rnL_at z]
  obtain ⟨k,_,m⟩:=R.rnd.org (c - 1 - (i + 1))
  rw [show c - 1 - (i + 1) + 1=c - 1 - i by omega] at m
  exact ⟨_,_,k,rfl,rfl,m⟩
 ·have e:i + 1=c:=by omega
  rw [e,Nat.mod_self,rnL_at hi,rnL_at (by omega)]
  obtain ⟨k,_,m⟩:=R.rnd.org (c - 1)
  rw [show c - 1 + 1=c by omega,R.rnd.ret] at m
  rw [show c - 1 - i=0 by omega]
  exact ⟨_,_,k,rfl,rfl,m⟩
end My
namespace My
open PySem L2
noncomputable def sumN (K:Nat→Int):Nat→Int
 | 0=>0
 | m + 1=>sumN K m + K m
theorem tele {f K:Nat→Int}:∀ m,(∀ j,j < m→f j≤f (j + 1) + K j)→f 0 - f m≤sumN K m∧((∃ j,j < m∧f j < f (j + 1) + K j)→f 0 - f m < sumN K m)
 | 0,_=>⟨by simp [sumN],fun ⟨j,h,_⟩=>absurd h (Nat.not_lt_zero _)⟩
 | m + 1,h=>by
  obtain ⟨a,b⟩:=tele m fun j hj=>h j (by omega)
  have hm:=h m (by omega)
  refine ⟨by rw [sumN];omega,?_⟩
  rintro ⟨j,hj,hs⟩
  rw [sumN]
  by_cases z:j < m
  ·have:=b ⟨j,z,hs⟩
   omega
  ·have e:j=m:=by omega
   subst e
   omega
theorem sumN_list (K:Nat→Int):∀ m,((List.range m).map K).sum=sumN K m
 | 0=>rfl
 | m + 1=>by rw [List.range_succ,List.map_append,List.sum_append,sumN_list K m,sumN];simp
theorem sum_rev:∀ l:List Int,l.reverse.sum=l.sum
 | []=>rfl
 | a::l=>by rw [List.reverse_cons,List.sum_append,sum_rev l,List.sum_cons];simp;omega
theorem isRnd_sum {n:Nat} {ds:List Dm} (hne:∀ d∈ds,d.1≠d.2.1) {th:List Nat} (h:IsRnd n ds th) {K:Nat→Int}
  (hK:∀ (i a b:Nat) (k:Int),i < th.length→th[i]? =some a→th[(i + 1) % th.length]? =some b→(a,b,k)∈ds→k≤K i):0 < ((List.range th.length).map K).sum:=by
 obtain ⟨orgs,r,c,R,rfl⟩:=h
 rw [rnL_len] at hK ⊢
 have c2:=R.rnd.c2
 obtain ⟨vals,T,hv⟩:=R.val
 have X:∀ j,bks orgs j (bks orgs n r)=bks orgs (n + j) r:=fun j=>(bks_add orgs n r j).symm
 let J:Nat→Nat:=fun j=>if j + 1 < c then c - 2 - j else c - 1
 have st:∀ j,j < c→∃ b,(bks orgs (n + (j + 1)) r,bks orgs (n + j) r,b)∈ds∧b≤K (J j)∧gt vals (bks orgs (n + j) r)≤gt vals (bks orgs (n + (j + 1)) r) + b∧(T (bks orgs (n + j) r) < T (bks orgs (n + (j + 1)) r)→gt vals (bks orgs (n + j) r) < gt vals (bks orgs (n + (j + 1)) r) + b):=fun j hj=>by
  obtain ⟨b,h1,h2,h3,_⟩:=hv (n + j)
  refine ⟨b,h1,?_,h2,h3⟩
  by_cases z:j + 1 < c
  ·have e:J j=c - 2 - j:=if_pos z
   rw [e]
   refine hK (c - 2 - j) _ _ b (by omega) (rnL_at (by omega)) ?_ (by
    rw [X,show n + (c - 1 - (c - 2 - j))=n + (j + 1) by omega]
    exact h1)
   rw [Nat.mod_eq_of_lt (by omega),rnL_at (by omega),X,show n + (c - 1 - (c - 2 - j + 1))=n + j by omega]
  ·have e:J j=c - 1:=if_neg z
   have ej:j=c - 1:=by omega
   subst ej
   rw [e]
   have er:bks orgs (n + (c - 1 + 1)) r=bks orgs n r:=by
    rw [show c - 1 + 1=c by omega,←X]
    exact R.rnd.ret
   refine hK (c - 1) (bks orgs n r) _ b (by omega) ?_ ?_ (by rw [←er];exact h1)
   ·rw [rnL_at (by omega),show c - 1 - (c - 1)=0 by omega]
    rfl
   ·rw [show c - 1 + 1=c by omega,Nat.mod_self,rnL_at (by omega),X,show n + (c - 1 - 0)=n + (c - 1) by omega]
 have cyc:bks orgs (n + c) r=bks orgs (n + 0) r:=by rw [←X,R.rnd.ret];rfl
 have key:=tele (f:=fun j=>gt vals (bks orgs (n + j) r)) (K:=fun j=>K (J j)) c fun j hj=>by
  obtain ⟨b,_,h1,h2,_⟩:=st j hj
  show gt vals (bks orgs (n + j) r)≤gt vals (bks orgs (n + (j + 1)) r) + K (J j)
  omega
 have strict:∃ j,j < c∧gt vals (bks orgs (n + j) r) < gt vals (bks orgs (n + (j + 1)) r) + K (J j):=by
  by_cases z:∃ j,j < c∧T (bks orgs (n + j) r) < T (bks orgs (n + (j + 1)) r)
  ·obtain ⟨j,hj,ht⟩:=z
   obtain ⟨b,_,h1,_,h3⟩:=st j hj
   have:=h3 ht
   exact ⟨j,hj,by omega⟩
  ·exfalso
   have dn:∀ j,j < c→T (bks orgs (n + (j + 1)) r)≤T (bks orgs (n + j) r):=fun j hj=>Nat.le_of_not_lt fun y=>z ⟨j,hj,y⟩
   have dn2:∀ m,m + 1≤c→T (bks orgs (n + (m + 1)) r)≤T (bks orgs (n + 1) r):=by
    intro m
    induction m with
    | zero=>intro _;exact Nat.le_refl _
    | succ m ih=>intro hm;exact Nat.le_trans (dn (m + 1) (by omega)) (ih (by omega))
   have e1:=dn2 (c - 1) (by omega)
   rw [show c - 1 + 1=c by omega,cyc] at e1
   have e2:=dn 0 (by omega)
   obtain ⟨b,h1,_,_,h4⟩:=hv (n + 0)
   have e3:=h4 (Nat.le_antisymm e1 e2)
   exact hne _ h1 e3.symm
 have tot:=key.2 strict
 have e0:gt vals (bks orgs (n + 0) r) - gt vals (bks orgs (n + c) r)=0:=by rw [cyc];omega
 have tot':gt vals (bks orgs (n + 0) r) - gt vals (bks orgs (n + c) r) < sumN (fun j=>K (J j)) c:=tot
 rw [e0] at tot'
 have es:((List.range c).map K).sum=sumN (fun j=>K (J j)) c:=by
  obtain ⟨m,rfl⟩:∃ m,c=m + 1:=⟨c - 1,by omega⟩
  rw [List.range_succ,List.map_append,List.sum_append,sumN]
  have eJ:J m=m:=by
   show (if m + 1 < m + 1 then _ else _)=_
   rw [if_neg (Nat.lt_irrefl _)]
   rfl
  have e4:sumN (fun j=>K (J j)) m=((List.range m).map K).sum:=by
   rw [←sumN_list,←sum_rev]
   congr 1
   refine List.ext_getElem? fun i=>?_
   by_cases hi:i < m
   ·rw [List.getElem?_reverse (by simpa using hi),List.getElem?_map,List.getElem?_map,List.length_map,List.length_range,List.getElem?_range (by omega),List.getElem?_range hi]
    show some (K (J (m - 1 - i)))=some (K i)
    have:J (m - 1 - i)=i:=by
     show (if m - 1 - i + 1 < m + 1 then m + 1 - 2 - (m - 1 - i) else m + 1 - 1)=i
     rw [if_pos (by omega)]
     omega
    rw [this]
   ·rw [List.getElem?_eq_none (by simp;omega),List.getElem?_eq_none (by simp;omega)]
  rw [e4]
  show _ + _=_ + K (J m)
  rw [eJ]
  simp
 rw [es]
 exact tot'
end My
namespace My
open PySem L2
noncomputable def Rl (s0:Int) (line:List Int) (i j:Nat):Prop:=gt line j - gt line i≥s0
theorem line_con (s0:Int) (line:List Int):Nt.Con line.length (Rl s0 line) s0 (gt line):=fun i j _ _=>Iff.rfl
theorem sol_con {s0 st:Int} (h0:1≤s0) (hs:1≤st) {line:List Int} {x:Nat→Int}:SolD (dmAll line.length (toldL s0 line) st line.length) x↔Nt.Con line.length (Rl s0 line) st x:=by
 have hasR:∀ i j:Nat,i < line.length→j < line.length→(has (toldL s0 line) i j=true↔Rl s0 line i j):=fun i j hi hj=>by
  rw [has_told hi hj]
  exact decide_eq_true_iff
 constructor
 ·intro h i j hi hj
  have up:∀ a b:Nat,a < line.length→b < line.length→Rl s0 line a b→x a + st≤x b:=fun a b ha hb r=>by
   have hne:a≠b:=by intro e;subst e;unfold Rl at r;omega
   refine h (a,b,st) (mem_dm.mpr ⟨ha,hb,hne,?_⟩)
   unfold dem
   rw [if_pos ((hasR a b ha hb).mpr r)]
  constructor
  ·intro g
   apply Classical.byContradiction
   intro nr
   by_cases hne:i=j
   ·subst hne;omega
   ·by_cases r2:Rl s0 line j i
    ·have:=up j i hj hi r2
     omega
    ·have n1:¬has (toldL s0 line) j i=true:=fun z=>r2 ((hasR j i hj hi).mp z)
     have n2:¬has (toldL s0 line) i j=true:=fun z=>nr ((hasR i j hi hj).mp z)
     have:=h (j,i,1 - st) (mem_dm.mpr ⟨hj,hi,fun e=>hne e.symm,by unfold dem;rw [if_neg n1,if_neg n2]⟩)
     have this':x j + (1 - st)≤x i:=this
     omega
  ·intro r
   have:=up i j hi hj r
   omega
 ·intro h d hd
  obtain ⟨hi,hj,hne,e⟩:=mem_dm.mp hd
  unfold dem at e
  by_cases r1:has (toldL s0 line) d.1 d.2.1=true
  ·rw [if_pos r1] at e
   have:=(h d.1 d.2.1 hi hj).mpr ((hasR _ _ hi hj).mp r1)
   have:st=d.2.2:=Option.some.inj e
   omega
  ·rw [if_neg r1] at e
   by_cases r2:has (toldL s0 line) d.2.1 d.1=true
   ·rw [if_pos r2] at e;cases e
   ·rw [if_neg r2] at e
    have g:¬(x d.1 - x d.2.1≥st):=fun z=>r2 ((hasR _ _ hj hi).mpr ((h d.2.1 d.1 hj hi).mp z))
    have:1 - st=d.2.2:=Option.some.inj e
    omega
section
variable {s0:Int} {line:List Int} (h0:1≤s0) (h1:1≤line.length)
include h0 h1
theorem nums_is {st:Int} (hs:1≤st) {x:Nat→Int} (hx:Nt.Con line.length (Rl s0 line) st x) (nx:Nt.NN line.length x):∃ vals,nums line.length (toldL s0 line) st=some vals:=
 lv_none h1 (dmAll_ok _ _ _) ((sol_con h0 hs).mpr hx) nx
omit h1 in
theorem no_bar:barB line.length (toldL s0 line)=false:=by
 have hasR:∀ i j:Nat,i < line.length→j < line.length→(has (toldL s0 line) i j=true↔Rl s0 line i j):=fun i j hi hj=>by
  rw [has_told hi hj]
  exact decide_eq_true_iff
 have hc:=line_con s0 line
 unfold barB
 rw [Bool.or_eq_false_iff]
 constructor
 ·unfold bar2L
  cases e:(toldL s0 line).any fun p=>(toldL s0 line).any fun q=>bar2B (toldL s0 line) p.1 p.2 q.1 q.2 with
  | false=>rfl
  | true=>
   exfalso
   obtain ⟨p,hp,e⟩:=List.any_eq_true.mp e
   obtain ⟨q,hq,e⟩:=List.any_eq_true.mp e
   obtain ⟨a,b,ha,hb,rfl,_⟩:=mem_tlAll.mp hp
   obtain ⟨c,d,hc',hd,rfl,_⟩:=mem_tlAll.mp hq
   unfold bar2B at e
   simp only [Bool.and_eq_true,Bool.not_eq_true'] at e
   obtain ⟨⟨e1,e2⟩,e3,e4⟩:=e
   exact Nt.no_two hc ha hb hc' hd ((hasR _ _ ha hb).mp e1) ((hasR _ _ hc' hd).mp e2) (fun z=>by rw [(hasR _ _ ha hd).mpr z] at e3;cases e3) (fun z=>by rw [(hasR _ _ hc' hb).mpr z] at e4;cases e4)
 ·unfold bar3L
  cases e:(toldL s0 line).any fun p=>(List.range line.length).any fun c=>(List.range line.length).any fun d=>bar3B (toldL s0 line) p.1 p.2 c d with
  | false=>rfl
  | true=>
   exfalso
   obtain ⟨p,hp,e⟩:=List.any_eq_true.mp e
   obtain ⟨c,hc',e⟩:=List.any_eq_true.mp e
   obtain ⟨d,hd,e⟩:=List.any_eq_true.mp e
   obtain ⟨a,b,ha,hb,rfl,_⟩:=mem_tlAll.mp hp
   have hc':=List.mem_range.mp hc'
   have hd:=List.mem_range.mp hd
   unfold bar3B at e
   simp only [Bool.and_eq_true,Bool.not_eq_true'] at e
   obtain ⟨⟨e1,e2⟩,e3,e4⟩:=e
   exact Nt.no_three hc ha hb hc' hd ((hasR _ _ ha hb).mp e1) ((hasR _ _ hb hc').mp e2) (fun z=>by rw [(hasR _ _ ha hd).mpr z] at e3;cases e3) (fun z=>by rw [(hasR _ _ hd hc').mpr z] at e4;cases e4)
end
end My
namespace My
open PySem L2
theorem ord_irr {n:Nat} {ps:List (Int×Int)} (ho:Ord n ps) (a:Int):has ps a a=false:=by
 cases h:has ps a a with
 | false=>rfl
 | true=>exact absurd rfl (ho.ix _ (of_decide_eq_true h)).2.2.2.2
theorem any_f {α:Type} {l:List α} {p:α→Bool} (h:l.any p=false) {x:α} (hx:x∈l):p x=false:=by
 cases e:p x with
 | false=>rfl
 | true=>rw [List.any_eq_true.mpr ⟨x,hx,e⟩] at h;cases h
theorem sm_of {n:Nat} {ps:List (Int×Int)} (ho:Ord n ps) (hb:barB n ps=false):Wk.Sm n (fun a b=>has ps a b=true):=by
 unfold barB at hb
 rw [Bool.or_eq_false_iff] at hb
 refine ⟨fun a _ h=>(by rw [ord_irr ho] at h;cases h),fun a b c d ha hb' hc hd h1 h2=>?_,fun a b c d ha hb' hc hd h1 h2=>?_⟩
 ·have:=any_f (any_f hb.1 (of_decide_eq_true h1)) (of_decide_eq_true h2)
  unfold bar2B at this
  dsimp only at this
  rw [h1,h2] at this
  cases e1:has ps a d with
  | true=>exact .inl rfl
  | false=>
   cases e2:has ps c b with
   | true=>exact .inr rfl
   | false=>rw [e1,e2] at this;cases this
 ·have:=any_f (any_f (any_f hb.2 (of_decide_eq_true h1)) (List.mem_range.mpr hc)) (List.mem_range.mpr hd)
  unfold bar3B at this
  dsimp only at this
  rw [h1,h2] at this
  cases e1:has ps a d with
  | true=>exact .inl rfl
  | false=>
   cases e2:has ps d c with
   | true=>exact .inr rfl
   | false=>rw [e1,e2] at this;cases this
theorem rounds_len (ds:List Dm):∀ (k:Nat) (vals:List Int) (orgs:List V) (r:V),(rounds ds k vals orgs r).1.length=vals.length∧(rounds ds k vals orgs r).2.1.length=orgs.length
 | 0,_,_,_=>⟨rfl,rfl⟩
 | k + 1,vals,orgs,r=>by
  rw [rounds]
  have h:=run1_len ds vals orgs
  split
  ·exact h
  ·have:=rounds_len ds k (run1 ds vals orgs).1 (run1 ds vals orgs).2.1 (run1 ds vals orgs).2.2
   exact ⟨this.1.trans h.1,this.2.trans h.2⟩
theorem rnd_is {n:Nat} {ds:List Dm} (hd:dmOk n ds) (hne:∀ d∈ds,d.1≠d.2.1) (h:lv n ds=none):∃ th,IsRnd n ds th:=by
 have e:(rounds ds n (List.replicate n 0) (List.replicate n .non) .non).2.2≠.non:=fun z=>by
  unfold lv at h
  rw [if_pos z] at h
  cases h
 obtain ⟨r,hr',er,at',⟨c,R⟩,vals,T',hval⟩:=rnd_of hd hne e rfl
 exact ⟨_,_,r,c,⟨by rw [(rounds_len ds n _ _ _).2,List.length_replicate],hr',at',R,vals,T',hval⟩,rfl⟩
noncomputable def rst (ps:List (Int×Int)) (th:List Nat):Nat→List Bool
 | 0=>[]
 | m + 1=>rst ps th m++[has ps (th.getD m 0) (th.getD ((m + 1) % th.length) 0)]
theorem rst_len (ps:List (Int×Int)) (th:List Nat):∀ m,(rst ps th m).length=m
 | 0=>rfl
 | m + 1=>by rw [rst,List.length_append,rst_len ps th m];rfl
theorem rst_sum (ps:List (Int×Int)) (th:List Nat) (st:Int):∀ m,sumN (fun i=>if has ps (th.getD i 0) (th.getD ((i + 1) % th.length) 0)=true then st else 1 - st) m=(Wk.nt (rst ps th m):Int) * st + (Wk.nf (rst ps th m):Int) * (1 - st)
 | 0=>by simp [sumN,rst,Wk.nt,Wk.nf]
 | m + 1=>by
  rw [sumN,rst_sum ps th st m,rst,Wk.nt_app,Wk.nf_app]
  cases e:has ps (th.getD m 0) (th.getD ((m + 1) % th.length) 0) with
  | true=>
   rw [if_pos rfl,show Wk.nt [true]=1 from rfl,show Wk.nf [true]=0 from rfl]
   rw [show ((Wk.nt (rst ps th m) + 1:Nat):Int)=(Wk.nt (rst ps th m):Int) + 1 by omega,Int.add_mul]
   rw [Nat.add_zero]
   omega
  | false=>
   rw [if_neg Bool.false_ne_true,show Wk.nt [false]=0 from rfl,show Wk.nf [false]=1 from rfl]
   rw [show ((Wk.nf (rst ps th m) + 1:Nat):Int)=(Wk.nf (rst ps th m):Int) + 1 by omega,Int.add_mul]
   rw [Nat.add_zero]
   omega
theorem getD_of {th:List Nat} {i a:Nat} (h:th[i]? =some a):th.getD i 0=a:=by
 rw [List.getD_eq_getElem?_getD,h]
 rfl
theorem rst_walk {n:Nat} {ps:List (Int×Int)} {st:Int} {th:List Nat} (h:IsRnd n (dmAll n ps st n) th):∀ m,m≤th.length→Wk.W n (fun a b=>has ps a b=true) (th.getD 0 0) (th.getD (m % th.length) 0) (rst ps th m)
 | 0,_=>by
  obtain ⟨l2,_⟩:=isRnd_len h
  obtain ⟨a,b,k,h1,h2,h3⟩:=isRnd_next h (i:=0) (by omega)
  rw [Nat.zero_mod]
  refine .nil ?_
  rw [getD_of h1]
  exact (mem_dm.mp h3).1
 | m + 1,hm=>by
  obtain ⟨a,b,k,h1,h2,h3⟩:=isRnd_next h (i:=m) (by omega)
  have w:=rst_walk h m (by omega)
  rw [Nat.mod_eq_of_lt (by omega)] at w
  rw [rst]
  refine w.app ?_
  rw [getD_of h1,getD_of h2]
  obtain ⟨x1,x2,x3,x4⟩:=mem_dm.mp h3
  dsimp only at x1 x2 x3 x4
  cases e:has ps a b with
  | true=>exact .up x1 e (.nil x2)
  | false=>
   refine .fl x1 ?_ (.nil x2)
   intro z
   have z':has ps b a=true:=z
   unfold dem at x4
   rw [e,z'] at x4
   cases x4
theorem rep_at {n:Nat} {ps:List (Int×Int)} (ho:Ord n ps) (hb:barB n ps=false) {st:Int} (h4:4≤st):∃ vals,nums n ps st=some vals:=by
 cases e:nums n ps st with
 | some v=>exact ⟨v,rfl⟩
 | none=>
  exfalso
  obtain ⟨th,h⟩:=rnd_is (dmAll_ok n ps st) dm_ne e
  obtain ⟨l2,ln⟩:=isRnd_len h
  have n8:=ho.hi
  have sm:=sm_of ho hb
  have w:=rst_walk h th.length (Nat.le_refl _)
  rw [Nat.mod_self] at w
  have hs:=isRnd_sum dm_ne h (K:=fun i=>if has ps (th.getD i 0) (th.getD ((i + 1) % th.length) 0)=true then st else 1 - st) fun i a b k hi h1 h2 h3=>by
   obtain ⟨_,_,_,x4⟩:=mem_dm.mp h3
   dsimp only at x4 ⊢
   rw [getD_of h1,getD_of h2]
   unfold dem at x4
   cases e:has ps a b with
   | true=>rw [e] at x4;injection x4 with x4;rw [if_pos rfl];exact Int.le_of_eq x4.symm
   | false=>
    rw [e] at x4
    rw [if_neg Bool.false_ne_true] at x4 ⊢
    split at x4
    ·cases x4
    ·injection x4 with x4;exact Int.le_of_eq x4.symm
  rw [sumN_list,rst_sum] at hs
  have hl:=rst_len ps th th.length
  have few:Wk.nt (rst ps th th.length) < Wk.nf (rst ps th th.length):=by
   rcases Nat.lt_trichotomy (Wk.nt (rst ps th th.length)) (Wk.nf (rst ps th th.length)) with g | g | g
   ·exact g
   ·exfalso
    have ex:∃ m,m < th.length∧has ps (th.getD m 0) (th.getD ((m + 1) % th.length) 0)=false:=by
     apply Classical.byContradiction
     intro z
     have all:∀ m,m≤th.length→Wk.nf (rst ps th m)=0∧Wk.nt (rst ps th m)=m:=by
      intro m
      induction m with
      | zero=>intro _;exact ⟨rfl,rfl⟩
      | succ m ih=>
       intro hm
       obtain ⟨i1,i2⟩:=ih (by omega)
       have e:has ps (th.getD m 0) (th.getD ((m + 1) % th.length) 0)=true:=by
        cases e:has ps (th.getD m 0) (th.getD ((m + 1) % th.length) 0) with
        | true=>rfl
        | false=>exact absurd ⟨m,by omega,e⟩ z
       rw [rst,e,Wk.nf_app,Wk.nt_app,i1,i2]
       exact ⟨rfl,rfl⟩
     obtain ⟨i1,i2⟩:=all th.length (Nat.le_refl _)
     omega
    obtain ⟨m,hm,em⟩:=ex
    have w1:=rst_walk h m (by omega)
    rw [Nat.mod_eq_of_lt hm] at w1
    have sp:∀ k,m + 1 + k≤th.length→∃ v,rst ps th (m + 1 + k)=rst ps th m++(false::v)∧Wk.W n (fun a b=>has ps a b=true) (th.getD ((m + 1) % th.length) 0) (th.getD ((m + 1 + k) % th.length) 0) v:=by
     intro k
     induction k with
     | zero=>
      intro _
      refine ⟨[],by rw [Nat.add_zero,rst,em],?_⟩
      obtain ⟨a,b,k,h1,h2,h3⟩:=isRnd_next h (i:=m) hm
      rw [Nat.add_zero,getD_of h2]
      exact .nil (mem_dm.mp h3).2.1
     | succ k ih=>
      intro hk
      obtain ⟨v,e1,e2⟩:=ih (by omega)
      obtain ⟨a,b,j,h1,h2,h3⟩:=isRnd_next h (i:=m + 1 + k) (by omega)
      obtain ⟨x1,x2,x3,x4⟩:=mem_dm.mp h3
      dsimp only at x1 x2 x3 x4
      refine ⟨v++[has ps (th.getD (m + 1 + k) 0) (th.getD ((m + 1 + k + 1) % th.length) 0)],?_,?_⟩
      ·rw [show m + 1 + (k + 1)=m + 1 + k + 1 by omega,rst,e1,List.append_assoc,List.cons_append]
      ·rw [Nat.mod_eq_of_lt (by omega:m + 1 + k < th.length)] at e2
       refine e2.app ?_
       rw [show m + 1 + (k + 1)=m + 1 + k + 1 by omega,getD_of h1,getD_of h2]
       cases e:has ps a b with
       | true=>exact .up x1 e (.nil x2)
       | false=>
        refine .fl x1 ?_ (.nil x2)
        intro z
        have z':has ps b a=true:=z
        unfold dem at x4
        rw [e,z'] at x4
        cases x4
    obtain ⟨v,e1,w2⟩:=sp (th.length - (m + 1)) (by omega)
    rw [show m + 1 + (th.length - (m + 1))=th.length by omega] at e1 w2
    rw [Nat.mod_self] at w2
    rw [e1,Wk.nt_app,Wk.nf_app,show (false::v)=[false]++v from rfl,Wk.nt_app,Wk.nf_app,show Wk.nt [false]=0 from rfl,show Wk.nf [false]=1 from rfl] at g
    have up:=Wk.up_of sm _ _ (Nat.le_refl _) (by rw [Wk.nt_app,Wk.nf_app];omega) (w2.app w1)
    obtain ⟨a,b,j,h1,h2,h3⟩:=isRnd_next h (i:=m) hm
    obtain ⟨x1,x2,x3,x4⟩:=mem_dm.mp h3
    dsimp only at x1 x2 x3 x4
    rw [getD_of h1,getD_of h2] at up em
    unfold dem at x4
    rw [em,up] at x4
    cases x4
   ·have:=Wk.up_of sm _ _ (Nat.le_refl _) g w
    exact absurd this (sm.irr _ w.fst)
  have tot:(Wk.nt (rst ps th th.length)) + (Wk.nf (rst ps th th.length))=th.length:=by
   have h1:=List.length_eq_countP_add_countP (l:=rst ps th th.length) id
   have h2:Wk.nf (rst ps th th.length)=List.countP (fun a=>decide ¬id a=true) (rst ps th th.length):=by
    unfold Wk.nf
    refine List.countP_congr ?_
    intro x _
    cases x <;> simp
   have h3:Wk.nt (rst ps th th.length)=List.countP id (rst ps th th.length):=rfl
   omega
  generalize Wk.nt (rst ps th th.length)=p at *
  generalize Wk.nf (rst ps th th.length)=q at *
  have hp:p≤3:=by omega
  have hq:(q:Int) * (1 - st)≤((p:Int) + 1) * (1 - st):=by
   have:((q:Int) - (p + 1)) * (st - 1)≥0:=Int.mul_nonneg (by omega) (by omega)
   have e1:((q:Int) - (p + 1)) * (st - 1)=(p + 1) * (1 - st) - q * (1 - st):=by
    rw [Int.sub_mul,show st - 1=-(1 - st) by omega,Int.mul_neg,Int.mul_neg]
    omega
   omega
  have e2:((p:Int) + 1) * (1 - st)=(p:Int) - p * st + 1 - st:=by
   rw [Int.add_mul,Int.mul_sub]
   omega
  omega
theorem told_of {n:Nat} {ps:List (Int×Int)} (ho:Ord n ps) {st:Int} (hs:1≤st) {vals:List Int} (h:nums n ps st=some vals):vals.length=n∧toldL st vals=ps∧∀ v,v < n→0≤gt vals v:=by
 obtain ⟨a,b,c,d⟩:=lv_some ho.lo (dmAll_ok _ _ _) h
 refine ⟨a,pw_ext (all_up _ _ _) (pw_of ho.up) fun p=>?_,b⟩
 have key:∀ i j:Nat,i < n→j < n→(vals.getD j 0 - vals.getD i 0≥st↔has ps i j=true):=fun i j hi hj=>by
  constructor
  ·intro g
   cases e:has ps i j with
   | true=>rfl
   | false=>
    exfalso
    by_cases ij:i=j
    ·subst ij;omega
    ·cases e2:has ps j i with
     | true=>
      have:=c (j,i,st) (mem_dm.mpr ⟨hj,hi,Ne.symm ij,by unfold dem;rw [e2];rfl⟩)
      have this':gt vals j + st≤gt vals i:=this
      unfold gt at this'
      omega
     | false=>
      have:=c (j,i,1 - st) (mem_dm.mpr ⟨hj,hi,Ne.symm ij,by unfold dem;dsimp only;rw [e2,e];rfl⟩)
      have this':gt vals j + (1 - st)≤gt vals i:=this
      unfold gt at this'
      omega
  ·intro e
   have ij:i≠j:=fun z=>by rw [z,ord_irr ho] at e;cases e
   have:=c (i,j,st) (mem_dm.mpr ⟨hi,hj,ij,by unfold dem;rw [e];rfl⟩)
   have this':gt vals i + st≤gt vals j:=this
   unfold gt at this'
   omega
 constructor
 ·intro hp
  obtain ⟨i,j,hi,hj,rfl,g⟩:=mem_tlAll.mp hp
  exact of_decide_eq_true ((key i j (by omega) (by omega)).mp g)
 ·intro hp
  obtain ⟨x1,x2,x3,x4,_⟩:=ho.ix p hp
  obtain ⟨i,hi⟩:∃ i:Nat,p.1=i:=⟨p.1.toNat,by omega⟩
  obtain ⟨j,hj⟩:∃ j:Nat,p.2=j:=⟨p.2.toNat,by omega⟩
  have ep:p=((i:Int),(j:Int)):=Prod.ext hi hj
  refine mem_tlAll.mpr ⟨i,j,by omega,by omega,ep,(key i j (by omega) (by omega)).mpr ?_⟩
  rw [ep] at hp
  exact decide_eq_true hp
theorem rel1_top {s:Rs} {d:Dm} {B st:Int} (h0:0≤st) (hB:0≤B) (hk:d.2.2≤st) (h:∀ v∈s.1,v≤B):∀ v∈(rel1 s d).1,v≤B + st:=by
 unfold rel1
 have hg:s.1.getD d.1 0≤B:=by
  rw [List.getD_eq_getElem?_getD]
  cases e:s.1[d.1]? with
  | none=>exact hB
  | some u=>exact h u (List.mem_of_getElem? e)
 split
 ·intro v hv
  rcases List.mem_or_eq_of_mem_set hv with g | g
  ·have:=h v g;omega
  ·subst g;omega
 ·intro v hv
  have:=h v hv
  omega
theorem fold_top {st:Int} (h0:0≤st):∀ (ds:List Dm) (s:Rs) (B:Int),0≤B→(∀ d∈ds,d.2.2≤st)→(∀ v∈s.1,v≤B)→∀ v∈(ds.foldl rel1 s).1,v≤B + ds.length * st
 | [],s,B,_,_,h=>fun v hv=>by have:=h v hv;simp only [List.length_nil];omega
 | d::ds,s,B,hB,hk,h=>fun v hv=>by
  have:=fold_top h0 ds (rel1 s d) (B + st) (by omega) (fun x hx=>hk x (List.mem_cons_of_mem _ hx)) (rel1_top h0 hB (hk d List.mem_cons_self) h) v hv
  rw [List.length_cons,show ((ds.length + 1:Nat):Int)=(ds.length:Int) + 1 by omega,Int.add_mul]
  omega
theorem rounds_top {st:Int} (h0:0≤st) {ds:List Dm} (hk:∀ d∈ds,d.2.2≤st):∀ (k:Nat) (vals:List Int) (orgs:List V) (r:V) (B:Int),0≤B→(∀ v∈vals,v≤B)→∀ v∈(rounds ds k vals orgs r).1,v≤B + k * (ds.length * st)
 | 0,vals,orgs,r,B,hB,h=>fun v hv=>by have:=h v hv;simp only [Int.natCast_zero,Int.zero_mul];omega
 | k + 1,vals,orgs,r,B,hB,h=>fun v hv=>by
  have f:=fold_top h0 ds (vals,orgs,.non) B hB hk h
  have pz:0≤(ds.length:Int) * st:=Int.mul_nonneg (by omega) h0
  have pk:0≤(k:Int) * (ds.length * st):=Int.mul_nonneg (by omega) pz
  rw [show ((k + 1:Nat):Int)=(k:Int) + 1 by omega,Int.add_mul]
  rw [rounds] at hv
  split at hv
  ·have:=f v hv
   omega
  ·have:=rounds_top h0 hk k _ _ _ (B + ds.length * st) (by omega) f v hv
   omega
theorem nums_barred {n:Nat} {ps:List (Int×Int)} (ho:Ord n ps) (hb:barB n ps=true) {st:Int} (hs:1≤st):nums n ps st=none:=by
 cases e:nums n ps st with
 | none=>rfl
 | some vals=>
  obtain ⟨a,b,_⟩:=told_of ho hs e
  have:=no_bar hs (line:=vals)
  rw [a,b] at this
  rw [this] at hb
  cases hb
theorem thresholds {n:Nat} {ps:List (Int×Int)} (ho:Ord n ps) (hb:barB n ps=false):∃ st vals,1≤st∧st≤4∧nums n ps st=some vals∧(∀ s',1≤s'→s' < st→nums n ps s'=none)∧∀ s',st≤s'→∃ vs,nums n ps s'=some vs:=by
 have ex:∃ st:Int,1≤st∧st≤4∧(∃ vals,nums n ps st=some vals)∧∀ s',1≤s'→s' < st→nums n ps s'=none:=by
  cases e1:nums n ps 1 with
  | some v=>exact ⟨1,by omega,by omega,⟨v,e1⟩,fun s' _ _=>by omega⟩
  | none=>
   cases e2:nums n ps 2 with
   | some v=>exact ⟨2,by omega,by omega,⟨v,e2⟩,fun s' _ _=>by rw [show s'=1 by omega];exact e1⟩
   | none=>
    cases e3:nums n ps 3 with
    | some v=>
     refine ⟨3,by omega,by omega,⟨v,e3⟩,fun s' _ _=>?_⟩
     rcases (by omega:s'=1∨s'=2) with rfl | rfl
     ·exact e1
     ·exact e2
    | none=>
     refine ⟨4,by omega,by omega,rep_at ho hb (by omega),fun s' _ _=>?_⟩
     rcases (by omega:s'=1∨s'=2∨s'=3) with rfl | rfl | rfl
     ·exact e1
     ·exact e2
     ·exact e3
 obtain ⟨st,a,b,⟨vals,c⟩,d⟩:=ex
 refine ⟨st,vals,a,b,c,d,fun s' g=>?_⟩
 obtain ⟨ln,et,_⟩:=told_of ho a c
 have h1:1≤vals.length:=by rw [ln];exact ho.lo
 obtain ⟨k,rfl⟩:∃ k:Nat,s'=st + k:=⟨(s' - st).toNat,by omega⟩
 have hc:=line_con st vals
 have nl:Nt.NN vals.length (gt vals):=fun i hi=>by
  obtain ⟨_,h,_⟩:=lv_some ho.lo (dmAll_ok _ _ _) c
  exact h i (by omega)
 have nb:∀ i,i < vals.length→gt vals i≤Nt.sumTo (gt vals) vals.length * st:=fun i hi=>by
  have h:∀ n,(∀ i,i < n→0≤gt vals i)→∀ i,i < n→gt vals i≤Nt.sumTo (gt vals) n:=fun n=>by
   induction n with
   | zero=>intro _ i hi;omega
   | succ n ih=>
    intro hn i hi
    simp only [Nt.sumTo]
    have s:=Nt.sum_nn (x:=gt vals) (n:=n) fun i hi=>hn i (by omega)
    have z:=hn n (by omega)
    by_cases e:i=n
    ·subst e;omega
    ·have:=ih (fun i hi=>hn i (by omega)) i (by omega)
     omega
  have g:=h vals.length nl i hi
  have s:=Nt.sum_nn nl
  have:Nt.sumTo (gt vals) vals.length * 1≤Nt.sumTo (gt vals) vals.length * st:=Int.mul_le_mul_of_nonneg_left a s
  omega
 obtain ⟨y,y1,y2,_⟩:=Nt.scales a hc nl nb k
 have:=nums_is a h1 (by omega) y1 y2
 rw [ln,et] at this
 exact this
end My
namespace My
open PySem L2
section
variable {P:Program} {w:World} {K:PySem.W.Frag} {mg:Str→Option Value} {base:Heap} {t:Ad}
theorem bar_is {H:Hp} {v:V} {n:Nat} {ps:List (Int×Int)} (h:Is H v (barD n ps)):decide (v=V.non)= !barB n ps:=by
 cases e:barB n ps with
 | false=>
  rw [barD_no e] at h
  cases h
  rfl
 | true=>
  obtain ⟨ds,e'⟩:=barD_yes e
  rw [e'] at h
  cases h
  rfl
end
end My
namespace My
open PySem L2
theorem rot_ne {n a b:Int} (a0:0≤a) (a1:a < n) (b0:0≤b) (b1:b < n - 1):0≤(a + 1 + b) % n∧(a + 1 + b) % n < n∧a≠(a + 1 + b) % n:=by
 refine ⟨Int.emod_nonneg _ (by omega),Int.emod_lt_of_pos _ (by omega),?_⟩
 by_cases h:a + 1 + b < n
 ·rw [Int.emod_eq_of_lt (by omega) h]
  omega
 ·have e:a + 1 + b=(a + 1 + b - n) + n * 1:=by omega
  rw [e,Int.add_mul_emod_self_left,Int.emod_eq_of_lt (by omega) (by omega)]
  omega
noncomputable def outP (q:Int×Int) (ps:List (Int×Int)):List (Int×Int):=ps.filter fun p=> !decide (p=q)
theorem outP_snoc (q p:Int×Int) (ps:List (Int×Int)):outP q (ps++[p])=outP q ps++(if (!decide (p=q))=true then [p] else []):=by
 unfold outP
 rw [List.filter_append,filter_one]
theorem outP_len (q:Int×Int) (ps:List (Int×Int)):(outP q ps).length≤ps.length:=List.length_filter_le _ _
theorem mem_outP {q p:Int×Int} {ps:List (Int×Int)}:p∈outP q ps↔p∈ps∧p≠q:=by
 unfold outP
 rw [List.mem_filter]
 simp
theorem outP_nd {q:Int×Int} {ps:List (Int×Int)} (h:ps.Nodup):(outP q ps).Nodup:=List.Pairwise.filter _ h
theorem nd_snoc {q:Int×Int} {ps:List (Int×Int)} (h:ps.Nodup) (hq:q∉ps):(ps++[q]).Nodup:=by
 unfold List.Nodup
 rw [List.pairwise_append]
 refine ⟨h,List.pairwise_singleton _ _,fun a ha b hb z=>?_⟩
 rcases List.mem_singleton.mp hb with rfl
 exact hq (z▸ha)
theorem pr_get {H:Hp} {ys:List V} {ps:List (Int×Int)} {i:Nat} {x:V} (h:IsAll H ys (ps.map prD)) (e:ys[i]? =some x):∃ p,ps[i]? =some p∧Is H x (prD p):=by
 obtain ⟨d,ed,id⟩:=h.get' e
 rw [List.getElem?_map] at ed
 cases hpi:ps[i]? with
 | none=>rw [hpi] at ed;cases ed
 | some p=>rw [hpi] at ed;cases ed;exact ⟨p,rfl,id⟩
theorem rd_ninL {H:Hp} {Q:VK} {p l:Addr} {zs:List V} {i j:Int} {ps:List (Int×Int)} (e:H p=some (.tup [.int i,.int j])) (el:H l=some (.lst zs)) (iz:IsAll H zs (ps.map prD)) (h:Q (.bl (!has ps i j)) H):rInD true (.ref p) (.ref l) H Q:=by
 refine ⟨prD (i,j),ps.map prD,.tup e (.cons (.int i) (.cons (.int j) .nil)),.inr (.lst (.inl el) iz),ok_pr _,ok_prs _,?_⟩
 rw [inD_pr]
 exact h
theorem at_ints {vals:List Int} {i:Nat} (hi:i < vals.length):atI (vals.map V.int) ((0:Int) + (i:Int))=some (.int (vals.getD i 0)):=by
 refine atI_of (i:=i) (by omega) ?_
 exact getD_map hi
theorem ord_tt {H H':Hp} {tw:Addr} {ts:List V} (hw:H tw=some (.lst ts)) (s:SameT tw H H') {x:V} {n:Nat} {ps:List (Int×Int)} (h:Is H x (ordD n ps)):Is H' x (ordD n ps):=
 h.tmono (fun c us e=>s _ _ e (ne_of e hw (by intro z;cases z))) (by unfold ordD;rw [noL,noLs,noLs,noLs,noL,noL,noLs_pr];rfl)
theorem prs_t {H H':Hp} {tw:Addr} {ts zs:List V} {prs:List (Int×Int)} (hw:H tw=some (.lst ts)) (s:SameT tw H H') (h:IsAll H zs (prs.map prD)):IsAll H' zs (prs.map prD):=
 h.tmono (fun c us e=>s _ _ e (ne_of e hw (by intro z;cases z))) (noLs_pr _)
section
variable {P:Program} {w:World} {K:PySem.W.Frag} {mg:Str→Option Value} {base:Heap} {t:Ad}
set_option genSizeOf false in
set_option genInjectivity false in
inductive sp_by (vs:List V) (H:Hp) (Q:VK) (zz3:XK):Prop where
 | mk (p:Addr) (vals:List Int) (st:Int) (zh0:vs=[.int st,.ref p]) (zh1:H p=some (.lst (vals.map V.int))) (zh2:vals.length≤8) (zh3:∀ x H',Same H H'→Is H' x (ordD vals.length (toldL st vals))→Q x H'):sp_by vs H Q zz3
theorem ok__law_by (T:Txt K mg t):FnOk P w K mg base CX0 1 t.a__law_by t.d__law_by ["_law_step","_law_longs"] sp_by:=by
 refine T.F__law_by.ok sc__law_by (fun vs H Q E h=>?_) (fun cdv A outer s H vs Q E hr h=>?_)
 ·obtain ⟨p,vals,st,rfl,_⟩:=h
  rfl
 ·obtain ⟨p,vals,st,rfl,ep,l8,q⟩:=h
  refine ⟨_,(pss_cons (ps_set (i:=2) sc__law_by.nd rfl (Or.inl rfl) (pe_lst pa_nil))
   (pss_cons (ps_for PassesOwn.never rfl (pi_range1 rfl T.n_range (pa_cons (pe_callB (k_len K) (by rfl) T.n_len bt_len (pa_cons (pv 1) pa_nil)) pa_nil)) (pg_name (i:=3) sc__law_by.nd rfl (Or.inl rfl)) (pss_one (ps_for PassesOwn.never rfl (pi_range1 rfl T.n_range (pa_cons (pe_callB (k_len K) (by rfl) T.n_len bt_len (pa_cons (pv 1) pa_nil)) pa_nil)) (pg_name (i:=4) sc__law_by.nd rfl (Or.inl rfl)) (pss_one (ps_if (pt_cmpR (op_ge) (pe_ix (k_ix K) (pv 1) (pv 4) (fun _ _=>rfl)) (pe_op op_add (pe_ix (k_ix K) (pv 1) (pv 3) (fun _ _=>rfl)) (pv 0)) (nomark _)) (pss_one (ps_expr (k_bm K PySem.F.plainAttrs_list PySem.F.slot_list_append PySem.F.type_list_append mt_append (pv 2) (pa_cons (pe_tup (pa_cons (pv 3) (pa_cons (pv 4) pa_nil))) pa_nil)))) pss_nil)))))
   (pss_one (ps_ret (pe_tup (pa_cons (pe_callB (k_len K) (by rfl) T.n_len bt_len (pa_cons (pv 1) pa_nil)) (pa_cons (pe_callTy (k_tuple K) (by rfl) T.n_tuple bt_tuple (pa_cons (pv 2) pa_nil)) pa_nil))))))),?_⟩
  have ln:(vals.map V.int).length=vals.length:=List.length_map _
  walk_at "rd"
  refine ⟨Nat.zero_le _,fun r hr'=>?_⟩
  have s0:=Same.upd (o:=.lst []) hr'
  have ep0:=s0 _ _ ep
  walk_at "rd"
  refine ⟨_,rfl,by omega,by omega,?_⟩
  rw [ln,Int.toNat_natCast]
  refine fp_range (fun i σ H'=>(∃ v3 v4,σ=[some (.int st),some (.ref p),some (.ref r),v3,v4])∧Same H H'∧∃ zs,H' r=some (.lst zs)∧IsAll H' zs ((tlAll st vals i).map prD)) ⟨⟨_,_,rfl⟩,s0,[],upd_same,.nil⟩ ?_ ?_
  ·rintro i σ H1 hi ⟨⟨v3,v4,rfl⟩,s1,zs,hz,iz⟩
   have ep1:=s1 _ _ ep
   walk_at "rd"
   refine ⟨_,rfl,by omega,by omega,?_⟩
   rw [ln,Int.toNat_natCast]
   refine fp_range (fun j σ H'=>(∃ v4,σ=[some (.int st),some (.ref p),some (.ref r),some (.int (0 + i)),v4])∧Same H H'∧∃ zs,H' r=some (.lst zs)∧IsAll H' zs ((tlAll st vals i++tlRow st vals i j).map prD)) ⟨⟨_,rfl⟩,s1,zs,hz,by simpa [tlRow] using iz⟩ ?_ ?_
   ·rintro j σ H2 hj ⟨⟨v4,rfl⟩,s2,zs2,hz2,iz2⟩
    have ep2:=s2 _ _ ep
    rw [tlRow_succ,←List.append_assoc,List.map_append]
    walk_at "rd"
    refine rd_ixL ep2 (at_ints hj) ?_
    walk_at "rd"
    refine rd_ixL ep2 (at_ints hi) ?_
    walk_at "rd"
    refine ifB (fun g=>?_) (fun g=>?_)
    ·have g':=of_decide_eq_true g
     have e1:tlI st vals i j=[((i:Int),(j:Int))]:=by unfold tlI;rw [if_pos (by omega)]
     rw [e1]
     have lz:zs2.length≤200:=by
      rw [iz2.length,List.length_map,List.length_append]
      have h1:=tlAll_len st vals i
      have h2:=tlRow_len st vals i j
      have h3:i * vals.length≤8 * 8:=Nat.mul_le_mul (by omega) l8
      omega
     walk_at "rd"
     refine ⟨tyV_lst hz2,?_⟩
     walk_at "rd"
     refine ⟨by show 2≤sizeLine;decide,fun o ho=>?_⟩
     have hro:r≠o:=ne_of_none hz2 ho
     walk_at "rd"
     refine rd_append (xs:=zs2) (by rw [upd_ne hro];exact hz2) (small1000 (by omega)) ?_
     walk_at "rd"
     refine ⟨⟨_,rfl⟩,fun c u e=>?_,_,upd_same,?_⟩
     ·have e3:=s2 c u e
      rw [upd_ne (ne_of_none e hr'),upd_ne (ne_of_none e3 ho)]
      exact e3
     ·rw [Int.zero_add,Int.zero_add]
      refine grow (noLs_pr _) hz2 ho iz2 (.tup ?_ (.cons (.int _) (.cons (.int _) .nil)))
      rw [upd_ne (Ne.symm hro),upd_same]
    ·have g':=of_decide_eq_false g
     have e1:tlI st vals i j=[]:=by unfold tlI;rw [if_neg (by omega)]
     rw [e1]
     walk_at "rd"
     exact ⟨⟨_,rfl⟩,s2,zs2,hz2,by simpa using iz2⟩
   ·rintro σ H2 ⟨⟨v4,rfl⟩,s2,zs2,hz2,iz2⟩
    exact ⟨⟨_,_,rfl⟩,s2,zs2,hz2,by rw [tlAll_succ];exact iz2⟩
  ·rintro σ H1 ⟨⟨v3,v4,rfl⟩,s1,zs,hz,iz⟩
   have ep1:=s1 _ _ ep
   walk_at "rd"
   rw [ln]
   intro tp htp
   have f1:=Same.upd (o:=.tup zs) htp
   walk_at "rd"
   refine ⟨by show 2≤sizeLine;decide,fun o ho=>?_⟩
   have f2:=Same.upd (o:=.tup [V.int (vals.length:Nat),V.ref tp]) ho
   have nto:tp≠o:=ne_of_none upd_same ho
   refine q _ _ ((s1.trans f1).trans f2) ?_
   exact .tup upd_same (.cons (.int _) (.cons (.tup (by rw [upd_ne nto,upd_same]) ((iz.same f1).same f2)) .nil))
set_option genSizeOf false in
set_option genInjectivity false in
inductive sp_order (K:PySem.W.Frag) (vs:List V) (H:Hp) (Q:VK) (zz3:XK):Prop where
 | mk (a:Addr) (ns:List Int) (tw:Addr) (ts:List V) (M:Int) (zh0:vs=[.ref a,.ref tw,.int M]) (zh1:1≤M) (zh2:M≤8) (zh3:Scr K H a ns) (zh4:H tw=some (.lst ts)) (zh5:ts.length≤100) (zh6:∀ x H' n ps ts',SameT tw H H'→H' tw=some (.lst ts')→ts'.length≤ts.length + 60→Ord n ps→(n:Int)≤M→Is H' x (ordD n ps)→Q x H'):sp_order K vs H Q zz3
theorem ok__law_order (T:Txt K mg t):FnOk P w K mg base CX0 5 t.a__law_order t.d__law_order ["_law_script","_law_town","_law_most"] (sp_order K):=by
 refine T.F__law_order.ok sc__law_order (fun vs H Q E h=>?_) (fun cdv A outer s H vs Q E hr h=>?_)
 ·obtain ⟨a,ns,tw,ts,M,rfl,_⟩:=h
  rfl
 ·obtain ⟨a,ns,tw,ts,M,rfl,M1,M8,hs,ht,hl,q⟩:=h
  refine ⟨_,(pss_cons (ps_set (i:=3) sc__law_order.nd rfl (Or.inl rfl) (pe_op op_add pe_int (pe_call (ok__law_draw T) (hr.mono (by decide)) rfl T.m__law_draw T.F__law_draw.kp T.b__law_draw .nil pass0 (pa_cons (pv 0) (pa_cons (pv 1) (pa_cons (pv 2) pa_nil))))))
   (pss_cons (ps_set_lc (i:=5) sc__law_order.nd rfl rfl rfl rfl ⟨True.intro,True.intro,True.intro,True.intro,(.inl rfl),(.inl rfl),True.intro⟩ (M:=["_law_k","_law_script","_law_town"]) (.own (.free 0 rfl rfl (.free 1 rfl rfl .nil))) (gk_name rfl) rfl (by decide +kernel) (pi_range1 rfl T.n_range (pa_cons (pv 3) pa_nil)) (fun C fp s1 H1=>⟨pg_name (i:=0) (show (["_law_k","_law_script","_law_town"]:List Str).Nodup by decide +kernel) rfl (Or.inl rfl),pif_nil,(pe_call (ok__law_draw T) (hr.mono (by decide)) rfl T.m__law_draw T.F__law_draw.kp T.b__law_draw .nil pass0 (pa_cons (pv 1) (pa_cons (pv 2) (pa_cons (pe_call (ok__law_pick T) (hr.mono (by decide)) rfl T.m__law_pick T.F__law_pick.kp T.b__law_pick .nil pass0 (pa_cons (pv 1) (pa_cons (pv 2) (pa_cons (pe_lst (pa_cons pe_int (pa_cons pe_int (pa_cons pe_int pa_nil)))) pa_nil)))) pa_nil))))⟩))
   (pss_cons (ps_set (i:=6) sc__law_order.nd rfl (Or.inl rfl) (pe_call (ok__law_by T) (hr.mono (by decide)) rfl T.m__law_by T.F__law_by.kp T.b__law_by .nil pass0 (pa_cons (pe_op op_add pe_int (pe_call (ok__law_draw T) (hr.mono (by decide)) rfl T.m__law_draw T.F__law_draw.kp T.b__law_draw .nil pass0 (pa_cons (pv 0) (pa_cons (pv 1) (pa_cons (pe_call (ok__law_pick T) (hr.mono (by decide)) rfl T.m__law_pick T.F__law_pick.kp T.b__law_pick .nil pass0 (pa_cons (pv 0) (pa_cons (pv 1) (pa_cons (pe_lst (pa_cons pe_int (pa_cons pe_int (pa_cons pe_int pa_nil)))) pa_nil)))) pa_nil))))) (pa_cons (pv 5) pa_nil))))
   (pss_cons (ps_if (PW.pt (pw_or (pt_cmpR (op_eqD hr.units) (pv 3) pe_int (nomark _)) (pw_or1 (pt_cmpR (op_eqD hr.units) (pe_call (ok__law_draw T) (hr.mono (by decide)) rfl T.m__law_draw T.F__law_draw.kp T.b__law_draw .nil pass0 (pa_cons (pv 0) (pa_cons (pv 1) (pa_cons pe_int pa_nil)))) pe_int (nomark _))))) (pss_one (ps_ret (pv 6))) pss_nil)
   (pss_cons (ps_set (i:=7) sc__law_order.nd rfl (Or.inl rfl) (pe_callTy (k_list K) (by rfl) T.n_list bt_list (pa_cons (pe_ix (k_ix K) (pv 6) pe_int (fun _ _=>rfl)) pa_nil)))
   (pss_cons (ps_for PassesOwn.never rfl (pi_range1 rfl T.n_range (pa_cons (pe_op op_add pe_int (pe_call (ok__law_draw T) (hr.mono (by decide)) rfl T.m__law_draw T.F__law_draw.kp T.b__law_draw .nil pass0 (pa_cons (pv 0) (pa_cons (pv 1) (pa_cons pe_int pa_nil))))) pa_nil)) (pg_name (i:=4) sc__law_order.nd rfl (Or.inl rfl)) (pss_cons (ps_set (i:=8) sc__law_order.nd rfl (Or.inr rfl) (pe_call (ok__law_draw T) (hr.mono (by decide)) rfl T.m__law_draw T.F__law_draw.kp T.b__law_draw .nil pass0 (pa_cons (pv 0) (pa_cons (pv 1) (pa_cons (pv 3) pa_nil)))))
   (pss_cons (ps_set (i:=9) sc__law_order.nd rfl (Or.inr rfl) (pe_op op_mod (pe_op op_add (pe_op op_add (pv 8) pe_int) (pe_call (ok__law_draw T) (hr.mono (by decide)) rfl T.m__law_draw T.F__law_draw.kp T.b__law_draw .nil pass0 (pa_cons (pv 0) (pa_cons (pv 1) (pa_cons (pe_op op_sub (pv 3) pe_int) pa_nil))))) (pv 3)))
   (pss_one (ps_set (i:=7) sc__law_order.nd rfl (Or.inl rfl) (pe_op op_cat (pe_lc rfl ⟨True.intro,True.intro,(.inl rfl),(.inl rfl),True.intro⟩ (M:=["_law_pair","_law_one","_law_other"]) (.own (.free 8 rfl rfl (.free 9 rfl rfl .nil))) (gk_name rfl) rfl (by decide +kernel) (k_plst K (pv 7)) (fun C fp s1 H1=>⟨pg_name (i:=0) (show (["_law_pair","_law_one","_law_other"]:List Str).Nodup by decide +kernel) rfl (Or.inl rfl),pif_one (pt_cmpR (op_neD hr.units) (pv 0) (pe_tup (pa_cons (pv 1) (pa_cons (pv 2) pa_nil))) (nomark _)),(pv 0)⟩)) (pe_op op_rep (pe_lst (pa_cons (pe_tup (pa_cons (pv 8) (pa_cons (pv 9) pa_nil))) pa_nil)) (pe_callTy c_int (by rfl) T.n_int bt_int (pa_cons (pe_cmpR (op_notInD hr.units) (pe_tup (pa_cons (pv 8) (pa_cons (pv 9) pa_nil))) (pv 7) (by rfl)) pa_nil)))))))))
   (pss_one (ps_ret (pe_tup (pa_cons (pv 3) (pa_cons (pe_callTy (k_tuple K) (by rfl) T.n_tuple bt_tuple (pa_cons (pe_callB (k_sorted K) (by rfl) T.n_sorted bt_sorted (pa_cons (pv 7) pa_nil)) pa_nil)) pa_nil))))))))))),?_⟩
  walk_at "rd"
  refine ⟨a,ns,tw,ts,M,rfl,hs,ht,by omega,by omega,fun r0 H1 ts1 s1 ht1 hl1 r00 r08=>?_⟩
  obtain ⟨n,hn⟩:∃ n:Nat,1 + r0=(n:Int):=⟨(1 + r0).toNat,by omega⟩
  have hs1:=hs.t ht s1
  walk_at "rd"
  rw [hn]
  refine ⟨_,rfl,by omega,by omega,?_⟩
  rw [Int.toNat_natCast]
  refine lp_range (small_ln (by omega)) (fun i ys H'=>SameT tw H1 H'∧(∃ ts',H' tw=some (.lst ts')∧ts'.length≤ts.length + 1 + 2 * i)∧∃ vals:List Int,ys=vals.map V.int∧vals.length=i) ⟨SameT.refl _ _,⟨ts1,ht1,by omega⟩,[],rfl,rfl⟩ (by
   rintro i ys H' ⟨_,_,vals,rfl,h⟩
   rw [List.length_map]
   omega) ?_ ?_
  ·rintro i ys H2 hi ⟨s2,⟨ts2,ht2,hl2⟩,vals,rfl,lv⟩
   have hs2:=hs1.t ht1 s2
   walk_at "rd"
   refine ⟨by show 3≤sizeLine;decide,fun q1 hq1=>?_⟩
   have f1:=Same.upd (o:=.lst [V.int 6,V.int 10,V.int 20]) hq1
   have n1:q1≠tw:=fun z=>by rw [z,ht2] at hq1;cases hq1
   walk_at "rd"
   refine ⟨a,ns,tw,ts2,q1,_,rfl,hs2.same f1,f1 _ _ ht2,by omega,upd_same,n1,by show 0 < 3;decide,fun v H3 ts3 s3 ht3 hl3 hv=>?_⟩
   obtain ⟨m,rfl,m0⟩:∃ m:Int,v=.int m∧0 < m:=by
    simp only [List.mem_cons,List.not_mem_nil,or_false] at hv
    rcases hv with rfl | rfl | rfl
    ·exact ⟨_,rfl,by decide⟩
    ·exact ⟨_,rfl,by decide⟩
    ·exact ⟨_,rfl,by decide⟩
   have s13:=(s2.trans f1.t).trans s3
   walk_at "rd"
   refine ⟨a,ns,tw,ts3,m,rfl,hs1.t ht1 s13,ht3,by omega,m0,fun r4 H4 ts4 s4 ht4 hl4 _ _=>?_⟩
   exact ⟨s13.trans s4,⟨ts4,ht4,by omega⟩,vals++[r4],by rw [List.map_append];rfl,by rw [List.length_append,lv];rfl⟩
  ·rintro ys H2 ⟨s2,⟨ts2,ht2,hl2⟩,vals,rfl,lv⟩ pl hpl
   have f0:=Same.upd (o:=.lst (vals.map V.int)) hpl
   have npl:pl≠tw:=fun z=>by rw [z,ht2] at hpl;cases hpl
   have s3:=(s1.trans s2).trans f0.t
   have hs3:=hs.t ht s3
   have ht3:=f0 _ _ ht2
   have el3:upd H2 pl (.lst (vals.map V.int)) pl=some (.lst (vals.map V.int)):=upd_same
   generalize upd H2 pl (.lst (vals.map V.int))=H3 at s3 hs3 ht3 el3
   clear s2 ht2 f0 hpl hs1 s1 ht1 hl1
   have n8:n≤8:=by omega
   have n1:1≤n:=by omega
   walk_at "rd"
   refine ⟨by show 3≤sizeLine;decide,fun q1 hq1=>?_⟩
   have f1:=Same.upd (o:=.lst [V.int 3,V.int 6,V.int 12]) hq1
   have nq1:q1≠tw:=fun z=>by rw [z,ht3] at hq1;cases hq1
   walk_at "rd"
   refine ⟨a,ns,tw,ts2,q1,_,rfl,hs3.same f1,f1 _ _ ht3,by omega,upd_same,nq1,by show 0 < 3;decide,fun v H4 ts4 s4 ht4 hl4 hv=>?_⟩
   obtain ⟨m,rfl,m0⟩:∃ m:Int,v=.int m∧0 < m:=by
    simp only [List.mem_cons,List.not_mem_nil,or_false] at hv
    rcases hv with rfl | rfl | rfl
    ·exact ⟨_,rfl,by decide⟩
    ·exact ⟨_,rfl,by decide⟩
    ·exact ⟨_,rfl,by decide⟩
   have s34:=f1.t.trans s4 (w:=tw)
   have hs4:=hs3.t ht3 s34
   have el4:=s34 _ _ el3 npl
   have sH4:=s3.trans s34
   walk_at "rd"
   refine ⟨a,ns,tw,ts4,m,rfl,hs4,ht4,by omega,m0,fun r5 H5 ts5 s5 ht5 hl5 r50 r51=>?_⟩
   have el5:=s5 _ _ el4 npl
   have hs5:=hs4.t ht4 s5
   have sH5:=sH4.trans s5
   walk_at "rd"
   refine ⟨pl,vals,1 + r5,rfl,el5,by omega,fun x H6 s6 hx=>?_⟩
   rw [lv] at hx
   have ho:Ord n (toldL (1 + r5) vals):=lv▸told_ord (by omega) (by omega) (by omega)
   have ht6:=s6 _ _ ht5
   have hs6:=hs5.same s6
   have sH6:=sH5.trans s6.t
   generalize toldL (1 + r5) vals=ps at hx ho
   clear hs3 hs4 hs5 ht3 ht4 ht5 el3 el4 el5 s34 s4 s5 s6 sH4 sH5 f1 s3
   walk_at "rd"
   refine ifB (fun g=>?_) (fun g=>?_)
   ·walk_at "rd"
    exact q x H6 n ps ts5 sH6 ht6 (by omega) ho (by omega) hx
   have nn1:n≠1:=fun z=>by rw [z] at g;exact absurd g (by decide)
   walk_at "rd"
   refine ⟨a,ns,tw,ts5,2,rfl,hs6,ht6,by omega,by decide,fun r7 H7 ts7 s7 ht7 hl7 _ _=>?_⟩
   have hx7:=ord_tt ht6 s7 hx
   have hs7:=hs6.t ht6 s7
   have sH7:=sH6.trans s7
   walk_at "rd"
   refine ifB (fun g=>?_) (fun g=>?_)
   ·walk_at "rd"
    exact q x H7 n ps ts7 sH7 ht7 (by omega) ho (by omega) hx7
   obtain ⟨oa,ob,xs,rfl,ea,eb,hxs⟩:=is_ord hx7
   have lxs:xs.length=ps.length:=by rw [hxs.length,List.length_map]
   clear hx hs6 ht6 sH6 s7
   walk_at "rd"
   refine rd_lstT eb fun l hl'=>?_
   have f8:=Same.upd (o:=.lst xs) hl'
   have nl:l≠tw:=fun z=>by rw [z,ht7] at hl';cases hl'
   have ht8:=f8 _ _ ht7
   have hs8:=hs7.same f8
   have ix8:=hxs.same f8
   have el8:upd H7 l (.lst xs) l=some (.lst xs):=upd_same
   have sH8:=sH7.trans f8.t
   generalize upd H7 l (.lst xs)=H8 at ht8 hs8 ix8 el8 sH8
   clear hs7 ht7 hxs ea eb f8 sH7
   walk_at "rd"
   refine ⟨a,ns,tw,ts7,3,rfl,hs8,ht8,by omega,by decide,fun r9 H9 ts9 s9 ht9 hl9 r90 r91=>?_⟩
   have hs9:=hs8.t ht8 s9
   have el9:=s9 _ _ el8 nl
   have ix9:=prs_t ht8 s9 ix8
   have sH9:=sH8.trans s9
   walk_at "rd"
   refine ⟨_,rfl,by omega,by omega,?_⟩
   refine fp_range (fun i σ H'=>∃ (l:Addr) (zs:List V) (prs:List (Int×Int)) (v4 v8 v9:Option V),σ=[some (.ref a),some (.ref tw),some (.int M),some (.int n),v4,some (.ref pl),some (.ref oa),some (.ref l),v8,v9]∧SameT tw H H'∧Scr K H' a ns∧(∃ ts',H' tw=some (.lst ts')∧ts'.length≤ts.length + 40 + 2 * i)∧l≠tw∧H' l=some (.lst zs)∧IsAll H' zs (prs.map prD)∧prs.Nodup∧∀ p∈prs,inN n p)
    ⟨l,xs,ps,_,_,_,rfl,sH9,hs9,⟨ts9,ht9,by omega⟩,nl,el9,ix9,nd_of (pw_of ho.up),ho.ix⟩ ?_ ?_
   ·rintro i σ G0 hi ⟨l,zs,prs,v4,v8,v9,rfl,sG,hsG,⟨tg,htg,hlg⟩,nl,el,iz,nd,hin⟩
    walk_at "rd"
    refine ⟨a,ns,tw,tg,n,rfl,hsG,htg,by omega,by omega,fun ra G1 tg1 sg1 htg1 hlg1 ra0 ra1=>?_⟩
    have hsG1:=hsG.t htg sg1
    walk_at "rd"
    refine ⟨a,ns,tw,tg1,_,rfl,hsG1,htg1,by omega,by omega,fun rb G2 tg2 sg2 htg2 hlg2 rb0 rb1=>?_⟩
    obtain ⟨o1,o2,o3⟩:=rot_ne ra0 ra1 rb0 rb1
    have hsG2:=hsG1.t htg1 sg2
    have el2:=sg2 _ _ (sg1 _ _ el nl) nl
    have iz2:=prs_t htg1 sg2 (prs_t htg sg1 iz)
    have sG2:=(sG.trans sg1).trans sg2
    walk_at "rd"
    refine ⟨_,_,rfl,rfl,by omega,?_⟩
    dsimp only
    generalize (ra + 1 + rb) % (n:Int)=rc at o1 o2 o3 ⊢
    have lz:zs.length=prs.length:=by rw [iz.length,List.length_map]
    have lp64:=small_prs nd fun p hp=>(hin p hp).box n8
    walk_at "rd"
    refine ⟨l,rfl,⟨_,SqL.of el2⟩,?_⟩
    refine lp_list (K:=K) (xs:=zs) (small_ln (by omega)) (fun j ys H'=>Same G2 H'∧IsAll H' ys ((outP (ra,rc) (prs.take j)).map prD)) ⟨Same.refl _,.nil⟩ (by
     rintro j ys H' ⟨_,h⟩
     rw [h.length,List.length_map]
     have:=outP_len (ra,rc) (prs.take j)
     rw [List.length_take] at this
     omega) (fun j ys H' _ h=>SqL.of (h.1 _ _ el2)) ?_ ?_
    ·rintro j x ys G3 hx ⟨s3,iy⟩
     obtain ⟨p0,hp0,ip0⟩:=pr_get (iz2.same s3) hx
     rw [List.take_add_one,hp0,show (some p0).toList=[p0] from rfl,outP_snoc,List.map_append]
     walk_at "rd"
     refine ⟨by show 2≤sizeLine;decide,fun p hp=>?_⟩
     have s8:=Same.upd (o:=.tup [V.int ra,V.int rc]) hp
     refine rd_eqD (d:=prD p0) (e:=prD (ra,rc)) (ip0.same s8) (.tup upd_same (.cons (.int _) (.cons (.int _) .nil))) (ok_pr _) (ok_pr _) ?_
     rw [eqv_pr]
     walk_at "rd"
     refine ifB (fun g=>?_) (fun g=>?_)
     ·walk_at "rd"
      have g':(!decide (p0=(ra,rc)))=true:=g
      rw [if_pos g']
      exact ⟨s3.trans s8,(iy.same s8).append (.cons (ip0.same s8) .nil)⟩
     ·have g':(!decide (p0=(ra,rc)))=false:=g
      rw [if_neg (by rw [g'];exact Bool.false_ne_true),List.map_nil,List.append_nil]
      exact ⟨s3.trans s8,iy.same s8⟩
    ·rintro ys G3 ⟨s3,iy⟩ p4 hp4
     rw [lz,List.take_length] at iy
     have f4:=Same.upd (o:=.lst ys) hp4
     have s34:=s3.trans f4
     have iy4:=iy.same f4
     have e4:upd G3 p4 (.lst ys) p4=some (.lst ys):=upd_same
     generalize upd G3 p4 (.lst ys)=G4 at s34 iy4 e4
     have ly:ys.length≤64:=by
      rw [iy.length,List.length_map]
      have:=outP_len (ra,rc) prs
      omega
     clear s3 iy f4
     walk_at "rd"
     refine ⟨by show 2≤sizeLine;decide,fun p5 hp5=>?_⟩
     have f5:=Same.upd (o:=.tup [V.int ra,V.int rc]) hp5
     have e5:upd G4 p5 (.tup [V.int ra,V.int rc]) p5=some (.tup [V.int ra,V.int rc]):=upd_same
     have e45:=f5 _ _ e4
     have iy5:=iy4.same f5
     have s35:=s34.trans f5
     generalize upd G4 p5 (.tup [V.int ra,V.int rc])=G5 at e5 e45 iy5 s35
     walk_at "rd"
     refine ⟨by show 1≤sizeLine;decide,fun p6 hp6=>?_⟩
     have f6:=Same.upd (o:=.lst [V.ref p5]) hp6
     have e6:upd G5 p6 (.lst [V.ref p5]) p6=some (.lst [V.ref p5]):=upd_same
     have e46:=f6 _ _ e45
     have e56:=f6 _ _ e5
     have iy6:=iy5.same f6
     have s36:=s35.trans f6
     generalize upd G5 p6 (.lst [V.ref p5])=G6 at e6 e46 e56 iy6 s36
     walk_at "rd"
     refine ⟨by show 2≤sizeLine;decide,fun p7 hp7=>?_⟩
     have f7:=Same.upd (o:=.tup [V.int ra,V.int rc]) hp7
     have e7:upd G6 p7 (.tup [V.int ra,V.int rc]) p7=some (.tup [V.int ra,V.int rc]):=upd_same
     have e47:=f7 _ _ e46
     have e57:=f7 _ _ e56
     have e67:=f7 _ _ e6
     have iy7:=iy6.same f7
     have s37:=s36.trans f7
     generalize upd G6 p7 (.tup [V.int ra,V.int rc])=G7 at e7 e47 e57 e67 iy7 s37
     clear e4 e5 e45 iy4 iy5 s34 s35 f5 f6 f7 e6 e46 e56 iy6 s36
     walk_at "rd"
     refine rd_ninL e7 (s37 _ _ el2) (iz2.same s37) ?_
     have htg7:=s37 _ _ htg2
     have nd1:=outP_nd (q:=(ra,rc)) nd
     have in1:∀ p∈outP (ra,rc) prs,inN n p:=fun p hp=>hin p (mem_outP.mp hp).1
     cases gh:has prs ra rc with
     | true=>
      walk_at "rd"
      refine rd_rep (n:=0) e67 (by decide) fun p8 hp8=>?_
      have f8:=Same.upd (o:=.lst (List.replicate 0 (V.ref p5))) hp8
      refine rd_cat (f8 _ _ e47) upd_same (small_ln (by rw [List.length_replicate];omega)) fun p9 hp9=>?_
      have f9:=f8.trans (Same.upd (o:=.lst (ys++List.replicate 0 (V.ref p5))) hp9)
      have np9:p9≠tw:=fun z=>by rw [z,f8 _ _ htg7] at hp9;cases hp9
      walk_at "rd"
      refine ⟨p9,_,outP (ra,rc) prs,_,_,_,rfl,(sG2.trans s37.t).trans f9.t,(hsG2.same s37).same f9,⟨tg2,f9 _ _ htg7,by omega⟩,np9,upd_same,?_,nd1,in1⟩
      rw [List.replicate_zero,List.append_nil]
      have:=iy7.same f9
      rw [List.replicate_zero,List.append_nil] at this
      exact this
     | false=>
      walk_at "rd"
      refine rd_rep (n:=1) e67 (by decide) fun p8 hp8=>?_
      have f8:=Same.upd (o:=.lst (List.replicate 1 (V.ref p5))) hp8
      refine rd_cat (f8 _ _ e47) upd_same (small_ln (by rw [List.length_replicate];omega)) fun p9 hp9=>?_
      have f9:=f8.trans (Same.upd (o:=.lst (ys++List.replicate 1 (V.ref p5))) hp9)
      have np9:p9≠tw:=fun z=>by rw [z,f8 _ _ htg7] at hp9;cases hp9
      walk_at "rd"
      refine ⟨p9,_,outP (ra,rc) prs++[(ra,rc)],_,_,_,rfl,(sG2.trans s37.t).trans f9.t,(hsG2.same s37).same f9,⟨tg2,f9 _ _ htg7,by omega⟩,np9,upd_same,?_,nd_snoc nd1 fun z=>(mem_outP.mp z).2 rfl,fun p hp=>?_⟩
      ·rw [List.map_append]
       exact (iy7.same f9).append (.cons (.tup (f9 _ _ e57) (.cons (.int _) (.cons (.int _) .nil))) .nil)
      ·rcases List.mem_append.mp hp with h | h
       ·exact in1 p h
       ·rcases List.mem_singleton.mp h with rfl
        exact ⟨ra0,ra1,o1,o2,o3⟩
   ·rintro σ G0 ⟨l,zs,prs,v4,v8,v9,rfl,sG,hsG,⟨tg,htg,hlg⟩,nl,el,iz,nd,hin⟩
    walk_at "rd"
    refine rd_sortP (.inl el) iz nd (fun p hp=>(hin p hp).box n8) fun l2 vs' qs hl2' ha hperm hpw=>?_
    have s4:=Same.upd (o:=.lst vs') hl2'
    have ev:upd G0 l2 (.lst vs') l2=some (.lst vs'):=upd_same
    walk_at "rd"
    intro tp htp
    have s5:=Same.upd (o:=.tup vs') htp
    walk_at "rd"
    refine ⟨by show 2≤sizeLine;decide,fun o ho'=>?_⟩
    have nto:tp≠o:=ne_of_none upd_same ho'
    have s6:=Same.upd (o:=.tup [V.int n,V.ref tp]) ho'
    have sA:=(s4.trans s5).trans s6
    refine q _ _ n qs tg (sG.trans sA.t) (sA _ _ htg) (by omega) (ord_of n1 n8 (fun p hp=>hin p (hperm.mem_iff.mp hp)) hpw) (by omega) ?_
    exact .tup upd_same (.cons (.int _) (.cons (.tup (by rw [upd_ne nto,upd_same]) (((ha.same s4).same s5).same s6)) .nil))
end
end My
namespace My
open PySem L2
section
variable {P:Program} {w:World} {K:PySem.W.Frag} {mg:Str→Option Value} {base:Heap} {t:Ad}
set_option genSizeOf false in
set_option genInjectivity false in
inductive sp_told (vs:List V) (H:Hp) (Q:VK) (zz3:XK):Prop where
 | mk (st:Int) (a:Addr) (vals:List Int) (zh0:vs=[.int st,.ref a]) (zh1:1≤st) (zh2:st≤999) (zh3:H a=some (.tup (vals.map V.int))) (zh4:1≤vals.length) (zh5:vals.length≤8) (zh6:(∀ v∈vals,0≤v∧v≤9999)) (zh7:∀ x H',Same H H'→Is H' x (ordD vals.length (toldL st vals))→Q x H'):sp_told vs H Q zz3
theorem nums_ok2 {vals:List Int} (h1:1≤vals.length) (h8:vals.length≤8) (hv:∀ v∈vals,0≤v∧v≤9999):numsB (.tuple (vals.map .int)) 1 8=true:=by
 show (decide ((1:Int)≤((vals.map PyData.int).length:Int))&&decide (((vals.map PyData.int).length:Int)≤8)&&(vals.map PyData.int).all (fun d=>wholeB d 0 9999))=true
 rw [List.length_map,decide_eq_true (by omega),decide_eq_true (by omega),List.all_map]
 refine List.all_eq_true.mpr fun v h=>?_
 obtain ⟨a,b⟩:=hv v h
 show (decide (0≤v)&&decide (v≤9999))=true
 rw [decide_eq_true a,decide_eq_true b]
 rfl
theorem ok_told (T:Txt K mg t):FnOk P w K mg base CX0 4 t.a_told t.d_told ["step","numbers"] sp_told:=by
 refine T.F_told.ok sc_told (fun vs H Q E h=>?_) (fun cdv A outer s H vs Q E hr h=>?_)
 ·obtain ⟨st,a,vals,rfl,_⟩:=h
  rfl
 ·obtain ⟨st,a,vals,rfl,st1,st9,ea,l1,l8,hv,q⟩:=h
  refine ⟨_,(pss_cons (ps_expr (pe_call (ok_need_step T) (hr.mono (by decide)) rfl T.m_need_step T.F_need_step.kp T.b_need_step .nil pass0 (pa_cons (pv 0) pa_nil)))
   (pss_cons (ps_expr (pe_call (ok_need_numbers T) (hr.mono (by decide)) rfl T.m_need_numbers T.F_need_numbers.kp T.b_need_numbers .nil pass0 (pa_cons (pv 1) (pa_cons pe_int (pa_cons (pe_gint rfl T.c_MOST_THINGS) pa_nil)))))
   (pss_one (ps_ret (pe_tup (pa_cons (pe_callB (k_len K) (by rfl) T.n_len bt_len (pa_cons (pv 1) pa_nil)) (pa_cons (pe_call (ok_told_pairs T) (hr.mono (by decide)) rfl T.m_told_pairs T.F_told_pairs.kp T.b_told_pairs .nil pass0 (pa_cons (pv 0) (pa_cons (pv 1) pa_nil))) pa_nil))))))),?_⟩
  walk_at "rd"
  refine ⟨_,_,rfl,.int st,step_ok st1 st9,?_⟩
  walk_at "rd"
  refine ⟨_,_,_,_,rfl,.tup ea (IsAll.ints vals),?_,nums_ok2 l1 l8 hv,fun H2 s2=>?_⟩
  ·rintro ds ⟨⟩
   rw [List.length_map]
   omega
  have ea2:=s2 _ _ ea
  walk_at "rd"
  refine ⟨a,st,vals,rfl,ea2,l8,fun p H3 s3 ip=>?_⟩
  walk_at "rd"
  refine ⟨by show 2≤sizeLine;decide,fun r hr'=>?_⟩
  have u:=Same.upd (o:=.tup [V.int ((vals.map V.int).length:Int),V.ref p]) hr'
  refine q _ _ ((s2.trans s3).trans u) (.tup upd_same (.cons ?_ (.cons (ip.same u) .nil)))
  rw [List.length_map]
  exact .int _
end
end My
namespace My
open PySem L2
noncomputable def dn (k a:Int):Int:=if a > k then a - 1 else a
noncomputable def up (k i:Int):Int:=if i < k then i else i + 1
theorem dn_up (k i:Int):dn k (up k i)=i:=by
 unfold up
 by_cases h:i < k
 ·rw [if_pos h];unfold dn;rw [if_neg (by omega)]
 ·rw [if_neg h];unfold dn;rw [if_pos (by omega)];omega
theorem up_dn {k a:Int} (h:a≠k):up k (dn k a)=a:=by
 unfold dn
 by_cases g:a > k
 ·rw [if_pos g];unfold up;rw [if_neg (by omega)];omega
 ·rw [if_neg g];unfold up;rw [if_pos (by omega)]
theorem up_ne (k i:Int):up k i≠k:=by
 unfold up
 by_cases h:i < k
 ·rw [if_pos h];omega
 ·rw [if_neg h];omega
theorem up_lt {k i n:Int} (k0:0≤k) (hk:k < n) (h0:0≤i) (h1:i < n - 1):0≤up k i∧up k i < n:=by
 unfold up
 by_cases h:i < k
 ·rw [if_pos h];omega
 ·rw [if_neg h];omega
theorem dn_lt {k a n:Int} (k0:0≤k) (hk:k < n) (h0:0≤a) (h1:a < n) (h:a≠k):0≤dn k a∧dn k a < n - 1:=by
 unfold dn
 by_cases g:a > k
 ·rw [if_pos g];omega
 ·rw [if_neg g];omega
noncomputable def offK (k:Int) (p:Int×Int):Bool:= !(decide (p.1=k)||decide (p.2=k))
theorem offK_iff {k:Int} {p:Int×Int}:offK k p=true↔p.1≠k∧p.2≠k:=by
 unfold offK
 simp
noncomputable def dnP (k:Int) (p:Int×Int):Int×Int:=(dn k p.1,dn k p.2)
noncomputable def withoutL (k:Int) (ps:List (Int×Int)):List (Int×Int):=(ps.filter (offK k)).map (dnP k)
theorem has_without (k:Int) (ps:List (Int×Int)) (i j:Int):has (withoutL k ps) i j=has ps (up k i) (up k j):=by
 unfold has
 congr 1
 apply propext
 unfold withoutL
 rw [List.mem_map]
 constructor
 ·rintro ⟨p,hp,e⟩
  obtain ⟨hp,ho⟩:=List.mem_filter.mp hp
  obtain ⟨o1,o2⟩:=offK_iff.mp ho
  unfold dnP at e
  injection e with e1 e2
  rw [←e1,←e2,up_dn o1,up_dn o2]
  exact hp
 ·intro h
  refine ⟨_,List.mem_filter.mpr ⟨h,offK_iff.mpr ⟨up_ne k i,up_ne k j⟩⟩,?_⟩
  unfold dnP
  exact Prod.ext (dn_up k i) (dn_up k j)
theorem dn_mono {k a b:Int} (ha:a≠k) (hb:b≠k) (h:a < b):dn k a < dn k b:=by
 unfold dn
 by_cases g:a > k
 ·rw [if_pos g,if_pos (by omega)];omega
 ·rw [if_neg g]
  by_cases g2:b > k
  ·rw [if_pos g2];omega
  ·rw [if_neg g2];exact h
theorem without_ord {n:Nat} {ps:List (Int×Int)} (ho:Ord n ps) {k:Int} (k0:0≤k) (k1:k < n) (n2:2≤n):Ord (n - 1) (withoutL k ps):=by
 have e1:((n - 1:Nat):Int)=(n:Int) - 1:=by omega
 refine ord_of (by omega) (by have:=ho.hi;omega) (fun p hp=>?_) ?_
 ·obtain ⟨q,hq,rfl⟩:=List.mem_map.mp hp
  obtain ⟨hq,hof⟩:=List.mem_filter.mp hq
  obtain ⟨o1,o2⟩:=offK_iff.mp hof
  obtain ⟨a1,a2,a3,a4,a5⟩:=ho.ix q hq
  obtain ⟨b1,b2⟩:=dn_lt k0 k1 a1 a2 o1
  obtain ⟨c1,c2⟩:=dn_lt k0 k1 a3 a4 o2
  refine ⟨b1,by rw [e1];exact b2,c1,by rw [e1];exact c2,fun z=>a5 ?_⟩
  have z':dn k q.1=dn k q.2:=z
  rw [←up_dn o1,←up_dn o2,z']
 ·unfold withoutL
  rw [List.pairwise_map]
  refine List.Pairwise.imp_of_mem (fun {a b} ha hb hab=>?_) (List.Pairwise.filter _ (pw_of ho.up))
  obtain ⟨o1,o2⟩:=offK_iff.mp (List.mem_filter.mp ha).2
  obtain ⟨o3,o4⟩:=offK_iff.mp (List.mem_filter.mp hb).2
  have h':HT.lexLt [a.1,a.2] [b.1,b.2]=true:=hab
  rw [HT.lexLt_cons] at h'
  by_cases e:a.1=b.1
  ·rw [if_pos e,HT.lexLt_cons] at h'
   by_cases e2:a.2=b.2
   ·rw [if_pos e2] at h';cases h'
   ·rw [if_neg e2] at h'
    exact ltP_of (.inr ⟨by show dn k a.1=dn k b.1;rw [e],dn_mono o2 o4 (of_decide_eq_true h')⟩)
  ·rw [if_neg e] at h'
   exact ltP_of (.inl (dn_mono o1 o3 (of_decide_eq_true h')))
theorem inD2 (k a b:Int):inD (.int k) [.int a,.int b]=(decide (a=k)||decide (b=k)):=by
 unfold inD
 rw [List.any_cons,List.any_cons,List.any_nil,PyData.eqv,PyData.eqv,Bool.or_false]
 by_cases h:a=k <;> by_cases h2:b=k <;> simp [h,h2]
end My
namespace My
open PySem L2
noncomputable def Tel (n:Nat) (ps:List (Int×Int)) (st:Int) (x:Nat→Int):Prop:=∀ i j:Nat,i < n→j < n→(x j - x i≥st↔has ps i j=true)
theorem tel_sol {n:Nat} {ps:List (Int×Int)} {st:Int} {x:Nat→Int} (h:Tel n ps st x):SolD (dmAll n ps st n) x:=fun d hd=>by
 obtain ⟨h1,h2,_,h4⟩:=mem_dm.mp hd
 unfold dem at h4
 cases e:has ps d.1 d.2.1 with
 | true=>
  rw [e,if_pos rfl] at h4
  injection h4 with h4
  have:=(h d.1 d.2.1 h1 h2).mpr e
  omega
 | false=>
  rw [e,if_neg Bool.false_ne_true] at h4
  cases e2:has ps d.2.1 d.1 with
  | true=>rw [e2,if_pos rfl] at h4;cases h4
  | false=>
   rw [e2,if_neg Bool.false_ne_true] at h4
   injection h4 with h4
   have:¬(x d.1 - x d.2.1≥st):=fun z=>by rw [(h d.2.1 d.1 h2 h1).mp z] at e2;cases e2
   omega
theorem tel_nums {n:Nat} {ps:List (Int×Int)} (ho:Ord n ps) {st:Int} {x:Nat→Int} (h:Tel n ps st x) (nn:Nt.NN n x):∃ vals,nums n ps st=some vals:=lv_none ho.lo (dmAll_ok _ _ _) (tel_sol h) nn
theorem tel_told {n:Nat} {ps:List (Int×Int)} (ho:Ord n ps) {st:Int} {vals:List Int} (hl:vals.length=n) (h:Tel n ps st (gt vals)):toldL st vals=ps:=by
 refine pw_ext (all_up _ _ _) (pw_of ho.up) fun p=>?_
 constructor
 ·intro hp
  obtain ⟨i,j,hi,hj,rfl,g⟩:=mem_tlAll.mp hp
  exact of_decide_eq_true ((h i j (by omega) (by omega)).mp g)
 ·intro hp
  obtain ⟨x1,x2,x3,x4,_⟩:=ho.ix p hp
  obtain ⟨i,hi⟩:∃ i:Nat,p.1=i:=⟨p.1.toNat,by omega⟩
  obtain ⟨j,hj⟩:∃ j:Nat,p.2=j:=⟨p.2.toNat,by omega⟩
  have ep:p=((i:Int),(j:Int)):=Prod.ext hi hj
  refine mem_tlAll.mpr ⟨i,j,by omega,by omega,ep,(h i j (by omega) (by omega)).mpr ?_⟩
  rw [ep] at hp
  exact decide_eq_true hp
theorem nums_tel {n:Nat} {ps:List (Int×Int)} (ho:Ord n ps) {st:Int} (hs:1≤st) {vals:List Int} (h:nums n ps st=some vals):vals.length=n∧Tel n ps st (gt vals)∧Nt.NN n (gt vals)∧∀ x,Tel n ps st x→Nt.NN n x→∀ v,v < n→gt vals v≤x v:=by
 obtain ⟨a,b,c,d⟩:=lv_some ho.lo (dmAll_ok _ _ _) h
 obtain ⟨_,et,_⟩:=told_of ho hs h
 refine ⟨a,fun i j hi hj=>?_,b,fun x hx nx=>d x (tel_sol hx) nx⟩
 rw [has_iff,←et]
 constructor
 ·intro g
  exact mem_tlAll.mpr ⟨i,j,by omega,by omega,rfl,g⟩
 ·intro g
  obtain ⟨i',j',_,_,e,g'⟩:=mem_tlAll.mp g
  injection e with e1 e2
  have e1':i=i':=Int.ofNat.inj e1
  have e2':j=j':=Int.ofNat.inj e2
  rw [e1',e2']
  exact g'
theorem Tel.congr {n:Nat} {ps:List (Int×Int)} {st:Int} {x y:Nat→Int} (h:Tel n ps st x) (e:∀ i,i < n→y i=x i):Tel n ps st y:=fun i j hi hj=>by
 rw [e i hi,e j hj]
 exact h i j hi hj
noncomputable def Emb (n:Nat) (ps:List (Int×Int)) (m:Nat) (qs:List (Int×Int)) (f:Nat→Nat):Prop:=(∀ i,i < m→f i < n)∧∀ i j:Nat,i < m→j < m→has qs i j=has ps (f i:Nat) (f j:Nat)
theorem Emb.tel {n m:Nat} {ps qs:List (Int×Int)} {f:Nat→Nat} (e:Emb n ps m qs f) {st:Int} {x:Nat→Int} (h:Tel n ps st x):Tel m qs st fun i=>x (f i):=fun i j hi hj=>by
 rw [e.2 i j hi hj]
 exact h (f i) (f j) (e.1 i hi) (e.1 j hj)
theorem Emb.sec {n m:Nat} {ps qs:List (Int×Int)} {f g:Nat→Nat} (e:Emb n ps m qs f) (hg:∀ i,i < n→g i < m) (fg:∀ i,i < n→f (g i)=i):Emb m qs n ps g:=⟨hg,fun i j hi hj=>by
 rw [e.2 (g i) (g j) (hg i hi) (hg j hj),fg i hi,fg j hj]⟩
theorem Emb.nums {n m:Nat} {ps qs:List (Int×Int)} {f:Nat→Nat} (e:Emb n ps m qs f) (ho:Ord n ps) (hq:Ord m qs) {st:Int} (hs:1≤st) {vals:List Int} (h:My.nums n ps st=some vals):∃ ws,My.nums m qs st=some ws:=by
 obtain ⟨_,t,nn,_⟩:=nums_tel ho hs h
 exact tel_nums hq (e.tel t) fun i hi=>nn _ (e.1 i hi)
theorem free_of {n:Nat} {ps:List (Int×Int)} (ho:Ord n ps) {st:Int} (hs:1≤st) {vals:List Int} (h:nums n ps st=some vals):barB n ps=false:=by
 cases e:barB n ps with
 | false=>rfl
 | true=>rw [nums_barred ho e hs] at h;cases h
theorem Emb.free {n m:Nat} {ps qs:List (Int×Int)} {f:Nat→Nat} (e:Emb n ps m qs f) (ho:Ord n ps) (hq:Ord m qs) (hb:barB n ps=false):barB m qs=false:=by
 obtain ⟨vals,h⟩:=rep_at ho hb (st:=4) (by omega)
 obtain ⟨ws,h'⟩:=e.nums ho hq (by omega) h
 exact free_of hq (by omega) h'
noncomputable def Trn (n:Nat) (ps qs:List (Int×Int)):Prop:=∀ i j:Nat,i < n→j < n→has qs i j=has ps j i
theorem Trn.back {n:Nat} {ps qs:List (Int×Int)} (h:Trn n ps qs):Trn n qs ps:=fun i j hi hj=>(h j i hj hi).symm
theorem Trn.tel {n:Nat} {ps qs:List (Int×Int)} (e:Trn n ps qs) {st:Int} {x:Nat→Int} (h:Tel n ps st x) (C:Int):Tel n qs st fun i=>C - x i:=fun i j hi hj=>by
 rw [e i j hi hj,←h j i hj hi]
 dsimp only
 constructor
 ·intro g;omega
 ·intro g;omega
theorem top_of (x:Nat→Int):∀ n,∃ C:Int,∀ i,i < n→x i≤C
 | 0=>⟨0,fun i hi=>by omega⟩
 | n + 1=>by
  obtain ⟨C,h⟩:=top_of x n
  by_cases g:x n≤C
  ·exact ⟨C,fun i hi=>by
    by_cases e:i=n
    ·rw [e];exact g
    ·exact h i (by omega)⟩
  ·exact ⟨x n,fun i hi=>by
    by_cases e:i=n
    ·rw [e];exact Int.le_refl _
    ·have:=h i (by omega);omega⟩
theorem Trn.nums {n:Nat} {ps qs:List (Int×Int)} (e:Trn n ps qs) (ho:Ord n ps) (hq:Ord n qs) {st:Int} (hs:1≤st) {vals:List Int} (h:My.nums n ps st=some vals):∃ ws,My.nums n qs st=some ws:=by
 obtain ⟨_,t,nn,_⟩:=nums_tel ho hs h
 obtain ⟨C,hC⟩:=top_of (gt vals) n
 exact tel_nums hq (e.tel t C) fun i hi=>by have:=hC i hi;omega
theorem Trn.free {n:Nat} {ps qs:List (Int×Int)} (e:Trn n ps qs) (ho:Ord n ps) (hq:Ord n qs) (hb:barB n ps=false):barB n qs=false:=by
 obtain ⟨vals,h⟩:=rep_at ho hb (st:=4) (by omega)
 obtain ⟨ws,h'⟩:=e.nums ho hq (by omega) h
 exact free_of hq (by omega) h'
structure LS (n:Nat) (ps:List (Int×Int)) (st:Int) (vals:List Int):Prop where
 lo:1≤st
 hi:st≤4
 is:nums n ps st=some vals
 no:∀ s',1≤s'→s' < st→nums n ps s'=none
theorem ls_of {n:Nat} {ps:List (Int×Int)} (ho:Ord n ps) (hb:barB n ps=false):∃ st vals,LS n ps st vals:=by
 obtain ⟨st,vals,a,b,c,d,_⟩:=thresholds ho hb
 exact ⟨st,vals,a,b,c,d⟩
theorem LS.le {n m:Nat} {ps qs:List (Int×Int)} {s1 s2:Int} {v1 v2:List Int} (h1:LS n ps s1 v1) (h2:LS m qs s2 v2) (h:∃ ws,nums m qs s1=some ws):s2≤s1:=by
 by_cases g:s2≤s1
 ·exact g
 ·obtain ⟨ws,e⟩:=h
  rw [h2.no s1 h1.lo (by omega)] at e
  cases e
noncomputable def lkF (n k:Nat) (i:Nat):Nat:=if i < n then i else k
theorem wide_vals {n k:Nat} {ps qs:List (Int×Int)} (hk:k < n) (e:Emb n ps (n + 1) qs (lkF n k)) (ho:Ord n ps) (hq:Ord (n + 1) qs) {st:Int} (hs:1≤st) {vals ws:List Int} (h:nums n ps st=some vals) (h':nums (n + 1) qs st=some ws):ws=vals++[gt vals k]:=by
 obtain ⟨l1,t1,n1,m1⟩:=nums_tel ho hs h
 obtain ⟨l2,t2,n2,m2⟩:=nums_tel hq hs h'
 have hf:∀ i,i < n→lkF n k i=i:=fun i hi=>if_pos hi
 have hn:lkF n k n=k:=if_neg (Nat.lt_irrefl _)
 have e2:Emb (n + 1) qs n ps (fun i=>i):=e.sec (fun i hi=>by omega) hf
 have e3:Emb (n + 1) qs n ps (fun i=>if i=k then n else i):=e.sec (fun i hi=>by split <;> omega) fun i hi=>by
  split
  ·rename_i z;rw [hn,z]
  ·exact hf i hi
 have up:=m2 _ (e.tel t1) fun i hi=>n1 _ (e.1 i hi)
 have d1:=m1 _ (e2.tel t2) fun i hi=>n2 i (by omega)
 have d2:=m1 _ (e3.tel t2) (fun i hi=>n2 _ (e3.1 i hi)) k hk
 rw [if_pos rfl] at d2
 refine List.ext_getElem? fun i=>?_
 have gx:∀ {l:List Int} {i:Nat},i < l.length→l[i]? =some (gt l i):=fun {l i} hi=>by
  unfold gt
  rw [List.getD_eq_getElem?_getD,List.getElem?_eq_getElem hi]
  rfl
 by_cases g:i < n
 ·rw [gx (by omega),List.getElem?_append_left (by omega),gx (by omega)]
  have a:=up i (by omega)
  have b:=d1 i g
  rw [hf i g] at a
  congr 1
  omega
 ·by_cases z:i=n
  ·subst z
   rw [gx (by omega),List.getElem?_append_right (by omega),l1,Nat.sub_self]
   have a:=up i (by omega)
   rw [hn] at a
   show some _=some _
   congr 1
   omega
  ·rw [List.getElem?_eq_none (by omega),List.getElem?_eq_none (by rw [List.length_append,l1];simp;omega)]
theorem Tel.times {n:Nat} {ps:List (Int×Int)} {st:Int} {x:Nat→Int} (h:Tel n ps st x) {k:Int} (hk:1≤k):Tel n ps (k * st) fun i=>k * x i:=fun i j hi hj=>by
 rw [←h i j hi hj]
 dsimp only
 rw [←Int.mul_sub]
 exact ⟨fun g=>Int.le_of_mul_le_mul_left g (by omega),fun g=>Int.mul_le_mul_of_nonneg_left g (by omega)⟩
theorem small_top {n:Nat} {ps:List (Int×Int)} (n7:n≤7) {st:Int} (hs:1≤st) (h4:st≤4) {vals:List Int} (h:nums n ps st=some vals):∀ v∈vals,v≤1372:=by
 have hk:∀ d∈dmAll n ps st n,d.2.2≤st:=fun d hd=>by
  obtain ⟨_,_,_,x⟩:=mem_dm.mp hd
  unfold dem at x
  split at x
  ·injection x with x;omega
  ·split at x
   ·cases x
   ·injection x with x;omega
 unfold nums lv at h
 split at h
 ·injection h with h
  subst h
  intro v hv
  have:=rounds_top (by omega:0≤st) hk n (List.replicate n 0) (List.replicate n .non) .non 0 (Int.le_refl _) (fun v hv=>by rw [(List.mem_replicate.mp hv).2];exact Int.le_refl _) v hv
  have l:=dmAll_len n ps st n
  have l2:n * n≤7 * 7:=Nat.mul_le_mul n7 n7
  have l3:((dmAll n ps st n).length:Int) * st≤49 * 4:=Int.mul_le_mul (by omega) h4 (by omega) (by omega)
  have l4:(n:Int) * ((dmAll n ps st n).length * st)≤7 * (49 * 4):=Int.mul_le_mul (by omega) l3 (Int.mul_nonneg (by omega) (by omega)) (by omega)
  omega
 ·cases h
noncomputable def lkL (n k:Int) (ps:List (Int×Int)):List (Int×Int):=(ps.filter fun p=>decide (p.1=k)).map fun p=>(n,p.2)
noncomputable def lkR (n k:Int) (ps:List (Int×Int)):List (Int×Int):=(ps.filter fun p=>decide (p.2=k)).map fun p=>(p.1,n)
theorem mem_lkL {n k:Int} {ps:List (Int×Int)} {p:Int×Int}:p∈lkL n k ps↔p.1=n∧(k,p.2)∈ps:=by
 unfold lkL
 rw [List.mem_map]
 constructor
 ·rintro ⟨q,hq,rfl⟩
  obtain ⟨h1,h2⟩:=List.mem_filter.mp hq
  exact ⟨rfl,by rw [←of_decide_eq_true h2];exact h1⟩
 ·rintro ⟨h1,h2⟩
  exact ⟨(k,p.2),List.mem_filter.mpr ⟨h2,decide_eq_true rfl⟩,Prod.ext h1.symm rfl⟩
theorem mem_lkR {n k:Int} {ps:List (Int×Int)} {p:Int×Int}:p∈lkR n k ps↔p.2=n∧(p.1,k)∈ps:=by
 unfold lkR
 rw [List.mem_map]
 constructor
 ·rintro ⟨q,hq,rfl⟩
  obtain ⟨h1,h2⟩:=List.mem_filter.mp hq
  exact ⟨rfl,by rw [←of_decide_eq_true h2];exact h1⟩
 ·rintro ⟨h1,h2⟩
  exact ⟨(p.1,k),List.mem_filter.mpr ⟨h2,decide_eq_true rfl⟩,Prod.ext rfl h1.symm⟩
noncomputable def lkA (n k:Int) (ps:List (Int×Int)):List (Int×Int):=ps++(lkL n k ps++lkR n k ps)
theorem mem_lkA {n k:Int} {ps:List (Int×Int)} {p:Int×Int}:p∈lkA n k ps↔p∈ps∨(p.1=n∧(k,p.2)∈ps)∨(p.2=n∧(p.1,k)∈ps):=by
 unfold lkA
 rw [List.mem_append,List.mem_append,mem_lkL,mem_lkR]
theorem lkA_in {n:Nat} {k:Int} {ps:List (Int×Int)} (ho:Ord n ps) {p:Int×Int} (h:p∈lkA n k ps):inN (n + 1) p:=by
 rcases mem_lkA.mp h with h | ⟨e,h⟩ | ⟨e,h⟩
 ·obtain ⟨a,b,c,d,f⟩:=ho.ix p h
  exact ⟨a,by omega,c,by omega,f⟩
 ·obtain ⟨a,b,c,d,f⟩:=ho.ix _ h
  dsimp only at a b c d f
  exact ⟨by omega,by omega,c,by omega,by omega⟩
 ·obtain ⟨a,b,c,d,f⟩:=ho.ix _ h
  dsimp only at a b c d f
  exact ⟨a,by omega,by omega,by omega,by omega⟩
theorem lkA_nd {n:Nat} {k:Int} {ps:List (Int×Int)} (ho:Ord n ps):(lkA n k ps).Nodup:=by
 have nd:=nd_of (pw_of ho.up)
 have ne1:∀ p∈ps,p.1≠(n:Int)∧p.2≠(n:Int):=fun p hp=>by
  obtain ⟨a,b,c,d,f⟩:=ho.ix p hp
  exact ⟨by omega,by omega⟩
 unfold lkA List.Nodup
 rw [List.pairwise_append,List.pairwise_append]
 refine ⟨nd,⟨?_,?_,fun a ha b hb z=>?_⟩,fun a ha b hb z=>?_⟩
 ·unfold lkL
  rw [List.pairwise_map]
  refine List.Pairwise.imp_of_mem (fun {a b} ha hb g z=>g ?_) (List.Pairwise.filter _ nd)
  have h1:=of_decide_eq_true (List.mem_filter.mp ha).2
  have h2:=of_decide_eq_true (List.mem_filter.mp hb).2
  injection z with _ z
  exact Prod.ext (h1.trans h2.symm) z
 ·unfold lkR
  rw [List.pairwise_map]
  refine List.Pairwise.imp_of_mem (fun {a b} ha hb g z=>g ?_) (List.Pairwise.filter _ nd)
  have h1:=of_decide_eq_true (List.mem_filter.mp ha).2
  have h2:=of_decide_eq_true (List.mem_filter.mp hb).2
  injection z with z _
  exact Prod.ext z (h1.trans h2.symm)
 ·subst z
  obtain ⟨h1,_⟩:=mem_lkL.mp ha
  obtain ⟨_,h2⟩:=mem_lkR.mp hb
  exact (ne1 _ h2).1 h1
 ·subst z
  rcases List.mem_append.mp hb with hb | hb
  ·exact (ne1 _ ha).1 (mem_lkL.mp hb).1
  ·exact (ne1 _ ha).2 (mem_lkR.mp hb).1
theorem lk_emb {n k:Nat} {ps qs:List (Int×Int)} (ho:Ord n ps) (hk:k < n) (hp:qs.Perm (lkA n k ps)):Emb n ps (n + 1) qs (lkF n k):=by
 refine ⟨fun i hi=>?_,fun i j hi hj=>?_⟩
 ·unfold lkF;split <;> omega
 ·have ix:∀ {a b:Nat},((a:Int),(b:Int))∈ps→a < n∧b < n∧a≠b:=fun {a b} h=>by
   obtain ⟨x1,x2,x3,x4,x5⟩:=ho.ix _ h
   dsimp only at x1 x2 x3 x4 x5
   exact ⟨by omega,by omega,by omega⟩
  rw [Bool.eq_iff_iff,has_iff,has_iff,hp.mem_iff,mem_lkA]
  dsimp only
  unfold lkF
  by_cases gi:i < n
  ·rw [if_pos gi]
   by_cases gj:j < n
   ·rw [if_pos gj]
    constructor
    ·rintro (h | ⟨e,_⟩ | ⟨e,_⟩)
     ·exact h
     ·omega
     ·omega
    ·exact .inl
   ·rw [if_neg gj]
    constructor
    ·rintro (h | ⟨e,_⟩ | ⟨_,h⟩)
     ·have:=(ix h).2.1;omega
     ·omega
     ·exact h
    ·exact fun h=>.inr (.inr ⟨by omega,h⟩)
  ·rw [if_neg gi]
   by_cases gj:j < n
   ·rw [if_pos gj]
    constructor
    ·rintro (h | ⟨_,h⟩ | ⟨e,_⟩)
     ·have:=(ix h).1;omega
     ·exact h
     ·omega
    ·exact fun h=>.inr (.inl ⟨by omega,h⟩)
   ·rw [if_neg gj]
    constructor
    ·rintro (h | ⟨_,h⟩ | ⟨_,h⟩)
     ·have:=(ix h).1;omega
     ·have:=(ix h).2.1;omega
     ·have:=(ix h).1;omega
    ·exact fun h=>absurd rfl (ix h).2.2
end My
namespace My
open PySem L2
theorem pr_get' {H:Hp} {xs:List V} {ps:List (Int×Int)} {i:Nat} {x:V} (h:IsAll H xs (ps.map prD)) (hx:xs[i]? =some x):∃ p r,ps[i]? =some p∧x=.ref r∧H r=some (.tup [.int p.1,.int p.2]):=by
 obtain ⟨d,ed,id⟩:=h.get' hx
 rw [List.getElem?_map] at ed
 cases e:ps[i]? with
 | none=>rw [e] at ed;cases ed
 | some p=>
  rw [e] at ed
  cases ed
  unfold prD at id
  cases id with
  | @tup r ys _ er hys=>
   obtain rfl:=two_ints hys
   exact ⟨p,r,rfl,rfl,er⟩
end My
namespace My
open PySem L2
noncomputable def belL (ps:List (Int×Int)) (c:Int):List Int:=(ps.filter fun p=>p.2==c).map (·.1)
noncomputable def abvL (ps:List (Int×Int)) (c:Int):List Int:=(ps.filter fun p=>p.1==c).map (·.2)
noncomputable def hgt (ps:List (Int×Int)) (c:Int):Int:=((belL ps c).length:Int) - ((abvL ps c).length:Int)
noncomputable def hgts (n:Nat) (ps:List (Int×Int)):List Int:=(List.range n).map fun (i:Nat)=>hgt ps (i:Int)
noncomputable def atL (hs:List Int) (v:Int):List Int:=((List.range hs.length).filter fun i=>hs.getD i 0==v).map fun (i:Nat)=>(i:Int)
theorem belL_take (ps:List (Int×Int)) (c:Int) (k:Nat) (p:Int×Int) (h:ps[k]? =some p):belL (ps.take (k + 1)) c=belL (ps.take k) c++(if p.2==c then [p.1] else []):=by
 unfold belL
 rw [List.take_add_one,h,List.filter_append,List.map_append]
 show _++((List.filter _ [p]).map _)=_
 rw [List.filter_cons]
 split <;> rfl
theorem abvL_take (ps:List (Int×Int)) (c:Int) (k:Nat) (p:Int×Int) (h:ps[k]? =some p):abvL (ps.take (k + 1)) c=abvL (ps.take k) c++(if p.1==c then [p.2] else []):=by
 unfold abvL
 rw [List.take_add_one,h,List.filter_append,List.map_append]
 show _++((List.filter _ [p]).map _)=_
 rw [List.filter_cons]
 split <;> rfl
theorem belL_len (ps:List (Int×Int)) (c:Int):(belL ps c).length≤ps.length:=by unfold belL;rw [List.length_map];exact List.length_filter_le _ _
theorem abvL_len (ps:List (Int×Int)) (c:Int):(abvL ps c).length≤ps.length:=by unfold abvL;rw [List.length_map];exact List.length_filter_le _ _
noncomputable def atU (hs:List Int) (v:Int) (k:Nat):List Int:=((List.range k).filter fun i=>hs.getD i 0==v).map fun (i:Nat)=>(i:Int)
theorem atU_succ (hs:List Int) (v:Int) (k:Nat):atU hs v (k + 1)=atU hs v k++(if hs.getD k 0==v then [(k:Int)] else []):=by
 unfold atU
 rw [List.range_succ,List.filter_append,List.map_append]
 show _++((List.filter _ [k]).map _)=_
 rw [List.filter_cons]
 split <;> rfl
theorem atU_len (hs:List Int) (v:Int) (k:Nat):(atU hs v k).length≤k:=by
 unfold atU
 rw [List.length_map]
 have:=List.length_filter_le (fun i=>hs.getD i 0==v) (List.range k)
 rw [List.length_range] at this
 exact this
theorem len_sub:∀ {L ns:List Int},L.Nodup→(∀ x∈L,x∈ns)→L.length≤ns.length
 | [],ns,_,_=>Nat.zero_le _
 | x::L,ns,nd,sub=>by
  have hx:=sub x List.mem_cons_self
  rw [List.nodup_cons] at nd
  have p1:=(List.perm_cons_erase hx).length_eq
  have:=len_sub (L:=L) (ns:=ns.erase x) nd.2 fun y hy=>(List.mem_erase_of_ne (fun z:y=x=>nd.1 (z▸hy))).mpr (sub y (List.mem_cons_of_mem _ hy))
  simp only [List.length_cons] at p1 ⊢
  omega
theorem nub_nd' {ns ms:List Int} (h:Nub ns ms):ms.Nodup:=h.up.imp fun h=>Int.ne_of_lt h
theorem nub_len {ns ms:List Int} (h:Nub ns ms):ms.length≤ns.length:=len_sub (nub_nd' h) fun x hx=>(h.mem x).mp hx
section
variable {P:Program} {w:World} {K:PySem.W.Frag} {mg:Str→Option Value} {base:Heap} {t:Ad}
set_option genSizeOf false in
set_option genInjectivity false in
inductive sp_height (vs:List V) (H:Hp) (Q:VK) (zz3:XK):Prop where
 | mk (x:V) (ps:List (Int×Int)) (c:Int) (zh0:vs=[x,.int c]) (zh1:Is H x (.tuple (ps.map prD))) (zh2:ps.length≤1000) (zh3:∀ H',Same H H'→Q (.int (hgt ps c)) H'):sp_height vs H Q zz3
theorem ok_height (T:Txt K mg t):FnOk P w K mg base CX0 1 t.a_height t.d_height ["pairs","thing"] sp_height:=by
 refine T.F_height.ok sc_height (fun vs H Q E h=>?_) (fun cdv A outer s H vs Q E hr h=>?_)
 ·obtain ⟨x,ps,c,rfl,_⟩:=h
  rfl
 ·obtain ⟨x,ps,c,rfl,hx,sz,q⟩:=h
  refine ⟨_,(pss_cons (ps_set_lc (i:=2) sc_height.nd rfl rfl rfl rfl ⟨True.intro,True.intro,True.intro,(.inl rfl),True.intro⟩ (M:=["one","other","thing"]) (.own (.own (.free 1 rfl rfl .nil))) (gk_tup (gks_cons rfl (gks_cons rfl gks_nil))) rfl (by decide +kernel) (k_ptup K (pv 0)) (fun C fp s1 H1=>⟨k_gtup K (n:=2) rfl (pgs_cons (pg_name (i:=0) (show (["one","other","thing"]:List Str).Nodup by decide +kernel) rfl (Or.inl rfl)) (pgs_cons (pg_name (i:=1) (show (["one","other","thing"]:List Str).Nodup by decide +kernel) rfl (Or.inl rfl)) pgs_nil)),pif_one (pt_cmpR (op_eqD hr.units) (pv 1) (pv 2) (nomark _)),(pv 0)⟩))
   (pss_cons (ps_set_lc (i:=3) sc_height.nd rfl rfl rfl rfl ⟨True.intro,True.intro,True.intro,(.inl rfl),True.intro⟩ (M:=["one","other","thing"]) (.own (.own (.free 1 rfl rfl .nil))) (gk_tup (gks_cons rfl (gks_cons rfl gks_nil))) rfl (by decide +kernel) (k_ptup K (pv 0)) (fun C fp s1 H1=>⟨k_gtup K (n:=2) rfl (pgs_cons (pg_name (i:=0) (show (["one","other","thing"]:List Str).Nodup by decide +kernel) rfl (Or.inl rfl)) (pgs_cons (pg_name (i:=1) (show (["one","other","thing"]:List Str).Nodup by decide +kernel) rfl (Or.inl rfl)) pgs_nil)),pif_one (pt_cmpR (op_eqD hr.units) (pv 0) (pv 2) (nomark _)),(pv 1)⟩))
   (pss_one (ps_ret (pe_op op_sub (pe_callB (k_len K) (by rfl) T.n_len bt_len (pa_cons (pv 2) pa_nil)) (pe_callB (k_len K) (by rfl) T.n_len bt_len (pa_cons (pv 3) pa_nil))))))),?_⟩
  cases hx with
  | @tup b xs _ eb hxs=>
  have hl:xs.length=ps.length:=by rw [hxs.length,List.length_map]
  walk_at "rd"
  refine ⟨b,rfl,⟨xs,SqT.of eb⟩,?_⟩
  refine lp_tup (K:=K) (xs:=xs) (small_ln (by omega)) (fun j zs H'=>Same H H'∧zs=(belL (ps.take j) c).map V.int) ⟨Same.refl _,rfl⟩ (by
   rintro j zs H' ⟨_,rfl⟩
   rw [List.length_map]
   have:=belL_len (ps.take j) c
   rw [List.length_take] at this
   omega) (fun j zs H' _ h=>SqT.of (h.1 _ _ eb)) ?_ ?_
  ·rintro j x zs H2 hx ⟨s2,rfl⟩
   obtain ⟨p0,r,hp0,rfl,er⟩:=pr_get' (hxs.same s2) hx
   walk_at "rd"
   refine rd_gtup er rfl ?_
   walk_at "rd"
   rw [belL_take _ _ _ _ hp0]
   refine ifB (fun g=>?_) (fun g=>?_)
   ·have g':(p0.2==c)=true:=g
    walk_at "rd"
    rw [if_pos g',List.map_append]
    exact ⟨s2,rfl⟩
   ·have g':(p0.2==c)=false:=g
    rw [if_neg (by rw [g'];exact Bool.false_ne_true),List.append_nil]
    exact ⟨s2,rfl⟩
  ·rintro zs H2 ⟨s2,rfl⟩ l1 hl1
   rw [hl,List.take_length]
   have s3:=s2.trans (Same.upd (o:=.lst ((belL ps c).map V.int)) hl1)
   have e1:upd H2 l1 (.lst ((belL ps c).map V.int)) l1=some (.lst ((belL ps c).map V.int)):=upd_same
   generalize upd H2 l1 (.lst ((belL ps c).map V.int))=H3 at s3 e1
   walk_at "rd"
   refine ⟨b,rfl,⟨xs,SqT.of (s3 _ _ eb)⟩,?_⟩
   refine lp_tup (K:=K) (xs:=xs) (small_ln (by omega)) (fun j zs H'=>Same H3 H'∧zs=(abvL (ps.take j) c).map V.int) ⟨Same.refl _,rfl⟩ (by
    rintro j zs H' ⟨_,rfl⟩
    rw [List.length_map]
    have:=abvL_len (ps.take j) c
    rw [List.length_take] at this
    omega) (fun j zs H' _ h=>SqT.of (h.1 _ _ (s3 _ _ eb))) ?_ ?_
   ·rintro j x zs H4 hx ⟨s4,rfl⟩
    obtain ⟨p0,r,hp0,rfl,er⟩:=pr_get' ((hxs.same s3).same s4) hx
    walk_at "rd"
    refine rd_gtup er rfl ?_
    walk_at "rd"
    rw [abvL_take _ _ _ _ hp0]
    refine ifB (fun g=>?_) (fun g=>?_)
    ·have g':(p0.1==c)=true:=g
     walk_at "rd"
     rw [if_pos g',List.map_append]
     exact ⟨s4,rfl⟩
    ·have g':(p0.1==c)=false:=g
     rw [if_neg (by rw [g'];exact Bool.false_ne_true),List.append_nil]
     exact ⟨s4,rfl⟩
   ·rintro zs H4 ⟨s4,rfl⟩ l2 hl2
    rw [hl,List.take_length]
    have s5:=s4.trans (Same.upd (o:=.lst ((abvL ps c).map V.int)) hl2)
    have e2:upd H4 l2 (.lst ((abvL ps c).map V.int)) l2=some (.lst ((abvL ps c).map V.int)):=upd_same
    generalize upd H4 l2 (.lst ((abvL ps c).map V.int))=H5 at s5 e2
    have e1':=s5 _ _ e1
    walk_at "rd"
    have q':=q H5 (s3.trans s5)
    unfold hgt at q'
    simpa using q'
set_option genSizeOf false in
set_option genInjectivity false in
inductive sp_things_at (vs:List V) (H:Hp) (Q:VK) (zz3:XK):Prop where
 | mk (l:Addr) (hs:List Int) (v:Int) (zh0:vs=[.ref l,.int v]) (zh1:H l=some (.lst (hs.map V.int))) (zh2:hs.length≤8) (zh3:∀ r H',Same H H'→H r=none→H' r=some (.lst ((atL hs v).map V.int))→Q (.ref r) H'):sp_things_at vs H Q zz3
theorem ok_things_at (T:Txt K mg t):FnOk P w K mg base CX0 1 t.a_things_at t.d_things_at ["heights","level"] sp_things_at:=by
 refine T.F_things_at.ok sc_things_at (fun vs H Q E h=>?_) (fun cdv A outer s H vs Q E hr h=>?_)
 ·obtain ⟨l,hs,v,rfl,_⟩:=h
  rfl
 ·obtain ⟨l,hs,v,rfl,el,h8,q⟩:=h
  refine ⟨_,(pss_one (ps_ret (pe_lc rfl ⟨True.intro,True.intro,(.inl rfl),(.inl rfl),True.intro⟩ (M:=["thing","heights","level"]) (.own (.free 0 rfl rfl (.free 1 rfl rfl .nil))) (gk_name rfl) rfl (by decide +kernel) (pi_range1 rfl T.n_range (pa_cons (pe_callB (k_len K) (by rfl) T.n_len bt_len (pa_cons (pv 0) pa_nil)) pa_nil)) (fun C fp s1 H1=>⟨pg_name (i:=0) (show (["thing","heights","level"]:List Str).Nodup by decide +kernel) rfl (Or.inl rfl),pif_one (pt_cmpR (op_eqD hr.units) (pe_ix (k_ix K) (pv 1) (pv 0) (fun _ _=>rfl)) (pv 2) (nomark _)),(pv 0)⟩)))),?_⟩
  walk_at "rd"
  refine ⟨_,rfl,by simp,by simp;omega,?_⟩
  rw [List.length_map,Int.toNat_natCast]
  refine lp_range (small_ln (by omega)) (fun i ys H'=>Same H H'∧ys=(atU hs v i).map V.int) ⟨Same.refl _,rfl⟩ (by
   rintro i ys H' ⟨_,rfl⟩
   rw [List.length_map]
   exact atU_len _ _ _) ?_ ?_
  ·rintro k ys H2 hk ⟨s2,rfl⟩
   have el2:=s2 _ _ el
   walk_at "rd"
   rw [Int.zero_add,atU_succ]
   refine rd_ixL el2 (atI_of rfl (getD_map hk)) ?_
   walk_at "rd"
   refine ifB (fun g=>?_) (fun g=>?_)
   ·have g':(hs.getD k 0==v)=true:=g
    walk_at "rd"
    rw [if_pos g',List.map_append]
    exact ⟨s2,rfl⟩
   ·have g':(hs.getD k 0==v)=false:=g
    rw [if_neg (by rw [g'];exact Bool.false_ne_true),List.append_nil]
    exact ⟨s2,rfl⟩
  ·rintro ys H2 ⟨s2,rfl⟩ r hr'
   walk_at "rd"
   have hn:H r=none:=by
    cases e:H r with
    | none=>rfl
    | some u=>rw [s2 _ _ e] at hr';cases hr'
   exact q r _ (s2.trans (Same.upd hr')) hn upd_same
noncomputable def Rws (H:Hp) (hs:List Int) (zs:List V) (ms:List Int):Prop:=zs.length=ms.length∧∀ (j:Nat) (v:Int),ms[j]? =some v→∃ r,zs[j]? =some (.ref r)∧H r=some (.lst ((atL hs v).map V.int))
theorem Rws.is {H:Hp} {hs:List Int} {zs:List V} {ms:List Int} (h:Rws H hs zs ms):IsAll H zs (ms.map fun v=>PyData.list ((atL hs v).map PyData.int)):=by
 induction ms generalizing zs with
 | nil=>
  obtain rfl:zs=[]:=List.eq_nil_of_length_eq_zero h.1
  exact .nil
 | cons v ms ih=>
  obtain ⟨r,e1,e2⟩:=h.2 0 v rfl
  cases zs with
  | nil=>cases e1
  | cons z zs=>
   cases e1
   exact .cons (.lst (.inl e2) (IsAll.ints _)) (ih ⟨by simpa using h.1,fun j u hu=>by simpa using h.2 (j + 1) u (by simpa using hu)⟩)
theorem Rws.same {H H':Hp} {hs:List Int} {zs:List V} {ms:List Int} (h:Rws H hs zs ms) (s:Same H H'):Rws H' hs zs ms:=⟨h.1,fun j v e=>let ⟨r,e1,e2⟩:=h.2 j v e;⟨r,e1,s _ _ e2⟩⟩
theorem Rws.snoc {H:Hp} {hs:List Int} {zs:List V} {ms:List Int} {v:Int} {r:Addr} (h:Rws H hs zs ms) (e:H r=some (.lst ((atL hs v).map V.int))):Rws H hs (zs++[.ref r]) (ms++[v]):=by
 refine ⟨by simp [h.1],fun j u hu=>?_⟩
 by_cases g:j < ms.length
 ·rw [List.getElem?_append_left g] at hu
  rw [List.getElem?_append_left (by rw [h.1];exact g)]
  exact h.2 j u hu
 ·have ej:j=ms.length:=by
   have:=(List.getElem?_eq_some_iff.mp hu).1
   simp at this
   omega
  subst ej
  rw [List.getElem?_append_right (Nat.le_refl _)] at hu
  rw [List.getElem?_append_right (by rw [h.1];exact Nat.le_refl _),h.1]
  simp at hu ⊢
  subst hu
  exact e
set_option genSizeOf false in
set_option genInjectivity false in
inductive sp_row (vs:List V) (H:Hp) (Q:VK) (zz3:XK):Prop where
 | mk (x:V) (n:Nat) (ps:List (Int×Int)) (zh0:vs=[x]) (zh1:Is H x (ordD n ps)) (zh2:Ord n ps) (zh3:barB n ps=false) (zh4:∀ r zs ms H',Same H H'→H r=none→Nub (hgts n ps) ms→H' r=some (.lst zs)→Rws H' (hgts n ps) zs ms→Q (.ref r) H'):sp_row vs H Q zz3
theorem ok_row (T:Txt K mg t):FnOk P w K mg base CX0 8 t.a_row t.d_row ["order"] sp_row:=by
 refine T.F_row.ok sc_row (fun vs H Q E h=>?_) (fun cdv A outer s H vs Q E hr h=>?_)
 ·obtain ⟨x,n,ps,rfl,_⟩:=h
  rfl
 ·obtain ⟨x,n,ps,rfl,hx,ho,hb,q⟩:=h
  refine ⟨_,(pss_cons (ps_expr (pe_call (ok_need_unbarred T) (hr.mono (by decide)) rfl T.m_need_unbarred T.F_need_unbarred.kp T.b_need_unbarred .nil pass0 (pa_cons (pv 0) pa_nil)))
   (pss_cons (ps_set (i:=1) sc_row.nd rfl (Or.inr rfl) (pe_lc rfl ⟨True.intro,True.intro,True.intro,(.inl rfl),True.intro⟩ (M:=["thing","order"]) (.own (.free 0 rfl rfl .nil)) (gk_name rfl) rfl (by decide +kernel) (pi_range1 rfl T.n_range (pa_cons (pe_ix (k_ix K) (pv 0) pe_int (fun _ _=>rfl)) pa_nil)) (fun C fp s1 H1=>⟨pg_name (i:=0) (show (["thing","order"]:List Str).Nodup by decide +kernel) rfl (Or.inl rfl),pif_nil,(pe_call (ok_height T) (hr.mono (by decide)) rfl T.m_height T.F_height.kp T.b_height .nil pass0 (pa_cons (pe_ix (k_ix K) (pv 1) pe_int (fun _ _=>rfl)) (pa_cons (pv 0) pa_nil)))⟩)))
   (pss_one (ps_ret (pe_lc rfl ⟨True.intro,True.intro,True.intro,(.inl rfl),True.intro⟩ (M:=["level","heights"]) (.own (.free 1 rfl rfl .nil)) (gk_name rfl) rfl (by decide +kernel) (k_plst K (k_sortSet K rfl T.n_sorted rfl T.n_set (pa_cons (pv 1) pa_nil))) (fun C fp s1 H1=>⟨pg_name (i:=0) (show (["level","heights"]:List Str).Nodup by decide +kernel) rfl (Or.inl rfl),pif_nil,(pe_call (ok_things_at T) (hr.mono (by decide)) rfl T.m_things_at T.F_things_at.kp T.b_things_at .nil pass0 (pa_cons (pv 1) (pa_cons (pv 0) pa_nil)))⟩)))))),?_⟩
  have n8:=ho.hi
  walk_at "rd"
  refine ⟨x,n,ps,rfl,hx,ho,hb,fun H1 s1=>?_⟩
  obtain ⟨oa,ob,xs,rfl,ea,eb,hxs⟩:=is_ord (hx.same s1)
  walk_at "rd"
  refine ⟨_,rfl,by omega,by omega,?_⟩
  rw [Int.toNat_natCast]
  refine lp_range (small_ln (by omega)) (fun i ys H'=>Same H1 H'∧ys=((hgts n ps).take i).map V.int) ⟨Same.refl _,rfl⟩ (by
   rintro i ys H' ⟨_,rfl⟩
   rw [List.length_map,List.length_take]
   omega) ?_ ?_
  ·rintro k ys H2 hk ⟨s2,rfl⟩
   have ea2:=s2 _ _ ea
   walk_at "rd"
   refine ⟨_,ps,_,rfl,.tup (s2 _ _ eb) (hxs.same s2),ho.sz,fun H3 s3=>⟨s2.trans s3,?_⟩⟩
   have hu:(hgts n ps)[k]? =some (hgt ps (k:Int)):=by
    unfold hgts
    rw [List.getElem?_map,List.getElem?_range hk]
    rfl
   rw [List.take_add_one,hu,List.map_append,Int.zero_add]
   rfl
  ·rintro ys H2 ⟨s2,rfl⟩ l hl
   have hlen:(hgts n ps).length=n:=by unfold hgts;rw [List.length_map,List.length_range]
   rw [List.take_of_length_le (by omega)]
   have s3:=s2.trans (Same.upd (o:=.lst ((hgts n ps).map V.int)) hl)
   have e1:upd H2 l (.lst ((hgts n ps).map V.int)) l=some (.lst ((hgts n ps).map V.int)):=upd_same
   generalize upd H2 l (.lst ((hgts n ps).map V.int))=H3 at s3 e1
   walk_at "rd"
   refine rd_sortSet ?_
   walk_at "rd"
   refine ⟨l,hgts n ps,rfl,SqL.of e1,by omega,fun r ms hr' nb=>?_⟩
   have lm:=nub_len nb
   have s4:=s3.trans (Same.upd (o:=.lst (ms.map V.int)) hr')
   have e2:upd H3 r (.lst (ms.map V.int)) r=some (.lst (ms.map V.int)):=upd_same
   have e1':upd H3 r (.lst (ms.map V.int)) l=some (.lst ((hgts n ps).map V.int)):=(Same.upd hr') _ _ e1
   generalize upd H3 r (.lst (ms.map V.int))=H4 at s4 e2 e1'
   refine ⟨r,rfl,⟨_,SqL.of e2⟩,?_⟩
   refine lp_list (K:=K) (xs:=ms.map V.int) (small_ln (by rw [List.length_map];omega)) (fun j zs H'=>Same H4 H'∧Rws H' (hgts n ps) zs (ms.take j)) ⟨Same.refl _,rfl,fun j v e=>by simp at e⟩ (by
    rintro j zs H' ⟨_,h⟩
    rw [h.1,List.length_take]
    omega) (fun j zs H' _ h=>SqL.of (h.1 _ _ e2)) ?_ ?_
   ·rintro j x zs H5 hx5 ⟨s5,iz⟩
    rw [List.getElem?_map] at hx5
    cases em:ms[j]? with
    | none=>rw [em] at hx5;cases hx5
    | some v=>
    rw [em] at hx5
    cases hx5
    walk_at "rd"
    refine ⟨l,hgts n ps,v,rfl,s5 _ _ e1',by omega,fun r6 H6 s6 hn6 e6=>⟨s5.trans s6,?_⟩⟩
    rw [List.take_add_one,em]
    exact (iz.same s6).snoc e6
   ·rintro zs H5 ⟨s5,iz⟩ r6 hr6
    rw [List.take_of_length_le (by rw [List.length_map];exact Nat.le_refl _)] at iz
    have s6:=Same.upd (o:=.lst zs) hr6
    have hn:H r6=none:=by
     cases e:H r6 with
     | none=>rfl
     | some u=>rw [(((s1.trans s4).trans s5)) _ _ e] at hr6;cases hr6
    exact q r6 zs ms _ (((s1.trans s4).trans s5).trans s6) hn nb upd_same (iz.same s6)
end
end My
namespace My
open PySem L2
structure LonAt (ps:List (Int×Int)) (L:Int→Int) (c:Int):Prop where
 lo:1≤L c
 ge:∀ a,(a,c)∈ps→L a + 1≤L c
 is:L c=1∨∃ a,(a,c)∈ps∧L c=L a + 1
noncomputable def kvL (L:Int→Int) (ds:List Int):List (Key×Int):=ds.map fun c=>(Sum.inl c,L c)
noncomputable def kvV (L:Int→Int) (ds:List Int):List (Key×V):=(kvL L ds).map fun p=>(p.1,V.int p.2)
theorem kv_in {L:Int→Int} {a:Int}:∀ {ds:List Int},a∈ds→valV (kvV L ds) (Sum.inl a)=some (V.int (L a))
 | d::ds,h=>by
  by_cases e:d=a
  ·subst e
   exact valV_pos rfl
  ·have:a∈ds:=by
    rcases List.mem_cons.mp h with z | z
    ·exact absurd z.symm e
    ·exact z
   show valV ((Sum.inl d,V.int (L d))::kvV L ds) (Sum.inl a)=_
   rw [valV_neg (by intro z;exact e (Sum.inl.inj z))]
   exact kv_in this
theorem kv_out {L:Int→Int} {a:Int}:∀ {ds:List Int},a∉ds→valV (kvV L ds) (Sum.inl a)=none
 | [],_=>rfl
 | d::ds,h=>by
  show valV ((Sum.inl d,V.int (L d))::kvV L ds) (Sum.inl a)=_
  rw [valV_neg (by intro z;exact h (by rw [Sum.inl.inj z];exact List.mem_cons_self))]
  exact kv_out fun z=>h (List.mem_cons_of_mem _ z)
theorem kv_congr {L L':Int→Int} {ds:List Int} (h:∀ c∈ds,L c=L' c):kvV L ds=kvV L' ds:=by
 unfold kvV kvL
 rw [List.map_map,List.map_map]
 exact List.map_congr_left fun c hc=>by simp [h c hc]
theorem kv_snoc (L:Int→Int) (ds:List Int) (c:Int):kvV L (ds++[c])=kvV L ds++[(Sum.inl c,V.int (L c))]:=by
 unfold kvV kvL
 rw [List.map_append,List.map_append]
 rfl
theorem kv_len (L:Int→Int) (ds:List Int):(kvV L ds).length=ds.length:=by unfold kvV kvL;rw [List.length_map,List.length_map]
theorem ps_nd {n:Nat} {ps:List (Int×Int)} (ho:Ord n ps):ps.Nodup:=nd_of (pw_of ho.up)
theorem nd_map {α β:Type} {f:α→β}:∀ {l:List α},l.Nodup→(∀ x∈l,∀ y∈l,f x=f y→x=y)→(l.map f).Nodup
 | [],_,_=>List.nodup_nil
 | x::l,h,inj=>by
  rw [List.nodup_cons] at h
  rw [List.map_cons,List.nodup_cons]
  refine ⟨fun z=>?_,nd_map h.2 fun a ha b hb=>inj a (List.mem_cons_of_mem _ ha) b (List.mem_cons_of_mem _ hb)⟩
  obtain ⟨y,hy,e⟩:=List.mem_map.mp z
  exact h.1 (by rw [←inj y (List.mem_cons_of_mem _ hy) x List.mem_cons_self e];exact hy)
theorem mem_bel {ps:List (Int×Int)} {c a:Int}:a∈belL ps c↔(a,c)∈ps:=by
 unfold belL
 rw [List.mem_map]
 constructor
 ·rintro ⟨p,hp,rfl⟩
  obtain ⟨h1,h2⟩:=List.mem_filter.mp hp
  have:p.2=c:=eq_of_beq h2
  rw [←this]
  exact h1
 ·exact fun h=>⟨(a,c),List.mem_filter.mpr ⟨h,beq_self_eq_true c⟩,rfl⟩
theorem mem_abv {ps:List (Int×Int)} {c a:Int}:a∈abvL ps c↔(c,a)∈ps:=by
 unfold abvL
 rw [List.mem_map]
 constructor
 ·rintro ⟨p,hp,rfl⟩
  obtain ⟨h1,h2⟩:=List.mem_filter.mp hp
  have:p.1=c:=eq_of_beq h2
  rw [←this]
  exact h1
 ·exact fun h=>⟨(c,a),List.mem_filter.mpr ⟨h,beq_self_eq_true c⟩,rfl⟩
theorem bel_nd {n:Nat} {ps:List (Int×Int)} (ho:Ord n ps) (c:Int):(belL ps c).Nodup:=by
 refine nd_map ((ps_nd ho).sublist List.filter_sublist) fun x hx y hy e=>?_
 have h1:x.2=c:=eq_of_beq (List.mem_filter.mp hx).2
 have h2:y.2=c:=eq_of_beq (List.mem_filter.mp hy).2
 exact Prod.ext e (h1.trans h2.symm)
theorem abv_nd {n:Nat} {ps:List (Int×Int)} (ho:Ord n ps) (c:Int):(abvL ps c).Nodup:=by
 refine nd_map ((ps_nd ho).sublist List.filter_sublist) fun x hx y hy e=>?_
 have h1:x.1=c:=eq_of_beq (List.mem_filter.mp hx).2
 have h2:y.1=c:=eq_of_beq (List.mem_filter.mp hy).2
 exact Prod.ext (h1.trans h2.symm) e
structure Sem (ps:List (Int×Int)):Prop where
 irr:∀ a,(a,a)∉ps
 two:∀ a b c d,(a,b)∈ps→(c,d)∈ps→(a,d)∈ps∨(c,b)∈ps
theorem Sem.tr {ps:List (Int×Int)} (h:Sem ps) {a b c:Int} (h1:(a,b)∈ps) (h2:(b,c)∈ps):(a,c)∈ps:=(h.two a b b c h1 h2).resolve_right (h.irr b)
theorem hgt_lt {n:Nat} {ps:List (Int×Int)} (ho:Ord n ps) (h:Sem ps) {a b:Int} (hab:(a,b)∈ps):hgt ps a < hgt ps b:=by
 have h1:(a::belL ps a).length≤(belL ps b).length:=len_sub (List.nodup_cons.mpr ⟨fun z=>h.irr a (mem_bel.mp z),bel_nd ho a⟩) fun x hx=>by
  rcases List.mem_cons.mp hx with rfl | hx
  ·exact mem_bel.mpr hab
  ·exact mem_bel.mpr (h.tr (mem_bel.mp hx) hab)
 have h2:(b::abvL ps b).length≤(abvL ps a).length:=len_sub (List.nodup_cons.mpr ⟨fun z=>h.irr b (mem_abv.mp z),abv_nd ho b⟩) fun x hx=>by
  rcases List.mem_cons.mp hx with rfl | hx
  ·exact mem_abv.mpr hab
  ·exact mem_abv.mpr (h.tr hab (mem_abv.mp hx))
 rw [List.length_cons] at h1 h2
 unfold hgt
 omega
theorem mem_atL {hs:List Int} {v c:Int}:c∈atL hs v↔∃ i:Nat,c=i∧i < hs.length∧hs.getD i 0=v:=by
 unfold atL
 rw [List.mem_map]
 constructor
 ·rintro ⟨i,hi,rfl⟩
  obtain ⟨h1,h2⟩:=List.mem_filter.mp hi
  exact ⟨i,rfl,List.mem_range.mp h1,eq_of_beq h2⟩
 ·rintro ⟨i,rfl,h1,h2⟩
  exact ⟨i,List.mem_filter.mpr ⟨List.mem_range.mpr h1,by rw [h2];exact beq_self_eq_true _⟩,rfl⟩
theorem atL_nd (hs:List Int) (v:Int):(atL hs v).Nodup:=by
 unfold atL
 exact nd_map (List.nodup_range.sublist List.filter_sublist) fun x _ y _ e=>Int.ofNat.inj e
theorem hgts_at {n:Nat} {ps:List (Int×Int)} {i:Nat} (h:i < n):(hgts n ps).getD i 0=hgt ps i:=by
 unfold hgts
 rw [List.getD_eq_getElem?_getD,List.getElem?_map,List.getElem?_range h]
 rfl
theorem hgts_len (n:Nat) (ps:List (Int×Int)):(hgts n ps).length=n:=by unfold hgts;rw [List.length_map,List.length_range]
theorem sem_of {n:Nat} {ps:List (Int×Int)} (ho:Ord n ps) (hb:barB n ps=false):Sem ps:=by
 unfold barB at hb
 rw [Bool.or_eq_false_iff] at hb
 refine ⟨fun a h=>(ho.ix _ h).2.2.2.2 rfl,fun a b c d h1 h2=>?_⟩
 have:=any_f (any_f hb.1 h1) h2
 have e1:has ps a b=true:=decide_eq_true h1
 have e2:has ps c d=true:=decide_eq_true h2
 unfold bar2B at this
 dsimp only at this
 rw [e1,e2] at this
 cases e3:has ps a d with
 | true=>exact .inl (of_decide_eq_true e3)
 | false=>
  cases e4:has ps c b with
  | true=>exact .inr (of_decide_eq_true e4)
  | false=>rw [e3,e4] at this;cases this
structure DnOk (ps:List (Int×Int)) (L:Int→Int) (ds:List Int):Prop where
 on:∀ c∈ds,LonAt ps L c
 cl:∀ c∈ds,∀ a,(a,c)∈ps→a∈ds
noncomputable def putL (L:Int→Int) (t v:Int):Int→Int:=fun c=>if c=t then v else L c
theorem putL_ne {L:Int→Int} {t v c:Int} (h:c≠t):putL L t v c=L c:=if_neg h
theorem putL_eq {L:Int→Int} {t v:Int}:putL L t v t=v:=if_pos rfl
theorem DnOk.add {ps:List (Int×Int)} {L:Int→Int} {ds:List Int} (h:DnOk ps L ds) (hS:Sem ps) {t M:Int} (ht:t∉ds) (hb:∀ a,(a,t)∈ps→a∈ds)
  (hM:((∀ a,(a,t)∉ps)∧M=0)∨((∃ a,(a,t)∈ps∧L a=M)∧∀ a,(a,t)∈ps→L a≤M)):
  DnOk ps (putL L t (1 + M)) (ds++[t])∧putK (kvV L ds) (Sum.inl t) (.int (1 + M))=kvV (putL L t (1 + M)) (ds++[t]):=by
 have ne:∀ c∈ds,c≠t:=fun c hc e=>ht (e▸hc)
 refine ⟨⟨fun c hc=>?_,fun c hc a ha=>?_⟩,?_⟩
 ·rcases List.mem_append.mp hc with hc | hc
  ·have o:=h.on c hc
   have ea:∀ a,(a,c)∈ps→putL L t (1 + M) a=L a:=fun a ha=>putL_ne (ne a (h.cl c hc a ha))
   refine ⟨by rw [putL_ne (ne c hc)];exact o.lo,fun a ha=>by rw [putL_ne (ne c hc),ea a ha];exact o.ge a ha,?_⟩
   rw [putL_ne (ne c hc)]
   rcases o.is with z | ⟨a,ha,z⟩
   ·exact .inl z
   ·exact .inr ⟨a,ha,by rw [ea a ha];exact z⟩
  ·rw [List.mem_singleton] at hc
   subst hc
   have ea:∀ a,(a,c)∈ps→putL L c (1 + M) a=L a:=fun a ha=>putL_ne (fun e=>hS.irr c (by rw [e] at ha;exact ha))
   rcases hM with ⟨no,rfl⟩ | ⟨⟨a0,ha0,e0⟩,le⟩
   ·exact ⟨by rw [putL_eq];omega,fun a ha=>absurd ha (no a),.inl (by rw [putL_eq];rfl)⟩
   ·have:=(h.on a0 (hb a0 ha0)).lo
    exact ⟨by rw [putL_eq];omega,fun a ha=>by rw [putL_eq,ea a ha];have:=le a ha;omega,.inr ⟨a0,ha0,by rw [putL_eq,ea a0 ha0];omega⟩⟩
 ·rcases List.mem_append.mp hc with hc | hc
  ·exact List.mem_append_left _ (h.cl c hc a ha)
  ·rw [List.mem_singleton] at hc
   subst hc
   exact List.mem_append_left _ (hb a ha)
 ·rw [putK_new _ (kv_out ht),kv_snoc,putL_eq]
  congr 1
  exact kv_congr fun c hc=>(putL_ne (ne c hc)).symm
noncomputable def dnU (hs ms:List Int) (i:Nat):List Int:=(ms.take i).flatMap (atL hs)
theorem dn_succ {hs ms:List Int} {i:Nat} {v:Int} (h:ms[i]? =some v):dnU hs ms (i + 1)=dnU hs ms i++atL hs v:=by
 unfold dnU
 rw [List.take_add_one,h,List.flatMap_append]
 simp
theorem take_lt {hs ms:List Int} (nb:Nub hs ms) {i:Nat} {v u:Int} (h:ms[i]? =some v):u∈ms.take i↔u∈ms∧u < v:=by
 have hi:=(List.getElem?_eq_some_iff.mp h).1
 have ev:ms[i]=v:=(List.getElem?_eq_some_iff.mp h).2
 have pw:=List.pairwise_iff_getElem.mp nb.up
 constructor
 ·intro hu
  obtain ⟨k,hk,e⟩:=List.getElem_of_mem hu
  rw [List.length_take] at hk
  rw [List.getElem_take] at e
  have:=pw k i (by omega) hi (by omega)
  exact ⟨List.mem_of_mem_take hu,by omega⟩
 ·rintro ⟨hu,lt⟩
  obtain ⟨k,hk,e⟩:=List.getElem_of_mem hu
  by_cases g:k < i
  ·rw [←e]
   exact List.mem_take_iff_getElem.mpr ⟨k,by omega,rfl⟩
  ·by_cases z:k=i
   ·subst z;omega
   ·have:=pw i k hi hk (by omega)
    omega
theorem mem_dn {n:Nat} {ps:List (Int×Int)} {ms:List Int} (nb:Nub (hgts n ps) ms) {i:Nat} {v:Int} (h:ms[i]? =some v) (c:Nat) (hc:c < n):(c:Int)∈dnU (hgts n ps) ms i↔hgt ps c < v:=by
 unfold dnU
 rw [List.mem_flatMap]
 have hm:hgt ps c∈ms:=(nb.mem _).mpr (List.mem_map.mpr ⟨c,List.mem_range.mpr hc,rfl⟩)
 constructor
 ·rintro ⟨u,hu,hcu⟩
  obtain ⟨k,ek,hk,e⟩:=mem_atL.mp hcu
  have:c=k:=Int.ofNat.inj ek
  subst this
  rw [hgts_at hc] at e
  rw [e]
  exact ((take_lt nb h).mp hu).2
 ·intro lt
  exact ⟨hgt ps c,(take_lt nb h).mpr ⟨hm,lt⟩,mem_atL.mpr ⟨c,rfl,by rw [hgts_len];exact hc,hgts_at hc⟩⟩
theorem mem_all {n:Nat} {ps:List (Int×Int)} {ms:List Int} (nb:Nub (hgts n ps) ms) (c:Int):c∈dnU (hgts n ps) ms ms.length↔∃ k:Nat,c=k∧k < n:=by
 unfold dnU
 rw [List.take_length,List.mem_flatMap]
 constructor
 ·rintro ⟨u,hu,hcu⟩
  obtain ⟨k,ek,hk,e⟩:=mem_atL.mp hcu
  rw [hgts_len] at hk
  exact ⟨k,ek,hk⟩
 ·rintro ⟨k,rfl,hk⟩
  exact ⟨hgt ps k,(nb.mem _).mpr (List.mem_map.mpr ⟨k,List.mem_range.mpr hk,rfl⟩),mem_atL.mpr ⟨k,rfl,by rw [hgts_len];exact hk,hgts_at hk⟩⟩
theorem flat_lenI {f:Int→List Int} {b:Nat} (h:∀ x,(f x).length≤b):∀ l:List Int,(l.flatMap f).length≤l.length * b
 | []=>Nat.zero_le _
 | x::l=>by
  rw [List.flatMap_cons,List.length_append,List.length_cons,Nat.succ_mul]
  have:=flat_lenI h l
  have:=h x
  omega
theorem atL_len (hs:List Int) (v:Int):(atL hs v).length≤hs.length:=atU_len hs v hs.length
theorem sameT_put {d:Addr} {H:Hp} {o:HO}:SameT d H (upd H d o):=fun b u e g=>by rw [upd_ne g];exact e
section
variable {P:Program} {w:World} {K:PySem.W.Frag} {mg:Str→Option Value} {base:Heap} {t:Ad}
set_option genSizeOf false in
set_option genInjectivity false in
inductive sp_longest (vs:List V) (H:Hp) (Q:VK) (zz3:XK):Prop where
 | mk (x:V) (n:Nat) (ps:List (Int×Int)) (zh0:vs=[x]) (zh1:Is H x (ordD n ps)) (zh2:Ord n ps) (zh3:barB n ps=false) (zh4:∀ (L:Int→Int) (m:Int) H',Same H H'→(∀ c:Nat,c < n→LonAt ps L c∧L c≤m)→(∃ c:Nat,c < n∧L c=m)→Q (.int m) H'):sp_longest vs H Q zz3
theorem ok_longest (T:Txt K mg t):FnOk P w K mg base CX0 9 t.a_longest t.d_longest ["order"] sp_longest:=by
 refine T.F_longest.ok sc_longest (fun vs H Q E h=>?_) (fun cdv A outer s H vs Q E hr h=>?_)
 ·obtain ⟨x,n,ps,rfl,_⟩:=h
  rfl
 ·obtain ⟨x,n,ps,rfl,hx,ho,hb,q⟩:=h
  refine ⟨_,(pss_cons (ps_set (i:=1) sc_longest.nd rfl (Or.inr rfl) pe_dnewK)
   (pss_cons (ps_for PassesOwn.never rfl (k_plst K (pe_call (ok_row T) (hr.mono (by decide)) rfl T.m_row T.F_row.kp T.b_row .nil pass0 (pa_cons (pv 0) pa_nil))) (pg_name (i:=2) sc_longest.nd rfl (Or.inl rfl)) (pss_one (ps_for PassesOwn.never rfl (k_plst K (pv 2)) (pg_name (i:=3) sc_longest.nd rfl (Or.inr rfl)) (pss_cons (ps_set_lc (i:=4) sc_longest.nd rfl rfl rfl rfl ⟨True.intro,True.intro,True.intro,(.inl rfl),(.inl rfl),True.intro⟩ (M:=["one","other","lengths","thing"]) (.own (.own (.free 1 rfl rfl (.free 3 rfl rfl .nil)))) (gk_tup (gks_cons rfl (gks_cons rfl gks_nil))) rfl (by decide +kernel) (k_ptup K (pe_ix (k_ix K) (pv 0) pe_int (fun _ _=>rfl))) (fun C fp s1 H1=>⟨k_gtup K (n:=2) rfl (pgs_cons (pg_name (i:=0) (show (["one","other","lengths","thing"]:List Str).Nodup by decide +kernel) rfl (Or.inl rfl)) (pgs_cons (pg_name (i:=1) (show (["one","other","lengths","thing"]:List Str).Nodup by decide +kernel) rfl (Or.inl rfl)) pgs_nil)),pif_one (pt_cmpR (op_eqD hr.units) (pv 1) (pv 3) (nomark _)),(pe_dget (hu_of hr) (pv 2) (pv 0) (fun _ _=>rfl))⟩))
   (pss_one (ps_dput (hu_of hr) (pv 1) (pv 3) (pe_op op_add pe_int (k_maxD rfl T.n_max (pa_cons (pv 4) pa_nil) pe_int)) rfl))))))
   (pss_one (ps_ret (k_maxVals rfl T.n_max (pv 1)))))),?_⟩
  have n8:=ho.hi
  obtain ⟨oa,ob,xs,rfl,ea,eb,hxs⟩:=is_ord hx
  have hS:=sem_of ho hb
  refine fun d hd=>?_
  have s0:=Same.upd (o:=.dK []) hd
  have ed:upd H d (.dK []) d=some (.dK (kvV (fun _=>0) [])):=upd_same
  have hx0:=hx.same s0
  have ea0:=s0 _ _ ea
  have eb0:=s0 _ _ eb
  generalize upd H d (.dK [])=H0 at s0 ed hx0 ea0 eb0
  walk_at "rd"
  refine ⟨_,n,ps,rfl,hx0,ho,hb,fun r zs ms H1 s1 hr1 nb er hz=>?_⟩
  have lm:=nub_len nb
  rw [hgts_len] at lm
  have hlz:=hz.1
  have ed1:=s1 _ _ ed
  have hdr:∀ c u,H c=some u→c≠d:=fun c u e=>ne_of_none e hd
  refine ⟨r,rfl,⟨zs,SqL.of er⟩,?_⟩
  refine fp_list (K:=K) (xs:=zs) (fun i σ H'=>(∃ v2 v3 v4,σ=[some (.ref oa),some (.ref d),v2,v3,v4])∧SameT d H1 H'∧∃ L,DnOk ps L (dnU (hgts n ps) ms i)∧H' d=some (.dK (kvV L (dnU (hgts n ps) ms i))))
   ⟨⟨_,_,_,rfl⟩,SameT.refl _ _,fun _=>0,⟨fun c hc=>(by cases hc),fun c hc=>(by cases hc)⟩,ed1⟩ (fun i σ H' _ h=>SqL.of (h.2.1 _ _ er (by intro z;rw [z,ed1] at er;cases er))) ?_ ?_
  ·rintro i x σ H2 hx2 ⟨⟨v2,v3,v4,rfl⟩,s2,L,dn,ed2⟩
   have hi:i < ms.length:=by have:=(List.getElem?_eq_some_iff.mp hx2).1;omega
   obtain ⟨r2,e1,e2⟩:=hz.2 i ms[i] (List.getElem?_eq_getElem hi)
   rw [hx2] at e1
   cases e1
   have em:ms[i]? =some ms[i]:=List.getElem?_eq_getElem hi
   generalize ms[i]=v at em e2
   walk_at "rd"
   have r2d:r2≠d:=by intro z;rw [z,ed1] at e2;cases e2
   refine ⟨r2,rfl,⟨_,SqL.of (s2 _ _ e2 r2d)⟩,?_⟩
   refine fp_list (K:=K) (xs:=(atL (hgts n ps) v).map V.int) (fun j σ H'=>(∃ v3 v4,σ=[some (.ref oa),some (.ref d),some (.ref r2),v3,v4])∧SameT d H1 H'∧∃ L,DnOk ps L (dnU (hgts n ps) ms i++(atL (hgts n ps) v).take j)∧H' d=some (.dK (kvV L (dnU (hgts n ps) ms i++(atL (hgts n ps) v).take j))))
    ⟨⟨_,_,rfl⟩,s2,L,by simpa using dn,by simpa using ed2⟩ (fun j σ H' _ h=>SqL.of (h.2.1 _ _ e2 r2d)) ?_ ?_
   ·rintro j x σ H3 hx3 ⟨⟨v3,v4,rfl⟩,s3,L,dn,ed3⟩
    rw [List.getElem?_map] at hx3
    cases et:(atL (hgts n ps) v)[j]? with
    | none=>rw [et] at hx3;cases hx3
    | some c=>
    rw [et] at hx3
    cases hx3
    obtain ⟨k,rfl,hk,hv⟩:=mem_atL.mp (List.mem_of_getElem? et)
    rw [hgts_len] at hk
    rw [hgts_at hk] at hv
    have ea3:=s3 _ _ (s1 _ _ ea0) (hdr _ _ ea)
    have eb3:=s3 _ _ (s1 _ _ eb0) (hdr _ _ eb)
    have ix3:IsAll H3 xs (ps.map prD):=hxs.tmono (fun c us e=>s3 _ _ (s1 _ _ (s0 _ _ e)) (hdr _ _ e)) (noLs_pr _)
    have hlx:xs.length=ps.length:=by rw [hxs.length,List.length_map]
    have sz:=ho.small
    have bel:∀ a,(a,(k:Int))∈ps→a∈dnU (hgts n ps) ms i++(atL (hgts n ps) v).take j:=fun a ha=>by
     have hh:=hgt_lt ho hS ha
     obtain ⟨a0,a1,_⟩:=ho.ix _ ha
     have ean:a=((a.toNat:Nat):Int):=by omega
     rw [ean] at hh ⊢
     exact List.mem_append_left _ ((mem_dn nb em a.toNat (by omega)).mpr (by rw [←hv];exact hh))
    have new:(k:Int)∉dnU (hgts n ps) ms i++(atL (hgts n ps) v).take j:=fun z=>by
     rcases List.mem_append.mp z with z | z
     ·have:=(mem_dn nb em k hk).mp z
      omega
     ·obtain ⟨j',hj',e'⟩:=List.getElem_of_mem z
      rw [List.length_take] at hj'
      rw [List.getElem_take] at e'
      obtain ⟨hj,ej⟩:=List.getElem?_eq_some_iff.mp et
      exact List.pairwise_iff_getElem.mp (atL_nd (hgts n ps) v) j' j (by omega) hj (by omega) (e'.trans ej.symm)
    have lds:(dnU (hgts n ps) ms i++(atL (hgts n ps) v).take j).length≤1000:=by
     have b0:∀ x,(atL (hgts n ps) x).length≤8:=fun x=>by
      have:=atL_len (hgts n ps) x
      rw [hgts_len] at this
      omega
     have b1:=flat_lenI b0 (ms.take i)
     have b2:=b0 v
     rw [List.length_take] at b1
     rw [List.length_append,List.length_take]
     unfold dnU
     omega
    walk_at "rd"
    refine ⟨ob,rfl,⟨xs,SqT.of eb3⟩,?_⟩
    refine lp_tup (K:=K) (xs:=xs) (small_ln (by omega)) (fun i' ys H'=>Same H3 H'∧ys=((belL (ps.take i') (k:Int)).map L).map V.int) ⟨Same.refl _,rfl⟩ (by
     rintro j zs H' ⟨_,rfl⟩
     rw [List.length_map,List.length_map]
     have:=belL_len (ps.take j) (k:Int)
     rw [List.length_take] at this
     omega) (fun j zs H' _ h=>SqT.of (h.1 _ _ eb3)) ?_ ?_
    ·rintro j4 x ys H4 hx4 ⟨s4,rfl⟩
     obtain ⟨p0,r4,hp0,rfl,er4⟩:=pr_get' (ix3.same s4) hx4
     walk_at "rd"
     refine rd_gtup er4 rfl ?_
     walk_at "rd"
     rw [belL_take _ _ _ _ hp0]
     refine ifB (fun g=>?_) (fun g=>?_)
     ·have g':(p0.2==(k:Int))=true:=g
      have g2:p0.2=(k:Int):=eq_of_beq g'
      have hin:(p0.1,(k:Int))∈ps:=by rw [←g2];exact List.mem_of_getElem? hp0
      refine rd_dget ?_
      walk_at "rd"
      refine ⟨d,V.int (L p0.1),rfl,?_,s4,?_⟩
      ·rw [←kv_in (L:=L) (bel _ hin)]
       exact DGet.k (k:=Sum.inl p0.1) (s4 _ _ ed3)
      ·rw [if_pos g',List.map_append,List.map_append]
       rfl
     ·have g':(p0.2==(k:Int))=false:=g
      rw [if_neg (by rw [g'];exact Bool.false_ne_true),List.append_nil]
      exact ⟨s4,rfl⟩
    ·rintro ys H4 ⟨s4,rfl⟩ l hl
     rw [hlx,List.take_length]
     have s5:=s4.trans (Same.upd (o:=.lst (((belL ps (k:Int)).map L).map V.int)) hl)
     have e5:upd H4 l (.lst (((belL ps (k:Int)).map L).map V.int)) l=some (.lst (((belL ps (k:Int)).map L).map V.int)):=upd_same
     generalize upd H4 l (.lst (((belL ps (k:Int)).map L).map V.int))=H5 at s5 e5
     have ed5:=s5 _ _ ed3
     have fin:∀ M:Int,(((∀ a,(a,(k:Int))∉ps)∧M=0)∨((∃ a,(a,(k:Int))∈ps∧L a=M)∧∀ a,(a,(k:Int))∈ps→L a≤M))→∃ H6,DPut H5 d (.int (k:Int)) (.int (1 + M)) H6∧(∃ v3 v4,[some (V.ref oa),some (V.ref d),some (V.ref r2),some (V.int (k:Int)),some (V.ref l)]=[some (V.ref oa),some (V.ref d),some (V.ref r2),v3,v4])∧SameT d H1 H6∧∃ L,DnOk ps L (dnU (hgts n ps) ms i++(atL (hgts n ps) v).take (j + 1))∧H6 d=some (.dK (kvV L (dnU (hgts n ps) ms i++(atL (hgts n ps) v).take (j + 1)))):=fun M hM=>by
      obtain ⟨d1,d2⟩:=dn.add hS new bel hM
      refine ⟨_,DPut.k (k:=Sum.inl (k:Int)) ed5 (by rw [kv_len];exact small1000 lds),⟨_,_,rfl⟩,(s3.trans s5.t).trans sameT_put,putL L (k:Int) (1 + M),?_,?_⟩
      ·rw [List.take_add_one,et,←List.append_assoc]
       exact d1
      ·rw [upd_same,List.take_add_one,et,←List.append_assoc,d2]
       rfl
     walk_at "rd"
     refine rd_dput ?_
     walk_at "rd"
     refine rd_maxD ?_
     walk_at "rd"
     refine ⟨l,(belL ps (k:Int)).map L,rfl,e5,fun z=>?_,fun M hM1 hM2=>?_⟩
     ·rw [List.map_eq_nil_iff] at z
      obtain ⟨H6,g1,g2⟩:=fin 0 (.inl ⟨fun a ha=>(by have:=mem_bel.mpr ha;rw [z] at this;cases this),rfl⟩)
      refine ⟨_,_,rfl,rfl,?_⟩
      walk_at "rd"
      exact ⟨d,H6,rfl,g1,g2⟩
     ·obtain ⟨H6,g1,g2⟩:=fin M (.inr ⟨by
       obtain ⟨a,ha,e⟩:=List.mem_map.mp hM1
       exact ⟨a,mem_bel.mp ha,e⟩,fun a ha=>hM2 _ (List.mem_map.mpr ⟨a,mem_bel.mpr ha,rfl⟩)⟩)
      refine ⟨_,_,rfl,rfl,?_⟩
      walk_at "rd"
      exact ⟨d,H6,rfl,g1,g2⟩
   ·rintro σ H3 ⟨⟨v3,v4,rfl⟩,s3,L,dn,ed3⟩
    rw [List.length_map,List.take_length,←dn_succ em] at dn ed3
    exact ⟨⟨_,_,_,rfl⟩,s3,L,dn,ed3⟩
  ·rintro σ H2 ⟨⟨v2,v3,v4,rfl⟩,s2,L,dn,ed2⟩
   rw [hlz] at dn ed2
   walk_at "rd"
   refine rd_maxVals ?_
   walk_at "rd"
   refine ⟨d,kvL L (dnU (hgts n ps) ms ms.length),rfl,ed2,?_,fun m hm hle=>?_⟩
   ·have:(0:Int)∈dnU (hgts n ps) ms ms.length:=(mem_all nb 0).mpr ⟨0,rfl,ho.lo⟩
    intro z
    unfold kvL at z
    rw [List.map_eq_nil_iff] at z
    rw [z] at this
    cases this
   ·refine q L m H2 (fun c u e=>s2 _ _ (s1 _ _ (s0 _ _ e)) (hdr _ _ e)) (fun c hc=>?_) ?_
    ·have hin:=(mem_all nb (c:Int)).mpr ⟨c,rfl,hc⟩
     exact ⟨dn.on _ hin,hle _ (List.mem_map.mpr ⟨_,hin,rfl⟩)⟩
    ·obtain ⟨p,hp,rfl⟩:=hm
     obtain ⟨c,hc,rfl⟩:=List.mem_map.mp hp
     obtain ⟨k,rfl,hk⟩:=(mem_all nb c).mp hc
     exact ⟨k,hk,rfl⟩
end
end My
namespace My
open PySem L2
theorem lon_up {n:Nat} {ps qs:List (Int×Int)} (ho:Ord n ps) (hS:Sem ps) (hr:∀ a b,(a,b)∈ps→(b,a)∈qs) {L M:Int→Int} (hL:∀ c:Nat,c < n→LonAt ps L c) (hM:∀ c:Nat,c < n→LonAt qs M c):∀ (k c:Nat),c < n→(belL ps c).length=k→∃ a:Nat,a < n∧M c + L c≤M a + 1:=by
 intro k
 induction k using Nat.strongRecOn with
 | _ k ih=>
  intro c hc ek
  rcases (hL c hc).is with z | ⟨b,hb,z⟩
  ·exact ⟨c,hc,by omega⟩
  ·obtain ⟨b0,b1,_⟩:=ho.ix _ hb
   have eb:b=((b.toNat:Nat):Int):=by omega
   rw [eb] at hb z
   have h1:(((b.toNat:Nat):Int)::belL ps ((b.toNat:Nat):Int)).length≤(belL ps c).length:=len_sub (List.nodup_cons.mpr ⟨fun q=>hS.irr _ (mem_bel.mp q),bel_nd ho _⟩) fun x hx=>by
    rcases List.mem_cons.mp hx with rfl | hx
    ·exact mem_bel.mpr hb
    ·exact mem_bel.mpr (hS.tr (mem_bel.mp hx) hb)
   rw [List.length_cons] at h1
   obtain ⟨a,ha,le⟩:=ih (belL ps ((b.toNat:Nat):Int)).length (by omega) b.toNat (by omega) rfl
   have:=(hM b.toNat (by omega)).ge c (hr _ _ hb)
   exact ⟨a,ha,by omega⟩
theorem lon_le_rev {n:Nat} {ps qs:List (Int×Int)} (ho:Ord n ps) (hS:Sem ps) (hr:∀ a b,(a,b)∈ps→(b,a)∈qs) {L M:Int→Int} {l m:Int} (hL:∀ c:Nat,c < n→LonAt ps L c∧L c≤l) (hl:∃ c:Nat,c < n∧L c=l) (hM:∀ c:Nat,c < n→LonAt qs M c∧M c≤m):l≤m:=by
 obtain ⟨c,hc,e⟩:=hl
 obtain ⟨a,ha,le⟩:=lon_up ho hS hr (fun c hc=>(hL c hc).1) (fun c hc=>(hM c hc).1) _ c hc rfl
 have:=(hM a ha).2
 have:=(hM c hc).1.lo
 omega
end My
namespace My
open PySem L2
theorem map_erase:∀ (l:List Int) (k:Nat),(l.map V.int).eraseIdx k=(l.eraseIdx k).map V.int
 | [],k=>by simp
 | a::l,0=>by simp
 | a::l,k + 1=>by rw [List.map_cons,List.eraseIdx_cons_succ,List.eraseIdx_cons_succ,List.map_cons,map_erase l k]
theorem perm_pop {l:List Int} {k:Nat} (h:k < l.length):l.Perm (l[k]::l.eraseIdx k):=by
 induction l generalizing k with
 | nil=>exact absurd h (Nat.not_lt_zero _)
 | cons a l ih=>
  cases k with
  | zero=>exact .refl _
  | succ k=>
   rw [List.eraseIdx_cons_succ,List.getElem_cons_succ]
   exact ((ih (by simpa using h)).cons a).trans (.swap _ _ _)
noncomputable def nmP (ns:List Int) (p:Int×Int):Int×Int:=(ns.getD p.1.toNat 0,ns.getD p.2.toNat 0)
theorem nd_permI {n:Nat} {ns:List Int} (hp:ns.Perm (L2.upTo n)):ns.Nodup:=hp.nodup_iff.mpr (L2.upTo_nd n)
theorem nm_len {n:Nat} {ns:List Int} (hp:ns.Perm (L2.upTo n)):ns.length=n:=by rw [hp.length_eq];unfold L2.upTo;simp
theorem nm_in {n:Nat} {ns:List Int} (hp:ns.Perm (L2.upTo n)) {i:Nat} (hi:i < n):0≤ns.getD i 0∧ns.getD i 0 < n:=by
 have hl:i < ns.length:=by rw [nm_len hp];exact hi
 refine L2.mem_upTo.mp (hp.mem_iff.mp ?_)
 rw [List.getD_eq_getElem?_getD,List.getElem?_eq_getElem hl]
 exact List.getElem_mem hl
theorem nm_inj {n:Nat} {ns:List Int} (hp:ns.Perm (L2.upTo n)) {i j:Nat} (hi:i < n) (hj:j < n) (h:ns.getD i 0=ns.getD j 0):i=j:=by
 have li:i < ns.length:=by rw [nm_len hp];exact hi
 have lj:j < ns.length:=by rw [nm_len hp];exact hj
 rw [List.getD_eq_getElem?_getD,List.getElem?_eq_getElem li,List.getD_eq_getElem?_getD,List.getElem?_eq_getElem lj] at h
 have h':ns[i]=ns[j]:=h
 have nd:=List.pairwise_iff_getElem.mp (nd_permI hp)
 rcases Nat.lt_trichotomy i j with g | g | g
 ·exact absurd h' (nd i j li lj g)
 ·exact g
 ·exact absurd h'.symm (nd j i lj li g)
theorem nm_pair {n:Nat} {ns:List Int} (hp:ns.Perm (L2.upTo n)) {p:Int×Int} (h:inN n p):inN n (nmP ns p):=by
 obtain ⟨h1,h2,h3,h4,h5⟩:=h
 obtain ⟨a,b⟩:=nm_in hp (i:=p.1.toNat) (by omega)
 obtain ⟨c,d⟩:=nm_in hp (i:=p.2.toNat) (by omega)
 refine ⟨a,b,c,d,fun z=>?_⟩
 have:=nm_inj hp (i:=p.1.toNat) (j:=p.2.toNat) (by omega) (by omega) z
 omega
theorem nm_pinj {n:Nat} {ns:List Int} (hp:ns.Perm (L2.upTo n)) {p q:Int×Int} (h:inN n p) (g:inN n q) (e:nmP ns p=nmP ns q):p=q:=by
 obtain ⟨h1,h2,h3,h4,h5⟩:=h
 obtain ⟨g1,g2,g3,g4,g5⟩:=g
 unfold nmP at e
 injection e with e1 e2
 have a:=nm_inj hp (i:=p.1.toNat) (j:=q.1.toNat) (by omega) (by omega) e1
 have b:=nm_inj hp (i:=p.2.toNat) (j:=q.2.toNat) (by omega) (by omega) e2
 exact Prod.ext (by omega) (by omega)
theorem nm_nd {n:Nat} {ns:List Int} (hp:ns.Perm (L2.upTo n)) {ps:List (Int×Int)} (nd:ps.Nodup) (hi:∀ p∈ps,inN n p):(ps.map (nmP ns)).Nodup:=by
 unfold List.Nodup
 rw [List.pairwise_map]
 exact List.Pairwise.imp_of_mem (fun {a b} ha hb hab z=>hab (nm_pinj hp (hi a ha) (hi b hb) z)) nd
theorem nm_emb {n:Nat} {ns:List Int} (hp:ns.Perm (L2.upTo n)) {ps qs:List (Int×Int)} (ho:Ord n ps) (hq:qs.Perm (ps.map (nmP ns))):Emb n qs n ps fun i=>(ns.getD i 0).toNat:=by
 refine ⟨fun i hi=>?_,fun i j hi hj=>?_⟩
 ·have:=nm_in hp hi
  dsimp only
  omega
 ·have a1:=nm_in hp hi
  have a2:=nm_in hp hj
  rw [Bool.eq_iff_iff,has_iff,has_iff,hq.mem_iff,List.mem_map]
  dsimp only
  rw [Int.toNat_of_nonneg a1.1,Int.toNat_of_nonneg a2.1]
  constructor
  ·intro h
   exact ⟨_,h,by unfold nmP;simp⟩
  ·rintro ⟨p0,h0,e⟩
   obtain ⟨g1,g2,g3,g4,g5⟩:=ho.ix p0 h0
   unfold nmP at e
   injection e with e1 e2
   have b1:=nm_inj hp (i:=p0.1.toNat) (j:=i) (by omega) hi e1
   have b2:=nm_inj hp (i:=p0.2.toNat) (j:=j) (by omega) hj e2
   have:p0=((i:Int),(j:Int)):=Prod.ext (by omega) (by omega)
   rw [←this]
   exact h0
theorem nm_idx {n:Nat} {ns:List Int} (hp:ns.Perm (L2.upTo n)) {i:Nat} (hi:i < n):ns.idxOf (i:Int) < n∧ns.getD (ns.idxOf (i:Int)) 0=(i:Int):=by
 have hm:(i:Int)∈ns:=hp.mem_iff.mpr (L2.mem_upTo.mpr ⟨by omega,by omega⟩)
 have hl:=List.idxOf_lt_length_of_mem hm
 refine ⟨by rw [nm_len hp] at hl;exact hl,?_⟩
 rw [List.getD_eq_getElem?_getD,List.getElem?_eq_getElem hl]
 exact List.getElem_idxOf hl
theorem bar_eq {a b:Bool} (h1:a=false→b=false) (h2:b=false→a=false):b=a:=by
 cases a with
 | false=>exact h1 rfl
 | true=>
  cases b with
  | true=>rfl
  | false=>exact (h2 rfl).symm
theorem ls_same {n m:Nat} {ps qs:List (Int×Int)} {st:Int} {v:List Int} (L:LS n ps st v) (hq:Ord m qs) (hb:barB m qs=false) (h1:∀ s v,1≤s→nums n ps s=some v→∃ w,nums m qs s=some w) (h2:∀ s v,1≤s→nums m qs s=some v→∃ w,nums n ps s=some w):∃ ve,LS m qs st ve:=by
 obtain ⟨s',v',L'⟩:=ls_of hq hb
 have a:=L.le L' (h1 _ _ L.lo L.is)
 have b:=L'.le L (h2 _ _ L'.lo L'.is)
 obtain rfl:s'=st:=by omega
 exact ⟨v',L'⟩
theorem trn_mem {n:Nat} {ps qs:List (Int×Int)} (ho:Ord n ps) (h:Trn n ps qs) {a b:Int} (g:(a,b)∈ps):(b,a)∈qs:=by
 obtain ⟨a0,a1,b0,b1,_⟩:=ho.ix _ g
 dsimp only at a0 a1 b0 b1
 have:=h b.toNat a.toNat (by omega) (by omega)
 rw [Int.toNat_of_nonneg a0,Int.toNat_of_nonneg b0,has_iff.mpr g] at this
 exact has_iff.mp this
theorem okDs_ints (L:List Int):okDs (L.map PyData.int):=by
 induction L with
 | nil=>exact ⟨rfl,Nat.zero_le _⟩
 | cons a L ih=>
  refine ⟨?_,?_⟩
  ·rw [List.map_cons,PyData.canLayAll0,ih.1];rfl
  ·rw [List.map_cons,PyData.depthAll]
   exact Nat.max_le.mpr ⟨Nat.zero_le _,ih.2⟩
theorem max_ex:∀ {l:List Int},0 < l.length→∃ C∈l,∀ v∈l,v≤C
 | [a],_=>⟨a,List.mem_cons_self,fun v hv=>by rcases List.mem_singleton.mp hv with rfl;exact Int.le_refl _⟩
 | a::b::l,_=>by
  obtain ⟨C,h1,h2⟩:=max_ex (l:=b::l) (by simp)
  by_cases g:a≤C
  ·exact ⟨C,List.mem_cons_of_mem _ h1,fun v hv=>by
    rcases List.mem_cons.mp hv with rfl | hv
    ·exact g
    ·exact h2 v hv⟩
  ·exact ⟨a,List.mem_cons_self,fun v hv=>by
    rcases List.mem_cons.mp hv with rfl | hv
    ·exact Int.le_refl _
    ·have:=h2 v hv;omega⟩
theorem gt_map {l:List Int} {f:Int→Int} {i:Nat} (hi:i < l.length):gt (l.map f) i=f (gt l i):=by
 unfold gt
 rw [List.getD_eq_getElem?_getD,List.getElem?_map,List.getD_eq_getElem?_getD,List.getElem?_eq_getElem hi]
 rfl
theorem eqv_tupI (p:List Int):PyData.eqv (.tuple (p.map .int)) (.tuple (p.map .int))=true:=by
 rw [PyData.eqv]
 induction p with
 | nil=>rfl
 | cons a p ih=>rw [List.map_cons,PyData.eqvAll,ih,PyData.eqv];simp
theorem ok_tupI (p:List Int):okD (.tuple (p.map .int)):=by
 have h:=okDs_ints p
 refine ⟨?_,?_⟩
 ·rw [PyData.canLay0];exact h.1
 ·rw [PyData.depth]
  have:PyData.depthAll (p.map PyData.int)=0:=by
   clear h
   induction p with
   | nil=>rfl
   | cons a p ih=>rw [List.map_cons,PyData.depthAll,ih];rfl
  omega
noncomputable def swp (p:Int×Int):Int×Int:=(p.2,p.1)
theorem swp_trn {n:Nat} {ps qs:List (Int×Int)} (hq:qs.Perm (ps.map swp)):Trn n ps qs:=fun i j _ _=>by
 rw [Bool.eq_iff_iff,has_iff,has_iff,hq.mem_iff,List.mem_map]
 constructor
 ·rintro ⟨p0,h0,e⟩
  unfold swp at e
  injection e with e1 e2
  rw [←e1,←e2]
  exact h0
 ·exact fun h=>⟨_,h,rfl⟩
theorem nd_swp {ps:List (Int×Int)} (nd:ps.Nodup):(ps.map swp).Nodup:=by
 unfold List.Nodup
 rw [List.pairwise_map]
 refine List.Pairwise.imp (fun {a b} g z=>g ?_) nd
 unfold swp at z
 injection z with z1 z2
 exact Prod.ext z2 z1
theorem lkL_take (n k:Int) (ps:List (Int×Int)) (i:Nat) (p:Int×Int) (h:ps[i]? =some p):lkL n k (ps.take (i + 1))=lkL n k (ps.take i)++if decide (p.1=k)=true then [(n,p.2)] else []:=by
 unfold lkL
 rw [List.take_add_one,h,show (some p).toList=[p] from rfl,List.filter_append,filter_one,List.map_append]
 split <;> rfl
theorem lkR_take (n k:Int) (ps:List (Int×Int)) (i:Nat) (p:Int×Int) (h:ps[i]? =some p):lkR n k (ps.take (i + 1))=lkR n k (ps.take i)++if decide (p.2=k)=true then [(p.1,n)] else []:=by
 unfold lkR
 rw [List.take_add_one,h,show (some p).toList=[p] from rfl,List.filter_append,filter_one,List.map_append]
 split <;> rfl
theorem lkL_len (n k:Int) (ps:List (Int×Int)):(lkL n k ps).length≤ps.length:=by unfold lkL;rw [List.length_map];exact List.length_filter_le _ _
theorem lkR_len (n k:Int) (ps:List (Int×Int)):(lkR n k ps).length≤ps.length:=by unfold lkR;rw [List.length_map];exact List.length_filter_le _ _
noncomputable def Ods (H:Hp) (os:List (V×Nat×List (Int×Int))):Prop:=∀ e∈os,Is H e.1 (ordD e.2.1 e.2.2)∧Ord e.2.1 e.2.2
theorem Ods.same {H H':Hp} {os:List (V×Nat×List (Int×Int))} (h:Ods H os) (s:Same H H'):Ods H' os:=fun e he=>⟨(h e he).1.same s,(h e he).2⟩
theorem Ods.t {H H':Hp} {tw:Addr} {ts:List V} {os:List (V×Nat×List (Int×Int))} (h:Ods H os) (hw:H tw=some (.lst ts)) (s:SameT tw H H'):Ods H' os:=fun e he=>⟨ord_tt hw s (h e he).1,(h e he).2⟩
section
variable {P:Program} {w:World} {K:PySem.W.Frag} {mg:Str→Option Value} {base:Heap} {t:Ad}
set_option genSizeOf false in
set_option genInjectivity false in
inductive spLaw (K:PySem.W.Frag) (vs:List V) (H:Hp) (Q:VK) (zz3:XK):Prop where
 | mk (a ns:_) (zh0:vs=[.ref a]) (zh1:Scr K H a ns) (zh2:∀ H',Q (.bl true) H'):spLaw K vs H Q zz3
theorem ok_law (T:Txt K mg t):FnOk P w K mg base CX0 10 t.a_law t.d_law ["_law_script"] (spLaw K):=by
 refine T.F_law.ok sc_law (fun vs H Q E h=>?_) (fun cdv A outer s H vs Q E hr h=>?_)
 ·obtain ⟨a,ns,rfl,_⟩:=h
  rfl
 ·obtain ⟨a,ns,rfl,hs,q⟩:=h
  refine ⟨_,(pss_cons (ps_set (i:=1) sc_law.nd rfl (Or.inl rfl) (pe_lst pa_nil))
   (pss_cons (ps_set (i:=2) sc_law.nd rfl (Or.inl rfl) (pe_call (ok__law_order T) (hr.mono (by decide)) rfl T.m__law_order T.F__law_order.kp T.b__law_order .nil pass0 (pa_cons (pv 0) (pa_cons (pv 1) (pa_cons pe_int pa_nil)))))
   (pss_cons (ps_asg (pv 2) (k_gtup K rfl (pgs_cons (pg_name (i:=3) sc_law.nd rfl (Or.inr rfl)) (pgs_cons (pg_name (i:=4) sc_law.nd rfl (Or.inl rfl)) pgs_nil))))
   (pss_cons (ps_set (i:=5) sc_law.nd rfl (Or.inr rfl) (pe_lst pa_nil))
   (pss_cons (ps_set (i:=6) sc_law.nd rfl (Or.inl rfl) (pe_callTy (call_lstR rfl) (by rfl) T.n_list bt_list (pa_cons (pe_callTy call_mkR (by rfl) T.n_range bt_range (pa_cons (pv 3) pa_nil)) pa_nil)))
   (pss_cons (ps_while PassesOwn.never (pt_cmpR (op_neD hr.units) (pv 6) (pe_lst pa_nil) (nomark _)) (pss_one (ps_expr (k_bm K PySem.F.plainAttrs_list PySem.F.slot_list_append PySem.F.type_list_append mt_append (pv 5) (pa_cons (k_bm K PySem.F.plainAttrs_list PySem.F.slot_list_pop PySem.F.type_list_pop mt_popAt (pv 6) (pa_cons (pe_call (ok__law_draw T) (hr.mono (by decide)) rfl T.m__law_draw T.F__law_draw.kp T.b__law_draw .nil pass0 (pa_cons (pv 0) (pa_cons (pv 1) (pa_cons (pe_callB (k_len K) (by rfl) T.n_len bt_len (pa_cons (pv 6) pa_nil)) pa_nil)))) pa_nil)) pa_nil)))))
   (pss_cons (ps_set (i:=7) sc_law.nd rfl (Or.inl rfl) (pe_tup (pa_cons (pv 3) (pa_cons (pe_callTy (k_tuple K) (by rfl) T.n_tuple bt_tuple (pa_cons (pe_callB (k_sorted K) (by rfl) T.n_sorted bt_sorted (pa_cons (pe_lc rfl ⟨True.intro,True.intro,True.intro,(.inl rfl),True.intro⟩ (M:=["_law_one","_law_other","_law_names"]) (.own (.own (.free 5 rfl rfl .nil))) (gk_tup (gks_cons rfl (gks_cons rfl gks_nil))) rfl (by decide +kernel) (k_ptup K (pv 4)) (fun C fp s1 H1=>⟨k_gtup K (n:=2) rfl (pgs_cons (pg_name (i:=0) (show (["_law_one","_law_other","_law_names"]:List Str).Nodup by decide +kernel) rfl (Or.inl rfl)) (pgs_cons (pg_name (i:=1) (show (["_law_one","_law_other","_law_names"]:List Str).Nodup by decide +kernel) rfl (Or.inl rfl)) pgs_nil)),pif_nil,(pe_tup (pa_cons (pe_ix (k_ix K) (pv 2) (pv 0) (fun _ _=>rfl)) (pa_cons (pe_ix (k_ix K) (pv 2) (pv 1) (fun _ _=>rfl)) pa_nil)))⟩)) pa_nil)) pa_nil)) pa_nil))))
   (pss_cons (ps_set (i:=8) sc_law.nd rfl (Or.inl rfl) (pe_tup (pa_cons (pv 3) (pa_cons (pe_callTy (k_tuple K) (by rfl) T.n_tuple bt_tuple (pa_cons (pe_callB (k_sorted K) (by rfl) T.n_sorted bt_sorted (pa_cons (pe_lc rfl ⟨True.intro,True.intro,True.intro,True.intro⟩ (M:=["_law_one","_law_other"]) (.own (.own .nil)) (gk_tup (gks_cons rfl (gks_cons rfl gks_nil))) rfl (by decide +kernel) (k_ptup K (pv 4)) (fun C fp s1 H1=>⟨k_gtup K (n:=2) rfl (pgs_cons (pg_name (i:=0) (show (["_law_one","_law_other"]:List Str).Nodup by decide +kernel) rfl (Or.inl rfl)) (pgs_cons (pg_name (i:=1) (show (["_law_one","_law_other"]:List Str).Nodup by decide +kernel) rfl (Or.inl rfl)) pgs_nil)),pif_nil,(pe_tup (pa_cons (pv 1) (pa_cons (pv 0) pa_nil)))⟩)) pa_nil)) pa_nil)) pa_nil))))
   (pss_cons (ps_set (i:=9) sc_law.nd rfl (Or.inr rfl) (pe_call (ok__law_draw T) (hr.mono (by decide)) rfl T.m__law_draw T.F__law_draw.kp T.b__law_draw .nil pass0 (pa_cons (pv 0) (pa_cons (pv 1) (pa_cons (pv 3) pa_nil)))))
   (pss_cons (ps_set_lc (i:=10) sc_law.nd rfl rfl rfl rfl ⟨True.intro,True.intro,True.intro,(.inl rfl),(.inl rfl),True.intro⟩ (M:=["_law_one","_law_other","_law_like","_law_many"]) (.own (.own (.free 9 rfl rfl (.free 3 rfl rfl .nil)))) (gk_tup (gks_cons rfl (gks_cons rfl gks_nil))) rfl (by decide +kernel) (k_ptup K (pv 4)) (fun C fp s1 H1=>⟨k_gtup K (n:=2) rfl (pgs_cons (pg_name (i:=0) (show (["_law_one","_law_other","_law_like","_law_many"]:List Str).Nodup by decide +kernel) rfl (Or.inl rfl)) (pgs_cons (pg_name (i:=1) (show (["_law_one","_law_other","_law_like","_law_many"]:List Str).Nodup by decide +kernel) rfl (Or.inl rfl)) pgs_nil)),pif_one (pt_cmpR (op_eqD hr.units) (pv 0) (pv 2) (nomark _)),(pe_tup (pa_cons (pv 3) (pa_cons (pv 1) pa_nil)))⟩))
   (pss_cons (ps_expr (k_bm K PySem.F.plainAttrs_list PySem.F.slot_list_extend PySem.F.type_list_extend mt_extend (pv 10) (pa_cons (pe_lc rfl ⟨True.intro,True.intro,True.intro,(.inl rfl),(.inl rfl),True.intro⟩ (M:=["_law_one","_law_other","_law_like","_law_many"]) (.own (.own (.free 9 rfl rfl (.free 3 rfl rfl .nil)))) (gk_tup (gks_cons rfl (gks_cons rfl gks_nil))) rfl (by decide +kernel) (k_ptup K (pv 4)) (fun C fp s1 H1=>⟨k_gtup K (n:=2) rfl (pgs_cons (pg_name (i:=0) (show (["_law_one","_law_other","_law_like","_law_many"]:List Str).Nodup by decide +kernel) rfl (Or.inl rfl)) (pgs_cons (pg_name (i:=1) (show (["_law_one","_law_other","_law_like","_law_many"]:List Str).Nodup by decide +kernel) rfl (Or.inl rfl)) pgs_nil)),pif_one (pt_cmpR (op_eqD hr.units) (pv 1) (pv 2) (nomark _)),(pe_tup (pa_cons (pv 0) (pa_cons (pv 3) pa_nil)))⟩)) pa_nil)))
   (pss_cons (ps_set (i:=11) sc_law.nd rfl (Or.inl rfl) (pe_tup (pa_cons (pe_op op_add (pv 3) pe_int) (pa_cons (pe_callTy (k_tuple K) (by rfl) T.n_tuple bt_tuple (pa_cons (pe_callB (k_sorted K) (by rfl) T.n_sorted bt_sorted (pa_cons (pe_op op_cat (pe_callTy (k_list K) (by rfl) T.n_list bt_list (pa_cons (pv 4) pa_nil)) (pv 10)) pa_nil)) pa_nil)) pa_nil))))
   (pss_cons (ps_set_lc (i:=12) sc_law.nd rfl rfl rfl rfl ⟨True.intro,True.intro,True.intro,True.intro⟩ (M:=["_law_one"]) (.own .nil) (gk_name rfl) rfl (by decide +kernel) (k_ptup K (pe_tup (pa_cons (pv 2) (pa_cons (pv 7) (pa_cons (pv 8) (pa_cons (pv 11) pa_nil)))))) (fun C fp s1 H1=>⟨pg_name (i:=0) (show (["_law_one"]:List Str).Nodup by decide +kernel) rfl (Or.inl rfl),pif_nil,(pe_cmpR o_isN (pe_call (ok_bar T) (hr.mono (by decide)) rfl T.m_bar T.F_bar.kp T.b_bar .nil pass0 (pa_cons (pv 0) pa_nil)) pe_non (nomark _))⟩))
   (pss_cons (ps_if (pt_cmpR (op_notInD hr.units) (pv 12) (pe_tup (pa_cons (pe_op op_rep (pe_lst (pa_cons pe_bl pa_nil)) pe_int) (pa_cons (pe_op op_rep (pe_lst (pa_cons pe_bl pa_nil)) pe_int) pa_nil))) (by rfl)) (pss_one (ps_ret pe_bl)) pss_nil)
   (pss_cons (ps_if (pt_not (pt_val (pe_ix (k_ix K) (pv 12) pe_int (fun _ _=>rfl)))) (pss_one (ps_ret pe_bl)) pss_nil)
   (pss_cons (ps_asg (pe_call (ok_least T) (hr.mono (by decide)) rfl T.m_least T.F_least.kp T.b_least .nil pass0 (pa_cons (pv 2) pa_nil)) (k_gtup K rfl (pgs_cons (pg_name (i:=13) sc_law.nd rfl (Or.inl rfl)) (pgs_cons (pg_name (i:=14) sc_law.nd rfl (Or.inr rfl)) pgs_nil))))
   (pss_cons (ps_if (PW.pt (pw_or (pt_cmpR (op_neD hr.units) (pe_lc rfl ⟨True.intro,True.intro,True.intro,True.intro⟩ (M:=["_law_one"]) (.own .nil) (gk_name rfl) rfl (by decide +kernel) (k_ptup K (pe_tup (pa_cons (pv 7) (pa_cons (pv 8) (pa_cons (pv 11) pa_nil))))) (fun C fp s1 H1=>⟨pg_name (i:=0) (show (["_law_one"]:List Str).Nodup by decide +kernel) rfl (Or.inl rfl),pif_nil,(pe_ix (k_ix K) (pe_call (ok_least T) (hr.mono (by decide)) rfl T.m_least T.F_least.kp T.b_least .nil pass0 (pa_cons (pv 0) pa_nil)) pe_int (fun _ _=>rfl))⟩)) (pe_op op_rep (pe_lst (pa_cons (pv 13) pa_nil)) pe_int) (nomark _)) (pw_or1 (pt_cmpR (op_neD hr.units) (pe_call (ok_longest T) (hr.mono (by decide)) rfl T.m_longest T.F_longest.kp T.b_longest .nil pass0 (pa_cons (pv 8) pa_nil)) (pe_call (ok_longest T) (hr.mono (by decide)) rfl T.m_longest T.F_longest.kp T.b_longest .nil pass0 (pa_cons (pv 2) pa_nil)) (nomark _))))) (pss_one (ps_ret pe_bl)) pss_nil)
   (pss_cons (ps_if (pt_not (pt_val (pe_call (ok_fits T) (hr.mono (by decide)) rfl T.m_fits T.F_fits.kp T.b_fits .nil pass0 (pa_cons (pv 7) (pa_cons (pv 13) (pa_cons (pe_callTy (k_tuple K) (by rfl) T.n_tuple bt_tuple (pa_cons (pe_lc rfl ⟨True.intro,True.intro,(.inl rfl),(.inl rfl),True.intro⟩ (M:=["_law_thing","_law_longs","_law_names"]) (.own (.free 14 rfl rfl (.free 5 rfl rfl .nil))) (gk_name rfl) rfl (by decide +kernel) (pi_range1 rfl T.n_range (pa_cons (pv 3) pa_nil)) (fun C fp s1 H1=>⟨pg_name (i:=0) (show (["_law_thing","_law_longs","_law_names"]:List Str).Nodup by decide +kernel) rfl (Or.inl rfl),pif_nil,(pe_ix (k_ix K) (pv 1) (k_bm K PySem.F.plainAttrs_list PySem.F.slot_list_index PySem.F.type_list_index (mt_indexD hr.units) (pv 2) (pa_cons (pv 0) pa_nil)) (fun _ _=>rfl))⟩)) pa_nil)) pa_nil)))))) (pss_one (ps_ret pe_bl)) pss_nil)
   (pss_cons (ps_if (PW.pt (pw_or (pt_cmpR (op_neD hr.units) (pe_ix (k_ix K) (pe_call (ok_least T) (hr.mono (by decide)) rfl T.m_least T.F_least.kp T.b_least .nil pass0 (pa_cons (pv 11) pa_nil)) pe_int (fun _ _=>rfl)) (pe_op op_catU (pv 14) (pe_tup (pa_cons (pe_ix (k_ix K) (pv 14) (pv 9) (fun _ _=>rfl)) pa_nil))) (nomark _)) (pw_or1 (pt_not (pt_val (pe_call (ok_fits T) (hr.mono (by decide)) rfl T.m_fits T.F_fits.kp T.b_fits .nil pass0 (pa_cons (pv 8) (pa_cons (pv 13) (pa_cons (pe_callTy (k_tuple K) (by rfl) T.n_tuple bt_tuple (pa_cons (pe_lc rfl ⟨True.intro,True.intro,True.intro,(.inl rfl),True.intro⟩ (M:=["_law_one","_law_longs"]) (.own (.free 14 rfl rfl .nil)) (gk_name rfl) rfl (by decide +kernel) (k_ptup K (pv 14)) (fun C fp s1 H1=>⟨pg_name (i:=0) (show (["_law_one","_law_longs"]:List Str).Nodup by decide +kernel) rfl (Or.inl rfl),pif_nil,(pe_op op_sub (pe_callB (k_maxT K) (by rfl) T.n_max bt_max (pa_cons (pv 1) pa_nil)) (pv 0))⟩)) pa_nil)) pa_nil))))))))) (pss_one (ps_ret pe_bl)) pss_nil)
   (pss_cons (ps_set (i:=15) sc_law.nd rfl (Or.inr rfl) (pe_op op_add pe_int (pe_call (ok__law_draw T) (hr.mono (by decide)) rfl T.m__law_draw T.F__law_draw.kp T.b__law_draw .nil pass0 (pa_cons (pv 0) (pa_cons (pv 1) (pa_cons pe_int pa_nil))))))
   (pss_cons (ps_if (pt_cmpR (op_neD hr.units) (pe_call (ok_told T) (hr.mono (by decide)) rfl T.m_told T.F_told.kp T.b_told .nil pass0 (pa_cons (pe_op op_mul (pv 15) (pv 13)) (pa_cons (pe_callTy (k_tuple K) (by rfl) T.n_tuple bt_tuple (pa_cons (pe_lc rfl ⟨True.intro,True.intro,(.inl rfl),True.intro⟩ (M:=["_law_one","_law_times"]) (.own (.free 15 rfl rfl .nil)) (gk_name rfl) rfl (by decide +kernel) (k_ptup K (pv 14)) (fun C fp s1 H1=>⟨pg_name (i:=0) (show (["_law_one","_law_times"]:List Str).Nodup by decide +kernel) rfl (Or.inl rfl),pif_nil,(pe_op op_mul (pv 1) (pv 0))⟩)) pa_nil)) pa_nil))) (pv 2) (nomark _)) (pss_one (ps_ret pe_bl)) pss_nil)
   (pss_cons (ps_if (pt_cmpR (op_eqD hr.units) (pv 3) pe_int (nomark _)) (pss_one (ps_ret pe_bl)) pss_nil)
   (pss_cons (ps_set (i:=16) sc_law.nd rfl (Or.inr rfl) (pe_call (ok__law_draw T) (hr.mono (by decide)) rfl T.m__law_draw T.F__law_draw.kp T.b__law_draw .nil pass0 (pa_cons (pv 0) (pa_cons (pv 1) (pa_cons (pv 3) pa_nil)))))
   (pss_cons (ps_set_lc (i:=17) sc_law.nd rfl rfl rfl rfl ⟨True.intro,True.intro,(.inl rfl),True.intro⟩ (M:=["_law_pair","_law_gone"]) (.own (.free 16 rfl rfl .nil)) (gk_name rfl) rfl (by decide +kernel) (k_ptup K (pv 4)) (fun C fp s1 H1=>⟨pg_name (i:=0) (show (["_law_pair","_law_gone"]:List Str).Nodup by decide +kernel) rfl (Or.inl rfl),pif_one (pt_cmpR (op_notInD hr.units) (pv 1) (pv 0) (by rfl)),(pv 0)⟩))
   (pss_cons (ps_set (i:=18) sc_law.nd rfl (Or.inl rfl) (pe_tup (pa_cons (pe_op op_sub (pv 3) pe_int) (pa_cons (pe_callTy (k_tuple K) (by rfl) T.n_tuple bt_tuple (pa_cons (pe_lc rfl ⟨True.intro,True.intro,True.intro,(.inl rfl),True.intro⟩ (M:=["_law_pair","_law_gone"]) (.own (.free 16 rfl rfl .nil)) (gk_name rfl) rfl (by decide +kernel) (k_plst K (pv 17)) (fun C fp s1 H1=>⟨pg_name (i:=0) (show (["_law_pair","_law_gone"]:List Str).Nodup by decide +kernel) rfl (Or.inl rfl),pif_nil,(pe_callTy (k_tuple K) (by rfl) T.n_tuple bt_tuple (pa_cons (pe_lc rfl ⟨True.intro,True.intro,True.intro,(.inl rfl),True.intro⟩ (M:=["_law_one","_law_gone"]) (.own (.free 1 rfl rfl .nil)) (gk_name rfl) rfl (by decide +kernel) (k_ptup K (pv 0)) (fun C fp s1 H1=>⟨pg_name (i:=0) (show (["_law_one","_law_gone"]:List Str).Nodup by decide +kernel) rfl (Or.inl rfl),pif_nil,(pe_op op_sub (pv 0) (pe_callTy c_int (by rfl) T.n_int bt_int (pa_cons (pe_cmpR (op_gt) (pv 0) (pv 1) (nomark _)) pa_nil)))⟩)) pa_nil))⟩)) pa_nil)) pa_nil))))
   (pss_one (ps_ret (pe_and (pe_cmpR o_isN (pe_call (ok_bar T) (hr.mono (by decide)) rfl T.m_bar T.F_bar.kp T.b_bar .nil pass0 (pa_cons (pv 18) pa_nil)) pe_non (nomark _)) (pe_one (pe_cmpR (op_le) (pe_ix (k_ix K) (pe_call (ok_least T) (hr.mono (by decide)) rfl T.m_least T.F_least.kp T.b_least .nil pass0 (pa_cons (pv 18) pa_nil)) pe_int (fun _ _=>rfl)) (pv 13) (nomark _))))))))))))))))))))))))))))))),?_⟩
  walk_at "rd"
  refine ⟨Nat.zero_le _,fun tw htw=>?_⟩
  have hs0:=hs.same (Same.upd (o:=.lst []) htw)
  have ht0:upd H tw (.lst []) tw=some (.lst []):=upd_same
  generalize upd H tw (.lst [])=H0 at hs0 ht0
  clear htw hs
  walk_at "rd"
  refine ⟨a,ns,tw,[],7,rfl,by decide,by decide,hs0,ht0,by decide,fun x H1 n ps ts s1 ht hl ho hn hx=>?_⟩
  have hs1:=hs0.t ht0 s1
  have n7:n≤7:=by omega
  clear hs0 ht0 s1
  simp only [List.length_nil,Nat.zero_add] at hl
  have n1:=ho.lo
  have sml:=ho.small
  obtain ⟨oa,ob,xs,rfl,ea,eb,hxs⟩:=is_ord hx
  have lx:xs.length=ps.length:=by rw [hxs.length,List.length_map]
  walk_at "rd"
  refine rd_gtup ea rfl ?_
  walk_at "rd"
  refine ⟨Nat.zero_le _,fun l2 hl2=>?_⟩
  have s2:=Same.upd (o:=.lst []) hl2
  have e2:upd H1 l2 (.lst []) l2=some (.lst []):=upd_same
  generalize upd H1 l2 (.lst [])=H2 at s2 e2
  walk_at "rd"
  refine rd_mkR fun r hr'=>?_
  have s3:=Same.upd (o:=.rng 0 (n:Int)) hr'
  walk_at "rd"
  refine rd_lstR upd_same (by omega) fun l1 hl1=>?_
  have s4:=(s2.trans s3).trans (Same.upd (o:=.lst ((L2.upTo n).map V.int)) hl1)
  have e1:upd (upd H2 r (.rng 0 (n:Int))) l1 (.lst ((L2.upTo n).map V.int)) l1=some (.lst ((L2.upTo n).map V.int)):=upd_same
  have e24:upd (upd H2 r (.rng 0 (n:Int))) l1 (.lst ((L2.upTo n).map V.int)) l2=some (.lst []):=(s3.trans (Same.upd (o:=.lst ((L2.upTo n).map V.int)) hl1)) _ _ e2
  have n2:H1 l2=none:=hl2
  have nn1:H1 l1=none:=(s2.trans s3).free hl1
  have d12:l1≠l2:=Ne.symm (ne_of_none (s3 _ _ e2) hl1)
  have d1t:l1≠tw:=Ne.symm (ne_of_none ht nn1)
  have d2t:l2≠tw:=Ne.symm (ne_of_none ht n2)
  generalize upd (upd H2 r (.rng 0 (n:Int))) l1 (.lst ((L2.upTo n).map V.int))=H4 at s4 e1 e24
  clear s2 s3 hr' hl1 hl2 e2
  walk_at "rd"
  refine ⟨fun m σ H'=>∃ (rem made:List Int) (ts':List V),σ=[some (.ref a),some (.ref tw),some (.ref oa),some (.int n),some (.ref ob),some (.ref l2),some (.ref l1),none,none,none,none,none,none,none,none,none,none,none,none]∧rem.length=m∧SameT tw H1 H'∧H' tw=some (.lst ts')∧ts'.length + m≤ts.length + n∧H' l1=some (.lst (rem.map V.int))∧H' l2=some (.lst (made.map V.int))∧(made++rem).Perm (L2.upTo n),?_,?_⟩
  ·exact ⟨_,L2.upTo n,[],ts,rfl,rfl,s4.t,s4 _ _ ht,by unfold L2.upTo;simp,e1,e24,.refl _⟩
  rintro m σ H5 ⟨rem,made,ts4,rfl,hm,s5,ht4,hl4,f1,f2,hp⟩
  have lpn:made.length + rem.length=n:=by
   have:=hp.length_eq
   rw [List.length_append] at this
   rw [this]
   unfold L2.upTo
   simp
  walk_at "rd"
  refine ⟨Nat.zero_le _,fun l3 hl3=>?_⟩
  have s6:=Same.upd (o:=.lst []) hl3
  refine rd_neL (as:=rem) (bs:=[]) (s6 _ _ f1) upd_same ?_
  have f1':=s6 _ _ f1
  have f2':=s6 _ _ f2
  have ht5:=s6 _ _ ht4
  have s56:SameT tw H1 (upd H5 l3 (.lst [])):=s5.trans s6.t
  generalize upd H5 l3 (.lst [])=H6 at f1' f2' ht5 s56
  clear s6 s5 f1 f2 ht4 hl3
  walk_at "rd"
  refine ifB (fun g=>?_) (fun g=>?_)
  ·have rn:rem≠[]:=by simpa using g
   have rl:0 < rem.length:=List.length_pos_iff.mpr rn
   refine ⟨fun σ' H'=>∃ m',m' < m∧∃ (rem made:List Int) (ts':List V),σ'=[some (.ref a),some (.ref tw),some (.ref oa),some (.int n),some (.ref ob),some (.ref l2),some (.ref l1),none,none,none,none,none,none,none,none,none,none,none,none]∧rem.length=m'∧SameT tw H1 H'∧H' tw=some (.lst ts')∧ts'.length + m'≤ts.length + n∧H' l1=some (.lst (rem.map V.int))∧H' l2=some (.lst (made.map V.int))∧(made++rem).Perm (L2.upTo n),fun σ' H' h=>h,?_⟩
   walk_at "rd"
   refine ⟨tyV_lst f2',?_⟩
   walk_at "rd"
   refine ⟨tyV_lst f1',?_⟩
   walk_at "rd"
   refine ⟨a,ns,tw,ts4,_,rfl,hs1.t ht s56,ht5,by omega,by rw [List.length_map];omega,fun k H7 ts6 s7 ht6 hl6 k0 k1=>?_⟩
   rw [List.length_map] at k1
   have g1:=s7 _ _ f1' d1t
   have g2:=s7 _ _ f2' d2t
   have kl:k.toNat < rem.length:=by omega
   walk_at "rd"
   refine ⟨l1,rem.map V.int,k,k.toNat,V.int rem[k.toNat],rfl,rfl,g1,by omega,by omega,?_,by rw [List.getElem?_map,List.getElem?_eq_getElem kl];rfl,?_⟩
   ·unfold seqIndex?
    simp [List.length_map]
    omega
   ·have er:(rem.map V.int).eraseIdx k.toNat=(rem.eraseIdx k.toNat).map V.int:=map_erase _ _
    rw [er]
    walk_at "rd"
    refine rd_append (xs:=made.map V.int) (by rw [upd_ne (Ne.symm d12)];exact g2) (small1000 (by rw [List.length_map];omega)) ?_
    walk_at "rd"
    refine ⟨m - 1,by omega,rem.eraseIdx k.toNat,made++[rem[k.toNat]],ts6,rfl,by rw [List.length_eraseIdx_of_lt kl];omega,fun b u hb hbt=>?_,?_,by omega,?_,?_,?_⟩
    ·rw [upd_ne (ne_of_none hb n2),upd_ne (ne_of_none hb nn1)]
     exact s7 _ _ (s56 _ _ hb hbt) hbt
    ·rw [upd_ne (Ne.symm d2t),upd_ne (Ne.symm d1t)];exact ht6
    ·rw [upd_ne d12,upd_same]
    ·rw [upd_same,List.map_append];rfl
    ·rw [List.append_assoc]
     exact ((perm_pop kl).symm.append_left made).trans hp
  ·have rn:rem=[]:=by simpa using g
   subst rn
   rw [List.append_nil] at hp
   have hx6:=ord_tt ht s56 hx
   have hs6:=hs1.t ht s56
   have ea6:=s56 _ _ ea (ne_of ea ht (by intro z;cases z))
   have eb6:=s56 _ _ eb (ne_of eb ht (by intro z;cases z))
   have hxs6:=prs_t ht s56 hxs
   have lt6:ts4.length≤67:=by simp only [List.length_nil] at hm;omega
   clear s56 f1' g hm lpn hl4 e24 e1 s4 d1t d12 nn1 n2 hs1 ht hl hx ea eb hxs
   have ln:=nm_len hp
   have at_:∀ {k:Int},0≤k→k < n→atI (made.map V.int) k=some (V.int (made.getD k.toNat 0)):=fun {k} h0 h1=>by
    have hk:k.toNat < made.length:=by omega
    refine atI_of (i:=k.toNat) (by omega) ?_
    rw [List.getElem?_map,List.getD_eq_getElem?_getD,List.getElem?_eq_getElem hk]
    rfl
   have hinN:∀ p∈ps.map (nmP made),inN n p:=fun p hpm=>by
    obtain ⟨p0,h0,rfl⟩:=List.mem_map.mp hpm
    exact nm_pair hp (ho.ix p0 h0)
   have hinS:∀ p∈ps.map swp,inN n p:=fun p hpm=>by
    obtain ⟨p0,h0,rfl⟩:=List.mem_map.mp hpm
    obtain ⟨a1,a2,a3,a4,a5⟩:=ho.ix _ h0
    exact ⟨a3,a4,a1,a2,fun z=>a5 z.symm⟩
   have ndp:=nd_of (pw_of ho.up)
   have n8:n≤8:=ho.hi
   walk_at "rd"
   refine ⟨ob,rfl,⟨xs,SqT.of eb6⟩,?_⟩
   refine lp_tup (K:=K) (xs:=xs) (small_ln (by omega)) (fun i zs H'=>Same H6 H'∧IsAll H' zs (((ps.take i).map (nmP made)).map prD)) ⟨Same.refl _,.nil⟩ (by
    rintro i zs H' ⟨_,h⟩
    rw [h.length]
    simp
    omega) (fun i zs H' _ h=>SqT.of (h.1 _ _ eb6)) ?_ ?_
   ·rintro i x zs H7 hx7 ⟨s7,iz⟩
    obtain ⟨p0,r0,hp0,rfl,er⟩:=pr_get' (hxs6.same s7) hx7
    obtain ⟨g1,g2,g3,g4,g5⟩:=ho.ix p0 (List.mem_of_getElem? hp0)
    have em7:=s7 _ _ f2'
    walk_at "rd"
    refine rd_gtup er rfl ?_
    walk_at "rd"
    refine rd_ixL em7 (at_ g1 g2) ?_
    walk_at "rd"
    refine rd_ixL em7 (at_ g3 g4) ?_
    walk_at "rd"
    refine ⟨two_ln,fun p hp'=>?_⟩
    have s8:=Same.upd (o:=.tup [V.int (made.getD p0.1.toNat 0),V.int (made.getD p0.2.toNat 0)]) hp'
    refine ⟨s7.trans s8,?_⟩
    rw [List.take_add_one,hp0,List.map_append,List.map_append]
    exact (iz.same s8).append (.cons (.tup upd_same (.cons (.int _) (.cons (.int _) .nil))) .nil)
   rintro zs H7 ⟨s7,iz⟩ lp hlp
   rw [lx,List.take_length] at iz
   have s8:=Same.upd (o:=.lst zs) hlp
   have s78:=s7.trans s8
   have iz8:=iz.same s8
   have elp:upd H7 lp (.lst zs) lp=some (.lst zs):=upd_same
   generalize upd H7 lp (.lst zs)=H8 at s8 s78 iz8 elp
   clear s7 s8 iz hlp
   walk_at "rd"
   refine rd_sortP (.inl elp) iz8 (nm_nd hp ndp ho.ix) (fun p hpm=>(hinN p hpm).box n8) fun l vs' qn hl' ha hperm hpw=>?_
   have s9:=s78.trans (Same.upd (o:=.lst vs') hl')
   have ha9:=ha.same (Same.upd (o:=.lst vs') hl')
   have ev:upd H8 l (.lst vs') l=some (.lst vs'):=upd_same
   generalize upd H8 l (.lst vs')=H9 at s9 ha9 ev
   clear s78 iz8 elp ha hl'
   walk_at "rd"
   intro tp htp
   have s10:=s9.trans (Same.upd (o:=.tup vs') htp)
   have ha10:=ha9.same (Same.upd (o:=.tup vs') htp)
   have etp:upd H9 tp (.tup vs') tp=some (.tup vs'):=upd_same
   generalize upd H9 tp (.tup vs')=H10 at s10 ha10 etp
   clear s9 ha9 ev htp
   walk_at "rd"
   refine ⟨by show 2≤sizeLine;decide,fun yn hyn=>?_⟩
   have s11:=s10.trans (Same.upd (o:=.tup [V.int n,V.ref tp]) hyn)
   have ix1:Is (upd H10 yn (.tup [V.int n,V.ref tp])) (.ref yn) (ordD n qn):=.tup upd_same (.cons (.int _) (.cons (.tup ((Same.upd hyn) _ _ etp) (ha10.same (Same.upd hyn))) .nil))
   have on:Ord n qn:=ord_of n1 n8 (fun p hpm=>hinN p (hperm.mem_iff.mp hpm)) hpw
   have embn:=nm_emb hp ho hperm
   generalize upd H10 yn (.tup [V.int n,V.ref tp])=H11 at s11 ix1
   clear s10 ha10 etp hyn hperm hpw
   have hx11:=hx6.same s11
   have hs11:=hs6.same s11
   have ht11:=s11 _ _ ht5
   have em11:=s11 _ _ f2'
   have ea11:=s11 _ _ ea6
   have eb11:=s11 _ _ eb6
   have hxs11:=hxs6.same s11
   clear hx6 hs6 ht5 f2' ea6 eb6 hxs6 s11
   walk_at "rd"
   refine ⟨ob,rfl,⟨xs,SqT.of eb11⟩,?_⟩
   refine lp_tup (K:=K) (xs:=xs) (small_ln (by omega)) (fun i zs H'=>Same H11 H'∧IsAll H' zs (((ps.take i).map swp).map prD)) ⟨Same.refl _,.nil⟩ (by
    rintro i zs H' ⟨_,h⟩
    rw [h.length]
    simp
    omega) (fun i zs H' _ h=>SqT.of (h.1 _ _ eb11)) ?_ ?_
   ·rintro i x zs H7 hx7 ⟨s7,iz⟩
    obtain ⟨p0,r0,hp0,rfl,er⟩:=pr_get' (hxs11.same s7) hx7
    walk_at "rd"
    refine rd_gtup er rfl ?_
    walk_at "rd"
    refine ⟨two_ln,fun p hp'=>?_⟩
    have s8:=Same.upd (o:=.tup [V.int p0.2,V.int p0.1]) hp'
    refine ⟨s7.trans s8,?_⟩
    rw [List.take_add_one,hp0,List.map_append,List.map_append]
    exact (iz.same s8).append (.cons (.tup upd_same (.cons (.int _) (.cons (.int _) .nil))) .nil)
   rintro zs H7 ⟨s7,iz⟩ lp hlp
   rw [lx,List.take_length] at iz
   have s8:=Same.upd (o:=.lst zs) hlp
   have s78:=s7.trans s8
   have iz8:=iz.same s8
   have elp:upd H7 lp (.lst zs) lp=some (.lst zs):=upd_same
   generalize upd H7 lp (.lst zs)=H8 at s8 s78 iz8 elp
   clear s7 s8 iz hlp
   walk_at "rd"
   refine rd_sortP (.inl elp) iz8 (nd_swp ndp) (fun p hpm=>(hinS p hpm).box n8) fun l vs' qa hl' ha hperm hpw=>?_
   have s9:=s78.trans (Same.upd (o:=.lst vs') hl')
   have ha9:=ha.same (Same.upd (o:=.lst vs') hl')
   have ev:upd H8 l (.lst vs') l=some (.lst vs'):=upd_same
   generalize upd H8 l (.lst vs')=H9 at s9 ha9 ev
   clear s78 iz8 elp ha hl'
   walk_at "rd"
   intro tp htp
   have s10:=s9.trans (Same.upd (o:=.tup vs') htp)
   have ha10:=ha9.same (Same.upd (o:=.tup vs') htp)
   have etp:upd H9 tp (.tup vs') tp=some (.tup vs'):=upd_same
   generalize upd H9 tp (.tup vs')=H10 at s10 ha10 etp
   clear s9 ha9 ev htp
   walk_at "rd"
   refine ⟨by show 2≤sizeLine;decide,fun ya hya=>?_⟩
   have s12:=s10.trans (Same.upd (o:=.tup [V.int n,V.ref tp]) hya)
   have ix2:Is (upd H10 ya (.tup [V.int n,V.ref tp])) (.ref ya) (ordD n qa):=.tup upd_same (.cons (.int _) (.cons (.tup ((Same.upd hya) _ _ etp) (ha10.same (Same.upd hya))) .nil))
   have oa2:Ord n qa:=ord_of n1 n8 (fun p hpm=>hinS p (hperm.mem_iff.mp hpm)) hpw
   have trna:Trn n ps qa:=swp_trn hperm
   generalize upd H10 ya (.tup [V.int n,V.ref tp])=H12 at s12 ix2
   clear s10 ha10 etp hya hperm hpw
   have hx12:=hx11.same s12
   have hs12:=hs11.same s12
   have ht12:=s12 _ _ ht11
   have em12:=s12 _ _ em11
   have ea12:=s12 _ _ ea11
   have eb12:=s12 _ _ eb11
   have hxs12:=hxs11.same s12
   have ix1':=ix1.same s12
   clear hx11 hs11 ht11 em11 ea11 eb11 hxs11 s12 ix1
   walk_at "rd"
   refine ⟨a,ns,tw,ts4,_,rfl,hs12,ht12,by omega,by omega,fun k13 H13 ts13 s13 ht13 hl13 k0 k1=>?_⟩
   obtain ⟨k,rfl⟩:∃ k:Nat,k13=(k:Int):=⟨k13.toNat,by omega⟩
   have hk:k < n:=by omega
   have hx13:=ord_tt ht12 s13 hx12
   have hs13:=hs12.t ht12 s13
   have em13:=s13 _ _ em12 d2t
   have ea13:=s13 _ _ ea12 (ne_of ea12 ht12 (by intro z;cases z))
   have eb13:=s13 _ _ eb12 (ne_of eb12 ht12 (by intro z;cases z))
   have hxs13:=prs_t ht12 s13 hxs12
   have ix1:=ord_tt ht12 s13 ix1'
   have ix2':=ord_tt ht12 s13 ix2
   clear hx12 hs12 ht12 em12 ea12 eb12 hxs12 s13 ix1' ix2
   walk_at "rd"
   refine ⟨ob,rfl,⟨xs,SqT.of eb13⟩,?_⟩
   refine lp_tup (K:=K) (xs:=xs) (small_ln (by omega)) (fun i zs H'=>Same H13 H'∧IsAll H' zs ((lkL n k (ps.take i)).map prD)) ⟨Same.refl _,.nil⟩ (by
    rintro i zs H' ⟨_,h⟩
    rw [h.length,List.length_map]
    refine Nat.le_trans (lkL_len _ _ _) ?_
    rw [List.length_take]
    omega) (fun i zs H' _ h=>SqT.of (h.1 _ _ eb13)) ?_ ?_
   ·rintro i x zs H7 hx7 ⟨s7,iz⟩
    obtain ⟨p0,r0,hp0,rfl,er⟩:=pr_get' (hxs13.same s7) hx7
    rw [lkL_take _ _ _ _ _ hp0]
    walk_at "rd"
    refine rd_gtup er rfl ?_
    walk_at "rd"
    refine ifB (fun g=>?_) (fun g=>?_)
    ·have g':decide (p0.1=(k:Int))=true:=by simpa using g
     rw [if_pos g']
     walk_at "rd"
     refine ⟨two_ln,fun p hp'=>?_⟩
     have s8:=Same.upd (o:=.tup [V.int n,V.int p0.2]) hp'
     refine ⟨s7.trans s8,?_⟩
     rw [List.map_append]
     exact (iz.same s8).append (.cons (.tup upd_same (.cons (.int _) (.cons (.int _) .nil))) .nil)
    ·have g':decide (p0.1=(k:Int))=false:=by simpa using g
     rw [g']
     exact ⟨s7,by simpa using iz⟩
   rintro zs H7 ⟨s7,iz⟩ lm hlm
   rw [lx,List.take_length] at iz
   have s14:=s7.trans (Same.upd (o:=.lst zs) hlm)
   have iz14:=iz.same (Same.upd (o:=.lst zs) hlm)
   have elm:upd H7 lm (.lst zs) lm=some (.lst zs):=upd_same
   have nlm:H13 lm=none:=s7.free hlm
   generalize upd H7 lm (.lst zs)=H14 at s14 iz14 elm
   clear s7 iz hlm
   walk_at "rd"
   refine ⟨tyV_lst elm,?_⟩
   walk_at "rd"
   refine ⟨ob,rfl,⟨xs,SqT.of (s14 _ _ eb13)⟩,?_⟩
   refine lp_tup (K:=K) (xs:=xs) (small_ln (by omega)) (fun i us H'=>Same H14 H'∧IsAll H' us ((lkR n k (ps.take i)).map prD)) ⟨Same.refl _,.nil⟩ (by
    rintro i us H' ⟨_,h⟩
    rw [h.length,List.length_map]
    refine Nat.le_trans (lkR_len _ _ _) ?_
    rw [List.length_take]
    omega) (fun i us H' _ h=>SqT.of (h.1 _ _ (s14 _ _ eb13))) ?_ ?_
   ·rintro i x us H7 hx7 ⟨s7,iz⟩
    obtain ⟨p0,r0,hp0,rfl,er⟩:=pr_get' ((hxs13.same s14).same s7) hx7
    rw [lkR_take _ _ _ _ _ hp0]
    walk_at "rd"
    refine rd_gtup er rfl ?_
    walk_at "rd"
    refine ifB (fun g=>?_) (fun g=>?_)
    ·have g':decide (p0.2=(k:Int))=true:=by simpa using g
     rw [if_pos g']
     walk_at "rd"
     refine ⟨two_ln,fun p hp'=>?_⟩
     have s8:=Same.upd (o:=.tup [V.int p0.1,V.int n]) hp'
     refine ⟨s7.trans s8,?_⟩
     rw [List.map_append]
     exact (iz.same s8).append (.cons (.tup upd_same (.cons (.int _) (.cons (.int _) .nil))) .nil)
    ·have g':decide (p0.2=(k:Int))=false:=by simpa using g
     rw [g']
     exact ⟨s7,by simpa using iz⟩
   rintro us H7 ⟨s7,iz⟩ lu hlu
   rw [lx,List.take_length] at iz
   have s15:=s7.trans (Same.upd (o:=.lst us) hlu)
   have iz15:=iz.same (Same.upd (o:=.lst us) hlu)
   have elu:upd H7 lu (.lst us) lu=some (.lst us):=upd_same
   generalize upd H7 lu (.lst us)=H15 at s15 iz15 elu
   clear s7 iz hlu
   have elm15:=s15 _ _ elm
   have izm:=iz14.same s15
   have s135:=s14.trans s15
   have lz:=izm.length
   have lu':=iz15.length
   rw [List.length_map] at lz lu'
   have b1:=lkL_len (n:Int) (k:Int) ps
   have b2:=lkR_len (n:Int) (k:Int) ps
   walk_at "rd"
   refine rd_extend elm15 elu (small_ln (by omega)) ?_
   have st:SameT lm H15 (upd H15 lm (.lst (zs++us))):=fun c u e g=>by rw [upd_ne g];exact e
   have s16:Same H13 (upd H15 lm (.lst (zs++us))):=fun c u e=>by rw [upd_ne (ne_of_none e nlm)];exact s135 _ _ e
   have iz16:=(prs_t elm15 st izm).append (prs_t elm15 st iz15)
   have elm16:upd H15 lm (.lst (zs++us)) lm=some (.lst (zs++us)):=upd_same
   generalize upd H15 lm (.lst (zs++us))=H16 at s16 iz16 elm16
   clear st s135 izm elm15 s14 s15 iz14 iz15 elu elm
   have eb16:=s16 _ _ eb13
   walk_at "rd"
   refine rd_lstT eb16 fun lc hlc=>?_
   have s17:=s16.trans (Same.upd (o:=.lst xs) hlc)
   have iz17:=iz16.same (Same.upd (o:=.lst xs) hlc)
   have elm17:=(Same.upd (o:=.lst xs) hlc) _ _ elm16
   have elc:upd H16 lc (.lst xs) lc=some (.lst xs):=upd_same
   generalize upd H16 lc (.lst xs)=H17 at s17 iz17 elm17 elc
   clear s16 iz16 elm16 eb16 hlc
   walk_at "rd"
   refine rd_cat elc elm17 (small_ln (by rw [List.length_append];omega)) fun ld hld=>?_
   have s18:=s17.trans (Same.upd (o:=.lst (xs++(zs++us))) hld)
   have iz18:IsAll (upd H17 ld (.lst (xs++(zs++us)))) (xs++(zs++us)) ((lkA n k ps).map prD):=by
    unfold lkA
    rw [List.map_append,List.map_append]
    exact (hxs13.same s18).append (iz17.same (Same.upd hld))
   have eld:upd H17 ld (.lst (xs++(zs++us))) ld=some (.lst (xs++(zs++us))):=upd_same
   generalize upd H17 ld (.lst (xs++(zs++us)))=H18 at s18 iz18 eld
   clear s17 iz17 elm17 elc hld
   walk_at "rd"
   refine rd_sortP (.inl eld) iz18 (lkA_nd ho) (fun p hpm=>(lkA_in ho hpm).box (by omega)) fun l vs' qw hl' ha hperm hpw=>?_
   have s19:=s18.trans (Same.upd (o:=.lst vs') hl')
   have ha19:=ha.same (Same.upd (o:=.lst vs') hl')
   have ev:upd H18 l (.lst vs') l=some (.lst vs'):=upd_same
   generalize upd H18 l (.lst vs')=H19 at s19 ha19 ev
   clear s18 iz18 eld ha hl'
   walk_at "rd"
   intro tp htp
   have s20:=s19.trans (Same.upd (o:=.tup vs') htp)
   have ha20:=ha19.same (Same.upd (o:=.tup vs') htp)
   have etp:upd H19 tp (.tup vs') tp=some (.tup vs'):=upd_same
   generalize upd H19 tp (.tup vs')=H20 at s20 ha20 etp
   clear s19 ha19 ev htp
   walk_at "rd"
   refine ⟨by show 2≤sizeLine;decide,fun yw hyw=>?_⟩
   have s21:=s20.trans (Same.upd (o:=.tup [V.int ((n:Int) + 1),V.ref tp]) hyw)
   have ix3:Is (upd H20 yw (.tup [V.int ((n:Int) + 1),V.ref tp])) (.ref yw) (ordD (n + 1) qw):=.tup upd_same (.cons (.int _) (.cons (.tup ((Same.upd hyw) _ _ etp) (ha20.same (Same.upd hyw))) .nil))
   have ow:Ord (n + 1) qw:=ord_of (by omega) (by omega) (fun p hpm=>lkA_in ho (hperm.mem_iff.mp hpm)) hpw
   have embw:Emb n ps (n + 1) qw (lkF n k):=lk_emb ho hk hperm
   generalize upd H20 yw (.tup [V.int ((n:Int) + 1),V.ref tp])=H21 at s21 ix3
   clear s20 ha20 etp hyw hperm hpw nlm lz lu' b1 b2
   have hx21:=hx13.same s21
   have hs21:=hs13.same s21
   have ht21:=s21 _ _ ht13
   have em21:=s21 _ _ em13
   have ea21:=s21 _ _ ea13
   have eb21:=s21 _ _ eb13
   have hxs21:=hxs13.same s21
   have ix1':=ix1.same s21
   have ix2:=ix2'.same s21
   clear hx13 hs13 ht13 em13 ea13 eb13 hxs13 s21 ix1 ix2'
   walk_at "rd"
   refine ⟨(show 4≤sizeLine by decide),fun p4 hp4=>?_⟩
   obtain ⟨os,eos⟩:∃ os:List (V×Nat×List (Int×Int)),os=[(.ref oa,n,ps),(.ref yn,n,qn),(.ref ya,n,qa),(.ref yw,n + 1,qw)]:=⟨_,rfl⟩
   have ods21:Ods H21 os:=by
    intro e he
    rw [eos] at he
    simp only [List.mem_cons,List.not_mem_nil,or_false] at he
    rcases he with rfl | rfl | rfl | rfl
    ·exact ⟨hx21,ho⟩
    ·exact ⟨ix1',on⟩
    ·exact ⟨ix2,oa2⟩
    ·exact ⟨ix3,ow⟩
   have los:os.length=4:=by rw [eos];rfl
   have eov:[V.ref oa,V.ref yn,V.ref ya,V.ref yw]=os.map (·.1):=by rw [eos];rfl
   rw [eov] at *
   have s22:=Same.upd (o:=.tup (os.map (·.1))) hp4
   have ep4:upd H21 p4 (.tup (os.map (·.1))) p4=some (.tup (os.map (·.1))):=upd_same
   generalize upd H21 p4 (.tup (os.map (·.1)))=H22 at s22 ep4
   have ods22:=ods21.same s22
   refine ⟨p4,rfl,⟨_,SqT.of ep4⟩,?_⟩
   refine lp_tup (K:=K) (xs:=os.map (·.1)) (small_ln (by rw [List.length_map];omega)) (fun i us H'=>Same H22 H'∧us=(os.take i).map fun e=>V.bl (!barB e.2.1 e.2.2)) ⟨Same.refl _,rfl⟩ (by
    rintro i us H' ⟨_,rfl⟩
    rw [List.length_map,List.length_take]
    omega) (fun i us H' _ h=>SqT.of (h.1 _ _ ep4)) ?_ ?_
   ·rintro i x us H7 hx7 ⟨s7,rfl⟩
    rw [List.getElem?_map] at hx7
    obtain ⟨e,he,rfl⟩:=Option.map_eq_some_iff.mp hx7
    obtain ⟨o1,o2⟩:=ods22 e (List.mem_of_getElem? he)
    walk_at "rd"
    refine ⟨_,e.2.1,e.2.2,rfl,o1.same s7,o2,fun v H8 s8 iv=>?_⟩
    walk_at "rd"
    rw [bar_is iv]
    refine ⟨s7.trans s8,?_⟩
    rw [List.take_add_one,he,show (some e).toList=[e] from rfl,List.map_append]
    rfl
   rintro us H7 ⟨s7,rfl⟩ lf hlf
   rw [List.length_map,List.take_length]
   have embn':Emb n ps n qn (fun i=>made.idxOf (i:Int)):=embn.sec (fun i hi=>(nm_idx hp hi).1) fun i hi=>by rw [(nm_idx hp hi).2];omega
   have hB:(os.map fun e=>V.bl (!barB e.2.1 e.2.2))=[V.bl (!barB n ps),V.bl (!barB n ps),V.bl (!barB n ps),V.bl (!barB n ps)]:=by
    rw [eos]
    show [V.bl (!barB n ps),V.bl (!barB n qn),V.bl (!barB n qa),V.bl (!barB (n + 1) qw)]=_
    rw [bar_eq (embn'.free ho on) (embn.free on ho),bar_eq (trna.free ho oa2) (trna.back.free oa2 ho),bar_eq (embw.free ho ow) ((embw.sec (g:=fun i=>i) (fun i hi=>by omega) fun i hi=>if_pos hi).free ow ho)]
   rw [hB]
   have s23:=(s22.trans s7).trans (Same.upd (o:=.lst [V.bl (!barB n ps),V.bl (!barB n ps),V.bl (!barB n ps),V.bl (!barB n ps)]) hlf)
   have elf:upd H7 lf (.lst [V.bl (!barB n ps),V.bl (!barB n ps),V.bl (!barB n ps),V.bl (!barB n ps)]) lf=some (.lst [V.bl (!barB n ps),V.bl (!barB n ps),V.bl (!barB n ps),V.bl (!barB n ps)]):=upd_same
   generalize upd H7 lf (.lst [V.bl (!barB n ps),V.bl (!barB n ps),V.bl (!barB n ps),V.bl (!barB n ps)])=H23 at s23 elf
   clear s7 hlf ods22 s22 hp4 ep4 eov los hB eos ods21
   walk_at "rd"
   refine ⟨by show 1≤sizeLine;decide,fun q1 hq1=>?_⟩
   have s24:=Same.upd (o:=.lst [V.bl true]) hq1
   walk_at "rd"
   refine rd_rep (n:=4) upd_same (by decide) fun q2 hq2=>?_
   have s25:=s24.trans (Same.upd (o:=.lst (List.replicate 4 (V.bl true))) hq2)
   have e25:upd (upd H23 q1 (.lst [V.bl true])) q2 (.lst (List.replicate 4 (V.bl true))) q2=some (.lst (List.replicate 4 (V.bl true))):=upd_same
   generalize upd (upd H23 q1 (.lst [V.bl true])) q2 (.lst (List.replicate 4 (V.bl true)))=H25 at s25 e25
   clear s24 hq1 hq2
   walk_at "rd"
   refine ⟨by show 1≤sizeLine;decide,fun q3 hq3=>?_⟩
   have s26:=Same.upd (o:=.lst [V.bl false]) hq3
   walk_at "rd"
   refine rd_rep (n:=4) upd_same (by decide) fun q4 hq4=>?_
   have s27:=s26.trans (Same.upd (o:=.lst (List.replicate 4 (V.bl false))) hq4)
   have e27:upd (upd H25 q3 (.lst [V.bl false])) q4 (.lst (List.replicate 4 (V.bl false))) q4=some (.lst (List.replicate 4 (V.bl false))):=upd_same
   have e25':=s27 _ _ e25
   have s28:=s25.trans s27
   generalize upd (upd H25 q3 (.lst [V.bl false])) q4 (.lst (List.replicate 4 (V.bl false)))=H27 at s28 e27 e25'
   clear s26 hq3 hq4 e25 s25
   walk_at "rd"
   refine ⟨by show 2≤sizeLine;decide,fun q5 hq5=>?_⟩
   have f29:=Same.upd (o:=.tup [V.ref q2,V.ref q4]) hq5
   have s29:=s28.trans f29
   have elf29:=s29 _ _ elf
   refine rd_inD (d:=.list [.bool (!barB n ps),.bool (!barB n ps),.bool (!barB n ps),.bool (!barB n ps)]) (ds:=[.list [.bool true,.bool true,.bool true,.bool true],.list [.bool false,.bool false,.bool false,.bool false]]) (.lst (.inl elf29) (.cons (.bl _) (.cons (.bl _) (.cons (.bl _) (.cons (.bl _) .nil)))))
    (.tup upd_same (.cons (.lst (.inl (f29 _ _ e25')) (.cons (.bl _) (.cons (.bl _) (.cons (.bl _) (.cons (.bl _) .nil))))) (.cons (.lst (.inl (f29 _ _ e27)) (.cons (.bl _) (.cons (.bl _) (.cons (.bl _) (.cons (.bl _) .nil))))) .nil))) (by cases barB n ps <;> exact ⟨rfl,by decide⟩) ⟨rfl,by decide⟩ ?_
   rw [show inD (.list [.bool (!barB n ps),.bool (!barB n ps),.bool (!barB n ps),.bool (!barB n ps)]) [.list [.bool true,.bool true,.bool true,.bool true],.list [.bool false,.bool false,.bool false,.bool false]]=true by cases barB n ps <;> decide]
   generalize upd H27 q5 (.tup [V.ref q2,V.ref q4])=H29 at s29 elf29
   have s2129:=s23.trans s29
   clear f29 hq5 e25' e27 s28 elf s23 s29
   walk_at "rd"
   refine ifF rfl ?_
   walk_at "rd"
   refine ifB (fun g=>?_) (fun g=>?_)
   ·walk_at "rd"
    exact q _
   have hb:barB n ps=false:=by simpa using g
   clear g elf29
   have hx29:=hx21.same s2129
   have hs29:=hs21.same s2129
   have ht29:=s2129 _ _ ht21
   have em29:=s2129 _ _ em21
   have eb29:=s2129 _ _ eb21
   have hxs29:=hxs21.same s2129
   have ix1:=ix1'.same s2129
   have ix2':=ix2.same s2129
   have ix3':=ix3.same s2129
   clear hx21 hs21 ht21 em21 ea21 eb21 hxs21 s2129 ix1' ix2 ix3
   obtain ⟨st,vals,L⟩:=ls_of ho hb
   have st1:=L.lo
   have st4:=L.hi
   obtain ⟨lv,tv,nv,mv⟩:=nums_tel ho st1 L.is
   have tpv:=small_top n7 st1 st4 L.is
   have gm:∀ {j:Nat},j < n→gt vals j∈vals:=fun {j} hj=>by
    unfold gt
    rw [List.getD_eq_getElem?_getD,List.getElem?_eq_getElem (by omega)]
    exact List.getElem_mem (by omega)
   have hbn:=embn'.free ho on hb
   have hba:=trna.free ho oa2 hb
   have hbw:=embw.free ho ow hb
   have embw':Emb (n + 1) qw n ps (fun i=>i):=embw.sec (fun i hi=>by omega) fun i hi=>if_pos hi
   obtain ⟨vn,Ln⟩:=ls_same L on hbn (fun s v h1 h=>embn'.nums ho on h1 h) fun s v h1 h=>embn.nums on ho h1 h
   obtain ⟨va,La⟩:=ls_same L oa2 hba (fun s v h1 h=>trna.nums ho oa2 h1 h) fun s v h1 h=>trna.back.nums oa2 ho h1 h
   obtain ⟨vw,Lw⟩:=ls_same L ow hbw (fun s v h1 h=>embw.nums ho ow h1 h) fun s v h1 h=>embw'.nums ow ho h1 h
   walk_at "rd"
   refine ⟨_,n,ps,st,vals,rfl,hx29,ho,hb,st1,by omega,L.is,L.no,fun H30 pl rl s30 epl erl=>?_⟩
   have hx30:=hx29.same s30
   have hs30:=hs29.same s30
   have ht30:=s30 _ _ ht29
   have em30:=s30 _ _ em29
   have eb30:=s30 _ _ eb29
   have hxs30:=hxs29.same s30
   have ix1':=ix1.same s30
   have ix2:=ix2'.same s30
   have ix3:=ix3'.same s30
   clear hx29 hs29 ht29 em29 eb29 hxs29 s30 ix1 ix2' ix3'
   walk_at "rd"
   refine rd_gtup epl rfl ?_
   clear epl
   walk_at "rd"
   refine ⟨(show 3≤sizeLine by decide),fun p5 hp5=>?_⟩
   obtain ⟨os,eos⟩:∃ os:List (V×Nat×List (Int×Int)),os=[(.ref yn,n,qn),(.ref ya,n,qa),(.ref yw,n + 1,qw)]:=⟨_,rfl⟩
   have ods30:∀ e∈os,(Is H30 e.1 (ordD e.2.1 e.2.2)∧Ord e.2.1 e.2.2)∧barB e.2.1 e.2.2=false∧∃ ve,LS e.2.1 e.2.2 st ve:=by
    intro e he
    rw [eos] at he
    simp only [List.mem_cons,List.not_mem_nil,or_false] at he
    rcases he with rfl | rfl | rfl
    ·exact ⟨⟨ix1',on⟩,hbn,vn,Ln⟩
    ·exact ⟨⟨ix2,oa2⟩,hba,va,La⟩
    ·exact ⟨⟨ix3,ow⟩,hbw,vw,Lw⟩
   have los:os.length=3:=by rw [eos];rfl
   have eov:[V.ref yn,V.ref ya,V.ref yw]=os.map (·.1):=by rw [eos];rfl
   rw [eov] at *
   clear eos eov
   have s31:=Same.upd (o:=.tup (os.map (·.1))) hp5
   have ep5:upd H30 p5 (.tup (os.map (·.1))) p5=some (.tup (os.map (·.1))):=upd_same
   generalize upd H30 p5 (.tup (os.map (·.1)))=H31 at s31 ep5
   refine ⟨p5,rfl,⟨_,SqT.of ep5⟩,?_⟩
   refine lp_tup (K:=K) (xs:=os.map (·.1)) (small_ln (by rw [List.length_map];omega)) (fun i us H'=>Same H31 H'∧us=List.replicate i (V.int st)) ⟨Same.refl _,rfl⟩ (by
    rintro i us H' ⟨_,rfl⟩
    rw [List.length_replicate]
    exact Nat.le_refl _) (fun i us H' _ h=>SqT.of (h.1 _ _ ep5)) ?_ ?_
   ·rintro i x us H7 hx7 ⟨s7,rfl⟩
    rw [List.getElem?_map] at hx7
    obtain ⟨e,he,rfl⟩:=Option.map_eq_some_iff.mp hx7
    obtain ⟨⟨o1,o2⟩,o3,ve,o4⟩:=ods30 e (List.mem_of_getElem? he)
    walk_at "rd"
    refine ⟨_,e.2.1,e.2.2,st,ve,rfl,(o1.same s31).same s7,o2,o3,st1,by omega,o4.is,o4.no,fun H8 pe re s8 epe ere=>?_⟩
    walk_at "rd"
    refine ⟨s7.trans s8,?_⟩
    rw [List.replicate_succ']
   rintro us H7 ⟨s7,rfl⟩ lf hlf
   rw [List.length_map,los]
   have s32:=(s31.trans s7).trans (Same.upd (o:=.lst (List.replicate 3 (V.int st))) hlf)
   have elf:upd H7 lf (.lst (List.replicate 3 (V.int st))) lf=some (.lst (List.replicate 3 (V.int st))):=upd_same
   generalize upd H7 lf (.lst (List.replicate 3 (V.int st)))=H32 at s32 elf
   clear s7 hlf s31 hp5 ep5 los ods30
   walk_at "rd"
   refine ⟨by show 1≤sizeLine;decide,fun q1 hq1=>?_⟩
   have s33:=Same.upd (o:=.lst [V.int st]) hq1
   walk_at "rd"
   refine rd_rep (n:=3) upd_same (by decide) fun q2 hq2=>?_
   have s34:=s33.trans (Same.upd (o:=.lst (List.replicate 3 (V.int st))) hq2)
   refine rd_eqD (d:=.list [.int st,.int st,.int st]) (e:=.list [.int st,.int st,.int st]) (.lst (.inl (s34 _ _ elf)) (.cons (.int _) (.cons (.int _) (.cons (.int _) .nil)))) (.lst (.inl upd_same) (.cons (.int _) (.cons (.int _) (.cons (.int _) .nil)))) ⟨rfl,(show 1≤40 by decide)⟩ ⟨rfl,(show 1≤40 by decide)⟩ ?_
   rw [show PyData.eqv (.list [.int st,.int st,.int st]) (.list [.int st,.int st,.int st])=true by simp [PyData.eqv,PyData.eqvAll]]
   have s35:=s32.trans s34
   generalize upd (upd H32 q1 (.lst [V.int st])) q2 (.lst (List.replicate 3 (V.int st)))=H35 at s35
   clear s33 s34 hq1 hq2 s32 elf
   walk_at "rd"
   refine ifF rfl ?_
   have hx35:=hx30.same s35
   have hs35:=hs30.same s35
   have ht35:=s35 _ _ ht30
   have em35:=s35 _ _ em30
   have eb35:=s35 _ _ eb30
   have hxs35:=hxs30.same s35
   have ix1:=ix1'.same s35
   have ix2':=ix2.same s35
   have ix3':=ix3.same s35
   have er35:=s35 _ _ erl
   clear hx30 hs30 ht30 em30 eb30 hxs30 s35 ix1' ix2 ix3 erl
   walk_at "rd"
   refine ⟨_,n,qa,rfl,ix2',oa2,hba,fun M1 m1 H36 s36 hM1 hm1=>?_⟩
   walk_at "rd"
   refine ⟨_,n,ps,rfl,hx35.same s36,ho,hb,fun M2 m2 H37 s37 hM2 hm2=>?_⟩
   have em12:m1=m2:=Int.le_antisymm (lon_le_rev oa2 (sem_of oa2 hba) (fun a b h=>trn_mem oa2 trna.back h) hM1 hm1 hM2) (lon_le_rev ho (sem_of ho hb) (fun a b h=>trn_mem ho trna h) hM2 hm2 hM1)
   subst em12
   clear hM1 hm1 hM2 hm2
   have s38:=s36.trans s37
   have hx37:=hx35.same s38
   have hs37:=hs35.same s38
   have ht37:=s38 _ _ ht35
   have em37:=s38 _ _ em35
   have eb37:=s38 _ _ eb35
   have hxs37:=hxs35.same s38
   have ix1':=ix1.same s38
   have ix2:=ix2'.same s38
   have ix3:=ix3'.same s38
   have er37:=s38 _ _ er35
   clear hx35 hs35 ht35 em35 eb35 hxs35 s38 ix1 ix2' ix3' s36 s37 er35
   walk_at "rd"
   refine ifF (by rw [beq_self_eq_true];rfl) ?_
   walk_at "rd"
   refine ⟨_,rfl,by omega,by omega,?_⟩
   rw [Int.toNat_natCast]
   refine lp_range (small_ln (by omega)) (fun i us H'=>Same H37 H'∧us=((List.range i).map fun (j:Nat)=>gt vals (made.idxOf (j:Int))).map V.int) ⟨Same.refl _,rfl⟩ (by
    rintro i us H' ⟨_,rfl⟩
    rw [List.length_map,List.length_map,List.length_range]
    exact Nat.le_refl _) ?_ ?_
   ·rintro i us H7 hi ⟨s7,rfl⟩
    have em7:=s7 _ _ em37
    have er7:=s7 _ _ er37
    obtain ⟨i1,i2⟩:=nm_idx hp hi
    walk_at "rd"
    rw [Int.zero_add] at *
    refine ⟨tyV_lst em7,?_⟩
    walk_at "rd"
    refine rd_indexD (d:=.int (i:Int)) (j:=made.idxOf (i:Int)) (e:=.int (i:Int)) em7 (IsAll.ints made) (.int _) ⟨rfl,Nat.zero_le _⟩ (okDs_ints made) (by
     rw [List.getElem?_map,List.getElem?_eq_getElem (by omega)]
     rw [List.getD_eq_getElem?_getD,List.getElem?_eq_getElem (by omega)] at i2
     exact congrArg (fun z=>some (PyData.int z)) i2) (by simp [PyData.eqv]) (fun m e hm he=>?_) ?_
    ·rw [List.getElem?_map,List.getElem?_eq_getElem (by omega)] at he
     injection he with he
     subst he
     have ne:made[m]≠(i:Int):=fun z=>by
      have:=nm_inj hp (i:=m) (j:=made.idxOf (i:Int)) (by omega) i1 (by rw [i2,List.getD_eq_getElem?_getD,List.getElem?_eq_getElem (by omega)];exact z)
      omega
     simp [PyData.eqv,ne]
    walk_at "rd"
    refine rd_ixT er7 (v:=V.int (gt vals (made.idxOf (i:Int)))) (atI_of rfl (getD_map (by omega))) ?_
    refine ⟨s7,?_⟩
    rw [List.range_succ,List.map_append,List.map_append]
    rfl
   rintro us H7 ⟨s7,rfl⟩ ln1 hln1
   have s39:=s7.trans (Same.upd (o:=.lst (((List.range n).map fun (j:Nat)=>gt vals (made.idxOf (j:Int))).map V.int)) hln1)
   have eln:upd H7 ln1 (.lst (((List.range n).map fun (j:Nat)=>gt vals (made.idxOf (j:Int))).map V.int)) ln1=some (.lst (((List.range n).map fun (j:Nat)=>gt vals (made.idxOf (j:Int))).map V.int)):=upd_same
   generalize upd H7 ln1 (.lst (((List.range n).map fun (j:Nat)=>gt vals (made.idxOf (j:Int))).map V.int))=H39 at s39 eln
   clear s7 hln1
   walk_at "rd"
   intro tn htn
   have s40:=s39.trans (Same.upd (o:=.tup (((List.range n).map fun (j:Nat)=>gt vals (made.idxOf (j:Int))).map V.int)) htn)
   have etn:upd H39 tn (.tup (((List.range n).map fun (j:Nat)=>gt vals (made.idxOf (j:Int))).map V.int)) tn=some (.tup (((List.range n).map fun (j:Nat)=>gt vals (made.idxOf (j:Int))).map V.int)):=upd_same
   generalize upd H39 tn (.tup (((List.range n).map fun (j:Nat)=>gt vals (made.idxOf (j:Int))).map V.int))=H40 at s40 etn
   clear s39 eln htn
   have toldn:toldL st ((List.range n).map fun (j:Nat)=>gt vals (made.idxOf (j:Int)))=qn:=tel_told on (by rw [List.length_map,List.length_range]) ((embn'.tel tv).congr fun i hi=>by
    unfold gt
    rw [List.getD_eq_getElem?_getD,List.getElem?_map,List.getElem?_range hi]
    rfl)
   refine ⟨_,tn,n,qn,st,_,rfl,ix1'.same s40,on,st1,by omega,etn,by rw [List.length_map,List.length_range],fun v hv=>?_,fun H41 s41=>?_⟩
   ·obtain ⟨j,hj,rfl⟩:=List.mem_map.mp hv
    have h1:=(nm_idx hp (List.mem_range.mp hj)).1
    have h2:=nv _ h1
    have h3:=tpv _ (gm h1)
    exact ⟨h2,by omega⟩
   rw [toldn,decide_eq_true rfl]
   have s42:=s40.trans s41
   have hx42:=hx37.same s42
   have hs42:=hs37.same s42
   have ht42:=s42 _ _ ht37
   have em42:=s42 _ _ em37
   have eb42:=s42 _ _ eb37
   have hxs42:=hxs37.same s42
   have ix2':=ix2.same s42
   have ix3':=ix3.same s42
   have er42:=s42 _ _ er37
   clear hx37 hs37 ht37 em37 eb37 hxs37 s42 ix2 ix3 ix1' er37 etn s40 s41 toldn
   walk_at "rd"
   have ew:=wide_vals hk embw ho ow st1 L.is Lw.is
   refine ⟨_,n + 1,qw,st,vw,rfl,ix3',ow,hbw,st1,by omega,Lw.is,Lw.no,fun H43 pw rw' s43 epw erw=>?_⟩
   rw [ew] at erw
   have er43:=s43 _ _ er42
   walk_at "rd"
   refine rd_ixT er43 (v:=V.int (gt vals k)) (atI_of rfl (getD_map (by omega))) ?_
   walk_at "rd"
   refine ⟨by show 1≤sizeLine;decide,fun q1 hq1=>?_⟩
   have f44:=Same.upd (o:=.tup [V.int (gt vals k)]) hq1
   refine rd_catU (f44 _ _ er43) upd_same (small_ln (by rw [List.length_map];show _ + 1≤1000;omega)) fun q2 H45 f45 e45=>?_
   have f46:=f44.trans f45
   have e45':H45 q2=some (.tup ((vals++[gt vals k]).map V.int)):=by rw [e45,List.map_append];rfl
   refine rd_eqD (.tup (f46 _ _ erw) (IsAll.ints _)) (.tup e45' (IsAll.ints _)) (ok_tupI _) (ok_tupI _) ?_
   rw [eqv_tupI]
   have s46:=s43.trans f46
   have hx46:=hx42.same s46
   have hs46:=hs42.same s46
   have ht46:=s46 _ _ ht42
   have eb46:=s46 _ _ eb42
   have hxs46:=hxs42.same s46
   have ix2:=ix2'.same s46
   have er46:=s46 _ _ er42
   clear hx42 hs42 ht42 em42 eb42 hxs42 s46 ix2' ix3' er42 er43 erw epw e45 e45' f44 f45 f46 hq1 s43
   walk_at "rd"
   refine ifF rfl ?_
   have posv:0 < vals.length:=by omega
   obtain ⟨C,hC,hCA⟩:=max_ex posv
   walk_at "rd"
   refine ⟨rl,rfl,⟨_,SqT.of er46⟩,?_⟩
   refine lp_tup (K:=K) (xs:=vals.map V.int) (small_ln (by rw [List.length_map];omega)) (fun i us H'=>Same H45 H'∧us=((vals.take i).map fun v=>C - v).map V.int) ⟨Same.refl _,rfl⟩ (by
    rintro i us H' ⟨_,rfl⟩
    rw [List.length_map,List.length_map,List.length_take]
    omega) (fun i us H' _ h=>SqT.of (h.1 _ _ er46)) ?_ ?_
   ·rintro i x us H7 hx7 ⟨s7,rfl⟩
    rw [List.getElem?_map] at hx7
    obtain ⟨v,hv,rfl⟩:=Option.map_eq_some_iff.mp hx7
    have er7:=s7 _ _ er46
    walk_at "rd"
    refine rd_maxT er7 posv fun M hM hA=>?_
    obtain rfl:M=C:=Int.le_antisymm (hCA M hM) (hA C hC)
    walk_at "rd"
    refine ⟨s7,?_⟩
    rw [List.take_add_one,hv,show (some v).toList=[v] from rfl,List.map_append,List.map_append]
    rfl
   rintro us H7 ⟨s7,rfl⟩ ln1 hln1
   rw [List.length_map,List.take_length]
   have s47:=s7.trans (Same.upd (o:=.lst ((vals.map fun v=>C - v).map V.int)) hln1)
   have eln:upd H7 ln1 (.lst ((vals.map fun v=>C - v).map V.int)) ln1=some (.lst ((vals.map fun v=>C - v).map V.int)):=upd_same
   generalize upd H7 ln1 (.lst ((vals.map fun v=>C - v).map V.int))=H47 at s47 eln
   clear s7 hln1
   walk_at "rd"
   intro tn htn
   have s48:=s47.trans (Same.upd (o:=.tup ((vals.map fun v=>C - v).map V.int)) htn)
   have etn:upd H47 tn (.tup ((vals.map fun v=>C - v).map V.int)) tn=some (.tup ((vals.map fun v=>C - v).map V.int)):=upd_same
   generalize upd H47 tn (.tup ((vals.map fun v=>C - v).map V.int))=H48 at s48 etn
   clear s47 eln htn
   have tolda:toldL st (vals.map fun v=>C - v)=qa:=tel_told oa2 (by rw [List.length_map,lv]) ((trna.tel tv C).congr fun i hi=>gt_map (by omega))
   refine ⟨_,tn,n,qa,st,_,rfl,ix2.same s48,oa2,st1,by omega,etn,by rw [List.length_map,lv],fun v hv=>?_,fun H49 s49=>?_⟩
   ·obtain ⟨u,hu,rfl⟩:=List.mem_map.mp hv
    have h1:=hCA u hu
    have h2:=tpv C hC
    obtain ⟨j,hj,ej⟩:=List.getElem_of_mem hu
    have h3:=nv j (by omega)
    have h4:gt vals j=u:=by unfold gt;rw [List.getD_eq_getElem?_getD,List.getElem?_eq_getElem hj];exact ej
    omega
   rw [tolda,decide_eq_true rfl]
   have s50:=s48.trans s49
   have hx50:=hx46.same s50
   have hs50:=hs46.same s50
   have ht50:=s50 _ _ ht46
   have eb50:=s50 _ _ eb46
   have hxs50:=hxs46.same s50
   have er50:=s50 _ _ er46
   clear hx46 hs46 ht46 eb46 hxs46 s50 ix2 er46 etn s48 s49 tolda hC hCA
   walk_at "rd"
   refine ⟨a,ns,tw,_,_,rfl,hs50,ht50,by omega,by decide,fun r51 H51 ts51 s51 ht51 hl51 r0 r1=>?_⟩
   have hx51:=ord_tt ht50 s51 hx50
   have hs51:=hs50.t ht50 s51
   have eb51:=s51 _ _ eb50 (ne_of eb50 ht50 (by intro z;cases z))
   have hxs51:=prs_t ht50 s51 hxs50
   have er51:=s51 _ _ er50 (ne_of er50 ht50 (by intro z;cases z))
   clear hx50 hs50 ht50 eb50 hxs50 s51 er50
   obtain ⟨tm,etm⟩:∃ tm:Int,tm=2 + r51:=⟨_,rfl⟩
   walk_at "rd"
   rw [←etm]
   have tm2:2≤tm:=by omega
   have tm6:tm≤6:=by omega
   clear etm
   have ks1:1 * 1≤tm * st:=Int.mul_le_mul (by omega) (by omega) (by omega) (by omega)
   have ks2:tm * st≤6 * 4:=Int.mul_le_mul (by omega) (by omega) (by omega) (by omega)
   walk_at "rd"
   refine rd_I (.inl ⟨by omega,by omega⟩) ?_
   walk_at "rd"
   refine ⟨rl,rfl,⟨_,SqT.of er51⟩,?_⟩
   refine lp_tup (K:=K) (xs:=vals.map V.int) (small_ln (by rw [List.length_map];omega)) (fun i us H'=>Same H51 H'∧us=((vals.take i).map fun v=>tm * v).map V.int) ⟨Same.refl _,rfl⟩ (by
    rintro i us H' ⟨_,rfl⟩
    rw [List.length_map,List.length_map,List.length_take]
    omega) (fun i us H' _ h=>SqT.of (h.1 _ _ er51)) ?_ ?_
   ·rintro i x us H7 hx7 ⟨s7,rfl⟩
    rw [List.getElem?_map] at hx7
    obtain ⟨v,hv,rfl⟩:=Option.map_eq_some_iff.mp hx7
    walk_at "rd"
    refine rd_I (.inl ⟨by omega,by omega⟩) ?_
    walk_at "rd"
    refine ⟨s7,?_⟩
    rw [List.take_add_one,hv,show (some v).toList=[v] from rfl,List.map_append,List.map_append]
    rfl
   rintro us H7 ⟨s7,rfl⟩ ln1 hln1
   rw [List.length_map,List.take_length]
   have s52:=s7.trans (Same.upd (o:=.lst ((vals.map fun v=>tm * v).map V.int)) hln1)
   have eln:upd H7 ln1 (.lst ((vals.map fun v=>tm * v).map V.int)) ln1=some (.lst ((vals.map fun v=>tm * v).map V.int)):=upd_same
   generalize upd H7 ln1 (.lst ((vals.map fun v=>tm * v).map V.int))=H52 at s52 eln
   clear s7 hln1
   walk_at "rd"
   intro tn htn
   have s53:=s52.trans (Same.upd (o:=.tup ((vals.map fun v=>tm * v).map V.int)) htn)
   have etn:upd H52 tn (.tup ((vals.map fun v=>tm * v).map V.int)) tn=some (.tup ((vals.map fun v=>tm * v).map V.int)):=upd_same
   generalize upd H52 tn (.tup ((vals.map fun v=>tm * v).map V.int))=H53 at s53 etn
   clear s52 eln htn
   have toldt:toldL (tm * st) (vals.map fun v=>tm * v)=ps:=tel_told ho (by rw [List.length_map,lv]) ((tv.times (k:=tm) (by omega)).congr fun i hi=>gt_map (by omega))
   refine ⟨tm * st,tn,vals.map fun v=>tm * v,rfl,by omega,by omega,etn,by rw [List.length_map];omega,by rw [List.length_map];omega,fun v hv=>?_,fun xt H54 s54 ixt=>?_⟩
   ·obtain ⟨u,hu,rfl⟩:=List.mem_map.mp hv
    have h2:=tpv u hu
    obtain ⟨j,hj,ej⟩:=List.getElem_of_mem hu
    have h3:=nv j (by omega)
    have h4:gt vals j=u:=by unfold gt;rw [List.getD_eq_getElem?_getD,List.getElem?_eq_getElem hj];exact ej
    have h5:tm * u≤6 * 1372:=Int.mul_le_mul (by omega) (by omega) (by omega) (by omega)
    exact ⟨Int.mul_nonneg (by omega) (by omega),by omega⟩
   rw [toldt,List.length_map,lv] at ixt
   have s55:=s53.trans s54
   have hx55:=hx51.same s55
   have hs55:=hs51.same s55
   have ht55:=s55 _ _ ht51
   have eb55:=s55 _ _ eb51
   have hxs55:=hxs51.same s55
   clear hx51 hs51 ht51 eb51 hxs51 s55 er51 etn s53 s54 toldt
   walk_at "rd"
   refine rd_eqD ixt hx55 (ok_ord _ _) (ok_ord _ _) ?_
   rw [eqv_ord,decide_eq_true ⟨rfl,rfl⟩]
   clear ixt
   walk_at "rd"
   refine ifF rfl ?_
   walk_at "rd"
   refine ifB (fun g=>?_) (fun g=>?_)
   ·walk_at "rd"
    exact q _
   have n2:2≤n:=by
    have:¬(n:Int)=1:=by simpa using g
    omega
   clear g
   walk_at "rd"
   refine ⟨a,ns,tw,_,_,rfl,hs55,ht55,by omega,by omega,fun g H56 ts56 s56 ht56 hl56 g0 g1=>?_⟩
   have eb56:=s56 _ _ eb55 (ne_of eb55 ht55 (by intro z;cases z))
   have hxs56:=prs_t ht55 s56 hxs55
   clear hx55 hs55 ht55 eb55 hxs55 s56 ht56 hl56
   walk_at "rd"
   refine ⟨ob,rfl,⟨xs,SqT.of eb56⟩,?_⟩
   refine lp_tup (K:=K) (xs:=xs) (small_ln (by omega)) (fun i us H'=>H'=H56∧IsAll H56 us (((ps.take i).filter (offK g)).map prD)) ⟨rfl,.nil⟩ (by
    rintro i us H' ⟨_,h⟩
    rw [h.length,List.length_map]
    refine Nat.le_trans (List.length_filter_le _ _) ?_
    rw [List.length_take]
    omega) (fun i us H' _ h=>by rw [h.1];exact SqT.of eb56) ?_ ?_
   ·rintro i x us H7 hx7 ⟨rfl,iz⟩
    obtain ⟨p0,r0',hp0,rfl,er⟩:=pr_get' hxs56 hx7
    rw [List.take_add_one,hp0,show (some p0).toList=[p0] from rfl,List.filter_append,filter_one]
    walk_at "rd"
    refine rd_inD (.int g) (.tup er (.cons (.int _) (.cons (.int _) .nil))) ⟨rfl,Nat.zero_le _⟩ ⟨rfl,(show 0≤40 by decide)⟩ ?_
    rw [inD2]
    walk_at "rd"
    cases hw:offK g p0 with
    | true=>
     have hw':(!(decide (p0.1=g)||decide (p0.2=g)))=true:=hw
     refine ifT hw' ?_
     walk_at "rd"
     refine ⟨rfl,?_⟩
     rw [if_pos rfl,List.map_append]
     exact iz.append (.cons (.tup er (.cons (.int _) (.cons (.int _) .nil))) .nil)
    | false=>
     have hw':(!(decide (p0.1=g)||decide (p0.2=g)))=false:=hw
     refine ifF hw' ?_
     exact ⟨rfl,by simpa using iz⟩
   rintro us H7 ⟨rfl,iz⟩ lr hlr
   rw [lx,List.take_length] at iz
   have iz57:=iz.same (Same.upd (o:=.lst us) hlr)
   have elr:upd H7 lr (.lst us) lr=some (.lst us):=upd_same
   generalize upd H7 lr (.lst us)=H57 at iz57 elr
   clear iz hlr eb56 hxs56
   have lus:=iz57.length
   rw [List.length_map] at lus
   have lfl:=List.length_filter_le (offK g) ps
   walk_at "rd"
   refine ⟨lr,rfl,⟨us,SqL.of elr⟩,?_⟩
   refine lp_list (K:=K) (xs:=us) (small_ln (by omega)) (fun i zs H'=>Same H57 H'∧IsAll H' zs ((((ps.filter (offK g)).take i).map (dnP g)).map prD)) ⟨Same.refl _,.nil⟩ (by
    rintro i zs H' ⟨_,h⟩
    rw [h.length,List.length_map,List.length_map,List.length_take]
    omega) (fun i zs H' _ h=>SqL.of (h.1 _ _ elr)) ?_ ?_
   ·rintro i x zs H8 hx8 ⟨s8,iz⟩
    obtain ⟨p0,r0',hp0,rfl,er⟩:=pr_get' (iz57.same s8) hx8
    walk_at "rd"
    refine ⟨r0',rfl,⟨_,SqT.of er⟩,?_⟩
    refine lp_tup (K:=K) (xs:=[V.int p0.1,V.int p0.2]) (small_ln (by show 2≤1000;decide)) (fun j ws H'=>H'=H8∧ws=[V.int (dn g p0.1),V.int (dn g p0.2)].take j) ⟨rfl,rfl⟩ (by
     rintro j ws H' ⟨_,rfl⟩
     rw [List.length_take]
     omega) (fun j ws H' _ h=>by rw [h.1];exact SqT.of er) ?_ ?_
    ·rintro j y ws H9 hy ⟨rfl,rfl⟩
     have dn_i:∀ c:Int,c - (if decide (g < c)=true then 1 else 0)=dn g c:=fun c=>by
      unfold dn
      by_cases z:g < c
      ·rw [if_pos (decide_eq_true z),if_pos z]
      ·rw [if_neg (by simpa using z),if_neg z];omega
     match j,hy with
     | 0,hy=>
      cases hy
      walk_at "rd"
      refine ⟨rfl,?_⟩
      show [_]=[_]
      rw [←dn_i]
     | 1,hy=>
      cases hy
      walk_at "rd"
      refine ⟨rfl,?_⟩
      show [_,_]=[_,_]
      rw [←dn_i p0.2]
     | j + 2,hy=>simp at hy
    rintro ws H9 ⟨rfl,rfl⟩ lw hlw
    rw [show List.take [V.int p0.1,V.int p0.2].length [V.int (dn g p0.1),V.int (dn g p0.2)]=[V.int (dn g p0.1),V.int (dn g p0.2)] from rfl]
    have f10:=Same.upd (o:=.lst [V.int (dn g p0.1),V.int (dn g p0.2)]) hlw
    have ew10:upd H9 lw (.lst [V.int (dn g p0.1),V.int (dn g p0.2)]) lw=some (.lst [V.int (dn g p0.1),V.int (dn g p0.2)]):=upd_same
    generalize upd H9 lw (.lst [V.int (dn g p0.1),V.int (dn g p0.2)])=H10 at f10 ew10
    walk_at "rd"
    intro tq htq
    have f11:=f10.trans (Same.upd (o:=.tup [V.int (dn g p0.1),V.int (dn g p0.2)]) htq)
    refine ⟨s8.trans f11,?_⟩
    rw [List.take_add_one,hp0,show (some p0).toList=[p0] from rfl,List.map_append,List.map_append]
    exact (iz.same f11).append (.cons (.tup upd_same (.cons (.int _) (.cons (.int _) .nil))) .nil)
   rintro zs H8 ⟨s8,iz⟩ lq hlq
   rw [lus,List.take_length] at iz
   have iz58:=iz.same (Same.upd (o:=.lst zs) hlq)
   have elq:upd H8 lq (.lst zs) lq=some (.lst zs):=upd_same
   generalize upd H8 lq (.lst zs)=H58 at iz58 elq
   clear iz hlq s8 iz57 elr
   walk_at "rd"
   intro tp htp
   have iz59:=iz58.same (Same.upd (o:=.tup zs) htp)
   have etp:upd H58 tp (.tup zs) tp=some (.tup zs):=upd_same
   generalize upd H58 tp (.tup zs)=H59 at iz59 etp
   clear iz58 elq htp
   walk_at "rd"
   refine ⟨by show 2≤sizeLine;decide,fun yl hyl=>?_⟩
   have ix4:Is (upd H59 yl (.tup [V.int ((n:Int) - 1),V.ref tp])) (.ref yl) (ordD (n - 1) (withoutL g ps)):=by
    refine .tup upd_same (.cons ?_ (.cons (.tup ((Same.upd hyl) _ _ etp) (iz59.same (Same.upd hyl))) .nil))
    rw [show ((n:Int) - 1)=((n - 1:Nat):Int) by omega]
    exact .int _
   have o4:=without_ord ho g0 g1 n2
   have emb4:Emb n ps (n - 1) (withoutL g ps) (fun i=>(up g (i:Int)).toNat):=⟨fun i hi=>by
    have:=up_lt g0 g1 (i:=(i:Int)) (by omega) (by omega)
    dsimp only
    omega,fun i j hi hj=>by
    have h1:=up_lt g0 g1 (i:=(i:Int)) (by omega) (by omega)
    have h2:=up_lt g0 g1 (i:=(j:Int)) (by omega) (by omega)
    dsimp only
    rw [has_without,Int.toNat_of_nonneg h1.1,Int.toNat_of_nonneg h2.1]⟩
   have hb4:=emb4.free ho o4 hb
   generalize upd H59 yl (.tup [V.int ((n:Int) - 1),V.ref tp])=H60 at ix4
   clear iz59 etp hyl
   walk_at "rd"
   refine ⟨_,n - 1,withoutL g ps,rfl,ix4,o4,fun v H61 s61 iv=>?_⟩
   walk_at "rd"
   rw [bar_is iv,hb4]
   refine ⟨_,rfl,?_⟩
   obtain ⟨s4,v4,L4⟩:=ls_of o4 hb4
   have hle:s4≤st:=L.le L4 (emb4.nums ho o4 st1 L.is)
   walk_at "rd"
   refine ⟨_,n - 1,withoutL g ps,s4,v4,rfl,ix4.same s61,o4,hb4,L4.lo,by have:=L4.hi;omega,L4.is,L4.no,fun H62 p62 r62 s62 ep62 er62=>?_⟩
   walk_at "rd"
   rw [decide_eq_true hle]
   exact q _
end
end My
namespace My
open PySem L2
theorem of0 {P:List Value→Prop} (h:P []) (us:List Value) (e:us.length=0):P us:=by
 cases us with
 | nil=>exact h
 | cons a us=>cases e
theorem of1 {P:List Value→Prop} (h:∀ a,P [a]) (us:List Value) (e:us.length=1):P us:=by
 cases us with
 | nil=>cases e
 | cons a us=>exact of0 (P:=fun us=>P (a::us)) (h a) us (Nat.succ.inj e)
theorem of2 {P:List Value→Prop} (h:∀ a b,P [a,b]) (us:List Value) (e:us.length=2):P us:=by
 cases us with
 | nil=>cases e
 | cons a us=>exact of1 (P:=fun us=>P (a::us)) (h a) us (Nat.succ.inj e)
theorem of3 {P:List Value→Prop} (h:∀ a b c,P [a,b,c]) (us:List Value) (e:us.length=3):P us:=by
 cases us with
 | nil=>cases e
 | cons a us=>exact of2 (P:=fun us=>P (a::us)) (h a) us (Nat.succ.inj e)
theorem of4 {P:List Value→Prop} (h:∀ a b c d,P [a,b,c,d]) (us:List Value) (e:us.length=4):P us:=by
 cases us with
 | nil=>cases e
 | cons a us=>exact of3 (P:=fun us=>P (a::us)) (h a) us (Nat.succ.inj e)
theorem of5 {P:List Value→Prop} (h:∀ a b c d f,P [a,b,c,d,f]) (us:List Value) (e:us.length=5):P us:=by
 cases us with
 | nil=>cases e
 | cons a us=>exact of4 (P:=fun us=>P (a::us)) (h a) us (Nat.succ.inj e)
theorem mkF {K:PySem.W.Frag} {h:Heap} {mg:Str→Option Value} (X:K.In h) (G:h.Ns mainGlobals mg) {f:Str} {st:Stmt} {ps:List Str} {a:Addr} {od an:Option Addr} {sl:Array (Option Value)} {oc kV dc pm cd ct:Value}
  (hb:∀ (kV doc pm:Value) (an:Option Addr) (cdv ct:Value) (us:List Value),us.length=ps.length→bindArgs (PySem.W.fnOf f f (defArgs st) (defBody st) (defScope st) .none kV doc pm an cdv ct) ⟨us,[]⟩=pure (ps.zip us))
  (e:PySem.W.nsIn K mainGlobals f=some (some (.ref a))) (l:K.lookup a=some ⟨oc,od,.func (PySem.W.fnOf f f (defArgs st) (defBody st) (defScope st) .none kV dc pm an cd ct),sl⟩) (c:PySem.W.codeIn K cd f=true) (k:PySem.W.keepIn K (.ref a)=true):
  ∃ a d,mg f=some (.ref a)∧Fun K f f st a d∧Binds K d ps []:=by
 have F:=fun_mk (st:=st) l c k
 exact ⟨a,_,PySem.W.mg_of X G e,F,F.binds hb⟩
theorem mkN {K:PySem.W.Frag} {h:Heap} {mg:Str→Option Value} (X:K.In h) (G:h.Ns mainGlobals mg) {f:Str} (e:PySem.W.nsIn K mainGlobals f=some none):mg f=none:=PySem.W.mg_none_of X G e
theorem mkM {K:PySem.W.Frag} {h:Heap} {mg:Str→Option Value} (X:K.In h) (G:h.Ns mainGlobals mg) {f:Str} {C:Addr} (e:PySem.W.nsIn K mainGlobals f=some (some (.ref C))):mg f=some (.ref C):=PySem.W.mg_of X G e
theorem mkC {K:PySem.W.Frag} {h:Heap} {mg:Str→Option Value} (X:K.In h) (G:h.Ns mainGlobals mg) {f:Str} {n:Int} {tk:Tok} (e:PySem.W.nsIn K mainGlobals f=some (some (.int n tk))):∃ tk,mg f=some (.int n tk):=⟨tk,PySem.W.mg_of X G e⟩
theorem mkS {K:PySem.W.Frag} {h:Heap} {mg:Str→Option Value} (X:K.In h) (G:h.Ns mainGlobals mg) {f z:Str} {tk:Tok} (e:PySem.W.nsIn K mainGlobals f=some (some (.str z tk))):∃ tk,mg f=some (.str z tk):=⟨tk,PySem.W.mg_of X G e⟩
theorem law_binds {K:PySem.W.Frag} {a:Addr} {fd:FuncData} (F:Fun K "law" "law" s_law a fd) (s:Shared) (v:Value):BindsTo s fd ⟨[v],[]⟩ [("_law_script",v)]:=by
 obtain ⟨oc,od,kV,doc,pm,an,cdv,ct,osl,rfl,lk,hcd⟩:=F.ex
 exact .of_eq rfl
theorem walk {l:PySem.W.OpenLaw} {q:Program} {loose:List Str} {XP:(Str→Option Value)→Heap→Prop} {YP:World→Heap→Prop} {d:DefRec} {K:Params→PySem.W.Frag} (hn:l.most=some 63) (hdf:d.params.defaults=[])
  (hY:∀ (w:World) (h:Heap),YP w h→(K w.params).In h)
  (F:∀ (w:World) (mg:Str→Option Value) (fa:Addr) (h:Heap),(K w.params).In h→h.Ns mainGlobals mg→mg d.name=some (.ref fa)→
   ∃ fd:FuncData,(∀ (s:Shared) (u:Value),BindsTo s fd ⟨[u],[]⟩ [("_law_script",u)])∧∀ base:Heap,(K w.params).In base→base.Ns mainGlobals mg→FnOk l.prog w (K w.params) mg base CX0 10 fa fd ["_law_script"] (spLaw (K w.params))):
  PySem.W.WalkO q loose XP YP l.row.toRowW d [] (fun f vs=>PySem.call f vs):=
 L2.walk_of (n:=63) (k:=10) (x:="_law_script") (CX:=fun _=>CX0) (sp:=fun w=>spLaw (K w.params)) hn (by decide) hdf ⟨rfl,by decide,by decide⟩ hY F (fun _ _ a ns _ hO hS=>⟨a,ns,rfl,Scr.of hO hS,fun _=>rfl⟩) fun _ _ _ _ _ z=>z
noncomputable abbrev TSP (K:PySem.W.Frag) (mg:Str→Option Value):Prop:=(∃ a d,mg "is_whole"=some (PySem.Value.ref a)∧L2.Fun K "is_whole" "is_whole" My.s_is_whole a d∧L2.Binds K d ["value","low","high"] [])∧(∃ a d,mg "is_thing"=some (PySem.Value.ref a)∧L2.Fun K "is_thing" "is_thing" My.s_is_thing a d∧L2.Binds K d ["value","many"] [])∧(∃ a d,mg "is_pair"=some (PySem.Value.ref a)∧L2.Fun K "is_pair" "is_pair" My.s_is_pair a d∧L2.Binds K d ["value","many"] [])∧(∃ a d,mg "is_rising"=some (PySem.Value.ref a)∧L2.Fun K "is_rising" "is_rising" My.s_is_rising a d∧L2.Binds K d ["pairs"] [])∧(∃ a d,mg "is_order"=some (PySem.Value.ref a)∧L2.Fun K "is_order" "is_order" My.s_is_order a d∧L2.Binds K d ["value"] [])∧(∃ a d,mg "is_step"=some (PySem.Value.ref a)∧L2.Fun K "is_step" "is_step" My.s_is_step a d∧L2.Binds K d ["value"] [])∧(∃ a d,mg "is_numbers"=some (PySem.Value.ref a)∧L2.Fun K "is_numbers" "is_numbers" My.s_is_numbers a d∧L2.Binds K d ["value","fewest","most"] [])∧(∃ a d,mg "need_order"=some (PySem.Value.ref a)∧L2.Fun K "need_order" "need_order" My.s_need_order a d∧L2.Binds K d ["value"] [])∧(∃ a d,mg "need_step"=some (PySem.Value.ref a)∧L2.Fun K "need_step" "need_step" My.s_need_step a d∧L2.Binds K d ["value"] [])∧(∃ a d,mg "need_numbers"=some (PySem.Value.ref a)∧L2.Fun K "need_numbers" "need_numbers" My.s_need_numbers a d∧L2.Binds K d ["value","fewest","most"] [])∧(∃ a d,mg "bars_as_two"=some (PySem.Value.ref a)∧L2.Fun K "bars_as_two" "bars_as_two" My.s_bars_as_two a d∧L2.Binds K d ["pairs","a","b","c","d"] [])∧(∃ a d,mg "bars_as_three"=some (PySem.Value.ref a)∧L2.Fun K "bars_as_three" "bars_as_three" My.s_bars_as_three a d∧L2.Binds K d ["pairs","a","b","c","d"] [])∧(∃ a d,mg "first_two"=some (PySem.Value.ref a)∧L2.Fun K "first_two" "first_two" My.s_first_two a d∧L2.Binds K d ["pairs"] [])∧(∃ a d,mg "first_three"=some (PySem.Value.ref a)∧L2.Fun K "first_three" "first_three" My.s_first_three a d∧L2.Binds K d ["many","pairs"] [])∧(∃ a d,mg "bar"=some (PySem.Value.ref a)∧L2.Fun K "bar" "bar" My.s_bar a d∧L2.Binds K d ["order"] [])∧(∃ a d,mg "need_unbarred"=some (PySem.Value.ref a)∧L2.Fun K "need_unbarred" "need_unbarred" My.s_need_unbarred a d∧L2.Binds K d ["order"] [])∧(∃ a d,mg "demand"=some (PySem.Value.ref a)∧L2.Fun K "demand" "demand" My.s_demand a d∧L2.Binds K d ["pairs","step","one","other"] [])∧(∃ a d,mg "all_demands"=some (PySem.Value.ref a)∧L2.Fun K "all_demands" "all_demands" My.s_all_demands a d∧L2.Binds K d ["order","step"] [])∧(∃ a d,mg "raise_once"=some (PySem.Value.ref a)∧L2.Fun K "raise_once" "raise_once" My.s_raise_once a d∧L2.Binds K d ["demands","values","origins"] [])∧(∃ a d,mg "raise_all"=some (PySem.Value.ref a)∧L2.Fun K "raise_all" "raise_all" My.s_raise_all a d∧L2.Binds K d ["demands","values","origins"] [])∧(∃ a d,mg "least_values"=some (PySem.Value.ref a)∧L2.Fun K "least_values" "least_values" My.s_least_values a d∧L2.Binds K d ["many","demands"] [])∧(∃ a d,mg "numbers"=some (PySem.Value.ref a)∧L2.Fun K "numbers" "numbers" My.s_numbers a d∧L2.Binds K d ["order","step"] [])∧(∃ a d,mg "least"=some (PySem.Value.ref a)∧L2.Fun K "least" "least" My.s_least a d∧L2.Binds K d ["order"] [])∧(∃ a d,mg "told_pairs"=some (PySem.Value.ref a)∧L2.Fun K "told_pairs" "told_pairs" My.s_told_pairs a d∧L2.Binds K d ["step","numbers"] [])∧(∃ a d,mg "told"=some (PySem.Value.ref a)∧L2.Fun K "told" "told" My.s_told a d∧L2.Binds K d ["step","numbers"] [])∧(∃ a d,mg "fits"=some (PySem.Value.ref a)∧L2.Fun K "fits" "fits" My.s_fits a d∧L2.Binds K d ["order","step","numbers"] [])∧(∃ a d,mg "height"=some (PySem.Value.ref a)∧L2.Fun K "height" "height" My.s_height a d∧L2.Binds K d ["pairs","thing"] [])∧(∃ a d,mg "things_at"=some (PySem.Value.ref a)∧L2.Fun K "things_at" "things_at" My.s_things_at a d∧L2.Binds K d ["heights","level"] [])∧(∃ a d,mg "row"=some (PySem.Value.ref a)∧L2.Fun K "row" "row" My.s_row a d∧L2.Binds K d ["order"] [])∧(∃ a d,mg "longest"=some (PySem.Value.ref a)∧L2.Fun K "longest" "longest" My.s_longest a d∧L2.Binds K d ["order"] [])∧(∃ a d,mg "_law_cell_at"=some (PySem.Value.ref a)∧L2.Fun K "_law_cell_at" "_law_cell_at" My.s__law_cell_at a d∧L2.Binds K d ["_law_script","_law_k"] [])∧(∃ a d,mg "_law_mixed"=some (PySem.Value.ref a)∧L2.Fun K "_law_mixed" "_law_mixed" My.s__law_mixed a d∧L2.Binds K d ["_law_script","_law_k","_law_many"] [])∧(∃ a d,mg "_law_draw"=some (PySem.Value.ref a)∧L2.Fun K "_law_draw" "_law_draw" My.s__law_draw a d∧L2.Binds K d ["_law_script","_law_town","_law_many"] [])∧(∃ a d,mg "_law_pick"=some (PySem.Value.ref a)∧L2.Fun K "_law_pick" "_law_pick" My.s__law_pick a d∧L2.Binds K d ["_law_script","_law_town","_law_some"] [])∧(∃ a d,mg "_law_by"=some (PySem.Value.ref a)∧L2.Fun K "_law_by" "_law_by" My.s__law_by a d∧L2.Binds K d ["_law_step","_law_longs"] [])∧(∃ a d,mg "_law_order"=some (PySem.Value.ref a)∧L2.Fun K "_law_order" "_law_order" My.s__law_order a d∧L2.Binds K d ["_law_script","_law_town","_law_most"] [])∧(∃ a d,mg "law"=some (PySem.Value.ref a)∧L2.Fun K "law" "law" My.s_law a d∧L2.Binds K d ["_law_script"] [])∧(mg "all"=none)∧(mg "bool"=none)∧(mg "int"=none)∧(mg "isinstance"=none)∧(mg "len"=none)∧(mg "list"=none)∧(mg "max"=none)∧(mg "range"=none)∧(mg "set"=none)∧(mg "sorted"=none)∧(mg "tuple"=none)∧(∃ tk,mg "MOST_NUMBER"=some (PySem.Value.int 9999 tk))∧(∃ tk,mg "MOST_STEP"=some (PySem.Value.int 999 tk))∧(∃ tk,mg "MOST_THINGS"=some (PySem.Value.int 8 tk))
theorem txt_of {K:PySem.W.Frag} {mg:Str→Option Value} (TS:TSP K mg):∃ t:Ad,Txt K mg t:=by
 obtain ⟨⟨a0,d0,m0,F0,b0⟩,⟨a1,d1,m1,F1,b1⟩,⟨a2,d2,m2,F2,b2⟩,⟨a3,d3,m3,F3,b3⟩,⟨a4,d4,m4,F4,b4⟩,⟨a5,d5,m5,F5,b5⟩,⟨a6,d6,m6,F6,b6⟩,⟨a7,d7,m7,F7,b7⟩,⟨a8,d8,m8,F8,b8⟩,⟨a9,d9,m9,F9,b9⟩,⟨a10,d10,m10,F10,b10⟩,⟨a11,d11,m11,F11,b11⟩,⟨a12,d12,m12,F12,b12⟩,⟨a13,d13,m13,F13,b13⟩,⟨a14,d14,m14,F14,b14⟩,⟨a15,d15,m15,F15,b15⟩,⟨a16,d16,m16,F16,b16⟩,⟨a17,d17,m17,F17,b17⟩,⟨a18,d18,m18,F18,b18⟩,⟨a19,d19,m19,F19,b19⟩,⟨a20,d20,m20,F20,b20⟩,⟨a21,d21,m21,F21,b21⟩,⟨a22,d22,m22,F22,b22⟩,⟨a23,d23,m23,F23,b23⟩,⟨a24,d24,m24,F24,b24⟩,⟨a25,d25,m25,F25,b25⟩,⟨a26,d26,m26,F26,b26⟩,⟨a27,d27,m27,F27,b27⟩,⟨a28,d28,m28,F28,b28⟩,⟨a29,d29,m29,F29,b29⟩,⟨a30,d30,m30,F30,b30⟩,⟨a31,d31,m31,F31,b31⟩,⟨a32,d32,m32,F32,b32⟩,⟨a33,d33,m33,F33,b33⟩,⟨a34,d34,m34,F34,b34⟩,⟨a35,d35,m35,F35,b35⟩,⟨a36,d36,m36,F36,b36⟩,N0,N1,N2,N3,N4,N5,N6,N7,N8,N9,N10,C0,C1,C2⟩:=TS
 exact ⟨⟨a0,d0,a1,d1,a2,d2,a3,d3,a4,d4,a5,d5,a6,d6,a7,d7,a8,d8,a9,d9,a10,d10,a11,d11,a12,d12,a13,d13,a14,d14,a15,d15,a16,d16,a17,d17,a18,d18,a19,d19,a20,d20,a21,d21,a22,d22,a23,d23,a24,d24,a25,d25,a26,d26,a27,d27,a28,d28,a29,d29,a30,d30,a31,d31,a32,d32,a33,d33,a34,d34,a35,d35,a36,d36⟩,⟨m0,F0,b0,m1,F1,b1,m2,F2,b2,m3,F3,b3,m4,F4,b4,m5,F5,b5,m6,F6,b6,m7,F7,b7,m8,F8,b8,m9,F9,b9,m10,F10,b10,m11,F11,b11,m12,F12,b12,m13,F13,b13,m14,F14,b14,m15,F15,b15,m16,F16,b16,m17,F17,b17,m18,F18,b18,m19,F19,b19,m20,F20,b20,m21,F21,b21,m22,F22,b22,m23,F23,b23,m24,F24,b24,m25,F25,b25,m26,F26,b26,m27,F27,b27,m28,F28,b28,m29,F29,b29,m30,F30,b30,m31,F31,b31,m32,F32,b32,m33,F33,b33,m34,F34,b34,m35,F35,b35,m36,F36,b36,N0,N1,N2,N3,N4,N5,N6,N7,N8,N9,N10,C0,C1,C2⟩⟩
end My
open PySem PySem.W PyProof.Rows
def PySem.W.Fast.tw12973846754097508940:Nat:=0
def PySem.W.Fast.tw2938957731497186668:Nat:=0
def PySem.W.Fast.tw11629336972562710033:Nat:=0
def PySem.W.Fast.tw2266089444525824303:Nat:=0
def PySem.W.Fast.tw329699221766142983:Nat:=0
def PySem.W.Fast.tw16758340962098032909:Nat:=0
def PySem.W.Fast.tw12067023485648853711:Nat:=0
def PySem.W.Fast.tw1416043879289329101:Nat:=0
def PySem.W.Fast.tw65171727848076479:Nat:=0
def PySem.W.Fast.tw15836458609414846306:Nat:=0
def PySem.W.Fast.tw7642025606185528342:Nat:=0
def PySem.W.Fast.tw5492865040065001883:Nat:=0
def PySem.W.Fast.tw5656051263578038927:Nat:=0
def PySem.W.Fast.tw12775229999091605376:Nat:=0
def PySem.W.Fast.tw16270805931597928865:Nat:=0
def PySem.W.Fast.tw11577460854595704393:Nat:=0
def PySem.W.Fast.tw12301825847476334442:Nat:=0
def PySem.W.Fast.tw2570487796152364088:Nat:=0
def PySem.W.Fast.tw12576755460697470146:Nat:=0
def PySem.W.Fast.tw16270959311819505396:Nat:=0
def PySem.W.Fast.tw6925287527076002862:Nat:=0
def PySem.W.Fast.tw12895811185862898996:Nat:=0
def PySem.W.Fast.tw14531204495993812787:Nat:=0
def PySem.W.Fast.tw1106965335064950795:Nat:=0
def PySem.W.Fast.tw16606053098105387367:Nat:=0
def PySem.W.Fast.tw1551007495295199400:Nat:=0
def PySem.W.Fast.tw15385380293291542197:Nat:=0
def PySem.W.Fast.tw5950228621218389666:Nat:=0
def PySem.W.Fast.tw8143070929250463944:Nat:=0
def PySem.W.Fast.tw5655934934235771582:Nat:=0
def PySem.W.Fast.tw17297382037840688593:Nat:=0
def PySem.W.Fast.tw590467906700266191:Nat:=0
def PySem.W.Fast.tw14947059288837009711:Nat:=0
def PySem.W.Fast.tw264948258071228812:Nat:=0
def PySem.W.Fast.tw1668158484763172833:Nat:=0
def PySem.W.Fast.tw12788244364740017817:Nat:=0
def PySem.W.Fast.tw16472692990765331808:Nat:=0
def PySem.W.Fast.tw7789522395381927710:Nat:=0
def PySem.W.Fast.tw2780668154814200237:Nat:=0
def PySem.W.Fast.tw10651207832759497972:Nat:=0
def PySem.W.Fast.tw14442131127579168804:Nat:=0
def PySem.W.Fast.tw18392884126359894497:Nat:=0
def PySem.W.Fast.tw9896693009067690233:Nat:=0
def PySem.W.Fast.tw9314588451815182547:Nat:=0
def PySem.W.Fast.tw12211085147765627885:Nat:=0
def PySem.W.Fast.tw8510544646029935690:Nat:=0
def PySem.W.Fast.tw9161205487415221741:Nat:=0
def PySem.W.Fast.tw11482158179401302233:Nat:=0
def PySem.W.Fast.tw15070723855021193015:Nat:=0
def PySem.W.Fast.tw13043292240606285620:Nat:=0
def PySem.W.Fast.tw4246239675563914988:Nat:=0
def PySem.W.Fast.tw12481181432339992011:Nat:=0
def PySem.W.Fast.tw18353401490928866574:Nat:=0
def PySem.W.Fast.tw11357279159249370559:Nat:=0
def PySem.W.Fast.tw17039337758381563231:Nat:=0
def PySem.W.Fast.tw306733944209917519:Nat:=0
def PySem.W.Fast.tw18409897346728049095:Nat:=0
def PySem.W.Fast.tw14476027782263769028:Nat:=0
def PySem.W.Fast.tw6820046044276323949:Nat:=0
def PySem.W.Fast.tw2534708361717010299:Nat:=0
def PySem.W.Fast.tw6130922741646017207:Nat:=0
def PySem.W.Fast.tw9404345060764371745:Nat:=0
def PySem.W.Fast.tw1172320484094471252:Nat:=0
def PySem.W.Fast.tw10250673392174533191:Nat:=0
def PySem.W.Fast.tw916598749030532688:Nat:=0
def PySem.W.Fast.tw14381732042591310107:Nat:=0
def PySem.W.Fast.tw13306844949825494792:Nat:=0
def PySem.W.Fast.tw4297183439478464417:Nat:=0
def PySem.W.Fast.tw5381617299690532550:Nat:=0
def PySem.W.Fast.tw16499364614987237688:Nat:=0
def PySem.W.Fast.tw18394839176590460181:Nat:=0
def PySem.W.Fast.tw3401556616542910924:Nat:=0
def PySem.W.Fast.tw2805578835922472201:Nat:=0
def PySem.W.Fast.tw12004603219744567939:Nat:=0
def PySem.W.Fast.tw7558903214047575112:Nat:=0
def PySem.W.Fast.tw12473273603908834541:Nat:=0
def PySem.W.Fast.tw10414511268055958256:Nat:=0
def PySem.W.Fast.tw3463061117847040955:Nat:=0
def PySem.W.Fast.tw12171955376599500929:Nat:=0
def PySem.W.Fast.tw14156371493239844750:Nat:=0
def PySem.W.Fast.tw4166848393352112784:Nat:=0
def PySem.W.Fast.tw2741774724090873818:Nat:=0
def PySem.W.Fast.tw14272073234596321657:Nat:=0
def PySem.W.Fast.tw2976499193408962439:Nat:=0
def PySem.W.Fast.tw17555331439852679591:Nat:=0
def PySem.W.Fast.tw3604825871282383330:Nat:=0
set_option maxRecDepth 100000 in
set_option maxHeartbeats 0 in
theorem PySem.Challenge.cw_noticed_k07_whole_changed_holds : PySem.Challenge.rw_noticed_k07_whole_changed.Holds := by
 w_on;o_law;k_head;(case hw=>w_witness2)
 k_fill
 refine My.walk (l:=PySem.Challenge.rw_noticed_k07_whole_changed) rfl rfl (fun w h Y=>PySem.W.kIn_of Y) ?F
 case F=>
  intro w mg fa h KX G hmg
  have TS:My.TSP (L2.KOf KX) mg:=by
   refine' ⟨?t0,?t1,?t2,?t3,?t4,?t5,?t6,?t7,?t8,?t9,?t10,?t11,?t12,?t13,?t14,?t15,?t16,?t17,?t18,?t19,?t20,?t21,?t22,?t23,?t24,?t25,?t26,?t27,?t28,?t29,?t30,?t31,?t32,?t33,?t34,?t35,?t36,?t37,?t38,?t39,?t40,?t41,?t42,?t43,?t44,?t45,?t46,?t47,?t48,?t49,?t50⟩
   case t0=>
    dsimp only [L2.KOf]
    refine' My.mkF KX G ?hb ?e ?l ?c ?k
    (case hb=>exact fun _ _ _ _ _ _=>My.of3 (fun _ _ _=>rfl))
    (case e=>k_is);(case l=>k_is);(case c=>k_is);(case k=>k_is)
   case t1=>
    dsimp only [L2.KOf]
    refine' My.mkF KX G ?hb ?e ?l ?c ?k
    (case hb=>exact fun _ _ _ _ _ _=>My.of2 (fun _ _=>rfl))
    (case e=>k_is);(case l=>k_is);(case c=>k_is);(case k=>k_is)
   case t2=>
    dsimp only [L2.KOf]
    refine' My.mkF KX G ?hb ?e ?l ?c ?k
    (case hb=>exact fun _ _ _ _ _ _=>My.of2 (fun _ _=>rfl))
    (case e=>k_is);(case l=>k_is);(case c=>k_is);(case k=>k_is)
   case t3=>
    dsimp only [L2.KOf]
    refine' My.mkF KX G ?hb ?e ?l ?c ?k
    (case hb=>exact fun _ _ _ _ _ _=>My.of1 (fun _=>rfl))
    (case e=>k_is);(case l=>k_is);(case c=>k_is);(case k=>k_is)
   case t4=>
    dsimp only [L2.KOf]
    refine' My.mkF KX G ?hb ?e ?l ?c ?k
    (case hb=>exact fun _ _ _ _ _ _=>My.of1 (fun _=>rfl))
    (case e=>k_is);(case l=>k_is);(case c=>k_is);(case k=>k_is)
   case t5=>
    dsimp only [L2.KOf]
    refine' My.mkF KX G ?hb ?e ?l ?c ?k
    (case hb=>exact fun _ _ _ _ _ _=>My.of1 (fun _=>rfl))
    (case e=>k_is);(case l=>k_is);(case c=>k_is);(case k=>k_is)
   case t6=>
    dsimp only [L2.KOf]
    refine' My.mkF KX G ?hb ?e ?l ?c ?k
    (case hb=>exact fun _ _ _ _ _ _=>My.of3 (fun _ _ _=>rfl))
    (case e=>k_is);(case l=>k_is);(case c=>k_is);(case k=>k_is)
   case t7=>
    dsimp only [L2.KOf]
    refine' My.mkF KX G ?hb ?e ?l ?c ?k
    (case hb=>exact fun _ _ _ _ _ _=>My.of1 (fun _=>rfl))
    (case e=>k_is);(case l=>k_is);(case c=>k_is);(case k=>k_is)
   case t8=>
    dsimp only [L2.KOf]
    refine' My.mkF KX G ?hb ?e ?l ?c ?k
    (case hb=>exact fun _ _ _ _ _ _=>My.of1 (fun _=>rfl))
    (case e=>k_is);(case l=>k_is);(case c=>k_is);(case k=>k_is)
   case t9=>
    dsimp only [L2.KOf]
    refine' My.mkF KX G ?hb ?e ?l ?c ?k
    (case hb=>exact fun _ _ _ _ _ _=>My.of3 (fun _ _ _=>rfl))
    (case e=>k_is);(case l=>k_is);(case c=>k_is);(case k=>k_is)
   case t10=>
    dsimp only [L2.KOf]
    refine' My.mkF KX G ?hb ?e ?l ?c ?k
    (case hb=>exact fun _ _ _ _ _ _=>My.of5 (fun _ _ _ _ _=>rfl))
    (case e=>k_is);(case l=>k_is);(case c=>k_is);(case k=>k_is)
   case t11=>
    dsimp only [L2.KOf]
    refine' My.mkF KX G ?hb ?e ?l ?c ?k
    (case hb=>exact fun _ _ _ _ _ _=>My.of5 (fun _ _ _ _ _=>rfl))
    (case e=>k_is);(case l=>k_is);(case c=>k_is);(case k=>k_is)
   case t12=>
    dsimp only [L2.KOf]
    refine' My.mkF KX G ?hb ?e ?l ?c ?k
    (case hb=>exact fun _ _ _ _ _ _=>My.of1 (fun _=>rfl))
    (case e=>k_is);(case l=>k_is);(case c=>k_is);(case k=>k_is)
   case t13=>
    dsimp only [L2.KOf]
    refine' My.mkF KX G ?hb ?e ?l ?c ?k
    (case hb=>exact fun _ _ _ _ _ _=>My.of2 (fun _ _=>rfl))
    (case e=>k_is);(case l=>k_is);(case c=>k_is);(case k=>k_is)
   case t14=>
    dsimp only [L2.KOf]
    refine' My.mkF KX G ?hb ?e ?l ?c ?k
    (case hb=>exact fun _ _ _ _ _ _=>My.of1 (fun _=>rfl))
    (case e=>k_is);(case l=>k_is);(case c=>k_is);(case k=>k_is)
   case t15=>
    dsimp only [L2.KOf]
    refine' My.mkF KX G ?hb ?e ?l ?c ?k
    (case hb=>exact fun _ _ _ _ _ _=>My.of1 (fun _=>rfl))
    (case e=>k_is);(case l=>k_is);(case c=>k_is);(case k=>k_is)
   case t16=>
    dsimp only [L2.KOf]
    refine' My.mkF KX G ?hb ?e ?l ?c ?k
    (case hb=>exact fun _ _ _ _ _ _=>My.of4 (fun _ _ _ _=>rfl))
    (case e=>k_is);(case l=>k_is);(case c=>k_is);(case k=>k_is)
   case t17=>
    dsimp only [L2.KOf]
    refine' My.mkF KX G ?hb ?e ?l ?c ?k
    (case hb=>exact fun _ _ _ _ _ _=>My.of2 (fun _ _=>rfl))
    (case e=>k_is);(case l=>k_is);(case c=>k_is);(case k=>k_is)
   case t18=>
    dsimp only [L2.KOf]
    refine' My.mkF KX G ?hb ?e ?l ?c ?k
    (case hb=>exact fun _ _ _ _ _ _=>My.of3 (fun _ _ _=>rfl))
    (case e=>k_is);(case l=>k_is);(case c=>k_is);(case k=>k_is)
   case t19=>
    dsimp only [L2.KOf]
    refine' My.mkF KX G ?hb ?e ?l ?c ?k
    (case hb=>exact fun _ _ _ _ _ _=>My.of3 (fun _ _ _=>rfl))
    (case e=>k_is);(case l=>k_is);(case c=>k_is);(case k=>k_is)
   case t20=>
    dsimp only [L2.KOf]
    refine' My.mkF KX G ?hb ?e ?l ?c ?k
    (case hb=>exact fun _ _ _ _ _ _=>My.of2 (fun _ _=>rfl))
    (case e=>k_is);(case l=>k_is);(case c=>k_is);(case k=>k_is)
   case t21=>
    dsimp only [L2.KOf]
    refine' My.mkF KX G ?hb ?e ?l ?c ?k
    (case hb=>exact fun _ _ _ _ _ _=>My.of2 (fun _ _=>rfl))
    (case e=>k_is);(case l=>k_is);(case c=>k_is);(case k=>k_is)
   case t22=>
    dsimp only [L2.KOf]
    refine' My.mkF KX G ?hb ?e ?l ?c ?k
    (case hb=>exact fun _ _ _ _ _ _=>My.of1 (fun _=>rfl))
    (case e=>k_is);(case l=>k_is);(case c=>k_is);(case k=>k_is)
   case t23=>
    dsimp only [L2.KOf]
    refine' My.mkF KX G ?hb ?e ?l ?c ?k
    (case hb=>exact fun _ _ _ _ _ _=>My.of2 (fun _ _=>rfl))
    (case e=>k_is);(case l=>k_is);(case c=>k_is);(case k=>k_is)
   case t24=>
    dsimp only [L2.KOf]
    refine' My.mkF KX G ?hb ?e ?l ?c ?k
    (case hb=>exact fun _ _ _ _ _ _=>My.of2 (fun _ _=>rfl))
    (case e=>k_is);(case l=>k_is);(case c=>k_is);(case k=>k_is)
   case t25=>
    dsimp only [L2.KOf]
    refine' My.mkF KX G ?hb ?e ?l ?c ?k
    (case hb=>exact fun _ _ _ _ _ _=>My.of3 (fun _ _ _=>rfl))
    (case e=>k_is);(case l=>k_is);(case c=>k_is);(case k=>k_is)
   case t26=>
    dsimp only [L2.KOf]
    refine' My.mkF KX G ?hb ?e ?l ?c ?k
    (case hb=>exact fun _ _ _ _ _ _=>My.of2 (fun _ _=>rfl))
    (case e=>k_is);(case l=>k_is);(case c=>k_is);(case k=>k_is)
   case t27=>
    dsimp only [L2.KOf]
    refine' My.mkF KX G ?hb ?e ?l ?c ?k
    (case hb=>exact fun _ _ _ _ _ _=>My.of2 (fun _ _=>rfl))
    (case e=>k_is);(case l=>k_is);(case c=>k_is);(case k=>k_is)
   case t28=>
    dsimp only [L2.KOf]
    refine' My.mkF KX G ?hb ?e ?l ?c ?k
    (case hb=>exact fun _ _ _ _ _ _=>My.of1 (fun _=>rfl))
    (case e=>k_is);(case l=>k_is);(case c=>k_is);(case k=>k_is)
   case t29=>
    dsimp only [L2.KOf]
    refine' My.mkF KX G ?hb ?e ?l ?c ?k
    (case hb=>exact fun _ _ _ _ _ _=>My.of1 (fun _=>rfl))
    (case e=>k_is);(case l=>k_is);(case c=>k_is);(case k=>k_is)
   case t30=>
    dsimp only [L2.KOf]
    refine' My.mkF KX G ?hb ?e ?l ?c ?k
    (case hb=>exact fun _ _ _ _ _ _=>My.of2 (fun _ _=>rfl))
    (case e=>k_is);(case l=>k_is);(case c=>k_is);(case k=>k_is)
   case t31=>
    dsimp only [L2.KOf]
    refine' My.mkF KX G ?hb ?e ?l ?c ?k
    (case hb=>exact fun _ _ _ _ _ _=>My.of3 (fun _ _ _=>rfl))
    (case e=>k_is);(case l=>k_is);(case c=>k_is);(case k=>k_is)
   case t32=>
    dsimp only [L2.KOf]
    refine' My.mkF KX G ?hb ?e ?l ?c ?k
    (case hb=>exact fun _ _ _ _ _ _=>My.of3 (fun _ _ _=>rfl))
    (case e=>k_is);(case l=>k_is);(case c=>k_is);(case k=>k_is)
   case t33=>
    dsimp only [L2.KOf]
    refine' My.mkF KX G ?hb ?e ?l ?c ?k
    (case hb=>exact fun _ _ _ _ _ _=>My.of3 (fun _ _ _=>rfl))
    (case e=>k_is);(case l=>k_is);(case c=>k_is);(case k=>k_is)
   case t34=>
    dsimp only [L2.KOf]
    refine' My.mkF KX G ?hb ?e ?l ?c ?k
    (case hb=>exact fun _ _ _ _ _ _=>My.of2 (fun _ _=>rfl))
    (case e=>k_is);(case l=>k_is);(case c=>k_is);(case k=>k_is)
   case t35=>
    dsimp only [L2.KOf]
    refine' My.mkF KX G ?hb ?e ?l ?c ?k
    (case hb=>exact fun _ _ _ _ _ _=>My.of3 (fun _ _ _=>rfl))
    (case e=>k_is);(case l=>k_is);(case c=>k_is);(case k=>k_is)
   case t36=>
    dsimp only [L2.KOf]
    refine' My.mkF KX G ?hb ?e ?l ?c ?k
    (case hb=>exact fun _ _ _ _ _ _=>My.of1 (fun _=>rfl))
    (case e=>k_is);(case l=>k_is);(case c=>k_is);(case k=>k_is)
   case t37=>
    refine' My.mkN KX G ?e
    (case e=>k_is)
   case t38=>
    refine' My.mkN KX G ?e
    (case e=>k_is)
   case t39=>
    refine' My.mkN KX G ?e
    (case e=>k_is)
   case t40=>
    refine' My.mkN KX G ?e
    (case e=>k_is)
   case t41=>
    refine' My.mkN KX G ?e
    (case e=>k_is)
   case t42=>
    refine' My.mkN KX G ?e
    (case e=>k_is)
   case t43=>
    refine' My.mkN KX G ?e
    (case e=>k_is)
   case t44=>
    refine' My.mkN KX G ?e
    (case e=>k_is)
   case t45=>
    refine' My.mkN KX G ?e
    (case e=>k_is)
   case t46=>
    refine' My.mkN KX G ?e
    (case e=>k_is)
   case t47=>
    refine' My.mkN KX G ?e
    (case e=>k_is)
   case t48=>
    refine' My.mkC KX G ?e
    (case e=>k_is)
   case t49=>
    refine' My.mkC KX G ?e
    (case e=>k_is)
   case t50=>
    refine' My.mkC KX G ?e
    (case e=>k_is)
  obtain ⟨t,T⟩:=My.txt_of TS
  have e:=hmg.symm.trans T.m_law
  cases e
  exact ⟨_,My.law_binds T.F_law,fun base _ _=>My.ok_law T⟩
#print axioms PySem.Challenge.cw_noticed_k07_whole_changed_holds
