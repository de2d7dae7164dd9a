import PyProof.Rows.All
import Wide.All
import OpenK.AllK
import Wide.FinOn
import Lean
import PyProof.EqAt
import PyProof.EqKinds
import PyProof.TupleCall
import PyProof.P3Eq
import PyProof.P3In
import PyProof.NeData
import KE.KSortTup
import KE.LcSums
import PyProof.Rows.TupAdd
import KE.KTryMore
import OpenK.KOwn
import PyProof.NsDelKeeps
import PyProof.ExcArgsOwn
import KE.KIsAll
import KE.KDictOf
import KE.KLam
import KE.KMinKey
import KE.KNest
import KE.KNestM
import KE.KRevIter
import PyProof.AttrMissHeap
import PyProof.Draws
import PyProof.EnumMake
import PyProof.FactsAll.tuple
import PyProof.ListMulRoad
import PyProof.ListRange
import PyProof.Rows.MinMaxN
import PyProof.Rows.SetFrom
import PyProof.Rows.SumAny
import PyProof.SliceList
import PyProof.TupleOfSeq
import PyProof.WalkInts
import PyProof.WalksMore
import PyProof.ZipIter
import PySem.Challenge.RW_noticed_k06_whole_all_orders
set_option Elab.async false
set_option linter.all false
set_option maxRecDepth 100000
namespace L2
open PySem PySem.Spec PyProof.Rows
noncomputable abbrev Key:=Sum Int Str
noncomputable def keyIs:Key→Value→Bool
 | .inl k,v=>Value.isInt k v
 | .inr x,v=>Value.isStrOf x v
noncomputable def keyH (w:World):Key→Int
 | .inl k=>hashInt k
 | .inr x=>hashStr w x
theorem keyIs_shape:∀ {k:Key} {v:Value},keyIs k v=true→(∃ i t,k=Sum.inl i∧v=Value.int i t)∨(∃ x t,k=Sum.inr x∧v=Value.str x t)
 | .inl i,v,h=>by
  obtain ⟨t,e⟩:=Value.isInt_shape (k:=i) (v:=v) h
  exact .inl ⟨i,t,rfl,e⟩
 | .inr x,v,h=>by
  obtain ⟨t,e⟩:=Value.isStrOf_shape (x:=x) (v:=v) h
  exact .inr ⟨x,t,rfl,e⟩
theorem keyIs_int (i:Int) (t:Tok):keyIs (.inl i) (.int i t)=true:=by simp [keyIs,Value.isInt]
theorem keyIs_str (x:Str) (t:Tok):keyIs (.inr x) (.str x t)=true:=by simp [keyIs,Value.isStrOf]
theorem key_ll (a b:Int):decide ((Sum.inl a:Key)=Sum.inl b)=(a==b):=by
 by_cases e:a=b
 ·subst e;simp
 ·have h:¬(Sum.inl a:Key)=Sum.inl b:=fun q=>e (Sum.inl.inj q)
  rw [decide_eq_false h]
  exact (beq_eq_false_iff_ne.mpr e).symm
theorem key_rr (a b:Str):decide ((Sum.inr a:Key)=Sum.inr b)=decide (a=b):=by
 by_cases e:a=b
 ·subst e;simp
 ·have h:¬(Sum.inr a:Key)=Sum.inr b:=fun q=>e (Sum.inr.inj q)
  rw [decide_eq_false h,decide_eq_false e]
theorem key_lr (a:Int) (b:Str):decide ((Sum.inl a:Key)=Sum.inr b)=false:=decide_eq_false (fun q=>nomatch q)
theorem key_rl (a:Str) (b:Int):decide ((Sum.inr a:Key)=Sum.inl b)=false:=decide_eq_false (fun q=>nomatch q)
noncomputable def mixKind (prog:Program) (w:World):PySem.KeyKind prog w Key where
 is:=keyIs
 hash:=keyH w
 inj:=fun v a b ha hb=>by
  rcases keyIs_shape ha with ⟨i,t,rfl,rfl⟩ | ⟨x,t,rfl,rfl⟩
  ·rcases keyIs_shape hb with ⟨j,u,rfl,e⟩ | ⟨y,u,rfl,e⟩
   ·injection e with e1 _;rw [e1]
   ·exact nomatch e
  ·rcases keyIs_shape hb with ⟨j,u,rfl,e⟩ | ⟨y,u,rfl,e⟩
   ·exact nomatch e
   ·injection e with e1 _;rw [e1]
 byValue:=fun k v h=>by
  rcases keyIs_shape h with ⟨i,t,rfl,rfl⟩ | ⟨x,t,rfl,rfl⟩ <;> rfl
 pyHash:=fun hv h=>by
  rcases keyIs_shape hv with ⟨i,t,rfl,rfl⟩ | ⟨x,t,rfl,rfl⟩
  ·exact wpAny_pyHash_int h
  ·exact wpAny_pyHash_str h
 eqBool:=fun hu hv h=>by
  rcases keyIs_shape hu with ⟨i,t,rfl,rfl⟩ | ⟨x,t,rfl,rfl⟩
  ·rcases keyIs_shape hv with ⟨j,u,rfl,rfl⟩ | ⟨y,u,rfl,rfl⟩
   ·rw [key_ll] at h;exact wpAny_eqBool_int h
   ·rw [key_lr] at h;exact SeqAt.EqAt.int_str i t y u _ _ _ _ h
  ·rcases keyIs_shape hv with ⟨j,u,rfl,rfl⟩ | ⟨y,u,rfl,rfl⟩
   ·rw [key_rl] at h;exact SeqAt.EqAt.str_int x t j u _ _ _ _ h
   ·rw [key_rr] at h;exact wpAny_eqBool_str h
 «strs»:=fun k x t v h=>by
  rcases keyIs_shape h with ⟨i,u,rfl,e⟩ | ⟨y,u,rfl,e⟩
  ·exact nomatch e
  ·injection e with e1 _
   subst e1
   cases v <;> rfl
theorem mixKind_int (prog:Program) (w:World) (i:Int) (t:Tok):(mixKind prog w).is (.inl i) (.int i t)=true:=keyIs_int i t
theorem mixKind_str (prog:Program) (w:World) (x:Str) (t:Tok):(mixKind prog w).is (.inr x) (.str x t)=true:=keyIs_str x t
end L2
namespace L2
open PySem PySem.Spec PyProof.Rows
inductive V where
 | non | bl (b:Bool) | int (i:Int) | str (x:Str) | byt (b:Array UInt8) | flt (b:UInt64) | ref (a:Addr) | ty (n:String)
 deriving DecidableEq
noncomputable def RelV:V→Value→Prop
 | .non,u=>u=Value.none
 | .bl b,u=>u=Value.bool b
 | .int i,u=>∃ t,u=Value.int i t
 | .str x,u=>∃ t,u=Value.str x t
 | .byt b,u=>∃ t,u=Value.bytes b t
 | .flt b,u=>∃ t,u=Value.float b t
 | .ref a,u=>u=Value.ref a
 | .ty n,u=>u=Value.type n
noncomputable abbrev Vals:List V→List Value→Prop:=Paired RelV
theorem Vals.length {xs:List V} {us:List Value} (r:Vals xs us):xs.length=us.length:=Paired.length r
theorem Vals.get:∀ {xs:List V} {us:List Value} {i:Nat} {x:V},Vals xs us→xs[i]? =some x→∃ u,us[i]? =some u∧RelV x u
 | _,_,_,_,.nil,e=>by simp at e
 | _,_,0,_,.cons r _,e=>by simp at e;subst e;exact ⟨_,rfl,r⟩
 | _,_,i + 1,x,.cons _ t,e=>by
  obtain ⟨u,h1,h2⟩:=Vals.get (i:=i) (x:=x) t (by simpa using e)
  exact ⟨u,by simpa using h1,h2⟩
theorem Vals.set {x:V} {u:Value} (r:RelV x u):∀ {xs:List V} {us:List Value} (i:Nat),Vals xs us→Vals (xs.set i x) (us.set i u)
 | _,_,_,.nil=>.nil
 | _,_,0,.cons _ t=>.cons r t
 | _,_,i + 1,.cons q t=>.cons q (Vals.set r i t)
theorem Vals.append:∀ {xs ys:List V} {us ws:List Value},Vals xs us→Vals ys ws→Vals (xs++ys) (us++ws)
 | _,_,_,_,.nil,s=>s
 | _,_,_,_,.cons r t,s=>.cons r (Vals.append t s)
theorem Vals.take:∀ {xs:List V} {us:List Value} (n:Nat),Vals xs us→Vals (xs.take n) (us.take n)
 | _,_,0,_=>.nil
 | _,_,_ + 1,.nil=>.nil
 | _,_,n + 1,.cons r t=>.cons r (Vals.take n t)
theorem Vals.drop:∀ {xs:List V} {us:List Value} (n:Nat),Vals xs us→Vals (xs.drop n) (us.drop n)
 | _,_,0,r=>r
 | _,_,_ + 1,.nil=>.nil
 | _,_,n + 1,.cons _ t=>Vals.drop n t
theorem Vals.none_of:∀ {xs:List V} {us:List Value} {i:Nat},Vals xs us→xs[i]? =none→us[i]? =none:=fun {xs us i} r e=>by
 have h1:=r.length
 have h2:xs.length≤i:=List.getElem?_eq_none_iff.mp e
 exact List.getElem?_eq_none_iff.mpr (by omega)
noncomputable def RelO:Option V→Option Value→Prop
 | some v,some u=>RelV v u
 | none,none=>True
 | _,_=>False
noncomputable def KV {κ:Type}:List (κ×V)→List (κ×Value)→Prop:=Paired fun (p:κ×V) (q:κ×Value)=>p.1=q.1∧RelV p.2 q.2
noncomputable def kV:Key→V
 | .inl i=>.int i
 | .inr x=>.str x
inductive HO where
 | lst (xs:List V)
 | tup (xs:List V)
 | dK (kvs:List (Key×V)) | dT (kvs:List (List Key×V))
 | set (S:Int→Bool) (n:Nat)
 | ins (C dx:Addr) (fs:List (Str×V))
 | own (x:Addr)
 | xd (fs:List (Str×V))
 | met (f x:Addr)
 | rng (lo hi:Int)
 | frz (o:Obj) (u:HO)
 | tbl (ps:Array Value)
 | ext (φ:Heap→Prop)
noncomputable abbrev Hp:=Addr→Option HO
noncomputable def upd (H:Hp) (a:Addr) (o:HO):Hp:=fun b=>if b=a then some o else H b
theorem upd_same {H:Hp} {a:Addr} {o:HO}:upd H a o a=some o:=by unfold upd;rw [if_pos rfl]
theorem upd_ne {H:Hp} {a b:Addr} {o:HO} (h:b≠a):upd H a o b=H b:=by unfold upd;rw [if_neg h]
theorem upd_upd {H:Hp} {a:Addr} {o u:HO}:upd (upd H a o) a u=upd H a u:=by
 funext b;unfold upd;split <;> rfl
theorem ne_of {H:Hp} {a b:Addr} {o u:HO} (h:H a=some o) (h':H b=some u) (d:o≠u):a≠b:=by
 intro e;subst e;rw [h] at h';exact d (Option.some.inj h')
theorem ne_of_none {H:Hp} {a b:Addr} {o:HO} (h:H a=some o) (h':H b=none):a≠b:=by
 intro e;subst e;rw [h] at h';cases h'
noncomputable def IsTupN (h:Heap) (a:Addr) (items:Array Value):Prop:=IsTup h a items∧∃ o,h.get? a=some o∧o.dict=none
theorem IsTupN.new (h:Heap) (items:Array Value):IsTupN (h.push { cls:=.type "tuple",data:=.seq items }) h.objs.size items:=⟨IsTup.new h items,_,Heap.get?_push_size _ rfl,rfl⟩
section
variable (P:Program) (w:World)
noncomputable def ObjOk (H:Hp) (h:Heap) (a:Addr):HO→Prop
 | .lst xs=>xs.length≤sizeLine∧∃ (its:List Value) (n:Nat),Vals xs its∧h.get? a=some { cls:=.type "list",data:=.seq its.toArray n }
 | .tup xs=>xs.length≤sizeLine∧∃ its:List Value,Vals xs its∧IsTupN h a its.toArray
 | .dK kvs=>kvs.length≤sizeLine∧(a==sysModules)=false∧∃ vs,KV kvs vs∧h.DictOf (mixKind P w) a vs
 | .dT kvs=>kvs.length≤sizeLine∧(a==sysModules)=false∧∃ xs:List (List Key×Addr×Value),
   Paired (fun (p:List Key×V) (q:List Key×Addr×Value)=>p.1=q.1∧H q.2.1=some (.tup (p.1.map kV))∧RelV p.2 q.2.2) kvs xs∧
   ∃ o es ep,h.get? a=some o∧o.ExactDict∧o.data=.dict es ep∧es.toList=xs.map (entryOfKey (tupleKind (mixKind P w)))∧(xs.map (·.1)).Nodup
 | .set S n=>h.SetOf (intKind P w) a S n
 | .ins C dx fs=>H dx=some (.own a)∧fs.length≤1000∧dx≠a∧h.get? a=some (PySem.W.instObj C dx)∧
   ∃ mA,h.Ns1 dx mA∧(∀ f,RelO (fs.lookup f) (mA f))∧PySem.Within mA (fs.map (·.1))
 | .own _=>∃ o,h.get? a=some o
 | .xd fs=>∃ mA,h.Ns1 a mA∧∀ f,RelO (fs.lookup f) (mA f)
 | .rng lo hi=>∃ t u v,h.get? a=some { cls:=.type "range",data:=.fields #[.int lo t,.int hi u,.int 1 v] }
 | .frz o u=>h.get? a=some o∧ObjOk H h a u
 | .tbl ps=>h.get? a=some { cls:=.none,data:=.fields ps }
 | .met f x=>h.get? a=some (PySem.W.methodObj (.ref f) (.ref x))
 | .ext φ=>φ h∧(∃ o,h.get? a=some o)∧∀ h1 h2:Heap,φ h1→(∀ o,h1.get? a=some o→h2.get? a=some o)→φ h2
noncomputable def HOk (H:Hp) (h:Heap):Prop:=∀ a o,H a=some o→ObjOk P w H h a o
end
section
variable {P:Program} {w:World} {H H':Hp} {h h':Heap} {a:Addr} {o:HO}
theorem ObjOk.lt (x:ObjOk P w H h a o):a < h.objs.size:=by
 cases o with
 | lst xs=>obtain ⟨_,_,_,_,e⟩:=x;exact Heap.lt_size e
 | tup xs=>obtain ⟨_,_,_,p⟩:=x;exact p.1.lt
 | dK kvs=>obtain ⟨_,_,_,_,o,_,_,e,_⟩:=x;exact Heap.lt_size e
 | dT kvs=>obtain ⟨_,_,_,_,o,_,_,e,_⟩:=x;exact Heap.lt_size e
 | set S n=>obtain ⟨o,_,_,_,e,_⟩:=x;exact Heap.lt_size e
 | ins C dx fs=>obtain ⟨_,_,_,e,_⟩:=x;exact Heap.lt_size e
 | own y=>obtain ⟨_,e⟩:=x;exact Heap.lt_size e
 | xd fs=>obtain ⟨_,⟨_,_,_,e,_⟩,_⟩:=x;exact Heap.lt_size e
 | rng lo hi=>obtain ⟨_,_,_,e⟩:=x;exact Heap.lt_size e
 | frz ob u=>obtain ⟨e,_⟩:=x;exact Heap.lt_size e
 | tbl ps=>exact Heap.lt_size (show h.get? a=some _ from x)
 | met f y=>exact Heap.lt_size (show h.get? a=some _ from x)
 | ext φ=>obtain ⟨_,⟨_,e⟩,_⟩:=x;exact Heap.lt_size e
theorem Paired.mapP {α β:Type} {F G:α→β→Prop}:∀ {l₁:List α} {l₂:List β},Paired F l₁ l₂→(∀ a b,F a b→G a b)→Paired G l₁ l₂
 | _,_,.nil,_=>.nil
 | _,_,.cons r t,f=>.cons (f _ _ r) (Paired.mapP t f)
theorem ObjOk.stay (x:ObjOk P w H h a o) (k:∀ b u,(b=a∨H b=some (.own a))→h.get? b=some u→h'.get? b=some u)
  (ho:∀ b,H b=some (.own a)→H' b=some (.own a)) (ht:∀ b xs,H b=some (.tup xs)→H' b=some (.tup xs)):ObjOk P w H' h' a o:=by
 induction o with
 | lst xs=>obtain ⟨z,its,n,r,e⟩:=x;exact ⟨z,its,n,r,k _ _ (.inl rfl) e⟩
 | tup xs=>obtain ⟨z,its,r,⟨ob,e,c⟩,ob2,e2,c2⟩:=x;exact ⟨z,its,r,⟨ob,k _ _ (.inl rfl) e,c⟩,ob2,k _ _ (.inl rfl) e2,c2⟩
 | dK kvs=>obtain ⟨z,y,vs,r,ob,es,ep,e,c⟩:=x;exact ⟨z,y,vs,r,ob,es,ep,k _ _ (.inl rfl) e,c⟩
 | dT kvs=>
  obtain ⟨z,y,xs,r,ob,es,ep,e,c⟩:=x
  exact ⟨z,y,xs,Paired.mapP r fun p q z=>⟨z.1,ht _ _ z.2.1,z.2.2⟩,ob,es,ep,k _ _ (.inl rfl) e,c⟩
 | set S n=>obtain ⟨ob,es,ep,t,e,c⟩:=x;exact ⟨ob,es,ep,t,k _ _ (.inl rfl) e,c⟩
 | ins C dx fs=>
  obtain ⟨d,z,ne,e,mA,⟨od,es,ep,e2,c⟩,r⟩:=x
  exact ⟨ho _ d,z,ne,k _ _ (.inl rfl) e,mA,⟨od,es,ep,k _ _ (.inr d) e2,c⟩,r⟩
 | own y=>obtain ⟨ob,e⟩:=x;exact ⟨ob,k _ _ (.inl rfl) e⟩
 | xd fs=>obtain ⟨mA,⟨od,es,ep,e,c⟩,r⟩:=x;exact ⟨mA,⟨od,es,ep,k _ _ (.inl rfl) e,c⟩,r⟩
 | rng lo hi=>obtain ⟨t,u,v,e⟩:=x;exact ⟨t,u,v,k _ _ (.inl rfl) e⟩
 | frz ob u ih=>obtain ⟨e,q⟩:=x;exact ⟨k _ _ (.inl rfl) e,ih q⟩
 | tbl ps=>
  have e:h.get? a=some { cls:=.none,data:=.fields ps }:=x
  show h'.get? a=some { cls:=.none,data:=.fields ps }
  exact k a _ (.inl rfl) e
 | met f y=>
  have e:h.get? a=some (PySem.W.methodObj (.ref f) (.ref y)):=x
  show h'.get? a=some (PySem.W.methodObj (.ref f) (.ref y))
  exact k a _ (.inl rfl) e
 | ext φ=>obtain ⟨p,⟨o,e⟩,st⟩:=x;exact ⟨st _ _ p fun o q=>k _ _ (.inl rfl) q,⟨o,k _ _ (.inl rfl) e⟩,st⟩
theorem HOk.lt (x:HOk P w H h) (e:H a=some o):a < h.objs.size:=(x a o e).lt
theorem HOk.fresh (x:HOk P w H h) (e:h.objs.size≤a):H a=none:=by
 cases q:H a with
 | none=>rfl
 | some u=>exact absurd (Nat.lt_of_lt_of_le (x.lt q) e) (Nat.lt_irrefl _)
theorem HOk.kept (x:HOk P w H h) (k:∀ b u,h.get? b=some u→h'.get? b=some u):HOk P w H h':=fun a o e=>
 (x a o e).stay (fun b u _ q=>k b u q) (fun _ q=>q) fun _ _ q=>q
theorem HOk.laid (x:HOk P w H h) (k:∀ b u,h.get? b=some u→h'.get? b=some u) (hp:h.objs.size≤a) (new:ObjOk P w (upd H a o) h' a o):HOk P w (upd H a o) h':=fun b u e=>by
 have hn:=x.fresh hp
 by_cases hb:b=a
 ·subst hb;rw [upd_same] at e;cases e;exact new
 ·rw [upd_ne hb] at e
  exact (x b u e).stay (fun c v _ q=>k c v q) (fun c q=>by rw [upd_ne (ne_of_none q hn)];exact q) fun c xs q=>by rw [upd_ne (ne_of_none q hn)];exact q
end
noncomputable def Rd (H:Hp) (a:Addr) (u:HO):Prop:=H a=some u∨∃ o,H a=some (.frz o u)
theorem Rd.of {H:Hp} {a:Addr} {u:HO} (h:H a=some u):Rd H a u:=.inl h
theorem Rd.ok {P:Program} {w:World} {H:Hp} {h:Heap} {a:Addr} {u:HO} (r:Rd H a u) (x:HOk P w H h):ObjOk P w H h a u:=by
 rcases r with r | ⟨o,r⟩
 ·exact x a u r
 ·obtain ⟨_,q⟩:=x a _ r
  exact q
noncomputable def Mut:Option HO→Prop
 | some (.lst _)=>True
 | some (.dK _)=>True
 | some (.dT _)=>True
 | some (.set _ _)=>True
 | some (.ins _ _ _)=>True
 | some (.ext _)=>True
 | _=>False
section
variable {P:Program} {w:World} {H:Hp} {h h':Heap} {x e:Addr} {o':HO}
theorem HOk.write (ok:HOk P w H h) (mu:Mut (H x)) (he:e=x∨H e=some (.own x)) (k:∀ b u,b≠e→h.get? b=some u→h'.get? b=some u) (heo:∃ u,h'.get? e=some u)
  (new:ObjOk P w (upd H x o') h' x o'):HOk P w (upd H x o') h':=fun b u q=>by
 have nown:∀ c y,H c=some (.own y)→c≠x:=fun c y r z=>by subst z;rw [r] at mu;exact mu
 have ntup:∀ c xs,H c=some (.tup xs)→c≠x:=fun c xs r z=>by subst z;rw [r] at mu;exact mu
 by_cases hb:b=x
 ·subst hb;rw [upd_same] at q;cases q;exact new
 ·rw [upd_ne hb] at q
  by_cases hbe:b=e
  ·have q':H b=some (.own x):=by
    rcases he with z | z
    ·exact absurd (hbe.trans z) hb
    ·rw [hbe];exact z
   rw [q] at q';cases q'
   obtain ⟨v,hv⟩:=heo
   exact ⟨v,by rw [hbe];exact hv⟩
  ·refine (ok b u q).stay (fun c v hc r=>k c v ?_ r) (fun c r=>by rw [upd_ne (nown c b r)];exact r) fun c xs r=>by rw [upd_ne (ntup c xs r)];exact r
   rcases hc with rfl | hc
   ·exact hbe
   ·rintro rfl
    rcases he with z | z
    ·exact nown c b hc z
    ·rw [hc] at z;cases z;exact hb rfl
end
structure Un (fs ex:List Addr) (H H':Hp) (h h':Heap):Prop where
 keep:∀ b o,h.get? b=some o→H b=none→b∉fs→b∉ex→h'.get? b=some o
 slot:∀ b o,h.get? b=some o→H b=none→b∈fs→b∉ex→∃ sl,h'.get? b=some { o with slots:=sl }
 free:∀ b o,h.get? b=some o→H b=none→b∉ex→H' b=none
 there:∀ b o,h.get? b=some o→b∉ex→∃ o',h'.get? b=some o'
 tups:∀ b xs,H b=some (.tup xs)→H' b=some (.tup xs)
 frzs:∀ b o u,H b=some (.frz o u)→H' b=some (.frz o u)
 tbls:∀ b ps,H b=some (.tbl ps)→∃ more,H' b=some (.tbl (ps++more))
section
variable {fs fs' ex ex':List Addr} {H H1 H2:Hp} {h h1 h2 h':Heap} {a x e:Addr} {o:HO}
theorem Un.any (u:Un fs ex H H1 h h1) {b:Addr} {ob:Obj} (q:h.get? b=some ob) (n:H b=none) (hx:b∉ex):∃ sl,h1.get? b=some { ob with slots:=sl }:=by
 by_cases hb:b∈fs
 ·exact u.slot b ob q n hb hx
 ·exact ⟨ob.slots,u.keep b ob q n hb hx⟩
theorem Un.trans (a:Un fs ex H H1 h h1) (b:Un fs ex H1 H2 h1 h2):Un fs ex H H2 h h2 where
 keep:=fun c ob q n hc hx=>b.keep c ob (a.keep c ob q n hc hx) (a.free c ob q n hx) hc hx
 slot:=fun c ob q n hc hx=>by
  obtain ⟨sl,e1⟩:=a.slot c ob q n hc hx
  obtain ⟨sl',e2⟩:=b.slot c _ e1 (a.free c ob q n hx) hc hx
  exact ⟨sl',e2⟩
 free:=fun c ob q n hx=>by
  obtain ⟨o',e1⟩:=a.there c ob q hx
  exact b.free c o' e1 (a.free c ob q n hx) hx
 there:=fun c ob q hx=>by
  obtain ⟨o',e1⟩:=a.there c ob q hx
  exact b.there c o' e1 hx
 tups:=fun c xs q=>b.tups c xs (a.tups c xs q)
 frzs:=fun c ob xs q=>b.frzs c ob xs (a.frzs c ob xs q)
 tbls:=fun c ps q=>by
  obtain ⟨m1,e1⟩:=a.tbls c ps q
  obtain ⟨m2,e2⟩:=b.tbls c _ e1
  exact ⟨m1++m2,by rw [e2,Array.append_assoc]⟩
theorem Un.kept (k:∀ b u,h.get? b=some u→h'.get? b=some u):Un fs ex H H h h':=
 ⟨fun b ob q _ _ _=>k b ob q,fun b ob q _ _ _=>⟨ob.slots,k b ob q⟩,fun _ _ _ n _=>n,fun b ob q _=>⟨ob,k b ob q⟩,fun _ _ q=>q,fun _ _ _ q=>q,fun _ ps q=>⟨#[],by rw [q];simp⟩⟩
theorem Un.refl:Un fs ex H H h h:=Un.kept fun _ _ q=>q
theorem Un.laid (k:∀ b u,h.get? b=some u→h'.get? b=some u) (hp:h.objs.size≤a) (hn:H a=none):Un fs ex H (upd H a o) h h' where
 keep:=fun b u q _ _ _=>k b u q
 slot:=fun b u q _ _ _=>⟨u.slots,k b u q⟩
 free:=fun b u q n _=>by rw [upd_ne (Nat.ne_of_lt (Nat.lt_of_lt_of_le (Heap.lt_size q) hp))];exact n
 there:=fun b u q _=>⟨u,k b u q⟩
 tups:=fun b xs q=>by rw [upd_ne (ne_of_none q hn)];exact q
 frzs:=fun b u xs q=>by rw [upd_ne (ne_of_none q hn)];exact q
 tbls:=fun b ps q=>⟨#[],by rw [upd_ne (ne_of_none q hn),q];simp⟩
theorem Un.write (mu:Mut (H x)) (he:e=x∨H e=some (.own x)) (k:∀ b u,b≠e→h.get? b=some u→h'.get? b=some u) (heo:∃ u,h'.get? e=some u):Un fs ex H (upd H x o) h h':=by
 have hx:∀ b,H b=none→b≠x:=fun b n z=>by subst z;rw [n] at mu;exact mu
 have hb:∀ b,H b=none→b≠e:=fun b n z=>by
  subst z
  rcases he with r | r
  ·exact hx b n r
  ·rw [n] at r;cases r
 have hm:∀ b u,H b=some u→¬Mut (some u)→b≠x:=fun b u q nm z=>by subst z;rw [q] at mu;exact nm mu
 refine ⟨fun b u q n _ _=>k b u (hb b n) q,fun b u q n _ _=>⟨u.slots,k b u (hb b n) q⟩,fun b u q n _=>by rw [upd_ne (hx b n)];exact n,fun b u q _=>?_,
  fun b xs q=>by rw [upd_ne (hm b _ q fun z=>z)];exact q,fun b u xs q=>by rw [upd_ne (hm b _ q fun z=>z)];exact q,fun b ps q=>⟨#[],by rw [upd_ne (hm b _ q fun z=>z),q];simp⟩⟩
 by_cases hbe:b=e
 ·subst hbe;exact heo
 ·exact ⟨u,k b u hbe q⟩
theorem Un.mono (u:Un fs ex H H1 h h1) (hs:∀ b∈fs,b∈fs') (hx:∀ b∈ex,b∈ex'):Un fs' ex' H H1 h h1:=
 ⟨fun b ob q n hb he=>u.keep b ob q n (fun z=>hb (hs b z)) fun z=>he (hx b z),fun _ _ q n _ he=>u.any q n fun z=>he (hx _ z),fun b ob q n he=>u.free b ob q n fun z=>he (hx b z),fun b ob q he=>u.there b ob q fun z=>he (hx b z),u.tups,u.frzs,u.tbls⟩
end
noncomputable def trk (h:Heap) (H:Hp):List Addr:=(List.range h.objs.size).filter fun a=>(H a).isSome
noncomputable def hidT (h:Heap) (H:Hp):Heap:=PySem.W.hideAll h (trk h H)
theorem hidT_size (h:Heap) (H:Hp):(hidT h H).objs.size=h.objs.size:=PySem.W.hideAll_size _ _
theorem hidT_get {h:Heap} {H:Hp} {b:Addr} {o:Obj} (e:h.get? b=some o) (n:H b=none):(hidT h H).get? b=some o:=
 PySem.W.hideAll_get _ e fun hm=>by
  have q:(H b).isSome=true:=(List.mem_filter.mp hm).2
  rw [n] at q;simp at q
theorem of_hidT {h:Heap} {H:Hp} {b:Addr} {o:Obj} (e:(hidT h H).get? b=some o):h.get? b=some o∧H b=none:=by
 have e':h.get? b=some o:=PySem.W.of_hideAll (trk h H) e
 refine ⟨e',?_⟩
 cases q:H b with
 | none=>rfl
 | some x=>
  have hm:b∈trk h H:=List.mem_filter.mpr ⟨List.mem_range.mpr (Heap.lt_size e'),by simp [q]⟩
  have z:(hidT h H).get? b=none:=PySem.W.hideAll_none (trk h H) hm
  rw [z] at e;cases e
noncomputable def allNews (g h:Heap) (L:Addr):List (Addr×Obj):=(List.range h.objs.size).filterMap fun a=>if a=L∨(g.get? a).isSome=true then none else (h.get? a).map fun o=>(a,o)
theorem mem_allNews {g h:Heap} {L a:Addr} {o:Obj} (h1:a≠L) (h2:g.get? a=none) (h3:h.get? a=some o):(a,o)∈allNews g h L:=
 List.mem_filterMap.mpr ⟨a,List.mem_range.mpr (Heap.lt_size h3),by simp [h1,h2,h3]⟩
theorem of_mem_allNews {g h:Heap} {L:Addr} {p:Addr×Obj} (hp:p∈allNews g h L):p.1≠L∧g.get? p.1=none∧h.get? p.1=some p.2:=by
 obtain ⟨b,_,e⟩:=List.mem_filterMap.mp hp
 split at e
 ·cases e
 ·rename_i hn
  cases q:h.get? b with
  | none=>rw [q] at e;simp at e
  | some u=>
   rw [q] at e
   simp only [Option.map_some,Option.some.injEq] at e
   subst e
   refine ⟨fun z=>hn (.inl z),?_,q⟩
   show g.get? b=none
   cases r:g.get? b with
   | none=>rfl
   | some v=>exact (hn (.inr (by simp [r]))).elim
noncomputable def rest (g h:Heap) (L d:Addr):List (Addr×Obj):=(allNews g h L).filter fun p=>decide (p.1≠d)
theorem news_all {g h:Heap} {L:Addr}:News g L h (allNews g h L):=fun p hp=>let ⟨a,b,c⟩:=of_mem_allNews hp;⟨c,a,b⟩
end L2
namespace L2
open PySem PySem.Spec PyProof.Rows
structure Mod (K:PySem.W.Frag) (mg:Str→Option Value) (base:Heap):Prop where
 kin:K.In base
 glob:base.Ns mainGlobals mg
 blt:∃ mb,base.Ns builtinsNs mb∧∀ x:Str,x≠"__name__"→mb x=bootBuiltins x
 nolimit:base.NoLimit
structure Cx where
 prog:Program
 w:World
 K:PySem.W.Frag
 mg:Str→Option Value
 base:Heap
 A:Around
 N:List Str
 s₀:Shared
 H₀:Hp
 env:Env
 outer:List Env
 stack:List Env
 ex:List Addr
 fn:Str→Bool
 calm:Bool
 pn:List (Addr×Obj)
 xe:Value→Shared→Prop
noncomputable def frs (l:List Env):List Addr:=l.filterMap (·.frame)
noncomputable abbrev Cx.fs (X:Cx):List Addr:=frs X.outer
noncomputable def Vis (sc:Scope) (x:Str):Prop:=sc.names.lookup x=some .local∨sc.names.lookup x=some .cell∨sc.names.lookup x=some .free
noncomputable def Loc (sc:Scope) (x:Str):Prop:=sc.names.lookup x=some .local∨sc.names.lookup x=some .cell
noncomputable def Look (env:Env) (h:Heap) (m:Str→Option Value) (x:Str) (u:Value):Prop:=
 (env.kindOf x=some .local∧m x=some u)∨((env.kindOf x=some .cell∨env.kindOf x=some .free)∧∃ c,env.cells.lookup x=some c∧h.IsCell c (some u))
structure Cx.Ok (X:Cx):Prop where
 mod:Mod X.K X.mg X.base
 kind:X.env.scope.kind=.function
 glob:X.env.globals=mainGlobals
 blt:X.env.builtins=builtinsNs
 above:X.s₀.heap.objs.size≤X.env.locals
 inj:∀ x y c,X.env.cells.lookup x=some c→X.env.cells.lookup y=some c→x=y
 has:∀ x,(X.env.kindOf x=some .cell∨X.env.kindOf x=some .free)→∃ c,X.env.cells.lookup x=some c
 cab:∀ x c,X.fn x=true→X.env.cells.lookup x=some c→X.s₀.heap.objs.size≤c
 hd:X.calm=true→X.A.handled=none
 frames:X.A.frames=some X.stack
 stk:X.stack=X.outer∨(X.stack=X.env::X.outer∧X.env.frame=some X.env.locals)
 exf:∀ b∈X.ex,b≠X.env.locals∧∀ x c,X.env.cells.lookup x=some c→c≠b
 bs:∀ b o,X.base.get? b=some o→X.s₀.heap.get? b=some o∧X.H₀ b=none
 bsz:X.base.objs.size≤X.s₀.heap.objs.size
 noex:∀ b o,X.base.get? b=some o→b∉X.ex
 exfs:∀ b∈X.ex,b∉X.fs
 funs:X.s₀.heap.FunFrames X.base X.outer
 frf:∀ b∈X.fs,X.H₀ b=none
structure Inv (X:Cx) (pins:List (Addr×Obj)) (σ:List (Option V)) (H:Hp) (s:Shared):Prop where
 ok:X.Ok
 os:s.os=X.s₀.os
 bare:AllBare s.gens
 base:Un X.fs X.ex X.H₀ H X.s₀.heap s.heap
 loc:∃ m,s.heap.Ns X.env.locals m∧∀ (i:Nat) (x:Str) (v:V),X.N[i]? =some x→σ[i]? =some (some v)→Vis X.env.scope x→∃ u,RelV v u∧Look X.env s.heap m x u
 cell:∀ x c,X.env.cells.lookup x=some c→∃ v,s.heap.IsCell c v
 free:H X.env.locals=none
 freeC:∀ x c,X.env.cells.lookup x=some c→H c=none
 pin:∀ p∈X.pn++pins,s.heap.get? p.1=some p.2∧H p.1=none∧p.1≠X.env.locals∧p.1∉X.fs∧∀ v,p.2.data≠.cell v
 hok:HOk X.prog X.w H s.heap
 len:σ.length=X.N.length
section
variable {X:Cx} {pins:List (Addr×Obj)} {σ:List (Option V)} {H H':Hp} {s:Shared} {h':Heap}
theorem Cx.Ok.nofr (ok:X.Ok) {b:Addr} {o:Obj} (e:X.base.get? b=some o):b∉X.fs:=fun hb=>by
 have:=(ok.funs.mem hb).1
 rw [e] at this;cases this
theorem Inv.bs (I:Inv X pins σ H s):∀ b o,X.base.get? b=some o→s.heap.get? b=some o∧H b=none:=fun b o e=>
 ⟨I.base.keep b o (I.ok.bs b o e).1 (I.ok.bs b o e).2 (I.ok.nofr e) (I.ok.noex b o e),I.base.free b o (I.ok.bs b o e).1 (I.ok.bs b o e).2 (I.ok.noex b o e)⟩
theorem Inv.bk (I:Inv X pins σ H s):∀ b o,X.base.get? b=some o→s.heap.get? b=some o:=fun b o e=>(I.bs b o e).1
theorem Inv.mod (I:Inv X pins σ H s):Mod X.K X.mg X.base:=I.ok.mod
theorem Inv.kIn (I:Inv X pins σ H s):X.K.In s.heap:=I.ok.mod.kin.keeps I.bk
theorem Inv.nolimit (I:Inv X pins σ H s):s.heap.NoLimit:=I.ok.mod.nolimit.keeps I.bk
theorem Inv.fr (I:Inv X pins σ H s):∃ m,Fr X.base X.env.locals s.heap m:=
 let ⟨m,hn,_⟩:=I.loc
 ⟨m,hn,I.bk,Nat.le_trans I.ok.bsz I.ok.above⟩
theorem Inv.lt (I:Inv X pins σ H s):X.env.locals < s.heap.objs.size:=let ⟨_,hn,_⟩:=I.loc;hn.lt
theorem Inv.sz (I:Inv X pins σ H s):X.s₀.heap.objs.size≤s.heap.objs.size:=Nat.le_trans I.ok.above (Nat.le_of_lt I.lt)
theorem Inv.nofs (I:Inv X pins σ H s) {a:Addr} (h:s.heap.objs.size≤a):a∉X.fs:=fun hb=>by
 obtain ⟨_,o,ho,_⟩:=I.ok.funs.mem hb
 exact absurd (Nat.lt_of_lt_of_le (Heap.lt_size ho) (Nat.le_trans I.sz h)) (Nat.lt_irrefl _)
theorem Inv.cne (I:Inv X pins σ H s):∀ x c,X.env.cells.lookup x=some c→c≠X.env.locals:=fun x c e z=>by
 obtain ⟨v,o,ho,hd⟩:=I.cell x c e
 obtain ⟨m,⟨o',es,ep,ho',hd',_⟩,_⟩:=I.loc
 rw [z,ho'] at ho;cases ho;rw [hd'] at hd;cases hd
theorem Inv.funs (I:Inv X pins σ H s):s.heap.FunFrames X.base X.outer:=by
 have all:∀ (l:List Env),(∀ b∈frs l,b∈X.fs)→X.s₀.heap.FunFrames X.base l→s.heap.FunFrames X.base l:=by
  intro l
  induction l with
  | nil=>intro _ _;trivial
  | cons env r ih=>
   intro hs hl
   obtain ⟨hk,⟨L,o,hf,hn,ho,hd⟩,hr⟩:=hl
   have hL:L∈X.fs:=hs L (by unfold frs;rw [List.filterMap_cons,hf];exact List.mem_cons_self)
   obtain ⟨sl,e⟩:=I.base.slot L o ho (I.ok.frf L hL) hL fun z=>I.ok.exfs L z hL
   exact ⟨hk,⟨L,_,hf,hn,e,hd⟩,ih (fun b hb=>hs b (by unfold frs;rw [List.filterMap_cons,hf];exact List.mem_cons_of_mem _ hb)) hr⟩
 exact all X.outer (fun _ hb=>hb) I.ok.funs
theorem Inv.stack (I:Inv X pins σ H s):s.heap.FunFrames X.base X.stack:=by
 rcases I.ok.stk with e | ⟨e,hf⟩
 ·rw [e];exact I.funs
 ·rw [e]
  obtain ⟨m,hn,_⟩:=I.loc
  refine .cons (by rw [I.ok.kind];decide) hf hn ?_ I.funs
  exact Heap.get?_none_of_le (Nat.le_trans I.ok.bsz I.ok.above)
theorem Inv.stkSub (I:Inv X pins σ H s):∀ b∈frs X.stack,b∈X.env.locals::X.fs:=fun b hb=>by
 rcases I.ok.stk with e | ⟨e,hf⟩
 ·rw [e] at hb;exact List.mem_cons_of_mem _ hb
 ·rw [e] at hb
  unfold frs at hb
  rw [List.filterMap_cons,hf] at hb
  exact hb
theorem Inv.stkFree (I:Inv X pins σ H s):∀ b∈frs X.stack,H b=none:=fun b hb=>by
 rcases List.mem_cons.mp (I.stkSub b hb) with e | hb
 ·rw [e];exact I.free
 ·obtain ⟨_,o,ho,_⟩:=I.ok.funs.mem hb
  exact I.base.free b o ho (I.ok.frf b hb) fun z=>I.ok.exfs b z hb
theorem Inv.step {g':Array GenState} {t':Nat} {d':Drawn} {ch:List Addr} (I:Inv X pins σ H s)
  (hch:∀ b∈ch,(b∈X.ex∨X.s₀.heap.objs.size≤b)∧b≠X.env.locals∧(∀ x c,X.env.cells.lookup x=some c→c≠b)∧∀ p∈X.pn++pins,p.1≠b)
  (keep:∀ b o,b≠X.env.locals→b∉X.fs→b∉ch→s.heap.get? b=some o→H b=none→h'.get? b=some o)
  (slot:∀ b o,b≠X.env.locals→b∈X.fs→b∉ch→s.heap.get? b=some o→H b=none→∃ sl,h'.get? b=some { o with slots:=sl }) (free:∀ b o,b∉ch→s.heap.get? b=some o→H b=none→H' b=none)
  (there:∀ b o,b∉ch→s.heap.get? b=some o→∃ o',h'.get? b=some o')
  (tups:∀ b xs,H b=some (.tup xs)→H' b=some (.tup xs)) (frzs:∀ b o u,H b=some (.frz o u)→H' b=some (.frz o u)) (tbls:∀ b ps,H b=some (.tbl ps)→∃ more,H' b=some (.tbl (ps++more)))
  (ns:∀ m,s.heap.Ns X.env.locals m→h'.Ns X.env.locals m) (hok:HOk X.prog X.w H' h') (hg:AllBare g'):
  Inv X pins σ H' { s with heap:=h',gens:=g',drawn:=d',toks:=t' }:=by
 have neL:∀ b o,X.s₀.heap.get? b=some o→b≠X.env.locals:=fun b o e=>Nat.ne_of_lt (Nat.lt_of_lt_of_le (Heap.lt_size e) I.ok.above)
 have neC:∀ b o,X.s₀.heap.get? b=some o→b∉X.ex→b∉ch:=fun b o e hx hb=>by
  rcases (hch b hb).1 with z | z
  ·exact hx z
  ·exact absurd (Nat.lt_of_lt_of_le (Heap.lt_size e) z) (Nat.lt_irrefl _)
 have cellK:∀ x c,X.env.cells.lookup x=some c→∀ v,s.heap.IsCell c v→h'.IsCell c v:=fun x c e v ⟨o,ho,hd⟩=>by
  have nch:c∉ch:=fun z=>(hch c z).2.2.1 x c e rfl
  by_cases hc:c∈X.fs
  ·obtain ⟨sl,q⟩:=slot c o (I.cne x c e) hc nch ho (I.freeC x c e)
   exact ⟨_,q,hd⟩
  ·exact ⟨o,keep c o (I.cne x c e) hc nch ho (I.freeC x c e),hd⟩
 refine ⟨I.ok,I.os,hg,⟨fun b o e n hb hx=>?_,fun b o e n hb hx=>?_,fun b o e n hx=>?_,fun b o e hx=>?_,fun b xs e=>tups b xs (I.base.tups b xs e),fun b o xs e=>frzs b o xs (I.base.frzs b o xs e),fun b ps e=>?_⟩,?_,fun x c e=>?_,?_,fun x c e=>?_,fun p hp=>?_,hok,I.len⟩
 ·exact keep b o (neL b o e) hb (neC b o e hx) (I.base.keep b o e n hb hx) (I.base.free b o e n hx)
 ·obtain ⟨sl,e1⟩:=I.base.slot b o e n hb hx
  obtain ⟨sl',e2⟩:=slot b _ (neL b o e) hb (neC b o e hx) e1 (I.base.free b o e n hx)
  exact ⟨sl',e2⟩
 ·obtain ⟨o',e1⟩:=I.base.there b o e hx
  exact free b o' (neC b o e hx) e1 (I.base.free b o e n hx)
 ·obtain ⟨o',e1⟩:=I.base.there b o e hx
  exact there b o' (neC b o e hx) e1
 ·obtain ⟨m1,e1⟩:=I.base.tbls b ps e
  obtain ⟨m2,e2⟩:=tbls b _ e1
  exact ⟨m1++m2,by rw [e2,Array.append_assoc]⟩
 ·obtain ⟨m,hn,hl⟩:=I.loc
  refine ⟨m,ns m hn,fun i x v e1 e2 e3=>?_⟩
  obtain ⟨u,r,l⟩:=hl i x v e1 e2 e3
  refine ⟨u,r,?_⟩
  rcases l with l | ⟨k,c,e,z⟩
  ·exact .inl l
  ·exact .inr ⟨k,c,e,cellK x c e _ z⟩
 ·obtain ⟨v,z⟩:=I.cell x c e
  exact ⟨v,cellK x c e v z⟩
 ·obtain ⟨m,⟨o,_,_,ho,_⟩,_⟩:=I.loc
  exact free _ o (fun z=>(hch _ z).2.1 rfl) ho I.free
 ·obtain ⟨v,o,ho,hd⟩:=I.cell x c e
  exact free c o (fun z=>(hch c z).2.2.1 x c e rfl) ho (I.freeC x c e)
 ·obtain ⟨e,n,ne,nf,d⟩:=I.pin p hp
  have nch:p.1∉ch:=fun z=>(hch p.1 z).2.2.2 p hp rfl
  exact ⟨keep p.1 p.2 ne nf nch e n,free p.1 p.2 nch e n,ne,nf,d⟩
theorem Inv.un {t':Nat} (I:Inv X pins σ H s) (u:Un X.fs [] H H' s.heap h') (hok:HOk X.prog X.w H' h'):Inv X pins σ H' { s with heap:=h',toks:=t' }:=by
 obtain ⟨m,⟨o,es,ep,ho,r⟩,_⟩:=id I.loc
 obtain ⟨sl,hL⟩:=u.any ho I.free (by simp)
 exact I.step (g':=s.gens) (d':=s.drawn) (ch:=[]) (fun _ z=>nomatch z) (fun b o _ hb _ e n=>u.keep b o e n hb (by simp)) (fun b o _ hb _ e n=>u.slot b o e n hb (by simp)) (fun b o _ e n=>u.free b o e n (by simp)) (fun b o _ e=>u.there b o e (by simp)) u.tups u.frzs u.tbls (fun m' hm=>by
  obtain ⟨o',es',ep',ho',r'⟩:=hm
  rw [ho] at ho';cases ho'
  exact ⟨_,es',ep',hL,r'⟩) hok I.bare
theorem Inv.call {g':Array GenState} {t':Nat} {d':Drawn} {ch:List Addr} (I:Inv X pins σ H s) (u:Un (frs X.stack) ch H H' s.heap h') (hok:HOk X.prog X.w H' h') (hg:AllBare g')
  (hch:∀ b∈ch,(b∈X.ex∨X.s₀.heap.objs.size≤b)∧b≠X.env.locals∧(∀ x c,X.env.cells.lookup x=some c→c≠b)∧∀ p∈X.pn++pins,p.1≠b):
  Inv X pins σ H' { s with heap:=h',gens:=g',drawn:=d',toks:=t' }:=by
 obtain ⟨m,⟨o,es,ep,ho,r⟩,_⟩:=id I.loc
 obtain ⟨sl,hL⟩:=u.any ho I.free fun z=>(hch _ z).2.1 rfl
 exact I.step (ch:=ch) hch (fun b o hL hb hc e n=>u.keep b o e n (fun z=>(List.mem_cons.mp (I.stkSub b z)).elim hL hb) hc) (fun b o _ _ hc e n=>u.any e n hc) (fun b o hc e n=>u.free b o e n hc) (fun b o hc e=>u.there b o e hc) u.tups u.frzs u.tbls (fun m' hm=>by
  obtain ⟨o',es',ep',ho',r'⟩:=hm
  rw [ho] at ho';cases ho'
  exact ⟨_,es',ep',hL,r'⟩) hok hg
theorem Inv.turned {t':Nat} {it:Addr} (I:Inv X pins σ H s) (k:∀ b o,b≠it→s.heap.get? b=some o→h'.get? b=some o) (hn:H it=none) (hL:it≠X.env.locals)
  (h1:it∈X.ex∨X.s₀.heap.objs.size≤it) (h2:∀ x c,X.env.cells.lookup x=some c→c≠it) (h3:∀ p∈X.pn++pins,p.1≠it):Inv X pins σ H { s with heap:=h',toks:=t' }:=by
 have nit:∀ b u,H b=some u→b≠it:=fun b u e z=>by rw [z,hn] at e;cases e
 refine I.step (g':=s.gens) (d':=s.drawn) (ch:=[it]) (fun b hb=>?_) (fun b o _ _ hc e _=>k b o (fun z=>hc (by simp [z])) e) (fun b o _ _ hc e _=>⟨o.slots,k b o (fun z=>hc (by simp [z])) e⟩) (fun _ _ _ _ n=>n)
  (fun b o hc e=>⟨o,k b o (fun z=>hc (by simp [z])) e⟩) (fun _ _ e=>e) (fun _ _ _ e=>e) (fun b ps e=>⟨#[],by rw [e];simp⟩) (fun m hm=>?_) (fun b u e=>?_) I.bare
 ·have e:b=it:=by simpa using hb
  subst e
  exact ⟨h1,hL,h2,h3⟩
 ·obtain ⟨o,es,ep,ho,r⟩:=hm
  exact ⟨o,es,ep,k _ o (Ne.symm hL) ho,r⟩
 ·refine (I.hok b u e).stay (fun c v hc q=>k c v ?_ q) (fun _ q=>q) fun _ _ q=>q
  rcases hc with z | z
  ·rw [z];exact nit b u e
  ·exact nit c _ z
theorem Inv.tok (I:Inv X pins σ H s) (t:Nat):Inv X pins σ H { s with toks:=t }:=I.un (h':=s.heap) (t':=t) Un.refl I.hok
theorem Inv.kept {t':Nat} (I:Inv X pins σ H s) (k:∀ b u,s.heap.get? b=some u→h'.get? b=some u):Inv X pins σ H { s with heap:=h',toks:=t' }:=I.un (Un.kept k) (I.hok.kept k)
theorem Inv.laid {a:Addr} {o:HO} {t':Nat} (I:Inv X pins σ H s) (k:∀ b u,s.heap.get? b=some u→h'.get? b=some u) (hp:s.heap.objs.size≤a) (new:ObjOk X.prog X.w (upd H a o) h' a o):
  Inv X pins σ (upd H a o) { s with heap:=h',toks:=t' }:=I.un (Un.laid k hp (I.hok.fresh hp)) (I.hok.laid k hp new)
theorem Inv.write {x e:Addr} {o:HO} {t':Nat} (I:Inv X pins σ H s) (mu:Mut (H x)) (he:e=x∨H e=some (.own x)) (k:∀ b u,b≠e→s.heap.get? b=some u→h'.get? b=some u) (heo:∃ u,h'.get? e=some u)
  (new:ObjOk X.prog X.w (upd H x o) h' x o):Inv X pins σ (upd H x o) { s with heap:=h',toks:=t' }:=I.un (Un.write mu he k heo) (I.hok.write mu he k heo new)
theorem Inv.weak {σ':List (Option V)} (I:Inv X pins σ H s) (hl:σ'.length=σ.length) (w:∀ (i:Nat) v,σ'[i]? =some (some v)→σ[i]? =some (some v)):Inv X pins σ' H s:=
 ⟨I.ok,I.os,I.bare,I.base,let ⟨m,hn,hl'⟩:=I.loc;⟨m,hn,fun i x v e1 e2 e3=>hl' i x v e1 (w i v e2) e3⟩,I.cell,I.free,I.freeC,I.pin,I.hok,hl.trans I.len⟩
theorem Inv.pins_of {pins':List (Addr×Obj)} (I:Inv X pins σ H s) (h:∀ p∈pins',s.heap.get? p.1=some p.2∧H p.1=none∧p.1≠X.env.locals∧p.1∉X.fs∧∀ v,p.2.data≠.cell v):Inv X pins' σ H s:=
 ⟨I.ok,I.os,I.bare,I.base,I.loc,I.cell,I.free,I.freeC,fun p hp=>(List.mem_append.mp hp).elim (fun z=>I.pin p (List.mem_append_left _ z)) (h p),I.hok,I.len⟩
theorem nodup_ix {N:List Str} (hN:N.Nodup) {i j:Nat} {x:Str} (a:N[i]? =some x) (b:N[j]? =some x):i=j:=by
 obtain ⟨h1,e1⟩:=List.getElem?_eq_some_iff.mp a
 obtain ⟨h2,e2⟩:=List.getElem?_eq_some_iff.mp b
 exact (List.getElem_inj hN).mp (e1.trans e2.symm)
theorem store_ok2 {M:Model} {A:Around} {E:Value→Shared→Prop} {i:Nat} {x:Str} {v:V} {u:Value} {Q:Unit→Shared→Prop} (I:Inv X pins σ H s) (hN:X.N.Nodup) (hi:X.N[i]? =some x) (hx:Loc X.env.scope x) (r:RelV v u)
  (h:∀ s',Inv X pins (σ.set i (some v)) H s'→(∃ a,Heap.SameBut a s.heap s'.heap∧(a=X.env.locals∨X.env.cells.lookup x=some a))→Q () s') (hf:X.fn x=true∨X.env.scope.names.lookup x=some .local:=by first | exact .inl rfl | exact .inr rfl | assumption):wpAny M A (storeName X.env x u) Q E s:=by
 obtain ⟨m,hn,hl⟩:=id I.loc
 have hcls:(X.env.scope.kind==.class||(X.env.scope.kind==.module&&X.env.locals != X.env.globals))=false:=by rw [I.ok.kind];rfl
 have hiσ:i < σ.length:=by rw [I.len];exact (List.getElem?_eq_some_iff.mp hi).1
 have cne:=I.cne
 have tracked:∀ {a:Addr} {h':Heap},(∃ o,s.heap.get? a=some o∧H a=none)→Heap.SameBut a s.heap h'→HOk X.prog X.w H h':=fun {a h'} ha hs b ob e=>by
  obtain ⟨_,_,hfree⟩:=ha
  refine (I.hok b ob e).stay (fun c w' hc q=>(hs.2 c ?_).trans q) (fun _ q=>q) fun _ _ q=>q
  rintro rfl
  rcases hc with rfl | hc
  ·rw [hfree] at e;cases e
  ·rw [hfree] at hc;cases hc
 rcases hx with hk | hk
 ·refine wpAny_storeName_local hk hn (fun h' hn' hs=>?_) hcls
  obtain ⟨oL,_,_,hoL,_⟩:=id hn
  refine h _ ⟨I.ok,I.os,I.bare,⟨fun b o e n hb hx=>?_,fun b o e n hb hx=>?_,I.base.free,fun b o e hx=>?_,I.base.tups,I.base.frzs,I.base.tbls⟩,⟨_,hn',fun j y v' e1 e2 e3=>?_⟩,fun y c e=>?_,I.free,I.freeC,fun p hp=>?_,tracked ⟨oL,hoL,I.free⟩ hs,by simpa using I.len⟩ ⟨_,hs,.inl rfl⟩
  ·exact (hs.2 b (Nat.ne_of_lt (Nat.lt_of_lt_of_le (Heap.lt_size e) I.ok.above))).trans (I.base.keep b o e n hb hx)
  ·obtain ⟨sl,e1⟩:=I.base.slot b o e n hb hx
   exact ⟨sl,(hs.2 b (Nat.ne_of_lt (Nat.lt_of_lt_of_le (Heap.lt_size e) I.ok.above))).trans e1⟩
  ·obtain ⟨o',e1⟩:=I.base.there b o e hx
   exact ⟨o',(hs.2 b (Nat.ne_of_lt (Nat.lt_of_lt_of_le (Heap.lt_size e) I.ok.above))).trans e1⟩
  ·by_cases hj:j=i
   ·subst hj
    rw [hi] at e1;cases e1
    rw [List.getElem?_set_self hiσ] at e2
    cases e2
    exact ⟨u,r,.inl ⟨hk,by simp⟩⟩
   ·rw [List.getElem?_set_ne (Ne.symm hj)] at e2
    obtain ⟨u',r',q⟩:=hl j y v' e1 e2 e3
    refine ⟨u',r',?_⟩
    rcases q with ⟨k,e⟩ | ⟨k,c,e,z⟩
    ·refine .inl ⟨k,?_⟩
     have:y≠x:=fun e=>hj (nodup_ix hN e1 (e▸hi))
     simp [this,e]
    ·exact .inr ⟨k,c,e,z.sameBut hs (cne y c e)⟩
  ·obtain ⟨w',z⟩:=I.cell y c e
   exact ⟨w',z.sameBut hs (cne y c e)⟩
  ·obtain ⟨e,n,ne,nf,d⟩:=I.pin p hp
   exact ⟨(hs.2 p.1 ne).trans e,n,ne,nf,d⟩
 ·have hfn:X.fn x=true:=by
   rcases hf with z | z
   ·exact z
   ·rw [z] at hk;cases hk
  obtain ⟨c,hc⟩:=I.ok.has x (.inl hk)
  obtain ⟨w',z⟩:=I.cell x c hc
  refine wpAny_storeName_cell I.ok.kind hk hc z (fun h' hc' hs=>?_)
  obtain ⟨oc,hoc,hocd⟩:=id z
  refine h { s with heap:=h' } ⟨I.ok,I.os,I.bare,⟨fun b o e n hb hx=>?_,fun b o e n hb hx=>?_,I.base.free,fun b o e hx=>?_,I.base.tups,I.base.frzs,I.base.tbls⟩,⟨m,hn.sameBut hs (Ne.symm (cne x c hc)),fun j y v' e1 e2 e3=>?_⟩,fun y c' e=>?_,I.free,I.freeC,fun p hp=>?_,tracked ⟨oc,hoc,I.freeC x c hc⟩ hs,by simpa using I.len⟩ ⟨c,hs,.inr hc⟩
  ·exact (hs.2 b (Nat.ne_of_lt (Nat.lt_of_lt_of_le (Heap.lt_size e) (I.ok.cab x c hfn hc)))).trans (I.base.keep b o e n hb hx)
  ·obtain ⟨sl,e1⟩:=I.base.slot b o e n hb hx
   exact ⟨sl,(hs.2 b (Nat.ne_of_lt (Nat.lt_of_lt_of_le (Heap.lt_size e) (I.ok.cab x c hfn hc)))).trans e1⟩
  ·obtain ⟨o',e1⟩:=I.base.there b o e hx
   exact ⟨o',(hs.2 b (Nat.ne_of_lt (Nat.lt_of_lt_of_le (Heap.lt_size e) (I.ok.cab x c hfn hc)))).trans e1⟩
  ·by_cases hj:j=i
   ·subst hj
    rw [hi] at e1;cases e1
    rw [List.getElem?_set_self hiσ] at e2
    cases e2
    exact ⟨u,r,.inr ⟨.inl hk,c,hc,hc'⟩⟩
   ·rw [List.getElem?_set_ne (Ne.symm hj)] at e2
    obtain ⟨u',r',q⟩:=hl j y v' e1 e2 e3
    refine ⟨u',r',?_⟩
    rcases q with q | ⟨k,c',e,z'⟩
    ·exact .inl q
    ·refine .inr ⟨k,c',e,z'.sameBut hs ?_⟩
     rintro rfl
     exact hj (nodup_ix hN e1 (I.ok.inj _ _ _ e hc▸hi))
  ·by_cases hcc:c'=c
   ·subst hcc;exact ⟨_,hc'⟩
   ·obtain ⟨w2,z2⟩:=I.cell y c' e
    exact ⟨w2,z2.sameBut hs hcc⟩
  ·obtain ⟨e,n,ne,nf,d⟩:=I.pin p hp
   refine ⟨(hs.2 p.1 ?_).trans e,n,ne,nf,d⟩
   intro q
   rw [q,hoc] at e
   have q':oc=p.2:=Option.some.inj e
   exact d w' (by rw [←q'];exact hocd)
theorem store_ok {M:Model} {A:Around} {E:Value→Shared→Prop} {i:Nat} {x:Str} {v:V} {u:Value} {Q:Unit→Shared→Prop} (I:Inv X pins σ H s) (hN:X.N.Nodup) (hi:X.N[i]? =some x) (hx:Loc X.env.scope x) (r:RelV v u)
  (h:∀ s',Inv X pins (σ.set i (some v)) H s'→Q () s') (hf:X.fn x=true∨X.env.scope.names.lookup x=some .local:=by first | exact .inl rfl | exact .inr rfl | assumption):wpAny M A (storeName X.env x u) Q E s:=
 store_ok2 I hN hi hx r (fun s' I' _=>h s' I') hf
theorem Inv.call' {s':Shared} {ch:List Addr} (I:Inv X pins σ H s) (ho:s'.os=s.os) (u:Un (frs X.stack) ch H H' s.heap s'.heap) (hok:HOk X.prog X.w H' s'.heap) (hg:AllBare s'.gens)
  (hch:∀ b∈ch,(b∈X.ex∨X.s₀.heap.objs.size≤b)∧b≠X.env.locals∧(∀ x c,X.env.cells.lookup x=some c→c≠b)∧∀ p∈X.pn++pins,p.1≠b):Inv X pins σ H' s':=by
 obtain ⟨h',g',d',t',o'⟩:=s'
 have e:o'=s.os:=ho
 subst e
 exact I.call (g':=g') (t':=t') (d':=d') u hok hg hch
end
noncomputable abbrev XK:=Value→Option Addr→Hp→Prop
noncomputable abbrev St:=List (Option V)
noncomputable abbrev VK:=V→Hp→Prop
noncomputable abbrev TE:=St→Hp→VK→Prop
noncomputable abbrev TT:=St→Hp→(Bool→Hp→Prop)→Prop
noncomputable abbrev TA:=St→Hp→(List V→Hp→Prop)→Prop
structure Ends where
 nx:St→Hp→Prop
 rt:VK
 bk:St→Hp→Prop:=fun _ _=>False
 ct:St→Hp→Prop:=fun _ _=>False
noncomputable abbrev TS:=Ends→St→Hp→Prop
noncomputable def EP (X:Cx) (pins:List (Addr×Obj)) (σ:St) (Q:VK) (u:Value) (s':Shared):Prop:=∃ v H',Inv X pins σ H' s'∧RelV v u∧Q v H'
noncomputable def TP (X:Cx) (pins:List (Addr×Obj)) (σ:St) (Q:Bool→Hp→Prop) (b:Bool) (s':Shared):Prop:=∃ H',Inv X pins σ H' s'∧Q b H'
noncomputable def AP (X:Cx) (pins:List (Addr×Obj)) (σ:St) (Q:List V→Hp→Prop) (us:List Value) (s':Shared):Prop:=∃ vs H',Inv X pins σ H' s'∧Vals vs us∧Q vs H'
noncomputable def SP (X:Cx) (pins:List (Addr×Obj)) (D:Ends) (f:Flow) (s':Shared):Prop:=
 match f with
 | .next=>∃ σ' H',Inv X pins σ' H' s'∧D.nx σ' H'
 | .brk=>∃ σ' H',Inv X pins σ' H' s'∧D.bk σ' H'
 | .cont=>∃ σ' H',Inv X pins σ' H' s'∧D.ct σ' H'
 | .ret u=>∃ v σ' H',Inv X pins σ' H' s'∧RelV v u∧D.rt v H'
noncomputable def PE (X:Cx) (e:Expr) (t:TE):Prop:=
 ∀ (pins:List (Addr×Obj)) (s:Shared) (σ:St) (H:Hp) (Q:VK),Inv X pins σ H s→t σ H Q→wpAny (model X.prog X.w) X.A (eval e X.env) (EP X pins σ Q) X.xe s
noncomputable def PT (X:Cx) (e:Expr) (t:TT):Prop:=
 ∀ (pins:List (Addr×Obj)) (s:Shared) (σ:St) (H:Hp) (Q:Bool→Hp→Prop),Inv X pins σ H s→t σ H Q→wpAny (model X.prog X.w) X.A (isTrue e X.env (eval e X.env)) (TP X pins σ Q) X.xe s
noncomputable def PW (X:Cx) (e:Expr) (t:TT):Prop:=
 ∀ (whole:Sem Value) (pins:List (Addr×Obj)) (s:Shared) (σ:St) (H:Hp) (Q:Bool→Hp→Prop),Inv X pins σ H s→t σ H Q→wpAny (model X.prog X.w) X.A (isTrue e X.env whole) (TP X pins σ Q) X.xe s
theorem PW.pt {X:Cx} {e:Expr} {t:TT} (h:PW X e t):PT X e t:=h _
noncomputable def PA (X:Cx) (es:List Expr) (t:TA):Prop:=
 ∀ (pos:Pos) (pins:List (Addr×Obj)) (s:Shared) (σ:St) (H:Hp) (Q:List V→Hp→Prop),Inv X pins σ H s→t σ H Q→wpAny (model X.prog X.w) X.A (spliced (backTo pos (starEach es X.env))) (AP X pins σ Q) X.xe s
noncomputable def PS (X:Cx) (st:Stmt) (t:TS):Prop:=
 ∀ (pins:List (Addr×Obj)) (s:Shared) (σ:St) (H:Hp) (D:Ends),Inv X pins σ H s→t D σ H→wpAny (model X.prog X.w) X.A (exec st X.env) (SP X pins D) X.xe s
noncomputable def PSs (X:Cx) (st:List Stmt) (t:TS):Prop:=
 ∀ (pins:List (Addr×Obj)) (s:Shared) (σ:St) (H:Hp) (D:Ends),Inv X pins σ H s→t D σ H→wpAny (model X.prog X.w) X.A (execs st X.env) (SP X pins D) X.xe s
theorem thn {α:Type} {t:Sem α} {Q Q':α→Shared→Prop} {M:Model} {A:Around} {E:Value→Shared→Prop} {s:Shared} (h:wpAny M A t Q E s) (hQ:∀ a s,Q a s→Q' a s):wpAny M A t Q' E s:=wpAny_mono h hQ fun _ _ x=>x
end L2
namespace L2
open PySem PySem.Spec PyProof.Rows
section
variable {X:Cx}
noncomputable def tVar (i:Nat):TE:=fun σ H Q=>∃ v,σ[i]? =some (some v)∧Q v H
noncomputable def tC (v:V):TE:=fun _ H Q=>Q v H
theorem pe_var {i:Nat} {x:Str} {pos:Pos} (hN:X.N[i]? =some x) (hv:Vis X.env.scope x) (hd:(x==("__debug__":Str))=false:=by decide) (hcd:(x==("__classdict__":Str))=false:=by decide):PE X (.Name x pos) (tVar i):=by
 intro pins s σ H Q I h
 obtain ⟨v,e,h⟩:=h
 obtain ⟨m,hn,hl⟩:=I.loc
 obtain ⟨u,r,l⟩:=hl i x v hN e hv
 have fin:EP X pins σ Q u s:=⟨v,H,I,r,h⟩
 rcases l with ⟨hk,hm⟩ | ⟨hk,c,hc,hcell⟩
 ·exact wpAny_Name (wpAny_loadName_local I.ok.kind hk hn hm fin) hd
 ·rcases hk with hk | hk
  ·exact wpAny_Name (wpAny_loadName_cell I.ok.kind hk hc hcell fin) hd
  ·exact wpAny_Name (wpAny_loadName_free I.ok.kind hk hc hcell fin hcd) hd
theorem pe_int {i j pos}:PE X (.Constant (.int i) j pos) (tC (.int i)):=fun _ _ _ H _ I h=>wpAny_Constant_int ⟨.int i,H,I.tok _,⟨_,rfl⟩,h⟩
theorem pe_bl {b j pos}:PE X (.Constant (.bool b) j pos) (tC (.bl b)):=fun _ _ _ H _ I h=>Constant_bool ⟨.bl b,H,I,rfl,h⟩
theorem pe_non {j pos}:PE X (.Constant .none j pos) (tC .non):=fun _ _ _ H _ I h=>Constant_none ⟨.non,H,I,rfl,h⟩
theorem pe_str {x j pos}:PE X (.Constant (.str x) j pos) (tC (.str x)):=fun _ _ _ H _ I h=>Calls.Constant_str ⟨.str x,H,I.tok _,⟨_,rfl⟩,h⟩
noncomputable def Gl (X:Cx) (x:Str):Prop:=X.env.kindOf x=some .globalImplicit
theorem ld_glob {E:Value→Shared→Prop} {pins:List (Addr×Obj)} {s:Shared} {σ:St} {H:Hp} {x:Str} {u:Value} {pos:Pos} {Q:Value→Shared→Prop} (I:Inv X pins σ H s) (hg:Gl X x) (hm:X.mg x=some u) (h:Q u s)
  (hd:(x==("__debug__":Str))=false:=by decide):wpAny (model X.prog X.w) X.A (eval (.Name x pos) X.env) Q E s:=
 Calls.Name_function_global I.ok.kind hg (Calls.loadGlobal_global (by rw [I.ok.glob];exact I.mod.glob.keeps I.bk) hm h) hd
theorem ld_blt {E:Value→Shared→Prop} {pins:List (Addr×Obj)} {s:Shared} {σ:St} {H:Hp} {x:Str} {u:Value} {pos:Pos} {Q:Value→Shared→Prop} (I:Inv X pins σ H s) (hg:Gl X x) (hm:X.mg x=none) (hv:bootBuiltins x=some u) (h:Q u s)
  (hn:x≠"__name__":=by decide) (hd:(x==("__debug__":Str))=false:=by decide):wpAny (model X.prog X.w) X.A (eval (.Name x pos) X.env) Q E s:=by
 obtain ⟨mb,h1,h2⟩:=I.mod.blt
 exact Calls.Name_function_global I.ok.kind hg (Calls.loadGlobal_builtin (by rw [I.ok.glob];exact I.mod.glob.keeps I.bk) hm (by rw [I.ok.blt];exact h1.keeps I.bk) ((h2 x hn).trans hv) h) hd
theorem pe_glob {x:Str} {v:V} {u:Value} {pos:Pos} (hg:Gl X x) (hm:X.mg x=some u) (r:RelV v u) (hd:(x==("__debug__":Str))=false:=by decide):PE X (.Name x pos) (tC v):=
 fun _ _ _ H _ I h=>ld_glob I hg hm ⟨v,H,I,r,h⟩ hd
theorem pe_bltn {x:Str} {v:V} {u:Value} {pos:Pos} (hg:Gl X x) (hm:X.mg x=none) (hv:bootBuiltins x=some u) (r:RelV v u) (hn:x≠"__name__":=by decide) (hd:(x==("__debug__":Str))=false:=by decide):PE X (.Name x pos) (tC v):=
 fun _ _ _ H _ I h=>ld_blt I hg hm hv ⟨v,H,I,r,h⟩ hn hd
variable {a b:Expr} {ta tb:TE} {pos:Pos}
noncomputable def PC (X:Cx) (op:CmpOp) (a b:Expr) (t:TE):Prop:=
 ∀ (pins:List (Addr×Obj)) (s:Shared) (σ:St) (H:Hp) (Q:VK),Inv X pins σ H s→t σ H Q→
  wpAny (model X.prog X.w) X.A (eval a X.env) (fun v s₁=>wpAny (model X.prog X.w) X.A (eval b X.env) (fun u s₂=>wpAny (model X.prog X.w) X.A (compareOp op v u) (EP X pins σ Q) X.xe s₂) X.xe s₁) X.xe s
theorem nobehind (b:Expr) {op:CmpOp} (h:op≠.In) (h2:op≠.NotIn):behindInMarks op b=false:=by
 have e1:(op==CmpOp.In)=false:=by cases op <;> first | rfl | exact absurd rfl h
 have e2:(op==CmpOp.NotIn)=false:=by cases op <;> first | rfl | exact absurd rfl h2
 cases b <;> simp [behindInMarks,e1,e2]
noncomputable def tB (t:TE):TT:=fun σ H Q=>t σ H fun x H1=>∃ c,x=.bl c∧Q c H1
theorem pt_cmp {op:CmpOp} {t:TE} (h:PC X op a b t) (h1:behindInMarks op b=false:=by first | exact nobehind _ (by decide) (by decide) | rfl):PT X (.Compare a [op] [b] pos) (tB t):=by
 intro pins s σ H Q I hw
 refine wpAny_isTrue_Compare1 (thn (h pins s σ H _ I hw) fun v s1 h1=>thn h1 fun u s2 h2=>thn h2 fun c s3 ⟨x,H1,I1,r1,q1⟩=>?_) h1
 obtain ⟨d,rfl,q⟩:=q1
 cases r1
 exact wpAny_truthy_bool ⟨H1,I1,q⟩
theorem pt_val {e:Expr} {t:TE} (h:PE X e t) (he:∀ whole,isTrue e X.env whole=(do let v ←whole;standAt e.pos;holding [v] (truthy v)):=by intro _;rfl):PT X e (tB t):=by
 intro pins s σ H Q I hw
 refine isTrue_plain (thn (h pins s σ H _ I hw) fun v s1 ⟨x,H1,I1,r1,q1⟩=>?_) (he _)
 obtain ⟨d,rfl,q⟩:=q1
 cases r1
 exact wpAny_truthy_bool ⟨H1,I1,q⟩
variable {tA tB':TT} {rest:List Expr}
noncomputable def tAnd (t u:TT):TT:=fun σ H Q=>t σ H fun c H1=>if c=true then u σ H1 Q else Q false H1
noncomputable def tOr (t u:TT):TT:=fun σ H Q=>t σ H fun c H1=>if c=true then Q true H1 else u σ H1 Q
noncomputable def tNot (t:TT):TT:=fun σ H Q=>t σ H fun c H1=>Q (!c) H1
theorem pw_and1 (ha:PT X a tA):PW X (.BoolOp .And [a] pos) tA:=by
 intro wh pins s σ H Q I h
 refine isTrue_and (thn (ha pins s σ H Q I h) fun c s1 e=>?_)
 cases c with
 | true=>exact isTrue_and_nil e
 | false=>exact e
theorem pw_or1 (ha:PT X a tA):PW X (.BoolOp .Or [a] pos) tA:=by
 intro wh pins s σ H Q I h
 refine isTrue_or (thn (ha pins s σ H Q I h) fun c s1 e=>?_)
 cases c with
 | false=>exact isTrue_or_nil e
 | true=>exact e
theorem pw_and (ha:PT X a tA) (hb:PW X (.BoolOp .And (b::rest) pos) tB'):PW X (.BoolOp .And (a::b::rest) pos) (tAnd tA tB'):=by
 intro wh pins s σ H Q I h
 refine isTrue_and (thn (ha pins s σ H _ I h) fun c s1 ⟨H1,I1,q1⟩=>?_)
 cases c with
 | true=>exact hb wh pins s1 σ H1 Q I1 q1
 | false=>exact ⟨H1,I1,q1⟩
theorem pw_or (ha:PT X a tA) (hb:PW X (.BoolOp .Or (b::rest) pos) tB'):PW X (.BoolOp .Or (a::b::rest) pos) (tOr tA tB'):=by
 intro wh pins s σ H Q I h
 refine isTrue_or (thn (ha pins s σ H _ I h) fun c s1 ⟨H1,I1,q1⟩=>?_)
 cases c with
 | true=>exact ⟨H1,I1,q1⟩
 | false=>exact hb wh pins s1 σ H1 Q I1 q1
theorem pt_not (ha:PT X a tA):PT X (.UnaryOp .Not a pos) (tNot tA):=by
 intro pins s σ H Q I h
 exact isTrue_not (ha pins s σ H (fun c H1=>Q (!c) H1) I h)
noncomputable def tAndV (ta tb:TE):TE:=fun σ H Q=>ta σ H fun x H1=>∃ c,x=.bl c∧if c=true then tb σ H1 Q else Q (.bl false) H1
noncomputable def tOrV (ta tb:TE):TE:=fun σ H Q=>ta σ H fun x H1=>∃ c,x=.bl c∧if c=true then Q (.bl true) H1 else tb σ H1 Q
noncomputable def tNotV (ta:TE):TE:=fun σ H Q=>ta σ H fun x H1=>∃ c,x=.bl c∧Q (.bl (!c)) H1
theorem pe_one {op} {t:TE} (h:PE X a t):PE X (.BoolOp op [a] pos) t:=fun pins s σ H Q I hw=>BoolOp_one (h pins s σ H Q I hw)
theorem pe_and (ha:PE X a ta) (hb:PE X (.BoolOp .And (b::rest) pos) tb):PE X (.BoolOp .And (a::b::rest) pos) (tAndV ta tb):=by
 intro pins s σ H Q I h
 refine BoolOp_and (thn (ha pins s σ H _ I h) fun v s1 ⟨x,H1,I1,r1,q1⟩=>?_)
 obtain ⟨c,rfl,q1⟩:=q1
 cases r1
 refine wpAny_truthy_bool ?_
 cases c with
 | true=>exact hb pins s1 σ H1 Q I1 q1
 | false=>exact ⟨.bl false,H1,I1,rfl,q1⟩
noncomputable def tIf (t:TT) (ta tb:TE):TE:=fun σ H Q=>t σ H fun c H1=>if c=true then ta σ H1 Q else tb σ H1 Q
end
end L2
namespace L2
open PySem PySem.Spec PyProof.Rows
noncomputable def SqL (K:PySem.W.Frag) (H:Hp) (a:Addr) (xs:List V):Prop:=
 Rd H a (.lst xs)∨
  ∃ (o:Obj) (its:Array Value) (n:Nat),K.lookup a=some o∧o.cls=.type "list"∧o.dict=none∧o.data=.seq its n∧its.size≤sizeLine∧Vals xs its.toList
noncomputable def SqT (K:PySem.W.Frag) (H:Hp) (a:Addr) (xs:List V):Prop:=
 Rd H a (.tup xs)∨
  ∃ (o:Obj) (its:Array Value) (n:Nat),K.lookup a=some o∧o.cls=.type "tuple"∧o.data=.seq its n∧its.size≤sizeLine∧Vals xs its.toList
noncomputable def absV:Value→Option V
 | .none=>some .non
 | .bool b=>some (.bl b)
 | .int i _=>some (.int i)
 | .str x _=>some (.str x)
 | .bytes b _=>some (.byt b)
 | .float b _=>some (.flt b)
 | .ref a=>some (.ref a)
 | .type n=>some (.ty n)
 | _=>none
theorem RelV.abs {x:V} {u:Value} (r:RelV x u):absV u=some x:=by
 cases x with
 | non=>cases r;rfl
 | bl _=>cases r;rfl
 | int _=>obtain ⟨t,rfl⟩:=r;rfl
 | str _=>obtain ⟨t,rfl⟩:=r;rfl
 | byt _=>obtain ⟨t,rfl⟩:=r;rfl
 | flt _=>obtain ⟨t,rfl⟩:=r;rfl
 | ref _=>cases r;rfl
 | ty _=>cases r;rfl
theorem RelV.inj {x y:V} {u:Value} (r:RelV x u) (q:RelV y u):x=y:=Option.some.inj (r.abs.symm.trans q.abs)
theorem Vals.inj:∀ {xs ys:List V} {us:List Value},Vals xs us→Vals ys us→xs=ys
 | _,_,_,.nil,.nil=>rfl
 | _,_,_,.cons r t,.cons r' t'=>by rw [r.inj r',Vals.inj t t']
section
variable {X:Cx} {pins:List (Addr×Obj)} {σ:St} {H:Hp} {s:Shared} {a:Addr} {xs ys:List V}
theorem SqL.of {K:PySem.W.Frag} (h:H a=some (.lst xs)):SqL K H a xs:=.inl (.inl h)
theorem SqT.of {K:PySem.W.Frag} (h:H a=some (.tup xs)):SqT K H a xs:=.inl (.inl h)
theorem Inv.list (I:Inv X pins σ H s) (h:SqL X.K H a xs):∃ its:List Value,Vals xs its∧PlainL s.heap a its.toArray∧xs.length≤sizeLine:=by
 rcases h with h | ⟨o,its,n,hk,hc,hd,hs,hz,r⟩
 ·obtain ⟨z,its,n,r,e⟩:=h.ok I.hok
  exact ⟨its,r,⟨_,n,e,rfl,rfl,rfl⟩,z⟩
 ·refine ⟨its.toList,r,⟨o,n,I.kIn a o hk,hc,hd,by simpa using hs⟩,?_⟩
  have e:=r.length
  simp only [Array.length_toList] at e
  omega
theorem Inv.tuple (I:Inv X pins σ H s) (h:SqT X.K H a xs):∃ its:List Value,Vals xs its∧IsTup s.heap a its.toArray∧xs.length≤sizeLine:=by
 rcases h with h | ⟨o,its,n,hk,hc,hs,hz,r⟩
 ·obtain ⟨z,its,r,p⟩:=h.ok I.hok
  exact ⟨its,r,p.1,z⟩
 ·refine ⟨its.toList,r,⟨o,I.kIn a o hk,hc,n,by simpa using hs⟩,?_⟩
  have e:=r.length
  simp only [Array.length_toList] at e
  omega
theorem Inv.list_inj (I:Inv X pins σ H s) (h:SqL X.K H a xs) (h':SqL X.K H a ys):xs=ys:=by
 obtain ⟨its,r,⟨o,n,e,_,_,d⟩,_⟩:=I.list h
 obtain ⟨its',r',⟨o',n',e',_,_,d'⟩,_⟩:=I.list h'
 rw [e] at e';cases e'
 rw [d] at d'
 injection d' with d1 _
 have:its=its':=by simpa using congrArg Array.toList d1
 subst this
 exact r.inj r'
theorem Inv.tuple_inj (I:Inv X pins σ H s) (h:SqT X.K H a xs) (h':SqT X.K H a ys):xs=ys:=by
 obtain ⟨its,r,⟨o,e,_,n,d⟩,_⟩:=I.tuple h
 obtain ⟨its',r',⟨o',e',_,n',d'⟩,_⟩:=I.tuple h'
 rw [e] at e';cases e'
 rw [d] at d'
 injection d' with d1 _
 have:its=its':=by simpa using congrArg Array.toList d1
 subst this
 exact r.inj r'
end
noncomputable abbrev Cx.wish (X:Cx) (E:Value→Shared→Prop):Cx:={ X with xe:=E }
noncomputable abbrev Cx.nox (X:Cx):Cx:=X.wish fun _ _=>False
theorem Cx.Ok.wish {X:Cx} (ok:X.Ok) (E:Value→Shared→Prop):(X.wish E).Ok:=
 ⟨ok.mod,ok.kind,ok.glob,ok.blt,ok.above,ok.inj,ok.has,ok.cab,ok.hd,ok.frames,ok.stk,ok.exf,ok.bs,ok.bsz,ok.noex,ok.exfs,ok.funs,ok.frf⟩
theorem Cx.Ok.unwish {X:Cx} {E:Value→Shared→Prop} (ok:(X.wish E).Ok):X.Ok:=
 ⟨ok.mod,ok.kind,ok.glob,ok.blt,ok.above,ok.inj,ok.has,ok.cab,ok.hd,ok.frames,ok.stk,ok.exf,ok.bs,ok.bsz,ok.noex,ok.exfs,ok.funs,ok.frf⟩
section
variable {X:Cx} {pins:List (Addr×Obj)} {σ:St} {H:Hp} {s:Shared} {E:Value→Shared→Prop}
theorem Inv.wish (I:Inv X pins σ H s) (E:Value→Shared→Prop):Inv (X.wish E) pins σ H s:=⟨I.ok.wish E,I.os,I.bare,I.base,I.loc,I.cell,I.free,I.freeC,I.pin,I.hok,I.len⟩
theorem Inv.unwish (I:Inv (X.wish E) pins σ H s):Inv X pins σ H s:=⟨I.ok.unwish,I.os,I.bare,I.base,I.loc,I.cell,I.free,I.freeC,I.pin,I.hok,I.len⟩
theorem SP.unwish {D:Ends} {f:Flow} {s':Shared} (h:SP (X.wish E) pins D f s'):SP X pins D f s':=by
 cases f with
 | next=>obtain ⟨σ',H',I,q⟩:=h;exact ⟨σ',H',I.unwish,q⟩
 | brk=>obtain ⟨σ',H',I,q⟩:=h;exact ⟨σ',H',I.unwish,q⟩
 | cont=>obtain ⟨σ',H',I,q⟩:=h;exact ⟨σ',H',I.unwish,q⟩
 | ret u=>obtain ⟨v,σ',H',I,r,q⟩:=h;exact ⟨v,σ',H',I.unwish,r,q⟩
theorem PE.nox {e:Expr} {t:TE} (h:PE X.nox e t):PE X e t:=fun pins s σ H Q I hw=>
 wpAny_mono (h pins s σ H Q (I.wish _) hw) (fun _ _ ⟨v,H',I',r,q⟩=>⟨v,H',I'.unwish,r,q⟩) fun _ _ z=>False.elim z
theorem PT.nox {e:Expr} {t:TT} (h:PT X.nox e t):PT X e t:=fun pins s σ H Q I hw=>
 wpAny_mono (h pins s σ H Q (I.wish _) hw) (fun _ _ ⟨H',I',q⟩=>⟨H',I'.unwish,q⟩) fun _ _ z=>False.elim z
theorem PSs.nox {st:List Stmt} {t:TS} (h:PSs X.nox st t):PSs X st t:=fun pins s σ H D I hw=>
 wpAny_mono (h pins s σ H D (I.wish _) hw) (fun _ _ q=>q.unwish) fun _ _ z=>False.elim z
end
section
variable {X:Cx} {st:Stmt} {rest:List Stmt} {t u:TS} {e:Expr} {te:TE} {pos:Pos}
noncomputable def tNext:TS:=fun D σ H=>D.nx σ H
noncomputable def tSeq (t u:TS):TS:=fun D σ H=>t { D with nx:=u D } σ H
theorem pss_nil:PSs X [] tNext:=fun _ _ σ H _ I h=>wpAny_execs_nil ⟨σ,H,I,h⟩
theorem pss_cons (h1:PS X st t) (h2:PSs X rest u):PSs X (st::rest) (tSeq t u):=by
 intro pins s σ H D I h
 refine wpAny_execs_cons (thn (h1 pins s σ H { D with nx:=u D } I h) fun f s1 q=>?_)
 cases f with
 | next=>
  obtain ⟨σ',H',I',q⟩:=q
  exact h2 pins s1 σ' H' D I' q
 | ret v=>exact q
 | brk=>exact q
 | cont=>exact q
theorem pss_one (h1:PS X st t):PSs X [st] t:=by
 intro pins s σ H D I h
 refine wpAny_execs_cons (thn (h1 pins s σ H D I h) fun f s1 q=>?_)
 cases f with
 | next=>exact wpAny_execs_nil q
 | ret v=>exact q
 | brk=>exact q
 | cont=>exact q
theorem Inv.quiet {pins:List (Addr×Obj)} {σ:St} {H:Hp} {s:Shared} (I:Inv X pins σ H s):interactive X.env=false:=by simp [interactive,I.ok.kind]
noncomputable def tDrop (te:TE):TS:=fun D σ H=>te σ H fun _ H1=>D.nx σ H1
theorem ps_expr (he:PE X e te) (hs:swapsWith e none pos.line X.env=pure false:=by rfl):PS X (.Expr e pos) (tDrop te):=by
 intro pins s σ H D I h
 exact wpAny_Expr_any (thn (he pins s σ H _ I h) fun v s1 ⟨x,H1,I1,r1,q1⟩=>⟨σ,H1,I1,q1⟩) I.quiet hs
noncomputable def tRet (te:TE):TS:=fun D σ H=>te σ H D.rt
theorem ps_ret (he:PE X e te):PS X (.Return (some e) pos) (tRet te):=by
 intro pins s σ H D I h
 exact wpAny_Return_some (thn (he pins s σ H _ I h) fun v s1 ⟨x,H1,I1,r1,q1⟩=>⟨x,σ,H1,I1,r1,q1⟩)
noncomputable def tIfS (c:TT) (t u:TS):TS:=fun D σ H=>c σ H fun b H1=>if b=true then t D σ H1 else u D σ H1
theorem ps_if {c:Expr} {a b:List Stmt} {tc:TT} (hc:PT X c tc) (ha:PSs X a t) (hb:PSs X b u):PS X (.If c a b pos) (tIfS tc t u):=by
 intro pins s σ H D I h
 refine wpAny_If (thn (hc pins s σ H _ I h) fun d s1 ⟨H1,I1,q1⟩=>?_)
 cases d with
 | true=>exact ha pins s1 σ H1 D I1 q1
 | false=>exact hb pins s1 σ H1 D I1 q1
noncomputable def tNever:TS:=fun _ _ _=>False
theorem ps_never:PS X st tNever:=fun _ _ _ _ _ _ h=>h.elim
end
noncomputable abbrev TG:=V→St→Hp→(St→Hp→Prop)→Prop
noncomputable abbrev TGs:=List V→St→Hp→(St→Hp→Prop)→Prop
noncomputable def PG (X:Cx) (target:Expr) (t:TG):Prop:=
 ∀ (pins:List (Addr×Obj)) (s:Shared) (σ:St) (H:Hp) (v:V) (u:Value) (Q:St→Hp→Prop),Inv X pins σ H s→RelV v u→t v σ H Q→
  wpAny (model X.prog X.w) X.A (assign target X.env u) (fun _ s'=>∃ σ' H',Inv X pins σ' H' s'∧Q σ' H') X.xe s
noncomputable def PGs (X:Cx) (ts:List Expr) (t:TGs):Prop:=
 ∀ (pins:List (Addr×Obj)) (s:Shared) (σ:St) (H:Hp) (vs:List V) (us:List Value) (Q:St→Hp→Prop),Inv X pins σ H s→Vals vs us→t vs σ H Q→
  wpAny (model X.prog X.w) X.A (assignInOrder ((assignEach ts X.env).map (·.2)) us) (fun _ s'=>∃ σ' H',Inv X pins σ' H' s'∧Q σ' H') X.xe s
noncomputable abbrev TSet:=V→V→V→Hp→(Hp→Prop)→Prop
noncomputable def PSet (X:Cx) (t:TSet):Prop:=
 ∀ (pins:List (Addr×Obj)) (s:Shared) (σ:St) (H:Hp) (o i v:V) (ov iv u:Value) (Q:Hp→Prop),Inv X pins σ H s→RelV o ov→RelV i iv→RelV v u→t o i v H Q→
  wpAny (model X.prog X.w) X.A (setItem ov iv u) (fun _ s'=>∃ H',Inv X pins σ H' s'∧Q H') X.xe s
section
variable {X:Cx} {pos:Pos}
noncomputable def gName (i:Nat):TG:=fun v σ H Q=>Q (σ.set i (some v)) H
theorem pg_name {i:Nat} {x:Str} (hN:X.N.Nodup) (hi:X.N[i]? =some x) (hx:Loc X.env.scope x) (hf:X.fn x=true∨X.env.scope.names.lookup x=some .local:=by first | exact .inl rfl | exact .inr rfl | assumption):PG X (.Name x pos) (gName i):=by
 intro pins s σ H v u Q I r h
 exact wpAny_assign_Name (store_ok I hN hi hx r (fun s' I'=>⟨_,H,I',h⟩) hf)
noncomputable def gNil:TGs:=fun vs σ H Q=>vs=[]∧Q σ H
noncomputable def gCons (t:TG) (u:TGs):TGs:=fun vs σ H Q=>∃ v r,vs=v::r∧t v σ H fun σ' H'=>u r σ' H' Q
theorem pgs_nil:PGs X [] gNil:=by
 intro pins s σ H vs us Q I r h
 obtain ⟨e,h⟩:=h
 subst e
 cases r
 exact assignInOrder_nil ⟨σ,H,I,h⟩
theorem pgs_cons {e:Expr} {es:List Expr} {t:TG} {u:TGs} (h1:PG X e t) (h2:PGs X es u)
  (hs:(assignEach (e::es) X.env).map (·.2)=assign e X.env::(assignEach es X.env).map (·.2):=by rfl):PGs X (e::es) (gCons t u):=by
 intro pins s σ H vs us Q I r h
 obtain ⟨v,vr,e1,h⟩:=h
 subst e1
 cases r with
 | cons r rr=>
  rw [hs]
  refine assignInOrder_cons (thn (h1 pins s σ H _ _ _ I r h) fun _ s1 ⟨σ1,H1,I1,q1⟩=>?_)
  exact h2 pins s1 σ1 H1 _ _ Q I1 rr q1
noncomputable def gTup (K:PySem.W.Frag) (n:Nat) (t:TGs):TG:=fun v σ H Q=>∃ a xs,v=.ref a∧SqT K H a xs∧xs.length=n∧t xs σ H Q
theorem pg_tup {es:List Expr} {k:Nat} {t:TGs} {n:Nat} (hc:X.calm=true) (h:PGs X es t)
  (hn:(assignEach es X.env).length=n:=by rfl) (hst:(assignEach es X.env).findIdx? (·.1)=none:=by rfl):PG X (.Tuple es k pos) (gTup X.K n t):=by
 intro pins s σ H v u Q I r hw
 obtain ⟨a,xs,e1,hq,hl,hw⟩:=hw
 subst e1
 cases r
 obtain ⟨its,rv,ht,hz⟩:=I.tuple hq
 refine assign_Tuple_tuple (I.ok.hd hc) ht (by simp [hn,←hl,rv.length]) hst fun h' hx=>?_
 have I1:Inv X pins σ H { s with heap:=h' }:=I.kept (t':=s.toks) fun b o e=>hx b o (Nat.ne_of_lt (Heap.lt_size e)) e
 exact h pins _ σ H xs _ Q I1 (by simpa using rv) hw
noncomputable def gSub (to ti:TE) (t:TSet):TG:=fun v σ H Q=>to σ H fun o H1=>ti σ H1 fun i H2=>t o i v H2 fun H3=>Q σ H3
theorem pg_sub {o i:Expr} {to ti:TE} {t:TSet} (ho:PE X o to) (hi:PE X i ti) (hs:PSet X t)
  (ha:∀ v,assign (.Subscript o i pos) X.env v=(do
   let ov ←holding [v] (eval o X.env)
   let iv ←holding [v,ov] (eval i X.env)
   standAt pos
   holding [v,ov,iv] (setItem ov iv v)
   release [v,ov,iv] []):=by intro _;rfl):PG X (.Subscript o i pos) (gSub to ti t):=by
 intro pins s σ H v u Q I r h
 rw [ha]
 refine wpAny_bind (wpAny_holding (thn (ho pins s σ H _ I h) fun ov s1 ⟨x,H1,I1,r1,q1⟩=>?_))
 refine wpAny_bind (wpAny_holding (thn (hi pins s1 σ H1 _ I1 q1) fun iv s2 ⟨y,H2,I2,r2,q2⟩=>?_))
 refine wpAny_bind (wpAny_standAt (wpAny_bind (wpAny_holding (thn (hs pins s2 σ H2 x y v ov iv u _ I2 r1 r2 r q2) fun _ s3 ⟨H3,I3,q3⟩=>?_))))
 exact wpAny_release ⟨σ,H3,I3,q3⟩
noncomputable def tAsg (te:TE) (g:TG):TS:=fun D σ H=>te σ H fun x H1=>g x σ H1 D.nx
theorem ps_asg {tg e:Expr} {te:TE} {g:TG} (he:PE X e te) (hg:PG X tg g) (hs:swapsWithSole [tg] e pos.line X.env=pure false:=by rfl) (hw:swappedStores [tg] e X.env=pure none:=by rfl)
  (h1:(assignEach [tg] X.env).map (·.2)=[assign tg X.env]:=by rfl):PS X (.Assign [tg] e pos) (tAsg te g):=by
 intro pins s σ H D I h
 refine wpAny_Assign_stores (thn (he pins s σ H _ I h) fun v s1 ⟨x,H1,I1,r1,q1⟩=>?_) hs hw
 rw [h1]
 exact thn (hg pins s1 σ H1 x v _ I1 r1 q1) fun _ s2 q=>q
theorem ps_set {i:Nat} {x:Str} {e:Expr} {te:TE} {pos':Pos} (hN:X.N.Nodup) (hi:X.N[i]? =some x) (hx:Loc X.env.scope x) (he:PE X e te) (hs:swapsWith e (some (.Name x pos')) pos.line X.env=pure false:=by rfl) (hf:X.fn x=true∨X.env.scope.names.lookup x=some .local:=by first | exact .inl rfl | exact .inr rfl | assumption):
  PS X (.Assign [.Name x pos'] e pos) (tAsg te (gName i)):=by
 intro pins s σ H D I h
 refine wpAny_Assign_Name (thn (he pins s σ H _ I h) fun v s1 ⟨y,H1,I1,r1,q1⟩=>?_) hs
 exact store_ok I1 hN hi hx r1 (fun s2 I2=>⟨_,H1,I2,q1⟩) hf
end
section
variable {X:Cx} {pos:Pos}
noncomputable def tWhile (c:TT) (tb:TS):TS:=fun D σ H=>∃ W:Nat→St→Hp→Prop,(∃ m,W m σ H)∧∀ m σ H,W m σ H→
 c σ H fun b H1=>if b=true then ∃ N:St→Hp→Prop,(∀ σ' H',N σ' H'→∃ m',m' < m∧W m' σ' H')∧tb { D with nx:=N,ct:=N,bk:=D.nx } σ H1 else D.nx σ H1
end
structure It where
 go:Nat→Hp→Prop
 yld:Nat→Hp→V→Hp→Prop
 stop:Nat→Hp→Prop
noncomputable def FpOk (X:Cx) (pins:List (Addr×Obj)) (H:Hp) (b:Addr):Prop:=
 H b=none∧b≠X.env.locals∧b∉X.fs∧(b∈X.ex∨X.s₀.heap.objs.size≤b)∧(∀ x c,X.env.cells.lookup x=some c→c≠b)∧∀ p∈X.pn++pins,p.1≠b
theorem Inv.fpOk {X:Cx} {pins:List (Addr×Obj)} {σ:St} {H H':Hp} {s:Shared} {b:Addr} (I:Inv X pins σ H s) (hb:s.heap.objs.size≤b) (hn:H' b=none):FpOk X pins H' b:=by
 refine ⟨hn,Nat.ne_of_gt (Nat.lt_of_lt_of_le I.lt hb),I.nofs hb,.inr (Nat.le_trans I.sz hb),fun x c e z=>?_,fun p hp z=>?_⟩
 ·obtain ⟨v,q⟩:=I.cell x c e
  exact absurd (Nat.lt_of_lt_of_le q.lt (by rw [z];exact hb)) (Nat.lt_irrefl _)
 ·exact absurd (Nat.lt_of_lt_of_le (Heap.lt_size (I.pin p hp).1) (by rw [z];exact hb)) (Nat.lt_irrefl _)
structure Turn (P:Program) (w:World) (K:PySem.W.Frag) (tg:Expr) (J:It) (fp:List Addr) (it:Addr) (tn:Nat→Heap→Prop):Prop where
 mem:it∈fp
 obj:∀ i h,tn i h→∀ b∈fp,∃ o,h.get? b=some o∧∀ v,o.data≠.cell v
 keep:∀ i h h',tn i h→(∀ b∈fp,∀ o,h.get? b=some o→h'.get? b=some o)→tn i h'
 item:∀ (X:Cx),X.prog=P→X.w=w→X.K=K→X.calm=true→∀ (i:Nat) (pins:List (Addr×Obj)) (s:Shared) (σ:St) (H:Hp) (E:Value→Shared→Prop),Inv X pins σ H s→(∀ b∈fp,FpOk X pins H b)→tn i s.heap→J.go i H→
  wpAny (model P w) X.A (pyNext (.ref it)) (fun r s1=>∃ u,r=some u∧
   wpAny (model P w) X.A (letOwnedTupleGo tg (.ref it) u) (fun _ s2=>∃ x H',Inv X pins σ H' s2∧RelV x u∧J.yld i H x H'∧tn (i + 1) s2.heap∧∀ b∈fp,H' b=none) E s1) E s
 done:∀ (X:Cx),X.prog=P→X.w=w→X.K=K→X.calm=true→∀ (i:Nat) (pins:List (Addr×Obj)) (s:Shared) (σ:St) (H:Hp) (E:Value→Shared→Prop),Inv X pins σ H s→(∀ b∈fp,FpOk X pins H b)→tn i s.heap→J.stop i H→
  wpAny (model P w) X.A (pyNext (.ref it)) (fun r s1=>r=none∧Inv X pins σ H s1) E s
 self:∀ (A:Around) (i:Nat) (s:Shared) (Q:Value→Shared→Prop) (E:Value→Shared→Prop),tn i s.heap→Q (.ref it) s→wpAny (model P w) A (pyIter (.ref it)) Q E s
noncomputable abbrev TI:=St→Hp→(It→Hp→Prop)→Prop
noncomputable def PIE (X:Cx) (pins:List (Addr×Obj)) (σ:St) (tg:Expr) (R:It→Hp→Prop) (itv:Value) (s2:Shared):Prop:=
 ∃ (it:Addr) (fp:List Addr) (tn:Nat→Heap→Prop) (J:It) (H':Hp),itv=.ref it∧Inv X pins σ H' s2∧Turn X.prog X.w X.K tg J fp it tn∧tn 0 s2.heap∧(∀ b∈fp,FpOk X pins H' b)∧R J H'
noncomputable def PI (X:Cx) (tg iter:Expr) (wi:TI):Prop:=
 ∀ (pins:List (Addr×Obj)) (s:Shared) (σ:St) (H:Hp) (R:It→Hp→Prop),Inv X pins σ H s→wi σ H R→
  wpAny (model X.prog X.w) X.A (eval iter X.env) (fun v s1=>wpAny (model X.prog X.w) X.A (pyIter v) (PIE X pins σ tg R) X.xe s1) X.xe s
theorem go_of {M:Model} {A:Around} {E:Value→Shared→Prop} {s:Shared} {tg:Expr} {it:Addr} {u:Value} {o:Obj} {n:String} {vs:Array Value} {Q:Unit→Shared→Prop} (ho:s.heap.get? it=some o) (hc:o.cls=.type n) (hd:o.data=.fields vs)
    (hn:["enumerate","zip","dict_itemiterator","dict_reverseitemiterator","odict_iterator","itertools.zip_longest","itertools.pairwise"].contains n=false) (hQ:Q () s):wpAny M A (letOwnedTupleGo tg (.ref it) u) Q E s:=by
  unfold letOwnedTupleGo
  cases tg <;> first
    | exact wpAny_pure hQ
    | (cases u <;> first
        | exact wpAny_pure hQ
        | (refine wpAny_bind (wpAny_load ho ?_)
           rw [hc,hd]
           show wpAny M A (if (["enumerate","zip","dict_itemiterator","dict_reverseitemiterator","odict_iterator","itertools.zip_longest","itertools.pairwise"].contains n&&vs[0]? ==some (rawInt _))=true then _ else _) Q E s
           rw [if_neg (by intro h;rw [hn,Bool.false_and] at h;cases h)]
           exact wpAny_pure hQ))
noncomputable def Itl (K:PySem.W.Frag) (a:Addr):It:=
 ⟨fun i H=>∃ xs x,SqL K H a xs∧xs[i]? =some x,fun i H x H'=>H'=H∧∀ xs,SqL K H a xs→xs[i]? =some x,fun i H=>∃ xs,SqL K H a xs∧xs.length≤i⟩
noncomputable def Itt (K:PySem.W.Frag) (a:Addr):It:=
 ⟨fun i H=>∃ xs x,SqT K H a xs∧xs[i]? =some x,fun i H x H'=>H'=H∧∀ xs,SqT K H a xs→xs[i]? =some x,fun i H=>∃ xs,SqT K H a xs∧xs.length≤i⟩
noncomputable def Itr (lo:Int) (n:Nat):It:=⟨fun i _=>i < n,fun i H x H'=>H'=H∧x=.int (lo + i),fun i _=>n≤i⟩
theorem turn_list {P:Program} {w:World} {K:PySem.W.Frag} {tg:Expr} (a it:Addr):Turn P w K tg (Itl K a) [it] it (fun i h=>h.IsListIter it a i) where
 mem:=by simp
 obj:=fun i h st b hb=>by
  have e:b=it:=by simpa using hb
  subst e
  obtain ⟨o,e,c,d⟩:=st
  exact ⟨o,e,fun v z=>by rw [d] at z;cases z⟩
 keep:=fun i h h' st k=>st.at fun o e=>k it (by simp) o e
 item:=by
  intro X hP hw hK hc i pins s σ H E I hf st hg
  subst hP hw hK
  obtain ⟨xs,x,hq,hx⟩:=hg
  obtain ⟨its,rv,p,hz⟩:=I.list hq
  obtain ⟨u,hu,ru⟩:=rv.get hx
  obtain ⟨f0,f1,f2,f3,f4,f5⟩:=hf it (by simp)
  refine wpAny_pyNext_list_item st p.isList (x:=u) (by simpa using hu) fun h' st' sb=>?_
  have I1:Inv X pins σ H { s with heap:=h' }:=I.turned (t':=s.toks) (fun b o hb e=>(sb.2 b hb).trans e) f0 f1 f3 f4 f5
  obtain ⟨o,e,c,d⟩:=id st'
  exact ⟨u,rfl,go_of (s:={ s with heap:=h' }) e c d (by decide) ⟨x,H,I1,ru,⟨rfl,fun ys hy=>by rw [I.list_inj hy hq];exact hx⟩,st',fun b hb=>(hf b hb).1⟩⟩
 done:=by
  intro X hP hw hK hc i pins s σ H E I hf st hg
  subst hP hw hK
  obtain ⟨xs,hq,hx⟩:=hg
  obtain ⟨its,rv,p,hz⟩:=I.list hq
  obtain ⟨f0,f1,f2,f3,f4,f5⟩:=hf it (by simp)
  have hl:=rv.length
  exact wpAny_pyNext_list_end (I.ok.hd hc) st p.isList (by simp;omega) fun h' eb=>⟨rfl,I.turned (t':=s.toks) (fun b o hb e=>eb b o hb e) f0 f1 f3 f4 f5⟩
 self:=fun _ _ _ _ _ st h=>wpAny_pyIter_listiter st h
theorem turn_tuple {P:Program} {w:World} {K:PySem.W.Frag} {tg:Expr} (a it:Addr):Turn P w K tg (Itt K a) [it] it (fun i h=>h.IsTupleIter it a i) where
 mem:=by simp
 obj:=fun i h st b hb=>by
  have e:b=it:=by simpa using hb
  subst e
  obtain ⟨o,e,c,d⟩:=st
  exact ⟨o,e,fun v z=>by rw [d] at z;cases z⟩
 keep:=fun i h h' st k=>st.at fun o e=>k it (by simp) o e
 item:=by
  intro X hP hw hK hc i pins s σ H E I hf st hg
  subst hP hw hK
  obtain ⟨xs,x,hq,hx⟩:=hg
  obtain ⟨its,rv,p,hz⟩:=I.tuple hq
  obtain ⟨u,hu,ru⟩:=rv.get hx
  obtain ⟨f0,f1,f2,f3,f4,f5⟩:=hf it (by simp)
  refine wpAny_pyNext_tuple_item st (show s.heap.IsTuple a its.toArray from p) (x:=u) (by simpa using hu) fun h' st' sb=>?_
  have I1:Inv X pins σ H { s with heap:=h' }:=I.turned (t':=s.toks) (fun b o hb e=>(sb.2 b hb).trans e) f0 f1 f3 f4 f5
  obtain ⟨o,e,c,d⟩:=id st'
  exact ⟨u,rfl,go_of (s:={ s with heap:=h' }) e c d (by decide) ⟨x,H,I1,ru,⟨rfl,fun ys hy=>by rw [I.tuple_inj hy hq];exact hx⟩,st',fun b hb=>(hf b hb).1⟩⟩
 done:=by
  intro X hP hw hK hc i pins s σ H E I hf st hg
  subst hP hw hK
  obtain ⟨xs,hq,hx⟩:=hg
  obtain ⟨its,rv,p,hz⟩:=I.tuple hq
  obtain ⟨f0,f1,f2,f3,f4,f5⟩:=hf it (by simp)
  have hl:=rv.length
  exact wpAny_pyNext_tuple_end (I.ok.hd hc) st (show s.heap.IsTuple a its.toArray from p) (by simp;omega) fun h' eb=>⟨rfl,I.turned (t':=s.toks) (fun b o hb e=>eb b o hb e) f0 f1 f3 f4 f5⟩
 self:=fun _ _ _ _ _ st h=>wpAny_pyIter_tupleiter st h
theorem turn_range {P:Program} {w:World} {K:PySem.W.Frag} {tg:Expr} (it:Addr) (lo:Int) (n:Nat):Turn P w K tg (Itr lo n) [it] it (fun i h=>IsRangeIter h it (lo + (i:Nat) * 1) ((n:Int) - (i:Nat)) 1) where
 mem:=by simp
 obj:=fun i h st b hb=>by
  have e:b=it:=by simpa using hb
  subst e
  exact ⟨_,st,fun v z=>by
   have z':Data.fields _=Data.cell v:=z
   cases z'⟩
 keep:=fun i h h' st k=>k it (by simp) _ st
 item:=by
  intro X hP hw hK hc i pins s σ H E I hf st hg
  subst hP hw hK
  obtain ⟨f0,f1,f2,f3,f4,f5⟩:=hf it (by simp)
  have W:=Walks.range (prog:=X.prog) (w:=X.w) (I.ok.hd hc) it lo 1 n
  refine W.item i s _ _ hg st fun v h' tk hv st' kk=>?_
  obtain ⟨t,rfl⟩:=hv
  have I1:Inv X pins σ H { s with heap:=h',toks:=tk }:=I.turned (fun b o hb e=>kk b o (by simpa using hb) e) f0 f1 f3 f4 f5
  refine ⟨_,rfl,go_of (s:={ s with heap:=h',toks:=tk }) (n:="range_iterator") st' rfl rfl (by decide) ⟨.int (lo + i),H,I1,⟨t,?_⟩,⟨rfl,rfl⟩,st',fun b hb=>(hf b hb).1⟩⟩
  rw [Int.mul_one]
 done:=by
  intro X hP hw hK hc i pins s σ H E I hf st hg
  subst hP hw hK
  obtain ⟨f0,f1,f2,f3,f4,f5⟩:=hf it (by simp)
  exact wpAny_pyNext_range_end (I.ok.hd hc) st (by have:n≤i:=hg;omega) fun h' eb=>⟨rfl,I.turned (t':=s.toks) (fun b o hb e=>eb b o hb e) f0 f1 f3 f4 f5⟩
 self:=fun _ _ _ _ _ st h=>wpAny_pyIter_rangeiter st h
end L2
namespace L2
open PySem PySem.Spec PyProof.Rows
section
variable {X:Cx} {tg:Expr}
noncomputable def iList (K:PySem.W.Frag) (tl:TE):TI:=fun σ H R=>tl σ H fun x H1=>∃ a,x=.ref a∧(∃ xs,SqL K H1 a xs)∧R (Itl K a) H1
noncomputable def iTup (K:PySem.W.Frag) (tl:TE):TI:=fun σ H R=>tl σ H fun x H1=>∃ a,x=.ref a∧(∃ xs,SqT K H1 a xs)∧R (Itt K a) H1
theorem pi_list {l:Expr} {tl:TE} (hl:PE X l tl):PI X tg l (iList X.K tl):=by
 intro pins s σ H R I h
 refine thn (hl pins s σ H _ I h) fun v s1 ⟨x,H1,I1,r1,q1⟩=>?_
 obtain ⟨a,e,⟨xs,hq⟩,q⟩:=q1
 subst e
 cases r1
 obtain ⟨its,rv,p,hz⟩:=I1.list hq
 refine wpAny_pyIter_list p.isList ?_
 refine ⟨s1.heap.objs.size,[s1.heap.objs.size],_,_,H1,rfl,I1.kept (t':=s1.toks) fun b o e=>Heap.get?_push_of_some _ e,turn_list a _,⟨_,Heap.get?_push_size _ rfl,rfl,rfl⟩,fun b hb=>?_,q⟩
 have e:b=s1.heap.objs.size:=by simpa using hb
 subst e
 exact I1.fpOk (Nat.le_refl _) (I1.hok.fresh (Nat.le_refl _))
theorem pi_tup {l:Expr} {tl:TE} (hl:PE X l tl):PI X tg l (iTup X.K tl):=by
 intro pins s σ H R I h
 refine thn (hl pins s σ H _ I h) fun v s1 ⟨x,H1,I1,r1,q1⟩=>?_
 obtain ⟨a,e,⟨xs,hq⟩,q⟩:=q1
 subst e
 cases r1
 obtain ⟨its,rv,p,hz⟩:=I1.tuple hq
 refine wpAny_pyIter_tuple (show s1.heap.IsTuple a its.toArray from p) ?_
 refine ⟨s1.heap.objs.size,[s1.heap.objs.size],_,_,H1,rfl,I1.kept (t':=s1.toks) fun b o e=>Heap.get?_push_of_some _ e,turn_tuple a _,⟨_,Heap.get?_push_size _ rfl,rfl,rfl⟩,fun b hb=>?_,q⟩
 have e:b=s1.heap.objs.size:=by simpa using hb
 subst e
 exact I1.fpOk (Nat.le_refl _) (I1.hok.fresh (Nat.le_refl _))
theorem range_it {pins:List (Addr×Obj)} {σ:St} {H:Hp} {s:Shared} {R:It→Hp→Prop} {E:Value→Shared→Prop} {lo hi:Int} {t u v:Tok} {tk:Nat} (I:Inv X pins σ H s) (h1:-(2 ^ 62)≤lo) (h2:lo < 2 ^ 62) (h3:-(2 ^ 62)≤hi) (h4:hi < 2 ^ 62)
  (q:R (Itr lo (hi - lo).toNat) H):wpAny (model X.prog X.w) X.A (pyIter (.ref s.heap.objs.size)) (PIE X pins σ tg R) E { s with heap:=s.heap.push { cls:=.type "range",data:=.fields #[.int lo t,.int hi u,.int 1 v] },toks:=tk }:=by
 refine wpAny_pyIter_range (IsRange.new ..) (small_one h1 h2 h3 h4) ?_
 have I1:Inv X pins σ H { s with heap:=s.heap.push { cls:=.type "range",data:=.fields #[.int lo t,.int hi u,.int 1 v] },toks:=tk }:=I.kept fun b o e=>Heap.get?_push_of_some _ e
 refine ⟨(s.heap.push { cls:=.type "range",data:=.fields #[.int lo t,.int hi u,.int 1 v] }).objs.size,[(s.heap.push { cls:=.type "range",data:=.fields #[.int lo t,.int hi u,.int 1 v] }).objs.size],_,_,H,rfl,
  I1.kept (t':=tk) fun b o e=>Heap.get?_push_of_some _ e,turn_range _ lo (hi - lo).toNat,?_,fun b hb=>?_,q⟩
 ·have e1:lo + ((0:Nat):Int) * 1=lo:=by simp
  have e2:(((hi - lo).toNat:Nat):Int) - ((0:Nat):Int)=Builtin.Range.rangeSize lo hi 1:=by rw [rangeSize_one];split <;> omega
  show IsRangeIter _ _ (lo + ((0:Nat):Int) * 1) ((((hi - lo).toNat:Nat):Int) - ((0:Nat):Int)) 1
  rw [e1,e2]
  exact Heap.get?_push_size _ rfl
 ·have e:b=(s.heap.push { cls:=.type "range",data:=.fields #[.int lo t,.int hi u,.int 1 v] }).objs.size:=by simpa using hb
  subst e
  exact I1.fpOk (Nat.le_refl _) (I1.hok.fresh (Nat.le_refl _))
noncomputable def iRng1 (ta:TA):TI:=fun σ H R=>ta σ H fun vs H1=>∃ j:Int,vs=[.int j]∧-(2 ^ 62)≤j∧j < 2 ^ 62∧R (Itr 0 j.toNat) H1
theorem pi_range1 {a:Expr} {ta:TA} {p pos:Pos} (hg:Gl X "range") (hm:X.mg "range"=none) (ha:PA X [a] ta) (hs:starEach [a] X.env=[(false,eval a X.env)]:=by rfl):PI X tg (.Call (.Name "range" p) [a] [] pos) (iRng1 ta):=by
 intro pins s σ H R I h
 refine Call_ (ld_blt I hg hm boot_range (PyProof.Rows.callWith_type1 (thn (ha pos pins s σ H _ I h) fun us s1 ⟨vs,H1,I1,r1,q1⟩=>?_) hs rfl))
 obtain ⟨j,e,q1,q2,q⟩:=q1
 subst e
 cases r1 with
 | cons r rr=>
  cases rr
  obtain ⟨t,rfl⟩:=r
  exact call_range_1 (range_it I1 (by omega) (by omega) q1 q2 (by simpa using q))
noncomputable def tFor (wi:TI) (g:TG) (tb:TS):TS:=fun D σ H=>wi σ H fun J H1=>∃ W:Nat→Nat→St→Hp→Prop,(∃ m,W 0 m σ H1)∧∀ i m σ H,W i m σ H→
 (J.stop i H∧D.nx σ H)∨(J.go i H∧∃ N:St→Hp→Prop,(∀ σ' H',N σ' H'→∃ m',m' < m∧W (i + 1) m' σ' H')∧∀ x H',J.yld i H x H'→g x σ H' fun σ2 H2=>tb { D with nx:=N,ct:=N,bk:=D.nx } σ2 H2)
noncomputable def pinsAt (fp:List Addr) (h:Heap):List (Addr×Obj):=fp.filterMap fun b=>(h.get? b).map fun o=>(b,o)
theorem mem_pinsAt {fp:List Addr} {h:Heap} {b:Addr} {o:Obj} (hb:b∈fp) (e:h.get? b=some o):(b,o)∈pinsAt fp h:=List.mem_filterMap.mpr ⟨b,hb,by rw [e];rfl⟩
theorem of_pinsAt {fp:List Addr} {h:Heap} {p:Addr×Obj} (hp:p∈pinsAt fp h):p.1∈fp∧h.get? p.1=some p.2:=by
 obtain ⟨b,hb,e⟩:=List.mem_filterMap.mp hp
 cases q:h.get? b with
 | none=>rw [q] at e;cases e
 | some o=>
  rw [q] at e
  have e':(b,o)=p:=Option.some.inj e
  subst e'
  exact ⟨hb,q⟩
theorem Inv.pinned {pins:List (Addr×Obj)} {σ:St} {H:Hp} {s:Shared} {fp:List Addr} (I:Inv X pins σ H s) (hf:∀ b∈fp,FpOk X pins H b) (ho:∀ b∈fp,∃ o,s.heap.get? b=some o∧∀ v,o.data≠.cell v):Inv X (pins++pinsAt fp s.heap) σ H s:=
 I.pins_of fun p hp=>(List.mem_append.mp hp).elim (fun z=>I.pin p (List.mem_append_right _ z)) fun z=>by
  obtain ⟨hb,e⟩:=of_pinsAt z
  obtain ⟨f0,f1,f2,_⟩:=hf p.1 hb
  obtain ⟨o,e',d⟩:=ho p.1 hb
  rw [e] at e';cases e'
  exact ⟨e,f0,f1,f2,d⟩
theorem Inv.unpinned {pins pl:List (Addr×Obj)} {σ:St} {H:Hp} {s:Shared} (I:Inv X (pins++pl) σ H s):Inv X pins σ H s:=I.pins_of fun p hp=>I.pin p (List.mem_append_right _ (List.mem_append_left _ hp))
theorem ps_for {iter:Expr} {body:List Stmt} {wi:TI} {g:TG} {tb:TS} {pos:Pos} (hp:PassesOwn (model X.prog X.w) X.A X.env X.xe) (hc:X.calm=true) (hi:PI X tg iter wi) (hg:PG X tg g) (hb:PSs X body tb)
  (hs:∀ x,foldedSetIterable iter X.env x=pure x:=by intro _;rfl):PS X (.For tg iter body [] pos) (tFor wi g tb):=by
 intro pins s σ H D I h
 refine wpAny_For (thn (hi pins s σ H _ I h) fun v s1 h1=>thn h1 fun itv s2 h2=>?_) hs
 obtain ⟨it,fp,tn,J,H2,e,I2,T,st2,f2,W,⟨m0,w0⟩,turn⟩:=h2
 subst e
 have stat:∀ {H':Hp},(∀ b∈fp,H' b=none)→∀ b∈fp,FpOk X pins H' b:=fun hn b hb=>⟨hn b hb,(f2 b hb).2⟩
 refine codeAny_forLoop_any (fun n s'=>∃ i σ' H',Inv X pins σ' H' s'∧tn i s'.heap∧(∀ b∈fp,H' b=none)∧W i n σ' H') ?_ m0 ⟨0,σ,H2,I2,st2,fun b hb=>(f2 b hb).1,w0⟩
 rintro n s3 ⟨i,σ3,H3,I3,st3,fr3,w3⟩
 rcases turn i n σ3 H3 w3 with ⟨stop,qn⟩ | ⟨go,N,hN,step⟩
 ·refine wpAny_passesOwn hp (thn (T.done X rfl rfl rfl hc i pins s3 σ3 H3 X.xe I3 (stat fr3) st3 stop) fun r s4 ⟨hr,I4⟩=>?_)
  subst hr
  exact wpAny_execs_nil ⟨σ3,H3,I4,qn⟩
 ·refine wpAny_passesOwn hp (thn (T.item X rfl rfl rfl hc i pins s3 σ3 H3 X.xe I3 (stat fr3) st3 go) fun r s4 ⟨u,hr,h4⟩=>?_)
  subst hr
  refine wpAny_passesOwn hp (thn h4 fun _ s5 ⟨x,H5,I5,r5,y5,st5,fr5⟩=>?_)
  have I5':=I5.pinned (stat fr5) (T.obj _ _ st5)
  refine wpAny_passesOwn hp (thn (hg _ s5 σ3 H5 x u _ I5' r5 (step x H5 y5)) fun _ s6 ⟨σ6,H6,I6,q6⟩=>?_)
  refine wpAny_passesOwn hp (thn (hb _ s6 σ6 H6 _ I6 q6) fun f s7 q7=>?_)
  have again:∀ {σ7:St} {H7:Hp},Inv X (pins++pinsAt fp s5.heap) σ7 H7 s7→N σ7 H7→∃ m,m < n∧∃ i σ' H',Inv X pins σ' H' s7∧tn i s7.heap∧(∀ b∈fp,H' b=none)∧W i m σ' H':=fun {σ7 H7} I7 n7=>by
   obtain ⟨m',hm,w7⟩:=hN σ7 H7 n7
   refine ⟨m',hm,i + 1,σ7,H7,I7.unpinned,T.keep _ _ _ st5 fun b hb o e=>(I7.pin (b,o) (List.mem_append_right _ (List.mem_append_right _ (mem_pinsAt hb e)))).1,fun b hb=>?_,w7⟩
   obtain ⟨o,e,d⟩:=T.obj _ _ st5 b hb
   exact (I7.pin (b,o) (List.mem_append_right _ (List.mem_append_right _ (mem_pinsAt hb e)))).2.1
  cases f with
  | next=>obtain ⟨σ7,H7,I7,n7⟩:=q7;exact again I7 n7
  | cont=>obtain ⟨σ7,H7,I7,n7⟩:=q7;exact again I7 n7
  | brk=>obtain ⟨σ7,H7,I7,q7⟩:=q7;exact ⟨σ7,H7,I7.unpinned,q7⟩
  | ret v=>obtain ⟨x7,σ7,H7,I7,r7,q7⟩:=q7;exact ⟨x7,σ7,H7,I7.unpinned,r7,q7⟩
end
end L2
namespace L2
open PySem PySem.Spec PyProof.Rows
noncomputable abbrev R2:=V→V→Hp→VK→Prop
noncomputable def OpR (X:Cx) (f:Value→Value→Sem Value) (r:R2):Prop:=
 ∀ (pins:List (Addr×Obj)) (s:Shared) (σ:St) (H:Hp) (x y:V) (v u:Value) (Q:VK),Inv X pins σ H s→RelV x v→RelV y u→r x y H Q→
  wpAny (model X.prog X.w) X.A (f v u) (EP X pins σ Q) X.xe s
noncomputable def UnR (X:Cx) (f:Value→Sem Value) (r:V→Hp→VK→Prop):Prop:=
 ∀ (pins:List (Addr×Obj)) (s:Shared) (σ:St) (H:Hp) (x:V) (v:Value) (Q:VK),Inv X pins σ H s→RelV x v→r x H Q→
  wpAny (model X.prog X.w) X.A (f v) (EP X pins σ Q) X.xe s
noncomputable def CallR (X:Cx) (f:Value) (r:List V→Hp→VK→Prop):Prop:=
 ∀ (pins:List (Addr×Obj)) (s:Shared) (σ:St) (H:Hp) (xs:List V) (us:List Value) (Q:VK),Inv X pins σ H s→Vals xs us→r xs H Q→
  wpAny (model X.prog X.w) X.A (call f us) (EP X pins σ Q) X.xe s
noncomputable def tOp (r:R2) (ta tb:TE):TE:=fun σ H Q=>ta σ H fun x H1=>tb σ H1 fun y H2=>r x y H2 Q
noncomputable def tUn (r:V→Hp→VK→Prop) (ta:TE):TE:=fun σ H Q=>ta σ H fun x H1=>r x H1 Q
noncomputable def rI (C:Int→Int→Prop) (g:Int→Int→V):R2:=fun x y H Q=>∃ i j,x=.int i∧y=.int j∧C i j∧Q (g i j) H
noncomputable def rI0 (g:Int→Int→V):R2:=fun x y H Q=>∃ i j,x=.int i∧y=.int j∧Q (g i j) H
noncomputable def rU (g:Int→V):V→Hp→VK→Prop:=fun x H Q=>∃ i,x=.int i∧Q (g i) H
section
variable {X:Cx} {a b c:Expr} {ta tb tc:TE} {pos:Pos}
theorem binT (ha:PE X a ta) (hb:PE X b tb) {pins:List (Addr×Obj)} {s:Shared} {σ:St} {H:Hp} {R:V→V→Hp→Prop} (I:Inv X pins σ H s)
  (h:ta σ H fun x H1=>tb σ H1 fun y H2=>R x y H2) {Q:Value→Shared→Prop} {f:Value→Value→Sem Value}
  (hf:∀ v u s2 x y H2,Inv X pins σ H2 s2→RelV x v→RelV y u→R x y H2→wpAny (model X.prog X.w) X.A (f v u) Q X.xe s2):
  wpAny (model X.prog X.w) X.A (eval a X.env) (fun v s₁=>wpAny (model X.prog X.w) X.A (eval b X.env) (fun u s₂=>wpAny (model X.prog X.w) X.A (f v u) Q X.xe s₂) X.xe s₁) X.xe s:=by
 refine thn (ha pins s σ H _ I h) fun v s1 ⟨x,H1,I1,r1,q1⟩=>?_
 refine thn (hb pins s1 σ H1 _ I1 q1) fun u s2 ⟨y,H2,I2,r2,q2⟩=>?_
 exact hf v u s2 x y H2 I2 r1 r2 q2
theorem pe_op {op:Operator} {r:R2} (ho:OpR X (binaryOp op) r) (ha:PE X a ta) (hb:PE X b tb):PE X (.BinOp a op b pos) (tOp r ta tb):=by
 intro pins s σ H Q I h
 exact wpAny_BinOp (binT ha hb I h fun v u s2 x y H2 I2 rx ry q=>ho pins s2 σ H2 x y v u Q I2 rx ry q)
theorem pe_un {op:UnaryOp} {r:V→Hp→VK→Prop} (ho:UnR X (unaryOp op) r) (ha:PE X a ta):PE X (.UnaryOp op a pos) (tUn r ta):=by
 intro pins s σ H Q I h
 exact UnaryOp_ (thn (ha pins s σ H _ I h) fun v s1 ⟨x,H1,I1,r1,q1⟩=>ho pins s1 σ H1 x v Q I1 r1 q1)
theorem opI {f:Value→Value→Sem Value} {C:Int→Int→Prop} {g:Int→Int→Int}
  (rule:∀ (i j:Int) (t u:Tok) (s:Shared) (Q:Value→Shared→Prop) (E:Value→Shared→Prop),C i j→Q (.int (g i j) s.toks) { s with toks:=s.toks + 1 }→wpAny (model X.prog X.w) X.A (f (.int i t) (.int j u)) Q E s):
  OpR X f (rI C fun i j=>.int (g i j)):=by
 intro pins s σ H x y v u Q I rx ry h
 obtain ⟨i,j,rfl,rfl,hc,q⟩:=h
 obtain ⟨t,rfl⟩:=rx
 obtain ⟨t',rfl⟩:=ry
 exact rule i j t t' s _ _ hc ⟨.int (g i j),H,I.tok _,⟨_,rfl⟩,q⟩
theorem opI0 {f:Value→Value→Sem Value} {g:Int→Int→Int}
  (rule:∀ (i j:Int) (t u:Tok) (s:Shared) (Q:Value→Shared→Prop) (E:Value→Shared→Prop),Q (.int (g i j) s.toks) { s with toks:=s.toks + 1 }→wpAny (model X.prog X.w) X.A (f (.int i t) (.int j u)) Q E s):
  OpR X f (rI0 fun i j=>.int (g i j)):=by
 intro pins s σ H x y v u Q I rx ry h
 obtain ⟨i,j,rfl,rfl,q⟩:=h
 obtain ⟨t,rfl⟩:=rx
 obtain ⟨t',rfl⟩:=ry
 exact rule i j t t' s _ _ ⟨.int (g i j),H,I.tok _,⟨_,rfl⟩,q⟩
theorem opB0 {f:Value→Value→Sem Value} {g:Int→Int→Bool}
  (rule:∀ (i j:Int) (t u:Tok) (s:Shared) (Q:Value→Shared→Prop) (E:Value→Shared→Prop),Q (.bool (g i j)) s→wpAny (model X.prog X.w) X.A (f (.int i t) (.int j u)) Q E s):
  OpR X f (rI0 fun i j=>.bl (g i j)):=by
 intro pins s σ H x y v u Q I rx ry h
 obtain ⟨i,j,rfl,rfl,q⟩:=h
 obtain ⟨t,rfl⟩:=rx
 obtain ⟨t',rfl⟩:=ry
 exact rule i j t t' s _ _ ⟨.bl (g i j),H,I,rfl,q⟩
noncomputable def CMul (i j:Int):Prop:=(-(2 ^ 64) < i∧i < 2 ^ 64)∨(-(2 ^ 64) < j∧j < 2 ^ 64)
theorem CMul.ok {i j:Int} (h:CMul i j):IntMulOk i j:=by
 rcases h with ⟨h1,h2⟩ | ⟨h1,h2⟩
 ·exact .of_left (intBits_le_64 h1 h2)
 ·exact .of_right (intBits_le_64 h1 h2)
theorem op_add:OpR X (binaryOp .Add) (rI0 fun i j=>.int (i + j)):=opI0 fun _ _ _ _ _ _ _ q=>add_int q
theorem op_sub:OpR X (binaryOp .Sub) (rI0 fun i j=>.int (i - j)):=opI0 fun _ _ _ _ _ _ _ q=>sub_int q
theorem op_mul:OpR X (binaryOp .Mult) (rI CMul fun i j=>.int (i * j)):=opI fun _ _ _ _ _ _ _ hc q=>mul_int q hc.ok
theorem op_mod:OpR X (binaryOp .Mod) (rI (fun _ j=>0 < j) fun i j=>.int (i % j)):=opI fun i j _ _ _ _ _ hc q=>by
 have h1:(0:Int) < j:=hc
 exact mod_int' (by omega) (by rw [Int.fmod_eq_emod_of_nonneg i (by omega)];exact q)
theorem unI {f:Value→Sem Value} {g:Int→Int}
  (rule:∀ (i:Int) (t:Tok) (s:Shared) (Q:Value→Shared→Prop) (E:Value→Shared→Prop),Q (.int (g i) s.toks) { s with toks:=s.toks + 1 }→wpAny (model X.prog X.w) X.A (f (.int i t)) Q E s):
  UnR X f (rU fun i=>.int (g i)):=by
 intro pins s σ H x v Q I rx h
 obtain ⟨i,rfl,q⟩:=h
 obtain ⟨t,rfl⟩:=rx
 exact rule i t s _ _ ⟨.int (g i),H,I.tok _,⟨_,rfl⟩,q⟩
theorem un_neg:UnR X (unaryOp .USub) (rU fun i=>.int (-i)):=unI fun _ _ _ _ _ q=>neg_int q
end
section
variable {X:Cx} {a b c:Expr} {ta tb tc:TE} {pos:Pos}
theorem fin_bl {pins:List (Addr×Obj)} {σ:St} {H:Hp} {s:Shared} {Q:VK} {k k':Bool} (I:Inv X pins σ H s) (q:Q (.bl k) H) (e:k=k'):EP X pins σ Q (.bool k') s:=by
 subst e
 exact ⟨.bl k,H,I,rfl,q⟩
theorem op_lt:OpR X (compareOp .Lt) (rI0 fun i j=>.bl (decide (i < j))):=opB0 fun _ _ _ _ _ _ _ q=>lt_int q
theorem op_le:OpR X (compareOp .LtE) (rI0 fun i j=>.bl (decide (i≤j))):=opB0 fun _ _ _ _ _ _ _ q=>le_int q
theorem op_ge:OpR X (compareOp .GtE) (rI0 fun i j=>.bl (decide (j≤i))):=opB0 fun _ _ _ _ _ _ _ q=>ge_int q
theorem op_isN:OpR X (compareOp .Is) (fun x y H Q=>y=.non∧Q (.bl (decide (x=.non))) H):=by
 intro pins s σ H x y v u Q I rx ry h
 obtain ⟨rfl,q⟩:=h
 cases ry
 refine is_none_gen (fin_bl I q ?_)
 cases x <;> first
  | (cases rx;rfl)
  | (obtain ⟨t,rfl⟩:=rx;rfl)
theorem op_notN:OpR X (compareOp .IsNot) (fun x y H Q=>y=.non∧Q (.bl (!decide (x=.non))) H):=by
 intro pins s σ H x y v u Q I rx ry h
 obtain ⟨rfl,q⟩:=h
 cases ry
 refine isnot_none_gen (fin_bl I q ?_)
 cases x <;> first
  | (cases rx;rfl)
  | (obtain ⟨t,rfl⟩:=rx;rfl)
theorem OpR.or {f:Value→Value→Sem Value} {r r':R2} (h:OpR X f r) (h':OpR X f r'):OpR X f (fun x y H Q=>r x y H Q∨r' x y H Q):=by
 intro pins s σ H x y v u Q I rx ry q
 rcases q with q | q
 ·exact h pins s σ H x y v u Q I rx ry q
 ·exact h' pins s σ H x y v u Q I rx ry q
theorem nomark (b:Expr) {op:CmpOp} (h:op≠.In:=by decide) (h2:op≠.NotIn:=by decide):behindInMarks op b=false:=by
 have e1:(op==CmpOp.In)=false:=by cases op <;> first | rfl | exact absurd rfl h
 have e2:(op==CmpOp.NotIn)=false:=by cases op <;> first | rfl | exact absurd rfl h2
 cases b <;> simp [behindInMarks,e1,e2]
theorem pe_cmpR {op:CmpOp} {r:R2} (ho:OpR X (compareOp op) r) (ha:PE X a ta) (hb:PE X b tb) (hm:behindInMarks op b=false):PE X (.Compare a [op] [b] pos) (tOp r ta tb):=by
 intro pins s σ H Q I h
 exact wpAny_Compare1 (binT ha hb I h fun v u s2 x y H2 I2 rx ry q=>ho pins s2 σ H2 x y v u Q I2 rx ry q) hm
noncomputable def tTest (t:TE):TT:=fun σ H Q=>t σ H fun x H'=>∃ k,x=.bl k∧Q k H'
theorem pt_cmpR {op:CmpOp} {r:R2} (ho:OpR X (compareOp op) r) (ha:PE X a ta) (hb:PE X b tb) (hm:behindInMarks op b=false):PT X (.Compare a [op] [b] pos) (tTest (tOp r ta tb)):=by
 intro pins s σ H Q I h
 refine wpAny_isTrue_Compare1 (thn (ha pins s σ H _ I h) fun v s1 ⟨x,H1,I1,r1,q1⟩=>thn (hb pins s1 σ H1 _ I1 q1) fun u s2 ⟨y,H2,I2,r2,q2⟩=>
  thn (ho pins s2 σ H2 x y v u _ I2 r1 r2 q2) fun c s3 ⟨z,H3,I3,r3,k,e,q3⟩=>?_) hm
 subst e
 cases r3
 exact wpAny_truthy_bool ⟨H3,I3,q3⟩
noncomputable def tChain (r r':R2) (ta tb tc:TE):TE:=fun σ H Q=>ta σ H fun x H1=>tb σ H1 fun y H2=>r x y H2 fun z H3=>∃ k,z=.bl k∧
 (if k=true then tc σ H3 fun w' H4=>r' y w' H4 Q else Q (.bl false) H3)
theorem pe_chain {op op':CmpOp} {r r':R2} (ho:OpR X (compareOp op) r) (ho':OpR X (compareOp op') r') (ha:PE X a ta) (hb:PE X b tb) (hc:PE X c tc)
  (hm:lastMarks [op,op'] [b,c]=false:=by with_unfolding_all rfl):PE X (.Compare a [op,op'] [b,c] pos) (tChain r r' ta tb tc):=by
 intro pins s σ H Q I h
 refine Compare_chain (thn (ha pins s σ H _ I h) fun v s1 ⟨x,H1,I1,r1,q1⟩=>chain_link (thn (hb pins s1 σ H1 _ I1 q1) fun u s2 ⟨y,H2,I2,r2,q2⟩=>
  thn (ho pins s2 σ H2 x y v u _ I2 r1 r2 q2) fun d s3 ⟨z,H3,I3,r3,k,e,q3⟩=>?_)) hm
 subst e
 cases r3
 refine wpAny_truthy_bool ?_
 cases k with
 | false=>exact ite_ff ⟨.bl false,H3,I3,rfl,q3⟩
 | true=>exact ite_tt (chain_last (thn (hc pins s3 σ H3 _ I3 q3) fun w' s4 ⟨z',H4,I4,r4,q4⟩=>ho' pins s4 σ H4 y z' u w' Q I4 r2 r4 q4))
theorem pt_chain {op op':CmpOp} {r r':R2} (ho:OpR X (compareOp op) r) (ho':OpR X (compareOp op') r') (ha:PE X a ta) (hb:PE X b tb) (hc:PE X c tc)
  (hm:lastMarks [op,op'] [b,c]=false:=by with_unfolding_all rfl):PT X (.Compare a [op,op'] [b,c] pos) (tTest (tChain r r' ta tb tc)):=by
 intro pins s σ H Q I h
 refine isTrue_chain (thn (ha pins s σ H _ I h) fun v s1 ⟨x,H1,I1,r1,q1⟩=>test_link (thn (hb pins s1 σ H1 _ I1 q1) fun u s2 ⟨y,H2,I2,r2,q2⟩=>
  thn (ho pins s2 σ H2 x y v u _ I2 r1 r2 q2) fun d s3 ⟨z,H3,I3,r3,k,e,q3⟩=>?_)) hm
 subst e
 cases r3
 refine wpAny_truthy_bool ?_
 cases k with
 | false=>
  obtain ⟨k',e',q'⟩:=q3
  cases e'
  exact ite_ff ⟨H3,I3,q'⟩
 | true=>
  refine ite_tt (test_last (thn (hc pins s3 σ H3 _ I3 q3) fun w' s4 ⟨z',H4,I4,r4,q4⟩=>thn (ho' pins s4 σ H4 y z' u w' _ I4 r2 r4 q4) fun d' s5 ⟨z2,H5,I5,r5,k2,e2,q5⟩=>?_))
  subst e2
  cases r5
  exact wpAny_truthy_bool ⟨H5,I5,q5⟩
theorem line63:(sizeLine:Nat) < 2 ^ 63:=by rw [sizeLine_eq];decide
theorem vals1 {x:V} {us:List Value} (r:Vals [x] us):∃ u,us=[u]∧RelV x u:=by
 cases r with
 | cons r1 r2=>cases r2;exact ⟨_,rfl,r1⟩
theorem vals2 {x y:V} {us:List Value} (r:Vals [x,y] us):∃ u w',us=[u,w']∧RelV x u∧RelV y w':=by
 cases r with
 | cons r1 r2=>
  cases r2 with
  | cons r3 r4=>cases r4;exact ⟨_,_,rfl,r1,r3⟩
theorem call_max2 (hc:X.calm=true):CallR X (.builtin "max") (fun xs H Q=>∃ i j,xs=[.int i,.int j]∧Q (.int (if j > i then j else i)) H):=by
 intro pins s σ H xs us Q I r h
 obtain ⟨i,j,rfl,q⟩:=h
 obtain ⟨u,w',rfl,⟨t,rfl⟩,⟨t',rfl⟩⟩:=vals2 r
 refine max_two_ints (I.ok.hd hc) fun h' tk k=>⟨_,H,I.kept k,?_,q⟩
 by_cases hj:j > i
 ·rw [if_pos hj,if_pos hj];exact ⟨_,rfl⟩
 ·rw [if_neg hj,if_neg hj];exact ⟨_,rfl⟩
theorem call_int1:CallR X (.type "int") (fun xs H Q=>(∃ i,xs=[.int i]∧Q (.int i) H)∨∃ k,xs=[.bl k]∧Q (.int (if k then 1 else 0)) H):=by
 intro pins s σ H xs us Q I r h
 rcases h with ⟨i,rfl,q⟩ | ⟨k,rfl,q⟩
 ·obtain ⟨u,rfl,t,rfl⟩:=vals1 r
  exact call_int_int ⟨.int i,H,I,⟨_,rfl⟩,q⟩
 ·obtain ⟨u,rfl,r1⟩:=vals1 r
  cases r1
  exact call_int_bool ⟨.int (if k then 1 else 0),H,I.tok _,⟨_,rfl⟩,q⟩
end
end L2
namespace L2
open PySem PySem.Spec PyProof.Rows
structure ObjM (h:Heap) (x dx C:Addr) (mA:Str→Option Value):Prop where
 obj:h.get? x=some (PySem.W.instObj C dx)
 ns:h.Ns1 dx mA
 ne:dx≠x
theorem lookIn_ns {h:Heap} {dx:Addr} {mA:Str→Option Value} (n:h.Ns1 dx mA):∃ od,h.get? dx=some od∧∀ name,PySem.W.lookIn name od=some (mA name):=by
 obtain ⟨o,es,ep,ho,hd,hk,_,hm⟩:=n
 refine ⟨o,ho,fun name=>?_⟩
 have e:=hm name
 unfold nsFind findBy at e
 rw [←Array.find?_toList] at e
 unfold PySem.W.lookIn
 rw [hd]
 dsimp only
 split
 ·rename_i y q
  rw [q] at e
  exact congrArg some e
 ·rename_i q
  rw [q] at e
  have a:es.toList.any (·.refKey)=false:=by
   rw [List.any_eq_false]
   intro y hy
   obtain ⟨z,t,hkey⟩:=hk y (Array.mem_toList_iff.mp hy)
   simp [DictEntry.refKey,hkey]
  have a':¬es.toList.any (·.refKey)=true:=by rw [a];exact Bool.false_ne_true
  rw [if_neg a']
  exact congrArg some e
theorem ObjM.look {h:Heap} {x dx C:Addr} {mA:Str→Option Value} (I:ObjM h x dx C mA):∃ od,PySem.W.InstAt h x (PySem.W.instObj C dx) C (some od)∧∀ name,PySem.W.lookIn name od=some (mA name):=
 let ⟨od,ho,hl⟩:=lookIn_ns I.ns
 ⟨od,⟨I.obj,rfl,rfl,ho⟩,hl⟩
section
variable {prog:Program} {w:World} {A:Around} {E:Value→Shared→Prop} {s:Shared} {K:PySem.W.Frag} {x dx C f:Addr} {mA:Str→Option Value} {name:Str} {v:Value}
theorem set_map {ns:List Str} {Q:Unit→Shared→Prop} (X:K.In s.heap) (I:ObjM s.heap x dx C mA)
  (hs:PySem.W.findIn K (.ref C) "__setattr__"=some (some (.builtin "object.__setattr__"))) (hp:PySem.W.plainOver K C=true) (ht:PySem.W.takerIn K C name=some none) (hh:PySem.W.hasDictIn K C=true)
  (hw:PySem.Within mA ns) (hsz:ns.length≤sizeLine)
  (h:∀ h',ObjM h' x dx C (fun y=>if y=name then some v else mA y)→Heap.SameBut dx s.heap h'→Q () { s with heap:=h',toks:=s.toks + 2 }):
  wpAny (model prog w) A (setAttr (.ref x) name v) Q E s:=by
 obtain ⟨od,J,hl⟩:=I.look
 refine PySem.W.set_plain X J hs (PySem.W.osa_open (s:={ s with toks:=s.toks + 1 }) (r:=none) X J hp ht fun b=>?_)
 obtain ⟨cd,hc,hd'⟩:=PySem.W.any_some hh
 have hx:s.heap.get? x=some ⟨.ref C,some dx,.plain,#[]⟩:=I.obj
 refine wpAny_bind (wpAny_pure (wpAny_bind (wpAny_bind (wpAny_loadPart hx (wpAny_bind (PySem.W.Looks.here (s:={ s with toks:=s.toks + 1 }) (PySem.W.looks_clsIn X hc) ?_))))))
 rw [hd']
 refine wpAny_pure (a:=some dx) (wpAny_bind (wpAny_pure (wpAny_bind ?_)))
 refine wpAny_nsSet1 (s:={ s with toks:=s.toks + 1 }) I.ns fun h' hn2 hs2=>?_
 obtain ⟨oD,esD,epD,hoD,hdD,hcD⟩:=hn2.count (PySem.Within.cons name v hw)
 refine wpAny_bind (wpAny_lookBehind hoD (by rw [hdD];exact pastItsLine_dict (Nat.le_trans hcD (by rw [List.length_cons];omega))) ?_)
 exact wpAny_pure (h _ ⟨(hs2.2 _ (Ne.symm I.ne)).trans I.obj,hn2,I.ne⟩ hs2)
end
theorem RelO.none_of {o:Option Value} (r:RelO none o):o=none:=by
 cases o with
 | none=>rfl
 | some u=>exact (show False from r).elim
section
variable {P:Program} {w:World} {H H':Hp} {h h':Heap} {a C dx:Addr} {fs fs':List (Str×V)}
theorem ins_get (hok:HOk P w H h) (e:H a=some (.ins C dx fs)):∃ mA,ObjM h a dx C mA∧(∀ f,RelO (fs.lookup f) (mA f))∧PySem.Within mA (fs.map (·.1))∧fs.length≤1000∧H dx=some (.own a):=by
 obtain ⟨d,z,ne,ob,mA,n,r,q⟩:=(show ObjOk P w H h a (.ins C dx fs) from hok a _ e)
 exact ⟨mA,⟨ob,n,ne⟩,r,q,z,d⟩
end
structure Cls (K:PySem.W.Frag) (C:Addr):Prop where
 pg:PySem.W.plainGet K C Str.empty=true
 hd:PySem.W.hasDictIn K C=true
 po:PySem.W.plainOver K C=true
 sa:PySem.W.findIn K (.ref C) "__setattr__"=some (some (.builtin "object.__setattr__"))
theorem Cls.get {K:PySem.W.Frag} {C:Addr} (c:Cls K C) (f:Str):PySem.W.plainGet K C f=true:=c.pg
structure Con (K:PySem.W.Frag) (C:Addr) (f:Str) (v:V) (u:Value):Prop where
 at_:PySem.W.findIn K (.ref C) f=some (some u)
 rel:RelV v u
 get:PySem.W.specialIn K u "__get__"=some none
 cp:PySem.W.copiedNames.contains f=false
structure Meth (K:PySem.W.Frag) (C:Addr) (m:Str) (f:Addr):Prop where
 at_:PySem.W.findIn K (.ref C) m=some (some (.ref f))
 fn:PySem.W.isFn K (.ref f)=true
 kp:PySem.W.keepIn K (.ref f)=true
section
variable {X:Cx} {pins:List (Addr×Obj)} {σ:St} {H:Hp} {s:Shared} {a C dx:Addr} {fs:List (Str×V)} {f:Str} {v:V} {A:Around} {E:Value→Shared→Prop}
end
section
variable {X:Cx} {o e value:Expr} {f:Str} {pos pos' tpos:Pos} {ta tv:TE}
end
section
variable {X:Cx} {pins:List (Addr×Obj)} {σ:St} {H:Hp} {s:Shared} {A:Around} {E:Value→Shared→Prop} {Q:Value→Shared→Prop} {c:Value} {b:Bool}
inductive TyOf (K:PySem.W.Frag) (H:Hp):V→Value→Prop where
 | non:TyOf K H .non (.type "NoneType")
 | bl (x:Bool):TyOf K H (.bl x) (.type "bool")
 | int (i:Int):TyOf K H (.int i) (.type "int")
 | str (x:Str):TyOf K H (.str x) (.type "str")
 | flt (x:UInt64):TyOf K H (.flt x) (.type "float")
 | lst {a:Addr} {xs:List V} (e:H a=some (.lst xs)):TyOf K H (.ref a) (.type "list")
 | frz {a:Addr} {o:Obj} {xs:List V} (e:H a=some (.frz o (.lst xs))):TyOf K H (.ref a) (.type "list")
 | tup {a:Addr} {xs:List V} (e:H a=some (.tup xs)):TyOf K H (.ref a) (.type "tuple")
 | dK {a:Addr} {kvs:List (Key×V)} (e:H a=some (.dK kvs)):TyOf K H (.ref a) (.type "dict")
 | dT {a:Addr} {kvs:List (List Key×V)} (e:H a=some (.dT kvs)):TyOf K H (.ref a) (.type "dict")
 | ins {a C dx:Addr} {fs:List (Str×V)} (e:H a=some (.ins C dx fs)) (cl:Cls K C) (ha:PySem.W.findIn K (.ref C) "__class__"=some (some (.builtin "object.__class__")))
   (hn:PySem.W.specialIn K (.builtin "object.__class__") "__get__"=some (some (.builtin "getset_descriptor.__get__"))) (htk:PySem.W.takesIn K (.builtin "object.__class__")=some true)
   (hm:PySem.W.mroIn K C (.type "object")=some true):TyOf K H (.ref a) (.ref C)
theorem isinst_ok {x:V} {u t:Value} (I:Inv X pins σ H s) (rx:RelV x u) (ty:TyOf X.K H x t) (e:PySem.W.kitOne X.K t c=some b) (h:∀ tk,Q (.bool b) { s with toks:=tk }):
  wpAny (model X.prog X.w) A (call (.builtin "isinstance") [u,c]) Q E s:=by
 cases ty with
 | non=>cases (show u=Value.none from rx);exact PySem.W.kia_one PySem.W.kitx_none I.kIn True.intro e (fun z=>nomatch z) h
 | bl y=>cases (show u=Value.bool y from rx);exact PySem.W.kia_one PySem.W.kitx_bool I.kIn True.intro e (fun z=>nomatch z) h
 | int i=>obtain ⟨t,q⟩:=(show ∃ t,u=Value.int i t from rx);cases q;exact PySem.W.kia_one PySem.W.kitx_int I.kIn True.intro e (fun z=>nomatch z) h
 | str y=>obtain ⟨t,q⟩:=(show ∃ t,u=Value.str y t from rx);cases q;exact PySem.W.kia_one PySem.W.kitx_str I.kIn True.intro e (fun z=>nomatch z) h
 | flt y=>obtain ⟨t,q⟩:=(show ∃ t,u=Value.float y t from rx);cases q;exact PySem.W.kia_one PySem.W.kitx_float I.kIn True.intro e (fun z=>nomatch z) h
 | @lst a xs ea=>
  cases (show u=Value.ref a from rx)
  obtain ⟨_,_,n,_,h1⟩:=(show ObjOk X.prog X.w H s.heap a (.lst xs) from I.hok a _ ea)
  exact PySem.W.kia_one PySem.W.kitx_list I.kIn ⟨_,h1,rfl⟩ e (fun z=>nomatch z) h
 | @frz a ob xs ea=>
  cases (show u=Value.ref a from rx)
  obtain ⟨_,_,_,n,_,h1⟩:=(show ObjOk X.prog X.w H s.heap a (.frz ob (.lst xs)) from I.hok a _ ea)
  exact PySem.W.kia_one PySem.W.kitx_list I.kIn ⟨_,h1,rfl⟩ e (fun z=>nomatch z) h
 | @tup a xs ea=>
  cases (show u=Value.ref a from rx)
  obtain ⟨_,_,_,p⟩:=(show ObjOk X.prog X.w H s.heap a (.tup xs) from I.hok a _ ea)
  obtain ⟨o,h1,h2,_⟩:=p.1
  exact PySem.W.kia_one PySem.W.kitx_tuple I.kIn ⟨o,h1,h2⟩ e (fun z=>nomatch z) h
 | @dK a kvs ea=>
  cases (show u=Value.ref a from rx)
  obtain ⟨_,_,vs,_,p⟩:=(show ObjOk X.prog X.w H s.heap a (.dK kvs) from I.hok a _ ea)
  obtain ⟨o,es,ep,h1,h2,_⟩:=p
  exact PySem.W.kia_one PySem.W.kitx_dict I.kIn ⟨o,h1,h2.1⟩ e (fun z=>nomatch z) h
 | @dT a kvs ea=>
  cases (show u=Value.ref a from rx)
  obtain ⟨_,_,xs,_,o,es,ep,h1,h2,_⟩:=(show ObjOk X.prog X.w H s.heap a (.dT kvs) from I.hok a _ ea)
  exact PySem.W.kia_one PySem.W.kitx_dict I.kIn ⟨o,h1,h2.1⟩ e (fun z=>nomatch z) h
 | @ins a C dx fs ea cl ha hn htk hm=>
  cases (show u=Value.ref a from rx)
  obtain ⟨mA,O,_⟩:=ins_get I.hok ea
  obtain ⟨od,J,_⟩:=O.look
  exact PySem.W.kia_one (PySem.W.kitx_own (cl.get _) cl.hd ha hn htk hm) I.kIn J e (fun z=>nomatch z) h
end
end L2
namespace L2
open PySem PySem.Spec PyProof.Rows
structure Room (k:Nat) (A:Around):Prop where
 hd:A.handled=none
 dp:A.depth + 3 * k + 5 < recursionLimit
 un:A.units + 16 * k + 200 < cLine
theorem Room.mono {j k:Nat} {A:Around} (r:Room k A) (h:j≤k):Room j A:=⟨r.hd,by have:=r.dp;omega,by have:=r.un;omega⟩
theorem Room.deeper {k:Nat} {A:Around} (r:Room (k + 1) A) (env:Env):Room k (A.deeper env):=
 ⟨r.hd,by have:=r.dp;show A.depth + 1 + 3 * k + 5 < _;omega,by have:=r.un;show A.units + 3 + 16 * k + 200 < _;omega⟩
theorem Room.in1 {k:Nat} {A:Around} (r:Room (k + 1) A):Room k A.in1:=
 ⟨r.hd,by have:=r.dp;show A.depth + 3 * k + 5 < _;omega,by have:=r.un;show A.units + 1 + 16 * k + 200 < _;omega⟩
theorem Room.depth {k:Nat} {A:Around} (r:Room k A):A.depth < recursionLimit:=by have:=r.dp;omega
theorem Room.units {k:Nat} {A:Around} (r:Room k A):A.units + 64 < cLine:=by have:=r.un;omega
theorem Room.units0 {k:Nat} {A:Around} (r:Room k A):A.units < cLine:=by have:=r.un;omega
noncomputable def tNil:TA:=fun _ H Q=>Q [] H
noncomputable def tCons (ta:TE) (tr:TA):TA:=fun σ H Q=>ta σ H fun x H1=>tr σ H1 fun xs H2=>Q (x::xs) H2
section
variable {X:Cx} {e:Expr} {es:List Expr} {te:TE} {t:TA} {pos:Pos}
theorem pa_nil:PA X [] tNil:=fun _ _ _ _ H Q I h=>Calls.spliced_nil ⟨[],H,I,.nil,h⟩
theorem pa_cons (ha:PE X e te) (hr:PA X es t) (hs:starEach (e::es) X.env=(false,eval e X.env)::starEach es X.env:=by rfl):PA X (e::es) (tCons te t):=by
 intro pos pins s σ H Q I h
 rw [hs]
 show wpAny _ _ (spliced ((false,eval e X.env)::backTo pos (starEach es X.env))) _ _ s
 refine Calls.spliced_cons (thn (ha pins s σ H _ I h) fun u s1 ⟨x,H1,I1,r1,q1⟩=>?_)
 exact thn (hr pos pins s1 σ H1 _ I1 q1) fun us s2 ⟨xs,H2,I2,r2,q2⟩=>⟨x::xs,H2,I2,.cons r1 r2,q2⟩
noncomputable def tTup (t:TA):TE:=fun σ H Q=>t σ H fun xs H1=>xs.length≤sizeLine∧∀ p,H1 p=none→Q (.ref p) (upd H1 p (.tup xs))
noncomputable def tLst (t:TA):TE:=fun σ H Q=>t σ H fun xs H1=>xs.length≤sizeLine∧∀ p,H1 p=none→Q (.ref p) (upd H1 p (.lst xs))
theorem pe_tup {x1} (h:PA X es t):PE X (.Tuple es x1 pos) (tTup t):=by
 intro pins s σ H Q I hq
 refine wpAny_Tuple_spliced (thn (h pos pins s σ H _ I hq) fun us s1 ⟨xs,H1,I1,r,z,q⟩=>⟨by rw [←r.length];exact z,?_⟩)
 have hf:H1 s1.heap.objs.size=none:=I1.hok.fresh (Nat.le_refl _)
 refine ⟨.ref s1.heap.objs.size,upd H1 s1.heap.objs.size (.tup xs),I1.laid (t':=s1.toks) (fun b u e=>Heap.get?_push_of_some _ e) (Nat.le_refl _) ?_,rfl,q _ hf⟩
 exact ⟨z,us,r,⟨_,Heap.get?_push_size _ rfl,rfl,_,rfl⟩,_,Heap.get?_push_size _ rfl,rfl⟩
theorem pe_lst (h:PA X es t):PE X (.List es pos) (tLst t):=by
 intro pins s σ H Q I hq
 refine wpAny_List_spliced (thn (h pos pins s σ H _ I hq) fun us s1 ⟨xs,H1,I1,r,z,q⟩=>⟨by rw [←r.length];exact z,?_⟩)
 have hf:H1 s1.heap.objs.size=none:=I1.hok.fresh (Nat.le_refl _)
 refine ⟨.ref s1.heap.objs.size,upd H1 s1.heap.objs.size (.lst xs),I1.laid (t':=s1.toks) (fun b u e=>Heap.get?_push_of_some _ e) (Nat.le_refl _) ?_,rfl,q _ hf⟩
 exact ⟨z,us,0,r,Heap.get?_push_size _ rfl⟩
end
noncomputable abbrev Sp:=List V→Hp→VK→XK→Prop
noncomputable abbrev CXT:=List Env→Hp→Shared→XK→Value→Shared→Prop
structure Env0 (P:Program) (w:World) (K:PySem.W.Frag) (mg:Str→Option Value) (base:Heap) (A:Around) (outer:List Env) (s:Shared) (H:Hp):Prop where
 frames:A.frames=some outer
 mod:Mod K mg base
 bs:∀ b o,base.get? b=some o→s.heap.get? b=some o∧H b=none
 bsz:base.objs.size≤s.heap.objs.size
 funs:s.heap.FunFrames base outer
 frf:∀ b∈frs outer,H b=none
 hok:HOk P w H s.heap
 bare:AllBare s.gens
noncomputable def CE (outer:List Env) (P:Program) (w:World) (H:Hp) (s:Shared) (Q:VK) (u:Value) (s':Shared):Prop:=
 ∃ v H',s'.os=s.os∧AllBare s'.gens∧Un (frs outer) [] H H' s.heap s'.heap∧HOk P w H' s'.heap∧RelV v u∧Q v H'
noncomputable def CR (CX:CXT) (outer:List Env) (P:Program) (w:World) (H:Hp) (s:Shared) (Q:VK) (E:XK) (r:Result) (s':Shared):Prop:=
 match r with
 | .ok (.ret u)=>CE outer P w H s Q u s'
 | .ok _=>False
 | .error e=>CX outer H s E e s'
structure FnOk (P:Program) (w:World) (K:PySem.W.Frag) (mg:Str→Option Value) (base:Heap) (CX:CXT) (k:Nat) (f:Addr) (fd:FuncData) (ps:List Str) (sp:Sp):Prop where
 len:∀ vs H Q E,sp vs H Q E→vs.length=ps.length
 run:∀ (A:Around) (outer:List Env) (s:Shared) (H:Hp) (args:Args) (us:List Value) (vs:List V) (Q:VK) (E:XK),Room k A→Env0 P w K mg base A outer s H→BindsTo s fd args (ps.zip us)→Vals vs us→sp vs H Q E→
  codeAny (model P w) A (.call (.ref f) args) (CR CX outer P w H s Q E) s
theorem FnOk.mono {P:Program} {w:World} {K:PySem.W.Frag} {mg:Str→Option Value} {base:Heap} {CX:CXT} {j k:Nat} {f:Addr} {fd:FuncData} {ps:List Str} {sp:Sp} (F:FnOk P w K mg base CX j f fd ps sp) (h:j≤k):
  FnOk P w K mg base CX k f fd ps sp:=⟨F.len,fun A outer s H args us vs Q E hr=>F.run A outer s H args us vs Q E (hr.mono h)⟩
theorem FnOk.imp {P:Program} {w:World} {K:PySem.W.Frag} {mg:Str→Option Value} {base:Heap} {CX:CXT} {k:Nat} {f:Addr} {fd:FuncData} {ps:List Str} {sp sp':Sp} (F:FnOk P w K mg base CX k f fd ps sp)
  (h:∀ vs H Q E,sp' vs H Q E→sp vs H Q E):FnOk P w K mg base CX k f fd ps sp':=
 ⟨fun vs H Q E q=>F.len vs H Q E (h _ _ _ _ q),fun A outer s H args us vs Q E hr he hb hv hs=>F.run A outer s H args us vs Q E hr he hb hv (h _ _ _ _ hs)⟩
theorem Env0.in1 {P:Program} {w:World} {K:PySem.W.Frag} {mg:Str→Option Value} {base:Heap} {A:Around} {outer:List Env} {s:Shared} {H:Hp} (e:Env0 P w K mg base A outer s H):
  Env0 P w K mg base A.in1 outer s H:=⟨e.frames,e.mod,e.bs,e.bsz,e.funs,e.frf,e.hok,e.bare⟩
section
variable {X:Cx} {pins:List (Addr×Obj)} {σ:St} {H:Hp} {s s':Shared}
theorem Inv.env0 (I:Inv X pins σ H s):Env0 X.prog X.w X.K X.mg X.base X.A X.stack s H:=
 ⟨I.ok.frames,I.ok.mod,I.bs,Nat.le_trans I.ok.bsz I.sz,I.stack,I.stkFree,I.hok,I.bare⟩
theorem Inv.after {Q:VK} {u:Value} (I:Inv X pins σ H s) (h:CE X.stack X.prog X.w H s Q u s'):EP X pins σ Q u s':=by
 obtain ⟨v,H',os,bare,un,hok,r,q⟩:=h
 obtain ⟨hh,g,d,t,os'⟩:=s'
 obtain rfl:os'=s.os:=os
 exact ⟨v,H',I.call (h':=hh) (g':=g) (d':=d) (t':=t) (ch:=[]) un hok bare (fun b z=>absurd z (by simp)),r,q⟩
end
noncomputable def tCall (sp:Sp) (dvs:List V) (E:XK) (t:TA):TE:=fun σ H Q=>t σ H fun vs H1=>sp (vs++dvs) H1 Q E
noncomputable def Binds (K:PySem.W.Frag) (fd:FuncData) (ps:List Str) (ds:List Value):Prop:=
 ∀ (s:Shared) (us:List Value),K.In s.heap→(us++ds).length=ps.length→BindsTo s fd ⟨us,[]⟩ (ps.zip (us++ds))
theorem Binds.all {K:PySem.W.Frag} {fd:FuncData} {ps:List Str} (h:∀ us:List Value,us.length=ps.length→bindArgs fd ⟨us,[]⟩=pure (ps.zip us)):Binds K fd ps []:=fun s us _ hl=>by
 rw [List.append_nil] at hl ⊢
 exact .of_eq (h us hl)
noncomputable def Passes (CX:CXT) (X:Cx) (E:XK):Prop:=∀ (pins:List (Addr×Obj)) (σ:St) (H:Hp) (s:Shared) (e:Value) (s':Shared),Inv X pins σ H s→CX X.stack H s E e s'→X.xe e s'
section
variable {X:Cx} {CX:CXT} {k:Nat} {f C:Addr} {fd:FuncData} {ps:List Str} {sp:Sp} {dvs:List V} {ds:List Value} {E:XK} {x m:Str} {p pos apos:Pos} {e o:Expr} {es:List Expr} {ta:TE} {t:TA}
theorem run_fn {pins:List (Addr×Obj)} {σ:St} {H:Hp} {s:Shared} {Q:VK} {us:List Value} {vs:List V} (F:FnOk X.prog X.w X.K X.mg X.base CX k f fd ps sp) (hr:Room k X.A) (hb:Binds X.K fd ps ds) (hd:Vals dvs ds) (hx:Passes CX X E)
  (I:Inv X pins σ H s) (r:Vals vs us) (h:sp (vs++dvs) H Q E):wpAny (model X.prog X.w) X.A (call (.ref f) us) (EP X pins σ Q) X.xe s:=by
 have r2:Vals (vs++dvs) (us++ds):=r.append hd
 have hl:(us++ds).length=ps.length:=by rw [←r2.length];exact F.len _ _ _ _ h
 refine wpAny_call (codeAny_mono (F.run X.A X.stack s H ⟨us,[]⟩ (us++ds) (vs++dvs) Q E hr I.env0 (hb s us I.kIn hl) r2 h) fun r s' hq=>?_)
 cases r with
 | error e=>exact hx pins σ H s e s' I hq
 | ok fl=>
  cases fl with
  | ret u=>exact I.after hq
  | next=>exact False.elim hq
  | brk=>exact False.elim hq
  | cont=>exact False.elim hq
theorem pe_call (F:FnOk X.prog X.w X.K X.mg X.base CX k f fd ps sp) (hr:Room k X.A) (hg:Gl X x) (hm:X.mg x=some (.ref f)) (hk:PySem.W.keepIn X.K (.ref f)=true) (hb:Binds X.K fd ps ds) (hd:Vals dvs ds) (hx:Passes CX X E)
  (ha:PA X (e::es) t) (hdb:(x==("__debug__":Str))=false:=by decide) (he:starEach (e::es) X.env=(false,eval e X.env)::starEach es X.env:=by rfl) (hpl:(backTo pos (starEach es X.env)).any (·.1)=false:=by rfl):
  PE X (.Call (.Name x p) (e::es) [] pos) (tCall sp dvs E t):=by
 intro pins s σ H Q I h
 refine wpAny_Call_Name_kw (ld_glob I hg hm ?_ hdb)
 refine PySem.W.callWith_K (h₀:=X.base) I.ok.mod.kin hk (thn (ha pos pins s σ H _ I h) fun us s1 ⟨vs,H1,I1,r,q⟩=>⟨I1.kIn,?_⟩) he hpl
 exact run_fn F hr hb hd hx I1 r q
structure Mk (K:PySem.W.Frag) (C f:Addr):Prop where
 makes:PySem.W.makesIn K C=true
 init:PySem.W.findIn K (.ref C) "__init__"=some (some (.ref f))
 fn:PySem.W.isFn K (.ref f)=true
 kp:PySem.W.keepIn K (.ref C)=true
end
section
variable {X:Cx} {CX:CXT} {k:Nat} {f C:Addr} {fd:FuncData} {ps ks:List Str} {sp:Sp} {E:XK} {x m:Str} {p pos apos kpos:Pos} {e o:Expr} {es:List Expr} {kws:List Keyword} {te ta:TE} {t tk:TA} {nm:Option Str}
structure KBinds (K:PySem.W.Frag) (fd:FuncData) (ps ks:List Str) (g:List Value→List Value→List Value) (gV:List V→List V→List V):Prop where
 to:∀ (s:Shared) (us ws:List Value),K.In s.heap→(g us ws).length=ps.length→BindsTo s fd ⟨us,ks.zip ws⟩ (ps.zip (g us ws))
 rel:∀ {vs:List V} {us:List Value} {zs:List V} {ws:List Value},Vals vs us→Vals zs ws→Vals (gV vs zs) (g us ws)
variable {g:List Value→List Value→List Value} {gV:List V→List V→List V}
end
structure FnScope (N P:List Str) (sc:Scope):Prop where
 kind:sc.kind=.function
 co:sc.isCoroutine=false
 gen:sc.isGenerator=false
 nd:N.Nodup
 pre:N.take P.length=P
 par:∀ x∈P,sc.names.lookup x=some .local∨sc.names.lookup x=some .cell
 nofree:∀ y∈sc.names,y.2≠.free
theorem bindL_out {kindOf:Str→Option NameKind} {x:Str}:∀ {binds:List (Str×Value)} {m:Str→Option Value},(∀ v,(x,v)∉binds)→bindL kindOf binds m x=m x
 | [],_,_=>rfl
 | (n,v)::r,m,h=>by
  unfold bindL
  rw [bindL_out fun w hw=>h w (List.mem_cons_of_mem _ hw)]
  split
  ·have:x≠n:=by rintro rfl;exact h v List.mem_cons_self
   simp [this]
  ·rfl
theorem bindC_out {kindOf:Str→Option NameKind} {x:Str}:∀ {binds:List (Str×Value)} {m:Str→Option Value},(∀ v,(x,v)∉binds)→bindC kindOf binds m x=m x
 | [],_,_=>rfl
 | (n,v)::r,m,h=>by
  unfold bindC
  rw [bindC_out fun w hw=>h w (List.mem_cons_of_mem _ hw)]
  split
  ·rfl
  ·have:x≠n:=by rintro rfl;exact h v List.mem_cons_self
   simp [this]
theorem bindL_get {kindOf:Str→Option NameKind} {x:Str} {v:Value}:∀ {P:List Str} {vs:List Value} {i:Nat} {m:Str→Option Value},P.Nodup→P[i]? =some x→vs[i]? =some v→kindOf x=some .local→
  bindL kindOf (P.zip vs) m x=some v
 | [],_,_,_,_,h,_,_=>by simp at h
 | _::_,[],_,_,_,_,h,_=>by simp at h
 | p::P,w::vs,0,m,nd,h1,h2,hk=>by
  simp at h1 h2;subst h1;subst h2
  show bindL kindOf ((p,w)::P.zip vs) m p=_
  unfold bindL
  rw [bindL_out fun v hv=>(List.nodup_cons.mp nd).1 (List.of_mem_zip hv).1,if_pos hk]
  simp
 | p::P,w::vs,i + 1,m,nd,h1,h2,hk=>by
  show bindL kindOf ((p,w)::P.zip vs) m x=_
  unfold bindL
  exact bindL_get (i:=i) (List.nodup_cons.mp nd).2 (by simpa using h1) (by simpa using h2) hk
theorem bindC_get {kindOf:Str→Option NameKind} {x:Str} {v:Value}:∀ {P:List Str} {vs:List Value} {i:Nat} {m:Str→Option Value},P.Nodup→P[i]? =some x→vs[i]? =some v→kindOf x≠some .local→
  bindC kindOf (P.zip vs) m x=some v
 | [],_,_,_,_,h,_,_=>by simp at h
 | _::_,[],_,_,_,_,h,_=>by simp at h
 | p::P,w::vs,0,m,nd,h1,h2,hk=>by
  simp at h1 h2;subst h1;subst h2
  show bindC kindOf ((p,w)::P.zip vs) m p=_
  unfold bindC
  rw [bindC_out fun v hv=>(List.nodup_cons.mp nd).1 (List.of_mem_zip hv).1,if_neg hk]
  simp
 | p::P,w::vs,i + 1,m,nd,h1,h2,hk=>by
  show bindC kindOf ((p,w)::P.zip vs) m x=_
  unfold bindC
  exact bindC_get (i:=i) (List.nodup_cons.mp nd).2 (by simpa using h1) (by simpa using h2) hk
noncomputable def start (N:List Str) (vs:List V):St:=vs.map some++List.replicate (N.length - vs.length) none
noncomputable def cxOf (CX:CXT) (P:Program) (w:World) (K:PySem.W.Frag) (mg:Str→Option Value) (base:Heap) (N:List Str) (qual:Str) (scope:Scope) (f:Addr) (cd:Value) (A:Around) (outer:List Env) (s:Shared) (H:Hp) (E:XK):Cx where
 prog:=P
 w:=w
 K:=K
 mg:=mg
 base:=base
 A:=A.deeper (envOfC qual scope s.heap.objs.size f cd)
 N:=N
 s₀:=s
 H₀:=H
 env:=envOfC qual scope s.heap.objs.size f cd
 outer:=outer
 stack:=envOfC qual scope s.heap.objs.size f cd::outer
 ex:=[]
 calm:=true
 fn:=fun _=>true
 pn:=[]
 xe:=fun e s'=>wpAny (model P w) (A.deeper (envOfC qual scope s.heap.objs.size f cd)) (leaving (envOfC qual scope s.heap.objs.size f cd) e) (fun _ s''=>CX outer H s E e s'') (fun e' s''=>CX outer H s E e' s'') s'
theorem cell_has {sc:Scope} {n:Nat} {x:Str} (h:sc.names.lookup x=some .cell):∃ c,(cellsFrom n sc.names []).lookup x=some c:=by
 have q:=PySem.W.cellsFrom_some sc.names n [] (.inl h)
 exact Option.isSome_iff_exists.mp q
theorem inv_start {CX:CXT} {P:Program} {w:World} {K:PySem.W.Frag} {mg:Str→Option Value} {base:Heap} {N ps:List Str} {qual:Str} {scope:Scope} {f:Addr} {cd:Value} {A:Around} {outer:List Env} {s s1:Shared} {H:Hp} {E:XK} {us:List Value} {vs:List V}
  (S:FnScope N ps scope) (hd:A.handled=none) (e0:Env0 P w K mg base A outer s H) (hl:vs.length=ps.length) (r:Vals vs us)
  (x:InCallC s s.heap.objs.size (bindL (envOfC qual scope s.heap.objs.size f cd).kindOf (ps.zip us) fun _=>none) (cellsFrom (s.heap.objs.size + 1) scope.names []) (bindC (envOfC qual scope s.heap.objs.size f cd).kindOf (ps.zip us) fun _=>none) s1):
  Inv (cxOf CX P w K mg base N qual scope f cd A outer s H E) [] (start N vs) H s1:=by
 have hpl:ps.length≤N.length:=by have:=congrArg List.length S.pre;rw [List.length_take] at this;omega
 obtain ⟨h1,tk,rfl,hk⟩:=x.done
 have noA:∀ b:Addr,b∉(cxOf CX P w K mg base N qual scope f cd A outer s H E).ex:=fun b z=>absurd (show b∈([]:List Addr) from z) (by simp)
 refine ⟨⟨e0.mod,S.kind,rfl,rfl,Nat.le_refl _,fun y z c h1 h2=>?_,fun y hy=>?_,fun y c _ h=>?_,fun _=>hd,Around.frames_deeper e0.frames,.inr ⟨rfl,rfl⟩,fun b z=>absurd z (noA b),e0.bs,e0.bsz,fun b _ _=>noA b,fun b z=>absurd z (noA b),e0.funs,e0.frf⟩,
  rfl,e0.bare,Un.kept hk,⟨_,x.toInCall.ns,fun i y v h1 h2 h3=>?_⟩,fun y c h=>⟨_,x.cell y c h⟩,e0.hok.fresh (Nat.le_refl _),fun y c h=>?_,fun p hp=>absurd (show p∈([]:List (Addr×Obj)) from hp) (by simp),e0.hok.kept hk,?_⟩
 ·exact name_of_addr x.apart (PySem.mem_of_lookup h1) (PySem.mem_of_lookup h2)
 ·have hy:scope.names.lookup y=some .cell∨scope.names.lookup y=some .free:=hy
  rcases hy with hy | hy
  ·exact cell_has hy
  ·exact absurd rfl (S.nofree _ (PySem.mem_of_lookup hy))
 ·exact Nat.le_of_lt (x.above y c (PySem.mem_of_lookup h))
 ·have hi:i < vs.length:=by
   unfold start at h2
   by_cases hi:i < vs.length
   ·exact hi
   ·rw [List.getElem?_append_right (by simpa using hi)] at h2
    rw [List.getElem?_replicate] at h2
    split at h2 <;> cases h2
  have ha:vs[i]? =some v:=by
   unfold start at h2
   rw [List.getElem?_append_left (by simpa using hi),List.getElem?_map] at h2
   cases e:vs[i]? with
   | none=>rw [e] at h2;cases h2
   | some a=>rw [e] at h2;cases h2;rfl
  obtain ⟨u,hu,rv⟩:=r.get ha
  have hp:ps[i]? =some y:=by
   rw [←S.pre,List.getElem?_take_of_lt (by omega)];exact h1
  have ndP:ps.Nodup:=by rw [←S.pre];exact S.nd.sublist (List.take_sublist _ _)
  refine ⟨u,rv,?_⟩
  rcases S.par y (List.mem_of_getElem? hp) with k | k
  ·exact .inl ⟨k,bindL_get ndP hp hu k⟩
  ·obtain ⟨c,e⟩:=cell_has (n:=s.heap.objs.size + 1) k
   refine .inr ⟨.inl k,c,e,?_⟩
   have q:=x.cell y c e
   rw [bindC_get ndP hp hu (by show scope.names.lookup y≠_;rw [k];decide)] at q
   exact q
 ·exact e0.hok.fresh (Nat.le_of_lt (x.above y c (PySem.mem_of_lookup h)))
 ·unfold start
  show _=N.length
  rw [List.length_append,List.length_map,List.length_replicate]
  omega
theorem fn_of {CX:CXT} {P:Program} {w:World} {K:PySem.W.Frag} {mg:Str→Option Value} {base:Heap} {k:Nat} {f:Addr} {name qual:Str} {params:Arguments} {body:List Stmt} {scope:Scope} {dV kV doc pm cdv ct oc:Value} {an od:Option Addr}
  {osl:Array (Option Value)} {N ps:List Str} {sp:Sp} (lk:K.lookup f=some ⟨oc,od,.func (PySem.W.fnOf name qual params body scope dV kV doc pm an cdv ct),osl⟩) (hcd:PySem.W.codeIn K cdv qual=true) (S:FnScope N ps scope)
  (len:∀ vs H Q E,sp vs H Q E→vs.length=ps.length)
  (hbody:∀ (A:Around) (outer:List Env) (s:Shared) (H:Hp) (vs:List V) (Q:VK) (E:XK),Room k (A.deeper (envOfC qual scope s.heap.objs.size f cdv))→sp vs H Q E→
   ∃ t,PSs (cxOf CX P w K mg base N qual scope f cdv A outer s H E) body t∧t { nx:=fun _ H'=>Q .non H',rt:=Q } (start N vs) H):
  FnOk P w K mg base CX (k + 1) f (PySem.W.fnOf name qual params body scope dV kV doc pm an cdv ct) ps sp:=by
 refine ⟨len,fun A outer s H args us vs Q E hr e0 hb r hsp=>?_⟩
 have hl:=len _ _ _ _ hsp
 have KX:K.In s.heap:=e0.mod.kin.keeps fun b o e=>(e0.bs b o e).1
 have lim:s.heap.NoLimit:=e0.mod.nolimit.keeps fun b o e=>(e0.bs b o e).1
 have hkind:∀ y∈ps.zip us,scope.names.lookup y.1=some .local∨(scope.names.lookup y.1=some .cell∧((cellsFrom (s.heap.objs.size + 1) scope.names []).lookup y.1).isSome=true):=fun ⟨n,v⟩ hy=>by
  rcases S.par n (List.of_mem_zip hy).1 with q | q
  ·exact .inl q
  ·exact .inr ⟨q,PySem.W.cellsFrom_some _ _ _ (.inl q)⟩
 refine codeAny_call_function hr.depth (KX _ _ lk) rfl S.co S.gen rfl (PySem.W.codeRec_of KX hcd) (hb _ _ _ _ ?_)
 refine wpAny_newFunctionEnv_cells S.kind hkind fun env he s1 x=>?_
 subst he
 refine ⟨lim.keeps x.toInCall.keep,codeAny_func ?_⟩
 obtain ⟨t,ht,hq⟩:=hbody A outer s H vs Q E (hr.deeper _) hsp
 have I:Inv (cxOf CX P w K mg base N qual scope f cdv A outer s H E) [] (start N vs) H s1:=inv_start S hr.hd e0 hl r x
 refine wpAny_mono (ht [] s1 (start N vs) H _ I hq) (fun fl s' hs=>?_) fun e s' hs=>hs
 have fin:∀ {σ':St} {H':Hp} {v:V} {u:Value},Inv (cxOf CX P w K mg base N qual scope f cdv A outer s H E) [] σ' H' s'→RelV v u→Q v H'→CE outer P w H s Q u s':=
  fun {σ' H' v u} J rv q=>⟨v,H',J.os,J.bare,J.base,J.hok,rv,q⟩
 cases fl with
 | ret u=>
  obtain ⟨v,σ',H',J,rv,q⟩:=hs
  exact fin J rv q
 | next=>
  obtain ⟨σ',H',J,q⟩:=hs
  exact fin (v:=V.non) (u:=Value.none) J rfl q
 | brk=>
  obtain ⟨_,_,_,q⟩:=hs
  exact False.elim q
 | cont=>
  obtain ⟨_,_,_,q⟩:=hs
  exact False.elim q
end L2
namespace L2
open PySem PySem.Spec PyProof.Rows
section
variable {X:Cx} {x:Str} {p pos:Pos} {e:Expr} {es:List Expr} {t:TA} {id T:String} {r:List V→Hp→VK→Prop}
noncomputable def tCB (r:List V→Hp→VK→Prop) (t:TA):TE:=fun σ H Q=>t σ H fun vs H1=>r vs H1 Q
theorem pe_callB (hc:CallR X (.builtin id) r) (hg:Gl X x) (hm:X.mg x=none) (hv:bootBuiltins x=some (.builtin id)) (ha:PA X (e::es) t) (hn:x≠"__name__":=by decide) (hdb:(x==("__debug__":Str))=false:=by decide)
  (he:starEach (e::es) X.env=(false,eval e X.env)::starEach es X.env:=by rfl) (hpl:(backTo pos (starEach es X.env)).any (·.1)=false:=by rfl):PE X (.Call (.Name x p) (e::es) [] pos) (tCB r t):=by
 intro pins s σ H Q I h
 refine wpAny_Call_Name_kw (ld_blt I hg hm hv ?_ hn hdb)
 exact PyProof.Rows.callWith_builtin1 (thn (ha pos pins s σ H _ I h) fun us s1 ⟨vs,H1,I1,r1,q1⟩=>hc pins s1 σ H1 vs us Q I1 r1 q1) he hpl
theorem pe_callTy (hc:CallR X (.type T) r) (hg:Gl X x) (hm:X.mg x=none) (hv:bootBuiltins x=some (.type T)) (ha:PA X (e::es) t) (hn:x≠"__name__":=by decide) (hdb:(x==("__debug__":Str))=false:=by decide)
  (he:starEach (e::es) X.env=(false,eval e X.env)::starEach es X.env:=by rfl) (hpl:(backTo pos (starEach es X.env)).any (·.1)=false:=by rfl):PE X (.Call (.Name x p) (e::es) [] pos) (tCB r t):=by
 intro pins s σ H Q I h
 refine wpAny_Call_Name_kw (ld_blt I hg hm hv ?_ hn hdb)
 exact PyProof.Rows.callWith_type1 (thn (ha pos pins s σ H _ I h) fun us s1 ⟨vs,H1,I1,r1,q1⟩=>hc pins s1 σ H1 vs us Q I1 r1 q1) he hpl
end
end L2
namespace HT
open PySem PyProof.Rows
noncomputable def lexLt:List Int→List Int→Bool
 | [],[]=>false
 | [],_::_=>true
 | _::_,[]=>false
 | x::xs,y::ys=>if x=y then lexLt xs ys else decide (x < y)
theorem lexLt_cons (x y:Int) (xs ys:List Int):lexLt (x::xs) (y::ys)=if x=y then lexLt xs ys else decide (x < y):=rfl
theorem lexLt_nil_nil:lexLt [] []=false:=rfl
theorem lexLt_nil_cons (y:Int) (ys:List Int):lexLt [] (y::ys)=true:=rfl
theorem lexLt_cons_nil (x:Int) (xs:List Int):lexLt (x::xs) []=false:=rfl
theorem eqAt_int (A:Around) (s:Shared) (a:Int) (t:Tok) (c:Int) (u:Tok):∃ e,SeqAt.EqAt A s (.int a t) (.int c u) e∧(e=true↔a=c):=
 ⟨(a==c),SeqAt.EqAt.int_int a t c u,by simp⟩
theorem rcLt_int (A:Around) (s:Shared) (a:Int) (t:Tok) (c:Int) (u:Tok) (prog:Program) (w:World) (E:Value→Shared→Prop) (Q:Value→Shared→Prop) (h:Q (.bool (decide (a < c))) s):
  wpAny (model prog w) A (richCompare .Lt (.int a t) (.int c u)) Q E s:=
 (PyProof.Rows.lt_int h:wpAny (model prog w) A (compareOp .Lt (.int a t) (.int c u)) Q E s)
section
open PySem.SeqAt
open PySem.AutoSeq1 (wpAny_loadPart')
open PySem.MeetsSeq PySem.MeetsSeq2 PySem.MeetsSeq3
theorem tuple_lt_ints (l b:Addr) (items items2:Array Value) (n n2:Nat) (dd dd2:Option Addr) (sl sl2:Array (Option Value)) (ns ms:List Int) (hi:IntsAre items.toList ns) (hj:IntsAre items2.toList ms):
  Meets (Builtin.«tuple.__lt__» ⟨[.ref l,.ref b],[]⟩)
   (fun _ R s=>s.heap.get? l=some { cls:=.type "tuple",dict:=dd,data:=.seq items n,slots:=sl }∧s.heap.get? b=some { cls:=.type "tuple",dict:=dd2,data:=.seq items2 n2,slots:=sl2 }∧
    R (.ok (.ret (.bool (lexLt ns ms)))) s):=
 .of_wp fun prog w A R s h=>by
  obtain ⟨hp,g,d,tk,os⟩:=s;obtain ⟨hl,hb,h⟩:=h
  have f2:=AutoSeq1.sub_tuple_tuple
  have z1:items.size=ns.length:=by rw [←hi.length];simp
  have z2:items2.size=ms.length:=by rw [←hj.length];simp
  wp_walk using wpAny_loadPart' hl,wpAny_loadPart' hb,wpAny_forIn_list _ (fun rest b s'=>b.1=none∧s'=⟨hp,g,d,tk,os⟩∧∃ (vs ws:List Value) (ns' ms':List Int),rest=vs.zip ws∧
   IntsAre vs ns'∧IntsAre ws ms'∧ns'.length + items2.size=ms'.length + items.size∧R (.ok (.ret (.bool (lexLt ns' ms')))) ⟨hp,g,d,tk,os⟩) _
  case turn=>
   rintro ⟨y,x⟩ rest b s' ⟨hb',rfl,vs,ws,ns',ms',hz,hvi,hwi,hlen,hR⟩
   cases hvi with
   | nil=>rw [List.zip_nil_left] at hz;cases hz
   | cons a t hvi'=>
    cases hwi with
    | nil=>rw [List.zip_nil_right] at hz;cases hz
    | cons c u hwi'=>
     rw [List.zip_cons_cons] at hz
     injection hz with hyx hrest
     injection hyx with hy hx
     subst hy hx
     rw [lexLt_cons] at hR
     simp only [List.length_cons] at hlen
     obtain ⟨e,he,hiff⟩:=eqAt_int A.in1 ⟨hp,g,d,tk,os⟩ a t c u
     refine wpAny_bind (he prog w _ _ ?_)
     cases e with
     | true=>
      rw [if_pos (hiff.mp rfl)] at hR
      wp_walk
      exact ⟨rfl,rfl,_,_,_,_,hrest,hvi',hwi',by omega,hR⟩
     | false=>
      rw [if_neg (fun q=>absurd (hiff.mpr q) Bool.false_ne_true)] at hR
      have hri:=rcLt_int A.in1 ⟨hp,g,d,tk,os⟩ a t c u prog w
      wp_walk using hri
      exact ⟨_,rfl,by simpa using hR⟩
  case fin=>
   rintro ⟨b1,b2⟩ s' ⟨hb',rfl,vs,ws,ns',ms',hz,hvi,hwi,hlen,hR⟩
   simp only at hb'
   subst hb'
   have hv:lexLt ns' ms'=decide (items.size < items2.size):=by
    cases hvi with
    | nil=>
     cases hwi with
     | nil=>
      simp only [List.length_nil] at hlen
      rw [lexLt_nil_nil]
      exact (decide_eq_false (by omega)).symm
     | cons c u hw=>
      simp only [List.length_nil,List.length_cons] at hlen
      rw [lexLt_nil_cons]
      exact (decide_eq_true (by omega)).symm
    | cons a t hv=>
     cases hwi with
     | nil=>
      simp only [List.length_nil,List.length_cons] at hlen
      rw [lexLt_cons_nil]
      exact (decide_eq_false (by omega)).symm
     | cons c u hw=>
      rw [List.zip_cons_cons] at hz
      cases hz
   rw [hv] at hR
   wp_walk
   exact ⟨_,rfl,by simpa [Builtin.Tuple.tupleCompareSizes] using hR⟩
  case h=>
   exact ⟨rfl,rfl,items.toList,items2.toList,ns,ms,rfl,hi,hj,by omega,h⟩
end
section
variable {prog:Program} {w:World} {A:Around} {E:Value→Shared→Prop} {s:Shared}
theorem lt_tupInts {l b:Addr} {items items2:Array Value} {ns ms:List Int} {Q:Value→Shared→Prop} (hl:IsTup s.heap l items) (hb:IsTup s.heap b items2) (hi:IntsAre items.toList ns) (hj:IntsAre items2.toList ms)
  (hu:A.units < cLine) (h:Q (.bool (lexLt ns ms)) s):wpAny (model prog w) A (compareOp .Lt (.ref l) (.ref b)) Q E s:=by
 obtain ⟨⟨cls,dd,data,sl⟩,ho,hc,n,hd⟩:=id hl
 obtain ⟨⟨cls2,dd2,data2,sl2⟩,ho2,hc2,n2,hd2⟩:=id hb
 simp only at hc hd hc2 hd2
 subst hc hd hc2 hd2
 exact richCompare_meets_room (op:=.Lt) ⟨_,ho,rfl⟩ ⟨_,ho2,rfl⟩ PySem.F.slot_tuple_lt PySem.F.entry_tuple_lt (PySem.F.args_tuple_lt_2 _ _) (tuple_lt_ints l b items items2 n n2 dd dd2 sl sl2 ns ms hi hj)
  ⟨ho,ho2,show Value.bool (lexLt ns ms)≠Value.notImplemented∧Q (.bool (lexLt ns ms)) s from ⟨(fun x=>nomatch x),h⟩⟩ hu
theorem cat_tup {t b:Addr} {vs ws:List Value} {Q:Value→Shared→Prop} (ht:IsTup s.heap t vs.toArray) (hb:IsTup s.heap b ws.toArray) (hv:vs≠[])
  (h1:ws=[]→Q (.ref t) s) (h2:ws≠[]→Q (.ref s.heap.objs.size) { s with heap:=s.heap.push { cls:=.type "tuple",data:=.seq (vs++ws).toArray } })
  (hsz:vs.length + ws.length≤sizeLine):wpAny (model prog w) A (binaryOp .Add (.ref t) (.ref b)) Q E s:=by
 obtain ⟨⟨cls,dd,data,sl⟩,ho,hc,n,hd⟩:=id ht
 obtain ⟨⟨cls2,dd2,data2,sl2⟩,ho2,hc2,n2,hd2⟩:=id hb
 simp only at hc hd hc2 hd2
 subst hc hd hc2 hd2
 have e:vs.toArray++ws.toArray=(vs++ws).toArray:=by simp
 by_cases hw:ws=[]
 ·exact concat_meets ⟨_,ho,rfl⟩ ⟨_,ho2,rfl⟩ noFill_tuple_add seq_tuple_add PySem.F.slot_tuple_add PySem.F.entry_tuple_add (PySem.F.args_tuple_add_2 _ _)
   (tuple_addW1 t b vs.toArray ws.toArray n n2 dd dd2 sl sl2 (by simpa using hv) (by simp [hw])) ⟨ho,ho2,h1 hw⟩
 ·refine concat_meets ⟨_,ho,rfl⟩ ⟨_,ho2,rfl⟩ noFill_tuple_add seq_tuple_add PySem.F.slot_tuple_add PySem.F.entry_tuple_add (PySem.F.args_tuple_add_2 _ _)
   (tuple_addW2 t b vs.toArray ws.toArray n n2 dd dd2 sl sl2 (by simpa using hv) (by simpa using hw) (by rw [List.size_toArray,List.size_toArray];exact hsz)) ⟨ho,ho2,?_⟩
  rw [e]
  exact h2 hw
end
end HT
namespace L2
open PySem PySem.Spec PyProof.Rows
noncomputable abbrev TO:=St→Hp→(Option Int→Hp→Prop)→Prop
theorem intsAre_of {ns:List Int}:∀ {us:List Value},Vals (ns.map V.int) us→IntsAre us ns:=by
 induction ns with
 | nil=>intro us r;rw [List.map_nil] at r;cases r;exact .nil
 | cons n ns ih=>
  intro us r
  rw [List.map_cons] at r
  cases r with
  | cons r1 r2=>
   obtain ⟨t,e⟩:=r1
   subst e
   exact .cons n t (ih r2)
section
variable {X:Cx} {e:Expr} {te:TE} {lo hi:Option Expr} {tl th:TO} {pos p2:Pos}
noncomputable def SlR (X:Cx) (r:V→Option Int→Option Int→Hp→VK→Prop):Prop:=
 ∀ (pins:List (Addr×Obj)) (s:Shared) (σ:St) (H:Hp) (x:V) (v vl vu:Value) (lo hi:Option Int) (sl:Addr) (Q:VK),Inv X pins σ H s→RelV x v→s.heap.IsSliceOf sl vl vu .none→IsPart vl lo→IsPart vu hi→r x lo hi H Q→
  ∃ T id,typeLookup (.type T) "__getitem__"=pure (some (.builtin id))∧s.TypeIs v T∧wpAny (model X.prog X.w) X.A (getItem v (.ref sl)) (EP X pins σ Q) X.xe s
theorem SlR.or {r r':V→Option Int→Option Int→Hp→VK→Prop} (h:SlR X r) (h':SlR X r'):SlR X (fun x lo hi H Q=>r x lo hi H Q∨r' x lo hi H Q):=by
 intro pins s σ H x v vl vu lo hi sl Q I rx hs pl pu q
 rcases q with q | q
 ·exact h pins s σ H x v vl vu lo hi sl Q I rx hs pl pu q
 ·exact h' pins s σ H x v vl vu lo hi sl Q I rx hs pl pu q
noncomputable def rLtT (K:PySem.W.Frag):R2:=fun x y H Q=>∃ a b ns ms,x=.ref a∧y=.ref b∧SqT K H a (ns.map V.int)∧SqT K H b (ms.map V.int)∧Q (.bl (HT.lexLt ns ms)) H
theorem op_ltT (hu:X.A.units < cLine):OpR X (compareOp .Lt) (rLtT X.K):=by
 intro pins s σ H x y v u Q I rx ry h
 obtain ⟨a,b,ns,ms,rfl,rfl,ha,hb,q⟩:=h
 cases rx
 cases ry
 obtain ⟨its,r1,p1,_⟩:=I.tuple ha
 obtain ⟨its2,r2,p2,_⟩:=I.tuple hb
 have i1:IntsAre its.toArray.toList ns:=intsAre_of r1
 have i2:IntsAre its2.toArray.toList ms:=intsAre_of r2
 exact HT.lt_tupInts p1 p2 i1 i2 hu ⟨.bl (HT.lexLt ns ms),H,I,rfl,q⟩
noncomputable def rCatT (K:PySem.W.Frag):R2:=fun x y H Q=>∃ a b xs ys,x=.ref a∧y=.ref b∧SqT K H a xs∧SqT K H b ys∧xs≠[]∧xs.length + ys.length≤sizeLine∧
 (ys=[]→Q (.ref a) H)∧(ys≠[]→∀ p,H p=none→Q (.ref p) (upd H p (.tup (xs++ys))))
theorem Vals.nil_iff {xs:List V} {us:List Value} (r:Vals xs us):us=[]↔xs=[]:=by
 cases r with
 | nil=>simp
 | cons _ _=>simp
theorem op_catT:OpR X (binaryOp .Add) (rCatT X.K):=by
 intro pins s σ H x y v u Q I rx ry h
 obtain ⟨a,b,xs,ys,rfl,rfl,ha,hb,hx,hz,q1,q2⟩:=h
 cases rx
 cases ry
 obtain ⟨its,r1,p1,_⟩:=I.tuple ha
 obtain ⟨its2,r2,p2,_⟩:=I.tuple hb
 refine HT.cat_tup p1 p2 (fun z=>hx (r1.nil_iff.mp z)) (fun z=>⟨.ref a,H,I,rfl,q1 (r2.nil_iff.mp z)⟩) (fun z=>?_) (by rw [←r1.length,←r2.length];exact hz)
 refine ⟨.ref s.heap.objs.size,_,I.laid (t':=s.toks) (o:=.tup (xs++ys)) (fun b ob q=>Heap.get?_push_of_some _ q) (Nat.le_refl _) ?_,rfl,q2 (fun w=>z (r2.nil_iff.mpr w)) _ (I.hok.fresh (Nat.le_refl _))⟩
 exact ⟨by rw [List.length_append];exact hz,_,r1.append r2,IsTupN.new _ _⟩
end
end L2
namespace L2
open PySem PySem.Spec PyProof.Rows
noncomputable def ixN (n:Nat) (i:Int):Option Nat:=if 0≤i then (if i < n then some i.toNat else none) else if -(n:Int)≤i then some (i + n).toNat else none
noncomputable def atI {α:Type} (xs:List α) (i:Int):Option α:=(ixN xs.length i).bind fun j=>xs[j]?
theorem ixN_seq {n:Nat} {i:Int} {j:Nat} (h:ixN n i=some j):seqIndex? i n=some j∧j < n∧-(n:Int)≤i∧i < n:=by
 unfold ixN at h
 by_cases h0:0≤i
 ·rw [if_pos h0] at h
  by_cases h1:i < n
  ·rw [if_pos h1] at h
   have e:i.toNat=j:=Option.some.inj h
   exact ⟨by rw [seqIndex_of h0 h1,e],by omega,by omega,h1⟩
  ·rw [if_neg h1] at h;cases h
 ·rw [if_neg h0] at h
  by_cases h1:-(n:Int)≤i
  ·rw [if_pos h1] at h
   have e:(i + n).toNat=j:=Option.some.inj h
   exact ⟨by rw [seqIndex_neg (by omega) h1,e],by omega,h1,by omega⟩
  ·rw [if_neg h1] at h;cases h
theorem atI_get {α:Type} {xs:List α} {i:Int} {v:α} (h:atI xs i=some v):∃ j,seqIndex? i xs.length=some j∧xs[j]? =some v∧j < xs.length∧-(xs.length:Int)≤i∧i < xs.length:=by
 unfold atI at h
 cases e:ixN xs.length i with
 | none=>rw [e] at h;cases h
 | some j=>
  rw [e] at h
  obtain ⟨h1,h2,h3,h4⟩:=ixN_seq e
  exact ⟨j,h1,h,h2,h3,h4⟩
theorem atI_nat {α:Type} {xs:List α} {j:Nat} {v:α} (h:xs[j]? =some v):atI xs (j:Int)=some v:=by
 have hj:j < xs.length:=(List.getElem?_eq_some_iff.mp h).1
 have e:ixN xs.length (j:Int)=some j:=by
  unfold ixN
  rw [if_pos (by omega),if_pos (by omega)];simp
 unfold atI;rw [e];exact h
noncomputable def PlainIx (b:Expr):Prop:=∀ o i,subscripted b false o i=operate [o,i] (getItem o i)
noncomputable def IxR (X:Cx) (r:R2):Prop:=
 ∀ (value slice:Expr) (pins:List (Addr×Obj)) (s:Shared) (σ:St) (H:Hp) (x y:V) (v u:Value) (Q:VK),Inv X pins σ H s→RelV x v→RelV y u→r x y H Q→
  subscripted slice false v u=operate [v,u] (getItem v u)→wpAny (model X.prog X.w) X.A (subscriptTail value slice v u) (EP X pins σ Q) X.xe s
noncomputable def MtR (X:Cx) (id:String) (r:V→List V→Hp→VK→Prop):Prop:=
 ∀ (pins:List (Addr×Obj)) (s:Shared) (σ:St) (H:Hp) (x:V) (xs:List V) (v:Value) (us:List Value) (Q:VK),Inv X pins σ H s→RelV x v→Vals xs us→r x xs H Q→
  wpAny (model X.prog X.w) X.A (call (.builtin id) (v::us)) (EP X pins σ Q) X.xe s
section
variable {X:Cx} {a b:Expr} {ta tb:TE} {pos:Pos}
theorem IxR.or {r r':R2} (h:IxR X r) (h':IxR X r'):IxR X (fun x y H Q=>r x y H Q∨r' x y H Q):=by
 intro value slice pins s σ H x y v u Q I rx ry q hs
 rcases q with q | q
 ·exact h value slice pins s σ H x y v u Q I rx ry q hs
 ·exact h' value slice pins s σ H x y v u Q I rx ry q hs
theorem MtR.or {id:String} {r r':V→List V→Hp→VK→Prop} (h:MtR X id r) (h':MtR X id r'):MtR X id (fun x xs H Q=>r x xs H Q∨r' x xs H Q):=by
 intro pins s σ H x xs v us Q I rx rs q
 rcases q with q | q
 ·exact h pins s σ H x xs v us Q I rx rs q
 ·exact h' pins s σ H x xs v us Q I rx rs q
theorem pe_ix {r:R2} (hr:IxR X r) (ha:PE X a ta) (hb:PE X b tb) (hs:PlainIx b):PE X (.Subscript a b pos) (tOp r ta tb):=by
 intro pins s σ H Q I h
 exact Subscript_ (binT ha hb I h fun v u s2 x y H2 I2 rx ry q=>hr a b pins s2 σ H2 x y v u Q I2 rx ry q (hs _ _))
noncomputable def rIxL (K:PySem.W.Frag):R2:=fun x y H Q=>∃ p xs i v,x=.ref p∧y=.int i∧SqL K H p xs∧atI xs i=some v∧Q v H
noncomputable def rIxT (K:PySem.W.Frag):R2:=fun x y H Q=>∃ p xs i v,x=.ref p∧y=.int i∧SqT K H p xs∧atI xs i=some v∧Q v H
theorem ix_list:IxR X (rIxL X.K):=by
 intro value slice pins s σ H x y v u Q I rx ry h hs
 obtain ⟨p,xs,i,z,rfl,rfl,hq,he,q⟩:=h
 cases rx
 obtain ⟨t,rfl⟩:=ry
 obtain ⟨its,r,pl,hz⟩:=I.list hq
 obtain ⟨j,h1,h2,h3,h4,h5⟩:=atI_get he
 obtain ⟨w,ew,rw'⟩:=r.get h2
 have hl:=r.length
 have hn:=line63
 have fin:EP X pins σ Q w s:=⟨z,H,I,rw',q⟩
 by_cases h0:0≤i
 ·have hj:i.toNat=j:=by
   rw [seqIndex_of h0 h5] at h1
   exact Option.some.inj h1
  exact item_listR pl.isList h0 (by omega) (by rw [hj];simpa using ew) fin hs
 ·have hj:(i + (its.toArray.size:Int)).toNat=j:=by
   rw [seqIndex_neg (by omega) h4] at h1
   rw [List.size_toArray,←hl]
   exact Option.some.inj h1
  exact subscriptTail_builtinR (x:=w) pl.isList.typeIs slot_list_getitem.lookup
   (wpAny_getItem_list_neg (Q:=fun r s'=>r=w∧EP X pins σ Q r s') pl.isList (by omega) (by rw [List.size_toArray] <;> omega) (by omega) (by rw [hj];simpa using ew) ⟨rfl,fin⟩) hs
theorem ix_tup:IxR X (rIxT X.K):=by
 intro value slice pins s σ H x y v u Q I rx ry h hs
 obtain ⟨p,xs,i,z,rfl,rfl,hq,he,q⟩:=h
 cases rx
 obtain ⟨t,rfl⟩:=ry
 obtain ⟨its,r,pl,hz⟩:=I.tuple hq
 obtain ⟨j,h1,h2,h3,h4,h5⟩:=atI_get he
 obtain ⟨w,ew,rw'⟩:=r.get h2
 have hl:=r.length
 have hn:=line63
 have fin:EP X pins σ Q w s:=⟨z,H,I,rw',q⟩
 exact subscriptTail_builtinR (x:=w) pl.typeIs slot_tuple_getitem.lookup
  (getItem_tuple (j:=j) (Q:=fun r s'=>r=w∧EP X pins σ Q r s') pl (by omega) (by omega) (by rw [List.size_toArray,←hl];exact h1) (by simpa using ew) ⟨rfl,fin⟩) hs
theorem mapSeq_set (its:List Value) (n j:Nat) (u:Value):Obj.mapSeq (·.setIfInBounds j u) { cls:=.type "list",data:=.seq its.toArray n }={ cls:=.type "list",data:=.seq (its.set j u).toArray n }:=by
 simp [Obj.mapSeq]
theorem Inv.lst {pins:List (Addr×Obj)} {σ:St} {H:Hp} {s:Shared} {p:Addr} {xs:List V} (I:Inv X pins σ H s) (h:H p=some (.lst xs)):
  ∃ (its:List Value) (n:Nat),Vals xs its∧s.heap.get? p=some { cls:=.type "list",data:=.seq its.toArray n }∧xs.length≤sizeLine:=by
 obtain ⟨z,its,n,r,e⟩:=I.hok p _ h
 exact ⟨its,n,r,e,z⟩
theorem Inv.lstUpd {pins:List (Addr×Obj)} {σ:St} {H:Hp} {s:Shared} {p:Addr} {xs ys:List V} {its its':List Value} {n n':Nat} {f:Obj→Obj} (I:Inv X pins σ H s) (h:H p=some (.lst xs))
  (ho:s.heap.get? p=some { cls:=.type "list",data:=.seq its.toArray n }) (hf:f { cls:=.type "list",data:=.seq its.toArray n }={ cls:=.type "list",data:=.seq its'.toArray n' }) (r:Vals ys its') (hz:ys.length≤sizeLine) (t:Nat):
  Inv X pins σ (upd H p (.lst ys)) { s with heap:=s.heap.update p f,toks:=t }:=by
 have e:(s.heap.update p f).get? p=some { cls:=.type "list",data:=.seq its'.toArray n' }:=by
  rw [Heap.get?_update_self f ho (by rw [hf] <;> rfl),hf]
 refine I.write (x:=p) (e:=p) (by rw [h];trivial) (.inl rfl) (fun b u hb q=>(Heap.get?_update_other _ _ (Ne.symm hb)).trans q) ⟨_,e⟩ ?_
 exact ⟨hz,its',n',r,e⟩
noncomputable def rSetL:V→V→V→Hp→(Hp→Prop)→Prop:=fun o i v H Q=>∃ p xs k j,o=.ref p∧i=.int k∧H p=some (.lst xs)∧ixN xs.length k=some j∧Q (upd H p (.lst (xs.set j v)))
theorem set_list:PSet X rSetL:=by
 intro pins s σ H o i v ov iv u Q I ro ri rv h
 obtain ⟨p,xs,k,j,rfl,rfl,hp,hj,q⟩:=h
 cases ro
 obtain ⟨t,rfl⟩:=ri
 obtain ⟨its,n,r,ho,hz⟩:=I.lst hp
 obtain ⟨h1,h2,h3,h4⟩:=ixN_seq hj
 have hl:=r.length
 have hn:=line63
 have I':Inv X pins σ (upd H p (.lst (xs.set j v))) { s with heap:=s.heap.update p (Obj.mapSeq (·.setIfInBounds j u)) }:=
  I.lstUpd hp ho (mapSeq_set its n j u) (r.set rv j) (by rw [List.length_set];exact hz) s.toks
 by_cases h0:0≤k
 ·have hk:k.toNat=j:=by
   rw [seqIndex_of h0 h4] at h1
   exact Option.some.inj h1
  exact PySem.W.ki_setAt ho h0 (by omega) (by rw [List.size_toArray,←hl];exact h4) (by rw [hk];exact ⟨_,I',q⟩)
 ·have hk:(k + (its.toArray.size:Int)).toNat=j:=by
   rw [seqIndex_neg (by omega) h3] at h1
   rw [List.size_toArray,←hl]
   exact Option.some.inj h1
  exact PySem.W.ki_setBack ho (by omega) (by rw [List.size_toArray,←hl];exact h3) (by omega) (by rw [hk];exact ⟨_,I',q⟩)
theorem call_len_seq:CallR X (.builtin "len") (fun xs H Q=>∃ p ys,xs=[.ref p]∧(SqL X.K H p ys∨SqT X.K H p ys)∧Q (.int ys.length) H):=by
 intro pins s σ H xs us Q I r h
 obtain ⟨p,ys,rfl,hq,q⟩:=h
 obtain ⟨u,rfl,rx⟩:=vals1 r
 cases rx
 have hn:=line63
 rcases hq with hq | hq
 ·obtain ⟨its,r',pl,hz⟩:=I.list hq
  have hlen:=r'.length
  exact Calls.call_len_list pl.isList (by simp only [List.size_toArray] <;> omega) ⟨.int ys.length,H,I.tok _,⟨s.toks + 1,by rw [List.size_toArray,hlen]⟩,q⟩
 ·obtain ⟨its,r',pl,hz⟩:=I.tuple hq
  have hlen:=r'.length
  exact len_tuple pl (by simp only [List.size_toArray] <;> omega) ⟨.int ys.length,H,I.tok _,⟨s.toks + 1,by rw [List.size_toArray,hlen]⟩,q⟩
theorem CallR.or {f:Value} {r r':List V→Hp→VK→Prop} (h:CallR X f r) (h':CallR X f r'):CallR X f (fun xs H Q=>r xs H Q∨r' xs H Q):=by
 intro pins s σ H xs us Q I rs q
 rcases q with q | q
 ·exact h pins s σ H xs us Q I rs q
 ·exact h' pins s σ H xs us Q I rs q
theorem call_list_of:CallR X (.type "list") (fun xs H Q=>∃ p ys,xs=[.ref p]∧(SqL X.K H p ys∨SqT X.K H p ys)∧∀ l,H l=none→Q (.ref l) (upd H l (.lst ys))):=by
 intro pins s σ H xs us Q I r h
 obtain ⟨p,ys,rfl,hq,q⟩:=h
 obtain ⟨u,rfl,rx⟩:=vals1 r
 cases rx
 have fin:∀ (its:List Value),Vals ys its→ys.length≤sizeLine→∀ (h':Heap) (c':Nat),(∀ b o',s.heap.get? b=some o'→h'.get? b=some o')→
   h'.get? s.heap.objs.size=some { cls:=.type "list",dict:=none,data:=.seq its.toArray c',slots:=#[] }→EP X pins σ Q (.ref s.heap.objs.size) { s with heap:=h' }:=fun its r' hz h' c' kp e=>
  ⟨.ref s.heap.objs.size,_,I.laid (t':=s.toks) kp (Nat.le_refl _) (show ObjOk X.prog X.w _ h' _ (.lst ys) from ⟨hz,its,c',r',e⟩),rfl,q _ (I.hok.fresh (Nat.le_refl _))⟩
 rcases hq with hq | hq
 ·obtain ⟨its,r',pl,hz⟩:=I.list hq
  have hlen:=r'.length
  obtain ⟨o,ho,hc,n,hd⟩:=pl.isList
  exact call_list_seq p (.inl rfl) ho hc hd (fun h' c' kp e=>fin its r' hz h' c' kp e) (by simp only [List.size_toArray] <;> omega)
 ·obtain ⟨its,r',pl,hz⟩:=I.tuple hq
  have hlen:=r'.length
  obtain ⟨o,ho,hc,n,hd⟩:=pl
  exact call_list_seq p (.inr rfl) ho hc hd (fun h' c' kp e=>fin its r' hz h' c' kp e) (by simp only [List.size_toArray] <;> omega)
theorem call_tuple_of:CallR X (.type "tuple") (fun xs H Q=>∃ p ys,xs=[.ref p]∧((SqL X.K H p ys∧∀ l,H l=none→Q (.ref l) (upd H l (.tup ys)))∨(SqT X.K H p ys∧Q (.ref p) H))):=by
 intro pins s σ H xs us Q I r h
 obtain ⟨p,ys,rfl,h⟩:=h
 obtain ⟨u,rfl,rx⟩:=vals1 r
 cases rx
 rcases h with ⟨hq,q⟩ | ⟨hq,q⟩
 ·obtain ⟨its,r',pl,hz⟩:=I.list hq
  have hlen:=r'.length
  refine call_tuple_list pl.isList (fun h' kp=>?_) (by simp only [List.size_toArray] <;> omega)
  have I1:Inv X pins σ H { s with heap:=h' }:=I.kept (t':=s.toks) kp
  have I2:Inv X pins σ (upd H h'.objs.size (.tup ys)) { s with heap:=h'.push { cls:=.type "tuple",data:=.seq its.toArray } }:=
   I1.laid (t':=s.toks) (fun b o e=>Heap.get?_push_of_some _ e) (Nat.le_refl _) (show ObjOk X.prog X.w _ _ _ (.tup ys) from ⟨hz,its,r',IsTupN.new _ _⟩)
  exact ⟨.ref h'.objs.size,_,I2,rfl,q _ (I1.hok.fresh (Nat.le_refl _))⟩
 ·obtain ⟨its,r',pl,hz⟩:=I.tuple hq
  exact call_tuple_same pl ⟨.ref p,H,I,rfl,q⟩
noncomputable def tyV (K:PySem.W.Frag) (T:String) (x:V) (H:Hp):Prop:=match x with
 | .str _=>T="str"
 | .int _=>T="int"
 | .ref p=>(T="list"∧∃ xs,SqL K H p xs)∨(T="tuple"∧∃ o,K.lookup p=some o∧o.cls=.type "tuple"∧o.dict=none)∨
   (T="dict"∧((∃ kvs,H p=some (.dK kvs))∨∃ kvs,H p=some (.dT kvs)))∨(T="set"∧∃ S n,H p=some (.set S n))
 | _=>False
theorem tyV_is {pins:List (Addr×Obj)} {σ:St} {H:Hp} {s:Shared} {T:String} {x:V} {v:Value} (I:Inv X pins σ H s) (r:RelV x v) (ty:tyV X.K T x H):
  s.TypeIs v T∧∀ a,v=.ref a→∃ ob,s.heap.get? a=some ob∧ob.dict=none:=by
 cases x with
 | str z=>
  obtain ⟨t,rfl⟩:=r
  cases (show T="str" from ty)
  exact ⟨typeIs_str s z t,fun _ e=>nomatch e⟩
 | int i=>
  obtain ⟨t,rfl⟩:=r
  cases (show T="int" from ty)
  exact ⟨typeIs_int s i t,fun _ e=>nomatch e⟩
 | ref p=>
  cases r
  rcases ty with ⟨rfl,xs,hq⟩ | ⟨rfl,o,hk,hc,hd⟩ | ⟨rfl,hk⟩ | ⟨rfl,S,n,hk⟩
  ·obtain ⟨its,_,pl,_⟩:=I.list hq
   refine ⟨pl.isList.typeIs,fun a e=>?_⟩
   cases e
   obtain ⟨o,n,e,c,hd,_⟩:=pl
   exact ⟨o,e,hd⟩
  ·refine ⟨⟨o,I.kIn p o hk,hc⟩,fun a e=>?_⟩
   cases e
   exact ⟨o,I.kIn _ o hk,hd⟩
  ·have z:∃ o,s.heap.get? p=some o∧o.ExactDict:=by
    rcases hk with ⟨kvs,hk⟩ | ⟨kvs,hk⟩
    ·obtain ⟨_,_,_,_,o,_,_,e,ex,_⟩:=I.hok p _ hk
     exact ⟨o,e,ex⟩
    ·obtain ⟨_,_,_,_,o,_,_,e,ex,_⟩:=I.hok p _ hk
     exact ⟨o,e,ex⟩
   obtain ⟨o,e,ex⟩:=z
   refine ⟨⟨o,e,ex.1⟩,fun a e2=>?_⟩
   cases e2
   exact ⟨o,e,ex.2.1⟩
  ·obtain ⟨o,_,_,_,e,ex,_⟩:=I.hok p _ hk
   refine ⟨⟨o,e,ex.1⟩,fun a e2=>?_⟩
   cases e2
   exact ⟨o,e,ex.2.1⟩
 | _=>exact False.elim ty
noncomputable def tBM (K:PySem.W.Frag) (T:String) (r:V→List V→Hp→VK→Prop) (to:TE) (t:TA):TE:=fun σ H Q=>to σ H fun x H1=>tyV K T x H1∧t σ H1 fun xs H2=>r x xs H2 Q
variable {o e:Expr} {es:List Expr} {to:TE} {t:TA} {name:Str} {apos cpos:Pos} {T id:String} {r:V→List V→Hp→VK→Prop}
theorem pe_bm (pa:PlainAttrs T) (slot:Slot T name id) (hty:typeOf (.builtin id)=pure (.type "method_descriptor")) (hm:MtR X id r) (ho:PE X o to) (ha:PA X (e::es) t)
  (hbase:attributeBase o name X.env (eval o X.env)=eval o X.env:=by rfl)
  (hfew:((backTo cpos (starEach (e::es) X.env)).all (fun x=> !x.1)&&(backToKw cpos (keywordEach [] X.env)).all (fun x=>x.1.isSome)
   &&decide ((e::es).length + ([]:List Keyword).length + (if ([]:List Keyword).isEmpty then 0 else 1) < 30))=true:=by rfl)
  (hline:(apos.endLine==cpos.line)=true:=by rfl) (hs:starEach (e::es) X.env=(false,eval e X.env)::starEach es X.env:=by rfl) (hplain:(backTo cpos (starEach es X.env)).any (·.1)=false:=by rfl):
  PE X (.Call (.Attribute o name apos) (e::es) [] cpos) (tBM X.K T r to t):=by
 intro pins s σ H Q I h
 refine wpAny_Call_method_late hbase hfew hline rfl (thn (ho pins s σ H _ I h) fun v s1 ⟨x,H1,I1,r1,ty,q1⟩=>?_)
 obtain ⟨h1,h2⟩:=tyV_is I1 r1 ty
 refine ⟨T,id,pa,slot,hty,h1,h2,?_⟩
 have hA:=ha cpos pins s1 σ H1 _ I1 q1
 rw [hs] at hA ⊢
 refine Calls.callWith_builtin (by show (false||(backTo cpos (starEach es X.env)).any (·.1))=false;rw [hplain] <;> rfl) (Calls.evalArgs_plain ?_)
 exact thn hA fun us s2 ⟨vs,H2,I2,r2,q2⟩=>hm pins s2 σ H2 x vs v us Q I2 r1 r2 q2
end
end L2
namespace L2
open PySem PySem.Spec PyProof.Rows
noncomputable def MtM (X:Cx) (id:String) (r:V→List V→Hp→VK→Prop):Prop:=
 ∀ (pins:List (Addr×Obj)) (s:Shared) (σ:St) (H:Hp) (x:V) (xs:List V) (v:Value) (us:List Value) (Q:VK),Inv X pins σ H s→RelV x v→Vals xs us→r x xs H Q→
  wpAny (model X.prog X.w) X.A (call (.builtin id) (v::us)) (EP X pins σ Q) X.xe s
theorem Vals.one:∀ {x:V} {us:List Value},Vals [x] us→∃ u,us=[u]∧RelV x u
 | _,_,.cons r .nil=>⟨_,rfl,r⟩
theorem Vals.two {x y:V} {us:List Value} (h:Vals [x,y] us):∃ u v,us=[u,v]∧RelV x u∧RelV y v:=by
 cases h with
 | cons r t=>
 cases t with
 | cons q t=>
 cases t
 exact ⟨_,_,rfl,r,q⟩
theorem Vals.zero:∀ {us:List Value},Vals [] us→us=[]
 | _,.nil=>rfl
theorem Vals.dropLast {xs:List V} {us:List Value} (h:Vals xs us):Vals xs.dropLast us.dropLast:=by
 induction h with
 | nil=>exact .nil
 | cons r t ih=>
  cases t with
  | nil=>exact .nil
  | cons q t'=>exact .cons r ih
theorem Vals.reverse {xs:List V} {us:List Value} (h:Vals xs us):Vals xs.reverse us.reverse:=by
 induction h with
 | nil=>exact .nil
 | cons r t ih=>rw [List.reverse_cons,List.reverse_cons];exact Vals.append ih (.cons r .nil)
theorem Vals.rep {xs:List V} {us:List Value} (h:Vals xs us):∀ k:Nat,Vals (List.replicate k xs).flatten (List.replicate k us).flatten
 | 0=>.nil
 | k + 1=>by
  rw [List.replicate_succ,List.replicate_succ,List.flatten_cons,List.flatten_cons]
  exact Vals.append h (Vals.rep h k)
theorem foldl_rep (its:List Value):∀ (k:Nat) (acc:List Value),
  List.foldl (fun x1 x2=>x1++x2) acc.toArray (List.replicate k its.toArray)=(acc++(List.replicate k its).flatten).toArray
 | 0,acc=>by simp
 | k + 1,acc=>by
  have e:acc.toArray++its.toArray=(acc++its).toArray:=by simp
  have e2:(acc++its)++(List.replicate k its).flatten=acc++(List.replicate (k + 1) its).flatten:=by
   rw [List.replicate_succ,List.flatten_cons,List.append_assoc]
  rw [←e2,←foldl_rep its k (acc++its),←e,List.replicate_succ,List.foldl_cons]
section
variable {X:Cx} {pins:List (Addr×Obj)} {σ:St} {H:Hp} {s:Shared} {l b:Addr} {xs ys zs:List V}
theorem Inv.lset {its its':List Value} {n:Nat} {f:Array Value→Array Value} {t':Nat} (I:Inv X pins σ H s) (hH:H l=some (.lst xs))
  (e:s.heap.get? l=some { cls:=.type "list",data:=.seq its.toArray n }) (hf:f its.toArray=its'.toArray) (hv:Vals ys its') (hz:ys.length≤sizeLine):
  Inv X pins σ (upd H l (.lst ys)) { s with heap:=s.heap.update l (Obj.mapSeq f),toks:=t' }:=by
 have q:=PySem.IsL.update e f
 rw [hf] at q
 refine I.write (x:=l) (e:=l) (by rw [hH];exact trivial) (.inl rfl) (fun b' u hb hu=>(Heap.get?_update_other s.heap (Obj.mapSeq f) (Ne.symm hb)).trans hu) ⟨_,q⟩ ?_
 exact ⟨hz,its',_,hv,q⟩
theorem Inv.lnew {its:List Value} {t':Nat} (I:Inv X pins σ H s) (hv:Vals ys its) (hz:ys.length≤sizeLine):
  Inv X pins σ (upd H s.heap.objs.size (.lst ys)) { s with heap:=s.heap.push { cls:=.type "list",data:=.seq its.toArray },toks:=t' }:=
 I.laid (fun _ _ q=>Heap.get?_push_of_some _ q) (Nat.le_refl _) ⟨hz,its,0,hv,Heap.get?_push_size _ rfl⟩
theorem Inv.fresh (I:Inv X pins σ H s):H s.heap.objs.size=none:=I.hok.fresh (Nat.le_refl _)
theorem Inv.lstM (I:Inv X pins σ H s) (hH:H l=some (.lst xs)):xs.length≤sizeLine∧∃ (its:List Value) (n:Nat),Vals xs its∧xs.length=its.length∧s.heap.get? l=some { cls:=.type "list",data:=.seq its.toArray n }:=by
 obtain ⟨z,its,n,r,e⟩:=I.hok l _ hH
 exact ⟨z,its,n,r,r.length,e⟩
theorem notLongL {n:Nat} (h:n≤sizeLine):Builtin.List.listTooLong n=false:=by
 unfold Builtin.List.listTooLong
 exact decide_eq_false (by omega)
end
section
variable {X:Cx}
noncomputable def rAppend:V→List V→Hp→VK→Prop:=fun x vs H Q=>∃ l xs y,x=.ref l∧vs=[y]∧H l=some (.lst xs)∧xs.length < sizeLine∧Q .non (upd H l (.lst (xs++[y])))
theorem mt_append:MtM X "list.append" rAppend:=by
 intro pins s σ H x vs v us Q I rx rv h
 obtain ⟨l,xs,y,rfl,rfl,hH,hz,q⟩:=h
 cases rx
 obtain ⟨u,rfl,ru⟩:=rv.one
 obtain ⟨z,its,n,r,hl,e⟩:=I.lstM hH
 refine call_meets F.slot_list_append ⟨_,e,rfl⟩ F.entry_list_append (F.args_list_append_2 _ _) (PySem.list_append l its.toArray n u (by rw [List.size_toArray];omega)) ⟨e,?_⟩
 refine ⟨.non,_,I.lset (its':=its++[u]) hH e (by simp) (r.append (.cons ru .nil)) ?_,rfl,q⟩
 rw [List.length_append,List.length_singleton]
 omega
noncomputable def rExtend:V→List V→Hp→VK→Prop:=fun x vs H Q=>∃ l b xs zs,x=.ref l∧vs=[.ref b]∧H l=some (.lst xs)∧H b=some (.lst zs)∧xs.length + zs.length≤sizeLine∧Q .non (upd H l (.lst (xs++zs)))
theorem mt_extend:MtM X "list.extend" rExtend:=by
 intro pins s σ H x vs v us Q I rx rv h
 obtain ⟨l,b,xs,zs,rfl,rfl,hH,hB,hz,q⟩:=h
 cases rx
 obtain ⟨u,rfl,ru⟩:=rv.one
 cases ru
 obtain ⟨z,its,n,r,hl,e⟩:=I.lstM hH
 obtain ⟨z2,its2,n2,r2,hl2,e2⟩:=I.lstM hB
 have hsz:its.toArray.size + its2.toArray.size≤sizeLine:=by rw [List.size_toArray,List.size_toArray];omega
 have hlong:¬(!its.toArray.isEmpty&&Builtin.List.listTooLong (its.toArray.size + its2.toArray.size))=true:=by
  rw [notLongL hsz,Bool.and_false]
  exact Bool.false_ne_true
 refine call_meets F.slot_list_extend ⟨_,e,rfl⟩ F.entry_list_extend (F.args_list_extend_2 _ _)
  (AutoSeq1.list_extend_list_list_0 l its.toArray n b its2.toArray n2 hlong (by rw [List.size_toArray];omega) (by omega)) ⟨e,e2,?_⟩
 refine ⟨.non,_,I.lset (its':=its++its2) hH e (by simp) (r.append r2) ?_,rfl,q⟩
 rw [List.length_append]
 omega
noncomputable def rCat:R2:=fun x y H Q=>∃ l b xs zs,x=.ref l∧y=.ref b∧H l=some (.lst xs)∧H b=some (.lst zs)∧xs.length + zs.length≤sizeLine∧∀ p,H p=none→Q (.ref p) (upd H p (.lst (xs++zs)))
theorem op_cat:OpR X (binaryOp .Add) rCat:=by
 intro pins s σ H x y v u Q I rx ry h
 obtain ⟨l,b,xs,zs,rfl,rfl,hH,hB,hz,q⟩:=h
 cases rx
 cases ry
 obtain ⟨z,its,n,r,hl,e⟩:=I.lstM hH
 obtain ⟨z2,its2,n2,r2,hl2,e2⟩:=I.lstM hB
 refine PySem.P.add_list e e2 ?_ (by rw [List.size_toArray,List.size_toArray];omega)
 have ea:its.toArray++its2.toArray=(its++its2).toArray:=by simp
 rw [ea]
 exact ⟨.ref _,_,I.lnew (t':=s.toks) (r.append r2) (by rw [List.length_append];omega),rfl,q _ I.fresh⟩
noncomputable def rRep:R2:=fun x y H Q=>∃ l k xs,x=.ref l∧y=.int k∧H l=some (.lst xs)∧-(2 ^ 63)≤k∧k < 2 ^ 63∧xs.length * k.toNat≤sizeLine∧
 ∀ p,H p=none→Q (.ref p) (upd H p (.lst (List.replicate k.toNat xs).flatten))
theorem len_rep {α:Type} (xs:List α) (k:Nat):(List.replicate k xs).flatten.length=k * xs.length:=by
 induction k with
 | zero=>simp
 | succ k ih=>rw [List.replicate_succ,List.flatten_cons,List.length_append,ih,Nat.succ_mul,Nat.add_comm]
theorem op_rep:OpR X (binaryOp .Mult) rRep:=by
 intro pins s σ H x y v u Q I rx ry h
 obtain ⟨l,k,xs,rfl,rfl,hH,h1,h2,hz,q⟩:=h
 cases rx
 obtain ⟨t,rfl⟩:=ry
 obtain ⟨z,its,n,r,hl,e⟩:=I.lstM hH
 have hlen:its.toArray.size * k.toNat≤sizeLine:=by rw [List.size_toArray,←hl];exact hz
 have hcap:¬its.toArray.size * k.toNat > (2 ^ 63 - 1) / 8:=by
  have:(sizeLine:Nat)≤(2 ^ 63 - 1) / 8:=by decide
  omega
 have hfit:¬(!Builtin.List.listFitsIndex k)=true:=by
  rw [fitsIndex_both h1 h2]
  exact Bool.false_ne_true
 have hlong:¬Builtin.List.listTooLong (its.toArray.size * k.toNat)=true:=by
  rw [notLongL hlen]
  exact Bool.false_ne_true
 have hnew:List.foldl (fun x1 x2=>x1++x2) #[] (List.replicate (if its.toArray.isEmpty=true then 0 else k.toNat) its.toArray)=(List.replicate k.toNat its).flatten.toArray:=by
  have f0:∀ m:Nat,List.foldl (fun x1 x2=>x1++x2) #[] (List.replicate m its.toArray)=(List.replicate m its).flatten.toArray:=fun m=>by
   have:=foldl_rep its m []
   rw [List.nil_append] at this
   exact this
  rw [f0]
  cases its with
  | nil=>simp
  | cons a r'=>rw [if_neg (by simp)]
 refine wpAny_binaryOp_repeat_ref (T:="list") (U:="int") (by decide) ⟨_,e,rfl⟩ (fun s'=>typeIs_int s' k t) noFill_list_mul F.fills_int_mul F.slot_int_rmul repeat_list F.slot_int_index.lookup
  (call_meets F.slot_int_rmul (typeIs_int s k t) F.entry_int_rmul (F.args_int_rmul_2 _ _) (int___rmul___int_list k t l its.toArray n)
   ⟨e,rfl,⟨_,e,rfl⟩,call_meets F.slot_list_mul ⟨_,e,rfl⟩ F.entry_list_mul (F.args_list_mul_2 _ _) (AutoListH.list___mul___list_int_3 l its.toArray n k t hfit hcap hlong) ⟨e,?_⟩⟩)
 rw [hnew]
 exact ⟨.ref _,_,I.lnew (t':=s.toks) (r.rep k.toNat) (by rw [len_rep,Nat.mul_comm];exact hz),rfl,q _ I.fresh⟩
end
section
variable {prog:Program} {w:World} {A:Around} {E:Value→Shared→Prop} {s:Shared}
end
section
variable {X:Cx}
end
end L2
namespace Att
open PySem PySem.W PySem.Calls PyProof.Rows
theorem ints_of_wellAll {P:Params} {h:Heap}:∀ (ns:List Int) (vs:List Value),WellAll P h vs (ns.map WData.int)→IntsAre vs ns:=by
 intro ns
 induction ns with
 | nil=>
  intro vs w
  rw [List.map_nil] at w
  cases w
  exact .nil
 | cons n ns ih=>
  intro vs w
  rw [List.map_cons] at w
  cases w with
  | cons a b=>
   cases a
   exact .cons _ _ (ih _ b)
theorem script_of {l:OpenLaw} {n:Nat} (hn:l.most=some n) {P:Params} {h:Heap} {args:List WData} {vals:List Value}
  (hpre:l.row.toRowW.claim.pre args=true) (hwl:WellAll P h vals args):
  ∃ a vs ns,vals=[Value.ref a]∧args=[WData.list (ns.map WData.int)]∧h.get? a=some { cls:=.type "list",data:=.seq vs.toArray }∧IntsAre vs ns∧ns.length≤n:=by
 have hsh:WShape.hasAll [] args [.list .int]=true:=(pre_splitW hpre).1
 have hc:l.pre.holds [] { args:=args }=true:=(pre_splitW hpre).2
 obtain ⟨d,r,rfl,h1,h2⟩:=hasAllW_cons hsh
 obtain rfl:=hasAllW_nil h2
 obtain ⟨xs,rfl,h3⟩:=hasW_list h1
 obtain ⟨ns,rfl⟩:=items_int h3
 have hlen:ns.length≤n:=by
  unfold OpenLaw.pre at hc
  have h4:(WTm.not (.lt (.lit (.int (n:Int))) (.len (.arg 0)))).holds [] { args:=[.list (ns.map .int)] }=true:=by
   have h4:=(holds_andW hc).1
   rw [hn] at h4
   exact h4
  have h5:=condW_of h4 (w_not (w_lt w_lit (w_len_list (w_arg rfl))))
  rw [List.length_map] at h5
  refine Nat.le_of_not_lt fun q=>?_
  have q':(n:Int) < ((ns.length:Nat):Int):=by omega
  first
   | (rw [decide_eq_true q'] at h5;exact absurd h5 (by decide))
   | (simp at h5;omega)
 cases hwl with
 | cons w1 w2=>
  cases w2
  cases w1 with
  | list ho hall=>exact ⟨_,_,ns,rfl,rfl,ho,ints_of_wellAll ns _ hall,hlen⟩
theorem post_true (l:OpenLaw) (args:List WData):l.row.toRowW.claim.post args (.bool true) args=true:=
 postW_of (r:=l.row.toRowW) (X:=(true==true))
  (show WShape.has [] (.bool true) .bool=true by first | rfl | decide | simp [WShape.has,WShape.arms,WShape.armsAll])
  (show (WTm.eq .res (.lit (.bool true))).value [] { args:=args,res:=some (.bool true),after:=args }=some (.bool (true==true)) from w_eq_bool (w_res rfl) w_lit) rfl
theorem attach_call {l:OpenLaw} {n:Nat} {q:Program} {loose:List Str} {XP:(Str→Option Value)→Heap→Prop} {YP:World→Heap→Prop} {d:DefRec}
  (hn:l.most=some n) (hdf:d.params.defaults=[])
  (call:∀ (w:World) (s₀ s₁:Shared) (mg mb:Str→Option Value) (fa:Addr) (o:Obj) (pm cd doc:Value) (a:Addr) (vs:List Value) (ns:List Int),
   Ground q loose [] XP w s₀ mg mb s₁.heap→YP w s₁.heap→
   s₁.heap.get? fa=some o→o.data=.func (docDef d.name d.params d.body d.scope pm cd doc)→s₁.heap.CodeRec cd d.name→mg d.name=some (.ref fa)→
   s₁.heap.get? a=some { cls:=.type "list",data:=.seq vs.toArray }→IntsAre vs ns→ns.length≤n→s₁.gens=#[]→
   codeAny (model l.prog w) callerA (.call (.ref fa) ⟨[.ref a],[]⟩) (fun r s'=>r=.ok (.ret (.bool true))∧OldK s₁.heap s'.heap∧s'.os=s₁.os∧AllBare s'.gens) s₁):
  WalkO q loose XP YP l.row.toRowW d [] (fun f vs=>PySem.call f vs):=by
 intro w s₀ s₁ mg mb G Y fa o pm cd doc dV kV ho hd hcd hD hmg hg args vals as hpre hlay hrd hwl hlo
 obtain rfl:dV=.none:=Dflts.none hD hdf
 obtain rfl:kV=.none:=Dflts.noKw hD
 obtain ⟨a,vs,ns,rfl,rfl,hobj,hints,hlen⟩:=script_of hn hpre hwl
 refine enter_call (codeAny_mono (call w s₀ s₁ mg mb fa o pm cd doc a vs ns G Y ho (fd_plain hd) hcd hmg hobj hints hlen hg) fun r s' hq=>?_)
 obtain ⟨rfl,h2,h3,h4⟩:=hq
 exact ⟨.inl ⟨.bool true,.bool true,[],rfl,fun _=>rfl,.bool true,post_true l _,fun _=>⟨List.Pairwise.nil,fun _ hm=>(nomatch hm)⟩⟩,h2,h3,h4⟩
section
variable {prog:Program} {w:World} {A:Around} {E:Value→Shared→Prop} {s:Shared} {K:Frag}
end
end Att
namespace L2
open PySem PySem.Spec PyProof.Rows
theorem vals_ints:∀ {vs:List Value} {ns:List Int},IntsAre vs ns→Vals (ns.map V.int) vs
 | _,_,.nil=>.nil
 | _,_,.cons n t h=>.cons ⟨t,rfl⟩ (vals_ints h)
noncomputable def Only (H:Hp):Prop:=∀ b,H b=none∨∃ o xs,H b=some (.frz o (.lst xs))
theorem law_call {P:Program} {w:World} {K:PySem.W.Frag} {mg mb:Str→Option Value} {CX:CXT} {k:Nat} {fa a:Addr} {fd:FuncData} {x:Str} {sp:Sp} {s₁:Shared} {vs:List Value} {ns:List Int}
  (KX:K.In s₁.heap) (hns:s₁.heap.Ns mainGlobals mg) (hb:s₁.heap.Ns builtinsNs mb) (hbb:∀ x:Str,x≠"__name__"→mb x=bootBuiltins x) (hlim:s₁.heap.NoLimit) (hg:s₁.gens=#[])
  (ha:s₁.heap.get? a=some { cls:=.type "list",data:=.seq vs.toArray }) (hi:IntsAre vs ns) (hl:ns.length≤sizeLine) (hr:Room k callerA)
  (F:∀ base:Heap,K.In base→base.Ns mainGlobals mg→FnOk P w K mg base CX k fa fd [x] sp) (hbind:∀ (s:Shared) (u:Value),BindsTo s fd ⟨[u],[]⟩ [(x,u)])
  (hsp:∀ H:Hp,Only H→SqL K H a (ns.map V.int)→sp [.ref a] H (fun v _=>v=.bl true) fun _ _ _=>False)
  (hCX:∀ H e s',CX [] H s₁ (fun _ _ _=>False) e s'→False):
  codeAny (model P w) callerA (.call (.ref fa) ⟨[.ref a],[]⟩) (fun r s'=>r=.ok (.ret (.bool true))∧OldK s₁.heap s'.heap∧s'.os=s₁.os∧AllBare s'.gens) s₁:=by
 have rv:=vals_ints hi
 have lenV:=hi.length
 have core:∀ H:Hp,Only H→SqL K H a (ns.map V.int)→HOk P w H s₁.heap→(∀ b,H b≠none→b=a)→(H a≠none→K.lookup a=none)→
   codeAny (model P w) callerA (.call (.ref fa) ⟨[.ref a],[]⟩) (fun r s'=>r=.ok (.ret (.bool true))∧OldK s₁.heap s'.heap∧s'.os=s₁.os∧AllBare s'.gens) s₁:=by
  intro H hO hS hok hA hK
  have base_of:∀ {b:Addr} {o:Obj},s₁.heap.get? b=some o→H b=none→(hidT s₁.heap H).get? b=some o:=fun e n=>hidT_get e n
  have noA:∀ {b:Addr} {o:Obj} {es:Array DictEntry} {ep:Nat},s₁.heap.get? b=some o→o.data=.dict es ep→H b=none:=fun {b o es ep} e d=>by
   cases q:H b with
   | none=>rfl
   | some u=>
    have e':b=a:=hA b (by rw [q];simp)
    subst e'
    rw [ha] at e;cases e
    have d':Data.seq vs.toArray _=Data.dict es ep:=d
    cases d'
  have nsK:∀ {b:Addr} {m:Str→Option Value},s₁.heap.Ns b m→(hidT s₁.heap H).Ns b m:=fun {b m} ⟨o,es,ep,e,d,r⟩=>⟨o,es,ep,base_of e (noA e d),d,r⟩
  have hKb:K.In (hidT s₁.heap H):=fun b o e=>base_of (KX b o e) (by
   cases q:H b with
   | none=>rfl
   | some u=>
    have e':b=a:=hA b (by rw [q];simp)
    subst e'
    rw [hK (by rw [q];simp)] at e;cases e)
  have hM:Mod K mg (hidT s₁.heap H):=⟨hKb,nsK hns,⟨mb,nsK hb,hbb⟩,let ⟨mc,h1,h2⟩:=hlim;⟨mc,nsK h1,h2⟩⟩
  have e0:Env0 P w K mg (hidT s₁.heap H) callerA [] s₁ H:=⟨rfl,hM,fun b o e=>of_hidT e,Nat.le_of_eq (hidT_size _ _),trivial,fun b hb=>absurd (show b∈([]:List Addr) from hb) (by simp),hok,.of_eq hg⟩
  refine codeAny_mono ((F _ hKb (nsK hns)).run callerA [] s₁ H ⟨[.ref a],[]⟩ [.ref a] [.ref a] _ _ hr e0 (hbind s₁ (.ref a)) (.cons rfl .nil) (hsp H hO hS)) fun r s' h=>?_
  cases r with
  | error e=>exact (hCX H e s' h).elim
  | ok fl=>
   cases fl with
   | next=>exact False.elim h
   | brk=>exact False.elim h
   | cont=>exact False.elim h
   | ret u=>
    obtain ⟨v,H',os,bare,un,hok',r',q⟩:=h
    have q':v=.bl true:=q
    subst q'
    obtain rfl:u=Value.bool true:=r'
    refine ⟨rfl,OldK.of_keep fun b o e=>?_,os,bare⟩
    cases q:H b with
    | none=>exact un.keep b o e q (by intro z;exact absurd (show b∈([]:List Addr) from z) (by simp)) (by simp)
    | some u=>
     rcases hO b with z | ⟨ob,xs,z⟩
     ·rw [q] at z;cases z
     ·have z2:=un.frzs b ob _ z
      obtain ⟨e1,_⟩:=hok b _ z
      obtain ⟨e2,_⟩:=hok' b _ z2
      rw [e] at e1;cases e1
      exact e2
 cases hk:K.lookup a with
 | some o=>
  have e:=KX a o hk
  rw [ha] at e
  cases e
  refine core (fun _=>none) (fun _=>.inl rfl) (.inr ⟨_,vs.toArray,_,hk,rfl,rfl,rfl,by rw [List.size_toArray,lenV];exact hl,by simpa using rv⟩) (fun b u z=>by have z':(none:Option HO)=some u:=z;cases z') (fun b z=>absurd rfl z) fun z=>absurd rfl z
 | none=>
  refine core (fun b=>if b=a then some (.frz { cls:=.type "list",data:=.seq vs.toArray } (.lst (ns.map V.int))) else none) (fun b=>?_) (.inl (.inr ⟨{ cls:=.type "list",data:=.seq vs.toArray },if_pos rfl⟩)) (fun b u z=>?_) (fun b z=>?_) fun _=>hk
  ·by_cases hb:b=a
   ·exact .inr ⟨_,_,if_pos hb⟩
   ·exact .inl (if_neg hb)
  ·by_cases hb:b=a
   ·have z':=(if_pos hb).symm.trans z
    cases z'
    subst hb
    exact ⟨ha,by rw [List.length_map];exact hl,vs,_,rv,ha⟩
   ·have z':=(if_neg hb).symm.trans z
    cases z'
  ·by_cases hb:b=a
   ·exact hb
   ·exact absurd (if_neg hb) z
end L2
namespace L2
open PySem PySem.Spec PyProof.Rows
noncomputable abbrev KOf {K:PySem.W.Frag} {h:Heap} (_:K.In h):PySem.W.Frag:=K
theorem walk_of {l:PySem.W.OpenLaw} {n k:Nat} {q:Program} {loose:List Str} {XP:(Str→Option Value)→Heap→Prop} {YP:World→Heap→Prop} {d:DefRec} {K:Params→PySem.W.Frag} {CX:World→CXT} {sp:World→Sp} {x:Str}
  (hn:l.most=some n) (hn2:n≤sizeLine) (hdf:d.params.defaults=[]) (hr:Room k callerA)
  (hY:∀ (w:World) (h:Heap),YP w h→(K w.params).In h)
  (F:∀ (w:World) (mg:Str→Option Value) (fa:Addr) (h:Heap),(K w.params).In h→h.Ns mainGlobals mg→mg d.name=some (.ref fa)→
   ∃ fd:FuncData,(∀ (s:Shared) (u:Value),BindsTo s fd ⟨[u],[]⟩ [(x,u)])∧
    ∀ base:Heap,(K w.params).In base→base.Ns mainGlobals mg→FnOk l.prog w (K w.params) mg base (CX w) k fa fd [x] (sp w))
  (hsp:∀ (w:World) (H:Hp) (a:Addr) (ns:List Int),ns.length≤n→Only H→SqL (K w.params) H a (ns.map V.int)→sp w [.ref a] H (fun v _=>v=.bl true) fun _ _ _=>False)
  (hCX:∀ (w:World) (H:Hp) (s:Shared) (e:Value) (s':Shared),CX w [] H s (fun _ _ _=>False) e s'→False):
  PySem.W.WalkO q loose XP YP l.row.toRowW d [] (fun f vs=>PySem.call f vs):=by
 refine Att.attach_call hn hdf fun w s₀ s₁ mg mb fa o pm cd doc a vs ns G Y ho hd hcd hmg hobj hints hlen hg=>?_
 have KX:=hY w _ Y
 obtain ⟨fd,hb,hF⟩:=F w mg fa _ KX G.T.g hmg
 exact law_call KX G.T.g G.T.b G.T.builtins G.T.nolimit hg hobj hints (Nat.le_trans hlen hn2) hr hF hb (fun H hO hS=>hsp w H a ns hlen hO hS) fun H e s'=>hCX w H s₁ e s'
end L2
namespace L2
open PySem PySem.Spec PyProof.Rows
noncomputable def defArgs (s:Stmt):Arguments:=match s with
 | .FunctionDef _ a _ _ _ _ _ _ _ _=>a
 | _=>{ posonlyargs:=[],args:=[],vararg:=none,kwonlyargs:=[],kw_defaults:=[],kwarg:=none,defaults:=[] }
noncomputable def defBody (s:Stmt):List Stmt:=match s with
 | .FunctionDef _ _ b _ _ _ _ _ _ _=>b
 | _=>[]
noncomputable def defScope (s:Stmt):Scope:=match s with
 | .FunctionDef _ _ _ _ _ _ sc _ _ _=>sc
 | _=>{ kind:=.function,names:=[],isGenerator:=false,isCoroutine:=false }
noncomputable abbrev CX0:CXT:=fun _ _ _ _ _ _=>False
noncomputable abbrev E0:XK:=fun _ _ _=>False
theorem pass0 {X:Cx}:Passes CX0 X E0:=fun _ _ _ _ _ _ _ h=>h.elim
structure Fun (K:PySem.W.Frag) (x qual:Str) (st:Stmt) (f:Addr) (fd:FuncData):Prop where
 ex:∃ (oc:Value) (od:Option Addr) (kV doc pm:Value) (an:Option Addr) (cdv ct:Value) (osl:Array (Option Value)),
  fd=PySem.W.fnOf x qual (defArgs st) (defBody st) (defScope st) .none kV doc pm an cdv ct∧K.lookup f=some ⟨oc,od,.func fd,osl⟩∧PySem.W.codeIn K cdv qual=true
 kp:PySem.W.keepIn K (.ref f)=true
section
variable {P:Program} {w:World} {K:PySem.W.Frag} {mg:Str→Option Value} {base:Heap}
theorem Fun.ok {x qual:Str} {st:Stmt} {f:Addr} {fd:FuncData} {N ps:List Str} {k:Nat} {sp:Sp} (F:Fun K x qual st f fd) (S:FnScope N ps (defScope st)) (len:∀ vs H Q E,sp vs H Q E→vs.length=ps.length)
  (hbody:∀ (cdv:Value) (A:Around) (outer:List Env) (s:Shared) (H:Hp) (vs:List V) (Q:VK) (E:XK),Room k (A.deeper (envOfC qual (defScope st) s.heap.objs.size f cdv))→sp vs H Q E→
   ∃ t,PSs (cxOf CX0 P w K mg base N qual (defScope st) f cdv A outer s H E).nox (defBody st) t∧t { nx:=fun _ H'=>Q .non H',rt:=Q } (start N vs) H):FnOk P w K mg base CX0 (k + 1) f fd ps sp:=by
 obtain ⟨oc,od,kV,doc,pm,an,cdv,ct,osl,rfl,lk,hcd⟩:=F.ex
 refine fn_of lk hcd S len fun A outer s H vs Q E hr hsp=>?_
 obtain ⟨t,h,q⟩:=hbody cdv A outer s H vs Q E hr hsp
 exact ⟨t,h.nox,q⟩
theorem Fun.binds {x qual:Str} {st:Stmt} {f:Addr} {fd:FuncData} {ps:List Str} (F:Fun K x qual st f fd)
  (h:∀ (kV doc pm:Value) (an:Option Addr) (cdv ct:Value) (us:List Value),us.length=ps.length→bindArgs (PySem.W.fnOf x qual (defArgs st) (defBody st) (defScope st) .none kV doc pm an cdv ct) ⟨us,[]⟩=pure (ps.zip us)):Binds K fd ps []:=by
 obtain ⟨oc,od,kV,doc,pm,an,cdv,ct,osl,rfl,lk,hcd⟩:=F.ex
 exact .all (h kV doc pm an cdv ct)
theorem fun_mk {x qual:Str} {st:Stmt} {f:Addr} {oc:Value} {od an:Option Addr} {osl:Array (Option Value)} {kV doc pm cdv ct:Value} (l:K.lookup f=some ⟨oc,od,.func (PySem.W.fnOf x qual (defArgs st) (defBody st) (defScope st) .none kV doc pm an cdv ct),osl⟩)
  (c:PySem.W.codeIn K cdv qual=true) (k:PySem.W.keepIn K (.ref f)=true):Fun K x qual st f (PySem.W.fnOf x qual (defArgs st) (defBody st) (defScope st) .none kV doc pm an cdv ct):=⟨⟨oc,od,kV,doc,pm,an,cdv,ct,osl,rfl,l,c⟩,k⟩
end
theorem hu_of {A:Around} {k:Nat} (hr:Room k A):A.units + 1 < cLine:=Nat.lt_of_le_of_lt (Nat.add_le_add_left (by decide:1≤64) _) hr.units
theorem small1000 {n:Nat} (h:n≤1000):n < sizeLine:=Nat.lt_of_le_of_lt h (by decide)
section
variable {X:Cx}
theorem pv (i:Nat) {x:Str} {pos:Pos} (hN:X.N[i]? =some x:=by rfl) (hv:Vis X.env.scope x:=by first | exact Or.inl rfl | exact Or.inr (Or.inl rfl) | exact Or.inr (Or.inr rfl)) (hd:(x==("__debug__":Str))=false:=by decide)
  (hcd:(x==("__classdict__":Str))=false:=by decide):PE X (.Name x pos) (tVar i):=pe_var hN hv hd hcd
end
theorem iteF {A B:Prop} (h:B):if false=true then A else B:=by
 rw [if_neg Bool.false_ne_true]
 exact h
theorem iteT {A B:Prop} (h:A):if true=true then A else B:=by
 rw [if_pos rfl]
 exact h
noncomputable def Same (H H':Hp):Prop:=∀ b o,H b=some o→H' b=some o
theorem Same.refl (H:Hp):Same H H:=fun _ _ h=>h
theorem Same.trans {H H1 H2:Hp} (a:Same H H1) (b:Same H1 H2):Same H H2:=fun c o h=>b c o (a c o h)
theorem Same.free {H H':Hp} (e:Same H H') {l:Addr} (h:H' l=Option.none):H l=Option.none:=by
 cases q:H l with
 | none=>rfl
 | some o=>
  rw [e l o q] at h
  cases h
theorem Same.seq {K:PySem.W.Frag} {H H':Hp} {a:Addr} {xs:List V} (e:Same H H') (h:SqL K H a xs):SqL K H' a xs:=by
 rcases h with (h | ⟨o,h⟩) | h
 ·exact .inl (.inl (e _ _ h))
 ·exact .inl (.inr ⟨o,e _ _ h⟩)
 ·exact .inr h
end L2
namespace L2
open PySem PySem.Spec PyProof.Rows
noncomputable def closL (env:Env):List (Str×NameKind)→List (Str×Addr)→List (Str×Addr)
 | [],cs=>cs
 | (n,k)::r,cs=>closL env r (if k==.free then (match env.cells.lookup n with | some a=>(n,a)::cs | none=>cs) else cs)
noncomputable def FrOk (env:Env):List (Str×NameKind)→Prop
 | []=>True
 | (n,k)::r=>(match k with | .free=>(env.kindOf n=some .cell∨env.kindOf n=some .free) | .cell=>False | _=>True)∧FrOk env r
theorem FrOk.free {env:Env}:∀ {ns:List (Str×NameKind)} {n:Str},FrOk env ns→(n,NameKind.free)∈ns→env.kindOf n=some .cell∨env.kindOf n=some .free
 | [],_,_,h=>by cases h
 | (m,k)::r,n,f,h=>by
  obtain ⟨a,b⟩:=f
  rcases List.mem_cons.mp h with e | e
  ·cases e;exact a
  ·exact b.free e
theorem FrOk.nocell {env:Env}:∀ {ns:List (Str×NameKind)},FrOk env ns→∀ y∈ns,y.2≠.cell
 | [],_,_,h=>by cases h
 | (m,k)::r,f,y,h=>by
  obtain ⟨a,b⟩:=f
  rcases List.mem_cons.mp h with e | e
  ·subst e
   intro e
   have e':k=.cell:=e
   subst e'
   exact a
  ·exact b.nocell y e
theorem closure_go {env:Env}:∀ (ns:List (Str×NameKind)) (cs:List (Str×Addr)),(∀ n,(n,NameKind.free)∈ns→∃ a,env.cells.lookup n=some a)→
  (forIn (m:=Sem) ns cs fun x r=>match x with | (name,kind)=>(if (kind==NameKind.free)=true then (do let a ←cellOf env name;pure (ForInStep.yield ((name,a)::r))) else pure (ForInStep.yield r)))=pure (closL env ns cs)
 | [],cs,_=>rfl
 | (n,k)::r,cs,h=>by
  rw [List.forIn_cons]
  cases hk:(k==NameKind.free) with
  | false=>
   simp only [hk,Bool.false_eq_true,if_false]
   rw [pure_bind]
   show forIn (m:=Sem) r cs _=pure (closL env r (if (k==NameKind.free)=true then _ else cs))
   rw [hk]
   exact closure_go r cs fun n hn=>h n (List.mem_cons_of_mem _ hn)
  | true=>
   have ek:k=.free:=by simpa using hk
   subst ek
   obtain ⟨a,ha⟩:=h n List.mem_cons_self
   simp only [hk,if_true]
   unfold cellOf
   rw [ha]
   simp only [pure_bind]
   show forIn (m:=Sem) r ((n,a)::cs) _=pure (closL env r (if (NameKind.free==NameKind.free)=true then (match env.cells.lookup n with | some a=>(n,a)::cs | none=>cs) else cs))
   rw [hk,if_pos rfl,ha]
   exact closure_go r _ fun n hn=>h n (List.mem_cons_of_mem _ hn)
theorem closure_eq {env:Env} {sc:Scope} (h:∀ n,(n,NameKind.free)∈sc.names→∃ a,env.cells.lookup n=some a):closureFor sc env=pure (closL env sc.names []):=by
 unfold closureFor
 exact (congrArg (fun z=>z >>=fun r=>pure r) (closure_go sc.names [] h)).trans (by simp)
theorem closL_sub {env:Env}:∀ {ns:List (Str×NameKind)} {cs:List (Str×Addr)},(∀ x c,cs.lookup x=some c→env.cells.lookup x=some c)→∀ x c,(closL env ns cs).lookup x=some c→env.cells.lookup x=some c
 | [],_,h,x,c,e=>h x c e
 | (n,k)::r,cs,h,x,c,e=>by
  refine closL_sub (ns:=r) (fun y d q=>?_) x c e
  by_cases hk:(k==NameKind.free)=true
  ·rw [if_pos hk] at q
   cases hn:env.cells.lookup n with
   | none=>rw [hn] at q;exact h y d q
   | some a=>
    rw [hn] at q
    simp only [List.lookup_cons] at q
    cases hy:(y==n) with
    | true=>
     rw [hy] at q
     have:y=n:=by simpa using hy
     subst this
     rw [hn];exact q
    | false=>rw [hy] at q;exact h y d q
  ·rw [if_neg hk] at q;exact h y d q
theorem closL_has {env:Env}:∀ {ns:List (Str×NameKind)} {cs:List (Str×Addr)} {x:Str},((∃ c,cs.lookup x=some c)∨((x,NameKind.free)∈ns∧∃ a,env.cells.lookup x=some a))→∃ c,(closL env ns cs).lookup x=some c
 | [],cs,x,h=>by
  rcases h with h | ⟨h,_⟩
  ·exact h
  ·cases h
 | (n,k)::r,cs,x,h=>by
  refine closL_has (ns:=r) ?_
  rcases h with ⟨c,h⟩ | ⟨h,a,ha⟩
  ·left
   by_cases hk:(k==NameKind.free)=true
   ·rw [if_pos hk]
    cases hn:env.cells.lookup n with
    | none=>exact ⟨c,h⟩
    | some a=>
     simp only [List.lookup_cons]
     cases hy:(x==n) with
     | true=>exact ⟨a,rfl⟩
     | false=>exact ⟨c,h⟩
   ·rw [if_neg hk];exact ⟨c,h⟩
  ·rcases List.mem_cons.mp h with e | e
   ·left
    cases e
    rw [if_pos (by rfl),ha]
    exact ⟨a,by simp⟩
   ·exact .inr ⟨e,a,ha⟩
theorem lookup_mem {α:Type}:∀ {ns:List (Str×α)} {x:Str} {k:α},ns.lookup x=some k→(x,k)∈ns
 | [],_,_,h=>by cases h
 | (n,j)::r,x,k,h=>by
  simp only [List.lookup_cons] at h
  cases hx:(x==n) with
  | true=>
   rw [hx] at h
   cases h
   have:x=n:=by simpa using hx
   subst this
   exact List.mem_cons_self
  | false=>rw [hx] at h;exact List.mem_cons_of_mem _ (lookup_mem h)
noncomputable def rlb (env:Env) (p:Str×NameKind):Str×NameKind:=if (p.2==NameKind.free&&env.scope.kind==.function&&env.kindOf p.1==some .cell) then (p.1,NameKind.cell) else (p.1,p.2)
theorem rlb_fst (env:Env) (p:Str×NameKind):(rlb env p).1=p.1:=by
 unfold rlb
 split <;> rfl
theorem rlb_free (env:Env) (n:Str):(rlb env (n,.free)).2=.cell∨(rlb env (n,.free)).2=.free:=by
 unfold rlb
 split
 ·exact .inl rfl
 ·exact .inr rfl
theorem rlb_back (env:Env) (p:Str×NameKind) (hn:p.2≠.cell) (h:(rlb env p).2=.cell∨(rlb env p).2=.free):p.2=.free:=by
 unfold rlb at h
 split at h
 ·rename_i hc
  have h1:=(Bool.and_eq_true _ _).mp hc
  have h2:=(Bool.and_eq_true _ _).mp h1.1
  simpa using h2.1
 ·rcases h with h | h
  ·exact absurd h hn
  ·exact h
theorem lookup_consP {α:Type} (x:Str) (p:Str×α) (r:List (Str×α)):(p::r).lookup x=if (x==p.1)=true then some p.2 else r.lookup x:=by
 obtain ⟨n,k⟩:=p
 rw [List.lookup_cons]
 cases (x==n) <;> rfl
theorem relabel_free {env:Env}:∀ {names:List (Str×NameKind)} {x:Str},names.lookup x=some .free→(names.map (rlb env)).lookup x=some .cell∨(names.map (rlb env)).lookup x=some .free
 | [],_,h=>by cases h
 | (n,k)::r,x,h=>by
  have ih:=@relabel_free env r x
  rw [List.map_cons,lookup_consP,rlb_fst]
  rw [lookup_consP] at h
  by_cases hx:(x==n)=true
  ·rw [if_pos hx] at h ⊢
   cases h
   rcases rlb_free env n with e | e
   ·exact .inl (congrArg some e)
   ·exact .inr (congrArg some e)
  ·rw [if_neg hx] at h ⊢
   exact ih h
theorem relabel_back {env:Env}:∀ {names:List (Str×NameKind)} {x:Str},(∀ y∈names,y.2≠.cell)→((names.map (rlb env)).lookup x=some .cell∨(names.map (rlb env)).lookup x=some .free)→(x,NameKind.free)∈names
 | [],_,_,h=>by rcases h with h | h <;> cases h
 | (n,k)::r,x,hn,h=>by
  have ih:=@relabel_back env r x (fun y hy=>hn y (List.mem_cons_of_mem _ hy))
  rw [List.map_cons,lookup_consP,rlb_fst] at h
  by_cases hx:(x==n)=true
  ·rw [if_pos hx] at h
   have ex:x=n:=by simpa using hx
   subst ex
   have e:=rlb_back env (x,k) (hn _ List.mem_cons_self) (h.imp Option.some.inj Option.some.inj)
   have e':k=.free:=e
   subst e'
   exact List.mem_cons_self
  ·rw [if_neg hx] at h
   exact List.mem_cons_of_mem _ (ih h)
noncomputable def blk (X:Cx) (sc:Scope) (M:List Str) (C:Addr) (fp:List Addr) (s:Shared) (H:Hp):Cx:=
 { X with N:=M,s₀:=s,H₀:=H,env:=compEnvC sc (closL X.env sc.names []) C X.env,outer:=X.stack,stack:=X.stack,ex:=fp,fn:=fun _=>false,pn:=[],xe:=fun _ _=>False }
inductive FmOk (N:List Str) (sc:Scope):List Str→List (Option Nat)→Prop
 | nil:FmOk N sc [] []
 | own {x M fm}:FmOk N sc M fm→FmOk N sc (x::M) (none::fm)
 | free {x M fm} (j:Nat):N[j]? =some x→sc.names.lookup x=some .free→FmOk N sc M fm→FmOk N sc (x::M) (some j::fm)
noncomputable def fmSt (fm:List (Option Nat)) (σ:St):St:=fm.map fun o=>match o with | none=>none | some j=>(σ[j]?).join
theorem FmOk.len {N:List Str} {sc:Scope}:∀ {M:List Str} {fm:List (Option Nat)},FmOk N sc M fm→fm.length=M.length
 | _,_,.nil=>rfl
 | _,_,.own h=>by simp [h.len]
 | _,_,.free _ _ _ h=>by simp [h.len]
theorem FmOk.get {N:List Str} {sc:Scope} {σ:St}:∀ {M:List Str} {fm:List (Option Nat)} {i:Nat} {x:Str} {v:V},FmOk N sc M fm→M[i]? =some x→(fmSt fm σ)[i]? =some (some v)→∃ (j:Nat),N[j]? =some x∧sc.names.lookup x=some .free∧σ[j]? =some (some v)
 | _,_,i,x,v,.nil,e,_=>by simp at e
 | _,_,0,x,v,.own h,e,q=>by simp [fmSt] at q
 | _,_,0,x,v,.free j a b h,e,q=>by
  simp at e
  subst e
  refine ⟨j,a,b,?_⟩
  have q':(σ[j]?).join=some v:=by simpa [fmSt] using q
  cases hs:σ[j]? with
  | none=>rw [hs] at q';cases q'
  | some o=>
   rw [hs] at q'
   have:o=some v:=q'
   rw [this]
 | _,_,i + 1,x,v,.own h,e,q=>h.get (i:=i) (by simpa using e) (by simpa [fmSt] using q)
 | _,_,i + 1,x,v,.free j a b h,e,q=>h.get (i:=i) (by simpa using e) (by simpa [fmSt] using q)
section
variable {X:Cx} {pins:List (Addr×Obj)} {σ:St} {H:Hp} {s:Shared} {sc:Scope} {M:List Str} {C:Addr} {fp:List Addr}
theorem blk_ok (I:Inv X pins σ H s) (hf:∀ b∈fp,FpOk X pins H b) (hl:∀ b∈fp,b < s.heap.objs.size) (hC:s.heap.objs.size≤C) (fr:FrOk X.env sc.names) (hk:sc.kind=.function):(blk X sc M C fp s H).Ok where
 mod:=I.ok.mod
 kind:=hk
 glob:=I.ok.glob
 blt:=I.ok.blt
 above:=hC
 inj:=fun x y c e1 e2=>I.ok.inj x y c (closL_sub (fun _ _ z=>by cases z) x c e1) (closL_sub (fun _ _ z=>by cases z) y c e2)
 has:=fun x h=>by
  have hm:(x,NameKind.free)∈sc.names:=relabel_back (env:=X.env) fr.nocell h
  exact closL_has (.inr ⟨hm,I.ok.has x (fr.free hm)⟩)
 cab:=fun x c h _=>by cases h
 hd:=I.ok.hd
 frames:=I.ok.frames
 stk:=.inl rfl
 exf:=fun b hb=>⟨Nat.ne_of_lt (Nat.lt_of_lt_of_le (hl b hb) hC),fun x c e=>(hf b hb).2.2.2.2.1 x c (closL_sub (fun _ _ z=>by cases z) x c e)⟩
 bs:=I.bs
 bsz:=Nat.le_trans I.ok.bsz I.sz
 noex:=fun b o e hb=>by
  rcases (hf b hb).2.2.2.1 with z | z
  ·exact I.ok.noex b o e z
  ·exact absurd (Nat.lt_of_lt_of_le (Heap.lt_size (I.ok.bs b o e).1) z) (Nat.lt_irrefl _)
 exfs:=fun b hb hs=>by
  rcases List.mem_cons.mp (I.stkSub b hs) with e | e
  ·exact (hf b hb).2.1 e
  ·exact (hf b hb).2.2.1 e
 funs:=I.stack
 frf:=I.stkFree
theorem blk_in {h₁:Heap} {t:Nat} {pl:List (Addr×Obj)} {m:Str→Option Value} {fm:List (Option Nat)} (I:Inv X pins σ H s) (hf:∀ b∈fp,FpOk X pins H b) (hl:∀ b∈fp,b < s.heap.objs.size) (hC:s.heap.objs.size≤C) (fr:FrOk X.env sc.names) (hk:sc.kind=.function)
  (hfm:FmOk X.N sc M fm) (k:∀ b o,s.heap.get? b=some o→h₁.get? b=some o) (hn:h₁.Ns C m)
  (hp:∀ p∈pl,h₁.get? p.1=some p.2∧H p.1=none∧p.1≠C∧p.1∉frs X.stack∧∀ v,p.2.data≠.cell v):Inv (blk X sc M C fp s H) pl (fmSt fm σ) H { s with heap:=h₁,toks:=t } where
 ok:=blk_ok I hf hl hC fr hk
 os:=rfl
 bare:=I.bare
 base:=Un.kept k
 loc:=⟨m,hn,fun i x v e1 e2 e3=>by
  obtain ⟨j,a,b,c⟩:=hfm.get e1 e2
  obtain ⟨m',hn',hl'⟩:=I.loc
  have hm:=lookup_mem b
  have hk':=fr.free hm
  have vis:Vis X.env.scope x:=by
   rcases hk' with z | z
   ·exact .inr (.inl z)
   ·exact .inr (.inr z)
  obtain ⟨u,r,l⟩:=hl' j x v a c vis
  refine ⟨u,r,.inr ⟨relabel_free b,?_⟩⟩
  rcases l with ⟨z,_⟩ | ⟨_,cc,hcc,hcell⟩
  ·rcases hk' with y | y <;> (rw [z] at y;cases y)
  ·obtain ⟨c2,e2⟩:=closL_has (env:=X.env) (ns:=sc.names) (cs:=[]) (x:=x) (.inr ⟨hm,cc,hcc⟩)
   have e3:=closL_sub (fun _ _ z=>by cases z) x c2 e2
   rw [hcc] at e3
   cases e3
   refine ⟨cc,e2,?_⟩
   obtain ⟨o,ho,hd⟩:=hcell
   exact ⟨o,k _ _ ho,hd⟩⟩
 cell:=fun x c e=>by
  obtain ⟨v,o,ho,hd⟩:=I.cell x c (closL_sub (fun _ _ z=>by cases z) x c e)
  exact ⟨v,o,k _ _ ho,hd⟩
 free:=I.hok.fresh hC
 freeC:=fun x c e=>I.freeC x c (closL_sub (fun _ _ z=>by cases z) x c e)
 pin:=fun p hp'=>by
  have hp':p∈pl:=by simpa [blk] using hp'
  exact hp p hp'
 hok:=I.hok.kept k
 len:=by simp [fmSt,hfm.len,blk]
end
end L2
namespace L2
open PySem PySem.Spec PyProof.Rows
theorem compLoop_any {prog:Program} {w:World} {A:Around} {R:Result→Shared→Prop} {s:Shared} {elt target iter:Expr} {ifs:List Expr} {scope:Scope} {pos:Pos} {it acc:Value} {env:Env} (I:Nat→Shared→Prop)
  (turn:∀ n s,I n s→wpAny (model prog w) A (pyNext it) (fun r s₁=>match r with
   | none=>R (.ok .next) s₁
   | some v=>wpAny (model prog w) A (letOwnedTupleGo target it v) (fun _ s₁'=>wpAny (model prog w) A (assign target env v) (fun _ s₂=>
     wpAny (model prog w) A (forIn ifs true fun c r=>if r=true then do let ok ←isTrue c env (eval c env);pure (ForInStep.yield ok) else pure (ForInStep.yield r)) (fun ok s₃=>
      if ok=true then wpAny (model prog w) A (eval elt env) (fun x s₄=>
       wpAny (model prog w) A (call (.builtin "list.append") [acc,x]) (fun _ s₅=>∃ m,m < n∧I m s₅) (fun _ _=>False) s₄) (fun _ _=>False) s₃
      else ∃ m,m < n∧I m s₃) (fun _ _=>False) s₂) (fun _ _=>False) s₁') (fun _ _=>False) s₁) (fun _ _=>False) s)
  (n:Nat) (h:I n s):
  codeAny (model prog w) A (.compLoop (.ListComp elt [⟨target,iter,ifs,0⟩] scope pos) 0 it acc env) R s:=by
 refine codeAny_loop rfl I (fun n s hI=>?_) n h
 show wpAny _ A ((compTurn (.ListComp elt [⟨target,iter,ifs,0⟩] scope pos) 0 it acc env).onRaise (fun x=>do noteFrame x env;theTreesLotGoes x)) _ _ s
 refine wpAny_noted ?_
 rw [compTurn_list]
 refine wpAny_bind (wpAny_standAt (wpAny_bind (wpAny_mono (turn n s hI) (fun r s₁ h₁=>?_) fun _ _ h'=>h'.elim)))
 cases r with
 | none=>exact wpAny_pure h₁
 | some v=>
  refine wpAny_bind (wpAny_mono h₁ (fun _ s₁' h₁'=>?_) fun _ _ h'=>h'.elim)
  refine wpAny_bind (wpAny_mono h₁' (fun _ s₂ h₂=>wpAny_bind (wpAny_mono h₂ (fun ok s₃ h₃=>?_) fun _ _ h'=>h'.elim)) fun _ _ h'=>h'.elim)
  cases ok with
  | false=>exact wpAny_pure ⟨rfl,h₃⟩
  | true=>
   exact wpAny_bind (wpAny_bind (wpAny_mono h₃ (fun x s₄ h₄=>wpAny_bind (wpAny_mono h₄ (fun _ s₅ h₅=>wpAny_pure (wpAny_pure ⟨rfl,h₅⟩)) fun _ _ h'=>h'.elim)) fun _ _ h'=>h'.elim))
noncomputable def PIf (X:Cx) (ifs:List Expr) (t:TT):Prop:=
 ∀ (pins:List (Addr×Obj)) (s:Shared) (σ:St) (H:Hp) (Q:Bool→Hp→Prop),Inv X pins σ H s→t σ H Q→
  wpAny (model X.prog X.w) X.A (forIn ifs true fun c r=>if r=true then do let ok ←isTrue c X.env (eval c X.env);pure (ForInStep.yield ok) else pure (ForInStep.yield r)) (TP X pins σ Q) X.xe s
noncomputable def tYes:TT:=fun _ H Q=>Q true H
theorem pif_nil {X:Cx}:PIf X [] tYes:=fun pins s σ H Q I h=>wpAny_tests_nil ⟨H,I,h⟩
theorem pif_one {X:Cx} {c:Expr} {t:TT} (h:PT X c t):PIf X [c] t:=fun pins s σ H Q I hw=>wpAny_tests_one (h pins s σ H Q I hw)
noncomputable def GK (fm:List (Option Nat)) (g:TG):Prop:=∀ (x:V) (σ:St) (H:Hp) (Q:St→Hp→Prop),g x σ H Q→g x σ H fun σ' H'=>Q σ' H'∧∀ (i j:Nat),fm[i]? =some (some j)→σ'[i]? =σ[i]?
theorem gk_name {fm:List (Option Nat)} {i:Nat} (h:fm[i]? =some none):GK fm (gName i):=fun x σ H Q q=>⟨q,fun i' j e=>by
 by_cases hi:i=i'
 ·subst hi;rw [h] at e;cases e
 ·exact List.getElem?_set_ne hi⟩
theorem fm_slot {fm:List (Option Nat)} {σ:St} {i:Nat} {v:V} (e:(fmSt fm σ)[i]? =some (some v)):∃ j,fm[i]? =some (some j):=by
 unfold fmSt at e
 rw [List.getElem?_map] at e
 cases h:fm[i]? with
 | none=>rw [h] at e;cases e
 | some o=>
  cases o with
  | none=>rw [h] at e;cases e
  | some j=>exact ⟨j,rfl⟩
noncomputable def tLC (wi:TI) (fm:List (Option Nat)) (g:TG) (tt:TT) (te:TE):TE:=fun σ H Q=>wi σ H fun J H1=>∃ W:Nat→Nat→List V→Hp→Prop,(∃ m,W 0 m [] H1)∧∀ i m ys H,W i m ys H→
 (J.stop i H∧∀ p,H p=none→Q (.ref p) (upd H p (.lst ys)))∨
 (J.go i H∧ys.length < sizeLine∧∃ N:List V→Hp→Prop,(∀ ys' H',N ys' H'→∃ m',m' < m∧W (i + 1) m' ys' H')∧
  ∀ x H',J.yld i H x H'→g x (fmSt fm σ) H' fun σ2 H2=>tt σ2 H2 fun ok H3=>if ok=true then te σ2 H3 fun v H4=>N (ys++[v]) H4 else N ys H3)
section
variable {X:Cx} {pins:List (Addr×Obj)} {σ:St} {sc:Scope} {M:List Str} {fm:List (Option Nat)} {tg iter elt:Expr} {ifs:List Expr} {pos:Pos} {g:TG} {tt:TT} {te:TE}
theorem comp_core {it:Addr} {fp:List Addr} {tn:Nat→Heap→Prop} {J:It} {H2:Hp} {s2:Shared} {E:Value→Shared→Prop} {RR:Value→Addr→Result→Shared→Prop} {Q:VK} (hc:X.calm=true)
  (I2:Inv X pins σ H2 s2) (T:Turn X.prog X.w X.K tg J fp it tn) (st:tn 0 s2.heap) (hf:∀ b∈fp,FpOk X pins H2 b) (fr:FrOk X.env sc.names) (hk:sc.kind=.function) (hfm:FmOk X.N sc M fm) (hgk:GK fm g)
  (hB:∀ C fp s H,PG (blk X sc M C fp s H) tg g∧PIf (blk X sc M C fp s H) ifs tt∧PE (blk X sc M C fp s H) elt te)
  (W:Nat→Nat→List V→Hp→Prop) (hw:∃ m,W 0 m [] H2)
  (turn:∀ i m ys H,W i m ys H→(J.stop i H∧∀ p,H p=none→Q (.ref p) (upd H p (.lst ys)))∨
   (J.go i H∧ys.length < sizeLine∧∃ N:List V→Hp→Prop,(∀ ys' H',N ys' H'→∃ m',m' < m∧W (i + 1) m' ys' H')∧
    ∀ x H',J.yld i H x H'→g x (fmSt fm σ) H' fun σ2 H2=>tt σ2 H2 fun ok H3=>if ok=true then te σ2 H3 fun v H4=>N (ys++[v]) H4 else N ys H3))
  (hRR:∀ D C H' m s',s'.heap.Ns C m→Inv X pins σ H' s'→FpOk X pins H' C→Q (.ref D) H'→RR (.ref D) C (.ok .next) s'):
  wpAny (model X.prog X.w) X.A (newList []) (fun acc s₃=>wpAny (model X.prog X.w) X.A (newFunctionEnv sc X.env.globals (closL X.env sc.names []) [] X.env.qual none .none (some X.env)) (fun cenv s₄=>
   codeAny (model X.prog X.w) X.A (.compStart (.ListComp elt [⟨tg,iter,ifs,0⟩] sc pos) 0 (.ref it) acc { cenv with scope:=relabel sc X.env }) (RR acc cenv.locals) s₄) E s₃) E s2:=by
 have hl:∀ b∈fp,b < s2.heap.objs.size:=fun b hb=>by
  obtain ⟨o,e,_⟩:=T.obj _ _ st b hb
  exact Heap.lt_size e
 refine wpAny_newObj_type (wpAny_newFunctionEnv fr.nocell (by intro y hy;simp at hy) (fun h₁ hns₁ hsb₁=>?_) hk)
 dsimp only at hns₁ hsb₁ ⊢
 generalize hH2:s2.heap.push { cls:=.type "list",dict:=none,data:=.seq ([]:List Value).toArray }=G2 at hns₁ hsb₁ ⊢
 have hC:G2.objs.size=s2.heap.objs.size + 1:=by rw [←hH2,Heap.size_push]
 have hCle:s2.heap.objs.size≤G2.objs.size:=by rw [hC];exact Nat.le_succ _
 have hDC:s2.heap.objs.size≠G2.objs.size:=by rw [hC];exact Nat.ne_of_lt (Nat.lt_succ_self _)
 have below:∀ b,b < s2.heap.objs.size→b≠G2.objs.size:=fun b hb=>Nat.ne_of_lt (Nat.lt_of_lt_of_le hb hCle)
 have old:∀ b o,s2.heap.get? b=some o→h₁.get? b=some o:=fun b o e=>hsb₁.extBut b o (below b (Heap.lt_size e)) (Heap.get?_push_of_some _ (hH2▸Heap.get?_push_of_some _ e))
 have hacc:h₁.PlainList s2.heap.objs.size #[]:=⟨_,hsb₁.extBut _ _ hDC (Heap.get?_push_of_some _ (hH2▸Heap.get?_push_size _ rfl))⟩
 have hst₁:tn 0 h₁:=T.keep _ _ _ st fun b _ o e=>old b o e
 obtain ⟨B1,B2,B3⟩:=hB G2.objs.size fp s2 H2
 have hDfs:s2.heap.objs.size∉frs X.stack:=fun hb=>by
  rcases List.mem_cons.mp (I2.stkSub _ hb) with e | e
  ·exact absurd I2.lt (by rw [←e];exact Nat.lt_irrefl _)
  ·exact I2.nofs (Nat.le_refl _) e
 have hDf:s2.heap.objs.size∉fp:=fun hb=>Nat.lt_irrefl _ (hl _ hb)
 have fpB:∀ {pl:List (Addr×Obj)} {H':Hp},(∀ b∈fp,H' b=none)→(∀ p∈pl,p.1∉fp)→∀ b∈fp,FpOk (blk X sc M G2.objs.size fp s2 H2) pl H' b:=fun {pl H'} hn hp b hb=>by
  refine ⟨hn b hb,below b (hl b hb),fun z=>?_,.inl hb,fun x c e=>(hf b hb).2.2.2.2.1 x c (closL_sub (fun _ _ z=>by cases z) x c e),fun p hp' z=>?_⟩
  ·rcases List.mem_cons.mp (I2.stkSub b z) with e | e
   ·exact (hf b hb).2.1 e
   ·exact (hf b hb).2.2.1 e
  ·have hp'':p∈pl:=by simpa [blk] using hp'
   exact hp p hp'' (z▸hb)
 have loop:∀ s₃:Shared,s₃={ s2 with heap:=h₁,toks:=s2.toks + ([]:List (Str×Value)).length }→
   codeAny (model X.prog X.w) X.A (.compLoop (.ListComp elt [⟨tg,iter,ifs,0⟩] sc pos) 0 (.ref it) (.ref s2.heap.objs.size) (compEnvC sc (closL X.env sc.names []) G2.objs.size X.env)) (RR (.ref s2.heap.objs.size) G2.objs.size) s₃:=by
  rintro s₃ rfl
  obtain ⟨m0,w0⟩:=hw
  refine compLoop_any (fun n s'=>∃ (i:Nat) (ys:List V) (its:List Value) (k:Nat) (H':Hp),Inv (blk X sc M G2.objs.size fp s2 H2) [(s2.heap.objs.size,{ cls:=.type "list",data:=.seq its.toArray k })] (fmSt fm σ) H' s'∧Vals ys its∧ys.length≤sizeLine∧
   tn i s'.heap∧(∀ b∈fp,H' b=none)∧W i n ys H') ?_ m0 ?_
  ·rintro n s' ⟨i,ys,its,k,H',I',rv,hz,st',fn',w'⟩
   have np:∀ p∈[((s2.heap.objs.size,{ cls:=.type "list",data:=.seq its.toArray k }):Addr×Obj)],p.1∉fp:=fun p hp=>by
    rcases List.mem_singleton.mp hp with rfl
    exact hDf
   rcases turn i n ys H' w' with ⟨stop,qn⟩ | ⟨go,hz',N,hN,step⟩
   ·refine thn (T.done (blk X sc M G2.objs.size fp s2 H2) rfl rfl rfl hc i _ s' _ H' _ I' (fpB fn' np) st' stop) fun r s4 ⟨hr,I4⟩=>?_
    subst hr
    obtain ⟨eD,nD,_,_,_⟩:=I4.pin _ (List.mem_append_right _ List.mem_cons_self)
    obtain ⟨m4,hn4,_⟩:=I4.loc
    have u4:Un (frs X.stack) fp H2 H' s2.heap s4.heap:=I4.base
    have eD':s4.heap.get? s2.heap.objs.size=some { cls:=.type "list",data:=.seq its.toArray k }:=eD
    have nD':H' s2.heap.objs.size=none:=nD
    have ne:∀ b,b < s2.heap.objs.size→b≠s2.heap.objs.size:=fun b hb=>Nat.ne_of_lt hb
    have hok:HOk X.prog X.w (upd H' s2.heap.objs.size (.lst ys)) s4.heap:=fun b ob e=>by
     by_cases hb:b=s2.heap.objs.size
     ·subst hb
      rw [upd_same] at e
      cases e
      exact ⟨hz,its,k,rv,eD'⟩
     ·rw [upd_ne hb] at e
      exact (I4.hok b ob e).stay (fun _ _ _ q=>q) (fun c q=>by rw [upd_ne (ne_of_none q nD')];exact q) fun c xs q=>by rw [upd_ne (ne_of_none q nD')];exact q
    have u5:Un (frs X.stack) fp H2 (upd H' s2.heap.objs.size (.lst ys)) s2.heap s4.heap:=
     ⟨u4.keep,u4.slot,fun b o e n hx=>by rw [upd_ne (ne b (Heap.lt_size e))];exact u4.free b o e n hx,u4.there,
      fun b xs e=>by have:=u4.tups b xs e;rw [upd_ne (ne_of_none this nD')];exact this,
      fun b o u e=>by have:=u4.frzs b o u e;rw [upd_ne (ne_of_none this nD')];exact this,
      fun b ps e=>by obtain ⟨mo,this⟩:=u4.tbls b ps e;exact ⟨mo,by rw [upd_ne (ne_of_none this nD')];exact this⟩⟩
    have I5:Inv X pins σ (upd H' s2.heap.objs.size (.lst ys)) s4:=
     I2.call' I4.os u5 hok I4.bare fun b hb=>⟨(hf b hb).2.2.2.1,(hf b hb).2.1,(hf b hb).2.2.2.2.1,(hf b hb).2.2.2.2.2⟩
    refine hRR _ _ _ m4 s4 hn4 I5 (I2.fpOk hCle ?_) (qn _ nD')
    rw [upd_ne (Ne.symm hDC)]
    exact I4.free
   ·refine thn (T.item (blk X sc M G2.objs.size fp s2 H2) rfl rfl rfl hc i _ s' _ H' _ I' (fpB fn' np) st' go) fun r s4 ⟨u,hr,h4⟩=>?_
    subst hr
    refine thn h4 fun _ s5 ⟨x,H5,I5,r5,y5,st5,fr5⟩=>?_
    have I5':=I5.pinned (fpB fr5 np) (T.obj _ _ st5)
    refine thn (B1 _ s5 _ H5 x u _ I5' r5 (hgk _ _ _ _ (step x H5 y5))) fun _ s6 ⟨σ6,H6,I6,q6,k6⟩=>?_
    refine thn (B2 _ s6 σ6 H6 _ I6 q6) fun ok s7 ⟨H7,I7,q7⟩=>?_
    have len6:(fmSt fm σ).length=σ6.length:=I'.len.trans I6.len.symm
    have wk:∀ (j:Nat) (v:V),(fmSt fm σ)[j]? =some (some v)→σ6[j]? =some (some v):=fun j v e=>by
     obtain ⟨j',e'⟩:=fm_slot e
     rw [k6 j j' e']
     exact e
    have back:∀ {σ8:St} {H8:Hp} {s8:Shared},Inv (blk X sc M G2.objs.size fp s2 H2) ([(s2.heap.objs.size,{ cls:=.type "list",data:=.seq its.toArray k })]++pinsAt fp s5.heap) σ8 H8 s8→tn (i + 1) s8.heap∧∀ b∈fp,H8 b=none:=fun {σ8 H8 s8} I8=>by
     refine ⟨T.keep _ _ _ st5 fun b hb o e=>(I8.pin (b,o) (List.mem_append_right _ (List.mem_append_right _ (mem_pinsAt hb e)))).1,fun b hb=>?_⟩
     obtain ⟨o,e,d⟩:=T.obj _ _ st5 b hb
     exact (I8.pin (b,o) (List.mem_append_right _ (List.mem_append_right _ (mem_pinsAt hb e)))).2.1
    cases ok with
    | false=>
     rw [if_neg Bool.false_ne_true] at q7
     rw [if_neg Bool.false_ne_true]
     obtain ⟨m',hm,w7⟩:=hN ys H7 q7
     exact ⟨m',hm,i + 1,ys,its,k,H7,(I7.weak len6 wk).unpinned,rv,hz,(back I7).1,(back I7).2,w7⟩
    | true=>
     rw [if_pos rfl] at q7
     rw [if_pos rfl]
     refine thn (B3 _ s7 σ6 H7 _ I7 q7) fun y s8 ⟨v,H8,I8,r8,q8⟩=>?_
     obtain ⟨st8,fr8⟩:=back I8
     obtain ⟨m',hm,w8⟩:=hN _ H8 q8
     obtain ⟨eD,nD,_,_,_⟩:=I8.pin _ (List.mem_append_right _ (List.mem_append_left _ List.mem_cons_self))
     have hits:its.toArray.size=ys.length:=by simp [rv.length]
     refine wpAny_list_append_plain (items:=its.toArray) ⟨k,eD⟩ (fun h' hpl hsb=>?_) (by rw [hits];exact hz)
     obtain ⟨k',ek⟩:=hpl
     have ek':h'.get? s2.heap.objs.size=some { cls:=.type "list",data:=.seq (its++[y]).toArray k' }:=by simpa using ek
     have np8:∀ p∈pinsAt fp s5.heap,p.1≠s2.heap.objs.size:=fun p hp z=>hDf (z▸(of_pinsAt hp).1)
     have I9:Inv (blk X sc M G2.objs.size fp s2 H2) (pinsAt fp s5.heap) σ6 H8 s8:=I8.pins_of fun p hp=>I8.pin p (List.mem_append_right _ (List.mem_append_right _ hp))
     have I10:Inv (blk X sc M G2.objs.size fp s2 H2) (pinsAt fp s5.heap) σ6 H8 { s8 with heap:=h',toks:=s8.toks }:=
      I9.turned (it:=s2.heap.objs.size) (fun b o hb e=>hsb.extBut b o hb e) nD hDC (.inr (Nat.le_refl _)) (fun x c e z=>by
       obtain ⟨v',q⟩:=I2.cell x c (closL_sub (fun _ _ z=>by cases z) x c e)
       exact absurd (show c < s2.heap.objs.size from q.lt) (by rw [z];exact Nat.lt_irrefl _)) fun p hp=>np8 p (by simpa [blk] using hp)
     have I11:Inv (blk X sc M G2.objs.size fp s2 H2) [(s2.heap.objs.size,{ cls:=.type "list",data:=.seq (its++[y]).toArray k' })] (fmSt fm σ) H8 { s8 with heap:=h',toks:=s8.toks }:=
      (I10.weak len6 wk).pins_of fun p hp=>by
       rcases List.mem_singleton.mp hp with rfl
       exact ⟨ek',nD,hDC,hDfs,fun _ z=>nomatch z⟩
     refine ⟨m',hm,i + 1,ys++[v],its++[y],k',H8,I11,rv.append (.cons r8 .nil),?_,?_,fr8,w8⟩
     ·rw [List.length_append];exact hz'
     ·exact T.keep _ _ _ st8 fun b hb o e=>hsb.extBut b o (fun z=>hDf (z▸hb)) e
  ·obtain ⟨k0,e0⟩:=hacc
   refine ⟨0,[],[],k0,H2,blk_in I2 hf hl hCle fr hk hfm old hns₁ fun p hp=>?_,.nil,Nat.zero_le _,hst₁,fun b hb=>(hf b hb).1,w0⟩
   rcases List.mem_singleton.mp hp with rfl
   exact ⟨e0,I2.hok.fresh (Nat.le_refl _),hDC,hDfs,fun _ z=>nomatch z⟩
 exact codeAny_compStart_list (loop _ rfl) (T.self _ 0 _ _ _ hst₁ (loop _ rfl))
end
end L2
namespace L2
open PySem PySem.Spec PyProof.Rows
section
variable {X:Cx} {sc:Scope} {M:List Str} {fm:List (Option Nat)} {tg iter elt:Expr} {ifs:List Expr} {pos:Pos} {g:TG} {tt:TT} {te:TE} {wi:TI}
theorem Inv.letGo {pins:List (Addr×Obj)} {σ:St} {H:Hp} {s:Shared} {C:Addr} {h':Heap} (I:Inv X pins σ H s) (f:FpOk X pins H C) (hs:Heap.SameBut C s.heap h'):Inv X pins σ H { s with heap:=h' }:=
 I.turned (t':=s.toks) (it:=C) (fun b o hb e=>hs.extBut b o hb e) f.1 f.2.1 f.2.2.2.1 f.2.2.2.2.1 f.2.2.2.2.2
theorem pe_lc (hc:X.calm=true) (fr:FrOk X.env sc.names) (hfm:FmOk X.N sc M fm) (hgk:GK fm g) (hk:sc.kind=.function) (hnm:∀ y∈sc.names,y.2=.local→sc.names.lookup y.1=some .local) (hi:PI X tg iter wi)
  (hB:∀ C fp s H,PG (blk X sc M C fp s H) tg g∧PIf (blk X sc M C fp s H) ifs tt∧PE (blk X sc M C fp s H) elt te) (hs:∀ x,foldedSetIterable iter X.env x=pure x:=by intro _;rfl):
  PE X (.ListComp elt [⟨tg,iter,ifs,0⟩] sc pos) (tLC wi fm g tt te):=by
 intro pins s σ H Q I h
 rw [eval_ListComp]
 have hclos:=closure_eq (env:=X.env) (sc:=sc) fun n hn=>I.ok.has n (fr.free hn)
 refine wpAny_comprehension_free (use:=none) rfl hs hclos hk hnm (thn (hi pins s σ H _ I h) fun v s1 h1=>thn h1 fun itv s2 h2=>?_)
 obtain ⟨it,fp,tn,J,H2,e,I2,T,st2,f2,W,w0,turn⟩:=h2
 subst e
 refine comp_core (Q:=Q) (RR:=fun acc C=>compPost (model X.prog X.w) X.A X.xe none (EP X pins σ Q) acc C) hc I2 T st2 f2 fr hk hfm hgk hB W w0 turn ?_
 intro D C H' m s' hn I' f' q
 exact ⟨m,hn,fun h' hs'=>⟨.ref D,H',I'.letGo f' hs',rfl,q⟩⟩
theorem ps_set_lc {i:Nat} {x:Str} {px pst:Pos} (hN:X.N.Nodup) (hix:X.N[i]? =some x) (hx:X.env.kindOf x=some .local) (hsw:swapsWith (.ListComp elt [⟨tg,iter,ifs,0⟩] sc pos) (some (.Name x px)) pst.line X.env=pure true)
  (hc:X.calm=true) (fr:FrOk X.env sc.names) (hfm:FmOk X.N sc M fm) (hgk:GK fm g) (hk:sc.kind=.function) (hnm:∀ y∈sc.names,y.2=.local→sc.names.lookup y.1=some .local) (hi:PI X tg iter wi)
  (hB:∀ C fp s H,PG (blk X sc M C fp s H) tg g∧PIf (blk X sc M C fp s H) ifs tt∧PE (blk X sc M C fp s H) elt te) (hs:∀ x,foldedSetIterable iter X.env x=pure x:=by intro _;rfl):
  PS X (.Assign [.Name x px] (.ListComp elt [⟨tg,iter,ifs,0⟩] sc pos) pst) (tAsg (tLC wi fm g tt te) (gName i)):=by
 intro pins s σ H D I h
 rw [exec_Assign_Name_used _ _ _ _ hsw]
 refine wpAny_bind (wpAny_standAt (wpAny_bind ?_))
 show wpAny _ _ (do let _ ←comprehension (.ListComp elt [⟨tg,iter,ifs,0⟩] sc pos) sc X.env _ (newList []) false (eval iter X.env) (some (assign (.Name x px) X.env))) _ _ s
 have hclos:=closure_eq (env:=X.env) (sc:=sc) fun n hn=>I.ok.has n (fr.free hn)
 refine wpAny_bind (wpAny_mono (wpAny_comprehension_free (use:=some (assign (.Name x px) X.env)) (Q:=fun _ s'=>SP X pins D .next s') rfl hs hclos hk hnm (thn (hi pins s σ H _ I h) fun v s1 h1=>thn h1 fun itv s2 h2=>?_))
  (fun _ s' hq=>wpAny_pure (wpAny_pure hq)) fun _ _ e=>e)
 obtain ⟨it,fp,tn,J,H2,e,I2,T,st2,f2,W,w0,turn⟩:=h2
 subst e
 refine comp_core (Q:=fun v H'=>gName i v σ H' D.nx) (RR:=fun acc C=>compPost (model X.prog X.w) X.A X.xe (some (assign (.Name x px) X.env)) (fun _ s'=>SP X pins D .next s') acc C) hc I2 T st2 f2 fr hk hfm hgk hB W w0 turn ?_
 intro Da C H' m s' hn I' f' q
 show wpAny _ _ (assign (.Name x px) X.env (.ref Da)) _ _ s'
 refine wpAny_assign_Name (store_ok2 (v:=.ref Da) I' hN hix (.inl hx) rfl (fun s2 I2' hs2=>?_) (.inr hx))
 obtain ⟨a,hsb,ha⟩:=hs2
 have hCa:C≠a:=by
  rcases ha with rfl | ha
  ·exact f'.2.1
  ·exact (f'.2.2.2.2.1 x a ha).symm
 exact ⟨m,hn.sameBut hsb hCa,fun h' hs'=>⟨_,H',I2'.letGo f' hs',q⟩⟩
end
end L2
namespace L2
open PySem PySem.Spec PyProof.Rows
mutual
inductive Is (H:Hp):V→PyData→Prop
 | non:Is H .non .none
 | bl (b:Bool):Is H (.bl b) (.bool b)
 | int (i:Int):Is H (.int i) (.int i)
 | str (x:Str):Is H (.str x) (.str x)
 | tup {a:Addr} {xs:List V} {ds:List PyData}:H a=some (.tup xs)→IsAll H xs ds→Is H (.ref a) (.tuple ds)
 | lst {a:Addr} {xs:List V} {ds:List PyData}:Rd H a (.lst xs)→IsAll H xs ds→Is H (.ref a) (.list ds)
inductive IsAll (H:Hp):List V→List PyData→Prop
 | nil:IsAll H [] []
 | cons {v:V} {d:PyData} {vs:List V} {ds:List PyData}:Is H v d→IsAll H vs ds→IsAll H (v::vs) (d::ds)
end
theorem IsAll.length {H:Hp}:∀ {vs:List V} {ds:List PyData},IsAll H vs ds→vs.length=ds.length
 | _,_,.nil=>rfl
 | _,_,.cons _ t=>by simp [t.length]
theorem IsAll.get {H:Hp}:∀ {vs:List V} {ds:List PyData} {i:Nat} {d:PyData},IsAll H vs ds→ds[i]? =some d→∃ v,vs[i]? =some v∧Is H v d
 | _,_,_,_,.nil,e=>by simp at e
 | _,_,0,_,.cons h t,e=>by simp at e;subst e;exact ⟨_,rfl,h⟩
 | _,_,i + 1,d,.cons h t,e=>by
  obtain ⟨v,a,b⟩:=t.get (i:=i) (d:=d) (by simpa using e)
  exact ⟨v,by simpa using a,b⟩
theorem IsAll.get' {H:Hp}:∀ {vs:List V} {ds:List PyData} {i:Nat} {v:V},IsAll H vs ds→vs[i]? =some v→∃ d,ds[i]? =some d∧Is H v d
 | _,_,_,_,.nil,e=>by simp at e
 | _,_,0,_,.cons h t,e=>by simp at e;subst e;exact ⟨_,rfl,h⟩
 | _,_,i + 1,d,.cons h t,e=>by
  obtain ⟨v,a,b⟩:=t.get' (i:=i) (v:=d) (by simpa using e)
  exact ⟨v,by simpa using a,b⟩
theorem IsAll.append {H:Hp}:∀ {vs:List V} {ds:List PyData} {us:List V} {es:List PyData},IsAll H vs ds→IsAll H us es→IsAll H (vs++us) (ds++es)
 | _,_,_,_,.nil,s=>s
 | _,_,_,_,.cons h t,s=>.cons h (t.append s)
theorem IsAll.snoc {H:Hp} {vs:List V} {ds:List PyData} {v:V} {d:PyData} (h:IsAll H vs ds) (q:Is H v d):IsAll H (vs++[v]) (ds++[d]):=h.append (.cons q .nil)
theorem IsAll.take {H:Hp}:∀ {vs:List V} {ds:List PyData} (n:Nat),IsAll H vs ds→IsAll H (vs.take n) (ds.take n)
 | _,_,0,_=>.nil
 | _,_,_ + 1,.nil=>.nil
 | _,_,n + 1,.cons h t=>.cons h (t.take n)
theorem IsAll.drop {H:Hp}:∀ {vs:List V} {ds:List PyData} (n:Nat),IsAll H vs ds→IsAll H (vs.drop n) (ds.drop n)
 | _,_,0,h=>h
 | _,_,_ + 1,.nil=>.nil
 | _,_,n + 1,.cons h t=>t.drop n
theorem IsAll.ints {H:Hp}:∀ ns:List Int,IsAll H (ns.map V.int) (ns.map PyData.int)
 | []=>.nil
 | n::ns=>.cons (.int n) (IsAll.ints ns)
mutual
theorem Is.mono {H H':Hp} (ht:∀ a xs,H a=some (.tup xs)→H' a=some (.tup xs)) (hl:∀ a xs,Rd H a (.lst xs)→Rd H' a (.lst xs)):∀ {v:V} {d:PyData},Is H v d→Is H' v d
 | _,_,.non=>.non
 | _,_,.bl b=>.bl b
 | _,_,.int i=>.int i
 | _,_,.str x=>.str x
 | _,_,.tup e h=>.tup (ht _ _ e) (IsAll.mono ht hl h)
 | _,_,.lst e h=>.lst (hl _ _ e) (IsAll.mono ht hl h)
theorem IsAll.mono {H H':Hp} (ht:∀ a xs,H a=some (.tup xs)→H' a=some (.tup xs)) (hl:∀ a xs,Rd H a (.lst xs)→Rd H' a (.lst xs)):∀ {vs:List V} {ds:List PyData},IsAll H vs ds→IsAll H' vs ds
 | _,_,.nil=>.nil
 | _,_,.cons h t=>.cons (Is.mono ht hl h) (IsAll.mono ht hl t)
end
mutual
noncomputable def noL:PyData→Bool
 | .none | .bool _ | .int _ | .str _=>true
 | .tuple xs=>noLs xs
 | .list _ | .dict _=>false
noncomputable def noLs:List PyData→Bool
 | []=>true
 | x::xs=>noL x&&noLs xs
end
mutual
theorem Is.tmono {H H':Hp} (ht:∀ a xs,H a=some (.tup xs)→H' a=some (.tup xs)):∀ {v:V} {d:PyData},noL d=true→Is H v d→Is H' v d
 | _,_,_,.non=>.non
 | _,_,_,.bl b=>.bl b
 | _,_,_,.int i=>.int i
 | _,_,_,.str x=>.str x
 | _,_,n,.tup e h=>.tup (ht _ _ e) (IsAll.tmono ht (by simpa [noL] using n) h)
 | _,_,n,.lst e h=>by simp [noL] at n
theorem IsAll.tmono {H H':Hp} (ht:∀ a xs,H a=some (.tup xs)→H' a=some (.tup xs)):∀ {vs:List V} {ds:List PyData},noLs ds=true→IsAll H vs ds→IsAll H' vs ds
 | _,_,_,.nil=>.nil
 | _,_,n,.cons h t=>by
  rw [noLs,Bool.and_eq_true] at n
  exact .cons (Is.tmono ht n.1 h) (IsAll.tmono ht n.2 t)
end
theorem Same.rd {H H':Hp} (e:Same H H') {a:Addr} {u:HO} (h:Rd H a u):Rd H' a u:=by
 rcases h with h | ⟨o,h⟩
 ·exact .inl (e _ _ h)
 ·exact .inr ⟨o,e _ _ h⟩
theorem Is.same {H H':Hp} (e:Same H H') {v:V} {d:PyData} (h:Is H v d):Is H' v d:=h.mono (fun _ _ q=>e _ _ q) fun _ _ q=>e.rd q
theorem IsAll.same {H H':Hp} (e:Same H H') {v:List V} {d:List PyData} (h:IsAll H v d):IsAll H' v d:=h.mono (fun _ _ q=>e _ _ q) fun _ _ q=>e.rd q
section
variable {X:Cx} {pins:List (Addr×Obj)} {σ:St} {H:Hp} {s:Shared}
mutual
theorem Is.reads (I:Inv X pins σ H s):∀ {v:V} {d:PyData} {u:Value},Is H v d→RelV v u→∃ as,Reads s.heap u d as
 | _,_,_,.non,r=>by cases (show _=Value.none from r);exact ⟨_,.none⟩
 | _,_,_,.bl b,r=>by cases (show _=Value.bool b from r);exact ⟨_,.bool b⟩
 | _,_,_,.int i,r=>by obtain ⟨t,rfl⟩:=r;exact ⟨_,.int i t⟩
 | _,_,_,.str x,r=>by obtain ⟨t,rfl⟩:=r;exact ⟨_,.str x t⟩
 | _,_,_,.tup (a:=a) e h,r=>by
  cases (show _=Value.ref a from r)
  obtain ⟨its,rv,⟨o,h1,h2,n,h3⟩,_⟩:=I.tuple (SqT.of e)
  obtain ⟨as,ra⟩:=IsAll.reads I h rv
  exact ⟨_,.tuple h1 h2 h3 (by simpa using ra)⟩
 | _,_,_,.lst (a:=a) e h,r=>by
  cases (show _=Value.ref a from r)
  obtain ⟨its,rv,⟨o,n,h1,h2,_,h3⟩,_⟩:=I.list (.inl e)
  obtain ⟨as,ra⟩:=IsAll.reads I h rv
  exact ⟨_,.list h1 h2 h3 (by simpa using ra)⟩
theorem IsAll.reads (I:Inv X pins σ H s):∀ {vs:List V} {ds:List PyData} {us:List Value},IsAll H vs ds→Vals vs us→∃ as,ReadsAll s.heap us ds as
 | _,_,_,.nil,.nil=>⟨_,.nil⟩
 | _,_,_,.cons h t,.cons r q=>by
  obtain ⟨as,ra⟩:=Is.reads I h r
  obtain ⟨bs,rb⟩:=IsAll.reads I t q
  exact ⟨_,.cons ra rb⟩
end
end
noncomputable def okD (d:PyData):Prop:=d.canLay0=true∧d.depth≤40
noncomputable def okDs (ds:List PyData):Prop:=PyData.canLayAll0 ds=true∧PyData.depthAll ds≤40
section
variable {X:Cx}
noncomputable def rEqD (neg:Bool):R2:=fun x y H Q=>∃ d e,Is H x d∧Is H y e∧okD d∧okD e∧Q (.bl (if neg then !PyData.eqv d e else PyData.eqv d e)) H
theorem op_eqD (hu:X.A.units + 64 < cLine):OpR X (compareOp .Eq) (rEqD false):=by
 intro pins s σ H x y v u Q I rx ry h
 obtain ⟨d,e,hx,hy,od,oe,q⟩:=h
 obtain ⟨as,ra⟩:=hx.reads I rx
 obtain ⟨bs,rb⟩:=hy.reads I ry
 exact SeqAt.compareEq_reads ra rb od.1 oe.1 (by have:=od.2;omega) ⟨.bl _,H,I,rfl,q⟩
theorem op_neD (hu:X.A.units + 64 < cLine):OpR X (compareOp .NotEq) (rEqD true):=by
 intro pins s σ H x y v u Q I rx ry h
 obtain ⟨d,e,hx,hy,od,oe,q⟩:=h
 obtain ⟨as,ra⟩:=hx.reads I rx
 obtain ⟨bs,rb⟩:=hy.reads I ry
 exact SeqAt.compareNe_reads ra rb od.1 oe.1 (by have:=od.2;omega) ⟨.bl _,H,I,rfl,q⟩
noncomputable def inD (d:PyData) (ds:List PyData):Bool:=ds.any fun y=>PyData.eqv y d
noncomputable def rInD (neg:Bool):R2:=fun x y H Q=>∃ d ds,Is H x d∧(Is H y (.tuple ds)∨Is H y (.list ds))∧okD d∧okDs ds∧Q (.bl (if neg then !inD d ds else inD d ds)) H
theorem op_inD (hu:X.A.units + 64 < cLine):OpR X (compareOp .In) (rInD false):=by
 intro pins s σ H x y v u Q I rx ry h
 obtain ⟨d,ds,hx,hy,od,oe,q⟩:=h
 obtain ⟨as,ra⟩:=hx.reads I rx
 rcases hy with hy | hy
 ·obtain ⟨bs,rb⟩:=hy.reads I ry
  exact SeqAt.in_tuple_reads rb ra oe.1 od.1 (by have:=od.2;omega) ⟨.bl _,H,I,rfl,q⟩
 ·obtain ⟨bs,rb⟩:=hy.reads I ry
  exact SeqAt.in_list_reads rb ra oe.1 od.1 (by have:=od.2;omega) ⟨.bl _,H,I,rfl,q⟩
theorem op_notInD (hu:X.A.units + 64 < cLine):OpR X (compareOp .NotIn) (rInD true):=by
 intro pins s σ H x y v u Q I rx ry h
 obtain ⟨d,ds,hx,hy,od,oe,q⟩:=h
 obtain ⟨as,ra⟩:=hx.reads I rx
 rcases hy with hy | hy
 ·obtain ⟨bs,rb⟩:=hy.reads I ry
  exact SeqAt.notIn_tuple_reads rb ra oe.1 od.1 (by have:=od.2;omega) ⟨.bl _,H,I,rfl,q⟩
 ·obtain ⟨bs,rb⟩:=hy.reads I ry
  exact SeqAt.notIn_list_reads rb ra oe.1 od.1 (by have:=od.2;omega) ⟨.bl _,H,I,rfl,q⟩
end
noncomputable def tyD:PyData→String
 | .none=>"NoneType"
 | .bool _=>"bool"
 | .int _=>"int"
 | .str _=>"str"
 | .list _=>"list"
 | .tuple _=>"tuple"
 | .dict _=>"dict"
theorem Is.ty {K:PySem.W.Frag} {H:Hp} {v:V} {d:PyData} (h:Is H v d):TyOf K H v (.type (tyD d)):=by
 cases h with
 | non=>exact .non
 | bl b=>exact .bl b
 | int i=>exact .int i
 | str x=>exact .str x
 | tup e _=>exact .tup e
 | lst e _=>
  rcases e with e | ⟨o,e⟩
  ·exact .lst e
  ·exact .frz e
noncomputable def isTy (T:String) (d:PyData):Bool:=tyD d==T||(T=="int"&&tyD d=="bool")
theorem kit_bool {K:PySem.W.Frag} (d:PyData):PySem.W.kitOne K (.type (tyD d)) (.type "bool")=some (isTy "bool" d):=by cases d <;> with_unfolding_all rfl
theorem kit_int {K:PySem.W.Frag} (d:PyData):PySem.W.kitOne K (.type (tyD d)) (.type "int")=some (isTy "int" d):=by cases d <;> with_unfolding_all rfl
theorem kit_tuple {K:PySem.W.Frag} (d:PyData):PySem.W.kitOne K (.type (tyD d)) (.type "tuple")=some (isTy "tuple" d):=by cases d <;> with_unfolding_all rfl
theorem kit_list {K:PySem.W.Frag} (d:PyData):PySem.W.kitOne K (.type (tyD d)) (.type "list")=some (isTy "list" d):=by cases d <;> with_unfolding_all rfl
theorem kit_str {K:PySem.W.Frag} (d:PyData):PySem.W.kitOne K (.type (tyD d)) (.type "str")=some (isTy "str" d):=by cases d <;> with_unfolding_all rfl
theorem kit_dict {K:PySem.W.Frag} (d:PyData):PySem.W.kitOne K (.type (tyD d)) (.type "dict")=some (isTy "dict" d):=by cases d <;> with_unfolding_all rfl
section
variable {X:Cx}
theorem call_isinst:CallR X (.builtin "isinstance") (fun xs H Q=>∃ x T d,xs=[x,.ty T]∧T∈(["bool","int","tuple","list","str","dict"]:List String)∧Is H x d∧Q (.bl (isTy T d)) H):=by
 intro pins s σ H xs us Q I r h
 obtain ⟨x,T,d,rfl,hT,hx,q⟩:=h
 obtain ⟨u,v,rfl,rx,ry⟩:=Vals.two r
 cases (show v=Value.type T from ry)
 have fin:∀ {b:Bool},PySem.W.kitOne X.K (.type (tyD d)) (.type T)=some b→b=isTy T d→wpAny (model X.prog X.w) X.A (call (.builtin "isinstance") [u,.type T]) (EP X pins σ Q) X.xe s:=fun {b} e eb=>by
  subst eb
  exact isinst_ok I rx hx.ty e fun tk=>⟨.bl _,H,I.tok tk,rfl,q⟩
 simp only [List.mem_cons,List.not_mem_nil,or_false] at hT
 rcases hT with rfl | rfl | rfl | rfl | rfl | rfl
 ·exact fin (kit_bool d) rfl
 ·exact fin (kit_int d) rfl
 ·exact fin (kit_tuple d) rfl
 ·exact fin (kit_list d) rfl
 ·exact fin (kit_str d) rfl
 ·exact fin (kit_dict d) rfl
end
end L2
set_option maxHeartbeats 4000000
namespace L2
open PySem PySem.Spec PyProof.Rows
noncomputable def Run {α:Type} (lt:Nat→Nat→Bool) (n:Nat):PySem.W.KasT α→(α→Prop)→Prop
 | .ret a,Q=>Q a
 | .ask i j k,Q=>i < n∧j < n∧Run lt n (k (lt i j)) Q
section
variable {lt:Nat→Nat→Bool} {n:Nat}
theorem Run.mono {α:Type} {Q Q':α→Prop} (h:∀ a,Q a→Q' a):∀ {t:PySem.W.KasT α},Run lt n t Q→Run lt n t Q'
 | .ret a,q=>h a q
 | .ask i j k,⟨a,b,q⟩=>⟨a,b,Run.mono h q⟩
theorem Run.bind {α β:Type} {f:α→PySem.W.KasT β} {Q:β→Prop}:∀ {t:PySem.W.KasT α},Run lt n t (fun a=>Run lt n (f a) Q)→Run lt n (t.bind f) Q
 | .ret a,q=>q
 | .ask i j k,⟨a,b,q⟩=>⟨a,b,Run.bind q⟩
structure Str1 (lt:Nat→Nat→Bool) (n:Nat):Prop where
 tr:∀ i j k,i < n→j < n→k < n→lt i j=true→lt j k=true→lt i k=true
 tot:∀ i j,i < n→j < n→i≠j→lt i j=false→lt j i=true
 irr:∀ i j,i < n→j < n→lt i j=true→lt j i=false
structure Plc (n:Nat) (p:Array Nat):Prop where
 sz:p.size=n
 lt:∀ i,i < n→p.getD i 0 < n
 ne:∀ i j,i < n→j < n→i≠j→p.getD i 0≠p.getD j 0
 pm:p.toList.Perm (List.range n)
variable (S:Str1 lt n)
include S
end
end L2
namespace L2
open PySem PySem.Spec PyProof.Rows
theorem ns_one {h:Heap} {a:Addr} {m m':Str→Option Value} (x:h.Ns a m) (y:h.Ns a m'):m=m':=by
 obtain ⟨o,es,ep,e,d,_,f⟩:=x
 obtain ⟨o',es',ep',e',d',_,f'⟩:=y
 rw [e] at e';cases e'
 rw [d] at d';cases d'
 funext z
 rw [←f z,←f' z]
theorem ObjOk.there {P:Program} {w:World} {H:Hp} {h:Heap} {a:Addr} {o:HO} (x:ObjOk P w H h a o):∃ u,h.get? a=some u:=by
 cases o with
 | lst xs=>obtain ⟨_,_,_,_,e⟩:=x;exact ⟨_,e⟩
 | tup xs=>obtain ⟨_,_,_,_,o,e,_⟩:=x;exact ⟨_,e⟩
 | dK kvs=>obtain ⟨_,_,_,_,o,_,_,e,_⟩:=x;exact ⟨_,e⟩
 | dT kvs=>obtain ⟨_,_,_,_,o,_,_,e,_⟩:=x;exact ⟨_,e⟩
 | set S n=>obtain ⟨o,_,_,_,e,_⟩:=x;exact ⟨_,e⟩
 | ins C dx fs=>obtain ⟨_,_,_,e,_⟩:=x;exact ⟨_,e⟩
 | own y=>obtain ⟨_,e⟩:=x;exact ⟨_,e⟩
 | xd fs=>obtain ⟨_,⟨_,_,_,e,_⟩,_⟩:=x;exact ⟨_,e⟩
 | rng lo hi=>obtain ⟨_,_,_,e⟩:=x;exact ⟨_,e⟩
 | frz ob u=>obtain ⟨e,_⟩:=x;exact ⟨_,e⟩
 | tbl ps=>exact ⟨_,show h.get? a=some _ from x⟩
 | met f y=>exact ⟨_,show h.get? a=some _ from x⟩
 | ext φ=>obtain ⟨_,⟨_,e⟩,_⟩:=x;exact ⟨_,e⟩
section
variable {X:Cx} {pins:List (Addr×Obj)} {σ:St} {H:Hp} {s:Shared}
theorem Inv.none_of (I:Inv X pins σ H s) {a:Addr} (h:s.heap.get? a=none):H a=none:=by
 cases q:H a with
 | none=>rfl
 | some o=>
  obtain ⟨u,e⟩:=(I.hok a o q).there
  rw [h] at e;cases e
theorem Inv.laidBut {a:Addr} {xs:List V} {its:List Value} {n t':Nat} {h':Heap} {m:Str→Option Value} (I:Inv X pins σ H s) (k:∀ b u,b≠X.env.locals→s.heap.get? b=some u→h'.get? b=some u) (hm:s.heap.Ns X.env.locals m) (hm':h'.Ns X.env.locals m)
  (hp:s.heap.get? a=none) (rv:Vals xs its) (hz:xs.length≤sizeLine) (ho:h'.get? a=some { cls:=.type "list",data:=.seq its.toArray n }):Inv X pins σ (upd H a (.lst xs)) { s with heap:=h',toks:=t' }:=by
 have hn:H a=none:=I.none_of hp
 have neL:∀ b u,H b=some u→b≠X.env.locals:=fun b u e z=>by rw [z,I.free] at e;cases e
 refine I.step (g':=s.gens) (d':=s.drawn) (ch:=[]) (fun _ z=>nomatch z) (fun b o h1 _ _ e _=>k b o h1 e) (fun b o h1 _ _ e _=>⟨o.slots,k b o h1 e⟩)
  (fun b o _ e q=>by rw [upd_ne (fun z=>by rw [z,hp] at e;cases e)];exact q) (fun b o _ e=>?_)
  (fun b xs q=>by rw [upd_ne (ne_of_none q hn)];exact q) (fun b o u q=>by rw [upd_ne (ne_of_none q hn)];exact q) (fun b ps q=>⟨#[],by rw [upd_ne (ne_of_none q hn),q];simp⟩) (fun m2 h2=>?_) (fun b u e=>?_) I.bare
 ·by_cases hb:b=X.env.locals
  ·subst hb
   obtain ⟨o',_,_,e',_⟩:=hm'
   exact ⟨o',e'⟩
  ·exact ⟨o,k b o hb e⟩
 ·rw [ns_one h2 hm];exact hm'
 ·by_cases hb:b=a
  ·subst hb
   rw [upd_same] at e
   cases e
   exact ⟨hz,its,n,rv,ho⟩
  ·rw [upd_ne hb] at e
   refine (I.hok b u e).stay (fun c v hc q=>k c v ?_ q) (fun c q=>by rw [upd_ne (ne_of_none q hn)];exact q) fun c xs q=>by rw [upd_ne (ne_of_none q hn)];exact q
   rcases hc with rfl | hc
   ·exact neL _ _ e
   ·exact neL _ _ hc
end
section
variable {X:Cx}
theorem bools_of:∀ {bs:List Bool} {vs:List Value},Vals (bs.map V.bl) vs→LSm.BoolsAre vs bs
 | [],_,.nil=>.nil
 | b::bs,_,.cons r t=>by
  cases (show _=Value.bool b from r)
  exact .cons b (bools_of t)
theorem call_all (hc:X.calm=true):CallR X (.builtin "all") (fun xs H Q=>∃ (p:Addr) (bs:List Bool),xs=[.ref p]∧SqL X.K H p (bs.map V.bl)∧Q (.bl (bs.all id)) H):=by
 intro pins s σ H xs us Q I r h
 obtain ⟨p,bs,rfl,hq,q⟩:=h
 obtain ⟨u,rfl,rx⟩:=Vals.one r
 cases (show u=Value.ref p from rx)
 obtain ⟨its,rv,pl,hz⟩:=I.list hq
 obtain ⟨m,F⟩:=I.fr
 have hb:=bools_of rv
 have hl:s.heap.IsList p its.toArray:=pl.isList
 have hlt:p < s.heap.objs.size:=by obtain ⟨_,e,_⟩:=hl;exact Heap.lt_size e
 refine call_all_walk (wpAny_pyIter_list hl ?_)
 refine ⟨s.heap.objs.size,[s.heap.objs.size,p],[s.heap.objs.size],its.toArray.size,_,_,fun i=>(bs[i]?).getD true,rfl,Walks.list (A:=X.A.in1) (I.ok.hd hc) _ p (Nat.ne_of_lt hlt) its.toArray,
  ⟨⟨_,Heap.get?_push_size _ rfl,rfl,rfl⟩,hl.push _⟩,fun i v s' Q' E' hP hQ=>?_,fun h' tk hk=>?_⟩
 ·obtain ⟨b,e,rfl⟩:=hb.get i v (by simpa using hP)
  simp only [e,Option.getD_some] at hQ
  exact wpAny_truthy_bool hQ
 ·have e:((List.range its.toArray.size).all fun i=>(bs[i]?).getD true)=bs.all id:=by
   rw [List.size_toArray,hb.length];exact LSm.range_all bs
  rw [e]
  exact ⟨.bl _,H,I.kept (LSm.kept_iter hk),rfl,q⟩
end
section
variable {prog:Program} {w:World} {A:Around} {E:Value→Shared→Prop} {s:Shared}
noncomputable def Col (prog:Program) (w:World) (s:Shared) (l:Addr) (vs:List Value):Prop:=∀ (A:Around) (E:Value→Shared→Prop) (Q:List Value→Shared→Prop),
 Q vs { s with heap:=(s.heap.push (seqObj "list" #[] 0)).update s.heap.objs.size (Obj.mapSeq (· ++vs.toArray)) }→wpAny (model prog w) A (collect (.ref l)) Q E s
theorem Col.list {l:Addr} {vs:List Value} (hl:s.heap.IsList l vs.toArray) (hz:vs.length≤sizeLine):Col prog w s l vs:=fun _ _ _ h=>collect_list hl h hz
theorem Col.tup {l:Addr} {vs:List Value} (hl:IsTup s.heap l vs.toArray) (hz:vs.length≤sizeLine):Col prog w s l vs:=by
 intro A E Q h
 obtain ⟨o,ho,hc,n,hd⟩:=hl
 have ho':(s.heap.push (seqObj "list" #[] 0)).get? l=some o:=Heap.get?_push_of_some _ ho
 have e0:((#[]:Array Value)++vs.toArray).toList=vs:=by simp
 unfold collect
 refine wpAny_bind (wpAny_runValue (codeAny_builtin entry_proto_collect' ?_))
 show wpAny _ _ (do again (.builtin "list.__iadd__" ⟨[←newList [],.ref l],[]⟩)) _ _ s
 refine wpAny_bind (wpAny_newList (wpAny_pure ⟨Code.quiet_builtin _ (by decide +kernel),codeAny_builtin entry_list_iadd' ?_⟩))
 show wpAny _ _ (Builtin.List.listExtendWith (.ref s.heap.objs.size) (.ref l) (.ref s.heap.objs.size)) _ _ { s with heap:=s.heap.push (seqObj "list" #[] 0) }
 unfold Builtin.List.listExtendWith
 refine wpAny_bind (wpAny_typeOf (T:="tuple") ⟨o,ho',hc⟩ ?_)
 have ht2:(Value.type "tuple"==Value.type "tuple")=true:=by rfl
 rw [if_pos (by rw [ht2];simp)]
 refine wpAny_bind (listItems_at ho' hd ?_)
 refine wpAny_bind (listItems_at (xs:=#[]) (n:=0) (Heap.get?_push_size _ rfl) rfl ?_)
 rw [if_neg (by simp)]
 refine wpAny_bind (listUpdate_at (xs:=#[]) (n:=0) (Heap.get?_push_size _ rfl) rfl ?_ (Nat.zero_le _) (Nat.le_trans (Nat.le_of_eq (by rw [←Array.length_toList,e0])) (Nat.le_succ_of_le hz)))
 refine wpAny_pure ?_
 show wpAny (model prog w) A (do
   let ob ←load s.heap.objs.size
   match ob.data with
   | .seq xs _=>pure xs.toList
   | _=>unsupported "internal:collect") Q E { s with heap:=(s.heap.push (seqObj "list" #[] 0)).update s.heap.objs.size (Obj.mapSeq (· ++vs.toArray)) }
 refine wpAny_bind (wpAny_load (get?_update_seq (Heap.get?_push_size _ rfl) _) ?_)
 show wpAny _ _ (pure ((#[]:Array Value)++vs.toArray).toList) Q E _
 rw [e0]
 exact wpAny_pure h
theorem sorted_few {l:Addr} {vs:List Value} {Q:Value→Shared→Prop} (hl:Col prog w s l vs) (h2:vs.length < 2)
  (h:∀ D h' n,s.heap.objs.size≤D→(∀ b o,s.heap.get? b=some o→h'.get? b=some o)→h'.get? D=some { cls:=.type "list",data:=.seq vs.toArray n }→Q (.ref D) { s with heap:=h' }):
  wpAny (model prog w) A (call (.builtin "sorted") [.ref l]) Q E s:=by
 have hsl:vs.length≤sizeLine:=by rw [sizeLine_eq];omega
 refine Calls.call_function_entry kind_sorted plain_sorted entry_sorted (args_sorted1 _) ?_
 unfold Builtin.«sorted»
 refine wpAny_bind (m:=checkCount "sorted" 1 1 _) (wpAny_pure ?_)
 refine wpAny_bind (hl _ _ _ ?_)
 refine wpAny_bind (wpAny_newList ?_ hsl)
 have hsz:((s.heap.push (seqObj "list" #[] 0)).update s.heap.objs.size (Obj.mapSeq (· ++vs.toArray))).objs.size=s.heap.objs.size + 1:=by
  rw [Heap.size_update,size_push']
 have hoL:(((s.heap.push (seqObj "list" #[] 0)).update s.heap.objs.size (Obj.mapSeq (· ++vs.toArray))).push (seqObj "list" vs.toArray 0)).get? (s.heap.objs.size + 1)=some (seqObj "list" vs.toArray 0):=by
  rw [←hsz];exact Heap.get?_push_size _ rfl
 have keep:∀ b o,s.heap.get? b=some o→(((s.heap.push (seqObj "list" #[] 0)).update s.heap.objs.size (Obj.mapSeq (· ++vs.toArray))).push (seqObj "list" vs.toArray 0)).get? b=some o:=fun b o q=>by
  have hlt:b < s.heap.objs.size:=Heap.lt_size q
  rw [Heap.get?_push_ne _ _ _ (by rw [hsz];exact Nat.ne_of_lt (Nat.lt_succ_of_lt hlt)),Heap.get?_update_ne _ _ _ _ (Nat.ne_of_lt hlt),Heap.get?_push_ne _ _ _ (Nat.ne_of_lt hlt)]
  exact q
 show wpAny _ _ _ _ _ { s with heap:=((s.heap.push (seqObj "list" #[] 0)).update s.heap.objs.size (Obj.mapSeq (· ++vs.toArray))).push (seqObj "list" vs.toArray 0) }
 rw [hsz]
 generalize ((s.heap.push (seqObj "list" #[] 0)).update s.heap.objs.size (Obj.mapSeq (· ++vs.toArray))).push (seqObj "list" vs.toArray 0)=g at hoL keep ⊢
 refine wpAny_bind (wpAny_holding (wpAny_call_entry slot_list_sort ⟨_,hoL,rfl⟩ entry_list_sort ?body (args_list_sort _)))
 case body=>
  rw [list_sort_plain]
  have ha:s.heap.objs.size + 1 < g.objs.size:=Heap.lt_size hoL
  refine wpAny_bind (listItems_at hoL rfl ?_)
  refine wpAny_bind (listUpdate_at hoL rfl ?_ (by rw [List.size_toArray];exact hsl) (Nat.zero_le _))
  obtain ⟨e1,ho1⟩:∃ e1,(g.update (s.heap.objs.size + 1) (Obj.mapSeq fun _=>(#[]:Array Value))).get? (s.heap.objs.size + 1)=some (seqObj "list" #[] e1):=⟨_,get?_update_seq hoL (fun _=>#[])⟩
  refine wpAny_bind (seqEpoch_at ho1 rfl ?_)
  refine wpAny_bind (wpAny_newTuple ?_ hsl)
  refine wpAny_bind (wpAny_newList ?_ (Nat.zero_le _))
  refine wpAny_holding ?_
  have ho6:(((g.update (s.heap.objs.size + 1) (Obj.mapSeq fun _=>(#[]:Array Value))).push (seqObj "tuple" vs.toArray 0)).push (seqObj "list" #[] 0)).get? (s.heap.objs.size + 1)=some (seqObj "list" #[] e1):=by
   rw [Heap.get?_push_ne _ _ _ (by rw [size_push',Heap.size_update];exact Nat.ne_of_lt (Nat.lt_succ_of_lt ha)),Heap.get?_push_ne _ _ _ (by rw [Heap.size_update];exact Nat.ne_of_lt ha)]
   exact ho1
  show wpAny (model prog w) _ _ _ _ { s with heap:=((g.update (s.heap.objs.size + 1) (Obj.mapSeq fun _=>(#[]:Array Value))).push (seqObj "tuple" vs.toArray 0)).push (seqObj "list" #[] 0) }
  dsimp only
  have h2':vs.toArray.size < 2:=by simpa using h2
  rw [if_pos h2',if_pos h2']
  refine wpAny_bind (wpAny_pure ?_)
  rw [StateT.run_pure]
  refine wpAny_bind (wpAny_pure ?_)
  dsimp only
  refine wpAny_bind (seqEpoch_at ho6 rfl ?_)
  have earr:(arrOf (SortSt.mk' general' (vs.toArray.zip vs.toArray) #[] 7 none)).map (·.2)=vs.toArray:=by
   show (pairsOf vs).map (·.2)=vs.toArray
   apply Array.toList_inj.mp
   rw [Array.toList_map,pairsOf_toList]
   have e:∀ l:List Value,(l.zip l).map (·.2)=l:=fun l=>by
    induction l with
    | nil=>rfl
    | cons a r ih=>rw [List.zip_cons_cons,List.map_cons,ih]
   rw [e]
  refine wpAny_bind (listUpdate_at ho6 rfl ?_ (Nat.zero_le _) (hsz2:=by rw [earr,List.size_toArray];exact Nat.le_succ_of_le hsl))
  simp only [bne_self_eq_false,Bool.false_eq_true,if_false]
  refine wpAny_pure ⟨_,rfl,wpAny_pure ⟨_,rfl,?_⟩⟩
  have s2:=get?_update_seq ho6 fun _=>vs.toArray
  rw [earr]
  refine h _ _ _ (Nat.le_succ _) (fun b o q=>?_) s2
  have hlt:b < s.heap.objs.size:=Heap.lt_size q
  have hlt2:b < g.objs.size:=Heap.lt_size (keep b o q)
  rw [Heap.get?_update_ne _ _ _ _ (Nat.ne_of_lt (Nat.lt_succ_of_lt hlt)),Heap.get?_push_ne _ _ _ (by rw [size_push',Heap.size_update];exact Nat.ne_of_lt (Nat.lt_succ_of_lt hlt2)),Heap.get?_push_ne _ _ _ (by rw [Heap.size_update];exact Nat.ne_of_lt hlt2),
   Heap.get?_update_ne _ _ _ _ (Nat.ne_of_lt (Nat.lt_succ_of_lt hlt))]
  exact keep b o q
end
end L2
namespace L2
open PySem PySem.Spec PyProof.Rows
theorem lex_asym:∀ {a b:List Int},HT.lexLt a b=true→HT.lexLt b a=false
 | [],[],h=>by cases h
 | [],_::_,_=>rfl
 | _::_,[],h=>by cases h
 | x::a,y::b,h=>by
  rw [HT.lexLt_cons] at h ⊢
  by_cases e:x=y
  ·rw [if_pos e] at h
   rw [if_pos e.symm]
   exact lex_asym h
  ·rw [if_neg e] at h
   rw [if_neg (Ne.symm e)]
   have:=of_decide_eq_true h
   exact decide_eq_false (by omega)
theorem lex_tot:∀ {a b:List Int},a≠b→HT.lexLt a b=false→HT.lexLt b a=true
 | [],[],h,_=>(h rfl).elim
 | [],_::_,_,h=>by cases h
 | _::_,[],_,_=>rfl
 | x::a,y::b,hne,h=>by
  rw [HT.lexLt_cons] at h ⊢
  by_cases e:x=y
  ·rw [if_pos e] at h
   rw [if_pos e.symm]
   exact lex_tot (fun z=>hne (by rw [e,z])) h
  ·rw [if_neg e] at h
   rw [if_neg (Ne.symm e)]
   have:=of_decide_eq_false h
   exact decide_eq_true (by omega)
theorem lex_tr:∀ {a b c:List Int},HT.lexLt a b=true→HT.lexLt b c=true→HT.lexLt a c=true
 | [],_,[],h1,h2=>by
  rename_i b
  cases b
  ·exact h1
  ·cases h2
 | [],_,_::_,_,_=>rfl
 | _::_,[],_,h,_=>by cases h
 | _::_,_::_,[],_,h=>by cases h
 | x::a,y::b,z::c,h1,h2=>by
  rw [HT.lexLt_cons] at h1 h2 ⊢
  by_cases e1:x=y
  ·rw [if_pos e1] at h1
   by_cases e2:y=z
   ·rw [if_pos e2] at h2
    rw [if_pos (e1.trans e2)]
    exact lex_tr h1 h2
   ·rw [if_neg e2] at h2
    rw [if_neg (by rw [e1];exact e2),e1]
    exact h2
  ·rw [if_neg e1] at h1
   by_cases e2:y=z
   ·rw [if_pos e2] at h2
    rw [if_neg (by rw [←e2];exact e1),←e2]
    exact h1
   ·rw [if_neg e2] at h2
    have p:=of_decide_eq_true h1
    have q:=of_decide_eq_true h2
    rw [if_neg (by omega)]
    exact decide_eq_true (by omega)
section
variable {prog:Program} {w:World} {A:Around} {E:Value→Shared→Prop} {s:Shared}
end
theorem katTups_of {h:Heap} {G:Value→Prop}:∀ (its:List Value),(∀ (i:Nat) u,its[i]? =some u→∃ (a:Addr) (o:Obj) (zs:Array Value) (n:Nat) (f:Value),u=.ref a∧h.get? a=some o∧o.cls=.type "tuple"∧o.data=.seq zs n∧zs[0]? =some f∧G f)→
  ∃ fs,PySem.W.KatTups h its fs∧fs.length=its.length∧∀ v∈fs,G v
 | [],_=>⟨[],PySem.W.KatTups.nil,rfl,fun _ h=>nomatch h⟩
 | u::its,hi=>by
  obtain ⟨fs,t,l,g⟩:=katTups_of its fun i u e=>hi (i + 1) u (by simpa using e)
  obtain ⟨a,o,zs,n,f,rfl,h1,h2,h3,h4,h5⟩:=hi 0 u rfl
  refine ⟨f::fs,PySem.W.KatTups.cons h1 h2 h3 h4 t,by simp [l],fun v hv=>?_⟩
  rcases List.mem_cons.mp hv with rfl | hv
  ·exact h5
  ·exact g v hv
theorem map_getD_range {α:Type} (d:α) (l:List α):(List.range l.length).map (fun i=>l.getD i d)=l:=by
 apply List.ext_getElem?
 intro i
 rw [List.getElem?_map]
 by_cases h:i < l.length
 ·rw [List.getElem?_range h]
  simp [h]
 ·rw [List.getElem?_eq_none (by simpa using h),List.getElem?_eq_none (by simpa using h)]
  rfl
section
variable {X:Cx}
end
end L2
namespace L2
open PySem PySem.Spec PyProof.Rows
theorem bt_len:bootBuiltins "len"=some (.builtin "len"):=by decide +kernel
theorem bt_isinstance:bootBuiltins "isinstance"=some (.builtin "isinstance"):=by decide +kernel
theorem bt_all:bootBuiltins "all"=some (.builtin "all"):=by decide +kernel
theorem bt_sorted:bootBuiltins "sorted"=some (.builtin "sorted"):=by decide +kernel
theorem bt_max:bootBuiltins "max"=some (.builtin "max"):=by decide +kernel
theorem bt_zip:bootBuiltins "zip"=some (.type "zip"):=by decide +kernel
theorem bt_tuple:bootBuiltins "tuple"=some (.type "tuple"):=by decide +kernel
theorem bt_list:bootBuiltins "list"=some (.type "list"):=by decide +kernel
theorem bt_int:bootBuiltins "int"=some (.type "int"):=by decide +kernel
theorem bt_bool:bootBuiltins "bool"=some (.type "bool"):=by decide +kernel
theorem bt_dict:bootBuiltins "dict"=some (.type "dict"):=by decide +kernel
theorem bt_set:bootBuiltins "set"=some (.type "set"):=by decide +kernel
theorem pe_gint {X:Cx} {x:Str} {n:Int} {pos:Pos} (hg:Gl X x) (hm:∃ tk,X.mg x=some (.int n tk)) (hd:(x==("__debug__":Str))=false:=by decide):PE X (.Name x pos) (tC (.int n)):=
 fun _ _ _ H _ I h=>let ⟨tk,e⟩:=hm;ld_glob I hg e ⟨.int n,H,I,⟨tk,rfl⟩,h⟩ hd
noncomputable def rIxA (K:PySem.W.Frag):R2:=fun x y H Q=>∃ p xs i v,x=.ref p∧y=.int i∧(SqL K H p xs∨SqT K H p xs)∧atI xs i=some v∧Q v H
theorem ix_any {X:Cx}:IxR X (rIxA X.K):=by
 intro value slice pins s σ H x y v u Q I rx ry h hs
 obtain ⟨p,xs,i,w,e1,e2,hq,ha,q⟩:=h
 rcases hq with hq | hq
 ·exact ix_list value slice pins s σ H x y v u Q I rx ry ⟨p,xs,i,w,e1,e2,hq,ha,q⟩ hs
 ·exact ix_tup value slice pins s σ H x y v u Q I rx ry ⟨p,xs,i,w,e1,e2,hq,ha,q⟩ hs
noncomputable def rIsinst:List V→Hp→VK→Prop:=fun xs H Q=>∃ x T d,xs=[x,.ty T]∧T∈(["bool","int","tuple","list","str","dict"]:List String)∧Is H x d∧Q (.bl (isTy T d)) H
noncomputable def rLen (K:PySem.W.Frag):List V→Hp→VK→Prop:=fun xs H Q=>∃ p ys,xs=[.ref p]∧(SqL K H p ys∨SqT K H p ys)∧Q (.int ys.length) H
noncomputable def rAll (K:PySem.W.Frag):List V→Hp→VK→Prop:=fun xs H Q=>∃ (p:Addr) (bs:List Bool),xs=[.ref p]∧SqL K H p (bs.map V.bl)∧Q (.bl (bs.all id)) H
noncomputable def rAny (K:PySem.W.Frag):List V→Hp→VK→Prop:=fun xs H Q=>∃ (p:Addr) (bs:List Bool),xs=[.ref p]∧SqL K H p (bs.map V.bl)∧Q (.bl (bs.any id)) H
noncomputable def rIsN:R2:=fun x y H Q=>y=.non∧Q (.bl (decide (x=.non))) H
noncomputable def rNotN:R2:=fun x y H Q=>y=.non∧Q (.bl (!decide (x=.non))) H
section
variable {X:Cx}
theorem c_isinst:CallR X (.builtin "isinstance") rIsinst:=call_isinst
theorem c_len:CallR X (.builtin "len") (rLen X.K):=call_len_seq
theorem c_all (hc:X.calm=true):CallR X (.builtin "all") (rAll X.K):=call_all hc
theorem o_isN:OpR X (compareOp .Is) rIsN:=op_isN
theorem o_notN:OpR X (compareOp .IsNot) rNotN:=op_notN
noncomputable def rTupOf (K:PySem.W.Frag):List V→Hp→VK→Prop:=fun xs H Q=>∃ p ys,xs=[.ref p]∧((SqL K H p ys∧∀ l,H l=none→Q (.ref l) (upd H l (.tup ys)))∨(SqT K H p ys∧Q (.ref p) H))
noncomputable def rLstOf (K:PySem.W.Frag):List V→Hp→VK→Prop:=fun xs H Q=>∃ p ys,xs=[.ref p]∧(SqL K H p ys∨SqT K H p ys)∧∀ l,H l=none→Q (.ref l) (upd H l (.lst ys))
theorem c_list:CallR X (.type "list") (rLstOf X.K):=call_list_of
theorem c_tuple:CallR X (.type "tuple") (rTupOf X.K):=call_tuple_of
noncomputable def rMax2:List V→Hp→VK→Prop:=fun xs H Q=>∃ i j:Int,xs=[.int i,.int j]∧Q (.int (if j > i then j else i)) H
theorem c_max (hc:X.calm=true):CallR X (.builtin "max") rMax2:=call_max2 hc
noncomputable def rInt1:List V→Hp→VK→Prop:=fun xs H Q=>(∃ i,xs=[.int i]∧Q (.int i) H)∨∃ k,xs=[.bl k]∧Q (.int (if k then 1 else 0)) H
theorem c_int:CallR X (.type "int") rInt1:=call_int1
end
@[reducible] def isBoolD:PyData→Bool | .bool _=>true | _=>false
@[reducible] def isIntD:PyData→Bool | .bool _=>true | .int _=>true | _=>false
@[reducible] def isTupD:PyData→Bool | .tuple _=>true | _=>false
@[reducible] def isLstD:PyData→Bool | .list _=>true | _=>false
@[reducible] def isStrD:PyData→Bool | .str _=>true | _=>false
section
variable {σ:St} {H:Hp} {Q:VK} {D:Ends} {K:PySem.W.Frag}
theorem rd_seq {t u:TS} (h:t { D with nx:=u D } σ H):tSeq t u D σ H:=h
theorem rd_next (h:D.nx σ H):tNext D σ H:=h
theorem rd_ifS {c:TT} {t u:TS} (h:c σ H fun b H1=>if b=true then t D σ H1 else u D σ H1):tIfS c t u D σ H:=h
theorem rd_ret {te:TE} (h:te σ H D.rt):tRet te D σ H:=h
theorem rd_drop {te:TE} (h:te σ H fun _ H1=>D.nx σ H1):tDrop te D σ H:=h
theorem rd_asg {te:TE} {g:TG} (h:te σ H fun x H1=>g x σ H1 D.nx):tAsg te g D σ H:=h
theorem rd_gname {i:Nat} {v:V} {P:St→Hp→Prop} (h:P (σ.set i (some v)) H):gName i v σ H P:=h
theorem rd_var {i:Nat} {v:V} (e:σ[i]? =some (some v)) (h:Q v H):tVar i σ H Q:=⟨v,e,h⟩
theorem rd_C {v:V} (h:Q v H):tC v σ H Q:=h
theorem rd_test {te:TE} {P:Bool→Hp→Prop} (h:te σ H fun x H'=>∃ k,x=.bl k∧P k H'):tTest te σ H P:=h
theorem rd_B {te:TE} {P:Bool→Hp→Prop} (h:te σ H fun x H'=>∃ k,x=.bl k∧P k H'):tB te σ H P:=h
theorem rd_bl {b:Bool} {P:Bool→Hp→Prop} (h:P b H):∃ k,V.bl b=.bl k∧P k H:=⟨b,rfl,h⟩
theorem rd_op {r:R2} {ta tb:TE} (h:ta σ H fun x H1=>tb σ H1 fun y H2=>r x y H2 Q):tOp r ta tb σ H Q:=h
theorem rd_un {r:V→Hp→VK→Prop} {ta:TE} (h:ta σ H fun x H1=>r x H1 Q):tUn r ta σ H Q:=h
theorem rd_I0 {g:Int→Int→V} {i j:Int} (h:Q (g i j) H):rI0 g (.int i) (.int j) H Q:=⟨i,j,rfl,rfl,h⟩
theorem rd_I {C:Int→Int→Prop} {g:Int→Int→V} {i j:Int} (hc:C i j) (h:Q (g i j) H):rI C g (.int i) (.int j) H Q:=⟨i,j,rfl,rfl,hc,h⟩
theorem rd_and {t u:TT} {P:Bool→Hp→Prop} (h:t σ H fun c H1=>if c=true then u σ H1 P else P false H1):tAnd t u σ H P:=h
theorem rd_or {t u:TT} {P:Bool→Hp→Prop} (h:t σ H fun c H1=>if c=true then P true H1 else u σ H1 P):tOr t u σ H P:=h
theorem rd_not {t:TT} {P:Bool→Hp→Prop} (h:t σ H fun c H1=>P (!c) H1):tNot t σ H P:=h
theorem rd_andV {ta tb:TE} (h:ta σ H fun x H1=>∃ c,x=.bl c∧if c=true then tb σ H1 Q else Q (.bl false) H1):tAndV ta tb σ H Q:=h
theorem rd_orV {ta tb:TE} (h:ta σ H fun x H1=>∃ c,x=.bl c∧if c=true then Q (.bl true) H1 else tb σ H1 Q):tOrV ta tb σ H Q:=h
theorem rd_notV {ta:TE} (h:ta σ H fun x H1=>∃ c,x=.bl c∧Q (.bl (!c)) H1):tNotV ta σ H Q:=h
theorem rd_blE {b:Bool} {P:Bool→Prop} (h:P b):∃ c,V.bl b=.bl c∧P c:=⟨b,rfl,h⟩
theorem rd_nil {P:List V→Hp→Prop} (h:P [] H):tNil σ H P:=h
theorem rd_cons {ta:TE} {tr:TA} {P:List V→Hp→Prop} (h:ta σ H fun x H1=>tr σ H1 fun xs H2=>P (x::xs) H2):tCons ta tr σ H P:=h
theorem rd_tup {t:TA} (h:t σ H fun xs H1=>xs.length≤sizeLine∧∀ p,H1 p=none→Q (.ref p) (upd H1 p (.tup xs))):tTup t σ H Q:=h
theorem rd_lst {t:TA} (h:t σ H fun xs H1=>xs.length≤sizeLine∧∀ p,H1 p=none→Q (.ref p) (upd H1 p (.lst xs))):tLst t σ H Q:=h
theorem rd_call {sp:Sp} {dvs:List V} {E:XK} {t:TA} (h:t σ H fun vs H1=>sp (vs++dvs) H1 Q E):tCall sp dvs E t σ H Q:=h
theorem rd_cb {r:List V→Hp→VK→Prop} {t:TA} (h:t σ H fun vs H1=>r vs H1 Q):tCB r t σ H Q:=h
theorem rd_ixT {p:Addr} {xs:List V} {i:Int} {v:V} (e:H p=some (.tup xs)) (a:atI xs i=some v) (h:Q v H):rIxA K (.ref p) (.int i) H Q:=⟨p,xs,i,v,rfl,rfl,.inr (SqT.of e),a,h⟩
theorem rd_ixL {p:Addr} {xs:List V} {i:Int} {v:V} (e:H p=some (.lst xs)) (a:atI xs i=some v) (h:Q v H):rIxA K (.ref p) (.int i) H Q:=⟨p,xs,i,v,rfl,rfl,.inl (SqL.of e),a,h⟩
theorem rd_chain {r r':R2} {ta tb tc:TE} (h:ta σ H fun x H1=>tb σ H1 fun y H2=>r x y H2 fun z H3=>∃ k,z=.bl k∧(if k=true then tc σ H3 fun w' H4=>r' y w' H4 Q else Q (.bl false) H3)):tChain r r' ta tb tc σ H Q:=h
theorem ifT {b:Bool} {A B:Prop} (h:b=true) (x:A):if b=true then A else B:=by rw [if_pos h];exact x
theorem ifF {b:Bool} {A B:Prop} (h:b=false) (x:B):if b=true then A else B:=by rw [if_neg (by rw [h];exact Bool.false_ne_true)];exact x
theorem ifB {b:Bool} {A B:Prop} (h1:b=true→A) (h0:b=false→B):if b=true then A else B:=by
 cases b with
 | true=>rw [if_pos rfl];exact h1 rfl
 | false=>rw [if_neg Bool.false_ne_true];exact h0 rfl
theorem rd_isN {x:V} (h:Q (.bl (decide (x=.non))) H):rIsN x .non H Q:=⟨rfl,h⟩
theorem rd_notN {x:V} (h:Q (.bl (!decide (x=.non))) H):rNotN x .non H Q:=⟨rfl,h⟩
theorem rd_isBool {x:V} {d:PyData} (hx:Is H x d) (h:Q (.bl (isBoolD d)) H):rIsinst [x,.ty "bool"] H Q:=⟨x,"bool",d,rfl,by decide,hx,by cases d <;> exact h⟩
theorem rd_isInt {x:V} {d:PyData} (hx:Is H x d) (h:Q (.bl (isIntD d)) H):rIsinst [x,.ty "int"] H Q:=⟨x,"int",d,rfl,by decide,hx,by cases d <;> exact h⟩
theorem rd_isTup {x:V} {d:PyData} (hx:Is H x d) (h:Q (.bl (isTupD d)) H):rIsinst [x,.ty "tuple"] H Q:=⟨x,"tuple",d,rfl,by decide,hx,by cases d <;> exact h⟩
theorem rd_isLst {x:V} {d:PyData} (hx:Is H x d) (h:Q (.bl (isLstD d)) H):rIsinst [x,.ty "list"] H Q:=⟨x,"list",d,rfl,by decide,hx,by cases d <;> exact h⟩
theorem rd_isStr {x:V} {d:PyData} (hx:Is H x d) (h:Q (.bl (isStrD d)) H):rIsinst [x,.ty "str"] H Q:=⟨x,"str",d,rfl,by decide,hx,by cases d <;> exact h⟩
theorem ifNT {A B:Prop} (h:B):if (!true)=true then A else B:=iteF h
theorem ifNF {A B:Prop} (h:A):if (!false)=true then A else B:=iteT h
theorem rd_all {p:Addr} {bs:List Bool} (e:H p=some (.lst (bs.map V.bl))) (h:Q (.bl (bs.all id)) H):rAll K [.ref p] H Q:=⟨p,bs,rfl,SqL.of e,h⟩
theorem rd_any {p:Addr} {bs:List Bool} (e:H p=some (.lst (bs.map V.bl))) (h:Q (.bl (bs.any id)) H):rAny K [.ref p] H Q:=⟨p,bs,rfl,SqL.of e,h⟩
theorem rd_max2 {i j:Int} (h:Q (.int (if j > i then j else i)) H):rMax2 [.int i,.int j] H Q:=⟨i,j,rfl,h⟩
theorem rd_int1 {k:Bool} (h:Q (.int (if k then 1 else 0)) H):rInt1 [.bl k] H Q:=.inr ⟨k,rfl,h⟩
theorem rd_tupL {p:Addr} {ys:List V} (e:H p=some (.lst ys)) (h:∀ l,H l=none→Q (.ref l) (upd H l (.tup ys))):rTupOf K [.ref p] H Q:=⟨p,ys,rfl,.inl ⟨SqL.of e,h⟩⟩
theorem rd_eqD {neg:Bool} {x y:V} {d e:PyData} (hx:Is H x d) (hy:Is H y e) (od:okD d) (oe:okD e) (h:Q (.bl (if neg then !PyData.eqv d e else PyData.eqv d e)) H):rEqD neg x y H Q:=⟨d,e,hx,hy,od,oe,h⟩
theorem rd_eqI {x y:Int} (h:Q (.bl (x==y)) H):rEqD false (.int x) (.int y) H Q:=⟨.int x,.int y,.int x,.int y,⟨rfl,Nat.zero_le _⟩,⟨rfl,Nat.zero_le _⟩,h⟩
theorem rd_neI {x y:Int} (h:Q (.bl (!(x==y))) H):rEqD true (.int x) (.int y) H Q:=⟨.int x,.int y,.int x,.int y,⟨rfl,Nat.zero_le _⟩,⟨rfl,Nat.zero_le _⟩,h⟩
theorem rd_eqB {x y:Bool} (h:Q (.bl (x==y)) H):rEqD false (.bl x) (.bl y) H Q:=⟨.bool x,.bool y,.bl x,.bl y,⟨rfl,Nat.zero_le _⟩,⟨rfl,Nat.zero_le _⟩,h⟩
theorem rd_neB {x y:Bool} (h:Q (.bl (!(x==y))) H):rEqD true (.bl x) (.bl y) H Q:=⟨.bool x,.bool y,.bl x,.bl y,⟨rfl,Nat.zero_le _⟩,⟨rfl,Nat.zero_le _⟩,h⟩
theorem rd_inD {neg:Bool} {x y:V} {d:PyData} {ds:List PyData} (hx:Is H x d) (hy:Is H y (.tuple ds)) (od:okD d) (oe:okDs ds) (h:Q (.bl (if neg then !inD d ds else inD d ds)) H):rInD neg x y H Q:=⟨d,ds,hx,.inl hy,od,oe,h⟩
theorem rd_lenT {p:Addr} {xs:List V} (e:H p=some (.tup xs)) (h:Q (.int xs.length) H):rLen K [.ref p] H Q:=⟨p,xs,rfl,.inr (SqT.of e),h⟩
theorem rd_lenL {p:Addr} {xs:List V} (e:H p=some (.lst xs)) (h:Q (.int xs.length) H):rLen K [.ref p] H Q:=⟨p,xs,rfl,.inl (SqL.of e),h⟩
end
end L2
namespace L2
open PySem PySem.Spec PyProof.Rows
section
variable {σ:St} {H:Hp} {Q:VK} {D:Ends} {K:PySem.W.Frag} {R:It→Hp→Prop}
theorem rd_for {wi:TI} {g:TG} {tb:TS} (h:wi σ H fun J H1=>∃ W:Nat→Nat→St→Hp→Prop,(∃ m,W 0 m σ H1)∧∀ i m σ H,W i m σ H→
 (J.stop i H∧D.nx σ H)∨(J.go i H∧∃ N:St→Hp→Prop,(∀ σ' H',N σ' H'→∃ m',m' < m∧W (i + 1) m' σ' H')∧∀ x H',J.yld i H x H'→g x σ H' fun σ2 H2=>tb { D with nx:=N,ct:=N,bk:=D.nx } σ2 H2)):tFor wi g tb D σ H:=h
theorem rd_lc {wi:TI} {fm:List (Option Nat)} {g:TG} {tt:TT} {te:TE} (h:wi σ H fun J H1=>∃ W:Nat→Nat→List V→Hp→Prop,(∃ m,W 0 m [] H1)∧∀ i m ys H,W i m ys H→
 (J.stop i H∧∀ p,H p=none→Q (.ref p) (upd H p (.lst ys)))∨
 (J.go i H∧ys.length < sizeLine∧∃ N:List V→Hp→Prop,(∀ ys' H',N ys' H'→∃ m',m' < m∧W (i + 1) m' ys' H')∧
  ∀ x H',J.yld i H x H'→g x (fmSt fm σ) H' fun σ2 H2=>tt σ2 H2 fun ok H3=>if ok=true then te σ2 H3 fun v H4=>N (ys++[v]) H4 else N ys H3)):tLC wi fm g tt te σ H Q:=h
theorem rd_rng1 {ta:TA} (h:ta σ H fun vs H1=>∃ j:Int,vs=[.int j]∧-(2 ^ 62)≤j∧j < 2 ^ 62∧R (Itr 0 j.toNat) H1):iRng1 ta σ H R:=h
theorem rd_itup {tl:TE} (h:tl σ H fun x H1=>∃ a,x=.ref a∧(∃ xs,SqT K H1 a xs)∧R (Itt K a) H1):iTup K tl σ H R:=h
theorem rd_ilst {tl:TE} (h:tl σ H fun x H1=>∃ a,x=.ref a∧(∃ xs,SqL K H1 a xs)∧R (Itl K a) H1):iList K tl σ H R:=h
theorem rd_yes {P:Bool→Hp→Prop} (h:P true H):tYes σ H P:=h
theorem rd_gtup {n:Nat} {t:TGs} {a:Addr} {xs:List V} {P:St→Hp→Prop} (e:H a=some (.tup xs)) (l:xs.length=n) (h:t xs σ H P):gTup K n t (.ref a) σ H P:=⟨a,xs,rfl,SqT.of e,l,h⟩
theorem rd_gcons {t:TG} {u:TGs} {v:V} {r:List V} {P:St→Hp→Prop} (h:t v σ H fun σ' H'=>u r σ' H' P):gCons t u (v::r) σ H P:=⟨v,r,rfl,h⟩
theorem rd_gnil {P:St→Hp→Prop} (h:P σ H):gNil [] σ H P:=⟨rfl,h⟩
end
theorem Same.upd {H:Hp} {l:Addr} {o:HO} (h:H l=none):Same H (upd H l o):=fun b u e=>by rw [upd_ne (ne_of_none e h)];exact e
theorem Same.tup {H H':Hp} (e:Same H H') {a:Addr} {xs:List V} (h:H a=some (.tup xs)):H' a=some (.tup xs):=e _ _ h
theorem Is.pair {H:Hp} {p:Addr} {i j:Int}:Is (upd H p (.tup [.int i,.int j])) (.ref p) (.tuple [.int i,.int j]):=.tup upd_same (.cons (.int i) (.cons (.int j) .nil))
end L2
namespace L2
open PySem PySem.Spec PyProof.Rows
section
variable {X:Cx}
theorem k_ix (K:PySem.W.Frag) (h:X.K=K:=by rfl):IxR X (rIxA K):=h▸ix_any
theorem k_len (K:PySem.W.Frag) (h:X.K=K:=by rfl):CallR X (.builtin "len") (rLen K):=h▸c_len
theorem k_all (K:PySem.W.Frag) (hc:X.calm=true:=by rfl) (h:X.K=K:=by rfl):CallR X (.builtin "all") (rAll K):=h▸c_all hc
theorem k_tuple (K:PySem.W.Frag) (h:X.K=K:=by rfl):CallR X (.type "tuple") (rTupOf K):=h▸c_tuple
theorem k_list (K:PySem.W.Frag) (h:X.K=K:=by rfl):CallR X (.type "list") (rLstOf K):=h▸c_list
theorem k_ltT (K:PySem.W.Frag) (hu:X.A.units < cLine) (h:X.K=K:=by rfl):OpR X (compareOp .Lt) (rLtT K):=h▸op_ltT hu
theorem k_ptup (K:PySem.W.Frag) {tg l:Expr} {tl:TE} (hl:PE X l tl) (h:X.K=K:=by rfl):PI X tg l (iTup K tl):=h▸pi_tup hl
theorem k_plst (K:PySem.W.Frag) {tg l:Expr} {tl:TE} (hl:PE X l tl) (h:X.K=K:=by rfl):PI X tg l (iList K tl):=h▸pi_list hl
theorem k_gtup (K:PySem.W.Frag) {pos:Pos} {es:List Expr} {k:Nat} {t:TGs} {n:Nat} (hc:X.calm=true) (hh:PGs X es t)
  (hn:(assignEach es X.env).length=n:=by rfl) (hst:(assignEach es X.env).findIdx? (·.1)=none:=by rfl) (h:X.K=K:=by rfl):PG X (.Tuple es k pos) (gTup K n t):=h▸pg_tup hc hh hn hst
theorem k_bm (K:PySem.W.Frag) {o e:Expr} {es:List Expr} {to:TE} {t:TA} {name:Str} {apos cpos:Pos} {T id:String} {r:V→List V→Hp→VK→Prop} (pa:PlainAttrs T) (slot:Slot T name id) (hty:typeOf (.builtin id)=pure (.type "method_descriptor")) (hm:MtR X id r) (ho:PE X o to) (ha:PA X (e::es) t)
  (hbase:attributeBase o name X.env (eval o X.env)=eval o X.env:=by rfl)
  (hfew:((backTo cpos (starEach (e::es) X.env)).all (fun x=> !x.1)&&(backToKw cpos (keywordEach [] X.env)).all (fun x=>x.1.isSome)
   &&decide ((e::es).length + ([]:List Keyword).length + (if ([]:List Keyword).isEmpty then 0 else 1) < 30))=true:=by rfl)
  (hline:(apos.endLine==cpos.line)=true:=by rfl) (hs:starEach (e::es) X.env=(false,eval e X.env)::starEach es X.env:=by rfl) (hplain:(backTo cpos (starEach es X.env)).any (·.1)=false:=by rfl) (h:X.K=K:=by rfl):
  PE X (.Call (.Attribute o name apos) (e::es) [] cpos) (tBM K T r to t):=h▸pe_bm pa slot hty hm ho ha hbase hfew hline hs hplain
end
section
variable {σ:St} {H:Hp} {Q:VK} {D:Ends} {K:PySem.W.Frag}
theorem rd_ltT {a b:Addr} {i j k l:Int} (h1:H a=some (.tup [.int i,.int j])) (h2:H b=some (.tup [.int k,.int l])) (h:Q (.bl (HT.lexLt [i,j] [k,l])) H):rLtT K (.ref a) (.ref b) H Q:=
 ⟨a,b,[i,j],[k,l],rfl,rfl,SqT.of h1,SqT.of h2,h⟩
theorem rd_bm {T:String} {r:V→List V→Hp→VK→Prop} {to:TE} {t:TA} (h:to σ H fun x H1=>tyV K T x H1∧t σ H1 fun xs H2=>r x xs H2 Q):tBM K T r to t σ H Q:=h
theorem rd_append {l:Addr} {xs:List V} {v:V} (e:H l=some (.lst xs)) (hz:xs.length < sizeLine) (h:Q .non (upd H l (.lst (xs++[v])))):rAppend (.ref l) [v] H Q:=⟨l,xs,v,rfl,rfl,e,hz,h⟩
theorem tyV_lst {l:Addr} {xs:List V} (e:H l=some (.lst xs)):tyV K "list" (.ref l) H:=.inl ⟨rfl,_,SqL.of e⟩
end
theorem if_nn {A B:Prop} (h:A):if decide (V.non=V.non)=true then A else B:=by rw [decide_eq_true rfl];exact iteT h
theorem if_rn {a:Addr} {A B:Prop} (h:B):if decide (V.ref a=V.non)=true then A else B:=by rw [decide_eq_false (fun z=>nomatch z)];exact iteF h
theorem if_in {a:Int} {A B:Prop} (h:B):if decide (V.int a=V.non)=true then A else B:=by rw [decide_eq_false (fun z=>nomatch z)];exact iteF h
theorem if_nnN {A B:Prop} (h:B):if (!decide (V.non=V.non))=true then A else B:=by rw [decide_eq_true rfl];exact iteF h
theorem if_rnN {a:Addr} {A B:Prop} (h:A):if (!decide (V.ref a=V.non))=true then A else B:=by rw [decide_eq_false (fun z=>nomatch z)];exact iteT h
theorem if_inN {a:Int} {A B:Prop} (h:A):if (!decide (V.int a=V.non))=true then A else B:=by rw [decide_eq_false (fun z=>nomatch z)];exact iteT h
section
variable {σ:St} {H:Hp} {Q:VK} {D:Ends}
theorem rd_while {c:TT} {tb:TS} (h:∃ W:Nat→St→Hp→Prop,(∃ m,W m σ H)∧∀ m σ H,W m σ H→c σ H fun b H1=>if b=true then ∃ N:St→Hp→Prop,(∀ σ' H',N σ' H'→∃ m',m' < m∧W m' σ' H')∧tb { D with nx:=N,ct:=N,bk:=D.nx } σ H1 else D.nx σ H1):tWhile c tb D σ H:=h
theorem rd_gsub {to ti:TE} {t:TSet} {v:V} {P:St→Hp→Prop} (h:to σ H fun o H1=>ti σ H1 fun i H2=>t o i v H2 fun H3=>P σ H3):gSub to ti t v σ H P:=h
theorem ixN_of {n j:Nat} {k:Int} (hk:k=(j:Int)) (hj:j < n):ixN n k=some j:=by
 subst hk
 unfold ixN
 rw [if_pos (Int.natCast_nonneg _),if_pos (by omega),Int.toNat_natCast]
theorem rd_setL {p:Addr} {xs:List V} {k:Int} {j:Nat} {v:V} {P:Hp→Prop} (e:H p=some (.lst xs)) (hk:k=(j:Int)) (hj:j < xs.length) (h:P (upd H p (.lst (xs.set j v)))):rSetL (.ref p) (.int k) v H P:=⟨p,xs,k,j,rfl,rfl,e,ixN_of hk hj,h⟩
theorem rep_one {α:Type} (x:α):∀ n:Nat,(List.replicate n [x]).flatten=List.replicate n x
 | 0=>rfl
 | n + 1=>by rw [List.replicate_succ,List.flatten_cons,rep_one x n];rfl
theorem rd_rep {l:Addr} {v:V} {n:Nat} (e:H l=some (.lst [v])) (hn:n≤1000) (h:∀ p,H p=none→Q (.ref p) (upd H p (.lst (List.replicate n v)))):rRep (.ref l) (.int n) H Q:=
 ⟨l,n,[v],rfl,rfl,e,by omega,by omega,by rw [Int.toNat_natCast];have:=small1000 hn;simp;omega,fun p hp=>by rw [Int.toNat_natCast,rep_one];exact h p hp⟩
end
section
variable {H:Hp} {K:PySem.W.Frag}
theorem lp_range {lo:Int} {n:Nat} {G:List V→Hp→Prop} {B:(List V→Hp→Prop)→List V→V→Hp→Prop} (hn:n≤sizeLine) (Pv:Nat→List V→Hp→Prop) (h0:Pv 0 [] H) (hlen:∀ i ys H,Pv i ys H→ys.length≤i)
  (hs:∀ i ys H,i < n→Pv i ys H→B (Pv (i + 1)) ys (.int (lo + i)) H) (hd:∀ ys H,Pv n ys H→G ys H):
  ∃ W:Nat→Nat→List V→Hp→Prop,(∃ m,W 0 m [] H)∧∀ i m ys H,W i m ys H→((Itr lo n).stop i H∧G ys H)∨((Itr lo n).go i H∧ys.length < sizeLine∧
   ∃ N:List V→Hp→Prop,(∀ ys' H',N ys' H'→∃ m',m' < m∧W (i + 1) m' ys' H')∧∀ x H',(Itr lo n).yld i H x H'→B N ys x H'):=by
 refine ⟨fun i m ys H=>m=n - i∧i≤n∧Pv i ys H,⟨n,by simp,Nat.zero_le _,h0⟩,?_⟩
 rintro i m ys H ⟨rfl,hi,p⟩
 have hl:=hlen i ys H p
 by_cases hlt:i < n
 ·refine .inr ⟨hlt,by omega,Pv (i + 1),fun ys' H' p'=>⟨n - (i + 1),by omega,rfl,hlt,p'⟩,fun x H' y=>?_⟩
  obtain ⟨e,y⟩:=y
  subst e y
  exact hs i ys _ hlt p
 ·have e:i=n:=by omega
  subst e
  exact .inl ⟨Nat.le_refl _,hd ys H p⟩
theorem lp_tup {a:Addr} {xs:List V} {G:List V→Hp→Prop} {B:(List V→Hp→Prop)→List V→V→Hp→Prop} (hn:xs.length≤sizeLine) (Pv:Nat→List V→Hp→Prop) (h0:Pv 0 [] H) (hlen:∀ i ys H,Pv i ys H→ys.length≤i)
  (hl:∀ i ys H,i≤xs.length→Pv i ys H→SqT K H a xs) (hs:∀ i x ys H,xs[i]? =some x→Pv i ys H→B (Pv (i + 1)) ys x H) (hd:∀ ys H,Pv xs.length ys H→G ys H):
  ∃ W:Nat→Nat→List V→Hp→Prop,(∃ m,W 0 m [] H)∧∀ i m ys H,W i m ys H→((Itt K a).stop i H∧G ys H)∨((Itt K a).go i H∧ys.length < sizeLine∧
   ∃ N:List V→Hp→Prop,(∀ ys' H',N ys' H'→∃ m',m' < m∧W (i + 1) m' ys' H')∧∀ x H',(Itt K a).yld i H x H'→B N ys x H'):=by
 refine ⟨fun i m ys H=>m=xs.length - i∧i≤xs.length∧Pv i ys H,⟨xs.length,by simp,Nat.zero_le _,h0⟩,?_⟩
 rintro i m ys H ⟨rfl,hi,p⟩
 have hly:=hlen i ys H p
 have q:=hl i ys H hi p
 by_cases hlt:i < xs.length
 ·refine .inr ⟨⟨xs,xs[i],q,by simp [hlt]⟩,by omega,Pv (i + 1),fun ys' H' p'=>⟨xs.length - (i + 1),by omega,rfl,hlt,p'⟩,fun x H' y=>?_⟩
  obtain ⟨e,y⟩:=y
  subst e
  exact hs i x ys _ (y xs q) p
 ·have e:i=xs.length:=by omega
  subst e
  exact .inl ⟨⟨xs,q,Nat.le_refl _⟩,hd ys H p⟩
theorem lp_list {a:Addr} {xs:List V} {G:List V→Hp→Prop} {B:(List V→Hp→Prop)→List V→V→Hp→Prop} (hn:xs.length≤sizeLine) (Pv:Nat→List V→Hp→Prop) (h0:Pv 0 [] H) (hlen:∀ i ys H,Pv i ys H→ys.length≤i)
  (hl:∀ i ys H,i≤xs.length→Pv i ys H→SqL K H a xs) (hs:∀ i x ys H,xs[i]? =some x→Pv i ys H→B (Pv (i + 1)) ys x H) (hd:∀ ys H,Pv xs.length ys H→G ys H):
  ∃ W:Nat→Nat→List V→Hp→Prop,(∃ m,W 0 m [] H)∧∀ i m ys H,W i m ys H→((Itl K a).stop i H∧G ys H)∨((Itl K a).go i H∧ys.length < sizeLine∧
   ∃ N:List V→Hp→Prop,(∀ ys' H',N ys' H'→∃ m',m' < m∧W (i + 1) m' ys' H')∧∀ x H',(Itl K a).yld i H x H'→B N ys x H'):=by
 refine ⟨fun i m ys H=>m=xs.length - i∧i≤xs.length∧Pv i ys H,⟨xs.length,by simp,Nat.zero_le _,h0⟩,?_⟩
 rintro i m ys H ⟨rfl,hi,p⟩
 have hly:=hlen i ys H p
 have q:=hl i ys H hi p
 by_cases hlt:i < xs.length
 ·refine .inr ⟨⟨xs,xs[i],q,by simp [hlt]⟩,by omega,Pv (i + 1),fun ys' H' p'=>⟨xs.length - (i + 1),by omega,rfl,hlt,p'⟩,fun x H' y=>?_⟩
  obtain ⟨e,y⟩:=y
  subst e
  exact hs i x ys _ (y xs q) p
 ·have e:i=xs.length:=by omega
  subst e
  exact .inl ⟨⟨xs,q,Nat.le_refl _⟩,hd ys H p⟩
theorem fp_range {σ:St} {lo:Int} {n:Nat} {G:St→Hp→Prop} {B:(St→Hp→Prop)→V→St→Hp→Prop} (Pv:Nat→St→Hp→Prop) (h0:Pv 0 σ H) (hs:∀ i σ H,i < n→Pv i σ H→B (Pv (i + 1)) (.int (lo + i)) σ H) (hd:∀ σ H,Pv n σ H→G σ H):
  ∃ W:Nat→Nat→St→Hp→Prop,(∃ m,W 0 m σ H)∧∀ i m σ H,W i m σ H→((Itr lo n).stop i H∧G σ H)∨((Itr lo n).go i H∧
   ∃ N:St→Hp→Prop,(∀ σ' H',N σ' H'→∃ m',m' < m∧W (i + 1) m' σ' H')∧∀ x H',(Itr lo n).yld i H x H'→B N x σ H'):=by
 refine ⟨fun i m σ H=>m=n - i∧i≤n∧Pv i σ H,⟨n,by simp,Nat.zero_le _,h0⟩,?_⟩
 rintro i m σ H ⟨rfl,hi,p⟩
 by_cases hlt:i < n
 ·refine .inr ⟨hlt,Pv (i + 1),fun σ' H' p'=>⟨n - (i + 1),by omega,rfl,hlt,p'⟩,fun x H' y=>?_⟩
  obtain ⟨e,y⟩:=y
  subst e y
  exact hs i σ _ hlt p
 ·have e:i=n:=by omega
  subst e
  exact .inl ⟨Nat.le_refl _,hd σ H p⟩
theorem fp_tup {σ:St} {a:Addr} {xs:List V} {G:St→Hp→Prop} {B:(St→Hp→Prop)→V→St→Hp→Prop} (Pv:Nat→St→Hp→Prop) (h0:Pv 0 σ H) (hl:∀ i σ H,i≤xs.length→Pv i σ H→SqT K H a xs)
  (hs:∀ i x σ H,xs[i]? =some x→Pv i σ H→B (Pv (i + 1)) x σ H) (hd:∀ σ H,Pv xs.length σ H→G σ H):
  ∃ W:Nat→Nat→St→Hp→Prop,(∃ m,W 0 m σ H)∧∀ i m σ H,W i m σ H→((Itt K a).stop i H∧G σ H)∨((Itt K a).go i H∧
   ∃ N:St→Hp→Prop,(∀ σ' H',N σ' H'→∃ m',m' < m∧W (i + 1) m' σ' H')∧∀ x H',(Itt K a).yld i H x H'→B N x σ H'):=by
 refine ⟨fun i m σ H=>m=xs.length - i∧i≤xs.length∧Pv i σ H,⟨xs.length,by simp,Nat.zero_le _,h0⟩,?_⟩
 rintro i m σ H ⟨rfl,hi,p⟩
 have q:=hl i σ H hi p
 by_cases hlt:i < xs.length
 ·refine .inr ⟨⟨xs,xs[i],q,by simp [hlt]⟩,Pv (i + 1),fun σ' H' p'=>⟨xs.length - (i + 1),by omega,rfl,hlt,p'⟩,fun x H' y=>?_⟩
  obtain ⟨e,y⟩:=y
  subst e
  exact hs i x σ _ (y xs q) p
 ·have e:i=xs.length:=by omega
  subst e
  exact .inl ⟨⟨xs,q,Nat.le_refl _⟩,hd σ H p⟩
theorem fp_list {σ:St} {a:Addr} {xs:List V} {G:St→Hp→Prop} {B:(St→Hp→Prop)→V→St→Hp→Prop} (Pv:Nat→St→Hp→Prop) (h0:Pv 0 σ H) (hl:∀ i σ H,i≤xs.length→Pv i σ H→SqL K H a xs)
  (hs:∀ i x σ H,xs[i]? =some x→Pv i σ H→B (Pv (i + 1)) x σ H) (hd:∀ σ H,Pv xs.length σ H→G σ H):
  ∃ W:Nat→Nat→St→Hp→Prop,(∃ m,W 0 m σ H)∧∀ i m σ H,W i m σ H→((Itl K a).stop i H∧G σ H)∨((Itl K a).go i H∧
   ∃ N:St→Hp→Prop,(∀ σ' H',N σ' H'→∃ m',m' < m∧W (i + 1) m' σ' H')∧∀ x H',(Itl K a).yld i H x H'→B N x σ H'):=by
 refine ⟨fun i m σ H=>m=xs.length - i∧i≤xs.length∧Pv i σ H,⟨xs.length,by simp,Nat.zero_le _,h0⟩,?_⟩
 rintro i m σ H ⟨rfl,hi,p⟩
 have q:=hl i σ H hi p
 by_cases hlt:i < xs.length
 ·refine .inr ⟨⟨xs,xs[i],q,by simp [hlt]⟩,Pv (i + 1),fun σ' H' p'=>⟨xs.length - (i + 1),by omega,rfl,hlt,p'⟩,fun x H' y=>?_⟩
  obtain ⟨e,y⟩:=y
  subst e
  exact hs i x σ _ (y xs q) p
 ·have e:i=xs.length:=by omega
  subst e
  exact .inl ⟨⟨xs,q,Nat.le_refl _⟩,hd σ H p⟩
end
end L2
namespace L2
open PySem PySem.Spec PyProof.Rows
noncomputable def rEqNil (K:PySem.W.Frag):R2:=fun x y H Q=>∃ p q ns,x=.ref p∧y=.ref q∧SqL K H p (ns.map V.int)∧SqL K H q []∧Q (.bl (decide (ns=[]))) H
theorem op_eqNil {X:Cx} (hu:X.A.units < cLine):OpR X (compareOp .Eq) (rEqNil X.K):=by
 intro pins s σ H x y v u Q I rx ry h
 obtain ⟨p,q,ns,rfl,rfl,h1,h2,hq⟩:=h
 cases (show v=Value.ref p from rx)
 cases (show u=Value.ref q from ry)
 obtain ⟨its,r1,p1,_⟩:=I.list h1
 obtain ⟨its2,r2,p2,_⟩:=I.list h2
 have e2:its2=[]:=by cases r2;rfl
 subst e2
 have hl:=r1.length
 rw [List.length_map] at hl
 match ns,hl with
 | [],hl=>
  have e1:its=[]:=by
   have:its.length=0:=by simpa using hl.symm
   exact List.length_eq_zero_iff.mp this
  subst e1
  exact SeqAt.eq_listAt (e:=fun _=>true) p1.isList p2.isList rfl hu (fun j g _=>absurd g (Nat.not_lt_zero _)) ⟨.bl true,H,I,rfl,hq⟩
 | n::ns,hl=>
  refine SeqAt.eq_list_lengthsAt p1.isList p2.isList ?_ hu ⟨.bl false,H,I,rfl,hq⟩
  have:its.length=ns.length + 1:=by simpa using hl.symm
  simp [this]
theorem k_eqNil {X:Cx} (K:PySem.W.Frag) (hu:X.A.units < cLine) (h:X.K=K:=by rfl):OpR X (compareOp .Eq) (rEqNil K):=h▸op_eqNil hu
section
variable {σ:St} {H:Hp} {Q:VK} {K:PySem.W.Frag}
theorem rd_lenS {p:Addr} {xs:List V} (e:SqL K H p xs) (h:Q (.int xs.length) H):rLen K [.ref p] H Q:=⟨p,xs,rfl,.inl e,h⟩
theorem rd_ixS {p:Addr} {xs:List V} {i:Int} {v:V} (e:SqL K H p xs) (a:atI xs i=some v) (h:Q v H):rIxA K (.ref p) (.int i) H Q:=⟨p,xs,i,v,rfl,rfl,.inl e,a,h⟩
theorem rd_extend {l b:Addr} {xs zs:List V} (e:H l=some (.lst xs)) (e2:H b=some (.lst zs)) (hz:xs.length + zs.length≤sizeLine) (h:Q .non (upd H l (.lst (xs++zs)))):rExtend (.ref l) [.ref b] H Q:=⟨l,b,xs,zs,rfl,rfl,e,e2,hz,h⟩
end
noncomputable def Scr (K:PySem.W.Frag) (H:Hp) (a:Addr) (ns:List Int):Prop:=(∃ o,H a=some (.frz o (.lst (ns.map V.int))))∨
 ∃ (o:Obj) (its:Array Value) (n:Nat),K.lookup a=some o∧o.cls=.type "list"∧o.dict=none∧o.data=.seq its n∧its.size≤sizeLine∧Vals (ns.map V.int) its.toList
theorem Scr.sq {K:PySem.W.Frag} {H:Hp} {a:Addr} {ns:List Int} (h:Scr K H a ns):SqL K H a (ns.map V.int):=by
 rcases h with ⟨o,h⟩ | h
 ·exact .inl (.inr ⟨o,h⟩)
 ·exact .inr h
theorem Scr.of {K:PySem.W.Frag} {H:Hp} {a:Addr} {ns:List Int} (hO:Only H) (h:SqL K H a (ns.map V.int)):Scr K H a ns:=by
 rcases h with (h | ⟨o,h⟩) | h
 ·rcases hO a with g | ⟨o,xs,g⟩
  ·rw [g] at h;cases h
  ·rw [g] at h;cases h
 ·exact .inl ⟨o,h⟩
 ·exact .inr h
noncomputable def SameT (w:Addr) (H H':Hp):Prop:=∀ b u,H b=some u→b≠w→H' b=some u
theorem SameT.refl (w:Addr) (H:Hp):SameT w H H:=fun _ _ h _=>h
theorem SameT.trans {w:Addr} {H H1 H2:Hp} (a:SameT w H H1) (b:SameT w H1 H2):SameT w H H2:=fun c u h g=>b c u (a c u h g) g
theorem Same.t {w:Addr} {H H':Hp} (h:Same H H'):SameT w H H':=fun b u e _=>h b u e
theorem Scr.t {K:PySem.W.Frag} {H H':Hp} {w a:Addr} {ns:List Int} {ts:List V} (hw:H w=some (.lst ts)) (s:SameT w H H') (h:Scr K H a ns):Scr K H' a ns:=by
 rcases h with ⟨o,h⟩ | h
 ·exact .inl ⟨o,s _ _ h (ne_of h hw (by intro z;cases z))⟩
 ·exact .inr h
theorem Scr.same {K:PySem.W.Frag} {H H':Hp} {a:Addr} {ns:List Int} (s:Same H H') (h:Scr K H a ns):Scr K H' a ns:=by
 rcases h with ⟨o,h⟩ | h
 ·exact .inl ⟨o,s _ _ h⟩
 ·exact .inr h
end L2
namespace L2
open PySem PySem.Spec PyProof.Rows
noncomputable def rCatU:R2:=fun x y H Q=>∃ a b xs ys,x=.ref a∧y=.ref b∧H a=some (.tup xs)∧H b=some (.tup ys)∧xs.length + ys.length≤sizeLine∧∀ r H',Same H H'→H' r=some (.tup (xs++ys))→Q (.ref r) H'
theorem op_catU {X:Cx}:OpR X (binaryOp .Add) rCatU:=by
 intro pins s σ H x y v u Q I rx ry h
 obtain ⟨a,b,xs,ys,rfl,rfl,ha,hb,hz,q⟩:=h
 by_cases hx:xs=[]
 ·subst hx
  cases (show v=Value.ref a from rx)
  cases (show u=Value.ref b from ry)
  obtain ⟨its,r1,p1,_⟩:=I.tuple (SqT.of ha)
  obtain ⟨its2,r2,p2,_⟩:=I.tuple (SqT.of hb)
  obtain ⟨⟨cls,dd,data,sl⟩,ho,hc,n,hd⟩:=p1
  obtain ⟨⟨cls2,dd2,data2,sl2⟩,ho2,hc2,n2,hd2⟩:=p2
  simp only at hc hd hc2 hd2
  subst hc hd hc2 hd2
  have e0:its=[]:=r1.nil_iff.mpr rfl
  exact concat_meets ⟨_,ho,rfl⟩ ⟨_,ho2,rfl⟩ noFill_tuple_add seq_tuple_add PySem.F.slot_tuple_add PySem.F.entry_tuple_add (PySem.F.args_tuple_add_2 _ _)
   (tuple_addW0 a b its.toArray its2.toArray n n2 dd dd2 sl sl2 (by simp [e0])) ⟨ho,ho2,⟨.ref b,H,I,rfl,q b H (Same.refl H) hb⟩⟩
 ·refine op_catT pins s σ H _ _ v u Q I rx ry ⟨a,b,xs,ys,rfl,rfl,SqT.of ha,SqT.of hb,hx,hz,fun e=>?_,fun e p hp=>?_⟩
  ·subst e
   exact q a H (Same.refl H) (by rw [List.append_nil];exact ha)
  ·exact q p _ (fun b u e=>by rw [upd_ne (ne_of_none e hp)];exact e) upd_same
section
variable {σ:St} {H:Hp} {Q:VK} {D:Ends} {K:PySem.W.Frag}
theorem rd_ifE {t:TT} {ta tb:TE} (h:t σ H fun c H1=>if c=true then ta σ H1 Q else tb σ H1 Q):tIf t ta tb σ H Q:=h
theorem rd_catU {a b:Addr} {xs ys:List V} (ha:H a=some (.tup xs)) (hb:H b=some (.tup ys)) (hz:xs.length + ys.length≤sizeLine) (h:∀ r H',Same H H'→H' r=some (.tup (xs++ys))→Q (.ref r) H'):rCatU (.ref a) (.ref b) H Q:=
 ⟨a,b,xs,ys,rfl,rfl,ha,hb,hz,h⟩
theorem rd_cat {a b:Addr} {xs ys:List V} (ha:H a=some (.lst xs)) (hb:H b=some (.lst ys)) (hz:xs.length + ys.length≤sizeLine) (h:∀ p,H p=none→Q (.ref p) (upd H p (.lst (xs++ys)))):rCat (.ref a) (.ref b) H Q:=
 ⟨a,b,xs,ys,rfl,rfl,ha,hb,hz,h⟩
theorem rd_lstL {p:Addr} {ys:List V} (e:H p=some (.lst ys)) (h:∀ l,H l=none→Q (.ref l) (upd H l (.lst ys))):rLstOf K [.ref p] H Q:=⟨p,ys,rfl,.inl (SqL.of e),h⟩
end
end L2
namespace L2
open PySem PySem.Spec PyProof.Rows
section
variable {prog:Program} {w:World} {A:Around} {E:Value→Shared→Prop} {s:Shared}
end
section
variable {X:Cx}
end
section
variable {H:Hp} {Q:VK} {K:PySem.W.Frag}
end
end L2
namespace L2
open PySem PySem.Spec PyProof.Rows
structure XEnd (P:Program) (w:World) (outer:List Env) (H:Hp) (s:Shared) (e C t:Addr) (H':Hp) (B:Heap) (s':Shared):Prop where
 os:s'.os=s.os
 bare:AllBare s'.gens
 un:Un (frs outer) [] H H' s.heap s'.heap
 cov:∀ b o,s.heap.get? b=some o→H b=none→b∉frs outer→B.get? b=some o
 thr:∀ b o,s.heap.get? b=some o→b∉frs outer→∃ o',B.get? b=some o'
 hok:HOk P w H' B
 fl:Heap.FlyingW B outer e (.ref C) (.ref t) s'.heap
noncomputable abbrev CXE (P:Program) (w:World):CXT:=fun outer H s E ev s'=>∃ e C t H' B,ev=.ref e∧XEnd P w outer H s e C t H' B s'∧E (.ref C) none H'
section
variable {CX:CXT} {P:Program} {w:World} {K:PySem.W.Frag} {mg:Str→Option Value} {base:Heap} {N:List Str} {qual:Str} {scope:Scope} {f:Addr} {cd:Value} {A:Around} {outer:List Env} {s₀:Shared} {H₀:Hp} {E:XK}
 {pins:List (Addr×Obj)} {σ:St} {H:Hp} {s:Shared}
theorem frs_sub {b:Addr} (hb:b∈frs (envOfC qual scope s₀.heap.objs.size f cd::outer)):b=s₀.heap.objs.size∨b∈frs outer:=by
 have e:frs (envOfC qual scope s₀.heap.objs.size f cd::outer)=s₀.heap.objs.size::frs outer:=rfl
 rw [e] at hb
 exact List.mem_cons.mp hb
theorem frs_not {b:Addr} {o:Obj} (h:s₀.heap.get? b=some o) (hb:b∉frs outer):b∉frs (envOfC qual scope s₀.heap.objs.size f cd::outer):=fun z=>by
 rcases frs_sub z with e | e
 ·exact Nat.lt_irrefl _ (e▸Heap.lt_size h)
 ·exact hb e
theorem XEnd.out {e C t:Addr} {H':Hp} {B h':Heap} {s':Shared} (I:Inv (cxOf CX P w K mg base N qual scope f cd A outer s₀ H₀ E) pins σ H s) (x:XEnd P w (envOfC qual scope s₀.heap.objs.size f cd::outer) H s e C t H' B s')
  (fl:Heap.FlyingW B outer e (.ref C) (.ref t) h') (up:s'.heap.UpToSlots h'):XEnd P w outer H₀ s₀ e C t H' B { s' with heap:=h' }:=by
 have cov:∀ b o,s₀.heap.get? b=some o→H₀ b=none→b∉frs outer→B.get? b=some o:=fun b o q n nb=>
  x.cov b o (I.base.keep b o q n nb (fun z=>nomatch z)) (I.base.free b o q n (fun z=>nomatch z)) (frs_not q nb)
 have thr:∀ b o,s₀.heap.get? b=some o→b∉frs outer→∃ o',B.get? b=some o':=fun b o q nb=>by
  obtain ⟨o',e'⟩:=I.base.there b o q (fun z=>nomatch z)
  exact x.thr b o' e' (frs_not q nb)
 have slot:∀ b o,s₀.heap.get? b=some o→b∈frs outer→∃ sl,h'.get? b=some { o with slots:=sl }:=fun b o q nb=>by
  have n:H₀ b=none:=I.ok.frf b nb
  obtain ⟨sl,e1⟩:=I.base.slot b o q n nb (fun z=>nomatch z)
  obtain ⟨sl2,e2⟩:=x.un.slot b _ e1 (I.base.free b o q n (fun z=>nomatch z)) (List.mem_cons_of_mem _ nb) (fun z=>nomatch z)
  obtain ⟨_,o3,e3,d3⟩:=I.ok.funs.mem nb
  have:o3=o:=by
   have e3':s₀.heap.get? b=some o3:=e3
   rw [q] at e3'
   exact (Option.some.inj e3').symm
  subst this
  obtain ⟨sl4,e4⟩:=up b _ e2 d3
  exact ⟨sl4,e4⟩
 refine ⟨x.os.trans I.os,x.bare,⟨fun b o q n nb _=>fl.1 b o (cov b o q n nb),fun b o q _ nb _=>slot b o q nb,fun b o q n _=>?_,fun b o q _=>?_,fun b xs q=>?_,fun b o u q=>?_,fun b ps q=>?_⟩,cov,thr,x.hok,fl⟩
 ·obtain ⟨o',e'⟩:=I.base.there b o q (fun z=>nomatch z)
  exact x.un.free b o' e' (I.base.free b o q n (fun z=>nomatch z)) (fun z=>nomatch z)
 ·by_cases nb:b∈frs outer
  ·obtain ⟨sl,e'⟩:=slot b o q nb
   exact ⟨_,e'⟩
  ·obtain ⟨o',e'⟩:=thr b o q nb
   exact ⟨o',fl.1 b o' e'⟩
 ·exact x.un.tups b xs (I.base.tups b xs q)
 ·exact x.un.frzs b o u (I.base.frzs b o u q)
 ·obtain ⟨m1,e1⟩:=I.base.tbls b ps q
  obtain ⟨m2,e2⟩:=x.un.tbls b _ e1
  exact ⟨m1++m2,by rw [e2,Array.append_assoc]⟩
theorem made_leaves {e C:Addr} {h':Heap} {vs:List Value} (I:Inv (cxOf (CXE P w) P w K mg base N qual scope f cd A outer s₀ H₀ E) pins σ H s) (hx:Heap.MadeExcOf s.heap h' e (.ref C) vs) (q:E (.ref C) none H):
  (cxOf (CXE P w) P w K mg base N qual scope f cd A outer s₀ H₀ E).xe (.ref e) { s with heap:=h' }:=by
 have st:s.heap.FunFrames base (envOfC qual scope s₀.heap.objs.size f cd::outer):=I.stack
 have hin:∀ env∈(envOfC qual scope s₀.heap.objs.size f cd::outer),∀ a,env.frame=some a→a∈frs (envOfC qual scope s₀.heap.objs.size f cd::outer):=fun env he a hf=>List.mem_filterMap.mpr ⟨env,he,hf⟩
 have hB:∀ b o,s.heap.get? b=some o→b∉frs (envOfC qual scope s₀.heap.objs.size f cd::outer)→(PySem.W.hideAll s.heap (frs (envOfC qual scope s₀.heap.objs.size f cd::outer))).get? b=some o:=fun b o q nb=>PySem.W.hideAll_get _ q nb
 have hok:HOk P w H (PySem.W.hideAll s.heap (frs (envOfC qual scope s₀.heap.objs.size f cd::outer))):=fun a o ea=>
  (I.hok a o ea).stay (fun b u hb q=>hB b u q fun z=>by
   have n:=I.stkFree b z
   rcases hb with rfl | hb
   ·rw [n] at ea;cases ea
   ·rw [n] at hb;cases hb) (fun _ q=>q) fun _ _ q=>q
 show wpAny (model P w) (A.deeper (envOfC qual scope s₀.heap.objs.size f cd)) (leaving (envOfC qual scope s₀.heap.objs.size f cd) (.ref e)) _ _ { s with heap:=h' }
 refine wpAny_leaves_madeW (base:=PySem.W.hideAll s.heap (frs (envOfC qual scope s₀.heap.objs.size f cd::outer))) (h:=s.heap) (L:=s₀.heap.objs.size) I.ok.frames rfl (fun b o q=>PySem.W.of_hideAll _ q) (PySem.W.funFrames_hide st hin) hx fun h2 t fl _ _ up=>?_
 generalize PySem.W.hideAll s.heap (frs (envOfC qual scope s₀.heap.objs.size f cd::outer))=B at hB hok fl
 refine ⟨e,C,t,H,B,rfl,?_,q⟩
 have cov:∀ b o,s₀.heap.get? b=some o→H₀ b=none→b∉frs outer→B.get? b=some o:=fun b o q n nb=>
  hB b o (I.base.keep b o q n nb (fun z=>nomatch z)) (frs_not q nb)
 have thr:∀ b o,s₀.heap.get? b=some o→b∉frs outer→∃ o',B.get? b=some o':=fun b o q nb=>by
  obtain ⟨o',e'⟩:=I.base.there b o q (fun z=>nomatch z)
  exact ⟨o',hB b o' e' (frs_not q nb)⟩
 have slot:∀ b o,s₀.heap.get? b=some o→b∈frs outer→∃ sl,h2.get? b=some { o with slots:=sl }:=fun b o q nb=>by
  obtain ⟨sl,e1⟩:=I.base.slot b o q (I.ok.frf b nb) nb (fun z=>nomatch z)
  obtain ⟨_,o3,e3,d3⟩:=I.ok.funs.mem nb
  have:o3=o:=by
   have e3':s₀.heap.get? b=some o3:=e3
   rw [q] at e3'
   exact (Option.some.inj e3').symm
  subst this
  obtain ⟨sl4,e4⟩:=up b _ (hx.keeps _ _ e1) d3
  exact ⟨sl4,e4⟩
 refine ⟨I.os,I.bare,⟨fun b o q n nb _=>fl.1 b o (cov b o q n nb),fun b o q _ nb _=>slot b o q nb,fun b o q n _=>I.base.free b o q n (fun z=>nomatch z),fun b o q _=>?_,I.base.tups,I.base.frzs,I.base.tbls⟩,cov,thr,hok,fl⟩
 by_cases nb:b∈frs outer
 ·obtain ⟨sl,e'⟩:=slot b o q nb
  exact ⟨_,e'⟩
 ·obtain ⟨o',e'⟩:=thr b o q nb
  exact ⟨o',fl.1 b o' e'⟩
abbrev bmV:List Value:=[.type "ValueError",.type "Exception",.type "BaseException",.type "object"]
noncomputable def tRaise (E:XK) (C:Addr) (t:TA):TS:=fun _ σ H=>t σ H fun vs H1=>vs.length≤sizeLine∧E (.ref C) none H1
theorem own_at {x:Str} {C:Addr} {bmB:List Value} {newId:String} (M:Mod K mg base) (hm:mg x=some (.ref C)) (q:PySem.W.excIn K C bmB newId=true):OwnCls x C bmB newId mg base:=by
 refine ⟨hm,?_⟩
 have X:=M.kin
 unfold PySem.W.excIn at q
 split at q
 ·rename_i dd cd sl ho
  split at q
  ·rename_i C' bm k0 k1 k2 k3 n k5 h1 h2
   simp only [Bool.and_eq_true,beq_iff_eq,Bool.not_eq_true'] at q
   obtain ⟨⟨⟨⟨⟨rfl,rfl⟩,hdel⟩,ht⟩,hok⟩,hni⟩:=q
   obtain ⟨nm,bs,mro,ns,qn,hd,sn,sub,ab,col,del⟩:=cd
   dsimp only at h1 hdel hok hni
   subst h1 hdel
   have h3:sl=#[k0,k1,k2,k3,some (.builtin n),k5]:=by
    obtain ⟨l⟩:=sl
    simp only at h2
    rw [h2]
   subst h3
   exact ⟨bm,ns,nm,qn,bs,hd,sn,sub,ab,col,dd,k0,k1,k2,k3,k5,_,X _ _ ho,.of_isNs (PySem.W.isNs_of_in X hok),PySem.W.nsMap_none_of_in X hok hni,PySem.W.tail_of_in X ht⟩
  ·cases q
 ·cases q
theorem ps_raise {x:Str} {C:Addr} {np cpos pos:Pos} {e₀:Expr} {rest:List Expr} {t:TA} (hm:mg x=some (.ref C)) (qx:PySem.W.excIn K C bmV "ValueError.__new__"=true)
  (hg:Gl (cxOf (CXE P w) P w K mg base N qual scope f cd A outer s₀ H₀ E) x) (ha:PA (cxOf (CXE P w) P w K mg base N qual scope f cd A outer s₀ H₀ E) (e₀::rest) t)
  (he:starEach (e₀::rest) (cxOf (CXE P w) P w K mg base N qual scope f cd A outer s₀ H₀ E).env=(false,eval e₀ (cxOf (CXE P w) P w K mg base N qual scope f cd A outer s₀ H₀ E).env)::starEach rest (cxOf (CXE P w) P w K mg base N qual scope f cd A outer s₀ H₀ E).env:=by rfl)
  (hpl:(backTo cpos (starEach rest (cxOf (CXE P w) P w K mg base N qual scope f cd A outer s₀ H₀ E).env)).any (·.1)=false:=by rfl) (hdb:(x==("__debug__":Str))=false:=by decide):
  PS (cxOf (CXE P w) P w K mg base N qual scope f cd A outer s₀ H₀ E) (.Raise (some (.Call (.Name x np) (e₀::rest) [] cpos)) none pos) (tRaise E C t):=by
 intro pins s σ H D I h
 have O:OwnCls x C bmV "ValueError.__new__" mg base:=own_at I.ok.mod hm qx
 obtain ⟨tl,Nn,nm,q,bs,hdct,sn,sub,ab,col,dd,k0,k1,k2,k3,k5,mN,hC,hN,hni,T⟩:=O.obj
 refine wpAny_Raise_call_subU (C:=C) (nm:=nm) (q:=q) (N:=Nn) (bs:=bs) (bm:=tl) (hdct:=hdct) (sn:=sn) (sub:=sub) (ab:=ab) (col:=col) (dd:=dd) (k0:=k0) (k1:=k1) (k2:=k2) (k3:=k3) (k5:=k5)
  PySem.F.excBase_ValueError (by decide) PySem.F.excBase_ValueError (mN:=mN) (T.hasType PySem.F.excBase_ValueError.hasBase) (I.ok.hd rfl) (by rw [he];exact hpl) hni (ld_glob I hg O.bound ⟨rfl,?_⟩ hdb)
 have h1:=ha cpos pins s σ H _ I h
 rw [he] at h1 ⊢
 refine Calls.evalArgs_plain (wpAny_mono h1 (fun us s2 ⟨vs,H1,I1,r,q1,q2⟩=>⟨rfl,by rw [←r.length];exact q1,I1.bk _ _ hC,hN.keeps I1.bk,T.keeps I1.bk,fun h' e hm=>made_leaves I1 hm q2⟩) fun _ _ y=>y)
theorem Fun.okX {x qual:Str} {st:Stmt} {f:Addr} {fd:FuncData} {N ps:List Str} {k:Nat} {sp:Sp} (F:Fun K x qual st f fd) (S:FnScope N ps (defScope st)) (len:∀ vs H Q E,sp vs H Q E→vs.length=ps.length)
  (hbody:∀ (cdv:Value) (A:Around) (outer:List Env) (s:Shared) (H:Hp) (vs:List V) (Q:VK) (E:XK),Room k (A.deeper (envOfC qual (defScope st) s.heap.objs.size f cdv))→sp vs H Q E→
   ∃ t,PSs (cxOf (CXE P w) P w K mg base N qual (defScope st) f cdv A outer s H E) (defBody st) t∧t { nx:=fun _ H'=>Q .non H',rt:=Q } (start N vs) H):FnOk P w K mg base (CXE P w) (k + 1) f fd ps sp:=by
 obtain ⟨oc,od,kV,doc,pm,an,cdv,ct,osl,rfl,lk,hcd⟩:=F.ex
 exact fn_of lk hcd S len fun A outer s H vs Q E hr hsp=>hbody cdv A outer s H vs Q E hr hsp
end
end L2
namespace L2
open PySem PySem.Spec PyProof.Rows
section
variable {P:Program} {w:World} {l:List Env} {H H':Hp} {s s':Shared} {e C t:Addr} {B h':Heap}
theorem XEnd.move (x:XEnd P w l H s e C t H' B s') (fr:∀ b∈frs l,H b=none) (fl:Heap.FlyingW B l e (.ref C) (.ref t) h') (up:s'.heap.UpToSlots h'):XEnd P w l H s e C t H' B { s' with heap:=h' }:=by
 have slot:∀ b o,s.heap.get? b=some o→b∈frs l→∃ sl,h'.get? b=some { o with slots:=sl }:=fun b o q nb=>by
  obtain ⟨sl,e1⟩:=x.un.slot b o q (fr b nb) nb (fun z=>nomatch z)
  obtain ⟨_,o3,e3,d3⟩:=x.fl.2.2.1.mem nb
  have:o3={ o with slots:=sl }:=Option.some.inj (e3.symm.trans e1)
  subst this
  obtain ⟨sl2,e2⟩:=up b _ e1 d3
  exact ⟨sl2,e2⟩
 refine ⟨x.os,x.bare,⟨fun b o q n nb _=>fl.1 b o (x.cov b o q n nb),fun b o q _ nb _=>slot b o q nb,x.un.free,fun b o q _=>?_,x.un.tups,x.un.frzs,x.un.tbls⟩,x.cov,x.thr,x.hok,fl⟩
 by_cases nb:b∈frs l
 ·obtain ⟨sl,e1⟩:=slot b o q nb
  exact ⟨_,e1⟩
 ·obtain ⟨o',e1⟩:=x.thr b o q nb
  exact ⟨o',fl.1 b o' e1⟩
theorem XEnd.new (x:XEnd P w l H s e C t H' B s'):s.heap.get? e=none:=by
 cases q:s.heap.get? e with
 | none=>rfl
 | some o=>
  exfalso
  by_cases nb:e∈frs l
  ·obtain ⟨_,o3,e3,d3⟩:=x.fl.2.2.1.mem nb
   obtain ⟨oe,vs,he,_,hd,_⟩:=x.fl.first
   rw [e3] at he
   cases he
   exact d3 vs hd
  ·obtain ⟨o',e1⟩:=x.thr e o q nb
   rw [x.fl.2.1] at e1
   cases e1
theorem XEnd.free (x:XEnd P w l H s e C t H' B s'):H' e=none:=by
 cases q:H' e with
 | none=>rfl
 | some o=>
  obtain ⟨u,e1⟩:=(x.hok e o q).there
  rw [x.fl.2.1] at e1
  cases e1
end
section
variable {X:Cx} {pins:List (Addr×Obj)} {σ:St} {H H':Hp} {s s':Shared} {e C t:Addr} {B:Heap}
theorem Inv.exc (I:Inv X pins σ H s) (x:XEnd X.prog X.w X.stack H s e C t H' B s'):Inv X pins σ H' s':=
 I.call' x.os x.un (x.hok.kept x.fl.1) x.bare (fun _ z=>nomatch z)
noncomputable def excO (e C:Addr):HO:=.ext fun h=>∃ ob,h.get? e=some ob∧ob.cls=.ref C∧∃ vs,ob.data=.fields vs
theorem Inv.track {o:HO} (J:Inv X pins σ H s) (hn:H e=none) (h0:X.s₀.heap.get? e=none) (hL:e≠X.env.locals) (hc:∀ x c,X.env.cells.lookup x=some c→c≠e) (hp:∀ p∈X.pn++pins,p.1≠e)
  (ho:ObjOk X.prog X.w (upd H e o) s.heap e o):Inv X pins σ (upd H e o) s:=by
 have ne:∀ b u,H b=some u→b≠e:=fun b u q z=>by rw [z,hn] at q;cases q
 have up:∀ b u,H b=some u→upd H e o b=some u:=fun b u q=>by rw [upd_ne (ne b u q)];exact q
 refine ⟨J.ok,J.os,J.bare,⟨J.base.keep,J.base.slot,fun b ob q n hx=>?_,J.base.there,fun b xs q=>up _ _ (J.base.tups b xs q),fun b ob u q=>up _ _ (J.base.frzs b ob u q),fun b ps q=>?_⟩,J.loc,J.cell,?_,fun y c q=>?_,fun p hq=>?_,fun b u q=>?_,J.len⟩
 ·have:b≠e:=fun z=>by rw [z,h0] at q;cases q
  rw [upd_ne this]
  exact J.base.free b ob q n hx
 ·obtain ⟨m,q⟩:=J.base.tbls b ps q
  exact ⟨m,up _ _ q⟩
 ·rw [upd_ne (Ne.symm hL)];exact J.free
 ·rw [upd_ne (hc y c q)];exact J.freeC y c q
 ·obtain ⟨a1,a2,a3,a4,a5⟩:=J.pin p hq
  exact ⟨a1,by rw [upd_ne (hp p hq)];exact a2,a3,a4,a5⟩
 ·by_cases z:b=e
  ·subst z
   rw [upd_same] at q
   cases q
   exact ho
  ·rw [upd_ne z] at q
   exact (J.hok b u q).stay (fun _ _ _ q=>q) (fun c q=>up _ _ q) fun c xs q=>up _ _ q
theorem Inv.forget {i:Nat} {x:Str} {m:Str→Option Value} {v:Option Value} {h':Heap} {t':Nat} (I:Inv X pins σ H s) (hN:X.N.Nodup) (hi:X.N[i]? =some x) (hk:X.env.scope.names.lookup x=some .local)
  (hn:s.heap.Ns X.env.locals m) (hn':h'.Ns X.env.locals (fun y=>if y=x then v else m y)) (hs:Heap.SameBut X.env.locals s.heap h'):Inv X pins (σ.set i none) H { s with heap:=h',toks:=t' }:=by
 obtain ⟨m0,hn0,hl0⟩:=id I.loc
 obtain rfl:m0=m:=ns_one hn0 hn
 have nL:∀ b o,X.s₀.heap.get? b=some o→b≠X.env.locals:=fun b o q=>Nat.ne_of_lt (Nat.lt_of_lt_of_le (Heap.lt_size q) I.ok.above)
 refine ⟨I.ok,I.os,I.bare,⟨fun b o q n hb hx=>(hs.2 b (nL b o q)).trans (I.base.keep b o q n hb hx),fun b o q n hb hx=>?_,I.base.free,fun b o q hx=>?_,I.base.tups,I.base.frzs,I.base.tbls⟩,⟨_,hn',fun j y v' e1 e2 e3=>?_⟩,fun y c q=>?_,I.free,I.freeC,fun p hp=>?_,fun b ob q=>?_,by rw [List.length_set];exact I.len⟩
 ·obtain ⟨sl,e1⟩:=I.base.slot b o q n hb hx
  exact ⟨sl,(hs.2 b (nL b o q)).trans e1⟩
 ·obtain ⟨o',e1⟩:=I.base.there b o q hx
  exact ⟨o',(hs.2 b (nL b o q)).trans e1⟩
 ·have hj:j≠i:=fun z=>by
   subst z
   by_cases hlt:j < σ.length
   ·rw [List.getElem?_set_self hlt] at e2;cases e2
   ·rw [List.getElem?_eq_none (by rw [List.length_set];omega)] at e2;cases e2
  rw [List.getElem?_set_ne (Ne.symm hj)] at e2
  obtain ⟨u',r',q⟩:=hl0 j y v' e1 e2 e3
  refine ⟨u',r',?_⟩
  rcases q with ⟨k,q⟩ | ⟨k,c,q,z⟩
  ·refine .inl ⟨k,?_⟩
   have:y≠x:=fun q=>hj (nodup_ix hN e1 (q▸hi))
   simp [this,q]
  ·exact .inr ⟨k,c,q,z.sameBut hs (I.cne y c q)⟩
 ·obtain ⟨w',z⟩:=I.cell y c q
  exact ⟨w',z.sameBut hs (I.cne y c q)⟩
 ·obtain ⟨a1,a2,a3,a4,a5⟩:=I.pin p hp
  exact ⟨(hs.2 p.1 a3).trans a1,a2,a3,a4,a5⟩
 ·refine (I.hok b ob q).stay (fun c w' hc z=>(hs.2 c ?_).trans z) (fun _ z=>z) fun _ _ z=>z
  rintro rfl
  have fr:=I.free
  rcases hc with rfl | hc
  ·rw [fr] at q;cases q
  ·rw [fr] at hc;cases hc
noncomputable abbrev Cx.hand (X:Cx) (e:Addr):Cx:={ X with A:=X.A.mark (some (.ref e)),calm:=false,xe:=fun _ _=>False }
theorem Inv.hand (I:Inv X pins σ H s) (e:Addr):Inv (X.hand e) pins σ H s:=
 ⟨⟨I.ok.mod,I.ok.kind,I.ok.glob,I.ok.blt,I.ok.above,I.ok.inj,I.ok.has,I.ok.cab,(fun z=>absurd z Bool.false_ne_true),I.ok.frames,I.ok.stk,I.ok.exf,I.ok.bs,I.ok.bsz,I.ok.noex,I.ok.exfs,I.ok.funs,I.ok.frf⟩,I.os,I.bare,I.base,I.loc,I.cell,I.free,I.freeC,I.pin,I.hok,I.len⟩
theorem Inv.unhand (hd:X.calm=true→X.A.handled=none) (I:Inv (X.hand e) pins σ H s):Inv X pins σ H s:=
 ⟨⟨I.ok.mod,I.ok.kind,I.ok.glob,I.ok.blt,I.ok.above,I.ok.inj,I.ok.has,I.ok.cab,hd,I.ok.frames,I.ok.stk,I.ok.exf,I.ok.bs,I.ok.bsz,I.ok.noex,I.ok.exfs,I.ok.funs,I.ok.frf⟩,I.os,I.bare,I.base,I.loc,I.cell,I.free,I.freeC,I.pin,I.hok,I.len⟩
noncomputable def tHand (K:PySem.W.Frag) (Dc:Addr) (i:Nat) (th:TS) (D:Ends):XK:=fun cls _ H'=>∃ C,cls=.ref C∧PySem.W.exmOne K (.ref C) (.ref Dc)=some true∧∀ (e:Addr) (σ:St),H' e=none→i < σ.length→
 th { nx:=fun σ H=>D.nx (σ.set i none) H,rt:=D.rt,bk:=fun σ H=>D.bk (σ.set i none) H,ct:=fun σ H=>D.ct (σ.set i none) H } (σ.set i (some (.ref e))) (upd H' e (excO e C))
noncomputable abbrev Cx.pinned (X:Cx) (pn:List (Addr×Obj)) (E1:Value→Shared→Prop):Cx:={ X with pn:=pn,xe:=E1 }
theorem Inv.pn1 (I:Inv X pins σ H s) (E1:Value→Shared→Prop):Inv (X.pinned (X.pn++pins) E1) [] σ H s:=
 ⟨⟨I.ok.mod,I.ok.kind,I.ok.glob,I.ok.blt,I.ok.above,I.ok.inj,I.ok.has,I.ok.cab,I.ok.hd,I.ok.frames,I.ok.stk,I.ok.exf,I.ok.bs,I.ok.bsz,I.ok.noex,I.ok.exfs,I.ok.funs,I.ok.frf⟩,I.os,I.bare,I.base,I.loc,I.cell,I.free,I.freeC,fun p hp=>I.pin p (by simpa using hp),I.hok,I.len⟩
theorem Inv.unpn1 {E1:Value→Shared→Prop} {pins':List (Addr×Obj)} (I:Inv (X.pinned (X.pn++pins) E1) pins' σ H s):Inv X pins σ H s:=
 ⟨⟨I.ok.mod,I.ok.kind,I.ok.glob,I.ok.blt,I.ok.above,I.ok.inj,I.ok.has,I.ok.cab,I.ok.hd,I.ok.frames,I.ok.stk,I.ok.exf,I.ok.bs,I.ok.bsz,I.ok.noex,I.ok.exfs,I.ok.funs,I.ok.frf⟩,I.os,I.bare,I.base,I.loc,I.cell,I.free,I.freeC,fun p hp=>I.pin p (List.mem_append_left _ hp),I.hok,I.len⟩
theorem SP.unpinned {E1:Value→Shared→Prop} {pins':List (Addr×Obj)} {D:Ends} {f:Flow} (h:SP (X.pinned (X.pn++pins) E1) pins' D f s'):SP X pins D f s':=by
 cases f with
 | next=>obtain ⟨σ',H',I,q⟩:=h;exact ⟨σ',H',I.unpn1,q⟩
 | brk=>obtain ⟨σ',H',I,q⟩:=h;exact ⟨σ',H',I.unpn1,q⟩
 | cont=>obtain ⟨σ',H',I,q⟩:=h;exact ⟨σ',H',I.unpn1,q⟩
 | ret u=>obtain ⟨v,σ',H',I,r,q⟩:=h;exact ⟨v,σ',H',I.unpn1,r,q⟩
theorem ps_try {x n:Str} {Dc:Addr} {i:Nat} {np hpos pos:Pos} {body suite:List Stmt} {b₀:Stmt} {tb:XK→TS} {th:TS} (hcalm:X.calm=true) (hN:X.N.Nodup) (hi:X.N[i]? =some n) (hk:X.env.scope.names.lookup n=some .local)
  (hex:X.ex=[]) (hstk:X.stack=X.env::X.outer) (hfr:X.env.frame=some X.env.locals) (hg:Gl X x) (hm:X.mg x=some (.ref Dc))
  (hb:∀ (pn:List (Addr×Obj)) (E1:Value→Shared→Prop) (Eb:XK),Passes (CXE X.prog X.w) (X.pinned pn E1) Eb→PSs (X.pinned pn E1) body (tb Eb)) (hh:∀ e,PSs (X.hand e) (b₀::suite) th) (hdb:(x==("__debug__":Str))=false:=by decide):
  PS X (.Try body [.ExceptHandler (some (.Name x np)) (some n) (b₀::suite) hpos] [] [] pos) (fun D σ H=>tb (tHand X.K Dc i th D) D σ H):=by
 intro pins s σ H D I h
 refine wpAny_Try_except ?_
 refine wpAny_mono (hb (X.pn++pins) (fun ev s₁=>wpAny (model X.prog X.w) X.A (noteFrame ev X.env) (fun _ s₂=>wpAny (model X.prog X.w) X.A (setFlight ev none) (fun _ s₃=>wpAny (model X.prog X.w) X.A (handleBy ev X.env [.ExceptHandler (some (.Name x np)) (some n) (b₀::suite) hpos]) (SP X pins D) X.xe s₃) X.xe s₂) X.xe s₁)
  (tHand X.K Dc i th D) ?_ [] s σ H D (I.pn1 _) h) (fun f s1 hs=>?_) fun _ _ z=>z
 rotate_left
 ·cases f with
  | next=>exact wpAny_execs_nil (SP.unpinned hs)
  | brk=>exact SP.unpinned hs
  | cont=>exact SP.unpinned hs
  | ret u=>exact SP.unpinned hs
 intro pins' σ' H1 s1 ev s' I1 hx
 obtain ⟨e,C,t,H',B,rfl,x0,q⟩:=hx
 have I1:Inv X pins σ' H1 s1:=I1.unpn1
 obtain ⟨C',hC',hcm,q⟩:=q
 cases hC'
 have fr:∀ b∈frs X.stack,H1 b=none:=fun b hb=>I1.stkFree b hb
 have fls:=x0.fl
 have ef:(X.pinned (X.pn++pins) (fun ev s₁=>wpAny (model X.prog X.w) X.A (noteFrame ev X.env) (fun _ s₂=>wpAny (model X.prog X.w) X.A (setFlight ev none) (fun _ s₃=>wpAny (model X.prog X.w) X.A (handleBy ev X.env [.ExceptHandler (some (.Name x np)) (some n) (b₀::suite) hpos]) (SP X pins D) X.xe s₃) X.xe s₂) X.xe s₁)).stack=X.stack:=rfl
 rw [ef] at x0 fls
 rw [hstk] at fls
 show wpAny (model X.prog X.w) X.A (noteFrame (.ref e) X.env) _ _ s'
 refine wpAny_looks_onW (outer:=X.outer) (L:=X.env.locals) (by rw [←hstk];exact I1.ok.frames) hfr fls fun h4 held up4=>?_
 refine wpAny_landsW held fun h5 fl5 up5=>?_
 have x5:=x0.move fr (by rw [hstk];exact fl5) (up4.trans up5)
 have J5:=I1.exc x5
 have XI:X.K.In h5:=J5.kIn
 obtain ⟨ob,hob,hoc⟩:=fl5.there
 have LT:PySem.W.Looks (model X.prog X.w) h5 (typeOf (.ref e)) (.ref C):=hoc▸(PySem.W.Looks.ld hob).andThen .now
 have LM:PySem.W.Looks (model X.prog X.w) h5 (excMatches (.ref e) (.ref Dc)) true:=PySem.W.exm_one XI LT hcm
 refine wpAny_handleBy_cons (codeAny_handlers_test ?_) (by intro z;cases z)
 refine ld_glob (X:=X.hand e) (J5.hand e) hg hm ?_ hdb
 refine LM.here ?_
 refine codeAny_handlers_suite_as ?_
 refine lands_againW fl5 fun h6 fl6 up6=>?_
 have x6:=x5.move fr (by rw [hstk];exact fl6) up6
 have J6:Inv X pins σ' H' { s' with heap:=h6 }:=I1.exc x6
 obtain ⟨oe,vs,he,hec,hed,_⟩:=fl6.first
 have new1:s1.heap.get? e=none:=x0.new
 have J7:Inv X pins σ' (upd H' e (excO e C)) { s' with heap:=h6 }:=by
  refine J6.track x6.free ?_ ?_ ?_ ?_ ?_
  ·cases q0:X.s₀.heap.get? e with
   | none=>rfl
   | some o=>
    obtain ⟨o',q1⟩:=I1.base.there e o q0 (by rw [hex];exact fun z=>nomatch z)
    rw [new1] at q1;cases q1
  ·rintro rfl
   obtain ⟨m,⟨o,_,_,ho,_⟩,_⟩:=I1.loc
   rw [new1] at ho;cases ho
  ·rintro y c q1 rfl
   obtain ⟨v,o,ho,_⟩:=I1.cell y c q1
   rw [new1] at ho;cases ho
  ·rintro p hp rfl
   have:=(I1.pin p hp).1
   rw [new1] at this;cases this
  ·exact ⟨⟨oe,he,hec,vs,hed⟩,⟨oe,he⟩,fun h1 h2 ⟨o1,a1,a2⟩ k=>⟨o1,k _ a1,a2⟩⟩
 refine store_ok (X:=X.hand e) (v:=.ref e) (J7.hand e) hN hi (.inl hk) rfl (fun s8 J8=>?_) (.inr hk)
 refine wpAny_mono (hh e pins s8 _ _ _ J8 (q e σ' x6.free (by rw [I1.len];exact (List.getElem?_eq_some_iff.mp hi).1))) (fun f s9 hs=>?_) fun _ _ z=>False.elim z
 have fin:∀ (σ9:St) (H9:Hp),Inv (X.hand e) pins σ9 H9 s9→∀ (Q:Unit→Shared→Prop),(∀ s10,Inv X pins (σ9.set i none) H9 s10→Q () s10)→wpAny (model X.prog X.w) X.A (do bindName X.env n .none;unbindBehindTheSuite X.env n hpos) Q X.xe s9:=fun σ9 H9 J9 Q hQ=>by
  have J9:Inv X pins σ9 H9 s9:=J9.unhand I.ok.hd
  obtain ⟨m,hn,_⟩:=id J9.loc
  refine wpAny_nameGoes_keeps hk hn (by rw [J9.ok.kind];rfl) fun h' v hn' hs'=>hQ _ (J9.forget hN hi hk hn hn' hs')
 cases f with
 | next=>
  obtain ⟨σ9,H9,J9,q9⟩:=hs
  exact fin σ9 H9 J9 _ fun s10 J10=>⟨_,_,J10,q9⟩
 | brk=>
  obtain ⟨σ9,H9,J9,q9⟩:=hs
  exact fin σ9 H9 J9 _ fun s10 J10=>⟨_,_,J10,q9⟩
 | cont=>
  obtain ⟨σ9,H9,J9,q9⟩:=hs
  exact fin σ9 H9 J9 _ fun s10 J10=>⟨_,_,J10,q9⟩
 | ret u=>
  obtain ⟨v,σ9,H9,J9,r9,q9⟩:=hs
  exact fin σ9 H9 J9 _ fun s10 J10=>⟨v,_,_,J10,r9,q9⟩
end
end L2
namespace L2
open PySem PySem.Spec PyProof.Rows
structure ExcC (K:PySem.W.Frag) (C:Addr):Prop where
 exc:PySem.W.excIn K C bmV "ValueError.__new__"=true
 ga:PySem.W.findIn K (.ref C) "__getattribute__"=some (some (.builtin "BaseException.__getattribute__"))
 gn:PySem.W.findIn K (.ref C) "__getattr__"=some none
 gc:PySem.W.findIn K (.ref C) "__class__"=some (some (.builtin "object.__class__"))
 sb:PySem.W.subIn K (.ref C) (.type "BaseException")=some true
 so:PySem.W.subIn K (.ref C) (.type "object")=some true
 cl:∃ cd,PySem.W.clsIn K C=some cd
section
variable {prog:Program} {w:World} {A:Around} {E:Value→Shared→Prop} {h:Heap} {g:Array GenState} {d:Drawn} {t:Nat} {os:OsState} {a C:Addr} {o:Obj} {K:PySem.W.Frag}
theorem class_get_exc {R:Result→Shared→Prop} (X:K.In h) (Z:ExcC K C) (hx:h.get? a=some o) (hc:o.cls=.ref C) (hq:R (.ok (.ret (.ref C))) ⟨h,g,d,t,os⟩):
  codeAny (model prog w) A (.call (.builtin "getset_descriptor.__get__") ⟨[.builtin "object.__class__",.ref a,.ref C],[]⟩) R ⟨h,g,d,t,os⟩:=by
 have hT5:(⟨h,g,d,t,os⟩:Shared).TypeIs (.builtin "object.__class__") "getset_descriptor":=F.typeOf_object_class
 have Ls:PySem.W.Looks (model prog w) h (isSubtype (.ref C) (.type (".".intercalate ("object.__class__".cutAt '.').dropLast))) true:=by
  rw [F.owner_object_class];exact PySem.W.looks_subIn X Z.so
 refine codeAny_call_builtin F.slot_gs_get.plain F.entry_gs_get (F.slot_gs_get.check _ _ _ _ _ _ _ _ hT5 (F.args_gs_get _ _ _) ?_)
 repeat (any_goals (first | assumption | (with_reducible refine wpAny_loadPart_at hx ?_;rw [hc]) | (with_reducible refine PySem.W.Looks.at Ls ?_) | wp_step))
 refine ⟨Code.quiet_builtin _ (by decide +kernel),codeAny_builtin F.entry_object_class ?_⟩
 repeat (any_goals (first | assumption | (with_reducible refine wpAny_loadPart_at hx ?_;rw [hc]) | wp_step))
theorem class_entry_exc {tk:Tok} {Q:Fin→Shared→Prop} (X:K.In h) (Z:ExcC K C) (hx:h.get? a=some o) (hc:o.cls=.ref C) (hq:Q (.done (.ret (.ref C))) ⟨h,g,d,t,os⟩):
  wpAny (model prog w) A (Builtin.«object.__getattribute__» ⟨[.ref a,.str "__class__" tk],[]⟩) Q E ⟨h,g,d,t,os⟩:=by
 have hT5:(⟨h,g,d,t,os⟩:Shared).TypeIs (.builtin "object.__class__") "getset_descriptor":=F.typeOf_object_class
 have f5:=F.typeOf_object_class
 have f6:=F.slot_gs_get.lookup
 have f7:=F.slot_gs_set.lookup
 have Lc:PySem.W.Looks (model prog w) h (typeLookup (.ref C) "__class__") (some (.builtin "object.__class__")):=PySem.W.looks_findIn X Z.gc
 repeat (any_goals (first | assumption | (with_reducible refine wpAny_loadPart_at hx ?_;rw [hc]) | (with_reducible refine PySem.W.Looks.at Lc ?_) | wp_step))
 refine class_get_exc X Z hx hc ?_
 repeat (any_goals (first | assumption | wp_step))
theorem check_ga_exc {M:Model} {nameV:Value} {Q:Unit→Shared→Prop} (X:K.In h) (Z:ExcC K C) (hx:h.get? a=some o) (hc:o.cls=.ref C) (hq:Q () ⟨h,g,d,t,os⟩):
  wpAny M A (checkBuiltinCall "BaseException.__getattribute__" ⟨[.ref a,nameV],[]⟩) Q E ⟨h,g,d,t,os⟩:=by
 have hk:builtinKind "BaseException.__getattribute__"=some .slot:=by decide +kernel
 have hsplit:splitId "BaseException.__getattribute__"=some ("BaseException","__getattribute__"):=by decide +kernel
 have ha:=F.args_bexc_ga (.ref a) nameV
 have Ls:PySem.W.Looks M h (isSubtype (.ref C) (.type "BaseException")) true:=PySem.W.looks_subIn X Z.sb
 simp only [checkBuiltinCall,hk,hsplit]
 refine wpAny_bind ?_
 unfold isInstance
 repeat (first | (with_reducible refine wpAny_loadPart_at hx ?_;rw [hc]) | (with_reducible refine PySem.W.Looks.at Ls ?_) | wp_step)
 exact hq
theorem class_call_exc {tk:Tok} {R:Result→Shared→Prop} (X:K.In h) (Z:ExcC K C) (hx:h.get? a=some o) (hc:o.cls=.ref C) (hq:R (.ok (.ret (.ref C))) ⟨h,g,d,t,os⟩):
  codeAny (model prog w) A (.call (.builtin "BaseException.__getattribute__") ⟨[.ref a,.str "__class__" tk],[]⟩) R ⟨h,g,d,t,os⟩:=
 codeAny_call_builtin PySem.F.excAttr_ValueError.ga.plain F.entry_bexc_ga (check_ga_exc X Z hx hc (class_entry_exc X Z hx hc hq))
theorem class_by_exc {tk:Tok} {Q:Value→Shared→Prop} (X:K.In h) (Z:ExcC K C) (hx:h.get? a=some o) (hc:o.cls=.ref C) (hq:Q (.ref C) ⟨h,g,d,t,os⟩):
  wpAny (model prog w) A (getAttrBy (.ref a) (.str "__class__" tk) false) Q E ⟨h,g,d,t,os⟩:=by
 have f3:=PySem.F.excAttr_ValueError.ga.bind (.ref a)
 have hx2:(Value.builtin "BaseException.__getattribute__"==Value.builtin "object.__getattribute__")=false:=by decide +kernel
 have L1:PySem.W.Looks (model prog w) h (typeLookup (.ref C) "__getattribute__") (some (.builtin "BaseException.__getattribute__")):=PySem.W.looks_findIn X Z.ga
 have L2:PySem.W.Looks (model prog w) h (typeLookup (.ref C) "__getattr__") none:=PySem.W.looks_findIn X Z.gn
 have hx1:(onTheHeap (Value.ref C)&&Value.builtin "BaseException.__getattribute__"==Value.builtin "object.__getattribute__")=false:=by rw [hx2];rfl
 repeat (any_goals (first | assumption | (with_reducible refine wpAny_loadPart_at hx ?_;rw [hc]) | (with_reducible refine PySem.W.Looks.at L1 ?_) | (with_reducible refine PySem.W.Looks.at L2 ?_) | wp_step))
 refine class_call_exc X Z hx hc ?_
 repeat (any_goals (first | assumption | wp_step))
theorem class_attr_exc {Q:Option Value→Shared→Prop} (X:K.In h) (Z:ExcC K C) (hx:h.get? a=some o) (hc:o.cls=.ref C) (hq:Q (some (.ref C)) ⟨h,g,d,t + 1,os⟩):
  wpAny (model prog w) A (getAttr? (.ref a) "__class__") Q E ⟨h,g,d,t,os⟩:=by
 unfold getAttr? getAttrBy?
 repeat (any_goals (first | assumption | with_reducible apply class_by_exc X Z hx hc | wp_step))
end
end L2
namespace L2
open PySem PySem.Spec PyProof.Rows
theorem kitx_exc {K:PySem.W.Frag} {e C:Addr} (Z:ExcC K C):PySem.W.KitX K (.ref e) (.ref C) (fun h=>∃ ob,h.get? e=some ob∧ob.cls=.ref C) where
 ty:=fun _ h _ ⟨ob,h1,h2⟩=>h2▸(PySem.W.Looks.ld h1).andThen .now
 it:=fun _ _ X _=>by
  obtain ⟨_,z⟩:=Z.cl
  unfold PySem.W.clsIn at z
  split at z
  ·rename_i c' d' cd' sl' ho
   intro A' Q' E' s' k q
   unfold isType loadHead
   exact wpAny_bind (wpAny_loadPart (k _ _ (X _ _ ho)) (wpAny_pure q))
  ·cases z
 ne:=fun h tp dd its n sl X htp=>by
  refine Bool.eq_false_iff.mpr fun q=>?_
  have e:C=tp:=Value.ref.inj (beq_iff_eq.mp q)
  subst e
  obtain ⟨_,z⟩:=Z.cl
  unfold PySem.W.clsIn at z
  split at z
  ·rename_i c' d' cd' sl' ho
   have z:=(X _ _ ho).symm.trans htp
   cases z
  ·cases z
 ca:=fun {_ _ _ _ _ s} X p k=>by
  obtain ⟨hh,g,d,t,os⟩:=s
  obtain ⟨ob,h1,h2⟩:=p
  exact class_attr_exc X Z h1 h2 k
theorem bt_ValueError:bootBuiltins "ValueError"=some (.type "ValueError"):=by decide +kernel
section
variable {X:Cx}
noncomputable def rIsX (K:PySem.W.Frag):List V→Hp→VK→Prop:=fun xs H Q=>∃ e C b,H e=some (excO e C)∧ExcC K C∧((∃ D,xs=[.ref e,.ref D]∧PySem.W.kitOne K (.ref C) (.ref D)=some b)∨∃ T,xs=[.ref e,.ty T]∧PySem.W.kitOne K (.ref C) (.type T)=some b)∧Q (.bl b) H
theorem call_isX:CallR X (.builtin "isinstance") (rIsX X.K):=by
 intro pins s σ H xs us Q I r h
 obtain ⟨e,C,b,he,Z,hk,q⟩:=h
 have ho:=I.hok e _ he
 obtain ⟨⟨ob,h1,h2,_⟩,_⟩:=ho
 rcases hk with ⟨D,rfl,hk⟩ | ⟨T,rfl,hk⟩
 ·obtain ⟨u,v,rfl,rx,ry⟩:=Vals.two r
  cases (show u=Value.ref e from rx)
  cases (show v=Value.ref D from ry)
  exact PySem.W.kia_one (kitx_exc Z) I.kIn ⟨ob,h1,h2⟩ hk (fun z=>nomatch z) fun tk=>⟨.bl _,H,I.tok tk,rfl,q⟩
 ·obtain ⟨u,v,rfl,rx,ry⟩:=Vals.two r
  cases (show u=Value.ref e from rx)
  cases (show v=Value.type T from ry)
  exact PySem.W.kia_one (kitx_exc Z) I.kIn ⟨ob,h1,h2⟩ hk (fun z=>nomatch z) fun tk=>⟨.bl _,H,I.tok tk,rfl,q⟩
theorem k_isX (K:PySem.W.Frag) (h:X.K=K:=by rfl):CallR X (.builtin "isinstance") (rIsX K):=h▸call_isX
theorem vals_bl:∀ {bs:List Bool} {us:List Value},Vals (bs.map V.bl) us→us=bs.map Value.bool
 | [],_,.nil=>rfl
 | b::bs,_,.cons r t=>by
  cases (show _=Value.bool b from r)
  rw [vals_bl t]
  rfl
noncomputable def isB (b:Bool):Value→Bool
 | .bool a=>a==b
 | _=>false
noncomputable def rCountB:V→List V→Hp→VK→Prop:=fun x vs H Q=>∃ (l:Addr) (bs:List Bool) (b:Bool),x=.ref l∧vs=[.bl b]∧H l=some (.lst (bs.map V.bl))∧Q (.int (bs.countP (· ==b):Nat)) H
theorem mt_countB:MtM X "list.count" rCountB:=by
 intro pins s σ H x vs v us Q I rx rv h
 obtain ⟨l,bs,b,rfl,rfl,hH,q⟩:=h
 cases (show v=Value.ref l from rx)
 obtain ⟨u,rfl,ru⟩:=rv.one
 cases (show u=Value.bool b from ru)
 obtain ⟨z,its,n,r,hl,e⟩:=I.lstM hH
 obtain rfl:=vals_bl r
 refine call_meets F.slot_list_count ⟨_,e,rfl⟩ F.entry_list_count (F.args_list_count_2 _ _) (SeqAt.list_countAt l _ n none #[] (.bool b) (isB b)) ⟨e,fun y hy=>?_,?_⟩
 ·have hy':y∈bs.map Value.bool:=by simpa using hy
  obtain ⟨a,_,rfl⟩:=List.mem_map.mp hy'
  exact SeqAt.EqAt.bool_bool a b
 ·refine ⟨.int _,H,I.tok _,⟨_,rfl⟩,?_⟩
  have:List.countP (isB b) (List.map Value.bool bs).toArray.toList=bs.countP (· ==b):=by
   rw [List.toList_toArray,List.countP_map]
   rfl
  rw [this]
  exact q
noncomputable def rIndexB:V→List V→Hp→VK→Prop:=fun x vs H Q=>∃ (l:Addr) (bs:List Bool) (b:Bool) (j:Nat),x=.ref l∧vs=[.bl b]∧H l=some (.lst (bs.map V.bl))∧bs[j]? =some b∧(∀ m,m < j→bs[m]? ≠some b)∧Q (.int (j:Nat)) H
theorem mt_indexB:MtM X "list.index" rIndexB:=by
 intro pins s σ H x vs v us Q I rx rv h
 obtain ⟨l,bs,b,j,rfl,rfl,hH,hj,hno,q⟩:=h
 cases (show v=Value.ref l from rx)
 obtain ⟨u,rfl,ru⟩:=rv.one
 cases (show u=Value.bool b from ru)
 obtain ⟨z,its,n,r,hl,e⟩:=I.lstM hH
 obtain rfl:=vals_bl r
 obtain ⟨hlt,hb⟩:=List.getElem?_eq_some_iff.mp hj
 have zz:(bs.map V.bl).length≤sizeLine:=by simpa using z
 rw [List.length_map] at zz
 have hsm:(j:Int) < 2 ^ 63 - 1:=by
  have:sizeLine < 2 ^ 62:=by decide
  omega
 refine call_meets F.slot_list_index ⟨_,e,rfl⟩ F.entry_list_index (F.args_list_index_2 _ _) (SeqAt.list_indexAt l _ n none #[] (.bool b) (isB b) j (by simpa using hlt) hsm (by simp [isB,hb]) (fun m hm hmj=>?_)) ⟨e,fun y hy=>?_,?_⟩
 ·have hm':m < bs.length:=by simpa using hm
  have:=hno m hmj
  rw [List.getElem?_eq_getElem hm'] at this
  have hne:bs[m]≠b:=fun z=>this (by rw [z])
  simp [isB,hne]
 ·have hy':y∈bs.map Value.bool:=by simpa using hy
  obtain ⟨a,_,rfl⟩:=List.mem_map.mp hy'
  exact SeqAt.EqAt.bool_bool a b
 ·exact ⟨.int _,H,I.tok _,⟨_,rfl⟩,q⟩
end
theorem kit_no {K:PySem.W.Frag} {C D:Addr} {cd:ClassData} (h0:(Value.ref C==Value.ref D)=false) (h1:PySem.W.clsIn K D=some cd) (h2:PySem.W.typeIn K (.ref D)=some (.type "type")) (h3:PySem.W.subIn K (.ref C) (.ref D)=some false):PySem.W.kitOne K (.ref C) (.ref D)=some false:=by
 unfold PySem.W.kitOne PySem.W.kitCls
 rw [if_neg (by rw [h0];exact Bool.false_ne_true)]
 dsimp only
 rw [h1,h2]
 exact (if_pos rfl).trans h3
theorem kit_yes {K:PySem.W.Frag} {C:Addr}:PySem.W.kitOne K (.ref C) (.ref C)=some true:=by
 unfold PySem.W.kitOne
 rw [if_pos (by simp)]
theorem kit_val {K:PySem.W.Frag} {C:Addr} (h3:PySem.W.subIn K (.ref C) (.type "ValueError")=some true):PySem.W.kitOne K (.ref C) (.type "ValueError")=some true:=by
 unfold PySem.W.kitOne PySem.W.kitCls
 rw [if_neg (by simp)]
 exact (if_pos (by decide +kernel)).trans h3
theorem exm_of {K:PySem.W.Frag} {C D:Addr} {cd:ClassData} (h0:PySem.W.subIn K (.ref D) (.type "BaseException")=some true) (h1:PySem.W.clsIn K D=some cd) (h2:PySem.W.typeIn K (.ref D)=some (.type "type")) (h3:PySem.W.subIn K (.ref C) (.ref D)=some true):PySem.W.exmOne K (.ref C) (.ref D)=some true:=by
 unfold PySem.W.exmOne PySem.W.kitCls
 rw [h0,if_pos (by rfl)]
 dsimp only
 rw [h1,h2]
 exact (if_pos rfl).trans h3
structure RoomH (k:Nat) (A:Around):Prop where
 dp:A.depth + 3 * k + 5 < recursionLimit
 un:A.units + 16 * k + 200 < cLine
theorem Room.mark {k:Nat} {A:Around} (r:Room k A) (v:Option Value):RoomH k (A.mark v):=⟨r.dp,r.un⟩
theorem RoomH.mono {j k:Nat} {A:Around} (r:RoomH k A) (h:j≤k):RoomH j A:=⟨by have:=r.dp;omega,by have:=r.un;omega⟩
theorem RoomH.deeper {k:Nat} {A:Around} (r:RoomH (k + 1) A) (env:Env):RoomH k (A.deeper env):=⟨by have:=r.dp;show A.depth + 1 + 3 * k + 5 < _;omega,by have:=r.un;show A.units + 3 + 16 * k + 200 < _;omega⟩
theorem RoomH.units {k:Nat} {A:Around} (r:RoomH k A):A.units + 64 < cLine:=by have:=r.un;omega
theorem RoomH.units0 {k:Nat} {A:Around} (r:RoomH k A):A.units < cLine:=by have:=r.un;omega
structure FnOkH (P:Program) (w:World) (K:PySem.W.Frag) (mg:Str→Option Value) (base:Heap) (k:Nat) (f:Addr) (fd:FuncData) (ps:List Str) (sp:Sp):Prop where
 len:∀ vs H Q E,sp vs H Q E→vs.length=ps.length
 run:∀ (A:Around) (outer:List Env) (s:Shared) (H:Hp) (args:Args) (us:List Value) (vs:List V) (Q:VK),RoomH k A→Env0 P w K mg base A outer s H→BindsTo s fd args (ps.zip us)→Vals vs us→sp vs H Q E0→
  codeAny (model P w) A (.call (.ref f) args) (CR CX0 outer P w H s Q E0) s
noncomputable abbrev cxH (P:Program) (w:World) (K:PySem.W.Frag) (mg:Str→Option Value) (base:Heap) (N:List Str) (qual:Str) (scope:Scope) (f:Addr) (cd:Value) (A:Around) (outer:List Env) (s:Shared) (H:Hp):Cx:=
 { cxOf CX0 P w K mg base N qual scope f cd A outer s H E0 with calm:=false,xe:=fun _ _=>False }
section
variable {P:Program} {w:World} {K:PySem.W.Frag} {mg:Str→Option Value} {base:Heap}
theorem Fun.okH {x qual:Str} {st:Stmt} {f:Addr} {fd:FuncData} {N ps:List Str} {k:Nat} {sp:Sp} (F:Fun K x qual st f fd) (S:FnScope N ps (defScope st)) (len:∀ vs H Q E,sp vs H Q E→vs.length=ps.length)
  (hbody:∀ (cdv:Value) (A:Around) (outer:List Env) (s:Shared) (H:Hp) (vs:List V) (Q:VK),RoomH k (A.deeper (envOfC qual (defScope st) s.heap.objs.size f cdv))→sp vs H Q E0→
   ∃ t,PSs (cxH P w K mg base N qual (defScope st) f cdv A outer s H) (defBody st) t∧t { nx:=fun _ H'=>Q .non H',rt:=Q } (start N vs) H):FnOkH P w K mg base (k + 1) f fd ps sp:=by
 obtain ⟨oc,od,kV,doc,pm,an,cdv,ct,osl,rfl,lk,hcd⟩:=F.ex
 refine ⟨len,fun A outer s H args us vs Q hr e0 hb r hsp=>?_⟩
 have hl:=len _ _ _ _ hsp
 have KX:K.In s.heap:=e0.mod.kin.keeps fun b o e=>(e0.bs b o e).1
 have lim:s.heap.NoLimit:=e0.mod.nolimit.keeps fun b o e=>(e0.bs b o e).1
 have hkind:∀ y∈ps.zip us,(defScope st).names.lookup y.1=some .local∨((defScope st).names.lookup y.1=some .cell∧((cellsFrom (s.heap.objs.size + 1) (defScope st).names []).lookup y.1).isSome=true):=fun ⟨n,v⟩ hy=>by
  rcases S.par n (List.of_mem_zip hy).1 with q | q
  ·exact .inl q
  ·exact .inr ⟨q,PySem.W.cellsFrom_some _ _ _ (.inl q)⟩
 refine codeAny_call_function (by have:=hr.dp;omega) (KX _ _ lk) rfl S.co S.gen rfl (PySem.W.codeRec_of KX hcd) (hb _ _ _ _ ?_)
 refine wpAny_newFunctionEnv_cells S.kind hkind fun env he s1 x=>?_
 subst he
 refine ⟨lim.keeps x.toInCall.keep,codeAny_func ?_⟩
 obtain ⟨t,ht,hq⟩:=hbody cdv A outer s H vs Q (hr.deeper _) hsp
 have e0':Env0 P w K mg base { A with handled:=none } outer s H:=⟨e0.frames,e0.mod,e0.bs,e0.bsz,e0.funs,e0.frf,e0.hok,e0.bare⟩
 have I0:Inv (cxOf CX0 P w K mg base N qual (defScope st) f cdv { A with handled:=none } outer s H E0) [] (start N vs) H s1:=inv_start S rfl e0' hl r x
 have I:Inv (cxH P w K mg base N qual (defScope st) f cdv A outer s H) [] (start N vs) H s1:=
  ⟨⟨I0.ok.mod,I0.ok.kind,I0.ok.glob,I0.ok.blt,I0.ok.above,I0.ok.inj,I0.ok.has,I0.ok.cab,(fun z=>absurd z Bool.false_ne_true),Around.frames_deeper e0.frames,I0.ok.stk,I0.ok.exf,I0.ok.bs,I0.ok.bsz,I0.ok.noex,I0.ok.exfs,I0.ok.funs,I0.ok.frf⟩,I0.os,I0.bare,I0.base,I0.loc,I0.cell,I0.free,I0.freeC,I0.pin,I0.hok,I0.len⟩
 refine wpAny_mono (ht [] s1 (start N vs) H _ I hq) (fun fl s' hs=>?_) fun e s' hs=>False.elim hs
 have fin:∀ {σ':St} {H':Hp} {v:V} {u:Value},Inv (cxH P w K mg base N qual (defScope st) f cdv A outer s H) [] σ' H' s'→RelV v u→Q v H'→CE outer P w H s Q u s':=
  fun {σ' H' v u} J rv q=>⟨v,H',J.os,J.bare,J.base,J.hok,rv,q⟩
 cases fl with
 | ret u=>
  obtain ⟨v,σ',H',J,rv,q⟩:=hs
  exact fin J rv q
 | next=>
  obtain ⟨σ',H',J,q⟩:=hs
  exact fin (v:=V.non) (u:=Value.none) J rfl q
 | brk=>
  obtain ⟨_,_,_,q⟩:=hs
  exact False.elim q
 | cont=>
  obtain ⟨_,_,_,q⟩:=hs
  exact False.elim q
end
section
variable {X:Cx} {k:Nat} {f:Addr} {fd:FuncData} {ps:List Str} {sp:Sp} {x:Str} {p pos:Pos} {e:Expr} {es:List Expr} {t:TA}
theorem pe_callH (F:FnOkH X.prog X.w X.K X.mg X.base k f fd ps sp) (hr:RoomH k X.A) (hg:Gl X x) (hm:X.mg x=some (.ref f)) (hk:PySem.W.keepIn X.K (.ref f)=true) (hb:Binds X.K fd ps [])
  (ha:PA X (e::es) t) (hdb:(x==("__debug__":Str))=false:=by decide) (he:starEach (e::es) X.env=(false,eval e X.env)::starEach es X.env:=by rfl) (hpl:(backTo pos (starEach es X.env)).any (·.1)=false:=by rfl):
  PE X (.Call (.Name x p) (e::es) [] pos) (tCall sp [] E0 t):=by
 intro pins s σ H Q I h
 refine wpAny_Call_Name_kw (ld_glob I hg hm ?_ hdb)
 refine PySem.W.callWith_K (h₀:=X.base) I.ok.mod.kin hk (thn (ha pos pins s σ H _ I h) fun us s1 ⟨vs,H1,I1,r,q⟩=>⟨I1.kIn,?_⟩) he hpl
 have q':sp vs H1 Q E0:=by simpa using q
 have hl:us.length=ps.length:=by rw [←r.length];exact F.len _ _ _ _ q'
 have hb':=hb s1 us I1.kIn (by simpa using hl)
 rw [List.append_nil] at hb'
 refine wpAny_call (codeAny_mono (F.run X.A X.stack s1 H1 ⟨us,[]⟩ us vs Q hr I1.env0 hb' r q') fun r s' hq=>?_)
 cases r with
 | error e=>exact hq.elim
 | ok fl=>
  cases fl with
  | ret u=>exact I1.after hq
  | next=>exact False.elim hq
  | brk=>exact False.elim hq
  | cont=>exact False.elim hq
end
section
variable {σ:St} {H:Hp} {Q:VK} {D:Ends} {K:PySem.W.Frag}
theorem rd_isXo {e C D:Addr} {b:Bool} (he:H e=some (excO e C)) (Z:ExcC K C) (hk:PySem.W.kitOne K (.ref C) (.ref D)=some b) (h:Q (.bl b) H):rIsX K [.ref e,.ref D] H Q:=⟨e,C,b,he,Z,.inl ⟨D,rfl,hk⟩,h⟩
theorem rd_isXt {e C:Addr} {T:String} {b:Bool} (he:H e=some (excO e C)) (Z:ExcC K C) (hk:PySem.W.kitOne K (.ref C) (.type T)=some b) (h:Q (.bl b) H):rIsX K [.ref e,.ty T] H Q:=⟨e,C,b,he,Z,.inr ⟨T,rfl,hk⟩,h⟩
theorem rd_countB {l:Addr} {bs:List Bool} {b:Bool} (hl:H l=some (.lst (bs.map V.bl))) (h:Q (.int (bs.countP (· ==b):Nat)) H):rCountB (.ref l) [.bl b] H Q:=⟨l,bs,b,rfl,rfl,hl,h⟩
theorem rd_indexB {l:Addr} {bs:List Bool} {b:Bool} {j:Nat} (hl:H l=some (.lst (bs.map V.bl))) (hj:bs[j]? =some b) (hno:∀ m,m < j→bs[m]? ≠some b) (h:Q (.int (j:Nat)) H):rIndexB (.ref l) [.bl b] H Q:=⟨l,bs,b,j,rfl,rfl,hl,hj,hno,h⟩
theorem rd_raise {E:XK} {C:Addr} {t:TA} (h:t σ H fun vs H1=>vs.length≤sizeLine∧E (.ref C) none H1):tRaise E C t D σ H:=h
end
end L2
namespace L2
open PySem PySem.Spec PyProof.Rows
noncomputable def Fresh (H H':Hp) (v:V) (d:PyData):Prop:=∀ H2:Hp,(∀ a u,H a=none→H' a=some u→H2 a=some u)→Is H2 v d
inductive FreshAll (H H':Hp):List V→List PyData→Prop
 | nil:FreshAll H H' [] []
 | cons {v:V} {d:PyData} {vs:List V} {ds:List PyData}:Fresh H H' v d→FreshAll H H' vs ds→FreshAll H H' (v::vs) (d::ds)
theorem Fresh.mono {H H1 H2 H3:Hp} {v:V} {d:PyData} (s1:Same H H1) (s2:Same H2 H3) (h:Fresh H1 H2 v d):Fresh H H3 v d:=fun K k=>h K fun a u n e=>k a u (by
 cases q:H a with
 | none=>rfl
 | some w=>rw [s1 _ _ q] at n;cases n) (s2 _ _ e)
theorem FreshAll.mono {H H1 H2 H3:Hp} (s1:Same H H1) (s2:Same H2 H3):∀ {vs:List V} {ds:List PyData},FreshAll H1 H2 vs ds→FreshAll H H3 vs ds
 | _,_,.nil=>.nil
 | _,_,.cons h t=>.cons (h.mono s1 s2) (t.mono s1 s2)
theorem FreshAll.length {H H':Hp}:∀ {vs:List V} {ds:List PyData},FreshAll H H' vs ds→vs.length=ds.length
 | _,_,.nil=>rfl
 | _,_,.cons _ t=>by rw [List.length_cons,List.length_cons,t.length]
theorem FreshAll.is {H H' H2:Hp} (k:∀ a u,H a=none→H' a=some u→H2 a=some u):∀ {vs:List V} {ds:List PyData},FreshAll H H' vs ds→IsAll H2 vs ds
 | _,_,.nil=>.nil
 | _,_,.cons h t=>.cons (h H2 k) (t.is k)
theorem FreshAll.mem {H H':Hp}:∀ {vs:List V} {ds:List PyData} {v:V},FreshAll H H' vs ds→v∈vs→∃ d∈ds,Fresh H H' v d
 | _,_,_,.nil,h=>nomatch h
 | _,_,_,.cons h t,hv=>by
  rcases List.mem_cons.mp hv with rfl | hv
  ·exact ⟨_,List.mem_cons_self,h⟩
  ·obtain ⟨d,hd,f⟩:=t.mem hv
   exact ⟨d,List.mem_cons_of_mem _ hd,f⟩
noncomputable def tLit (d:PyData):TE:=fun _ H Q=>∀ v H',Same H H'→Fresh H H' v d→Q v H'
noncomputable def tLits (ds:List PyData):TA:=fun _ H P=>∀ vs H',Same H H'→FreshAll H H' vs ds→P vs H'
section
variable {X:Cx} {e:Expr} {es:List Expr} {pos:Pos} {d:PyData} {ds:List PyData}
theorem PE.imp {t t':TE} (h:PE X e t) (k:∀ σ H Q,t' σ H Q→t σ H Q):PE X e t':=fun pins s σ H Q I q=>h pins s σ H Q I (k σ H Q q)
theorem PA.imp {t t':TA} (h:PA X es t) (k:∀ σ H Q,t' σ H Q→t σ H Q):PA X es t':=fun pos pins s σ H Q I q=>h pos pins s σ H Q I (k σ H Q q)
theorem pl_int {i:Int} {j}:PE X (.Constant (.int i) j pos) (tLit (.int i)):=pe_int.imp fun _ H Q q=>q _ H (Same.refl H) fun _ _=>.int i
theorem pl_bl {b:Bool} {j}:PE X (.Constant (.bool b) j pos) (tLit (.bool b)):=pe_bl.imp fun _ H Q q=>q _ H (Same.refl H) fun _ _=>.bl b
theorem pl_non {j}:PE X (.Constant .none j pos) (tLit .none):=pe_non.imp fun _ H Q q=>q _ H (Same.refl H) fun _ _=>.non
theorem pl_str {x:Str} {j}:PE X (.Constant (.str x) j pos) (tLit (.str x)):=pe_str.imp fun _ H Q q=>q _ H (Same.refl H) fun _ _=>.str x
theorem pl_neg {i:Int} {j p2}:PE X (.UnaryOp .USub (.Constant (.int i) j p2) pos) (tLit (.int (-i))):=(pe_un un_neg pe_int).imp fun _ H Q q=>⟨i,rfl,q _ H (Same.refl H) fun _ _=>.int (-i)⟩
theorem pls_nil:PA X [] (tLits []):=pa_nil.imp fun _ H P q=>q [] H (Same.refl H) .nil
theorem pls_cons (ha:PE X e (tLit d)) (hr:PA X es (tLits ds)) (hs:starEach (e::es) X.env=(false,eval e X.env)::starEach es X.env:=by rfl):PA X (e::es) (tLits (d::ds)):=
 (pa_cons ha hr hs).imp fun _ H P q v H1 s1 f1 vs H2 s2 f2=>q (v::vs) H2 (s1.trans s2) (.cons (f1.mono (Same.refl _) s2) (f2.mono s1 (Same.refl _)))
theorem pl_tup {x1} (h:PA X es (tLits ds)) (hz:ds.length≤sizeLine:=by decide):PE X (.Tuple es x1 pos) (tLit (.tuple ds)):=
 (pe_tup h).imp fun _ H Q q vs H1 s1 f1=>⟨by rw [f1.length];exact hz,fun p hp=>q _ _ (s1.trans (Same.upd hp)) fun H2 k=>.tup (k p _ (by
  cases e:H p with
  | none=>rfl
  | some u=>rw [s1 _ _ e] at hp;cases hp) upd_same) (f1.is fun a u n e=>k a u n (by rw [upd_ne (ne_of_none e hp)];exact e))⟩
theorem pl_lst (h:PA X es (tLits ds)) (hz:ds.length≤sizeLine:=by decide):PE X (.List es pos) (tLit (.list ds)):=
 (pe_lst h).imp fun _ H Q q vs H1 s1 f1=>⟨by rw [f1.length];exact hz,fun p hp=>q _ _ (s1.trans (Same.upd hp)) fun H2 k=>.lst (Rd.of (k p _ (by
  cases e:H p with
  | none=>rfl
  | some u=>rw [s1 _ _ e] at hp;cases hp) upd_same)) (f1.is fun a u n e=>k a u n (by rw [upd_ne (ne_of_none e hp)];exact e))⟩
end
inductive CallL (X:Cx) (E:XK):List (Addr×Sp)→Prop
 | nil:CallL X E []
 | cons {CX:CXT} {k:Nat} {f:Addr} {fd:FuncData} {ps:List Str} {sp:Sp} {l:List (Addr×Sp)} (F:FnOk X.prog X.w X.K X.mg X.base CX k f fd ps sp) (hr:Room k X.A) (hk:PySem.W.keepIn X.K (.ref f)=true) (hb:Binds X.K fd ps []) (hx:Passes CX X E) (r:CallL X E l):CallL X E ((f,sp)::l)
theorem CallL.get {X:Cx} {E:XK}:∀ {l:List (Addr×Sp)} {i:Nat} {f:Addr} {sp:Sp},CallL X E l→l[i]? =some (f,sp)→∃ (CX:CXT) (k:Nat) (fd:FuncData) (ps:List Str),FnOk X.prog X.w X.K X.mg X.base CX k f fd ps sp∧Room k X.A∧PySem.W.keepIn X.K (.ref f)=true∧Binds X.K fd ps []∧Passes CX X E
 | _,_,_,_,.nil,e=>by simp at e
 | _,0,_,_,.cons F hr hk hb hx r,e=>by simp at e;obtain ⟨rfl,rfl⟩:=e;exact ⟨_,_,_,_,F,hr,hk,hb,hx⟩
 | _,i + 1,_,_,.cons F hr hk hb hx r,e=>r.get (i:=i) (by simpa using e)
end L2
namespace L2
open PySem PySem.Spec PyProof.Rows
section
variable {prog:Program} {w:World} {A:Around} {E:Value→Shared→Prop} {s:Shared}
end
section
variable {X:Cx}
end
end L2
namespace L2
open PySem PySem.Spec PyProof.Rows
open AutoSeq1 (wpAny_loadPart')
section
variable {prog:Program} {w:World} {A:Around} {E:Value→Shared→Prop} {s:Shared}
end
section
variable {X:Cx}
end
section
variable {σ:St} {H:Hp} {Q:VK} {K:PySem.W.Frag}
end
end L2
namespace L2
open PySem PySem.Spec PyProof.Rows
section
variable {K:PySem.W.Frag} {σ:St} {H:Hp} {Q:VK}
theorem FreshAll.append {H H':Hp}:∀ {vs:List V} {ds:List PyData} {ws:List V} {es:List PyData},FreshAll H H' vs ds→FreshAll H H' ws es→FreshAll H H' (vs++ws) (ds++es)
 | _,_,_,_,.nil,h=>h
 | _,_,_,_,.cons a t,h=>.cons a (t.append h)
end
inductive Lit:List Expr→List PyData→Prop
 | nil:Lit [] []
 | int {i:Int} {j p es ds}:Lit es ds→Lit (.Constant (.int i) j p::es) (.int i::ds)
 | bl {b:Bool} {j p es ds}:Lit es ds→Lit (.Constant (.bool b) j p::es) (.bool b::ds)
 | non {j p es ds}:Lit es ds→Lit (.Constant .none j p::es) (.none::ds)
 | str {x:Str} {j p es ds}:Lit es ds→Lit (.Constant (.str x) j p::es) (.str x::ds)
 | neg {i:Int} {j p p2 es ds}:Lit es ds→Lit (.UnaryOp .USub (.Constant (.int i) j p2) p::es) (.int (-i)::ds)
 | tup {es' ds' x p es ds}:Lit es' ds'→ds'.length≤100→Lit es ds→Lit (.Tuple es' x p::es) (.tuple ds'::ds)
 | lst {es' ds' p es ds}:Lit es' ds'→ds'.length≤100→Lit es ds→Lit (.List es' p::es) (.list ds'::ds)
theorem Lit.pa {X:Cx} {es:List Expr} {ds:List PyData} (h:Lit es ds):PA X es (tLits ds):=by
 have hz:100≤sizeLine:=by decide
 induction h with
 | nil=>exact pls_nil
 | int _ ih=>exact pls_cons pl_int ih
 | bl _ ih=>exact pls_cons pl_bl ih
 | non _ ih=>exact pls_cons pl_non ih
 | str _ ih=>exact pls_cons pl_str ih
 | neg _ ih=>exact pls_cons pl_neg ih
 | tup _ h _ ih1 ih2=>exact pls_cons (pl_tup ih1 (Nat.le_trans h hz)) ih2
 | lst _ h _ ih1 ih2=>exact pls_cons (pl_lst ih1 (Nat.le_trans h hz)) ih2
end L2
namespace L2
open PySem PySem.Spec PyProof.Rows
section
variable {P:Program} {w:World} {A:Around} {E:Value→Shared→Prop}
end
section
variable {X:Cx}
end
section
variable {K:PySem.W.Frag} {σ:St} {H:Hp}
end
end L2
namespace L2
open PySem PySem.Spec PyProof.Rows
section
variable {P:Program} {w:World} {A:Around} {E:Value→Shared→Prop} {s:Shared}
end
section
variable {X:Cx}
end
section
variable {K:PySem.W.Frag} {σ:St} {H:Hp} {Q:VK}
end
end L2
namespace L2
open PySem PyProof.Rows
noncomputable def RcLt (A:Around) (s:Shared) (u v:Value) (r:Bool):Prop:=∀ (prog:Program) (w:World) (E Q:Value→Shared→Prop),Q (.bool r) s→wpAny (model prog w) A (richCompare .Lt u v) Q E s
inductive LtAt (A:Around) (s:Shared):List Value→List Value→Bool→Prop
 | nn:LtAt A s [] [] false
 | nc {v vs}:LtAt A s [] (v::vs) true
 | cn {u us}:LtAt A s (u::us) [] false
 | eq {u v us vs r}:SeqAt.EqAt A s u v true→LtAt A s us vs r→LtAt A s (u::us) (v::vs) r
 | ne {u v us vs r}:SeqAt.EqAt A s u v false→RcLt A s u v r→LtAt A s (u::us) (v::vs) r
section
open PySem.SeqAt
open PySem.AutoSeq1 (wpAny_loadPart')
open PySem.MeetsSeq PySem.MeetsSeq2 PySem.MeetsSeq3
theorem tuple_lt_gen (l b:Addr) (items items2:Array Value) (n n2:Nat) (dd dd2:Option Addr) (sl sl2:Array (Option Value)) (r:Bool):
  Meets (Builtin.«tuple.__lt__» ⟨[.ref l,.ref b],[]⟩)
   (fun A R s=>s.heap.get? l=some { cls:=.type "tuple",dict:=dd,data:=.seq items n,slots:=sl }∧s.heap.get? b=some { cls:=.type "tuple",dict:=dd2,data:=.seq items2 n2,slots:=sl2 }∧
    LtAt A.in1 s items.toList items2.toList r∧R (.ok (.ret (.bool r))) s):=
 .of_wp fun prog w A R s h=>by
  obtain ⟨hp,g,d,tk,os⟩:=s;obtain ⟨hl,hb,hlt,h⟩:=h
  have f2:=AutoSeq1.sub_tuple_tuple
  wp_walk using wpAny_loadPart' hl,wpAny_loadPart' hb,wpAny_forIn_list _ (fun rest b s'=>b.1=none∧s'=⟨hp,g,d,tk,os⟩∧∃ (vs ws:List Value),rest=vs.zip ws∧
   LtAt A.in1 ⟨hp,g,d,tk,os⟩ vs ws r∧vs.length + items2.size=ws.length + items.size) _
  case turn=>
   rintro ⟨y,x⟩ rest b s' ⟨hb',rfl,vs,ws,hz,hlt',hlen⟩
   cases hlt' with
   | nn=>cases hz
   | nc=>rw [List.zip_nil_left] at hz;cases hz
   | cn=>rw [List.zip_nil_right] at hz;cases hz
   | eq he hr=>
    rw [List.zip_cons_cons] at hz
    injection hz with hyx hrest
    injection hyx with hy hx
    subst hy hx
    simp only [List.length_cons] at hlen
    refine wpAny_bind (he prog w _ _ ?_)
    wp_walk
    exact ⟨rfl,rfl,_,_,hrest,hr,by omega⟩
   | ne he hri0=>
    rw [List.zip_cons_cons] at hz
    injection hz with hyx hrest
    injection hyx with hy hx
    subst hy hx
    refine wpAny_bind (he prog w _ _ ?_)
    have hri:=hri0 prog w
    wp_walk using hri
    exact ⟨_,rfl,by simpa using h⟩
  case fin=>
   rintro ⟨b1,b2⟩ s' ⟨hb',rfl,vs,ws,hz,hlt',hlen⟩
   simp only at hb'
   subst hb'
   have hv:r=decide (items.size < items2.size):=by
    cases hlt' with
    | nn=>
     simp only [List.length_nil] at hlen
     exact (decide_eq_false (by omega)).symm
    | nc=>
     simp only [List.length_nil,List.length_cons] at hlen
     exact (decide_eq_true (by omega)).symm
    | cn=>
     simp only [List.length_nil,List.length_cons] at hlen
     exact (decide_eq_false (by omega)).symm
    | eq _ _=>rw [List.zip_cons_cons] at hz;cases hz
    | ne _ _=>rw [List.zip_cons_cons] at hz;cases hz
   rw [hv] at h
   wp_walk
   exact ⟨_,rfl,by simpa [Builtin.Tuple.tupleCompareSizes] using h⟩
  case h=>
   exact ⟨rfl,rfl,items.toList,items2.toList,rfl,hlt,by simp;omega⟩
end
theorem lt_tup {A:Around} {s:Shared} {l b:Addr} {us vs:List Value} {r:Bool} (hl:IsTup s.heap l us.toArray) (hb:IsTup s.heap b vs.toArray) (hu:A.units < cLine) (h:LtAt A.in1 s us vs r):RcLt A s (.ref l) (.ref b) r:=by
 intro prog w E Q q
 obtain ⟨⟨cls,dd,data,sl⟩,ho,hc,n,hd⟩:=id hl
 obtain ⟨⟨cls2,dd2,data2,sl2⟩,ho2,hc2,n2,hd2⟩:=id hb
 simp only at hc hd hc2 hd2
 subst hc hd hc2 hd2
 exact richCompare_meets_room (op:=.Lt) ⟨_,ho,rfl⟩ ⟨_,ho2,rfl⟩ PySem.F.slot_tuple_lt PySem.F.entry_tuple_lt (PySem.F.args_tuple_lt_2 _ _) (tuple_lt_gen l b us.toArray vs.toArray n n2 dd dd2 sl sl2 r)
  ⟨ho,ho2,by simpa using h,show Value.bool r≠Value.notImplemented∧Q (.bool r) s from ⟨(fun x=>nomatch x),q⟩⟩ hu
theorem lt_ints {A:Around} {s:Shared} {a c:Int} {t u:Tok}:RcLt A s (.int a t) (.int c u) (decide (a < c)):=fun prog w E Q h=>HT.rcLt_int A s a t c u prog w E Q h
end L2
namespace L2
open PySem PySem.Spec PyProof.Rows
noncomputable abbrev Cx.in1 (X:Cx):Cx:={ X with A:=X.A.in1 }
section
variable {X:Cx} {pins:List (Addr×Obj)} {σ:St} {H:Hp} {s:Shared}
theorem Cx.Ok.in1 (ok:X.Ok):X.in1.Ok:=⟨ok.mod,ok.kind,ok.glob,ok.blt,ok.above,ok.inj,ok.has,ok.cab,ok.hd,ok.frames,ok.stk,ok.exf,ok.bs,ok.bsz,ok.noex,ok.exfs,ok.funs,ok.frf⟩
theorem Inv.in1 (I:Inv X pins σ H s):Inv X.in1 pins σ H s:=⟨I.ok.in1,I.os,I.bare,I.base,I.loc,I.cell,I.free,I.freeC,I.pin,I.hok,I.len⟩
end
section
variable {X:Cx} {pins:List (Addr×Obj)} {σ:St} {H:Hp} {s:Shared} {qual:Str} {sc:Scope} {M:List Str} {q:Addr} {cd:Value}
end
end L2
namespace L2
open PySem PySem.Spec PyProof.Rows
structure TabB (base:Heap) (mg:Str→Option Value) (c P:Addr):Prop where
 hd:PySem.W.CodeHd base c P
 bl:base.BuiltinsAt mg P
section
variable {X:Cx} {pins:List (Addr×Obj)} {σ:St} {H:Hp} {s:Shared}
theorem Inv.pinNew {H0:Hp} (I:Inv X pins σ H0 s) {q:Addr} {o:Obj} {h':Heap} {t':Nat} (I':Inv X pins σ H { s with heap:=h',toks:=t' }) (hq:h'.get? q=some o) (hs:s.heap.objs.size≤q) (hn:H q=none) (hd:∀ v,o.data≠.cell v):Inv X ((q,o)::pins) σ H { s with heap:=h',toks:=t' }:=
 ⟨I'.ok,I'.os,I'.bare,I'.base,I'.loc,I'.cell,I'.free,I'.freeC,fun p hp=>by
  rcases List.mem_append.mp hp with z | z
  ·exact I'.pin p (List.mem_append_left _ z)
  ·rcases List.mem_cons.mp z with rfl | z
   ·exact ⟨hq,hn,Nat.ne_of_gt (Nat.lt_of_lt_of_le I.lt hs),I.nofs hs,hd⟩
   ·exact I'.pin p (List.mem_append_right _ z),I'.hok,I'.len⟩
end
end L2
namespace L2
open PySem PySem.Spec PyProof.Rows
structure Ow (X:Cx) (pins:List (Addr×Obj)) (a:Addr):Prop where
 loc:a≠X.env.locals
 fs:a∉X.fs
 new:a∈X.ex∨X.s₀.heap.objs.size≤a
 cel:∀ x c,X.env.cells.lookup x=some c→c≠a
 pin:∀ p∈X.pn++pins,p.1≠a
section
variable {X:Cx} {pins p1 p2:List (Addr×Obj)} {σ:St} {H:Hp} {s:Shared}
theorem Inv.ow (I:Inv X pins σ H s) {a:Addr} (h:s.heap.objs.size≤a):Ow X pins a where
 loc:=Nat.ne_of_gt (Nat.lt_of_lt_of_le I.lt h)
 fs:=I.nofs h
 new:=.inr (Nat.le_trans I.sz h)
 cel:=fun x c e z=>by
  obtain ⟨v,o,ho,_⟩:=I.cell x c e
  exact absurd (Heap.lt_size ho) (by rw [z];exact Nat.not_lt.mpr h)
 pin:=fun p hp z=>absurd (Heap.lt_size (I.pin p hp).1) (by rw [z];exact Nat.not_lt.mpr h)
theorem Ow.sub {a:Addr} {pl:List (Addr×Obj)} (o:Ow X pins a) (h:∀ p∈pl,p∈pins∨p.1≠a):Ow X pl a:=
 ⟨o.loc,o.fs,o.new,o.cel,fun p hp=>by
  rcases List.mem_append.mp hp with z | z
  ·exact o.pin p (List.mem_append_left _ z)
  ·rcases h p z with y | y
   ·exact o.pin p (List.mem_append_right _ y)
   ·exact y⟩
theorem Inv.repin {a:Addr} {o o':Obj} {h':Heap} {t':Nat} (I:Inv X (p1++(a,o)::p2) σ H s) (ow:Ow X (p1++p2) a) (k:∀ b u,b≠a→s.heap.get? b=some u→h'.get? b=some u) (e:h'.get? a=some o') (hd:∀ v,o'.data≠.cell v):
  Inv X (p1++(a,o')::p2) σ H { s with heap:=h',toks:=t' }:=by
 have me:=I.pin (a,o) (List.mem_append_right _ (List.mem_append_right _ List.mem_cons_self))
 have I1:Inv X (p1++p2) σ H s:=I.pins_of fun p hp=>I.pin p (List.mem_append_right _ (by
  rcases List.mem_append.mp hp with z | z
  ·exact List.mem_append_left _ z
  ·exact List.mem_append_right _ (List.mem_cons_of_mem _ z)))
 have I2:=I1.turned (h':=h') (t':=t') k me.2.1 ow.loc ow.new ow.cel ow.pin
 refine ⟨I2.ok,I2.os,I2.bare,I2.base,I2.loc,I2.cell,I2.free,I2.freeC,fun p hp=>?_,I2.hok,I2.len⟩
 rcases List.mem_append.mp hp with z | z
 ·exact I2.pin p (List.mem_append_left _ z)
 ·rcases List.mem_append.mp z with z | z
  ·exact I2.pin p (List.mem_append_right _ (List.mem_append_left _ z))
  ·rcases List.mem_cons.mp z with rfl | z
   ·exact ⟨e,me.2.1,ow.loc,ow.fs,hd⟩
   ·exact I2.pin p (List.mem_append_right _ (List.mem_append_right _ z))
structure MinW (K:PySem.W.Frag) (σ:St) (l:Addr) (xs:List V) (lt:R2) (te:TE) (f:V→St) (G:Hp→Prop) (W:Nat→Nat→V→Hp→Prop) (Q:VK):Prop where
 lst:∀ j b k H,W j b k H→H l=some (.lst xs)∧G H
 turn:∀ j b k H x,W j b k H→xs[j]? =some x→te (f x) H fun k' H'=>lt k' k H' fun z H''=>∃ c,z=.bl c∧if c=true then W (j + 1) j k' H'' else W (j + 1) b k H''
 fin:∀ b k H x,W xs.length b k H→xs[b]? =some x→Q x H
end
end L2
namespace L2
open PySem PySem.Spec PyProof.Rows
structure TabK (K:PySem.W.Frag) (base:Heap) (mg:Str→Option Value) (x:Str) (c P:Addr):Prop where
 kin:K.In base
 ns:base.Ns mainGlobals mg
 tab:PySem.W.tabIn K x=some (c,P)
 b:TabB base mg c P
end L2
namespace L2
open PySem PySem.Spec PyProof.Rows
mutual
noncomputable def ltD:PyData→PyData→Bool
 | .int i,.int j=>decide (i < j)
 | .tuple ds,.tuple es=>ltDs ds es
 | _,_=>false
noncomputable def ltDs:List PyData→List PyData→Bool
 | [],[]=>false
 | [],_::_=>true
 | _::_,[]=>false
 | d::ds,e::es=>if PyData.eqv d e=true then ltDs ds es else ltD d e
end
mutual
noncomputable def cmpD:PyData→PyData→Bool
 | .int _,.int _=>true
 | .tuple ds,.tuple es=>cmpDs ds es
 | _,_=>false
noncomputable def cmpDs:List PyData→List PyData→Bool
 | [],_=>true
 | _::_,[]=>true
 | d::ds,e::es=>if PyData.eqv d e=true then cmpDs ds es else cmpD d e
end
section
variable {X:Cx} {pins:List (Addr×Obj)} {σ:St} {H:Hp} {s:Shared}
theorem cmp_shape {d e:PyData} (h:cmpD d e=true):(∃ i j,d=.int i∧e=.int j)∨∃ ds es,d=.tuple ds∧e=.tuple es∧cmpDs ds es=true:=by
 unfold cmpD at h
 split at h
 ·exact .inl ⟨_,_,rfl,rfl⟩
 ·exact .inr ⟨_,_,rfl,rfl,h⟩
 ·cases h
theorem lt_int_ok {A:Around} {i j:Int} {x y:V} {u v:Value} (hx:Is H x (.int i)) (hy:Is H y (.int j)) (ru:RelV x u) (rv:RelV y v):RcLt A s u v (ltD (.int i) (.int j)):=by
 cases hx
 cases hy
 obtain ⟨t,rfl⟩:=ru
 obtain ⟨t2,rfl⟩:=rv
 rw [ltD]
 exact lt_ints
theorem dep_tup (ds:List PyData):(PyData.tuple ds).depth=PyData.depthAll ds + 1:=by rw [PyData.depth]
end
end L2
namespace L2
open PySem PySem.Spec PyProof.Rows
section
open PySem.AutoSeq1 (wpAny_loadPart')
variable {prog:Program} {w:World} {A:Around} {E:Value→Shared→Prop} {s:Shared}
end
section
variable {H:Hp} {K:PySem.W.Frag}
end
end L2
namespace L2
open PySem PySem.Spec PyProof.Rows
section
open PySem.F
variable {prog:Program} {w:World} {A:Around} {E:Value→Shared→Prop} {s:Shared}
end
section
variable {X:Cx}
end
end L2
namespace L2
open PySem PySem.Spec PyProof.Rows
noncomputable def Itz (K:PySem.W.Frag) (a b:Addr):It:=
 ⟨fun i H=>∃ xs ys x y,SqL K H a xs∧SqL K H b ys∧xs[i]? =some x∧ys[i]? =some y,fun i H v H'=>∃ T x y,v=.ref T∧H T=none∧(∀ xs,SqL K H a xs→xs[i]? =some x)∧(∀ ys,SqL K H b ys→ys[i]? =some y)∧H'=upd H T (.tup [x,y]),fun i H=>∃ xs ys,SqL K H a xs∧SqL K H b ys∧xs.length≤i⟩
structure ZipD (z TI TO i1 i2:Addr):Prop where
 TIz:TI≠z
 TOz:TO≠z
 i1z:i1≠z
 i2z:i2≠z
 TITO:TI≠TO
 TIi1:TI≠i1
 TIi2:TI≠i2
 TOi1:TO≠i1
 TOi2:TO≠i2
 i12:i1≠i2
noncomputable def ztn (a b z TI TO i1 i2:Addr) (i:Nat) (h:Heap):Prop:=IsZip h z TI TO .none∧IsPair h TI (.ref i1) (.ref i2)∧(∃ u v,IsPair h TO u v)∧h.IsListIter i1 a i∧h.IsListIter i2 b i
theorem ztn_apart {a b z TI TO i1 i2:Addr} {i:Nat} {h:Heap} {us ws:Array Value} (D:ZipD z TI TO i1 i2) (st:ztn a b z TI TO i1 i2 i h) (ha:h.IsList a us) (hb:h.IsList b ws):ZipApart z TI TO i1 i2 a b:=by
 obtain ⟨hz,hTI,⟨u,v,hTO⟩,⟨o1,e1,c1,_⟩,⟨o2,e2,c2,_⟩⟩:=st
 have ne:∀ (l:Addr) (us:Array Value),h.IsList l us→∀ b,(∃ o,h.get? b=some o∧o.cls≠.type "list")→l≠b:=fun l us hl b ⟨o,eo,co⟩ z=>by
  obtain ⟨o',e',c',_⟩:=hl
  rw [z,eo] at e';cases e';exact co c'
 have nz:∃ o,h.get? z=some o∧o.cls≠.type "list":=⟨_,hz,fun x=>by simp at x⟩
 have nO:∃ o,h.get? TO=some o∧o.cls≠.type "list":=⟨_,hTO,fun x=>by simp at x⟩
 have n1:∃ o,h.get? i1=some o∧o.cls≠.type "list":=⟨_,e1,fun x=>by rw [c1] at x;simp at x⟩
 have n2:∃ o,h.get? i2=some o∧o.cls≠.type "list":=⟨_,e2,fun x=>by rw [c2] at x;simp at x⟩
 exact ⟨D.TIz,D.TOz,D.i1z,D.i2z,D.TITO,D.TIi1,D.TIi2,D.TOi1,D.TOi2,D.i12,ne a us ha z nz,ne a us ha TO nO,ne a us ha i1 n1,ne a us ha i2 n2,ne b ws hb z nz,ne b ws hb TO nO,ne b ws hb i1 n1,ne b ws hb i2 n2⟩
theorem turn_zip {P:Program} {w:World} {K:PySem.W.Frag} {elts:List Expr} {k:Nat} {pos:Pos} (a b z TI TO i1 i2:Addr) (D:ZipD z TI TO i1 i2):Turn P w K (.Tuple elts k pos) (Itz K a b) [z,TI,TO,i1,i2] z (ztn a b z TI TO i1 i2) where
 mem:=by simp
 obj:=fun i h st c hc=>by
  obtain ⟨hz,hTI,⟨u,v,hTO⟩,⟨o1,e1,c1,d1⟩,⟨o2,e2,c2,d2⟩⟩:=st
  simp only [List.mem_cons,List.not_mem_nil,or_false] at hc
  rcases hc with rfl | rfl | rfl | rfl | rfl
  ·exact ⟨_,hz,fun v z=>by cases z⟩
  ·exact ⟨_,hTI,fun v z=>by cases z⟩
  ·exact ⟨_,hTO,fun v z=>by cases z⟩
  ·exact ⟨_,e1,fun v z=>by rw [d1] at z;cases z⟩
  ·exact ⟨_,e2,fun v z=>by rw [d2] at z;cases z⟩
 keep:=fun i h h' st kk=>by
  obtain ⟨hz,hTI,⟨u,v,hTO⟩,h1,h2⟩:=st
  exact ⟨kk z (by simp) _ hz,kk TI (by simp) _ hTI,⟨u,v,kk TO (by simp) _ hTO⟩,h1.at fun o x=>kk i1 (by simp) o x,h2.at fun o x=>kk i2 (by simp) o x⟩
 item:=by
  intro X hP hw hK hc i pins s σ H E I hf st hg
  subst hP hw hK
  obtain ⟨xs,ys,x,y,hqa,hqb,hx,hy⟩:=hg
  obtain ⟨ia,ra,pa,_⟩:=I.list hqa
  obtain ⟨ib,rb,pb,_⟩:=I.list hqb
  obtain ⟨ux,hux,rux⟩:=ra.get hx
  obtain ⟨uy,huy,ruy⟩:=rb.get hy
  have A:=ztn_apart D st pa.isList pb.isList
  obtain ⟨hz,hTI,⟨u,v,hTO⟩,h1,h2⟩:=id st
  have zlt:z < s.heap.objs.size:=Heap.lt_size hz
  have TOlt:TO < s.heap.objs.size:=Heap.lt_size hTO
  have TIlt:TI < s.heap.objs.size:=Heap.lt_size hTI
  have i1lt:i1 < s.heap.objs.size:=by obtain ⟨_,e,_⟩:=h1;exact Heap.lt_size e
  have i2lt:i2 < s.heap.objs.size:=by obtain ⟨_,e,_⟩:=h2;exact Heap.lt_size e
  refine wpAny_pyNext_zip_item A hz hTI hTO h1 h2 pa.isList pb.isList (x:=ux) (y:=uy) (by simpa using hux) (by simpa using huy) fun h' a1 a2 a3 a4 a5 a6 hk=>?_
  have hTH:H s.heap.objs.size=none:=I.hok.fresh (Nat.le_refl _)
  generalize hTT:s.heap.objs.size=T at *
  refine ⟨_,rfl,?_⟩
  refine wpAny_letOwnedTupleGo_zip a1 fun h2' hz' hs'=>?_
  have keep:∀ c o,c≠z→c≠TO→c≠i1→c≠i2→s.heap.get? c=some o→h2'.get? c=some o:=fun c o c1 c2 c3 c4 e=>hs'.extBut _ _ c1 (hk c o c1 c2 c3 c4 e)
  have nT:∀ c,c < T→T≠c:=fun c hc z=>absurd hc (by rw [z];exact Nat.lt_irrefl _)
  have eT:IsPair h2' T ux uy:=hs'.extBut _ _ (nT z zlt) a5
  have J:Inv X pins σ (upd H T (.tup [x,y])) { s with heap:=h2',toks:=s.toks }:=by
   refine I.step (g':=s.gens) (d':=s.drawn) (ch:=[z,TO,i1,i2]) (fun c hc=>?_) (fun c o _ _ hc eo _=>?_) (fun c o _ _ hc eo _=>⟨o.slots,?_⟩) (fun c o _ eo n=>?_)
    (fun c o hc eo=>⟨o,?_⟩) (fun c xs q=>?_) (fun c o u q=>?_) (fun c ps q=>?_) (fun m hm=>?_) (fun c u q=>?_) I.bare
   ·obtain ⟨f0,f1,f2,f3,f4,f5⟩:=hf c (by simp only [List.mem_cons,List.not_mem_nil,or_false] at hc ⊢;rcases hc with h | h | h | h <;> simp [h])
    exact ⟨f3,f1,f4,f5⟩
   ·exact keep c o (fun z=>hc (by simp [z])) (fun z=>hc (by simp [z])) (fun z=>hc (by simp [z])) (fun z=>hc (by simp [z])) eo
   ·exact keep c o (fun z=>hc (by simp [z])) (fun z=>hc (by simp [z])) (fun z=>hc (by simp [z])) (fun z=>hc (by simp [z])) eo
   ·rw [upd_ne (Nat.ne_of_lt (hTT▸Heap.lt_size eo))];exact n
   ·exact keep c o (fun z=>hc (by simp [z])) (fun z=>hc (by simp [z])) (fun z=>hc (by simp [z])) (fun z=>hc (by simp [z])) eo
   ·rw [upd_ne (ne_of_none q hTH)];exact q
   ·rw [upd_ne (ne_of_none q hTH)];exact q
   ·exact ⟨#[],by rw [upd_ne (ne_of_none q hTH),q];simp⟩
   ·obtain ⟨o,es,ep,eo,r⟩:=hm
    exact ⟨o,es,ep,keep _ o (Ne.symm (hf z (by simp)).2.1) (Ne.symm (hf TO (by simp)).2.1) (Ne.symm (hf i1 (by simp)).2.1) (Ne.symm (hf i2 (by simp)).2.1) eo,r⟩
   ·by_cases hb:c=T
    ·subst hb
     rw [upd_same] at q
     cases q
     exact ⟨by show 2≤sizeLine;decide,[ux,uy],.cons rux (.cons ruy .nil),⟨_,eT,rfl,_,rfl⟩,_,eT,rfl⟩
    ·rw [upd_ne hb] at q
     have ap:∀ d∈[z,TI,TO,i1,i2],∀ c',(c'=c∨H c'=some (.own c))→c'≠d:=fun d hd c' hc' e=>by
      have f0:=(hf d hd).1
      subst e
      rcases hc' with rfl | hc'
      ·rw [f0] at q;cases q
      ·rw [f0] at hc';cases hc'
     refine (I.hok c u q).stay (fun c' v hc' r=>keep c' v (ap z (by simp) c' hc') (ap TO (by simp) c' hc') (ap i1 (by simp) c' hc') (ap i2 (by simp) c' hc') r) (fun c r=>by rw [upd_ne (ne_of_none r hTH)];exact r) fun c xs r=>by rw [upd_ne (ne_of_none r hTH)];exact r
  refine ⟨.ref T,_,J,rfl,⟨T,x,y,rfl,hTH,fun zs hz=>by rw [I.list_inj hz hqa];exact hx,fun zs hz=>by rw [I.list_inj hz hqb];exact hy,rfl⟩,⟨hz',?_,⟨_,_,hs'.extBut _ _ D.TOz a2⟩,a3.extBut hs'.extBut D.i1z,a4.extBut hs'.extBut D.i2z⟩,fun c hb=>?_⟩
  ·exact keep _ _ D.TIz D.TITO D.TIi1 D.TIi2 hTI
  ·rw [upd_ne (fun e=>?_)]
   ·exact (hf c hb).1
   ·subst e
    simp only [List.mem_cons,List.not_mem_nil,or_false] at hb
    rcases hb with rfl | rfl | rfl | rfl | rfl
    ·exact nT _ zlt rfl
    ·exact nT _ TIlt rfl
    ·exact nT _ TOlt rfl
    ·exact nT _ i1lt rfl
    ·exact nT _ i2lt rfl
 done:=by
  intro X hP hw hK hc i pins s σ H E I hf st hg
  subst hP hw hK
  obtain ⟨xs,ys,hqa,hqb,hx⟩:=hg
  obtain ⟨ia,ra,pa,_⟩:=I.list hqa
  obtain ⟨ib,rb,pb,_⟩:=I.list hqb
  have A:=ztn_apart D st pa.isList pb.isList
  obtain ⟨hz,hTI,⟨u,v,hTO⟩,h1,h2⟩:=id st
  have hl:=ra.length
  refine wpAny_pyNext_zip_end (I.ok.hd hc) A hz hTI hTO h1 h2 pa.isList pb.isList (.inl (by simp;omega)) fun h' hk=>⟨rfl,?_⟩
  show Inv X pins σ H { s with heap:=h',toks:=s.toks }
  refine I.step (g':=s.gens) (d':=s.drawn) (ch:=[z,TO,i1,i2]) (fun c hc=>?_) (fun c o _ _ hc eo _=>?_) (fun c o _ _ hc eo _=>⟨o.slots,?_⟩) (fun c o _ eo n=>n)
   (fun c o hc eo=>⟨o,?_⟩) (fun c xs q=>q) (fun c o u q=>q) (fun c ps q=>⟨#[],by rw [q];simp⟩) (fun m hm=>?_) (fun c u q=>?_) I.bare
  ·obtain ⟨f0,f1,f2,f3,f4,f5⟩:=hf c (by simp only [List.mem_cons,List.not_mem_nil,or_false] at hc ⊢;rcases hc with h | h | h | h <;> simp [h])
   exact ⟨f3,f1,f4,f5⟩
  ·exact hk c o (fun z=>hc (by simp [z])) (fun z=>hc (by simp [z])) (fun z=>hc (by simp [z])) (fun z=>hc (by simp [z])) eo
  ·exact hk c o (fun z=>hc (by simp [z])) (fun z=>hc (by simp [z])) (fun z=>hc (by simp [z])) (fun z=>hc (by simp [z])) eo
  ·exact hk c o (fun z=>hc (by simp [z])) (fun z=>hc (by simp [z])) (fun z=>hc (by simp [z])) (fun z=>hc (by simp [z])) eo
  ·obtain ⟨o,es,ep,eo,r⟩:=hm
   exact ⟨o,es,ep,hk _ o (Ne.symm (hf z (by simp)).2.1) (Ne.symm (hf TO (by simp)).2.1) (Ne.symm (hf i1 (by simp)).2.1) (Ne.symm (hf i2 (by simp)).2.1) eo,r⟩
  ·have ap:∀ d∈[z,TI,TO,i1,i2],∀ c',(c'=c∨H c'=some (.own c))→c'≠d:=fun d hd c' hc' e=>by
    have f0:=(hf d hd).1
    subst e
    rcases hc' with rfl | hc'
    ·rw [f0] at q;cases q
    ·rw [f0] at hc';cases hc'
   exact (I.hok c u q).stay (fun c' v hc' r=>hk c' v (ap z (by simp) c' hc') (ap TO (by simp) c' hc') (ap i1 (by simp) c' hc') (ap i2 (by simp) c' hc') r) (fun c r=>r) fun c xs r=>r
 self:=fun A i s Q E st h=>wpAny_pyIter_zip st.1 h
noncomputable def iZip (K:PySem.W.Frag) (ta:TA):TI:=fun σ H R=>ta σ H fun vs H1=>∃ a b,vs=[.ref a,.ref b]∧(∃ xs,SqL K H1 a xs)∧(∃ ys,SqL K H1 b ys)∧R (Itz K a b) H1
theorem nea {a b:Nat} (h:¬a=b):@Ne Addr a b:=h
theorem pi_zip {X:Cx} {elts:List Expr} {k:Nat} {tp:Pos} {a b:Expr} {ta:TA} {p pos:Pos} (hg:Gl X "zip") (hm:X.mg "zip"=none) (ha:PA X [a,b] ta) (hs:starEach [a,b] X.env=[(false,eval a X.env),(false,eval b X.env)]:=by rfl) (hs2:starEach [b] X.env=[(false,eval b X.env)]:=by rfl):
  PI X (.Tuple elts k tp) (.Call (.Name "zip" p) [a,b] [] pos) (iZip X.K ta):=by
 intro pins s σ H R I h
 refine Call_ (ld_blt I hg hm bt_zip (PyProof.Rows.callWith_type1 (thn (ha pos pins s σ H _ I h) fun us s1 ⟨vs,H1,I1,r1,q1⟩=>?_) (by rw [hs,hs2]) (by rw [hs2];rfl)))
 obtain ⟨x,y,e,⟨xs,hqa⟩,⟨ys,hqb⟩,q⟩:=q1
 subst e
 cases r1 with
 | @cons _ u _ us rx r2=>
 cases r2 with
 | @cons _ u2 _ us2 ry r3=>
 cases r3
 obtain rfl:u=Value.ref x:=rx
 obtain rfl:u2=Value.ref y:=ry
 obtain ⟨ia,ra,pa,_⟩:=I1.list hqa
 obtain ⟨ib,rb,pb,_⟩:=I1.list hqb
 refine call_zip_2 pa.isList pb.isList fun h' hz hTI hTO hi1 hi2 hsz hk=>?_
 refine wpAny_pyIter_zip hz ?_
 have I2:Inv X pins σ H1 { s1 with heap:=h',toks:=s1.toks }:=I1.kept hk
 refine ⟨s1.heap.objs.size + 4,[s1.heap.objs.size + 4,s1.heap.objs.size + 2,s1.heap.objs.size + 3,s1.heap.objs.size,s1.heap.objs.size + 1],_,_,H1,rfl,I2,turn_zip x y (s1.heap.objs.size + 4) (s1.heap.objs.size + 2) (s1.heap.objs.size + 3) s1.heap.objs.size (s1.heap.objs.size + 1) ⟨nea (by omega),nea (by omega),nea (by omega),nea (by omega),nea (by omega),nea (by omega),nea (by omega),nea (by omega),nea (by omega),nea (by omega)⟩,⟨hz,hTI,⟨_,_,hTO⟩,hi1,hi2⟩,fun c hb=>?_,q⟩
 have hc:s1.heap.objs.size≤c:=by
  simp only [List.mem_cons,List.not_mem_nil,or_false] at hb
  rcases hb with rfl | rfl | rfl | rfl | rfl
  ·exact Nat.le_add_right _ _
  ·exact Nat.le_add_right _ _
  ·exact Nat.le_add_right _ _
  ·exact Nat.le_refl _
  ·exact Nat.le_add_right _ _
 exact I1.fpOk hc (I1.hok.fresh hc)
section
variable {H:Hp} {K:PySem.W.Frag}
theorem k_pzip (K:PySem.W.Frag) {X:Cx} {elts:List Expr} {k:Nat} {tp:Pos} {a b:Expr} {ta:TA} {p pos:Pos} (hg:Gl X "zip") (hm:X.mg "zip"=none) (ha:PA X [a,b] ta) (hs:starEach [a,b] X.env=[(false,eval a X.env),(false,eval b X.env)]:=by rfl) (hs2:starEach [b] X.env=[(false,eval b X.env)]:=by rfl) (h:X.K=K:=by rfl):
  PI X (.Tuple elts k tp) (.Call (.Name "zip" p) [a,b] [] pos) (iZip K ta):=h▸pi_zip hg hm ha hs hs2
theorem rd_zip {σ:St} {ta:TA} {R:It→Hp→Prop} (h:ta σ H fun vs H1=>∃ a b,vs=[.ref a,.ref b]∧(∃ xs,SqL K H1 a xs)∧(∃ ys,SqL K H1 b ys)∧R (Itz K a b) H1):iZip K ta σ H R:=h
theorem lp_zip {a b:Addr} {xs ys:List V} {G:List V→Hp→Prop} {B:(List V→Hp→Prop)→List V→V→Hp→Prop} (hn:xs.length≤sizeLine) (he:ys.length=xs.length) (Pv:Nat→List V→Hp→Prop) (h0:Pv 0 [] H) (hlen:∀ i zs H,Pv i zs H→zs.length≤i)
  (hl:∀ i zs H,i≤xs.length→Pv i zs H→SqL K H a xs∧SqL K H b ys) (hs:∀ i x y zs H T,xs[i]? =some x→ys[i]? =some y→Pv i zs H→H T=none→B (Pv (i + 1)) zs (.ref T) (upd H T (.tup [x,y]))) (hd:∀ zs H,Pv xs.length zs H→G zs H):
  ∃ W:Nat→Nat→List V→Hp→Prop,(∃ m,W 0 m [] H)∧∀ i m zs H,W i m zs H→((Itz K a b).stop i H∧G zs H)∨((Itz K a b).go i H∧zs.length < sizeLine∧
   ∃ N:List V→Hp→Prop,(∀ zs' H',N zs' H'→∃ m',m' < m∧W (i + 1) m' zs' H')∧∀ x H',(Itz K a b).yld i H x H'→B N zs x H'):=by
 refine ⟨fun i m zs H=>m=xs.length - i∧i≤xs.length∧Pv i zs H,⟨xs.length,by simp,Nat.zero_le _,h0⟩,?_⟩
 rintro i m zs H ⟨rfl,hi,p⟩
 have hly:=hlen i zs H p
 obtain ⟨qa,qb⟩:=hl i zs H hi p
 by_cases hlt:i < xs.length
 ·have hlt2:i < ys.length:=by omega
  refine .inr ⟨⟨xs,ys,xs[i],ys[i],qa,qb,by simp [hlt],by simp [hlt2]⟩,by omega,Pv (i + 1),fun zs' H' p'=>⟨xs.length - (i + 1),by omega,rfl,hlt,p'⟩,fun x H' y=>?_⟩
  obtain ⟨T,u,v,e,hT,hu,hv,e2⟩:=y
  subst e e2
  exact hs i u v zs _ T (hu xs qa) (hv ys qb) p hT
 ·have e:i=xs.length:=by omega
  subst e
  exact .inl ⟨⟨xs,ys,qa,qb,Nat.le_refl _⟩,hd zs H p⟩
end
end L2
namespace L2
open PySem PySem.Spec PyProof.Rows
section
variable {X:Cx} {pins p1 p2:List (Addr×Obj)} {σ:St} {H:Hp} {s:Shared}
end
end L2
namespace L2
open PySem PySem.Spec PyProof.Rows
section
variable {X:Cx}
noncomputable def nubN (ns:List Int):Nat:=(firstMet (fun i=>ns.getD i 0) ns.length).length
noncomputable def tLenSet (K:PySem.W.Frag) (ta:TA):TE:=fun σ H Q=>ta σ H fun vs H1=>∃ (p:Addr) (ns:List Int),vs=[.ref p]∧SqL K H1 p (ns.map V.int)∧ns.length≤1000∧Q (.int (nubN ns:Nat)) H1
theorem pe_lenSet {e:Expr} {ta:TA} {p1 p2 p3 p4:Pos} (hc:X.calm=true) (hg:Gl X "len") (hm:X.mg "len"=none) (hg2:Gl X "set") (hm2:X.mg "set"=none) (ha:PA X [e] ta) (hs:starEach [e] X.env=[(false,eval e X.env)]:=by rfl)
  (hs2:starEach [Expr.Call (.Name "set" p2) [e] [] p3] X.env=[(false,eval (.Call (.Name "set" p2) [e] [] p3) X.env)]:=by rfl):
  PE X (.Call (.Name "len" p1) [.Call (.Name "set" p2) [e] [] p3] [] p4) (tLenSet X.K ta):=by
 intro pins s σ H Q I h
 refine wpAny_Call_Name_kw (ld_blt I hg hm bt_len (PyProof.Rows.callWith_builtin1 ?_ hs2 rfl) (by decide) (by decide))
 rw [hs2]
 show wpAny _ _ (spliced ((false,eval (.Call (.Name "set" p2) [e] [] p3) X.env)::backTo p4 [])) _ _ s
 refine Calls.spliced_cons (Call_ (ld_blt I hg2 hm2 bt_set (PyProof.Rows.callWith_type1 (thn (ha p3 pins s σ H _ I h) fun us s1 ⟨vs,H1,I1,r1,q1⟩=>?_) hs rfl)))
 obtain ⟨b,ns,e,hq,hz1,q⟩:=q1
 subst e
 obtain ⟨u,rfl,rx⟩:=Vals.one r1
 obtain rfl:u=Value.ref b:=rx
 obtain ⟨its,rv,pl,hz⟩:=I1.list hq
 have hi:=intsAre_of rv
 have hsz:its.toArray.size=ns.length:=by rw [List.size_toArray,←rv.length,List.length_map]
 have hsc:its.toArray.size + 1 < scanBound:=Nat.lt_of_le_of_lt (Nat.succ_le_succ (by rw [hsz];exact hz1)) (by decide)
 refine call_set_list (I1.ok.hd hc) pl.isList hi hsc fun h' tk hS hk=>?_
 have I2:Inv X pins σ H1 { s1 with heap:=h',toks:=tk }:=I1.kept fun c o e=>hk c o (Heap.lt_size e) e
 refine Calls.spliced_nil ?_
 rw [hsz] at hS
 obtain ⟨o,es,ep,tb,ho,hex,hd,_,_,hb,hf,hn⟩:=hS
 refine call_len_set (s:={ s1 with heap:=h',toks:=tk }) ho hex hd hf (by have:es.size < 2 ^ 62:=Nat.lt_of_lt_of_le hb (by decide);omega) ?_
 refine ⟨.int (nubN ns:Nat),H1,I2.kept (t':=tk + 1 + 1) fun c o e=>e,⟨tk + 1,?_⟩,q⟩
 rw [hn]
 rfl
theorem k_lenSet (K:PySem.W.Frag) {e:Expr} {ta:TA} {p1 p2 p3 p4:Pos} (hg:Gl X "len") (hm:X.mg "len"=none) (hg2:Gl X "set") (hm2:X.mg "set"=none) (ha:PA X [e] ta) (hc:X.calm=true:=by rfl) (h:X.K=K:=by rfl) (hs:starEach [e] X.env=[(false,eval e X.env)]:=by rfl)
  (hs2:starEach [Expr.Call (.Name "set" p2) [e] [] p3] X.env=[(false,eval (.Call (.Name "set" p2) [e] [] p3) X.env)]:=by rfl):
  PE X (.Call (.Name "len" p1) [.Call (.Name "set" p2) [e] [] p3] [] p4) (tLenSet K ta):=h▸pe_lenSet hc hg hm hg2 hm2 ha hs hs2
theorem rd_lenSet {K:PySem.W.Frag} {σ:St} {H:Hp} {Q:VK} {ta:TA} (h:ta σ H fun vs H1=>∃ (p:Addr) (ns:List Int),vs=[.ref p]∧SqL K H1 p (ns.map V.int)∧ns.length≤1000∧Q (.int (nubN ns:Nat)) H1):tLenSet K ta σ H Q:=h
theorem nub_le (ns:List Int):nubN ns≤ns.length:=firstMet_length_le _ _
theorem met_nd (val:Nat→Int):∀ i,(∀ a b,a < b→b < i→val a≠val b)→(firstMet val i).length=i
 | 0,_=>rfl
 | i + 1,h=>by
  rw [firstMet_succ,step_length,firstMet_any,if_neg,met_nd val i fun a b h1 h2=>h a b h1 (by omega)]
  intro z
  obtain ⟨x,hx,e⟩:=List.any_eq_true.mp z
  obtain ⟨a,ha,rfl⟩:=List.mem_map.mp hx
  have:=List.mem_range.mp ha
  exact h a i this (by omega) (eq_of_beq e)
theorem met_dup (val:Nat→Int):∀ i a b,a < b→b < i→val a=val b→(firstMet val i).length < i
 | 0,_,_,_,h,_=>absurd h (Nat.not_lt_zero _)
 | i + 1,a,b,hab,hb,e=>by
  rw [firstMet_succ,step_length]
  have le:=firstMet_length_le val i
  by_cases z:b < i
  ·have:=met_dup val i a b hab z e
   split <;> omega
  ·have eb:b=i:=by omega
   subst eb
   rw [firstMet_any,if_pos]
   ·omega
   ·exact List.any_eq_true.mpr ⟨val a,List.mem_map.mpr ⟨a,List.mem_range.mpr hab,rfl⟩,by rw [e];exact beq_self_eq_true _⟩
theorem nub_nd {ns:List Int} (h:ns.Nodup):nubN ns=ns.length:=by
 refine met_nd _ _ fun a b hab hb=>?_
 rw [List.getD_eq_getElem?_getD,List.getD_eq_getElem?_getD,List.getElem?_eq_getElem (by omega),List.getElem?_eq_getElem hb]
 exact List.pairwise_iff_getElem.mp h a b (by omega) hb hab
noncomputable def rSumA (K:PySem.W.Frag):List V→Hp→VK→Prop:=fun xs H Q=>∃ (p:Addr) (ns:List Int),xs=[.ref p]∧SqL K H p (ns.map V.int)∧Q (.int ns.sum) H
theorem call_sumA (hc:X.calm=true):CallR X (.builtin "sum") (rSumA X.K):=by
 intro pins s σ H xs us Q I r h
 obtain ⟨p,ns,rfl,hq,q⟩:=h
 obtain ⟨u,rfl,rx⟩:=Vals.one r
 cases (show u=Value.ref p from rx)
 obtain ⟨its,rv,pl,hz⟩:=I.list hq
 have hi:=intsAre_of rv
 have li:=pl.isList
 obtain ⟨zs,e⟩:=hi.allInts.items
 have en:ns=zs.toList.map (·.1):=by rw [←hi.numsOf,←nums_intItems,←e]
 have ez:zs.size=ns.length:=by rw [en,List.length_map,Array.length_toList]
 rw [e] at li
 refine sum_intListG (I.ok.hd hc) li fun g tk' t' hk=>?_
 rw [preSum_eq,←en,ez,List.take_length]
 exact ⟨.int ns.sum,H,I.kept (t':=tk') hk,⟨t',rfl⟩,q⟩
theorem k_sumA (K:PySem.W.Frag) (hc:X.calm=true:=by rfl) (h:X.K=K:=by rfl):CallR X (.builtin "sum") (rSumA K):=h▸call_sumA hc
theorem rd_sumA {K:PySem.W.Frag} {H:Hp} {Q:VK} {p:Addr} {ns:List Int} (e:H p=some (.lst (ns.map V.int))) (h:Q (.int ns.sum) H):rSumA K [.ref p] H Q:=⟨p,ns,rfl,SqL.of e,h⟩
end
end L2
namespace L2
open PySem PySem.Spec PyProof.Rows
structure BestW (l:Addr) (xs:List V) (lt:R2) (te:V→Hp→VK→Prop) (W:Nat→Nat→V→Hp→Prop) (Q:VK):Prop where
 lst:∀ j b k H,W j b k H→H l=some (.lst xs)
 turn:∀ j b k H x,W j b k H→xs[j]? =some x→te x H fun k' H'=>lt k' k H' fun z H''=>∃ c,z=.bl c∧if c=true then W (j + 1) j k' H'' else W (j + 1) b k H''
 fin:∀ b k H x,W xs.length b k H→xs[b]? =some x→Q x H
section
variable {X:Cx} {pins p1 p2:List (Addr×Obj)} {σ:St} {H:Hp} {s:Shared}
end
section
variable {X:Cx}
section
variable {σ:St} {H:Hp} {Q:VK} {K:PySem.W.Frag}
end
end
end L2
namespace L2
open PySem PySem.Spec PyProof.Rows
section
variable {κ:Type} [DecidableEq κ]
noncomputable def valV (kvs:List (κ×V)) (k:κ):Option V:=(kvs.find? fun kv=>decide (kv.1=k)).map (·.2)
noncomputable def putK (kvs:List (κ×V)) (k:κ) (v:V):List (κ×V):=
 if (kvs.any fun kv=>decide (kv.1=k))=true then kvs.map (fun kv=>if kv.1=k then (kv.1,v) else kv) else kvs++[(k,v)]
noncomputable def dropK (kvs:List (κ×V)) (k:κ):List (κ×V):=kvs.filter fun kv=>decide (kv.1≠k)
theorem valV_nil {k:κ}:valV ([]:List (κ×V)) k=none:=rfl
theorem valV_pos {p:κ×V} {r:List (κ×V)} {k:κ} (e:p.1=k):valV (p::r) k=some p.2:=by simp [valV,List.find?_cons,e]
theorem valV_neg {p:κ×V} {r:List (κ×V)} {k:κ} (e:¬p.1=k):valV (p::r) k=valV r k:=by simp [valV,List.find?_cons,e]
theorem valV_any (k:κ):∀ kvs:List (κ×V),(kvs.any fun kv=>decide (kv.1=k))=(valV kvs k).isSome
 | []=>rfl
 | p::r=>by
  rw [List.any_cons]
  by_cases e:p.1=k
  ·simp only [valV_pos e,decide_eq_true e,Bool.true_or,Option.isSome_some]
  ·rw [valV_neg e,decide_eq_false e,Bool.false_or];exact valV_any k r
theorem length_putK (kvs:List (κ×V)) (k:κ) (v:V):(putK kvs k v).length≤kvs.length + 1:=by
 unfold putK
 split
 ·rw [List.length_map];omega
 ·rw [List.length_append,List.length_cons,List.length_nil];omega
theorem RelO.isSome_eq {o:Option V} {u:Option Value} (r:RelO o u):o.isSome=u.isSome:=by
 cases o with
 | none=>cases u with
  | none=>rfl
  | some _=>exact (show False from r).elim
 | some _=>cases u with
  | none=>exact (show False from r).elim
  | some _=>rfl
theorem RelO.getD {o:Option V} {u:Option Value} {d:V} {d':Value} (r:RelO o u) (rd:RelV d d'):RelV (o.getD d) (u.getD d'):=by
 cases o with
 | none=>cases u with
  | none=>exact rd
  | some _=>exact (show False from r).elim
 | some _=>cases u with
  | none=>exact (show False from r).elim
  | some _=>exact r
theorem KV.val {kvs:List (κ×V)} {vs:List (κ×Value)} (r:KV kvs vs) (k:κ):RelO (valV kvs k) (valueAt vs k):=by
 unfold KV at r
 induction r with
 | nil=>exact True.intro
 | @cons p q ps qs h t ih=>
  obtain ⟨h1,h2⟩:=h
  by_cases e:p.1=k
  ·have e':q.1=k:=h1.symm.trans e
   have b:valueAt (q::qs) k=some q.2:=by simp [valueAt,List.find?_cons,e']
   rw [valV_pos e,b];exact h2
  ·have e':¬q.1=k:=fun z=>e (h1.trans z)
   have b:valueAt (q::qs) k=valueAt qs k:=by simp [valueAt,List.find?_cons,e']
   rw [valV_neg e,b];exact ih
theorem KV.any {kvs:List (κ×V)} {vs:List (κ×Value)} (r:KV kvs vs) (k:κ):(kvs.any fun kv=>decide (kv.1=k))=vs.any fun kv=>decide (kv.1=k):=by
 unfold KV at r
 induction r with
 | nil=>rfl
 | cons h t ih=>rw [List.any_cons,List.any_cons,ih,h.1]
theorem KV.repl {kvs:List (κ×V)} {vs:List (κ×Value)} (r:KV kvs vs) (k:κ) {y:V} {u:Value} (ry:RelV y u):
  KV (kvs.map fun kv=>if kv.1=k then (kv.1,y) else kv) (vs.map fun kv=>if kv.1=k then (kv.1,u) else kv):=by
 unfold KV at r ⊢
 induction r with
 | nil=>exact .nil
 | @cons p q ps qs h t ih=>
  rw [List.map_cons,List.map_cons]
  refine .cons ?_ ih
  obtain ⟨h1,h2⟩:=h
  by_cases e:p.1=k
  ·rw [if_pos e,if_pos (h1.symm.trans e)];exact ⟨h1,ry⟩
  ·rw [if_neg e,if_neg (fun z=>e (h1.trans z))];exact ⟨h1,h2⟩
theorem KV.put {kvs:List (κ×V)} {vs:List (κ×Value)} (r:KV kvs vs) (k:κ) {y:V} {u:Value} (ry:RelV y u):KV (putK kvs k y) (stored vs k u):=by
 unfold putK stored
 rw [r.any k]
 by_cases e:(vs.any fun kv=>decide (kv.1=k))=true
 ·rw [if_pos e,if_pos e];exact r.repl k ry
 ·rw [if_neg e,if_neg e];exact Paired.snoc r ⟨rfl,ry⟩
theorem KV.drop {kvs:List (κ×V)} {vs:List (κ×Value)} (r:KV kvs vs) (k:κ):KV (dropK kvs k) (without vs k):=by
 unfold KV at r ⊢
 unfold dropK without
 induction r with
 | nil=>exact .nil
 | @cons p q ps qs h t ih=>
  obtain ⟨h1,h2⟩:=h
  rw [List.filter_cons,List.filter_cons]
  by_cases e:p.1=k
  ·have a:¬decide (p.1≠k)=true:=by simp [e]
   have b:¬decide (q.1≠k)=true:=by simp [h1.symm.trans e]
   rw [if_neg a,if_neg b];exact ih
  ·have e':¬q.1=k:=fun z=>e (h1.trans z)
   have a:decide (p.1≠k)=true:=by simp [e]
   have b:decide (q.1≠k)=true:=by simp [e']
   rw [if_pos a,if_pos b];exact .cons ⟨h1,h2⟩ ih
theorem KV.keys {kvs:List (κ×V)} {vs:List (κ×Value)} (r:KV kvs vs):kvs.map (·.1)=vs.map (·.1):=by
 unfold KV at r
 induction r with
 | nil=>rfl
 | cons h t ih=>rw [List.map_cons,List.map_cons,ih,h.1]
theorem KV.length {kvs:List (κ×V)} {vs:List (κ×Value)} (r:KV kvs vs):kvs.length=vs.length:=Paired.length r
end
theorem kV_is {P:Program} {w:World} {k:Key} {u:Value} (r:RelV (kV k) u):(mixKind P w).is k u=true:=by
 cases k with
 | inl i=>obtain ⟨t,e⟩:=(show ∃ t,u=Value.int i t from r);subst e;exact mixKind_int P w i t
 | inr x=>obtain ⟨t,e⟩:=(show ∃ t,u=Value.str x t from r);subst e;exact mixKind_str P w x t
theorem items_are {P:Program} {w:World}:∀ {ks:List Key} {us:List Value},Vals (ks.map kV) us→ItemsAre (mixKind P w) ks us
 | [],_,r=>by rw [List.map_nil] at r;cases r;exact .nil
 | k::ks,_,r=>by
  rw [List.map_cons] at r
  cases r with
  | cons h t=>exact .cons (kV_is h) (items_are t)
noncomputable abbrev KT (H:Hp):List (List Key×V)→List (List Key×Addr×Value)→Prop:=Paired fun p q=>p.1=q.1∧H q.2.1=some (.tup (p.1.map kV))∧RelV p.2 q.2.2
theorem KT.val {H:Hp} {kvs:List (List Key×V)} {xs:List (List Key×Addr×Value)} (r:KT H kvs xs) (k:List Key):RelO (valV kvs k) ((atKey xs k).map (·.2)):=by
 induction r with
 | nil=>exact True.intro
 | @cons p q ps qs h t ih=>
  obtain ⟨h1,_,h2⟩:=h
  by_cases e:p.1=k
  ·have e':q.1=k:=h1.symm.trans e
   have b:atKey (q::qs) k=some q.2:=by simp [atKey,List.find?_cons,e']
   rw [valV_pos e,b];exact h2
  ·have e':¬q.1=k:=fun z=>e (h1.trans z)
   have b:atKey (q::qs) k=atKey qs k:=by simp [atKey,List.find?_cons,e']
   rw [valV_neg e,b];exact ih
theorem KT.repl {H:Hp} {kvs:List (List Key×V)} {xs:List (List Key×Addr×Value)} (r:KT H kvs xs) (k:List Key) {y:V} {u:Value} (ry:RelV y u):
  KT H (kvs.map fun kv=>if kv.1=k then (kv.1,y) else kv) (xs.map (putAt k u)):=by
 induction r with
 | nil=>exact .nil
 | @cons p q ps qs h t ih=>
  rw [List.map_cons,List.map_cons]
  refine .cons ?_ ih
  obtain ⟨h1,h2,h3⟩:=h
  unfold putAt
  by_cases e:p.1=k
  ·rw [if_pos e,if_pos (h1.symm.trans e)];exact ⟨h1,h2,ry⟩
  ·rw [if_neg e,if_neg (fun z=>e (h1.trans z))];exact ⟨h1,h2,h3⟩
theorem KT.put {H:Hp} {kvs:List (List Key×V)} {xs:List (List Key×Addr×Value)} (r:KT H kvs xs) (k:List Key) {b:Addr} {y:V} {u:Value} (hb:H b=some (.tup (k.map kV))) (ry:RelV y u):
  KT H (putK kvs k y) (storedH xs k b u):=by
 have e:(kvs.any fun kv=>decide (kv.1=k))=(atKey xs k).isSome:=by
  rw [valV_any,(r.val k).isSome_eq,Option.isSome_map]
 unfold putK storedH
 rw [e]
 by_cases q:(atKey xs k).isSome=true
 ·rw [if_pos q,if_pos q];exact r.repl k ry
 ·rw [if_neg q,if_neg q];exact Paired.snoc r ⟨rfl,hb,ry⟩
theorem KT.keeps {H H':Hp} {kvs:List (List Key×V)} {xs:List (List Key×Addr×Value)} (r:KT H kvs xs) (ht:∀ b ys,H b=some (.tup ys)→H' b=some (.tup ys)):KT H' kvs xs:=
 Paired.mapP r fun _ _ z=>⟨z.1,ht _ _ z.2.1,z.2.2⟩
section
variable {P:Program} {w:World} {H:Hp} {h:Heap} {a:Addr}
theorem rd_of {u:HO} (ok:HOk P w H h) (e:Rd H a u):ObjOk P w H h a u:=e.ok ok
theorem dk_rd {kvs:List (Key×V)} (ok:HOk P w H h) (e:Rd H a (.dK kvs)):kvs.length≤sizeLine∧(a==sysModules)=false∧∃ vs,KV kvs vs∧h.DictOf (mixKind P w) a vs:=
 show ObjOk P w H h a (.dK kvs) from rd_of ok e
theorem key_of {ks:List Key} (ok:HOk P w H h) (e:H a=some (.tup (ks.map kV))):(tupleKind (mixKind P w)).is h ks a:=by
 obtain ⟨_,its,r,⟨o,h1,h2,n,h3⟩,_⟩:=(show ObjOk P w H h a (.tup (ks.map kV)) from ok a _ e)
 exact ⟨o,its.toArray,n,h1,h2,h3,by simpa using items_are r⟩
theorem dt_rd {kvs:List (List Key×V)} (ok:HOk P w H h) (e:Rd H a (.dT kvs)):kvs.length≤sizeLine∧(a==sysModules)=false∧
  ∃ xs,KT H kvs xs∧h.DictOfH (tupleKind (mixKind P w)) a xs:=by
 obtain ⟨z,y,xs,r,o,es,ep,h1,h2,h3,h4,h5⟩:=(show ObjOk P w H h a (.dT kvs) from rd_of ok e)
 refine ⟨z,y,xs,r,o,es,ep,h1,h2,h3,h4,fun x hx=>?_,h5⟩
 have all:∀ {l:List (List Key×V)} {m:List (List Key×Addr×Value)},KT H l m→∀ x∈m,(tupleKind (mixKind P w)).is h x.1 x.2.1:=by
  intro l m q
  induction q with
  | nil=>intro x hx;exact nomatch hx
  | @cons p q ps qs hq t ih=>
   intro x hx
   rcases List.mem_cons.mp hx with e | hx
   ·subst e
    exact key_of ok (by rw [←hq.1];exact hq.2.1)
   ·exact ih x hx
 exact all r x hx
theorem dt_of {kvs:List (List Key×V)} (ok:HOk P w H h) (e:H a=some (.dT kvs)):kvs.length≤sizeLine∧(a==sysModules)=false∧
  ∃ xs,KT H kvs xs∧h.DictOfH (tupleKind (mixKind P w)) a xs:=dt_rd ok (.inl e)
end
noncomputable def DGet (H:Hp) (a:Addr) (y:V) (r:Option V):Prop:=
 (∃ kvs k,Rd H a (.dK kvs)∧y=kV k∧r=valV kvs k)∨∃ kvs k b,Rd H a (.dT kvs)∧y=.ref b∧H b=some (.tup (k.map kV))∧r=valV kvs k
noncomputable def DPut (H:Hp) (a:Addr) (y v:V) (H':Hp):Prop:=
 (∃ kvs k,H a=some (.dK kvs)∧y=kV k∧kvs.length < sizeLine∧H'=upd H a (.dK (putK kvs k v)))∨
 ∃ kvs k b,H a=some (.dT kvs)∧y=.ref b∧H b=some (.tup (k.map kV))∧kvs.length < sizeLine∧H'=upd H a (.dT (putK kvs k v))
theorem DGet.k {H:Hp} {a:Addr} {kvs:List (Key×V)} {k:Key} (e:H a=some (.dK kvs)):DGet H a (kV k) (valV kvs k):=.inl ⟨kvs,k,.inl e,rfl,rfl⟩
theorem DGet.t {H:Hp} {a b:Addr} {kvs:List (List Key×V)} {k:List Key} (e:H a=some (.dT kvs)) (eb:H b=some (.tup (k.map kV))):DGet H a (.ref b) (valV kvs k):=.inr ⟨kvs,k,b,.inl e,rfl,eb,rfl⟩
theorem DPut.k {H:Hp} {a:Addr} {kvs:List (Key×V)} {k:Key} {v:V} (e:H a=some (.dK kvs)) (hl:kvs.length < sizeLine):DPut H a (kV k) v (upd H a (.dK (putK kvs k v))):=.inl ⟨kvs,k,e,rfl,hl,rfl⟩
theorem DPut.t {H:Hp} {a b:Addr} {kvs:List (List Key×V)} {k:List Key} {v:V} (e:H a=some (.dT kvs)) (eb:H b=some (.tup (k.map kV))) (hl:kvs.length < sizeLine):
  DPut H a (.ref b) v (upd H a (.dT (putK kvs k v))):=.inr ⟨kvs,k,b,e,rfl,eb,hl,rfl⟩
section
variable {X:Cx} {pins:List (Addr×Obj)} {σ:St} {H:Hp} {s:Shared} {a:Addr} {y v:V} {u r:Value} {o:Option V} {A:Around} {E:Value→Shared→Prop}
theorem Inv.big (I:Inv X pins σ H s):sysModules < s.heap.objs.size:=by
 have h:mainGlobals < s.heap.objs.size:=(I.mod.glob.keeps I.bk).lt
 exact Nat.lt_trans (by decide) h
theorem d_notIn {Q:Value→Shared→Prop} (hu:A.units + 1 < cLine) (I:Inv X pins σ H s) (g:DGet H a y o) (ry:RelV y u) (h:∀ s',Inv X pins σ H s'→Q (.bool (!o.isSome)) s'):
  wpAny (model X.prog X.w) A (compareOp .NotIn u (.ref a)) Q E s:=by
 rcases g with ⟨kvs,k,e,ey,l⟩ | ⟨kvs,k,b,e,ey,eb,l⟩
 ·subst ey
  obtain ⟨z,hd,vs,rel,dd⟩:=dk_rd I.hok e
  refine wpAny_notIn_of (kV_is ry) hd dd.mapOf ?_
  rw [←(rel.val k).isSome_eq,←l]
  exact h _ (I.tok _)
 ·subst ey
  cases (show u=Value.ref b from ry)
  obtain ⟨z,hd,xs,rel,dd⟩:=dt_rd I.hok e
  refine wpAny_notIn_heap (tupleKind_room_in1 hu) (key_of I.hok eb) hd dd ?_
  have q:=(rel.val k).isSome_eq
  rw [Option.isSome_map] at q
  rw [←q,←l]
  exact h _ (I.tok _)
theorem d_write {h':Heap} {t':Nat} {ob:HO} (I:Inv X pins σ H s) (mu:Mut (H a)) (hs:Heap.SameBut a s.heap h') (he:∃ q,h'.get? a=some q) (new:ObjOk X.prog X.w (upd H a ob) h' a ob):
  Inv X pins σ (upd H a ob) { s with heap:=h',toks:=t' }:=
 I.write (x:=a) (e:=a) mu (.inl rfl) (fun b q hb z=>(hs.2 b hb).trans z) he new
end
section
variable {X:Cx} {pins:List (Addr×Obj)} {σ:St} {H:Hp} {s:Shared} {a:Addr} {kvs:List (Key×V)} {k:Key} {u:Value} {A:Around} {E:Value→Shared→Prop}
end
noncomputable def tDNotIn (ty td:TE):TE:=fun σ H Q=>ty σ H fun y H1=>td σ H1 fun x H2=>∃ a o,x=.ref a∧DGet H2 a y o∧Q (.bl (!o.isSome)) H2
section
variable {X:Cx} {o i e value:Expr} {pos pos' tpos:Pos} {td ty tv:TE}
theorem pc_dnotin (hu:X.A.units + 1 < cLine) (hi:PE X i ty) (ho:PE X o td):PC X .NotIn i o (tDNotIn ty td):=by
 intro pins s σ H Q I h
 refine thn (hi pins s σ H _ I h) fun iv s1 ⟨y,H1,I1,ry,q1⟩=>thn (ho pins s1 σ H1 _ I1 q1) fun u s2 ⟨x,H2,I2,rx,a,ov,ex,g,q2⟩=>?_
 subst ex
 obtain rfl:u=Value.ref a:=rx
 exact d_notIn hu I2 g ry fun s3 I3=>⟨.bl (!ov.isSome),H2,I3,rfl,q2⟩
end
theorem dt_empty {P:Program} {w:World} {H:Hp} (h:Heap) (hb:sysModules < h.objs.size):ObjOk P w H (h.push { cls:=.type "dict",data:=.dict #[] }) h.objs.size (.dT []):=
 ⟨Nat.zero_le _,beq_eq_false_iff_ne.mpr (Ne.symm (Nat.ne_of_lt hb)),[],.nil,_,#[],0,Heap.get?_push_size _ rfl,⟨rfl,rfl,rfl⟩,rfl,rfl,List.nodup_nil⟩
section
variable {X:Cx} {pos:Pos}
end
noncomputable def mergeK (kvs more:List (Key×V)):List (Key×V):=more.foldl (fun acc kv=>putK acc kv.1 kv.2) kvs
theorem KV.merge:∀ {more:List (Key×V)} {rs:List (Key×Value)} {kvs:List (Key×V)} {vs:List (Key×Value)},KV more rs→KV kvs vs→KV (mergeK kvs more) (merged vs rs):=by
 intro more rs kvs vs r
 unfold KV at r
 induction r generalizing kvs vs with
 | nil=>intro q;exact q
 | @cons p q ps qs h t ih=>
  intro r0
  have e:KV (putK kvs p.1 p.2) (stored vs q.1 q.2):=by
   have:=r0.put p.1 h.2
   rw [←h.1];exact this
  exact ih e
structure M1 (X:Cx) (o:Expr) (m:Str) (apos:Pos) (e:Expr) (cpos:Pos):Prop where
 base:attributeBase o m X.env (eval o X.env)=eval o X.env
 few:((backTo cpos (starEach [e] X.env)).all (fun x=> !x.1)&&(backToKw cpos (keywordEach [] X.env)).all (fun x=>x.1.isSome)
  &&decide (([e]:List Expr).length + ([]:List Keyword).length + (if ([]:List Keyword).isEmpty then 0 else 1) < 30))=true
 line:(apos.endLine==cpos.line)=true
 trees:backTo cpos (starEach [e] X.env)=[(false,eval e X.env)]
structure M2 (X:Cx) (o:Expr) (m:Str) (apos:Pos) (e f:Expr) (cpos:Pos):Prop where
 base:attributeBase o m X.env (eval o X.env)=eval o X.env
 few:((backTo cpos (starEach [e,f] X.env)).all (fun x=> !x.1)&&(backToKw cpos (keywordEach [] X.env)).all (fun x=>x.1.isSome)
  &&decide (([e,f]:List Expr).length + ([]:List Keyword).length + (if ([]:List Keyword).isEmpty then 0 else 1) < 30))=true
 line:(apos.endLine==cpos.line)=true
 trees:backTo cpos (starEach [e,f] X.env)=[(false,eval e X.env),(false,eval f X.env)]
section
variable {X:Cx} {pins:List (Addr×Obj)} {σ:St} {H:Hp} {s:Shared} {a:Addr} {y d:V} {u r:Value} {o:Option V} {A:Around} {E:Value→Shared→Prop}
end
section
variable {X:Cx} {o e f:Expr} {apos cpos:Pos} {td ty tx:TE}
end
section
variable {X:Cx} {pins:List (Addr×Obj)} {σ:St} {H:Hp} {s:Shared} {a:Addr} {kvs:List (Key×V)} {A:Around} {E:Value→Shared→Prop}
end
section
variable {X:Cx} {pins:List (Addr×Obj)} {σ:St} {H:Hp} {s:Shared} {a:Addr} {y:V} {u:Value} {A:Around} {E:Value→Shared→Prop}
end
end L2
namespace L2
open PySem PySem.Spec PyProof.Rows
section
variable {X:Cx}
end
section
variable {K:PySem.W.Frag} {σ:St} {H:Hp} {Q:VK}
theorem keyV (S:List Int):S.map V.int=(S.map (Sum.inl:Int→Key)).map kV:=by rw [List.map_map];rfl
theorem rd_dnotin {td ty:TE} (h:ty σ H fun y H1=>td σ H1 fun x H2=>∃ a o,x=.ref a∧DGet H2 a y o∧Q (.bl (!o.isSome)) H2):tDNotIn ty td σ H Q:=h
theorem getS {a b:Addr} {kvs:List (List Key×V)} {S:List Int} {o:Option V} (e:H a=some (.dT kvs)) (eb:H b=some (.tup (S.map V.int))) (ho:valV kvs (S.map Sum.inl)=o):DGet H a (.ref b) o:=by
 rw [←ho]
 exact DGet.t e (by rw [←keyV];exact eb)
end
end L2
namespace L2
open PySem PySem.Spec PyProof.Rows
section
variable {P:Program} {w:World} {K:PySem.W.Frag} {mg:Str→Option Value} {base:Heap} {CX:CXT} {k:Nat} {f:Addr} {fd:FuncData} {ps:List Str} {sp sp':Sp}
theorem FnOk.lift (F:FnOk P w K mg base CX0 k f fd ps sp):FnOk P w K mg base (CXE P w) k f fd ps sp:=
 ⟨F.len,fun A outer s H args us vs Q E hr he hb hv hs=>codeAny_mono (F.run A outer s H args us vs Q E hr he hb hv hs) fun r s' h=>by
  cases r with
  | error e=>exact h.elim
  | ok fl=>
   cases fl with
   | ret u=>exact h
   | _=>exact h.elim⟩
theorem FnOk.or (F:FnOk P w K mg base CX k f fd ps sp) (G:FnOk P w K mg base CX k f fd ps sp'):FnOk P w K mg base CX k f fd ps (fun vs H Q E=>sp vs H Q E∨sp' vs H Q E):=
 ⟨fun vs H Q E h=>h.elim (F.len vs H Q E) (G.len vs H Q E),fun A outer s H args us vs Q E hr he hb hv hs=>hs.elim (F.run A outer s H args us vs Q E hr he hb hv) (G.run A outer s H args us vs Q E hr he hb hv)⟩
end
end L2
namespace TS
open PySem PySem.Spec PyProof.Rows
noncomputable def gal:Bool→Keyed→Array Keyed→Nat→Nat→Nat→StateT SortSt Sem (Option Nat):=sortPriv% PySem.Builtin.gallop
noncomputable def byd (left:Bool) (key:Keyed) (arr:Array Keyed) (base i:Nat):StateT SortSt Sem (Option Bool):=do
 let x ←elem' arr (base + i)
 if left then lt' x key else return (←lt' key x).map (!·)
theorem gal_eq (left:Bool) (key:Keyed) (arr:Array Keyed) (base n hint:Nat):gal left key arr base n hint=(do
 let mut lastofs:=0
 let mut ofs:=1
 let mut lo:=0
 let mut hi:=0
 let some right ←byd left key arr base hint | return none
 if right then
  let maxofs:=n - hint
  for _ in [0:n] do
   if ofs≥maxofs then break
   let some more ←byd left key arr base (hint + ofs) | return none
   if !more then break
   lastofs:=ofs
   ofs:=2 * ofs + 1
  lo:=hint + lastofs + 1
  hi:=hint + min ofs maxofs
 else
  let maxofs:=hint + 1
  for _ in [0:n] do
   if ofs≥maxofs then break
   let some found ←byd left key arr base (hint - ofs) | return none
   if found then break
   lastofs:=ofs
   ofs:=2 * ofs + 1
  lo:=hint + 1 - min ofs maxofs
  hi:=hint - lastofs
 for _ in [0:n] do
  if lo≥hi then break
  let m:=lo + (hi - lo) / 2
  let some more ←byd left key arr base m | return none
  if more then lo:=m + 1 else hi:=m
 return some hi):=rfl
noncomputable def Cmp (prog:Program) (w:World) (A:Around) (s:Shared) (κ:SortKind) (r:Keyed→Nat) (S:Keyed→Prop):Prop:=
 ∀ x y:Keyed,S x→S y→∀ Q:Bool→Shared→Prop,Q (decide (r x < r y)) s→wpAny (model prog w) A (keyLt' κ x.1 y.1) Q (fun _ _=>False) s
section
variable {prog:Program} {w:World} {A:Around} {E:Value→Shared→Prop} {s:Shared} {κ:SortKind} {r:Keyed→Nat} {S:Keyed→Prop}
theorem wpS_lt (C:Cmp prog w A s κ r S) {st:SortSt} {x y:Keyed} {Q:Option Bool→SortSt→Prop} (hk:kindOf st=κ) (hx:S x) (hy:S y) (h:Q (some (decide (r x < r y))) st):wpS (model prog w) A E s (lt' x y) Q st:=by
 rw [lt'_eq]
 refine wpS_bind (wpS_get ?_)
 rw [hk]
 refine wpS_bind (wpS_lift (wpAny_attempt (wpAny_mono (C x y hx hy (fun b s'=>s'=s∧b=decide (r x < r y)) ⟨rfl,rfl⟩) (fun b s' hb=>?_) fun _ _ e=>e.elim)))
 obtain ⟨rfl,rfl⟩:=hb
 exact ⟨rfl,wpS_pure h⟩
theorem wpS_elem {st:SortSt} {arr:Array Keyed} {i:Nat} {x:Keyed} {Q:Keyed→SortSt→Prop} (e:arr[i]? =some x) (h:Q x st):wpS (model prog w) A E s (elem' arr i) Q st:=by
 rw [elem'_eq,e]
 exact wpS_pure h
noncomputable def bef (left:Bool) (r:Keyed→Nat) (key x:Keyed):Bool:=if left then decide (r x < r key) else !decide (r key < r x)
theorem wpS_byd (C:Cmp prog w A s κ r S) {left:Bool} {st:SortSt} {key x:Keyed} {arr:Array Keyed} {base i:Nat} {Q:Option Bool→SortSt→Prop} (hk:kindOf st=κ) (hx:S x) (hy:S key)
  (e:arr[base + i]? =some x) (h:Q (some (bef left r key x)) st):wpS (model prog w) A E s (byd left key arr base i) Q st:=by
 unfold byd
 refine wpS_bind (wpS_elem e ?_)
 cases left with
 | true=>
  simp only [if_true]
  exact wpS_lt C hk hx hy h
 | false=>
  simp only [Bool.false_eq_true,if_false]
  refine wpS_bind (wpS_lt C hk hy hx ?_)
  exact wpS_pure h
theorem wpS_srch (C:Cmp prog w A s κ r S) {left:Bool} {st:SortSt} {key:Keyed} {arr:Array Keyed} {base n lo hi:Nat} {Q:Option (Option Nat)×Nat×Nat→SortSt→Prop} (hk:kindOf st=κ) (hy:S key) (g:Nat→Keyed)
  (hg:∀ i,i < n→arr[base + i]? =some (g i)∧S (g i)) (mono:∀ i j,i≤j→j < n→bef left r key (g j)=true→bef left r key (g i)=true)
  (h1:lo≤hi) (h2:hi≤n) (h3:∀ i,i < lo→bef left r key (g i)=true) (h4:∀ i,hi≤i→i < n→bef left r key (g i)=false)
  (h:∀ l k,k≤n→(∀ i,i < k→bef left r key (g i)=true)→(∀ i,k≤i→i < n→bef left r key (g i)=false)→Q (none,l,k) st):
  wpS (model prog w) A E s (forIn [:n] ((none,lo,hi):Option (Option Nat)×Nat×Nat) fun x __s=>
        if __s.snd.fst≥__s.snd.snd then pure (ForInStep.done (none,__s.snd.fst,__s.snd.snd))
        else do
         let __x ←byd left key arr base (__s.snd.fst + (__s.snd.snd - __s.snd.fst) / 2)
         match __x with
          | some more=>
           if more=true then
            pure (ForInStep.yield (none,__s.snd.fst + (__s.snd.snd - __s.snd.fst) / 2 + 1,__s.snd.snd))
           else pure (ForInStep.yield (none,__s.snd.fst,__s.snd.fst + (__s.snd.snd - __s.snd.fst) / 2))
          | x=>pure (ForInStep.done (some none,__s.snd.fst,__s.snd.snd))) Q st:=by
 refine wpS_forRange (I:=fun x c st'=>st'=st∧∃ l k,c=(none,l,k)∧l≤k∧k≤n∧k - l≤n - x∧(∀ i,i < l→bef left r key (g i)=true)∧(∀ i,k≤i→i < n→bef left r key (g i)=false)) ?step ?fin ⟨rfl,lo,hi,rfl,h1,h2,by omega,h3,h4⟩
 case fin=>
  rintro c st' ⟨rfl,l,k,rfl,a1,a2,a3,a4,a5⟩
  have:l=k:=by omega
  subst this
  exact h l l a2 a4 a5
 case step=>
  rintro x c st' _ hx ⟨rfl,l,k,rfl,a1,a2,a3,a4,a5⟩
  dsimp only
  by_cases hge:l≥k
  ·rw [if_pos hge]
   have:l=k:=by omega
   subst this
   exact wpS_pure (h l l a2 a4 a5)
  ·rw [if_neg hge]
   have hm:l + (k - l) / 2 < n:=by omega
   refine wpS_bind (wpS_byd C hk (hg _ hm).2 hy (hg _ hm).1 ?_)
   cases e:bef left r key (g (l + (k - l) / 2)) with
   | true=>
    dsimp only
    rw [if_pos rfl]
    exact wpS_pure ⟨rfl,_,_,rfl,by omega,a2,by omega,fun i hi=>mono i _ (by omega) hm e,a5⟩
   | false=>
    dsimp only
    rw [if_neg (by simp)]
    refine wpS_pure ⟨rfl,_,_,rfl,by omega,by omega,by omega,a4,fun i h5 h6=>?_⟩
    cases q:bef left r key (g i) with
    | false=>rfl
    | true=>rw [mono _ i h5 h6 q] at e;cases e
theorem wpS_gal (C:Cmp prog w A s κ r S) {left:Bool} {st:SortSt} {key:Keyed} {arr:Array Keyed} {base n hint:Nat} {Q:Option Nat→SortSt→Prop} (hk:kindOf st=κ) (hy:S key) (g:Nat→Keyed)
  (hg:∀ i,i < n→arr[base + i]? =some (g i)∧S (g i)) (hm:∀ i j,i≤j→j < n→r (g i)≤r (g j)) (hh:hint < n)
  (h:∀ k,k≤n→(∀ i,i < k→bef left r key (g i)=true)→(∀ i,k≤i→i < n→bef left r key (g i)=false)→Q (some k) st):wpS (model prog w) A E s (gal left key arr base n hint) Q st:=by
 have mono:∀ i j,i≤j→j < n→bef left r key (g j)=true→bef left r key (g i)=true:=fun i j hij hj e=>by
  have:=hm i j hij hj
  unfold bef at e ⊢
  cases left <;> simp at e ⊢ <;> omega
 have monoF:∀ i j,i≤j→j < n→bef left r key (g i)=false→bef left r key (g j)=false:=fun i j hij hj e=>by
  cases q:bef left r key (g j) with
  | false=>rfl
  | true=>rw [mono i j hij hj q] at e;cases e
 rw [gal_eq]
 refine wpS_bind (wpS_byd C hk (hg hint hh).2 hy (hg hint hh).1 ?_)
 cases e0:bef left r key (g hint) with
 | true=>
  simp only [if_true]
  refine wpS_bind (wpS_mono (wpS_forRange (I:=fun x c st'=>st'=st∧∃ l o,c=(none,l,o)∧l < o∧x < o∧hint + l < n∧bef left r key (g (hint + l))=true)
   (Q:=fun c st'=>st'=st∧∃ l o,c=(none,l,o)∧l < o∧hint + l < n∧bef left r key (g (hint + l))=true∧∀ i,hint + min o (n - hint)≤i→i < n→bef left r key (g i)=false) ?step ?fin ⟨rfl,0,1,rfl,by omega,by omega,hh,e0⟩) ?post)
  case fin=>
   rintro c st' ⟨rfl,l,o,rfl,a1,a2,a3,a4⟩
   exact ⟨rfl,l,o,rfl,a1,a3,a4,fun i h5 h6=>by omega⟩
  case step=>
   rintro x c st' _ hx ⟨rfl,l,o,rfl,a1,a2,a3,a4⟩
   dsimp only
   by_cases hge:o≥n - hint
   ·rw [if_pos hge]
    exact wpS_pure ⟨rfl,l,o,rfl,a1,a3,a4,fun i h5 h6=>by omega⟩
   ·rw [if_neg hge]
    have hn:hint + o < n:=by omega
    refine wpS_bind (wpS_byd C hk (hg _ hn).2 hy (hg _ hn).1 ?_)
    cases e:bef left r key (g (hint + o)) with
    | true=>
     dsimp only
     rw [if_neg (by simp)]
     exact wpS_pure ⟨rfl,_,_,rfl,by omega,by omega,hn,e⟩
    | false=>
     dsimp only
     rw [if_pos (by simp)]
     exact wpS_pure ⟨rfl,l,o,rfl,a1,a3,a4,fun i h5 h6=>monoF _ i (by omega) h6 e⟩
  case post=>
   rintro c st' ⟨rfl,l,o,rfl,a1,a3,a4,a5⟩
   dsimp only
   refine wpS_bind (wpS_srch C hk hy g hg mono (by omega) (by omega) (fun i hi=>mono i _ (by omega) a3 a4) a5 fun l k b1 b2 b3=>?_)
   exact wpS_pure (h k b1 b2 b3)
 | false=>
  simp only [Bool.false_eq_true,if_false]
  refine wpS_bind (wpS_mono (wpS_forRange (I:=fun x c st'=>st'=st∧∃ l o,c=(none,l,o)∧l < o∧x < o∧l≤hint∧bef left r key (g (hint - l))=false)
   (Q:=fun c st'=>st'=st∧∃ l o,c=(none,l,o)∧l < o∧l≤hint∧bef left r key (g (hint - l))=false∧∀ i,i < hint + 1 - min o (hint + 1)→bef left r key (g i)=true) ?step ?fin ⟨rfl,0,1,rfl,by omega,by omega,by omega,e0⟩) ?post)
  case fin=>
   rintro c st' ⟨rfl,l,o,rfl,a1,a2,a3,a4⟩
   exact ⟨rfl,l,o,rfl,a1,a3,a4,fun i h5=>by omega⟩
  case step=>
   rintro x c st' _ hx ⟨rfl,l,o,rfl,a1,a2,a3,a4⟩
   dsimp only
   by_cases hge:o≥hint + 1
   ·rw [if_pos hge]
    exact wpS_pure ⟨rfl,l,o,rfl,a1,a3,a4,fun i h5=>by omega⟩
   ·rw [if_neg hge]
    have hn:hint - o < n:=by omega
    refine wpS_bind (wpS_byd C hk (hg _ hn).2 hy (hg _ hn).1 ?_)
    cases e:bef left r key (g (hint - o)) with
    | false=>
     dsimp only
     rw [if_neg (by simp)]
     exact wpS_pure ⟨rfl,_,_,rfl,by omega,by omega,by omega,e⟩
    | true=>
     dsimp only
     rw [if_pos rfl]
     exact wpS_pure ⟨rfl,l,o,rfl,a1,a3,a4,fun i h5=>mono i _ (by omega) hn e⟩
  case post=>
   rintro c st' ⟨rfl,l,o,rfl,a1,a3,a4,a5⟩
   dsimp only
   refine wpS_bind (wpS_srch C hk hy g hg mono (by omega) (by omega) a5 (fun i hi h6=>monoF _ i hi h6 a4) fun l k b1 b2 b3=>?_)
   exact wpS_pure (h k b1 b2 b3)
end
end TS
namespace TS
open PySem PySem.Spec PyProof.Rows
noncomputable def mLo:Array Keyed→Array Keyed→StateT SortSt Sem (Array Keyed):=sortPriv% PySem.Builtin.mergeLo
noncomputable def mHi:Array Keyed→Array Keyed→StateT SortSt Sem (Array Keyed):=sortPriv% PySem.Builtin.mergeHi
noncomputable abbrev sg (st:SortSt) (g:Nat):SortSt:=SortSt.mk' (kindOf st) (arrOf st) (pendingOf st) g (failedOf st)
noncomputable def setG (g:Nat):StateT SortSt Sem Unit:=modify fun s=>sg s g
theorem mLo_eq (a b:Array Keyed):mLo a b=(do
 rule "list.sort.merge-lo"
 let total:=a.size + b.size
 let done (out:Array Keyed) (ia ib:Nat):=out++a.extract ia a.size++b.extract ib b.size
 let lastOfA (out:Array Keyed) (ia ib:Nat):=out++b.extract ib b.size++a.extract ia a.size
 let mut out:Array Keyed:=#[←elem' b 0]
 let mut ia:=0
 let mut ib:=1
 if ib==b.size then return done out ia ib
 if ia + 1==a.size then return lastOfA out ia ib
 let mut minGallop:=gallopOf (←get)
 for _ in [0:total] do
  let mut acount:=0
  let mut bcount:=0
  for _ in [0:total] do
   let some bWins ←lt' (←elem' b ib) (←elem' a ia) | return done out ia ib
   if bWins then
    out:=out.push (←elem' b ib);ib:=ib + 1;bcount:=bcount + 1;acount:=0
    if ib==b.size then return done out ia ib
    if bcount≥minGallop then break
   else
    out:=out.push (←elem' a ia);ia:=ia + 1;acount:=acount + 1;bcount:=0
    if ia + 1==a.size then return lastOfA out ia ib
    if acount≥minGallop then break
  rule "list.sort.gallop"
  minGallop:=minGallop + 1
  for _ in [0:total] do
   if minGallop > 1 then minGallop:=minGallop - 1
   setG minGallop
   let some k ←gal false (←elem' b ib) a ia (a.size - ia) 0 | return done out ia ib
   acount:=k
   if k > 0 then
    out:=out++a.extract ia (ia + k);ia:=ia + k
    if ia + 1==a.size then return lastOfA out ia ib
    if ia==a.size then return done out ia ib
   out:=out.push (←elem' b ib);ib:=ib + 1
   if ib==b.size then return done out ia ib
   let some k ←gal true (←elem' a ia) b ib (b.size - ib) 0 | return done out ia ib
   bcount:=k
   if k > 0 then
    out:=out++b.extract ib (ib + k);ib:=ib + k
    if ib==b.size then return done out ia ib
   out:=out.push (←elem' a ia);ia:=ia + 1
   if ia + 1==a.size then return lastOfA out ia ib
   if acount < 7&&bcount < 7 then break
  minGallop:=minGallop + 1
  setG minGallop
 unsupported "internal:list.sort.merge-bound"):=rfl
theorem mHi_eq (a b:Array Keyed):mHi a b=(do
 rule "list.sort.merge-hi"
 let total:=a.size + b.size
 let done (out:Array Keyed) (na nb:Nat):=a.extract 0 na++b.extract 0 nb++out.reverse
 let firstOfB (out:Array Keyed) (na nb:Nat):=b.extract 0 nb++a.extract 0 na++out.reverse
 let mut na:=a.size - 1
 let mut nb:=b.size
 let mut out:Array Keyed:=#[←elem' a na]
 if na==0 then return done out na nb
 if nb==1 then return firstOfB out na nb
 let mut minGallop:=gallopOf (←get)
 for _ in [0:total] do
  let mut acount:=0
  let mut bcount:=0
  for _ in [0:total] do
   let some aWins ←lt' (←elem' b (nb - 1)) (←elem' a (na - 1)) | return done out na nb
   if aWins then
    na:=na - 1;out:=out.push (←elem' a na);acount:=acount + 1;bcount:=0
    if na==0 then return done out na nb
    if acount≥minGallop then break
   else
    nb:=nb - 1;out:=out.push (←elem' b nb);bcount:=bcount + 1;acount:=0
    if nb==1 then return firstOfB out na nb
    if bcount≥minGallop then break
  rule "list.sort.gallop"
  minGallop:=minGallop + 1
  for _ in [0:total] do
   if minGallop > 1 then minGallop:=minGallop - 1
   setG minGallop
   let some at_ ←gal false (←elem' b (nb - 1)) a 0 na (na - 1) | return done out na nb
   let k:=na - at_
   acount:=k
   if k > 0 then
    out:=out++(a.extract at_ na).reverse;na:=at_
    if na==0 then return done out na nb
   nb:=nb - 1;out:=out.push (←elem' b nb)
   if nb==1 then return firstOfB out na nb
   let some at_ ←gal true (←elem' a (na - 1)) b 0 nb (nb - 1) | return done out na nb
   let k:=nb - at_
   bcount:=k
   if k > 0 then
    out:=out++(b.extract at_ nb).reverse;nb:=at_
    if nb==1 then return firstOfB out na nb
    if nb==0 then return done out na nb
   na:=na - 1;out:=out.push (←elem' a na)
   if na==0 then return done out na nb
   if acount < 7&&bcount < 7 then break
  minGallop:=minGallop + 1
  setG minGallop
 unsupported "internal:list.sort.merge-bound"):=rfl
noncomputable def Ml (r:Keyed→Nat) (a b out:List Keyed) (ia ib:Nat):Prop:=
 out.Perm (a.take ia++b.take ib)∧out.Pairwise (fun x y=>r x≤r y)∧∀ u∈out,∀ v,v∈a.drop ia∨v∈b.drop ib→r u≤r v
theorem Ml.swap {r:Keyed→Nat} {a b out:List Keyed} {ia ib:Nat} (h:Ml r a b out ia ib):Ml r b a out ib ia:=
 ⟨h.1.trans List.perm_append_comm,h.2.1,fun u hu v hv=>h.2.2 u hu v hv.symm⟩
theorem Ml.a {r:Keyed→Nat} {a b out:List Keyed} {ia ib:Nat} (h:Ml r a b out ia ib) (sa:a.Pairwise fun x y=>r x≤r y) (k:Nat) (hk:∀ u∈(a.drop ia).take k,∀ v∈b.drop ib,r u≤r v):
  Ml r a b (out++(a.drop ia).take k) (ia + k) ib:=by
 obtain ⟨h1,h2,h3⟩:=h
 have sd:(a.drop ia).Pairwise fun x y=>r x≤r y:=sa.sublist (List.drop_sublist _ _)
 have st:((a.drop ia).take k++(a.drop ia).drop k).Pairwise fun x y=>r x≤r y:=by rw [List.take_append_drop];exact sd
 rw [List.pairwise_append] at st
 refine ⟨?_,?_,?_⟩
 ·rw [List.take_add]
  refine (List.Perm.append_right _ h1).trans ?_
  rw [List.append_assoc,List.append_assoc]
  exact List.Perm.append_left _ List.perm_append_comm
 ·rw [List.pairwise_append]
  exact ⟨h2,st.1,fun u hu v hv=>h3 u hu v (.inl (List.mem_of_mem_take hv))⟩
 ·intro u hu v hv
  rw [←List.drop_drop] at hv
  rcases List.mem_append.mp hu with hu | hu
  ·exact h3 u hu v (hv.imp List.mem_of_mem_drop id)
  ·rcases hv with hv | hv
   ·exact st.2.2 u hu v hv
   ·exact hk u hu v hv
theorem Ml.b {r:Keyed→Nat} {a b out:List Keyed} {ia ib:Nat} (h:Ml r a b out ia ib) (sb:b.Pairwise fun x y=>r x≤r y) (k:Nat) (hk:∀ u∈(b.drop ib).take k,∀ v∈a.drop ia,r u≤r v):
  Ml r a b (out++(b.drop ib).take k) ia (ib + k):=(h.swap.a sb k hk).swap
noncomputable def Mrg (r:Keyed→Nat) (a b out:Array Keyed):Prop:=out.toList.Perm (a.toList++b.toList)∧out.toList.Pairwise fun x y=>r x≤r y
theorem Ml.all {r:Keyed→Nat} {a b out:List Keyed} {ia ib:Nat} (h:Ml r a b out ia ib) (h1:a.length≤ia) (h2:b.length≤ib):out.Perm (a++b)∧out.Pairwise fun x y=>r x≤r y:=by
 obtain ⟨p,q,_⟩:=h
 rw [List.take_of_length_le h1,List.take_of_length_le h2] at p
 exact ⟨p,q⟩
theorem ext_toList (a:Array Keyed) (i j:Nat):(a.extract i j).toList=(a.toList.drop i).take (j - i):=by simp [Array.toList_extract,List.extract_eq_take_drop]
theorem Ml.done {r:Keyed→Nat} {a b out:Array Keyed} {ia ib:Nat} (h:Ml r a.toList b.toList out.toList ia ib) (sa:a.toList.Pairwise fun x y=>r x≤r y) (sb:b.toList.Pairwise fun x y=>r x≤r y) (e:a.size≤ia∨b.size≤ib):
  Mrg r a b (out++a.extract ia a.size++b.extract ib b.size):=by
 have h1:=h.a sa (a.size - ia) fun u hu v hv=>by
  rcases e with e | e
  ·rw [List.drop_of_length_le (by simpa using e)] at hu;simp at hu
  ·rw [List.drop_of_length_le (by simpa using e)] at hv;simp at hv
 have h2:=h1.b sb (b.size - ib) fun u hu v hv=>by
  rw [List.drop_of_length_le (by simp;omega)] at hv;simp at hv
 have:=h2.all (by simp;omega) (by simp;omega)
 unfold Mrg
 rw [Array.toList_append,Array.toList_append,ext_toList,ext_toList]
 exact this
theorem Ml.last {r:Keyed→Nat} {a b out:Array Keyed} {ia ib:Nat} (h:Ml r a.toList b.toList out.toList ia ib) (sa:a.toList.Pairwise fun x y=>r x≤r y) (sb:b.toList.Pairwise fun x y=>r x≤r y)
  (e:∀ u∈b.toList,∀ v∈a.toList.drop ia,r u≤r v):Mrg r a b (out++b.extract ib b.size++a.extract ia a.size):=by
 have h1:=h.b sb (b.size - ib) fun u hu v hv=>e u (List.mem_of_mem_drop (List.mem_of_mem_take hu)) v hv
 have h2:=h1.a sa (a.size - ia) fun u hu v hv=>by
  rw [List.drop_of_length_le (by simp;omega)] at hv;simp at hv
 have:=h2.all (by simp;omega) (by simp;omega)
 unfold Mrg
 rw [Array.toList_append,Array.toList_append,ext_toList,ext_toList]
 exact this
noncomputable def it (a:Array Keyed) (i:Nat):Keyed:=a.getD i (Value.none,Value.none)
theorem it_get {a:Array Keyed} {i:Nat} (h:i < a.size):a[i]? =some (it a i):=by
 unfold it;rw [getElem?_pos a i h];simp [Array.getD,h]
theorem it_eq {a:Array Keyed} {i:Nat} (h:i < a.size):it a i=a[i]:=by unfold it;simp [Array.getD,h]
theorem it_mem {a:Array Keyed} {i:Nat} (h:i < a.size):it a i∈a.toList:=by rw [it_eq h];simp
noncomputable def Srt (r:Keyed→Nat) (a:Array Keyed):Prop:=∀ i j,i≤j→j < a.size→r (it a i)≤r (it a j)
theorem Srt.pw {r:Keyed→Nat} {a:Array Keyed} (h:Srt r a):a.toList.Pairwise fun x y=>r x≤r y:=by
 rw [List.pairwise_iff_getElem]
 intro i j hi hj hij
 have:=h i j (by omega) (by simpa using hj)
 rw [it_eq (by simpa using hi),it_eq (by simpa using hj)] at this
 simpa using this
theorem Srt.of {r:Keyed→Nat} {a:Array Keyed} (h:a.toList.Pairwise fun x y=>r x≤r y):Srt r a:=by
 intro i j hij hj
 rw [it_eq hj,it_eq (by omega:i < a.size)]
 by_cases e:i=j
 ·subst e;exact Nat.le_refl _
 ·rw [List.pairwise_iff_getElem] at h
  have:=h i j (by simp;omega) (by simpa using hj) (by omega)
  simpa using this
theorem mem_dr {a:Array Keyed} {i:Nat} {v:Keyed} (h:v∈a.toList.drop i):∃ j,i≤j∧j < a.size∧v=it a j:=by
 obtain ⟨k,hk,e⟩:=List.mem_iff_getElem.mp h
 rw [List.length_drop,Array.length_toList] at hk
 refine ⟨i + k,by omega,by omega,?_⟩
 rw [it_eq (by omega),←e]
 simp
theorem mem_tk {a:Array Keyed} {i k:Nat} {v:Keyed} (h:v∈(a.toList.drop i).take k):∃ j,i≤j∧j < i + k∧j < a.size∧v=it a j:=by
 obtain ⟨m,hm,e⟩:=List.mem_iff_getElem.mp h
 rw [List.length_take,List.length_drop,Array.length_toList] at hm
 refine ⟨i + m,by omega,by omega,by omega,?_⟩
 rw [it_eq (by omega),←e]
 simp
noncomputable abbrev MA (r:Keyed→Nat) (a b out:Array Keyed) (ia ib:Nat):Prop:=Ml r a.toList b.toList out.toList ia ib
section
variable {r:Keyed→Nat} {a b out:Array Keyed} {ia ib:Nat}
theorem MA.ext (h:MA r a b out ia ib) (sa:Srt r a) (k:Nat) (hk:∀ j,ia≤j→j < ia + k→j < a.size→∀ i,ib≤i→i < b.size→r (it a j)≤r (it b i)):MA r a b (out++a.extract ia (ia + k)) (ia + k) ib:=by
 have:=Ml.a h sa.pw k fun u hu v hv=>by
  obtain ⟨j,h1,h2,h3,rfl⟩:=mem_tk hu
  obtain ⟨i,h4,h5,rfl⟩:=mem_dr hv
  exact hk j h1 h2 h3 i h4 h5
 unfold MA
 rw [Array.toList_append,ext_toList,show ia + k - ia=k by omega]
 exact this
theorem MA.exb (h:MA r a b out ia ib) (sb:Srt r b) (k:Nat) (hk:∀ j,ib≤j→j < ib + k→j < b.size→∀ i,ia≤i→i < a.size→r (it b j)≤r (it a i)):MA r a b (out++b.extract ib (ib + k)) ia (ib + k):=
 Ml.swap (MA.ext (Ml.swap h) sb k hk)
theorem push_ext {a out:Array Keyed} {i:Nat} (h:i < a.size):out.push (it a i)=out++a.extract i (i + 1):=by
 apply Array.toList_inj.mp
 rw [Array.toList_append,ext_toList,Array.toList_push,it_eq h]
 congr 1
 rw [show i + 1 - i=1 by omega,List.take_one]
 simp [List.head?_drop,h]
theorem MA.pa (h:MA r a b out ia ib) (sa:Srt r a) (hi:ia < a.size) (hk:∀ i,ib≤i→i < b.size→r (it a ia)≤r (it b i)):MA r a b (out.push (it a ia)) (ia + 1) ib:=by
 rw [push_ext hi]
 exact h.ext sa 1 fun j h1 h2 h3 i h4 h5=>by
  obtain rfl:j=ia:=by omega
  exact hk i h4 h5
theorem MA.pb (h:MA r a b out ia ib) (sb:Srt r b) (hi:ib < b.size) (hk:∀ i,ia≤i→i < a.size→r (it b ib)≤r (it a i)):MA r a b (out.push (it b ib)) ia (ib + 1):=
 Ml.swap (MA.pa (Ml.swap h) sb hi hk)
theorem MA.lst (h:MA r a b out ia ib) (sa:Srt r a) (sb:Srt r b) (e:ia + 1=a.size) (hl:∀ i,i < b.size→r (it b i)≤r (it a (a.size - 1))):Mrg r a b (out++b.extract ib b.size++a.extract ia a.size):=
 Ml.last h sa.pw sb.pw fun u hu v hv=>by
  obtain ⟨i,h4,h5,rfl⟩:=mem_dr hv
  obtain ⟨j,h1,h2,rfl⟩:=mem_dr (i:=0) (a:=b) (by simpa using hu)
  obtain rfl:i=a.size - 1:=by omega
  exact hl j h2
end
noncomputable abbrev LoC:=Option (Array Keyed)×Array Keyed×Nat×Nat×Nat×Nat×Nat
noncomputable def lo3 (a b out:Array Keyed) (ia ib mg ac k:Nat):StateT SortSt Sem (ForInStep LoC):=do
 let x ←elem' a ia
 if ia + 1 + 1==a.size then pure (.done (some (out.push x++b.extract ib b.size++a.extract (ia + 1) a.size),out.push x,ia + 1,ib,mg,ac,k))
 else if decide (ac < 7)&&decide (k < 7) then pure (.done (none,out.push x,ia + 1,ib,mg,ac,k))
 else pure (.yield (none,out.push x,ia + 1,ib,mg,ac,k))
noncomputable def lo2 (a b out:Array Keyed) (ia ib mg ac bc:Nat):StateT SortSt Sem (ForInStep LoC):=do
 let x ←elem' b ib
 if ib + 1==b.size then pure (.done (some (out.push x++a.extract ia a.size++b.extract (ib + 1) b.size),out.push x,ia,ib + 1,mg,ac,bc))
 else do
  let y ←elem' a ia
  match ←gal true y b (ib + 1) (b.size - (ib + 1)) 0 with
  | some k=>
   if k > 0 then
    if ib + 1 + k==b.size then pure (.done (some (out.push x++b.extract (ib + 1) (ib + 1 + k)++a.extract ia a.size++b.extract (ib + 1 + k) b.size),out.push x++b.extract (ib + 1) (ib + 1 + k),ia,ib + 1 + k,mg,ac,k))
    else lo3 a b (out.push x++b.extract (ib + 1) (ib + 1 + k)) ia (ib + 1 + k) mg ac k
   else lo3 a b (out.push x) ia (ib + 1) mg ac k
  | _=>pure (.done (some (out.push x++a.extract ia a.size++b.extract (ib + 1) b.size),out.push x,ia,ib + 1,mg,ac,bc))
noncomputable def lo1 (a b out:Array Keyed) (ia ib mg ac bc:Nat):StateT SortSt Sem (ForInStep LoC):=do
 setG mg
 let y ←elem' b ib
 match ←gal false y a ia (a.size - ia) 0 with
 | some k=>
  if k > 0 then
   if ia + k + 1==a.size then pure (.done (some (out++a.extract ia (ia + k)++b.extract ib b.size++a.extract (ia + k) a.size),out++a.extract ia (ia + k),ia + k,ib,mg,k,bc))
   else if ia + k==a.size then pure (.done (some (out++a.extract ia (ia + k)++a.extract (ia + k) a.size++b.extract ib b.size),out++a.extract ia (ia + k),ia + k,ib,mg,k,bc))
   else lo2 a b (out++a.extract ia (ia + k)) (ia + k) ib mg k bc
  else lo2 a b out ia ib mg k bc
 | _=>pure (.done (some (out++a.extract ia a.size++b.extract ib b.size),out,ia,ib,mg,ac,bc))
noncomputable def Stp (r:Keyed→Nat) (a b:Array Keyed) (x:Nat) (o:Option (Array Keyed)) (out:Array Keyed) (ia ib:Nat):Prop:=
 match o with
 | some res=>Mrg r a b res
 | none=>MA r a b out ia ib∧ia + 1 < a.size∧ib < b.size∧x≤ia + ib
noncomputable def StQ (r:Keyed→Nat) (a b:Array Keyed) (x:Nat) (st:SortSt) (c:ForInStep LoC) (st':SortSt):Prop:=
 (∃ g,st'=sg st g)∧match c with
 | .done (o,out,ia,ib,_)=>Stp r a b x o out ia ib
 | .yield (o,out,ia,ib,_)=>o=none∧Stp r a b x o out ia ib
section
variable {prog:Program} {w:World} {A:Around} {E:Value→Shared→Prop} {s:Shared} {κ:SortKind} {r:Keyed→Nat} {S:Keyed→Prop} {a b out:Array Keyed} {ia ib:Nat} {st:SortSt}
theorem wpS_setG {g:Nat} {Q:Unit→SortSt→Prop} (h:Q () (sg st g)):wpS (model prog w) A E s (setG g) Q st:=wpS_modify h
theorem wpS_lo3 (sa:Srt r a) (sb:Srt r b) (hl:∀ i,i < b.size→r (it b i)≤r (it a (a.size - 1))) {x mg ac k g:Nat} (M:MA r a b out ia ib) (h1:ia + 1 < a.size) (h2:ib < b.size) (h3:x≤ia + ib)
  (hk:∀ i,ib≤i→i < b.size→r (it a ia)≤r (it b i)):wpS (model prog w) A E s (lo3 a b out ia ib mg ac k) (StQ r a b x st) (sg st g):=by
 unfold lo3
 refine wpS_bind (wpS_elem (it_get (by omega:ia < a.size)) ?_)
 have M':=M.pa sa (by omega) hk
 by_cases e1:ia + 1 + 1=a.size
 ·rw [if_pos (by simpa using e1)]
  exact wpS_pure ⟨⟨g,rfl⟩,M'.lst sa sb e1 hl⟩
 ·rw [if_neg (by simpa using e1)]
  split
  ·exact wpS_pure ⟨⟨g,rfl⟩,M',by omega,h2,by omega⟩
  ·exact wpS_pure ⟨⟨g,rfl⟩,rfl,M',by omega,h2,by omega⟩
theorem wpS_lo2 (C:Cmp prog w A s κ r S) (hkd:kindOf st=κ) (hS:∀ x,x∈a.toList∨x∈b.toList→S x) (sa:Srt r a) (sb:Srt r b) (hl:∀ i,i < b.size→r (it b i)≤r (it a (a.size - 1))) {x mg ac bc g:Nat} (M:MA r a b out ia ib) (h1:ia + 1 < a.size) (h2:ib < b.size) (h3:x≤ia + ib)
  (hk:∀ i,ia≤i→i < a.size→r (it b ib)≤r (it a i)):wpS (model prog w) A E s (lo2 a b out ia ib mg ac bc) (StQ r a b x st) (sg st g):=by
 unfold lo2
 refine wpS_bind (wpS_elem (it_get h2) ?_)
 have M':=M.pb sb h2 hk
 by_cases e1:ib + 1=b.size
 ·rw [if_pos (by simpa using e1)]
  exact wpS_pure ⟨⟨g,rfl⟩,Ml.done M' sa.pw sb.pw (.inr (by omega))⟩
 ·rw [if_neg (by simpa using e1)]
  refine wpS_bind (wpS_elem (it_get (by omega:ia < a.size)) ?_)
  refine wpS_bind (wpS_gal C hkd (hS _ (.inl (it_mem (by omega)))) (fun i=>it b (ib + 1 + i)) (fun i hi=>⟨it_get (by omega),hS _ (.inr (it_mem (by omega)))⟩) (fun i j hij hj=>sb _ _ (by omega) (by omega)) (by omega) fun k k1 k2 k3=>?_)
  dsimp only
  have c2:∀ i,i < k→r (it b (ib + 1 + i)) < r (it a ia):=fun i hi=>by have:=k2 i hi;unfold bef at this;simpa using this
  have c3:∀ i,k≤i→i < b.size - (ib + 1)→r (it a ia)≤r (it b (ib + 1 + i)):=fun i hi hj=>by have:=k3 i hi hj;unfold bef at this;simpa using this
  have cb:∀ i,ib + 1 + k≤i→i < b.size→r (it a ia)≤r (it b i):=fun i h5 h6=>by
   have:=c3 (i - (ib + 1)) (by omega) (by omega)
   rwa [show ib + 1 + (i - (ib + 1))=i by omega] at this
  by_cases k0:k > 0
  ·rw [if_pos k0]
   have M2:=M'.exb sb k fun j h5 h6 h7 i h8 h9=>by
    have:=c2 (j - (ib + 1)) (by omega)
    rw [show ib + 1 + (j - (ib + 1))=j by omega] at this
    have:=sa ia i h8 h9
    omega
   by_cases e2:ib + 1 + k=b.size
   ·rw [if_pos (by simpa using e2)]
    exact wpS_pure ⟨⟨g,rfl⟩,Ml.done M2 sa.pw sb.pw (.inr (by omega))⟩
   ·rw [if_neg (by simpa using e2)]
    exact wpS_lo3 sa sb hl M2 h1 (by omega) (by omega) cb
  ·rw [if_neg k0]
   obtain rfl:k=0:=by omega
   exact wpS_lo3 sa sb hl M' h1 (by omega) (by omega) (by simpa using cb)
theorem wpS_lo1 (C:Cmp prog w A s κ r S) (hkd:kindOf st=κ) (hS:∀ x,x∈a.toList∨x∈b.toList→S x) (sa:Srt r a) (sb:Srt r b) (hl:∀ i,i < b.size→r (it b i)≤r (it a (a.size - 1))) {x mg ac bc g:Nat} (M:MA r a b out ia ib) (h1:ia + 1 < a.size) (h2:ib < b.size) (h3:x≤ia + ib):
  wpS (model prog w) A E s (lo1 a b out ia ib mg ac bc) (StQ r a b x st) (sg st g):=by
 unfold lo1
 refine wpS_bind (wpS_setG ?_)
 refine wpS_bind (wpS_elem (it_get h2) ?_)
 refine wpS_bind (wpS_gal C hkd (hS _ (.inr (it_mem h2))) (fun i=>it a (ia + i)) (fun i hi=>⟨it_get (by omega),hS _ (.inl (it_mem (by omega)))⟩) (fun i j hij hj=>sa _ _ (by omega) (by omega)) (by omega) fun k k1 k2 k3=>?_)
 dsimp only
 have c2:∀ i,i < k→r (it a (ia + i))≤r (it b ib):=fun i hi=>by have:=k2 i hi;unfold bef at this;simpa using this
 have c3:∀ i,k≤i→i < a.size - ia→r (it b ib) < r (it a (ia + i)):=fun i hi hj=>by have:=k3 i hi hj;unfold bef at this;simpa using this
 have cb:∀ i,ia + k≤i→i < a.size→r (it b ib)≤r (it a i):=fun i h5 h6=>by
  have:=c3 (i - ia) (by omega) (by omega)
  rw [show ia + (i - ia)=i by omega] at this
  omega
 by_cases k0:k > 0
 ·rw [if_pos k0]
  have M2:=M.ext sa k fun j h5 h6 h7 i h8 h9=>by
   have:=c2 (j - ia) (by omega)
   rw [show ia + (j - ia)=j by omega] at this
   have:=sb ib i h8 h9
   omega
  by_cases e2:ia + k + 1=a.size
  ·rw [if_pos (by simpa using e2)]
   exact wpS_pure ⟨⟨mg,rfl⟩,M2.lst sa sb e2 hl⟩
  ·rw [if_neg (by simpa using e2)]
   by_cases e3:ia + k=a.size
   ·rw [if_pos (by simpa using e3)]
    exact wpS_pure ⟨⟨mg,rfl⟩,Ml.done M2 sa.pw sb.pw (.inl (by omega))⟩
   ·rw [if_neg (by simpa using e3)]
    exact wpS_lo2 C hkd hS sa sb hl M2 (by omega) h2 (by omega) cb
 ·rw [if_neg k0]
  obtain rfl:k=0:=by omega
  exact wpS_lo2 C hkd hS sa sb hl M h1 h2 h3 (by simpa using cb)
theorem wpS_mLo (C:Cmp prog w A s κ r S) {Q:Array Keyed→SortSt→Prop} (hkd:kindOf st=κ) (hS:∀ x,x∈a.toList∨x∈b.toList→S x)
  (sa:Srt r a) (sb:Srt r b) (ha:0 < a.size) (hb:0 < b.size) (h0:r (it b 0)≤r (it a 0)) (hl:∀ i,i < b.size→r (it b i)≤r (it a (a.size - 1)))
  (h:∀ out g,Mrg r a b out→Q out (sg st g)):wpS (model prog w) A E s (mLo a b) Q st:=by
 rw [mLo_eq]
 refine wpS_bind (wpS_lift (wpAny_rule ⟨rfl,?_⟩))
 refine wpS_bind (wpS_elem (it_get hb) ?_)
 have M0:MA r a b #[] 0 0:=⟨by simp,.nil,fun u hu=>by simp at hu⟩
 have M1:MA r a b #[it b 0] 0 1:=by
  have:=M0.pb sb hb fun i _ hi=>Nat.le_trans h0 (sa 0 i (by omega) hi)
  simpa using this
 dsimp only
 by_cases e1:1=b.size
 ·rw [if_pos (by simpa using e1)]
  exact wpS_pure (h _ (gallopOf st) (Ml.done M1 sa.pw sb.pw (.inr (by omega))))
 rw [if_neg (by simpa using e1)]
 by_cases e2:0 + 1=a.size
 ·rw [if_pos (by simpa using e2)]
  exact wpS_pure (h _ (gallopOf st) (M1.lst sa sb e2 hl))
 rw [if_neg (by simpa using e2)]
 refine wpS_bind (wpS_get ?_)
 refine wpS_bind (wpS_mono (wpS_forRange (I:=fun x c st'=>(∃ g,st'=sg st g)∧∃ out ia ib mg,c=(none,out,ia,ib,mg)∧Stp r a b (1 + x) none out ia ib)
  (Q:=fun c st'=>(∃ g,st'=sg st g)∧∃ res out ia ib mg,c=(some res,out,ia,ib,mg)∧Mrg r a b res) ?step ?fin ⟨⟨gallopOf st,rfl⟩,_,_,_,_,rfl,M1,by omega,by omega,by omega⟩) ?post)
 case fin=>
  rintro c st' ⟨hg,out,ia,ib,mg,rfl,M,q1,q2,q3⟩
  omega
 case post=>
  rintro c st' ⟨⟨g,rfl⟩,res,out,ia,ib,mg,rfl,M⟩
  exact wpS_pure (h _ g M)
 case step=>
  rintro x c st' _ hx ⟨⟨g,rfl⟩,out,ia,ib,mg,rfl,M,q1,q2,q3⟩
  dsimp only
  refine wpS_bind (wpS_mono (wpS_forRange (I:=fun y c st'=>st'=sg st g∧∃ out ia ib ac bc,c=(none,out,ia,ib,ac,bc)∧Stp r a b (1 + x + min y 1) none out ia ib)
   (Q:=fun c st'=>st'=sg st g∧∃ o out ia ib ac bc,c=(o,out,ia,ib,ac,bc)∧Stp r a b (1 + (x + 1)) o out ia ib) ?step1 ?fin1 ⟨rfl,_,_,_,_,_,rfl,M,q1,q2,by omega⟩) ?post1)
  case fin1=>
   rintro c st' ⟨rfl,out,ia,ib,ac,bc,rfl,M,q1,q2,q3⟩
   exact ⟨rfl,_,_,_,_,_,_,rfl,M,q1,q2,by omega⟩
  case step1=>
   rintro y c st' _ hy ⟨rfl,out,ia,ib,ac,bc,rfl,M,q1,q2,q3⟩
   dsimp only
   refine wpS_bind (wpS_elem (it_get q2) ?_)
   refine wpS_bind (wpS_elem (it_get (by omega:ia < a.size)) ?_)
   refine wpS_bind (wpS_lt C hkd (hS _ (.inr (it_mem q2))) (hS _ (.inl (it_mem (by omega)))) ?_)
   dsimp only
   by_cases lt:r (it b ib) < r (it a ia)
   ·rw [if_pos (by simpa using lt)]
    refine wpS_bind (wpS_elem (it_get q2) ?_)
    have M2:=M.pb sb q2 fun i h1 h2=>by have:=sa ia i h1 h2;omega
    by_cases e3:ib + 1=b.size
    ·rw [if_pos (by simpa using e3)]
     exact wpS_pure ⟨rfl,_,_,_,_,_,_,rfl,Ml.done M2 sa.pw sb.pw (.inr (by omega))⟩
    ·rw [if_neg (by simpa using e3)]
     split
     ·exact wpS_pure ⟨rfl,_,_,_,_,_,_,rfl,M2,q1,by omega,by omega⟩
     ·exact wpS_pure ⟨rfl,_,_,_,_,_,rfl,M2,q1,by omega,by omega⟩
   ·rw [if_neg (by simpa using lt)]
    refine wpS_bind (wpS_elem (it_get (by omega:ia < a.size)) ?_)
    have M2:=M.pa sa (by omega) fun i h1 h2=>by have:=sb ib i h1 h2;omega
    by_cases e3:ia + 1 + 1=a.size
    ·rw [if_pos (by simpa using e3)]
     exact wpS_pure ⟨rfl,_,_,_,_,_,_,rfl,M2.lst sa sb e3 hl⟩
    ·rw [if_neg (by simpa using e3)]
     split
     ·exact wpS_pure ⟨rfl,_,_,_,_,_,_,rfl,M2,by omega,by omega,by omega⟩
     ·exact wpS_pure ⟨rfl,_,_,_,_,_,rfl,M2,by omega,by omega,by omega⟩
  case post1=>
   rintro c st' ⟨rfl,o,out,ia,ib,ac,bc,rfl,M⟩
   cases o with
   | some res=>
    dsimp only
    exact wpS_pure ⟨⟨g,rfl⟩,_,_,_,_,_,rfl,M⟩
   | none=>
    obtain ⟨M,q1,q2,q3⟩:=M
    dsimp only
    refine wpS_bind (wpS_lift (wpAny_rule ⟨rfl,?_⟩))
    refine wpS_bind (wpS_mono (wpS_forRange (I:=fun y c st'=>(∃ g,st'=sg st g)∧∃ out ia ib mg ac bc,c=(none,out,ia,ib,mg,ac,bc)∧Stp r a b (1 + (x + 1)) none out ia ib)
     (Q:=fun c st'=>(∃ g,st'=sg st g)∧∃ o out ia ib mg ac bc,c=(o,out,ia,ib,mg,ac,bc)∧Stp r a b (1 + (x + 1)) o out ia ib) ?step2 ?fin2 ⟨⟨g,rfl⟩,_,_,_,_,_,_,rfl,M,q1,q2,by omega⟩) ?post2)
    case fin2=>
     rintro c st' ⟨hg,out,ia,ib,mg,ac,bc,rfl,M⟩
     exact ⟨hg,_,_,_,_,_,_,_,rfl,M⟩
    case step2=>
     rintro y c st' _ hy ⟨⟨g,rfl⟩,out,ia,ib,mg,ac,bc,rfl,M,q1,q2,q3⟩
     refine wpS_mono (Q:=StQ r a b (1 + (x + 1)) st) ?code fun c st' hc=>?_
     case code=>
      dsimp only
      by_cases m1:mg > 1
      ·rw [if_pos m1]
       exact wpS_lo1 (mg:=mg - 1) (ac:=ac) (bc:=bc) C hkd hS sa sb hl M q1 q2 q3
      ·rw [if_neg m1]
       exact wpS_lo1 (mg:=mg) (ac:=ac) (bc:=bc) C hkd hS sa sb hl M q1 q2 q3
     ·obtain ⟨hg,hc⟩:=hc
      match c,hc with
      | .done (o,out,ia,ib,mg,ac,bc),hc=>exact ⟨hg,_,_,_,_,_,_,_,rfl,hc⟩
      | .yield (o,out,ia,ib,mg,ac,bc),⟨h1,hc⟩=>
       subst h1
       exact ⟨hg,_,_,_,_,_,_,rfl,hc⟩
    case post2=>
     rintro c st' ⟨⟨g',rfl⟩,o,out,ia,ib,mg',ac,bc,rfl,M⟩
     cases o with
     | some res=>
      dsimp only
      exact wpS_pure ⟨⟨g',rfl⟩,_,_,_,_,_,rfl,M⟩
     | none=>
      dsimp only
      refine wpS_bind (wpS_setG ?_)
      exact wpS_pure ⟨⟨_,rfl⟩,_,_,_,_,rfl,M⟩
end
end TS
namespace TS
open PySem PySem.Spec PyProof.Rows
noncomputable def Mr (r:Keyed→Nat) (a b o:List Keyed) (na nb:Nat):Prop:=
 o.Perm (a.drop na++b.drop nb)∧o.Pairwise (fun x y=>r x≤r y)∧∀ u∈o,∀ v,v∈a.take na∨v∈b.take nb→r v≤r u
theorem Mr.swap {r:Keyed→Nat} {a b o:List Keyed} {na nb:Nat} (h:Mr r a b o na nb):Mr r b a o nb na:=
 ⟨h.1.trans List.perm_append_comm,h.2.1,fun u hu v hv=>h.2.2 u hu v hv.symm⟩
theorem Mr.a {r:Keyed→Nat} {a b o:List Keyed} {na nb:Nat} (h:Mr r a b o na nb) (sa:a.Pairwise fun x y=>r x≤r y) (k:Nat) (hkn:k≤na) (hk:∀ u∈(a.take na).drop k,∀ v∈b.take nb,r v≤r u):
  Mr r a b ((a.take na).drop k++o) k nb:=by
 obtain ⟨h1,h2,h3⟩:=h
 have sd:(a.take na).Pairwise fun x y=>r x≤r y:=sa.sublist (List.take_sublist _ _)
 have st:((a.take na).take k++(a.take na).drop k).Pairwise fun x y=>r x≤r y:=by rw [List.take_append_drop];exact sd
 rw [List.pairwise_append] at st
 have ek:(a.take na).take k=a.take k:=by rw [List.take_take,Nat.min_eq_left hkn]
 have ed:a.drop k=(a.take na).drop k++a.drop na:=by
  conv=>lhs;rw [←List.take_append_drop na a]
  rw [List.drop_append]
  congr 1
  by_cases q:na≤a.length
  ·rw [List.length_take,Nat.min_eq_left q,show k - na=0 by omega,List.drop_zero]
  ·rw [List.drop_of_length_le (by omega:a.length≤na),List.drop_nil]
 refine ⟨?_,?_,?_⟩
 ·rw [ed,List.append_assoc]
  exact List.Perm.append_left _ h1
 ·rw [List.pairwise_append]
  exact ⟨st.2.1,h2,fun u hu v hv=>h3 v hv u (.inl (List.mem_of_mem_drop hu))⟩
 ·intro u hu v hv
  rcases List.mem_append.mp hu with hu | hu
  ·rcases hv with hv | hv
   ·rw [←ek] at hv
    exact st.2.2 v hv u hu
   ·exact hk u hu v hv
  ·refine h3 u hu v (hv.imp (fun hv=>?_) id)
   rw [←ek] at hv
   exact List.mem_of_mem_take hv
theorem Mr.b {r:Keyed→Nat} {a b o:List Keyed} {na nb:Nat} (h:Mr r a b o na nb) (sb:b.Pairwise fun x y=>r x≤r y) (k:Nat) (hkn:k≤nb) (hk:∀ u∈(b.take nb).drop k,∀ v∈a.take na,r v≤r u):
  Mr r a b ((b.take nb).drop k++o) na k:=(h.swap.a sb k hkn hk).swap
noncomputable abbrev MB (r:Keyed→Nat) (a b out:Array Keyed) (na nb:Nat):Prop:=Mr r a.toList b.toList out.toList.reverse na nb
theorem mem_tk0 {a:Array Keyed} {n:Nat} {v:Keyed} (h:v∈a.toList.take n):∃ j,j < n∧j < a.size∧v=it a j:=by
 obtain ⟨j,_,h2,h3,e⟩:=mem_tk (i:=0) (k:=n) (a:=a) (by simpa using h)
 exact ⟨j,by omega,h3,e⟩
theorem mem_td {a:Array Keyed} {n k:Nat} {v:Keyed} (h:v∈(a.toList.take n).drop k):∃ j,k≤j∧j < n∧j < a.size∧v=it a j:=by
 rw [List.drop_take] at h
 obtain ⟨j,h1,h2,h3,e⟩:=mem_tk h
 exact ⟨j,h1,by omega,h3,e⟩
section
variable {r:Keyed→Nat} {a b out:Array Keyed} {na nb:Nat}
theorem MB.ext (h:MB r a b out na nb) (sa:Srt r a) (k:Nat) (hkn:k≤na) (hk:∀ j,k≤j→j < na→j < a.size→∀ i,i < nb→i < b.size→r (it b i)≤r (it a j)):MB r a b (out++(a.extract k na).reverse) k nb:=by
 have:=Mr.a h sa.pw k hkn fun u hu v hv=>by
  obtain ⟨j,h1,h2,h3,rfl⟩:=mem_td hu
  obtain ⟨i,h4,h5,rfl⟩:=mem_tk0 hv
  exact hk j h1 h2 h3 i h4 h5
 unfold MB
 rw [Array.toList_append,List.reverse_append,Array.toList_reverse,List.reverse_reverse,ext_toList,←List.drop_take]
 exact this
theorem MB.exb (h:MB r a b out na nb) (sb:Srt r b) (k:Nat) (hkn:k≤nb) (hk:∀ j,k≤j→j < nb→j < b.size→∀ i,i < na→i < a.size→r (it a i)≤r (it b j)):MB r a b (out++(b.extract k nb).reverse) na k:=
 Mr.swap (MB.ext (Mr.swap h) sb k hkn hk)
theorem push_rev {a out:Array Keyed} {i:Nat} (h:i < a.size):out.push (it a i)=out++(a.extract i (i + 1)).reverse:=by
 rw [push_ext h]
 congr 1
 apply Array.toList_inj.mp
 rw [Array.toList_reverse,ext_toList,show i + 1 - i=1 by omega]
 cases q:a.toList.drop i with
 | nil=>rfl
 | cons x l=>rfl
theorem MB.pa (h:MB r a b out na nb) (sa:Srt r a) (hp:0 < na) (hi:na - 1 < a.size) (hk:∀ i,i < nb→i < b.size→r (it b i)≤r (it a (na - 1))):MB r a b (out.push (it a (na - 1))) (na - 1) nb:=by
 rw [push_rev hi,show na - 1 + 1=na by omega]
 exact h.ext sa (na - 1) (by omega) fun j h1 h2 h3 i h4 h5=>by
  obtain rfl:j=na - 1:=by omega
  exact hk i h4 h5
theorem MB.pb (h:MB r a b out na nb) (sb:Srt r b) (hp:0 < nb) (hi:nb - 1 < b.size) (hk:∀ i,i < na→i < a.size→r (it a i)≤r (it b (nb - 1))):MB r a b (out.push (it b (nb - 1))) na (nb - 1):=
 Mr.swap (MB.pa (Mr.swap h) sb hp hi hk)
theorem Mr.all {a b o:List Keyed} (h:Mr r a b o 0 0):o.Perm (a++b)∧o.Pairwise fun x y=>r x≤r y:=by
 obtain ⟨p,q,_⟩:=h
 exact ⟨by simpa using p,q⟩
theorem MB.done (h:MB r a b out na nb) (sa:Srt r a) (sb:Srt r b) (e:na=0∨nb=0):Mrg r a b (a.extract 0 na++b.extract 0 nb++out.reverse):=by
 have h1:=h.exb sb 0 (Nat.zero_le _) fun j _ h2 _ i h4 h5=>by omega
 have h2:=h1.ext sa 0 (Nat.zero_le _) fun j _ h2 _ i h4 h5=>by omega
 have:=h2.all
 unfold Mrg
 simpa using this
theorem MB.fst (h:MB r a b out na nb) (sa:Srt r a) (sb:Srt r b) (hn:nb=1) (h0:r (it b 0)≤r (it a 0)):Mrg r a b (b.extract 0 nb++a.extract 0 na++out.reverse):=by
 have h1:=h.ext sa 0 (Nat.zero_le _) fun j _ h2 h3 i h4 h5=>by
  obtain rfl:i=0:=by omega
  have:=sa 0 j (by omega) h3
  omega
 have h2:=h1.exb sb 0 (Nat.zero_le _) fun j _ h2 _ i h4 h5=>by omega
 have:=h2.all
 unfold Mrg
 simpa using this
end
noncomputable abbrev HiC:=Option (Array Keyed)×Nat×Nat×Array Keyed×Nat×Nat×Nat
noncomputable def hi3 (a b out:Array Keyed) (na nb mg ac k:Nat):StateT SortSt Sem (ForInStep HiC):=do
 let x ←elem' a (na - 1)
 if na - 1==0 then pure (.done (some (a.extract 0 (na - 1)++b.extract 0 nb++(out.push x).reverse),na - 1,nb,out.push x,mg,ac,k))
 else if decide (ac < 7)&&decide (k < 7) then pure (.done (none,na - 1,nb,out.push x,mg,ac,k))
 else pure (.yield (none,na - 1,nb,out.push x,mg,ac,k))
noncomputable def hi2 (a b out:Array Keyed) (na nb mg ac bc:Nat):StateT SortSt Sem (ForInStep HiC):=do
 let x ←elem' b (nb - 1)
 if nb - 1==1 then pure (.done (some (b.extract 0 (nb - 1)++a.extract 0 na++(out.push x).reverse),na,nb - 1,out.push x,mg,ac,bc))
 else do
  let y ←elem' a (na - 1)
  match ←gal true y b 0 (nb - 1) (nb - 1 - 1) with
  | some k=>
   if nb - 1 - k > 0 then
    if k==1 then pure (.done (some (b.extract 0 k++a.extract 0 na++(out.push x++(b.extract k (nb - 1)).reverse).reverse),na,k,out.push x++(b.extract k (nb - 1)).reverse,mg,ac,nb - 1 - k))
    else if k==0 then pure (.done (some (a.extract 0 na++b.extract 0 k++(out.push x++(b.extract k (nb - 1)).reverse).reverse),na,k,out.push x++(b.extract k (nb - 1)).reverse,mg,ac,nb - 1 - k))
    else hi3 a b (out.push x++(b.extract k (nb - 1)).reverse) na k mg ac (nb - 1 - k)
   else hi3 a b (out.push x) na (nb - 1) mg ac (nb - 1 - k)
  | _=>pure (.done (some (a.extract 0 na++b.extract 0 (nb - 1)++(out.push x).reverse),na,nb - 1,out.push x,mg,ac,bc))
noncomputable def hi1 (a b out:Array Keyed) (na nb mg ac bc:Nat):StateT SortSt Sem (ForInStep HiC):=do
 setG mg
 let y ←elem' b (nb - 1)
 match ←gal false y a 0 na (na - 1) with
 | some k=>
  if na - k > 0 then
   if k==0 then pure (.done (some (a.extract 0 k++b.extract 0 nb++(out++(a.extract k na).reverse).reverse),k,nb,out++(a.extract k na).reverse,mg,na - k,bc))
   else hi2 a b (out++(a.extract k na).reverse) k nb mg (na - k) bc
  else hi2 a b out na nb mg (na - k) bc
 | _=>pure (.done (some (a.extract 0 na++b.extract 0 nb++out.reverse),na,nb,out,mg,ac,bc))
noncomputable def Htp (r:Keyed→Nat) (a b:Array Keyed) (x:Nat) (o:Option (Array Keyed)) (out:Array Keyed) (na nb:Nat):Prop:=
 match o with
 | some res=>Mrg r a b res
 | none=>MB r a b out na nb∧0 < na∧na≤a.size∧1 < nb∧nb≤b.size∧na + nb + x≤a.size + b.size
noncomputable def HtQ (r:Keyed→Nat) (a b:Array Keyed) (x:Nat) (st:SortSt) (c:ForInStep HiC) (st':SortSt):Prop:=
 (∃ g,st'=sg st g)∧match c with
 | .done (o,na,nb,out,_)=>Htp r a b x o out na nb
 | .yield (o,na,nb,out,_)=>o=none∧Htp r a b x o out na nb
section
variable {prog:Program} {w:World} {A:Around} {E:Value→Shared→Prop} {s:Shared} {κ:SortKind} {r:Keyed→Nat} {S:Keyed→Prop} {a b out:Array Keyed} {na nb:Nat} {st:SortSt}
theorem wpS_hi3 (sa:Srt r a) (sb:Srt r b) {x mg ac k g:Nat} (M:MB r a b out na nb) (h1:0 < na) (h1':na≤a.size) (h2:1 < nb) (h2':nb≤b.size) (h3:na + nb + x≤a.size + b.size)
  (hk:∀ i,i < nb→i < b.size→r (it b i)≤r (it a (na - 1))):wpS (model prog w) A E s (hi3 a b out na nb mg ac k) (HtQ r a b x st) (sg st g):=by
 unfold hi3
 refine wpS_bind (wpS_elem (it_get (by omega:na - 1 < a.size)) ?_)
 have M':=M.pa sa h1 (by omega) hk
 by_cases e1:na - 1=0
 ·rw [if_pos (by simpa using e1)]
  exact wpS_pure ⟨⟨g,rfl⟩,M'.done sa sb (.inl e1)⟩
 ·rw [if_neg (by simpa using e1)]
  split
  ·exact wpS_pure ⟨⟨g,rfl⟩,M',by omega,by omega,by omega,by omega,by omega⟩
  ·exact wpS_pure ⟨⟨g,rfl⟩,rfl,M',by omega,by omega,by omega,by omega,by omega⟩
theorem wpS_hi2 (C:Cmp prog w A s κ r S) (hkd:kindOf st=κ) (hS:∀ x,x∈a.toList∨x∈b.toList→S x) (sa:Srt r a) (sb:Srt r b) (h0:r (it b 0)≤r (it a 0)) {x mg ac bc g:Nat} (M:MB r a b out na nb) (h1:0 < na) (h1':na≤a.size) (h2:1 < nb) (h2':nb≤b.size) (h3:na + nb + x≤a.size + b.size)
  (hk:∀ i,i < na→i < a.size→r (it a i)≤r (it b (nb - 1))):wpS (model prog w) A E s (hi2 a b out na nb mg ac bc) (HtQ r a b x st) (sg st g):=by
 unfold hi2
 refine wpS_bind (wpS_elem (it_get (by omega:nb - 1 < b.size)) ?_)
 have M':=M.pb sb (by omega) (by omega) hk
 by_cases e1:nb - 1=1
 ·rw [if_pos (by simpa using e1)]
  exact wpS_pure ⟨⟨g,rfl⟩,M'.fst sa sb e1 h0⟩
 ·rw [if_neg (by simpa using e1)]
  refine wpS_bind (wpS_elem (it_get (by omega:na - 1 < a.size)) ?_)
  refine wpS_bind (wpS_gal C hkd (hS _ (.inl (it_mem (by omega)))) (fun i=>it b i) (fun i hi=>⟨by rw [Nat.zero_add];exact it_get (by omega),hS _ (.inr (it_mem (by omega)))⟩) (fun i j hij hj=>sb _ _ (by omega) (by omega)) (by omega) fun k k1 k2 k3=>?_)
  dsimp only
  have c2:∀ i,i < k→r (it b i) < r (it a (na - 1)):=fun i hi=>by have:=k2 i hi;unfold bef at this;simpa using this
  have c3:∀ i,k≤i→i < nb - 1→r (it a (na - 1))≤r (it b i):=fun i hi hj=>by have:=k3 i hi hj;unfold bef at this;simpa using this
  have cb:∀ i,i < k→i < b.size→r (it b i)≤r (it a (na - 1)):=fun i h5 h6=>by have:=c2 i h5;omega
  by_cases k0:nb - 1 - k > 0
  ·rw [if_pos k0]
   have M2:=M'.exb sb k (by omega) fun j h5 h6 h7 i h8 h9=>by
    have:=c3 j h5 h6
    have:=sa i (na - 1) (by omega) (by omega)
    omega
   by_cases e2:k=1
   ·rw [if_pos (by simpa using e2)]
    exact wpS_pure ⟨⟨g,rfl⟩,M2.fst sa sb e2 h0⟩
   ·rw [if_neg (by simpa using e2)]
    by_cases e3:k=0
    ·rw [if_pos (by simpa using e3)]
     exact wpS_pure ⟨⟨g,rfl⟩,M2.done sa sb (.inr e3)⟩
    ·rw [if_neg (by simpa using e3)]
     exact wpS_hi3 sa sb M2 h1 h1' (by omega) (by omega) (by omega) cb
  ·rw [if_neg k0]
   obtain rfl:k=nb - 1:=by omega
   exact wpS_hi3 sa sb M' h1 h1' (by omega) (by omega) (by omega) cb
theorem wpS_hi1 (C:Cmp prog w A s κ r S) (hkd:kindOf st=κ) (hS:∀ x,x∈a.toList∨x∈b.toList→S x) (sa:Srt r a) (sb:Srt r b) (h0:r (it b 0)≤r (it a 0)) {x mg ac bc g:Nat} (M:MB r a b out na nb) (h1:0 < na) (h1':na≤a.size) (h2:1 < nb) (h2':nb≤b.size) (h3:na + nb + x≤a.size + b.size):
  wpS (model prog w) A E s (hi1 a b out na nb mg ac bc) (HtQ r a b x st) (sg st g):=by
 unfold hi1
 refine wpS_bind (wpS_setG ?_)
 refine wpS_bind (wpS_elem (it_get (by omega:nb - 1 < b.size)) ?_)
 refine wpS_bind (wpS_gal C hkd (hS _ (.inr (it_mem (by omega)))) (fun i=>it a i) (fun i hi=>⟨by rw [Nat.zero_add];exact it_get (by omega),hS _ (.inl (it_mem (by omega)))⟩) (fun i j hij hj=>sa _ _ (by omega) (by omega)) (by omega) fun k k1 k2 k3=>?_)
 dsimp only
 have c2:∀ i,i < k→r (it a i)≤r (it b (nb - 1)):=fun i hi=>by have:=k2 i hi;unfold bef at this;simpa using this
 have c3:∀ i,k≤i→i < na→r (it b (nb - 1)) < r (it a i):=fun i hi hj=>by have:=k3 i hi hj;unfold bef at this;simpa using this
 by_cases k0:na - k > 0
 ·rw [if_pos k0]
  have M2:=M.ext sa k (by omega) fun j h5 h6 h7 i h8 h9=>by
   have:=c3 j h5 h6
   have:=sb i (nb - 1) (by omega) (by omega)
   omega
  by_cases e2:k=0
  ·rw [if_pos (by simpa using e2)]
   exact wpS_pure ⟨⟨mg,rfl⟩,M2.done sa sb (.inl e2)⟩
  ·rw [if_neg (by simpa using e2)]
   exact wpS_hi2 C hkd hS sa sb h0 M2 (by omega) (by omega) h2 h2' (by omega) fun i hi _=>c2 i hi
 ·rw [if_neg k0]
  obtain rfl:k=na:=by omega
  exact wpS_hi2 C hkd hS sa sb h0 M h1 h1' h2 h2' h3 fun i hi _=>c2 i hi
theorem wpS_mHi (C:Cmp prog w A s κ r S) {Q:Array Keyed→SortSt→Prop} (hkd:kindOf st=κ) (hS:∀ x,x∈a.toList∨x∈b.toList→S x)
  (sa:Srt r a) (sb:Srt r b) (ha:0 < a.size) (hb:0 < b.size) (h0:r (it b 0)≤r (it a 0)) (hl:∀ i,i < b.size→r (it b i)≤r (it a (a.size - 1)))
  (h:∀ out g,Mrg r a b out→Q out (sg st g)):wpS (model prog w) A E s (mHi a b) Q st:=by
 rw [mHi_eq]
 refine wpS_bind (wpS_lift (wpAny_rule ⟨rfl,?_⟩))
 refine wpS_bind (wpS_elem (it_get (by omega:a.size - 1 < a.size)) ?_)
 have M0:MB r a b #[] a.size b.size:=⟨by simp,.nil,fun u hu=>by simp at hu⟩
 have M1:MB r a b #[it a (a.size - 1)] (a.size - 1) b.size:=by
  have:=M0.pa sa ha (by omega) fun i _ hi=>hl i hi
  simpa using this
 dsimp only
 by_cases e1:a.size - 1=0
 ·rw [if_pos (by simpa using e1)]
  exact wpS_pure (h _ (gallopOf st) (M1.done sa sb (.inl e1)))
 rw [if_neg (by simpa using e1)]
 by_cases e2:b.size=1
 ·rw [if_pos (by simpa using e2)]
  exact wpS_pure (h _ (gallopOf st) (M1.fst sa sb e2 h0))
 rw [if_neg (by simpa using e2)]
 refine wpS_bind (wpS_get ?_)
 refine wpS_bind (wpS_mono (wpS_forRange (I:=fun x c st'=>(∃ g,st'=sg st g)∧∃ out na nb mg,c=(none,na,nb,out,mg)∧Htp r a b (1 + x) none out na nb)
  (Q:=fun c st'=>(∃ g,st'=sg st g)∧∃ res out na nb mg,c=(some res,na,nb,out,mg)∧Mrg r a b res) ?step ?fin ⟨⟨gallopOf st,rfl⟩,_,_,_,_,rfl,M1,by omega,by omega,by omega,by omega,by omega⟩) ?post)
 case fin=>
  rintro c st' ⟨hg,out,na,nb,mg,rfl,M,q1,q1',q2,q2',q3⟩
  omega
 case post=>
  rintro c st' ⟨⟨g,rfl⟩,res,out,na,nb,mg,rfl,M⟩
  exact wpS_pure (h _ g M)
 case step=>
  rintro x c st' _ hx ⟨⟨g,rfl⟩,out,na,nb,mg,rfl,M,q1,q1',q2,q2',q3⟩
  dsimp only
  refine wpS_bind (wpS_mono (wpS_forRange (I:=fun y c st'=>st'=sg st g∧∃ out na nb ac bc,c=(none,na,nb,out,ac,bc)∧Htp r a b (1 + x + min y 1) none out na nb)
   (Q:=fun c st'=>st'=sg st g∧∃ o out na nb ac bc,c=(o,na,nb,out,ac,bc)∧Htp r a b (1 + (x + 1)) o out na nb) ?step1 ?fin1 ⟨rfl,_,_,_,_,_,rfl,M,q1,q1',q2,q2',by omega⟩) ?post1)
  case fin1=>
   rintro c st' ⟨rfl,out,na,nb,ac,bc,rfl,M,q1,q1',q2,q2',q3⟩
   exact ⟨rfl,_,_,_,_,_,_,rfl,M,q1,q1',q2,q2',by omega⟩
  case step1=>
   rintro y c st' _ hy ⟨rfl,out,na,nb,ac,bc,rfl,M,q1,q1',q2,q2',q3⟩
   dsimp only
   have ib:nb - 1 < b.size:=by omega
   have ia:na - 1 < a.size:=by omega
   refine wpS_bind (wpS_elem (it_get ib) ?_)
   refine wpS_bind (wpS_elem (it_get ia) ?_)
   refine wpS_bind (wpS_lt C hkd (hS _ (.inr (it_mem ib))) (hS _ (.inl (it_mem ia))) ?_)
   dsimp only
   by_cases lt:r (it b (nb - 1)) < r (it a (na - 1))
   ·rw [if_pos (by simpa using lt)]
    refine wpS_bind (wpS_elem (it_get ia) ?_)
    have M2:=M.pa sa q1 ia fun i h1 h2=>by have:=sb i (nb - 1) (by omega) ib;omega
    by_cases e3:na - 1=0
    ·rw [if_pos (by simpa using e3)]
     exact wpS_pure ⟨rfl,_,_,_,_,_,_,rfl,M2.done sa sb (.inl e3)⟩
    ·rw [if_neg (by simpa using e3)]
     split
     ·exact wpS_pure ⟨rfl,_,_,_,_,_,_,rfl,M2,by omega,by omega,q2,q2',by omega⟩
     ·exact wpS_pure ⟨rfl,_,_,_,_,_,rfl,M2,by omega,by omega,q2,q2',by omega⟩
   ·rw [if_neg (by simpa using lt)]
    refine wpS_bind (wpS_elem (it_get ib) ?_)
    have M2:=M.pb sb (by omega) ib fun i h1 h2=>by have:=sa i (na - 1) (by omega) ia;omega
    by_cases e3:nb - 1=1
    ·rw [if_pos (by simpa using e3)]
     exact wpS_pure ⟨rfl,_,_,_,_,_,_,rfl,M2.fst sa sb e3 h0⟩
    ·rw [if_neg (by simpa using e3)]
     split
     ·exact wpS_pure ⟨rfl,_,_,_,_,_,_,rfl,M2,q1,q1',by omega,by omega,by omega⟩
     ·exact wpS_pure ⟨rfl,_,_,_,_,_,rfl,M2,q1,q1',by omega,by omega,by omega⟩
  case post1=>
   rintro c st' ⟨rfl,o,out,na,nb,ac,bc,rfl,M⟩
   cases o with
   | some res=>
    dsimp only
    exact wpS_pure ⟨⟨g,rfl⟩,_,_,_,_,_,rfl,M⟩
   | none=>
    obtain ⟨M,q1,q1',q2,q2',q3⟩:=M
    dsimp only
    refine wpS_bind (wpS_lift (wpAny_rule ⟨rfl,?_⟩))
    refine wpS_bind (wpS_mono (wpS_forRange (I:=fun y c st'=>(∃ g,st'=sg st g)∧∃ out na nb mg ac bc,c=(none,na,nb,out,mg,ac,bc)∧Htp r a b (1 + (x + 1)) none out na nb)
     (Q:=fun c st'=>(∃ g,st'=sg st g)∧∃ o out na nb mg ac bc,c=(o,na,nb,out,mg,ac,bc)∧Htp r a b (1 + (x + 1)) o out na nb) ?step2 ?fin2 ⟨⟨g,rfl⟩,_,_,_,_,_,_,rfl,M,q1,q1',q2,q2',by omega⟩) ?post2)
    case fin2=>
     rintro c st' ⟨hg,out,na,nb,mg,ac,bc,rfl,M⟩
     exact ⟨hg,_,_,_,_,_,_,_,rfl,M⟩
    case step2=>
     rintro y c st' _ hy ⟨⟨g,rfl⟩,out,na,nb,mg,ac,bc,rfl,M,q1,q1',q2,q2',q3⟩
     refine wpS_mono (Q:=HtQ r a b (1 + (x + 1)) st) ?code fun c st' hc=>?_
     case code=>
      dsimp only
      by_cases m1:mg > 1
      ·rw [if_pos m1]
       exact wpS_hi1 (mg:=mg - 1) (ac:=ac) (bc:=bc) C hkd hS sa sb h0 M q1 q1' q2 q2' q3
      ·rw [if_neg m1]
       exact wpS_hi1 (mg:=mg) (ac:=ac) (bc:=bc) C hkd hS sa sb h0 M q1 q1' q2 q2' q3
     ·obtain ⟨hg,hc⟩:=hc
      match c,hc with
      | .done (o,na,nb,out,mg,ac,bc),hc=>exact ⟨hg,_,_,_,_,_,_,_,rfl,hc⟩
      | .yield (o,na,nb,out,mg,ac,bc),⟨h1,hc⟩=>
       subst h1
       exact ⟨hg,_,_,_,_,_,_,rfl,hc⟩
    case post2=>
     rintro c st' ⟨⟨g',rfl⟩,o,out,na,nb,mg',ac,bc,rfl,M⟩
     cases o with
     | some res=>
      dsimp only
      exact wpS_pure ⟨⟨g',rfl⟩,_,_,_,_,_,rfl,M⟩
     | none=>
      dsimp only
      refine wpS_bind (wpS_setG ?_)
      exact wpS_pure ⟨⟨_,rfl⟩,_,_,_,_,rfl,M⟩
end
end TS
namespace TS
open PySem PySem.Spec PyProof.Rows
noncomputable def wr (arr:Array Keyed) (sa:Nat) (l:List Keyed):Array Keyed:=l.zipIdx.foldl (fun a (p,j)=>a.setIfInBounds (sa + j) p) arr
theorem mergeAt_eq (i:Nat):mergeAt' i=(do
 let s ←get
 let (some (sa,na,power),some (sb,nb,_)):=((pendingOf s)[i]?,(pendingOf s)[i + 1]?) | unsupported "internal:list.sort.pending"
 set (setPending s (((pendingOf s).setIfInBounds i (sa,na + nb,power)).eraseIdxIfInBounds (i + 1)))
 let some k ←gal false (←elem' (arrOf s) sb) (arrOf s) sa na 0 | return false
 let (sa,na):=(sa + k,na - k)
 if na==0 then return true
 let some nb ←gal true (←elem' (arrOf s) (sa + na - 1)) (arrOf s) sb nb (nb - 1) | return false
 if nb==0 then return true
 let x:=(arrOf s).extract sa sb
 let y:=(arrOf s).extract sb (sb + nb)
 let merged ←if na≤nb then mLo x y else mHi x y
 modify fun s=>setArr s (wr (arrOf s) sa merged.toList)
 return (failedOf (←get)).isNone):=rfl
theorem wr_go (sa:Nat):∀ (l:List Keyed) (k:Nat) (arr:Array Keyed),sa + k + l.length≤arr.size→
  ((l.zipIdx k).foldl (fun a (p,j)=>a.setIfInBounds (sa + j) p) arr).toList=arr.toList.take (sa + k)++l++arr.toList.drop (sa + k + l.length)
 | [],k,arr,_=>by simp
 | x::l,k,arr,h=>by
  rw [List.length_cons] at h
  rw [List.zipIdx_cons,List.foldl_cons]
  rw [wr_go sa l (k + 1) (arr.setIfInBounds (sa + k) x) (by rw [Array.size_setIfInBounds];omega)]
  rw [Array.toList_setIfInBounds]
  have h1:(arr.toList.set (sa + k) x).take (sa + (k + 1))=arr.toList.take (sa + k)++[x]:=by
   rw [show sa + (k + 1)=sa + k + 1 by omega,List.take_succ,List.take_set_of_le (Nat.le_refl _)]
   simp [show sa + k < arr.size by omega]
  have h2:(arr.toList.set (sa + k) x).drop (sa + (k + 1) + l.length)=arr.toList.drop (sa + k + (x::l).length):=by
   rw [List.drop_set_of_lt (by omega),List.length_cons]
   congr 1
   omega
  rw [h1,h2]
  simp
theorem wr_toList {arr:Array Keyed} {sa:Nat} {l:List Keyed} (h:sa + l.length≤arr.size):(wr arr sa l).toList=arr.toList.take sa++l++arr.toList.drop (sa + l.length):=by
 have:=wr_go sa l 0 arr (by omega)
 rw [Nat.add_zero] at this
 exact this
theorem it_list (a:Array Keyed) (i:Nat):it a i=a.toList.getD i (Value.none,Value.none):=by
 unfold it
 by_cases h:i < a.size
 ·simp [Array.getD,h]
 ·simp [Array.getD,h]
theorem wr_it {arr:Array Keyed} {sa:Nat} {m:Array Keyed} (h:sa + m.size≤arr.size) (i:Nat):it (wr arr sa m.toList) i=if sa≤i∧i < sa + m.size then it m (i - sa) else it arr i:=by
 rw [it_list,wr_toList (by simpa using h),it_list,it_list]
 simp only [List.getD_eq_getElem?_getD,Array.length_toList]
 by_cases h1:i < sa
 ·rw [if_neg (by omega),List.append_assoc,List.getElem?_append_left (by simp;omega),List.getElem?_take_of_lt h1]
 ·by_cases h2:i < sa + m.size
  ·rw [if_pos ⟨by omega,h2⟩,List.append_assoc,List.getElem?_append_right (by simp;omega),List.getElem?_append_left (by simp;omega)]
   congr 2
   simp
   omega
  ·rw [if_neg (by omega),List.getElem?_append_right (by simp;omega),List.getElem?_drop]
   congr 2
   simp
   omega
theorem wr_perm {arr:Array Keyed} {sa:Nat} {m:Array Keyed} {e:Nat} (h:e≤arr.size) (hse:sa≤e) (hm:m.toList.Perm (arr.extract sa e).toList):(wr arr sa m.toList).Perm arr:=by
 have hl:m.toList.length=e - sa:=by rw [hm.length_eq,ext_toList];simp;omega
 rw [Array.perm_iff_toList_perm,wr_toList (by rw [hl];omega)]
 have e1:arr.toList=arr.toList.take sa++(arr.extract sa e).toList++arr.toList.drop (sa + m.toList.length):=by
  rw [hl,ext_toList,show sa + (e - sa)=e by omega]
  conv=>lhs;rw [←List.take_append_drop e arr.toList]
  congr 1
  conv=>lhs;rw [←List.take_append_drop sa (arr.toList.take e)]
  rw [List.take_take,Nat.min_eq_left hse,List.drop_take]
 conv=>rhs;rw [e1]
 exact List.Perm.append_right _ (List.Perm.append_left _ hm)
noncomputable def Son (r:Keyed→Nat) (a:Array Keyed) (lo hi:Nat):Prop:=∀ i j,lo≤i→i≤j→j < hi→r (it a i)≤r (it a j)
theorem it_ext {arr:Array Keyed} {u v i:Nat} (h:u + i < v) (hv:v≤arr.size):it (arr.extract u v) i=it arr (u + i):=by
 rw [it_eq (by simp;omega),it_eq (by omega)]
 simp
structure Iv (κ:SortKind) (a₀:Array Keyed) (st:SortSt):Prop where
 perm:(arrOf st).Perm a₀
 kind:kindOf st=κ
 ok:failedOf st=none
theorem Iv.size {κ:SortKind} {a₀:Array Keyed} {st:SortSt} (h:Iv κ a₀ st):(arrOf st).size=a₀.size:=h.perm.size_eq
theorem Iv.mem {κ:SortKind} {a₀:Array Keyed} {st:SortSt} (h:Iv κ a₀ st) {i:Nat} (hi:i < a₀.size):it (arrOf st) i∈a₀.toList:=
 (Array.perm_iff_toList_perm.mp h.perm).mem_iff.mp (it_mem (by rw [h.size];exact hi))
section
variable {prog:Program} {w:World} {A:Around} {E:Value→Shared→Prop} {s:Shared} {κ:SortKind} {r:Keyed→Nat} {a₀:Array Keyed} {st:SortSt}
theorem wpS_set {st':SortSt} {Q:PUnit→SortSt→Prop} (h:Q ⟨⟩ st'):wpS (model prog w) A E s (set st':StateT SortSt Sem PUnit) Q st:=by
 unfold wpS;rw [StateT.run_set];exact wpAny_pure ⟨rfl,h⟩
theorem wpS_mergeAt (C:Cmp prog w A s κ r (· ∈a₀.toList)) (V:Iv κ a₀ st) {i sa na sb nb pw pw':Nat} {Q:Bool→SortSt→Prop} (e1:(pendingOf st)[i]? =some (sa,na,pw)) (e2:(pendingOf st)[i + 1]? =some (sb,nb,pw'))
  (hs:sb=sa + na) (hn:0 < na) (hm:0 < nb) (hz:sb + nb≤a₀.size) (s1:Son r (arrOf st) sa sb) (s2:Son r (arrOf st) sb (sb + nb))
  (h:∀ st',Iv κ a₀ st'→pendingOf st'=((pendingOf st).setIfInBounds i (sa,na + nb,pw)).eraseIdxIfInBounds (i + 1)→Son r (arrOf st') sa (sb + nb)→(∀ j,j < sa∨sb + nb≤j→it (arrOf st') j=it (arrOf st) j)→Q true st'):
  wpS (model prog w) A E s (mergeAt' i) Q st:=by
 have hz':sb + nb≤(arrOf st).size:=by rw [V.size];exact hz
 rw [mergeAt_eq]
 refine wpS_bind (wpS_get ?_)
 rw [e1,e2]
 dsimp only
 refine wpS_bind (wpS_set ?_)
 obtain ⟨st1,hst1⟩:∃ st1,st1=setPending st (((pendingOf st).setIfInBounds i (sa,na + nb,pw)).eraseIdxIfInBounds (i + 1)):=⟨_,rfl⟩
 rw [←hst1]
 have V1:Iv κ a₀ st1:=by subst hst1;exact ⟨V.perm,V.kind,V.ok⟩
 have ea:arrOf st1=arrOf st:=by subst hst1;rfl
 have ep:pendingOf st1=((pendingOf st).setIfInBounds i (sa,na + nb,pw)).eraseIdxIfInBounds (i + 1):=by subst hst1;rfl
 refine wpS_bind (wpS_elem (it_get (by omega:sb < (arrOf st).size)) ?_)
 refine wpS_bind (wpS_gal C V1.kind (V.mem (by omega)) (fun i=>it (arrOf st) (sa + i)) (fun i hi=>⟨it_get (by omega),V.mem (by omega)⟩) (fun i j hij hj=>s1 _ _ (by omega) (by omega) (by omega)) (by omega) fun k k1 k2 k3=>?_)
 dsimp only
 have c2:∀ i,sa≤i→i < sa + k→r (it (arrOf st) i)≤r (it (arrOf st) sb):=fun i h1 h2=>by
  have:=k2 (i - sa) (by omega);unfold bef at this
  rw [show sa + (i - sa)=i by omega] at this
  simpa using this
 have c3:∀ i,sa + k≤i→i < sb→r (it (arrOf st) sb) < r (it (arrOf st) i):=fun i h1 h2=>by
  have:=k3 (i - sa) (by omega) (by omega);unfold bef at this
  rw [show sa + (i - sa)=i by omega] at this
  simpa using this
 by_cases n0:na - k=0
 ·rw [if_pos (by simpa using n0)]
  refine wpS_pure (h st1 V1 ep ?_ fun j _=>by rw [ea])
  rw [ea]
  intro i j h1 h2 h3
  by_cases q1:j < sb
  ·exact s1 i j h1 h2 q1
  ·by_cases q2:i < sb
   ·have:=c2 i h1 (by omega)
    have:=s2 sb j (Nat.le_refl _) (by omega) h3
    omega
   ·exact s2 i j (by omega) h2 h3
 rw [if_neg (by simpa using n0)]
 have hl:sa + k + (na - k) - 1=sb - 1:=by omega
 rw [hl]
 refine wpS_bind (wpS_elem (it_get (by omega:sb - 1 < (arrOf st).size)) ?_)
 refine wpS_bind (wpS_gal C V1.kind (V.mem (by omega)) (fun i=>it (arrOf st) (sb + i)) (fun i hi=>⟨it_get (by omega),V.mem (by omega)⟩) (fun i j hij hj=>s2 _ _ (by omega) (by omega) (by omega)) (by omega) fun m m1 m2 m3=>?_)
 dsimp only
 have d2:∀ i,sb≤i→i < sb + m→r (it (arrOf st) i) < r (it (arrOf st) (sb - 1)):=fun i h1 h2=>by
  have:=m2 (i - sb) (by omega);unfold bef at this
  rw [show sb + (i - sb)=i by omega] at this
  simpa using this
 have d3:∀ i,sb + m≤i→i < sb + nb→r (it (arrOf st) (sb - 1))≤r (it (arrOf st) i):=fun i h1 h2=>by
  have:=m3 (i - sb) (by omega) (by omega);unfold bef at this
  rw [show sb + (i - sb)=i by omega] at this
  simpa using this
 by_cases n1:m=0
 ·rw [if_pos (by simpa using n1)]
  refine wpS_pure (h st1 V1 ep ?_ fun j _=>by rw [ea])
  rw [ea]
  intro i j h1 h2 h3
  by_cases q1:j < sb
  ·exact s1 i j h1 h2 q1
  ·by_cases q2:i < sb
   ·have:=d3 j (by omega) h3
    have:=s1 i (sb - 1) h1 (by omega) (by omega)
    omega
   ·exact s2 i j (by omega) h2 h3
 rw [if_neg (by simpa using n1)]
 obtain ⟨x,hx⟩:∃ x,x=(arrOf st).extract (sa + k) sb:=⟨_,rfl⟩
 obtain ⟨y,hy⟩:∃ y,y=(arrOf st).extract sb (sb + m):=⟨_,rfl⟩
 rw [←hx,←hy]
 have xz:x.size=sb - (sa + k):=by rw [hx];simp;omega
 have yz:y.size=m:=by rw [hy];simp;omega
 have xi:∀ j,j < x.size→it x j=it (arrOf st) (sa + k + j):=fun j hj=>by rw [xz] at hj;rw [hx];exact it_ext (by omega) (by omega)
 have yi:∀ j,j < y.size→it y j=it (arrOf st) (sb + j):=fun j hj=>by rw [yz] at hj;rw [hy];exact it_ext (by omega) (by omega)
 have sx:Srt r x:=fun i j hij hj=>by rw [xi i (by omega),xi j hj];rw [xz] at hj;exact s1 _ _ (by omega) (by omega) (by omega)
 have sy:Srt r y:=fun i j hij hj=>by rw [yi i (by omega),yi j hj];rw [yz] at hj;exact s2 _ _ (by omega) (by omega) (by omega)
 have hS:∀ v,v∈x.toList∨v∈y.toList→v∈a₀.toList:=fun v hv=>by
  rcases hv with hv | hv
  ·obtain ⟨j,_,h2,rfl⟩:=mem_dr (i:=0) (a:=x) (by simpa using hv)
   rw [xi j h2];exact V.mem (by omega)
  ·obtain ⟨j,_,h2,rfl⟩:=mem_dr (i:=0) (a:=y) (by simpa using hv)
   rw [yi j h2];exact V.mem (by omega)
 have g0:r (it y 0)≤r (it x 0):=by
  rw [xi 0 (by omega),yi 0 (by omega)]
  have:=c3 (sa + k) (by omega) (by omega)
  simp only [Nat.add_zero]
  omega
 have gl:∀ i,i < y.size→r (it y i)≤r (it x (x.size - 1)):=fun i hi=>by
  rw [xi _ (by omega),yi i hi,show sa + k + (x.size - 1)=sb - 1 by omega]
  exact Nat.le_of_lt (d2 _ (by omega) (by omega))
 have fin:∀ (out:Array Keyed) (g:Nat),Mrg r x y out→wpS (model prog w) A E s (do
   modify fun s=>setArr s (wr (arrOf s) (sa + k) out.toList)
   return (failedOf (←get)).isNone) Q (sg st1 g):=fun out g M=>by
  refine wpS_bind (wpS_modify ?_)
  refine wpS_bind (wpS_get ?_)
  have oz:out.size=x.size + y.size:=by have:=M.1.length_eq;simpa using this
  have wi:=fun i=>wr_it (arr:=arrOf st) (sa:=sa + k) (m:=out) (by omega) i
  have from':∀ i,sa + k≤i→i < sb + m→∃ j,sa + k≤j∧j < sb + m∧it (wr (arrOf st) (sa + k) out.toList) i=it (arrOf st) j:=fun i h1 h2=>by
   rw [wi,if_pos ⟨h1,by omega⟩]
   have hmem:=M.1.mem_iff.mp (it_mem (a:=out) (i:=i - (sa + k)) (by omega))
   rcases List.mem_append.mp hmem with hv | hv
   ·obtain ⟨j,_,h2,e⟩:=mem_dr (i:=0) (a:=x) (by simpa using hv)
    exact ⟨sa + k + j,by omega,by omega,by rw [e,xi j h2]⟩
   ·obtain ⟨j,_,h2,e⟩:=mem_dr (i:=0) (a:=y) (by simpa using hv)
    exact ⟨sb + j,by omega,by omega,by rw [e,yi j h2]⟩
  have so:Srt r out:=Srt.of M.2
  have lowb:∀ i j,sa≤i→i < sa + k→sa + k≤j→j < sb + nb→r (it (arrOf st) i)≤r (it (arrOf st) j):=fun i j h1 h2 h3 h4=>by
   by_cases q:j < sb
   ·exact s1 i j h1 (by omega) q
   ·have:=c2 i h1 h2
    have:=s2 sb j (Nat.le_refl _) (by omega) h4
    omega
  have hib:∀ i j,sa + k≤i→i < sb + m→sb + m≤j→j < sb + nb→r (it (arrOf st) i)≤r (it (arrOf st) j):=fun i j h1 h2 h3 h4=>by
   by_cases q:i < sb
   ·have:=s1 i (sb - 1) (by omega) (by omega) (by omega)
    have:=d3 j h3 h4
    omega
   ·exact s2 i j (by omega) (by omega) h4
  have S':Son r (wr (arrOf st) (sa + k) out.toList) sa (sb + nb):=by
   intro i j h1 h2 h3
   by_cases qi:i < sa + k
   ·rw [wi i,if_neg (by omega)]
    by_cases qj:j < sa + k
    ·rw [wi j,if_neg (by omega)];exact s1 i j h1 h2 (by omega)
    ·by_cases qm:j < sb + m
     ·obtain ⟨j',a1,a2,a3⟩:=from' j (by omega) qm
      rw [a3];exact lowb i j' h1 qi a1 (by omega)
     ·rw [wi j,if_neg (by omega)];exact lowb i j h1 qi (by omega) h3
   ·by_cases qm:i < sb + m
    ·by_cases qj:j < sb + m
     ·rw [wi i,if_pos (by omega),wi j,if_pos (by omega)]
      exact so _ _ (by omega) (by omega)
     ·obtain ⟨i',a1,a2,a3⟩:=from' i (by omega) qm
      rw [a3,wi j,if_neg (by omega)]
      exact hib i' j a1 a2 (by omega) h3
    ·rw [wi i,if_neg (by omega),wi j,if_neg (by omega)]
     exact s2 i j (by omega) h2 h3
  have P':(wr (arrOf st) (sa + k) out.toList).Perm (arrOf st):=wr_perm (e:=sb + m) (by omega) (by omega) (by
   have e:((arrOf st).extract (sa + k) (sb + m)).toList=x.toList++y.toList:=by
    rw [hx,hy,ext_toList,ext_toList,ext_toList]
    rw [show sb + m - (sa + k)=(sb - (sa + k)) + m by omega,List.take_add,List.drop_drop,show sa + k + (sb - (sa + k))=sb by omega,show sb + m - sb=m by omega]
   rw [e]
   exact M.1)
  have hf:(failedOf (setArr (sg st1 g) (wr (arrOf (sg st1 g)) (sa + k) out.toList))).isNone=true:=by
   show (failedOf st1).isNone=true
   rw [V1.ok];rfl
  rw [hf]
  have ar:arrOf (setArr (sg st1 g) (wr (arrOf (sg st1 g)) (sa + k) out.toList))=wr (arrOf st) (sa + k) out.toList:=by
   show wr (arrOf st1) (sa + k) out.toList=_
   rw [ea]
  refine wpS_pure (h _ ⟨?_,V1.kind,V1.ok⟩ ep ?_ ?_)
  ·rw [ar];exact P'.trans V.perm
  ·rw [ar];exact S'
  ·intro j hj
   rw [ar,wi j,if_neg (by omega)]
 by_cases le:na - k≤m
 ·rw [if_pos le]
  exact wpS_bind (wpS_mLo C V1.kind hS sx sy (by omega) (by omega) g0 gl fun out g M=>fin out g M)
 ·rw [if_neg le]
  exact wpS_bind (wpS_mHi C V1.kind hS sx sy (by omega) (by omega) g0 gl fun out g M=>fin out g M)
end
end TS
namespace TS
open PySem PySem.Spec PyProof.Rows
theorem it_q (a:Array Keyed) (i:Nat):it a i=(a[i]?).getD (Value.none,Value.none):=by
 unfold it
 by_cases h:i < a.size
 ·simp [Array.getD,h]
 ·simp [Array.getD,h]
theorem it_mirror {xs:Array Keyed} {i j:Nat} (hj:j≤xs.size) (k:Nat):it (mirror xs i j ((j - i) / 2)) k=if i≤k∧k < j then it xs (i + j - 1 - k) else it xs k:=by
 rw [it_q,getElem?_mirror_all (i:=i) hj k]
 split <;> rw [it_q]
theorem it_bubble {xs:Array Keyed} {src d:Nat} (hs:src < xs.size) (hd:d≤src) (k:Nat):it (bubble xs src d) k=if k=src - d then it xs src else if src - d < k∧k≤src then it xs (k - 1) else it xs k:=by
 rw [it_q,getElem?_bubble hs d hd k]
 split
 ·rw [it_q]
 ·split <;> rw [it_q]
section
variable {prog:Program} {w:World} {A:Around} {E:Value→Shared→Prop} {s:Shared} {κ:SortKind} {r:Keyed→Nat} {a₀:Array Keyed} {st:SortSt}
theorem Iv.setArr (V:Iv κ a₀ st) {xs:Array Keyed} (hp:xs.Perm (arrOf st)):Iv κ a₀ (setArr st xs):=⟨hp.trans V.perm,V.kind,V.ok⟩
theorem Iv.inj (V:Iv κ a₀ st) (hd:(a₀.toList.map r).Nodup) {i j:Nat} (hi:i < a₀.size) (hj:j < a₀.size) (e:r (it (arrOf st) i)=r (it (arrOf st) j)):i=j:=by
 have p:((arrOf st).toList.map r).Perm (a₀.toList.map r):=(Array.perm_iff_toList_perm.mp V.perm).map r
 have nd:((arrOf st).toList.map r).Nodup:=p.nodup_iff.mpr hd
 have hz:=V.size
 have a1:((arrOf st).toList.map r)[i]'(by simp;omega)=r (it (arrOf st) i):=by rw [it_eq (by omega)];simp
 have a2:((arrOf st).toList.map r)[j]'(by simp;omega)=r (it (arrOf st) j):=by rw [it_eq (by omega)];simp
 exact (List.getElem_inj nd).mp (a1.trans (e.trans a2.symm))
theorem wpS_ltA (C:Cmp prog w A s κ r (· ∈a₀.toList)) (V:Iv κ a₀ st) {i j:Nat} {Q:Option Bool→SortSt→Prop} (hi:i < a₀.size) (hj:j < a₀.size) (h:Q (some (decide (r (it (arrOf st) i) < r (it (arrOf st) j)))) st):
  wpS (model prog w) A E s (ltAt' i j) Q st:=by
 rw [ltAt'_eq]
 refine wpS_bind (wpS_get ?_)
 dsimp only
 have hz:=V.size
 refine wpS_bind (wpS_elem (it_get (by omega)) (wpS_bind (wpS_elem (it_get (by omega)) ?_)))
 exact wpS_lt C V.kind (V.mem hi) (V.mem hj) h
theorem wpS_asc (C:Cmp prog w A s κ r (· ∈a₀.toList)) (V:Iv κ a₀ st) {lo a nrem:Nat} {Q:Option (Option Nat)×Nat→SortSt→Prop} (hz:lo + nrem≤a₀.size) (h1:1≤a) (h2:a≤nrem) (hs:Son r (arrOf st) lo (lo + a))
  (h:∀ n,a≤n→n≤nrem→Son r (arrOf st) lo (lo + n)→(n=nrem∨r (it (arrOf st) (lo + n)) < r (it (arrOf st) (lo + n - 1)))→Q (none,n) st):
  wpS (model prog w) A E s (forIn [a:nrem] ((none,a):Option (Option Nat)×Nat) fun x __s=>do
    let __x ←ltAt' (lo + __s.snd) (lo + __s.snd - 1)
    match __x with
     | some smaller=>if smaller=true then pure (ForInStep.done (none,__s.snd)) else pure (ForInStep.yield (none,__s.snd + 1))
     | x=>pure (ForInStep.done (some none,__s.snd))) Q st:=by
 refine wpS_forRange (I:=fun x c st'=>st'=st∧c=(none,x)∧Son r (arrOf st) lo (lo + x)) ?step ?fin ⟨rfl,rfl,hs⟩
 case fin=>
  rintro c st' ⟨rfl,rfl,hs⟩
  rw [Nat.max_eq_right h2] at hs ⊢
  exact h nrem h2 (Nat.le_refl _) hs (.inl rfl)
 case step=>
  rintro x c st' hx1 hx2 ⟨rfl,rfl,hs⟩
  dsimp only
  refine wpS_bind (wpS_ltA C V (by omega) (by omega) ?_)
  dsimp only
  by_cases q:r (it (arrOf st') (lo + x)) < r (it (arrOf st') (lo + x - 1))
  ·rw [if_pos (by simpa using q)]
   exact wpS_pure (h x hx1 (by omega) hs (.inr q))
  ·rw [if_neg (by simpa using q)]
   refine wpS_pure ⟨rfl,rfl,fun i j h3 h4 h5=>?_⟩
   by_cases qj:j < lo + x
   ·exact hs i j h3 h4 qj
   ·obtain rfl:j=lo + x:=by omega
    by_cases qi:i=lo + x
    ·subst qi;exact Nat.le_refl _
    ·have:=hs i (lo + x - 1) h3 (by omega) (by omega)
     omega
theorem wpS_count (C:Cmp prog w A s κ r (· ∈a₀.toList)) (hd:(a₀.toList.map r).Nodup) (V:Iv κ a₀ st) {lo nrem:Nat} {Q:Option Nat→SortSt→Prop} (hz:lo + nrem≤a₀.size) (h1:1≤nrem)
  (h:∀ n st',Iv κ a₀ st'→pendingOf st'=pendingOf st→1≤n→n≤nrem→Son r (arrOf st') lo (lo + n)→(∀ j,j < lo→it (arrOf st') j=it (arrOf st) j)→Q (some n) st'):
  wpS (model prog w) A E s (countRun' lo nrem) Q st:=by
 rw [countRun'_eq]
 refine wpS_bind (wpS_asc C V hz (Nat.le_refl 1) h1 (fun i j h3 h4 h5=>by obtain rfl:i=j:=(by omega);exact Nat.le_refl _) fun n n1 n2 n3 n4=>?_)
 dsimp only
 by_cases e1:n=nrem
 ·rw [if_pos (by simpa using e1)]
  exact wpS_pure (h n st V rfl n1 n2 n3 fun _ _=>rfl)
 rw [if_neg (by simpa using e1)]
 by_cases e2:n > 1
 ·rw [if_pos e2]
  refine wpS_bind (wpS_ltA C V (by omega) (by omega) ?_)
  dsimp only
  have q:r (it (arrOf st) lo) < r (it (arrOf st) (lo + n - 1)):=by
   have:=n3 lo (lo + n - 1) (Nat.le_refl _) (by omega) (by omega)
   rcases Nat.lt_or_ge (r (it (arrOf st) lo)) (r (it (arrOf st) (lo + n - 1))) with q | q
   ·exact q
   ·have:=V.inj hd (i:=lo) (j:=lo + n - 1) (by omega) (by omega) (by omega)
    omega
  rw [if_pos (by simpa using q)]
  exact wpS_pure (h n st V rfl n1 n2 n3 fun _ _=>rfl)
 rw [if_neg e2]
 obtain rfl:n=1:=by omega
 have hlt:=n4.resolve_left e1
 refine wpS_bind (wpS_lift (wpAny_rule ⟨rfl,?_⟩))
 refine wpS_bind (wpS_mono (wpS_forRange (I:=fun x c st'=>st'=st∧c=(none,x,0)∧∀ i j,lo≤i→i≤j→j < lo + x→r (it (arrOf st) j)≤r (it (arrOf st) i))
  (Q:=fun c st'=>st'=st∧∃ x,c=(none,x,0)∧2≤x∧x≤nrem∧∀ i j,lo≤i→i≤j→j < lo + x→r (it (arrOf st) j)≤r (it (arrOf st) i)) ?step ?fin ⟨rfl,rfl,?init⟩) ?post)
 case init=>
  intro i j h3 h4 h5
  by_cases q:i=j
  ·subst q;exact Nat.le_refl _
  ·obtain rfl:i=lo:=by omega
   obtain rfl:j=i + 1:=by omega
   rw [show i + 1 - 1=i by omega] at hlt
   omega
 case fin=>
  rintro c st' ⟨rfl,rfl,hs⟩
  exact ⟨rfl,_,rfl,by omega,by omega,hs⟩
 case step=>
  rintro x c st' hx1 hx2 ⟨rfl,rfl,hs⟩
  dsimp only
  refine wpS_bind (wpS_ltA C V (by omega) (by omega) ?_)
  dsimp only
  by_cases q:r (it (arrOf st') (lo + x)) < r (it (arrOf st') (lo + x - 1))
  ·rw [if_pos (by simpa using q),if_neg (by omega)]
   refine wpS_pure ⟨rfl,rfl,fun i j h3 h4 h5=>?_⟩
   by_cases qj:j < lo + x
   ·exact hs i j h3 h4 qj
   ·obtain rfl:j=lo + x:=by omega
    by_cases qi:i=lo + x
    ·subst qi;exact Nat.le_refl _
    ·have:=hs i (lo + x - 1) h3 (by omega) (by omega)
     omega
  ·rw [if_neg (by simpa using q)]
   refine wpS_bind (wpS_ltA C V (by omega) (by omega) ?_)
   dsimp only
   have q':r (it (arrOf st') (lo + x - 1)) < r (it (arrOf st') (lo + x)):=by
    rcases Nat.lt_or_ge (r (it (arrOf st') (lo + x - 1))) (r (it (arrOf st') (lo + x))) with q | q
    ·exact q
    ·have:=V.inj hd (i:=lo + x) (j:=lo + x - 1) (by omega) (by omega) (by omega)
     omega
   rw [if_pos (by simpa using q')]
   exact wpS_pure ⟨rfl,x,rfl,by omega,by omega,hs⟩
 case post=>
  rintro c st' ⟨rfl,x,rfl,x1,x2,hs⟩
  dsimp only
  rw [if_neg (by omega)]
  have hzz:=V.size
  have mi:=fun k=>it_mirror (xs:=arrOf st') (i:=lo) (j:=lo + x) (by omega) k
  refine wpS_bind (wpS_reverse ?_)
  have V':Iv κ a₀ (PyProof.Rows.setArr st' (mirror (arrOf st') lo (lo + x) ((lo + x - lo) / 2))):=V.setArr (mirror_perm _ _ _ _)
  refine wpS_bind (wpS_asc C V' hz (by omega) x2 (fun i j h3 h4 h5=>?_) fun n m1 m2 m3 m4=>?_)
  ·show r (it (mirror (arrOf st') lo (lo + x) ((lo + x - lo) / 2)) i)≤r (it (mirror (arrOf st') lo (lo + x) ((lo + x - lo) / 2)) j)
   rw [mi i,if_pos (by omega),mi j,if_pos (by omega)]
   exact hs _ _ (by omega) (by omega) (by omega)
  ·refine wpS_pure (h n _ V' rfl (by omega) m2 m3 fun j hj=>?_)
   show it (mirror (arrOf st') lo (lo + x) ((lo + x - lo) / 2)) j=_
   rw [mi j,if_neg (by omega)]
theorem wpS_bin (C:Cmp prog w A s κ r (· ∈a₀.toList)) (V:Iv κ a₀ st) {lo n ok:Nat} {Q:Bool→SortSt→Prop} (hz:lo + n≤a₀.size) (hok:ok≤n) (h1:1≤ok) (hs:Son r (arrOf st) lo (lo + ok))
  (h:∀ st',Iv κ a₀ st'→pendingOf st'=pendingOf st→Son r (arrOf st') lo (lo + n)→(∀ j,j < lo→it (arrOf st') j=it (arrOf st) j)→Q true st'):
  wpS (model prog w) A E s (binarySort' lo n ok) Q st:=by
 rw [binarySort'_eq,Nat.max_eq_left h1]
 refine wpS_bind (wpS_mono (wpS_forRange (I:=fun k c st'=>c=(none,())∧Iv κ a₀ st'∧pendingOf st'=pendingOf st∧Son r (arrOf st') lo (lo + k)∧∀ j,j < lo→it (arrOf st') j=it (arrOf st) j)
  (Q:=fun c st'=>c=(none,())∧Iv κ a₀ st'∧pendingOf st'=pendingOf st∧Son r (arrOf st') lo (lo + n)∧∀ j,j < lo→it (arrOf st') j=it (arrOf st) j) ?step ?fin ⟨rfl,V,rfl,hs,fun _ _=>rfl⟩) ?post)
 case post=>
  rintro c st' ⟨rfl,V',e,hs',hj⟩
  exact wpS_pure (h st' V' e hs' hj)
 case fin=>
  rintro c st' hh
  rwa [Nat.max_eq_right hok] at hh
 case step=>
  rintro k c st' hk1 hk2 ⟨rfl,V',ep,hs',hj'⟩
  refine wpS_bind (wpS_mono (wpS_forRange (I:=fun x c st''=>st''=st'∧∃ l u,c=(none,l,u)∧l≤u∧u≤k∧u - l≤k - x∧
    (∀ i,i < l→r (it (arrOf st') (lo + i))≤r (it (arrOf st') (lo + k)))∧(∀ i,u≤i→i < k→r (it (arrOf st') (lo + k)) < r (it (arrOf st') (lo + i))))
   (Q:=fun c st''=>st''=st'∧∃ l u,c=(none,l,u)∧l≤k∧
    (∀ i,i < l→r (it (arrOf st') (lo + i))≤r (it (arrOf st') (lo + k)))∧(∀ i,l≤i→i < k→r (it (arrOf st') (lo + k)) < r (it (arrOf st') (lo + i)))) ?istep ?ifin ?iinit) ?ipost)
  case iinit=>exact ⟨rfl,0,k,rfl,by omega,by omega,by omega,fun i hi=>by omega,fun i h1 h2=>by omega⟩
  case ifin=>
   rintro c st'' ⟨rfl,l,u,rfl,hlr,hrk,hm,hlo,hhi⟩
   have:l=u:=by omega
   subst this
   exact ⟨rfl,l,l,rfl,hrk,hlo,hhi⟩
  case istep=>
   rintro x c st'' _ hxk ⟨rfl,l,u,rfl,hlr,hrk,hm,hlo,hhi⟩
   dsimp only
   by_cases hge:l≥u
   ·rw [if_pos hge]
    have:l=u:=by omega
    subst this
    exact wpS_pure ⟨rfl,l,l,rfl,hrk,hlo,hhi⟩
   ·rw [if_neg hge]
    refine wpS_bind (wpS_ltA C V' (by omega) (by omega) ?_)
    dsimp only
    by_cases q:r (it (arrOf st'') (lo + k)) < r (it (arrOf st'') (lo + (l + u) / 2))
    ·rw [if_pos (by simpa using q)]
     refine wpS_pure ⟨rfl,l,(l + u) / 2,rfl,by omega,by omega,by omega,hlo,fun i h1 h2=>?_⟩
     have:=hs' (lo + (l + u) / 2) (lo + i) (by omega) (by omega) (by omega)
     omega
    ·rw [if_neg (by simpa using q)]
     refine wpS_pure ⟨rfl,(l + u) / 2 + 1,u,rfl,by omega,by omega,by omega,fun i h1=>?_,hhi⟩
     have:=hs' (lo + i) (lo + (l + u) / 2) (by omega) (by omega) (by omega)
     omega
  case ipost=>
   rintro c st'' ⟨rfl,l,u,rfl,hlk,hlo,hhi⟩
   dsimp only
   rw [moveDown'_eq]
   have hzz:=V'.size
   have bi:=fun i=>it_bubble (xs:=arrOf st'') (src:=lo + k) (d:=lo + k - (lo + l)) (by omega) (by omega) i
   rw [show lo + k - (lo + k - (lo + l))=lo + l by omega] at bi
   refine wpS_bind (wpS_modify (wpS_pure ⟨rfl,V'.setArr (bubble_perm _ _ _),ep,fun i j h3 h4 h5=>?_,fun j hj=>?_⟩))
   ·show r (it (bubble (arrOf st'') (lo + k) (lo + k - (lo + l))) i)≤r (it (bubble (arrOf st'') (lo + k) (lo + k - (lo + l))) j)
    rw [bi i,bi j]
    have lo':∀ i,lo≤i→i < lo + l→r (it (arrOf st'') i)≤r (it (arrOf st'') (lo + k)):=fun i h1 h2=>by
     have:=hlo (i - lo) (by omega)
     rwa [show lo + (i - lo)=i by omega] at this
    have hi':∀ i,lo + l≤i→i < lo + k→r (it (arrOf st'') (lo + k))≤r (it (arrOf st'') i):=fun i h1 h2=>by
     have:=hhi (i - lo) (by omega) (by omega)
     rw [show lo + (i - lo)=i by omega] at this
     omega
    repeat' split
    all_goals first
     | (exfalso;omega)
     | exact Nat.le_refl _
     | exact lo' _ (by omega) (by omega)
     | exact hi' _ (by omega) (by omega)
     | exact hs' _ _ (by omega) (by omega) (by omega)
   ·show it (bubble (arrOf st'') (lo + k) (lo + k - (lo + l))) j=_
    rw [bi j,if_neg (by omega),if_neg (by omega)]
    exact hj' j hj
end
end TS
namespace TS
open PySem PySem.Spec PyProof.Rows
noncomputable def Cov (r:Keyed→Nat) (a:Array Keyed):Nat→List (Nat×Nat)→Nat→Prop
 | s,[],e=>s=e
 | s,(q,n)::l,e=>q=s∧0 < n∧Son r a s (s + n)∧Cov r a (s + n) l e
theorem Cov.le {r:Keyed→Nat} {a:Array Keyed}:∀ {l:List (Nat×Nat)} {s e:Nat},Cov r a s l e→s + l.length≤e
 | [],_,_,h=>by rw [show _=_ from h];simp
 | (q,n)::l,s,e,⟨_,h2,_,h4⟩=>by
  have:=h4.le
  rw [List.length_cons]
  omega
theorem Cov.congr {r:Keyed→Nat} {a b:Array Keyed}:∀ {l:List (Nat×Nat)} {s e:Nat},Cov r a s l e→(∀ j,s≤j→j < e→it b j=it a j)→Cov r b s l e
 | [],_,_,h,_=>h
 | (q,n)::l,s,e,⟨h1,h2,h3,h4⟩,hc=>by
  have hl:=h4.le
  refine ⟨h1,h2,fun i j a1 a2 a3=>?_,h4.congr fun j a1 a2=>hc j (by omega) a2⟩
  rw [hc i (by omega) (by omega),hc j (by omega) (by omega)]
  exact h3 i j a1 a2 a3
theorem Cov.split {r:Keyed→Nat} {a:Array Keyed}:∀ {l l':List (Nat×Nat)} {s e:Nat},Cov r a s (l++l') e→∃ m,Cov r a s l m∧Cov r a m l' e
 | [],_,s,_,h=>⟨s,rfl,h⟩
 | (q,n)::l,l',s,e,⟨h1,h2,h3,h4⟩=>by
  obtain ⟨m,a1,a2⟩:=h4.split
  exact ⟨m,⟨h1,h2,h3,a1⟩,a2⟩
theorem Cov.join {r:Keyed→Nat} {a:Array Keyed}:∀ {l l':List (Nat×Nat)} {s m e:Nat},Cov r a s l m→Cov r a m l' e→Cov r a s (l++l') e
 | [],_,s,m,_,h,h'=>by cases (show s=m from h);exact h'
 | (q,n)::l,l',s,m,e,⟨h1,h2,h3,h4⟩,h'=>⟨h1,h2,h3,h4.join h'⟩
noncomputable abbrev p2 (st:SortSt):List (Nat×Nat):=(pendingOf st).toList.map fun t=>(t.1,t.2.1)
theorem p2_len (st:SortSt):(p2 st).length=(pendingOf st).size:=by simp
section
variable {prog:Program} {w:World} {A:Around} {E:Value→Shared→Prop} {s:Shared} {κ:SortKind} {r:Keyed→Nat} {a₀:Array Keyed} {st:SortSt}
theorem wpS_mergeC (C:Cmp prog w A s κ r (· ∈a₀.toList)) (V:Iv κ a₀ st) {i lo:Nat} {Q:Bool→SortSt→Prop} (hi:i + 1 < (pendingOf st).size) (hc:Cov r (arrOf st) 0 (p2 st) lo) (hz:lo≤a₀.size)
  (h:∀ st',Iv κ a₀ st'→(pendingOf st').size + 1=(pendingOf st).size→Cov r (arrOf st') 0 (p2 st') lo→(∀ j,lo≤j→it (arrOf st') j=it (arrOf st) j)→Q true st'):
  wpS (model prog w) A E s (mergeAt' i) Q st:=by
 obtain ⟨⟨sa,na,pw⟩,e1⟩:∃ u,(pendingOf st)[i]? =some u:=⟨_,getElem?_pos _ i (by omega)⟩
 obtain ⟨⟨sb,nb,pw'⟩,e2⟩:∃ u,(pendingOf st)[i + 1]? =some u:=⟨_,getElem?_pos _ (i + 1) (by omega)⟩
 have sp:(pendingOf st).toList=(pendingOf st).toList.take i++(sa,na,pw)::(sb,nb,pw')::(pendingOf st).toList.drop (i + 2):=by
  conv=>lhs;rw [←List.take_append_drop i (pendingOf st).toList]
  congr 1
  have f1:(pendingOf st).toList[i]? =some (sa,na,pw):=by rw [Array.getElem?_toList];exact e1
  have f2:(pendingOf st).toList[i + 1]? =some (sb,nb,pw'):=by rw [Array.getElem?_toList];exact e2
  obtain ⟨g1,g1'⟩:=List.getElem?_eq_some_iff.mp f1
  obtain ⟨g2,g2'⟩:=List.getElem?_eq_some_iff.mp f2
  rw [List.drop_eq_getElem_cons g1,g1',List.drop_eq_getElem_cons g2,g2']
 obtain ⟨pre,hpre⟩:∃ pre,pre=(pendingOf st).toList.take i:=⟨_,rfl⟩
 obtain ⟨post,hpost⟩:∃ post,post=(pendingOf st).toList.drop (i + 2):=⟨_,rfl⟩
 have hl:pre.length=i:=by rw [hpre];simp;omega
 rw [←hpre,←hpost] at sp
 have hc':=hc
 unfold p2 at hc'
 rw [sp,List.map_append] at hc'
 obtain ⟨m,c1,c2⟩:=hc'.split
 simp only [List.map_cons] at c2
 obtain ⟨q1,q2,q3,q4,q5,q6,q7⟩:=c2
 have q2:0 < na:=q2
 have q5:0 < nb:=q5
 have q7:Cov r (arrOf st) (m + na + nb) (List.map (fun t:Nat×Nat×Nat=>(t.1,t.2.1)) post) lo:=q7
 have l1:=c1.le
 have l2:=q7.le
 subst q1
 have es:sb=sa + na:=q4
 refine wpS_mergeAt C V e1 e2 es q2 q5 (by omega) (by rw [es];exact q3) (by rw [es];exact q6) fun st' V' ep S' hj=>?_
 have et:(pendingOf st').toList=pre++(sa,na + nb,pw)::post:=by
  rw [ep]
  rw [Array.toList_eraseIdxIfInBounds,Array.toList_setIfInBounds,sp]
  rw [List.set_append_right _ _ (by omega),hl,Nat.sub_self,List.set_cons_zero,List.eraseIdx_append_of_length_le (by omega),hl,show i + 1 - i=1 by omega]
  rfl
 refine h st' V' ?_ ?_ fun j hj'=>hj j (.inr (by omega))
 ·have a1:=congrArg List.length et
  have a2:=congrArg List.length sp
  simp only [Array.length_toList,List.length_append,List.length_cons] at a1 a2
  omega
 ·unfold p2
  rw [et,List.map_append]
  refine Cov.join (c1.congr fun j _ a2=>hj j (.inl a2)) ⟨rfl,(show 0 < na + nb by omega),?_,?_⟩
  ·rw [←Nat.add_assoc,←es];exact S'
  ·rw [←Nat.add_assoc]
   exact q7.congr fun j a1 _=>hj j (.inr (by omega))
theorem p2_modify (p:Array (Nat×Nat×Nat)) (i pw:Nat):(p.modify i fun x=>(x.1,x.2.1,pw)).toList.map (fun t=>(t.1,t.2.1))=p.toList.map fun t=>(t.1,t.2.1):=by
 apply List.ext_getElem
 ·simp
 ·intro j h1 h2
  simp only [List.getElem_map,Array.getElem_toList,Array.getElem_modify]
  split <;> rfl
theorem psh {st1:SortSt} {lo n:Nat} (h1:1≤n) (c1:Cov r (arrOf st1) 0 (p2 st1) lo) (s1:Son r (arrOf st1) lo (lo + n)):Cov r (arrOf st1) 0 (p2 (setPending st1 ((pendingOf st1).push (lo,n,0)))) (lo + n):=by
 show Cov r (arrOf st1) 0 (((pendingOf st1).push (lo,n,0)).toList.map fun t=>(t.1,t.2.1)) (lo + n)
 rw [Array.toList_push,List.map_append]
 exact Cov.join c1 ⟨rfl,h1,s1,rfl⟩
theorem wpS_runs (C:Cmp prog w A s κ r (· ∈a₀.toList)) (hd:(a₀.toList.map r).Nodup) (V:Iv κ a₀ st) {Q:Unit→SortSt→Prop} (h1:1≤a₀.size) (hp:pendingOf st=#[])
  (h:∀ st',Iv κ a₀ st'→Son r (arrOf st') 0 a₀.size→Q () st'):wpS (model prog w) A E s sortRuns' Q st:=by
 rw [sortRuns'_eq]
 refine wpS_bind (wpS_get ?_)
 dsimp only
 simp only [V.size]
 obtain ⟨mr,hmr⟩:∃ mr,mr=minRun' a₀.size a₀.size 0:=⟨_,rfl⟩
 rw [←hmr]
 refine wpS_bind (wpS_mono (wpS_forRange (I:=fun x c st'=>∃ lo,c=(none,lo)∧Iv κ a₀ st'∧x≤lo∧lo≤a₀.size∧Cov r (arrOf st') 0 (p2 st') lo)
  (Q:=fun c st'=>c=(none,a₀.size)∧Iv κ a₀ st'∧Cov r (arrOf st') 0 (p2 st') a₀.size) ?step ?fin ⟨0,rfl,V,by omega,by omega,?init⟩) ?post)
 case init=>
  unfold p2;rw [hp];exact rfl
 case fin=>
  rintro c st' ⟨lo,rfl,V',a1,a2,a3⟩
  obtain rfl:lo=a₀.size:=by omega
  exact ⟨rfl,V',a3⟩
 case step=>
  rintro x c st' _ hx ⟨lo,rfl,V',a1,a2,a3⟩
  dsimp only
  by_cases q:lo≥a₀.size
  ·rw [if_pos q]
   obtain rfl:lo=a₀.size:=by omega
   exact wpS_pure ⟨rfl,V',a3⟩
  rw [if_neg q]
  refine wpS_bind (wpS_count C hd V' (by omega) (by omega) fun n st1 V1 ep n1 n2 n3 n4=>?_)
  dsimp only
  have cv1:Cov r (arrOf st1) 0 (p2 st1) lo:=by
   unfold p2;rw [ep]
   exact a3.congr fun j _ hj=>n4 j hj
  by_cases e1:n < mr
  ·rw [if_pos e1]
   refine wpS_bind (wpS_lift (wpAny_rule ⟨rfl,?_⟩))
   refine wpS_bind (wpS_bin C V1 (by omega) (by omega) n1 n3 fun st2 V2 ep2 m3 m4=>?_)
   rw [if_neg (by simp)]
   have cv2:Cov r (arrOf st2) 0 (p2 st2) lo:=by
    unfold p2;rw [ep2]
    exact cv1.congr fun j _ hj=>m4 j hj
   refine wpS_bind (wpS_get ?_)
   cases eb:(pendingOf st2).back? with
   | none=>
    dsimp only
    exact wpS_bind (wpS_modify (wpS_pure ⟨_,rfl,⟨V2.perm,V2.kind,V2.ok⟩,by omega,by omega,psh (by omega) cv2 m3⟩))
   | some u=>
    obtain ⟨s1,n1,pw1⟩:=u
    dsimp only
    refine wpS_bind (wpS_mono (wpS_forRange (I:=fun x c st'=>c=(none,())∧Iv κ a₀ st'∧Cov r (arrOf st') 0 (p2 st') lo∧∀ j,lo≤j→it (arrOf st') j=it (arrOf st2) j)
     (Q:=fun c st'=>c=(none,())∧Iv κ a₀ st'∧Cov r (arrOf st') 0 (p2 st') lo∧∀ j,lo≤j→it (arrOf st') j=it (arrOf st2) j) ?stepA (fun _ _ hh=>hh) ⟨rfl,V2,cv2,fun _ _=>rfl⟩) ?postA)
    case stepA=>
     rintro x c st' _ hx ⟨rfl,V',cv',hj⟩
     refine wpS_bind (wpS_get ?_)
     by_cases q:(pendingOf st').size > 1
     ·rw [if_pos q]
      obtain ⟨⟨u1,u2,older⟩,e1⟩:∃ u,(pendingOf st')[(pendingOf st').size - 2]? =some u:=⟨_,getElem?_pos _ _ (by omega)⟩
      rw [e1]
      dsimp only
      split
      ·exact wpS_pure ⟨rfl,V',cv',hj⟩
      ·refine wpS_bind (wpS_mergeC C V' (by omega) cv' (by omega) fun st3 V3 _ cv3 hj3=>?_)
       rw [if_neg (by simp)]
       exact wpS_pure ⟨rfl,V3,cv3,fun j hj'=>by rw [hj3 j hj',hj j hj']⟩
     ·rw [if_neg q]
      dsimp only
      exact wpS_pure ⟨rfl,V',cv',hj⟩
    case postA=>
     rintro c st' ⟨rfl,V',cv',hj⟩
     dsimp only
     refine wpS_bind (wpS_modify (wpS_bind (wpS_modify (wpS_pure ⟨_,rfl,⟨V'.perm,V'.kind,V'.ok⟩,by omega,by omega,psh (st1:=setPending st' ((pendingOf st').modify ((pendingOf st').size - 1) fun x=>(x.fst,x.2.fst,power' a₀.size (2 * s1 + n1) (2 * s1 + n1 + n1 + min (a₀.size - lo) mr) a₀.size))) (by omega) ?_ fun i j h3 h4 h5=>?_⟩))))
     ·show Cov r (arrOf st') 0 (((pendingOf st').modify ((pendingOf st').size - 1) fun x=>(x.fst,x.2.fst,power' a₀.size (2 * s1 + n1) (2 * s1 + n1 + n1 + min (a₀.size - lo) mr) a₀.size)).toList.map fun t=>(t.1,t.2.1)) lo
      rw [p2_modify]
      exact cv'
     ·show r (it (arrOf st') i)≤r (it (arrOf st') j)
      rw [hj i h3,hj j (by omega)]
      exact m3 i j h3 h4 h5
  ·rw [if_neg e1]
   refine wpS_bind (wpS_get ?_)
   cases eb:(pendingOf st1).back? with
   | none=>
    dsimp only
    exact wpS_bind (wpS_modify (wpS_pure ⟨_,rfl,⟨V1.perm,V1.kind,V1.ok⟩,by omega,by omega,psh (by omega) cv1 n3⟩))
   | some u=>
    obtain ⟨s1,n1,pw1⟩:=u
    dsimp only
    refine wpS_bind (wpS_mono (wpS_forRange (I:=fun x c st'=>c=(none,())∧Iv κ a₀ st'∧Cov r (arrOf st') 0 (p2 st') lo∧∀ j,lo≤j→it (arrOf st') j=it (arrOf st1) j)
     (Q:=fun c st'=>c=(none,())∧Iv κ a₀ st'∧Cov r (arrOf st') 0 (p2 st') lo∧∀ j,lo≤j→it (arrOf st') j=it (arrOf st1) j) ?stepB (fun _ _ hh=>hh) ⟨rfl,V1,cv1,fun _ _=>rfl⟩) ?postB)
    case stepB=>
     rintro x c st' _ hx ⟨rfl,V',cv',hj⟩
     refine wpS_bind (wpS_get ?_)
     by_cases q:(pendingOf st').size > 1
     ·rw [if_pos q]
      obtain ⟨⟨u1,u2,older⟩,e1⟩:∃ u,(pendingOf st')[(pendingOf st').size - 2]? =some u:=⟨_,getElem?_pos _ _ (by omega)⟩
      rw [e1]
      dsimp only
      split
      ·exact wpS_pure ⟨rfl,V',cv',hj⟩
      ·refine wpS_bind (wpS_mergeC C V' (by omega) cv' (by omega) fun st2 V2 _ cv2 hj2=>?_)
       rw [if_neg (by simp)]
       exact wpS_pure ⟨rfl,V2,cv2,fun j hj'=>by rw [hj2 j hj',hj j hj']⟩
     ·rw [if_neg q]
      dsimp only
      exact wpS_pure ⟨rfl,V',cv',hj⟩
    case postB=>
     rintro c st' ⟨rfl,V',cv',hj⟩
     dsimp only
     refine wpS_bind (wpS_modify (wpS_bind (wpS_modify (wpS_pure ⟨_,rfl,⟨V'.perm,V'.kind,V'.ok⟩,by omega,by omega,psh (st1:=setPending st' ((pendingOf st').modify ((pendingOf st').size - 1) fun x=>(x.fst,x.2.fst,power' a₀.size (2 * s1 + n1) (2 * s1 + n1 + n1 + n) a₀.size))) (by omega) ?_ fun i j h3 h4 h5=>?_⟩))))
     ·show Cov r (arrOf st') 0 (((pendingOf st').modify ((pendingOf st').size - 1) fun x=>(x.fst,x.2.fst,power' a₀.size (2 * s1 + n1) (2 * s1 + n1 + n1 + n) a₀.size)).toList.map fun t=>(t.1,t.2.1)) lo
      rw [p2_modify]
      exact cv'
     ·show r (it (arrOf st') i)≤r (it (arrOf st') j)
      rw [hj i h3,hj j (by omega)]
      exact n3 i j h3 h4 h5
 case post=>
  rintro c st' ⟨rfl,V',cv⟩
  dsimp only
  have one:∀ st2,Iv κ a₀ st2→Cov r (arrOf st2) 0 (p2 st2) a₀.size→(pendingOf st2).size≤1→Son r (arrOf st2) 0 a₀.size:=fun st2 V2 cv2 hle=>by
   have hl:=p2_len st2
   match hq:p2 st2,cv2 with
   | [],c=>have:(0:Nat)=a₀.size:=c;omega
   | [(q,n)],c=>
    obtain ⟨c1,c2,c3,c4⟩:=c
    have c4:0 + n=a₀.size:=c4
    rw [←c4];exact c3
   | _::_::_,c=>rw [hq] at hl;simp at hl;omega
  have hlen:(pendingOf st').size≤a₀.size:=by have:=cv.le;rw [p2_len] at this;omega
  refine wpS_bind (wpS_mono (wpS_forRange (I:=fun x c st2=>c=(none,())∧Iv κ a₀ st2∧Cov r (arrOf st2) 0 (p2 st2) a₀.size∧((pendingOf st2).size≤1∨(pendingOf st2).size + x≤a₀.size))
   (Q:=fun c st2=>c=(none,())∧Iv κ a₀ st2∧Son r (arrOf st2) 0 a₀.size) ?step3 ?fin3 ⟨rfl,V',cv,.inr (by omega)⟩) ?post3)
  case fin3=>
   rintro c st2 ⟨rfl,V2,cv2,hh⟩
   exact ⟨rfl,V2,one st2 V2 cv2 (by omega)⟩
  case post3=>
   rintro c st2 ⟨rfl,V2,sn⟩
   exact wpS_pure (h st2 V2 sn)
  case step3=>
   rintro x c st2 _ hx ⟨rfl,V2,cv2,hh⟩
   refine wpS_bind (wpS_get ?_)
   by_cases q:(pendingOf st2).size≤1
   ·rw [if_pos q]
    exact wpS_pure ⟨rfl,V2,one st2 V2 cv2 q⟩
   ·rw [if_neg q]
    refine wpS_bind (wpS_mergeC C V2 ?_ cv2 (Nat.le_refl _) fun st3 V3 e3 cv3 _=>?_)
    ·repeat' split
     all_goals omega
    ·rw [if_neg (by simp)]
     exact wpS_pure ⟨rfl,V3,cv3,.inr (by omega)⟩
end
end TS
namespace TS
open PySem PySem.Spec PyProof.Rows L2
theorem countP_lt {α:Type} {p q:α→Bool}:∀ {l:List α},(∀ x∈l,p x=true→q x=true)→(∃ x∈l,q x=true∧p x=false)→l.countP p < l.countP q
 | [],_,⟨_,h,_⟩=>nomatch h
 | a::l,h1,⟨x,hx,h2,h3⟩=>by
  have le:l.countP p≤l.countP q:=List.countP_mono_left fun y hy hp=>h1 y (List.mem_cons_of_mem _ hy) hp
  rw [List.countP_cons,List.countP_cons]
  rcases List.mem_cons.mp hx with rfl | hx
  ·rw [h2,h3];simp;omega
  ·have ih:=countP_lt (fun y hy=>h1 y (List.mem_cons_of_mem _ hy)) ⟨x,hx,h2,h3⟩
   have ha:=h1 a List.mem_cons_self
   cases ep:p a <;> cases eq:q a <;> simp [ep,eq] at ha ⊢ <;> omega
noncomputable def rk (lt:Nat→Nat→Bool) (n i:Nat):Nat:=(List.range n).countP fun j=>lt j i
section
variable {lt:Nat→Nat→Bool} {n:Nat} (S:Str1 lt n)
include S
theorem rk_lt {i j:Nat} (hi:i < n) (hj:j < n) (h:lt i j=true):rk lt n i < rk lt n j:=
 countP_lt (fun k hk hp=>S.tr k i j (List.mem_range.mp hk) hi hj hp h) ⟨i,List.mem_range.mpr hi,h,by
  cases e:lt i i with
  | false=>rfl
  | true=>have:=S.irr i i hi hi e;rw [e] at this;cases this⟩
theorem rk_dec {i j:Nat} (hi:i < n) (hj:j < n):decide (rk lt n i < rk lt n j)=lt i j:=by
 cases e:lt i j with
 | true=>simpa using rk_lt S hi hj e
 | false=>
  by_cases q:i=j
  ·subst q;simp
  ·have:=rk_lt S hj hi (S.tot i j hi hj q e)
   simp;omega
theorem rk_inj {i j:Nat} (hi:i < n) (hj:j < n) (h:rk lt n i=rk lt n j):i=j:=by
 by_cases q:i=j
 ·exact q
 ·cases e:lt i j with
  | true=>have:=rk_lt S hi hj e;omega
  | false=>have:=rk_lt S hj hi (S.tot i j hi hj q e);omega
end
theorem perm_map_inv {α β:Type} {f:α→β} {l₁ m:List β} (h:l₁.Perm m):∀ l₂:List α,m=l₂.map f→∃ l:List α,l.Perm l₂∧l₁=l.map f:=by
 induction h with
 | nil=>intro l₂ e;exact ⟨[],by cases l₂ with | nil=>exact .nil | cons=>simp at e,rfl⟩
 | cons x _ ih=>
  intro l₂ e
  cases l₂ with
  | nil=>simp at e
  | cons a t=>
   rw [List.map_cons] at e
   obtain ⟨rfl,e2⟩:=List.cons.inj e
   obtain ⟨l,p,q⟩:=ih t e2
   exact ⟨a::l,p.cons a,by rw [q];rfl⟩
 | swap x y t=>
  intro l₂ e
  match l₂,e with
  | a::b::t',e=>
   rw [List.map_cons,List.map_cons] at e
   obtain ⟨rfl,e2⟩:=List.cons.inj e
   obtain ⟨rfl,rfl⟩:=List.cons.inj e2
   exact ⟨b::a::t',.swap a b t',rfl⟩
 | trans _ _ ih1 ih2=>
  intro l₂ e
  obtain ⟨l,p,q⟩:=ih2 l₂ e
  obtain ⟨l',p',q'⟩:=ih1 l q
  exact ⟨l',p'.trans p,q'⟩
noncomputable def rkv (lt:Nat→Nat→Bool) (vs:List Value) (x:Keyed):Nat:=
 open Classical in if h:∃ i,i < vs.length∧vs.getD i Value.none=x.1 then rk lt vs.length (Classical.choose h) else 0
theorem rkv_at {lt:Nat→Nat→Bool} {vs:List Value} (nd:vs.Nodup) {i:Nat} (hi:i < vs.length) (v:Value):rkv lt vs (vs.getD i Value.none,v)=rk lt vs.length i:=by
 have h:∃ j,j < vs.length∧vs.getD j Value.none=vs.getD i Value.none:=⟨i,hi,rfl⟩
 unfold rkv
 rw [dif_pos h]
 congr 1
 obtain ⟨h1,h2⟩:=Classical.choose_spec h
 generalize Classical.choose h=c at h1 h2 ⊢
 rw [List.getD_eq_getElem?_getD,List.getD_eq_getElem?_getD,List.getElem?_eq_getElem h1,List.getElem?_eq_getElem hi] at h2
 exact (List.getElem_inj nd).mp h2
theorem pairs_map (vs:List Value):(pairsOf vs).toList=(List.range vs.length).map fun i=>(vs.getD i Value.none,vs.getD i Value.none):=by
 rw [pairsOf_toList]
 apply List.ext_getElem
 ·simp
 ·intro i h1 h2
  simp at h1 h2 ⊢
  simp [h2]
section
variable {prog:Program} {w:World} {A:Around} {E:Value→Shared→Prop} {s:Shared} {h₀:Heap} {L a:Addr} {m:Str→Option Value} {news:List (Addr×Obj)} {vs:List Value}
structure Need (prog:Program) (w:World) (A:Around) (vs:List Value) (s:Shared) (R:List Nat→Prop):Prop where
 need:∃ κ lt,Str1 lt vs.length∧(∀ Q:SortKind→Shared→Prop,Q κ s→wpAny (model prog w) A (keyKind' vs.toArray) Q (fun _ _=>False) s)∧
  (∀ i j,i < vs.length→j < vs.length→∀ Q:Bool→Shared→Prop,Q (lt i j) s→wpAny (model prog w) A (keyLt' κ (vs.getD i Value.none) (vs.getD j Value.none)) Q (fun _ _=>False) s)∧
  ∀ p:List Nat,p.Perm (List.range vs.length)→p.Pairwise (fun i j=>lt i j=true)→R p
theorem big_list_sort {n:Nat} {P:PySem.Fin→Shared→Prop} (F:Fr h₀ L s.heap m) (N:News h₀ L s.heap news) (ho:s.heap.get? a=some (seqObj "list" vs.toArray n)) (haL:a≠L) (ha0:h₀.get? a=none) (hna:∀ p∈news,p.1≠a)
  (h2:2≤vs.length) (hz:vs.length≤sizeLine) (nd:vs.Nodup)
  (h:∀ e1 h',Fr h₀ L h' m→News h₀ L h' ((a,seqObj "list" #[] e1)::news)→
   Need prog w A vs { s with heap:=h' } fun p=>PySem.W.KasFin h₀ L m a e1 (p.map fun i=>vs.getD i Value.none) (fun s3=>P (.done (.ret .none)) s3) { s with heap:=h' }):
  wpAny (model prog w) A (Builtin.«list.sort» ⟨[.ref a],[]⟩) P E s:=by
 have same:=Heap.SameBut.update s.heap a (Obj.mapSeq fun _=>(#[]:Array Value))
 obtain ⟨e1,ho1⟩:∃ e1,(s.heap.update a (Obj.mapSeq fun _=>(#[]:Array Value))).get? a=some (seqObj "list" #[] e1):=⟨_,get?_update_seq ho fun _=>#[]⟩
 obtain ⟨hp,hhp⟩:∃ hp,hp=((s.heap.update a (Obj.mapSeq fun _=>(#[]:Array Value))).push (seqObj "tuple" vs.toArray 0)).push (seqObj "list" #[] 0):=⟨_,rfl⟩
 have F3:Fr h₀ L hp m:=by rw [hhp];exact ((PySem.W.kas_fr F same haL ha0).push _).push _
 have N3:News h₀ L hp ((a,seqObj "list" #[] e1)::news):=by
  rw [hhp]
  intro p hp
  rcases List.mem_cons.mp hp with rfl | hp
  ·exact ⟨Heap.get?_push_of_some _ (Heap.get?_push_of_some _ ho1),haL,ha0⟩
  ·exact (PySem.W.kas_news N same hna).grown (fun b x e=>Heap.get?_push_of_some _ (Heap.get?_push_of_some _ e)) p hp
 obtain ⟨κ,lt,S,hκ,hlt,hfin⟩:=(h e1 hp F3 N3).need
 rw [list_sort_plain]
 refine wpAny_bind (listItems_at ho rfl ?_)
 refine wpAny_bind (listUpdate_at ho rfl ?_ (by rw [List.size_toArray];exact hz) (Nat.zero_le _))
 refine wpAny_bind (seqEpoch_at ho1 rfl ?_)
 refine wpAny_bind (wpAny_newTuple ?_ (by show vs.length≤_;exact hz))
 refine wpAny_bind (wpAny_newList ?_ (Nat.zero_le _))
 refine wpAny_holding ?_
 show wpAny (model prog w) A _ P E { s with heap:=((s.heap.update a (Obj.mapSeq fun _=>(#[]:Array Value))).push (seqObj "tuple" vs.toArray 0)).push (seqObj "list" #[] 0) }
 rw [←hhp]
 dsimp only
 have hn2:¬vs.toArray.size < 2:=by rw [List.size_toArray];omega
 rw [if_neg hn2,if_neg hn2]
 refine wpAny_bind (wpAny_mono (hκ (fun k s'=>k=κ∧s'={ s with heap:=hp }) ⟨rfl,rfl⟩) (fun k s0 hk=>?_) fun _ _ x=>x.elim)
 obtain ⟨rfl,rfl⟩:=hk
 have pz:(pairsOf vs).size=vs.length:=pairsOf_size vs
 have C:Cmp prog w A { s with heap:=hp } k (rkv lt vs) (· ∈(pairsOf vs).toList):=fun x y hx hy Q q=>by
  rw [pairs_map] at hx hy
  obtain ⟨i,hi,rfl⟩:=List.mem_map.mp hx
  obtain ⟨j,hj,rfl⟩:=List.mem_map.mp hy
  have hi:=List.mem_range.mp hi
  have hj:=List.mem_range.mp hj
  rw [rkv_at nd hi,rkv_at nd hj,rk_dec S hi hj] at q
  exact hlt i j hi hj Q q
 have rm:(pairsOf vs).toList.map (rkv lt vs)=(List.range vs.length).map (rk lt vs.length):=by
  rw [pairs_map,List.map_map]
  exact List.map_congr_left fun i hi=>rkv_at nd (List.mem_range.mp hi) _
 have ndr:((pairsOf vs).toList.map (rkv lt vs)).Nodup:=by
  rw [rm,List.Nodup,List.pairwise_map]
  exact (List.nodup_range (n:=vs.length)).imp_of_mem fun hi hj ne e=>ne (rk_inj S (List.mem_range.mp hi) (List.mem_range.mp hj) e)
 have run:=wpS_runs (E:=E) (a₀:=pairsOf vs) (st:=SortSt.mk' k (pairsOf vs) #[] 7 none) (Q:=fun _ st'=>Iv k (pairsOf vs) st'∧Son (rkv lt vs) (arrOf st') 0 (pairsOf vs).size) C ndr ⟨Array.Perm.refl _,rfl,rfl⟩ (by rw [pz];omega) rfl fun st' V sn=>⟨V,sn⟩
 refine wpAny_bind (wpAny_mono run ?_ fun _ _ e=>e)
 rintro ⟨⟨⟩,st'⟩ s' ⟨rfl,V,sn⟩
 dsimp only
 obtain ⟨p,pp,pe⟩:=perm_map_inv (Array.perm_iff_toList_perm.mp V.perm) _ (pairs_map vs)
 have plt:∀ i∈p,i < vs.length:=fun i hi=>List.mem_range.mp (pp.mem_iff.mp hi)
 have pl:p.length=vs.length:=by rw [pp.length_eq,List.length_range]
 have up:p.Pairwise fun i j=>lt i j=true:=by
  rw [List.pairwise_iff_getElem]
  intro i j hi hj hij
  have ei:∀ x (hx:x < p.length),rkv lt vs (it (arrOf st') x)=rk lt vs.length p[x]:=fun x hx=>by
   have hx':x < (arrOf st').size:=by rw [V.size,pz,←pl];exact hx
   rw [it_eq hx',←Array.getElem_toList hx']
   have e:(arrOf st').toList[x]'(by simpa using hx')=(vs.getD p[x] Value.none,vs.getD p[x] Value.none):=by
    rw [List.getElem_of_eq pe,List.getElem_map]
   rw [e,rkv_at nd (plt _ (List.getElem_mem hx))]
  have:=sn i j (Nat.zero_le _) (by omega) (by rw [pz,←pl];exact hj)
  rw [ei i hi,ei j hj] at this
  have a1:=plt _ (List.getElem_mem hi)
  have a2:=plt _ (List.getElem_mem hj)
  have pn:p.Nodup:=pp.nodup_iff.mpr List.nodup_range
  have ne:p[i]≠p[j]:=fun e=>by have:=(List.getElem_inj pn).mp e;omega
  cases e:lt p[i] p[j] with
  | true=>rfl
  | false=>have:=rk_lt S a2 a1 (S.tot _ _ a1 a2 ne e);omega
 obtain ⟨news',g,F',N',U,kk⟩:=hfin p pp up
 obtain ⟨pre,post,e0,hg,x1,x2⟩:=U.split
 rw [e0] at N'
 have na:=N' (a,seqObj "list" #[] e1) (List.mem_append_right _ (.head _))
 have hout:(arrOf st').map (·.2)=List.toArray (p.map fun i=>vs.getD i Value.none):=by
  apply Array.toList_inj.mp
  rw [Array.toList_map,pe,List.map_map]
  rfl
 have hsz:(List.toArray (p.map fun i=>vs.getD i Value.none)).size=vs.length:=by rw [List.size_toArray,List.length_map,pl]
 rw [hout]
 have s2:=Heap.SameBut.update hp a (Obj.mapSeq fun _=>List.toArray (p.map fun i=>vs.getD i Value.none))
 obtain ⟨c2,hc2⟩:∃ c2,(hp.update a (Obj.mapSeq fun _=>List.toArray (p.map fun i=>vs.getD i Value.none))).get? a=some (seqObj "list" (List.toArray (p.map fun i=>vs.getD i Value.none)) c2):=⟨_,get?_update_seq na.1 fun _=>List.toArray (p.map fun i=>vs.getD i Value.none)⟩
 refine wpAny_bind (seqEpoch_at na.1 rfl ?_)
 refine wpAny_bind (listUpdate_at na.1 rfl ?_ (Nat.zero_le _) (Nat.le_trans (Nat.le_of_eq hsz) (Nat.le_succ_of_le hz)))
 rw [V.ok]
 simp only [bne_self_eq_false,Bool.false_eq_true,if_false]
 refine wpAny_pure (kk _ c2 (PySem.W.kas_fr F' s2 na.2.1 na.2.2) ?_)
 rw [hg]
 exact PySem.W.news_set N' x1 x2 s2 hc2
theorem sorted_big {l:Addr} {Q:Value→Shared→Prop} (F:Fr h₀ L s.heap m) (N:News h₀ L s.heap news) (hl:Col prog w s l vs) (h2:2≤vs.length) (hz:vs.length≤sizeLine) (nd:vs.Nodup)
  (h:∀ D e1 h',Fr h₀ L h' m→News h₀ L h' ((D,seqObj "list" #[] e1)::news)→(∀ q∈news,q.1 < D)→
   Need prog w A.in1.in1 vs { s with heap:=h' } fun p=>PySem.W.KasFin h₀ L m D e1 (p.map fun i=>vs.getD i Value.none) (fun s3=>Q (.ref D) s3) { s with heap:=h' }):
  wpAny (model prog w) A (call (.builtin "sorted") [.ref l]) Q E s:=by
 refine Calls.call_function_entry kind_sorted plain_sorted entry_sorted (args_sorted1 _) ?_
 unfold Builtin.«sorted»
 refine wpAny_bind (m:=checkCount "sorted" 1 1 _) (wpAny_pure ?_)
 refine wpAny_bind (hl _ _ _ ?_)
 refine wpAny_bind (wpAny_newList ?_ hz)
 have hsz:((s.heap.push (seqObj "list" #[] 0)).update s.heap.objs.size (Obj.mapSeq (· ++vs.toArray))).objs.size=s.heap.objs.size + 1:=by
  rw [Heap.size_update,size_push']
 have hoL:(((s.heap.push (seqObj "list" #[] 0)).update s.heap.objs.size (Obj.mapSeq (· ++vs.toArray))).push (seqObj "list" vs.toArray 0)).get? (s.heap.objs.size + 1)=some (seqObj "list" vs.toArray 0):=by
  rw [←hsz];exact Heap.get?_push_size _ rfl
 have keep:∀ b o,s.heap.get? b=some o→(((s.heap.push (seqObj "list" #[] 0)).update s.heap.objs.size (Obj.mapSeq (· ++vs.toArray))).push (seqObj "list" vs.toArray 0)).get? b=some o:=fun b o q=>by
  have hlt:b < s.heap.objs.size:=Heap.lt_size q
  rw [Heap.get?_push_ne _ _ _ (by rw [hsz];exact Nat.ne_of_lt (Nat.lt_succ_of_lt hlt)),Heap.get?_update_ne _ _ _ _ (Nat.ne_of_lt hlt),Heap.get?_push_ne _ _ _ (Nat.ne_of_lt hlt)]
  exact q
 have hL:L < s.heap.objs.size:=F.ns.lt
 show wpAny _ _ _ _ _ { s with heap:=((s.heap.push (seqObj "list" #[] 0)).update s.heap.objs.size (Obj.mapSeq (· ++vs.toArray))).push (seqObj "list" vs.toArray 0) }
 rw [hsz]
 refine wpAny_bind (wpAny_holding (wpAny_call_entry slot_list_sort ⟨_,hoL,rfl⟩ entry_list_sort ?body (args_list_sort _)))
 case body=>
  refine big_list_sort (s:={ s with heap:=((s.heap.push (seqObj "list" #[] 0)).update s.heap.objs.size (Obj.mapSeq (· ++vs.toArray))).push (seqObj "list" vs.toArray 0) })
   (F.kept keep) (N.grown keep) hoL (Nat.ne_of_gt (Nat.lt_succ_of_lt hL)) (Heap.get?_none_of_le (Nat.le_trans F.above (Nat.le_succ_of_le (Nat.le_of_lt hL))))
   (fun p hp=>Nat.ne_of_lt (Nat.lt_succ_of_lt (Heap.lt_size (N p hp).1))) h2 hz nd fun e1 h' F' N'=>?_
  obtain ⟨κ,lt,S,hκ,hlt,hfin⟩:=(h _ e1 h' F' N' fun q hq=>Nat.lt_succ_of_lt (Heap.lt_size (N q hq).1)).need
  exact ⟨κ,lt,S,hκ,hlt,fun p pp up=>(hfin p pp up).mono fun s3 hq=>⟨_,rfl,wpAny_pure ⟨_,rfl,hq⟩⟩⟩
end
end TS
namespace L2
open PySem PySem.Spec PyProof.Rows
section
variable {X:Cx}
end
section
variable {H:Hp} {Q:VK} {K:PySem.W.Frag}
end
end L2
namespace L2
open PySem PySem.Spec PyProof.Rows
theorem keys_no:typeLookup (.type "list") "keys"=pure none:=by rw [typeLookup_type,builtinLookup_eq_fast];kernel_rfl
theorem get_keys {prog:Program} {w:World} {A:Around} {E:Value→Shared→Prop} {s:Shared} {a:Addr} {o:Obj} {xs:Array Value} {k:Nat} {Q:Option Value→Shared→Prop}
  (hx:s.heap.get? a=some o) (hc:o.cls=.type "list") (hdat:o.data=.seq xs k) (hd:o.dict=none) (hA:A.handled=none)
  (h:∀ h' tk,(∀ b u,s.heap.get? b=some u→h'.get? b=some u)→Q none { s with heap:=h',toks:=tk }):
  wpAny (model prog w) A (getAttr? (.ref a) "keys") Q E s:=by
 obtain ⟨c,dct,dat,sl⟩:=o
 dsimp only at hc hdat hd
 subst hc hdat hd
 obtain ⟨hp,g,d,tk,os⟩:=s
 have hT:∀ tk',(⟨hp,g,d,tk',os⟩:Shared).TypeIs (.ref a) "list":=fun _=>⟨_,hx,rfl⟩
 have z1:=sub_AttributeError
 have z3:=F.slot_list_getattribute.lookup
 have z4:=F.slot_list_getattribute.bind (.ref a)
 have z5:=am_list_getattr_none
 unfold getAttr? getAttrBy? getAttrBy
 repeat (any_goals (first | assumption | exact hT _ | ((with_reducible show wpAny _ _ (call (Value.builtin "list.__getattribute__") _ _) _ _ _);refine call_meets F.slot_list_getattribute (hT _) am_entry_list_getattribute (F.args_list_getattribute_2 _ _) (meets_getattribute_miss_list a xs k sl "keys" _ keys_no rfl (by size_fits)) ⟨hx,hA,fun h' tk' e hx'=>?_⟩) | wp_step))
 obtain ⟨t1,u1,he⟩:=hx'.there
 show wpAny _ _ (getattributeRaised _ _ _ _ _ _ _) _ _ _
 unfold getattributeRaised
 repeat (any_goals (first | assumption | wp_step))
 exact h _ _ hx'.keeps
theorem entry_dul:entryFor table "dict.update.loop"=some Builtin.«dict.update.loop»:=entryFor_of_tree (by kernel_rfl)
theorem plain_dul:plainId "dict.update.loop"=true:=by decide +kernel
noncomputable def dput (kvs:List (List Key×V)) (p:List Key×V):List (List Key×V):=putK kvs p.1 p.2
noncomputable def dall (prs:List (List Key×V)):List (List Key×V):=prs.foldl dput []
noncomputable def PrL (H:Hp) (xs:List V) (prs:List (List Key×V)):Prop:=prs.length=xs.length∧∀ (j:Nat) (x:V),xs[j]? =some x→∃ a b p,x=.ref a∧prs[j]? =some p∧H a=some (.tup [.ref b,p.2])∧H b=some (.tup (p.1.map kV))
theorem dput_len (kvs:List (List Key×V)) (p:List Key×V):(dput kvs p).length≤kvs.length + 1:=length_putK kvs p.1 p.2
theorem dfold_len:∀ (prs kvs:List (List Key×V)),(prs.foldl dput kvs).length≤kvs.length + prs.length
 | [],kvs=>Nat.le_refl _
 | p::prs,kvs=>by
  have:=dfold_len prs (dput kvs p)
  have:=dput_len kvs p
  rw [List.foldl_cons,List.length_cons]
  omega
theorem dall_len (prs:List (List Key×V)):(dall prs).length≤prs.length:=by
 have:=dfold_len prs []
 simpa [dall] using this
theorem dall_next {prs:List (List Key×V)} {j:Nat} {p:List Key×V} (h:prs[j]? =some p):dall (prs.take (j + 1))=putK (dall (prs.take j)) p.1 p.2:=by
 unfold dall
 rw [List.take_add_one,h,List.foldl_append]
 rfl
section
variable {X:Cx} {pins:List (Addr×Obj)} {σ:St}
theorem dul_loop {D l It:Addr} {H0:Hp} {xs:List V} {prs:List (List Key×V)} {R:Result→Shared→Prop} {A:Around} (hh:A.handled=none) (hu:A.units + 1 < cLine) (hl:H0 l=some (.lst xs)) (hP:PrL H0 xs prs) (hD:H0 D=none) (hz:xs.length < sizeLine)
  (oI:Ow X pins It)
  (hR:∀ (s:Shared),Inv X pins σ (upd H0 D (.dT (dall prs))) s→R (.ok (.ret .none)) s):
  ∀ (r j:Nat) (s:Shared) (ob:Obj) (i:Int) (t:Tok),xs.length - j=r→j≤xs.length→Inv X ((It,ob)::pins) σ (upd H0 D (.dT (dall (prs.take j)))) s→s.heap.IsListIter It l j→
   codeAny (model X.prog X.w) A (.builtin "dict.update.loop" ⟨[.ref D,.ref It,.int i t,.none],[]⟩) R s:=by
 have hlD:l≠D:=ne_of_none hl hD
 intro r
 induction r with
 | zero=>
  intro j s ob i t hr hj I hit
  have hin:j=xs.length:=by omega
  subst hin
  obtain ⟨its,rv,pl,_⟩:=I.list (SqL.of (K:=X.K) (show upd H0 D _ l=some (.lst xs) by rw [upd_ne hlD];exact hl))
  have lenI:its.length=xs.length:=rv.length.symm
  have hlI:l≠It:=fun z=>by
   have:=(I.pin (It,ob) (List.mem_append_right _ List.mem_cons_self)).2.1
   rw [←z,upd_ne hlD,hl] at this;cases this
  have Wk:=Walks.list (prog:=X.prog) (w:=X.w) (A:=A.in1) hh It l hlI its.toArray
  refine codeAny_builtin entry_dul ?_
  rw [Around.under_plainId plain_dul _]
  show wpAny _ A.in1 (pyNext (.ref It) >>=_) _ _ _
  refine wpAny_bind (Wk.done _ _ _ ⟨by rw [List.size_toArray,lenI];exact hit,pl.isList⟩ fun h' tk' hk'=>?_)
  have hk:∀ b u,b≠It→s.heap.get? b=some u→h'.get? b=some u:=fun b u hb e=>hk' b u (by simpa using hb) e
  have I1:Inv X pins σ (upd H0 D (.dT (dall (prs.take xs.length)))) s:=I.pins_of fun p hp=>I.pin p (List.mem_append_right _ (List.mem_cons_of_mem _ hp))
  have I2:=I1.turned (h':=h') (t':=tk') hk (I.pin (It,ob) (List.mem_append_right _ List.mem_cons_self)).2.1 oI.loc oI.new oI.cel oI.pin
  rw [←hP.1,List.take_length] at I2
  show wpAny _ A.in1 (Builtin.Dict.addKeywords D [] >>=_) _ _ _
  exact wpAny_bind (wpAny_pure (wpAny_pure (hR _ I2)))
 | succ r ih=>
  intro j s ob i t hr hj I hit
  have hlt':j < xs.length:=by omega
  obtain ⟨its,rv,pl,_⟩:=I.list (SqL.of (K:=X.K) (show upd H0 D _ l=some (.lst xs) by rw [upd_ne hlD];exact hl))
  have lenI:its.length=xs.length:=rv.length.symm
  have hlI:l≠It:=fun z=>by
   have:=(I.pin (It,ob) (List.mem_append_right _ List.mem_cons_self)).2.1
   rw [←z,upd_ne hlD,hl] at this;cases this
  have Wk:=Walks.list (prog:=X.prog) (w:=X.w) (A:=A.in1) hh It l hlI its.toArray
  refine codeAny_builtin entry_dul ?_
  rw [Around.under_plainId plain_dul _]
  show wpAny _ A.in1 (pyNext (.ref It) >>=_) _ _ _
  refine wpAny_bind (Wk.item j _ _ _ (by rw [List.size_toArray,lenI];exact hlt') ⟨hit,pl.isList⟩ fun v h' tk' hP' hst' hk'=>?_)
  have hv:its[j]? =some v:=by simpa using hP'
  obtain ⟨x,hx⟩:∃ x,xs[j]? =some x:=⟨_,List.getElem?_eq_getElem hlt'⟩
  have rx:RelV x v:=by
   obtain ⟨u,hu,ru⟩:=rv.get hx
   rw [hv] at hu;cases hu;exact ru
  obtain ⟨oI',hoI',hoc,hod⟩:=id hst'.1
  have hk:∀ b u,b≠It→s.heap.get? b=some u→h'.get? b=some u:=fun b u hb e=>hk' b u (by simpa using hb) e
  have I1:Inv X ((It,oI')::pins) σ (upd H0 D (.dT (dall (prs.take j)))) { s with heap:=h',toks:=tk' }:=
   Inv.repin (p1:=[]) I oI hk hoI' (fun v z=>by rw [hod] at z;cases z)
  obtain ⟨a,b,p,rfl,ep,ha,hb⟩:=hP.2 j x hx
  obtain rfl:v=Value.ref a:=rx
  have haD:a≠D:=ne_of_none ha hD
  have hbD:b≠D:=ne_of_none hb hD
  have ha1:upd H0 D (.dT (dall (prs.take j))) a=some (.tup [.ref b,p.2]):=by rw [upd_ne haD];exact ha
  have hb1:upd H0 D (.dT (dall (prs.take j))) b=some (.tup (p.1.map kV)):=by rw [upd_ne hbD];exact hb
  obtain ⟨zs,rz,⟨ot,g1,g2,n,g3⟩,_⟩:=I1.tuple (SqT.of (K:=X.K) ha1)
  obtain ⟨u1,u2,rfl,r1,r2⟩:=Vals.two rz
  obtain rfl:u1=Value.ref b:=r1
  refine wpAny_bind (wpAny_holding ?_)
  refine wpAny_bind (wpAny_tryCatch ?_)
  unfold Builtin.Dict.pairItems
  refine wpAny_bind (wpAny_typeOf ⟨ot,g1,g2⟩ ?_)
  rw [if_pos (by decide)]
  refine wpAny_bind (wpAny_seqItems g1 g3 ?_)
  refine wpAny_pure ?_
  show wpAny _ _ (holding [.ref b,u2] (dictSet D (.ref b) u2)) _ _ _
  refine wpAny_holding ?_
  obtain ⟨z0,hd,ks,rel,dd⟩:=dt_of I1.hok (a:=D) (kvs:=dall (prs.take j)) upd_same
  have hz2:ks.length≤sizeLine:=by rw [←Paired.length rel];exact z0
  have hl2:(dall (prs.take j)).length < sizeLine:=by
   have:=dall_len (prs.take j)
   rw [List.length_take] at this
   omega
  have hl:(putK (dall (prs.take j)) p.1 p.2).length≤sizeLine:=by have:=length_putK (dall (prs.take j)) p.1 p.2;omega
  refine wpAny_dictSet_heap (hsz:=hz2) (tupleKind_room_in1 hu) (key_of I1.hok hb1) dd fun h2 dd' hs=>?_
  obtain ⟨q,es,ep2,hq,e2,e3,e4,_,e5⟩:=dd'
  have I2:=d_write (ob:=.dT (putK (dall (prs.take j)) p.1 p.2)) I1 (a:=D) (by rw [upd_same];exact True.intro) hs ⟨q,hq⟩ ⟨hl,hd,_,(rel.put p.1 hb1 r2).keeps fun c ys ec=>by
   rw [upd_ne (ne_of ec upd_same (fun z=>nomatch z))]
   exact ec,q,es,ep2,hq,e2,e3,e4,e5⟩ (t':=tk' + (tupleKind (mixKind X.prog X.w)).draws p.1)
  rw [upd_upd,←dall_next ep] at I2
  have nI:=(I2.pin (It,oI') (List.mem_append_right _ List.mem_cons_self)).1
  exact wpAny_pure ⟨plainId_quiet plain_dul _,ih (j + 1) _ oI' (i + 1) _ (by omega) hlt' I2 ⟨oI',nI,hoc,hod⟩⟩
end
noncomputable def rDictL (K:PySem.W.Frag):List V→Hp→VK→Prop:=fun xs H Q=>∃ (p:Addr) (vs:List V) (prs:List (List Key×V)),xs=[.ref p]∧H p=some (.lst vs)∧PrL H vs prs∧vs.length < sizeLine∧∀ d,H d=none→Q (.ref d) (upd H d (.dT (dall prs)))
section
variable {X:Cx}
theorem call_dictL (hc:X.calm=true) (hu:X.A.units + 64 < cLine):CallR X (.type "dict") (rDictL X.K):=by
 intro pins s σ H xs us Q I r h
 obtain ⟨p,vs,prs,rfl,hl,hP,hz,q⟩:=h
 obtain ⟨u,rfl,rx⟩:=Vals.one r
 cases (show u=Value.ref p from rx)
 have hD0:H s.heap.objs.size=none:=I.hok.fresh (Nat.le_refl _)
 have hhd:X.A.handled=none:=I.ok.hd hc
 refine callType_codes (Q₁:=fun obj s₁=>obj=.ref s.heap.objs.size∧s₁=({ s with heap:=s.heap.push { cls:=.type "dict",data:=.dict #[] } }:Shared)) PySem.F.kt_called_dict (PySem.F.kt_typeCall_dict_1 _) PySem.F.entry_dict_init (kt_code_dict_new _ ⟨rfl,rfl⟩) ?_
 rintro obj s₁ ⟨rfl,rfl⟩
 have I1:Inv X pins σ (upd H s.heap.objs.size (.dT [])) { s with heap:=s.heap.push { cls:=.type "dict",data:=.dict #[] },toks:=s.toks }:=I.laid (a:=s.heap.objs.size) (o:=.dT []) (t':=s.toks) (fun _ _ z=>Heap.get?_push_of_some _ z) (Nat.le_refl _) (dt_empty s.heap I.big)
 generalize hD:s.heap.objs.size=D at *
 have hlD:p≠D:=ne_of_none hl hD0
 obtain ⟨_,_,ks,_,dd⟩:=dt_of I1.hok (a:=D) (kvs:=[]) upd_same
 refine ⟨dd.typeIs,PySem.F.args_dict_init_2 _ _,?_⟩
 unfold Builtin.«dict.__init__»;refine wpAny_bind ?_;unfold Builtin.Dict.selfAndRest;refine wpAny_bind (wpAny_notOrdered_dict dd.typeIs ?_)
 refine wpAny_pure ?_
 show wpAny _ _ (Builtin.Dict.updateFrom "dict.__init__" D (.ref p) [] .none) _ _ _
 unfold Builtin.Dict.updateFrom;obtain ⟨its,rv,pl,_⟩:=I1.list (SqL.of (K:=X.K) (show upd H D _ p=some (.lst vs) by rw [upd_ne hlD];exact hl))
 obtain ⟨ol,n,g1,g2,g3,g4⟩:=id pl
 refine wpAny_bind (wpAny_typeOf ⟨ol,g1,g2⟩ ?_)
 rw [if_pos (by decide)]
 refine wpAny_bind (get_keys g1 g2 g4 g3 hhd fun h2 tk2 hk2=>?_)
 rw [if_pos (show (none:Option Value).isNone=true from rfl)]
 refine wpAny_bind (wpAny_rule ?_)
 have I2:Inv X pins σ (upd H D (.dT [])) { s with heap:=h2,toks:=tk2 }:=I1.kept (t':=tk2) hk2
 obtain ⟨its2,rv2,pl2,_⟩:=I2.list (SqL.of (K:=X.K) (show upd H D _ p=some (.lst vs) by rw [upd_ne hlD];exact hl))
 refine wpAny_bind (wpAny_pyIter_list pl2.isList ?_)
 refine wpAny_pure ⟨plainId_quiet plain_dul _,?_⟩
 have gI:(h2.push { cls:=.type "list_iterator",data:=.fields #[.ref p,.int 0 0] }).get? h2.objs.size=some { cls:=.type "list_iterator",data:=.fields #[.ref p,.int 0 0] }:=Heap.get?_push_size _ rfl
 have oI0:Ow X pins h2.objs.size:=I2.ow (Nat.le_refl _)
 have I3:Inv X ((h2.objs.size,{ cls:=.type "list_iterator",data:=.fields #[.ref p,.int 0 0] })::pins) σ (upd H D (.dT [])) { s with heap:=h2.push { cls:=.type "list_iterator",data:=.fields #[.ref p,.int 0 0] },toks:=tk2 }:=
  I2.pinNew (I2.kept (t':=tk2) fun b o e=>Heap.get?_push_of_some _ e) gI (Nat.le_refl _) (I2.hok.fresh (Nat.le_refl _)) fun v z=>by cases z
 exact dul_loop (H0:=H) (prs:=prs) (A:=X.A.in1) hhd (show X.A.units + 1 + 1 < cLine by omega) hl hP hD0 hz oI0 (fun s' I'=>⟨rfl,.ref D,_,I',rfl,q D hD0⟩) vs.length 0 _ _ 0 0 (by omega) (Nat.zero_le _) I3 ⟨_,gI,rfl,rfl⟩
theorem k_dictL (K:PySem.W.Frag) (hu:X.A.units + 64 < cLine) (hc:X.calm=true:=by rfl) (h:X.K=K:=by rfl):CallR X (.type "dict") (rDictL K):=h▸call_dictL hc hu
end
end L2
namespace L2
open PySem PySem.Spec PyProof.Rows
noncomputable def TupsAt (H:Hp) (h:Heap):Prop:=∀ a xs,H a=some (.tup xs)→∃ its,Vals xs its∧IsTup h a its.toArray
section
variable {H:Hp} {h:Heap}
mutual
theorem Is.readsT (T:TupsAt H h):∀ {v:V} {d:PyData} {u:Value},Is H v d→noL d=true→RelV v u→∃ as,Reads h u d as
 | _,_,_,.non,_,r=>by cases (show _=Value.none from r);exact ⟨_,.none⟩
 | _,_,_,.bl b,_,r=>by cases (show _=Value.bool b from r);exact ⟨_,.bool b⟩
 | _,_,_,.int i,_,r=>by obtain ⟨t,rfl⟩:=r;exact ⟨_,.int i t⟩
 | _,_,_,.str x,_,r=>by obtain ⟨t,rfl⟩:=r;exact ⟨_,.str x t⟩
 | _,_,_,.tup (a:=a) e hs,hn,r=>by
  cases (show _=Value.ref a from r)
  obtain ⟨its,rv,⟨o,h1,h2,n,h3⟩⟩:=T _ _ e
  obtain ⟨as,ra⟩:=IsAll.readsT T hs (by simpa [noL] using hn) rv
  exact ⟨_,.tuple h1 h2 h3 (by simpa using ra)⟩
 | _,_,_,.lst e hs,hn,r=>by cases hn
theorem IsAll.readsT (T:TupsAt H h):∀ {vs:List V} {ds:List PyData} {us:List Value},IsAll H vs ds→noLs ds=true→Vals vs us→∃ as,ReadsAll h us ds as
 | _,_,_,.nil,_,.nil=>⟨_,.nil⟩
 | _,_,_,.cons h1 t1,hn,.cons r1 q1=>by
  rw [noLs,Bool.and_eq_true] at hn
  obtain ⟨as,ra⟩:=Is.readsT T h1 hn.1 r1
  obtain ⟨bs,rb⟩:=IsAll.readsT T t1 hn.2 q1
  exact ⟨_,.cons ra rb⟩
end
mutual
theorem Is.fn:∀ {v:V} {d e:PyData},noL d=true→noL e=true→Is H v d→Is H v e→d=e
 | _,_,_,_,_,.non,.non=>rfl
 | _,_,_,_,_,.bl _,.bl _=>rfl
 | _,_,_,_,_,.int _,.int _=>rfl
 | _,_,_,_,_,.str _,.str _=>rfl
 | _,_,_,n1,n2,.tup e1 h1,.tup e2 h2=>by
  rw [e1] at e2
  cases e2
  rw [IsAll.fn (by simpa [noL] using n1) (by simpa [noL] using n2) h1 h2]
 | _,_,_,n1,n2,.tup e1 h1,.lst e2 h2=>by cases n2
 | _,_,_,n1,n2,.lst e1 h1,_=>by cases n1
theorem IsAll.fn:∀ {vs:List V} {ds es:List PyData},noLs ds=true→noLs es=true→IsAll H vs ds→IsAll H vs es→ds=es
 | _,_,_,_,_,.nil,.nil=>rfl
 | _,_,_,n1,n2,.cons h1 t1,.cons h2 t2=>by
  rw [noLs,Bool.and_eq_true] at n1 n2
  rw [Is.fn n1.1 n2.1 h1 h2,IsAll.fn n1.2 n2.2 t1 t2]
end
end
section
variable {H:Hp} {s:Shared}
theorem ltDs_okT (T:TupsAt H s.heap) {A:Around} {k:Nat} (hA:A.units + k + 3 < cLine) (one:∀ (d e:PyData) (x y:V) (u v:Value),Is H x d→Is H y e→RelV x u→RelV y v→cmpD d e=true→d.canLay0=true→e.canLay0=true→noL d=true→noL e=true→d.depth≤k→RcLt A.in1 s u v (ltD d e)):
  ∀ (ds es:List PyData) (xs ys:List V) (us vs:List Value),IsAll H xs ds→IsAll H ys es→Vals xs us→Vals ys vs→cmpDs ds es=true→PyData.canLayAll0 ds=true→PyData.canLayAll0 es=true→noLs ds=true→noLs es=true→PyData.depthAll ds≤k→LtAt A.in1 s us vs (ltDs ds es):=by
 intro ds
 induction ds with
 | nil=>
  intro es xs ys us vs h1 h2 r1 r2 hc o1 o2 _ _ hz
  cases h1
  cases r1
  cases es with
  | nil=>cases h2;cases r2;exact .nn
  | cons e es=>cases h2 with | cons _ _=>cases r2 with | cons _ _=>exact .nc
 | cons d ds ih=>
  intro es xs ys us vs h1 h2 r1 r2 hc o1 o2 n1 n2 hz
  cases h1 with
  | cons i1 t1=>
  cases r1 with
  | cons q1 s1=>
  cases es with
  | nil=>cases h2;cases r2;exact .cn
  | cons e es=>
   cases h2 with
   | cons i2 t2=>
   cases r2 with
   | cons q2 s2=>
   rw [PyData.canLayAll0,Bool.and_eq_true] at o1 o2
   rw [noLs,Bool.and_eq_true] at n1 n2
   rw [PyData.depthAll] at hz
   have hd1:d.depth≤k:=Nat.le_trans (Nat.le_max_left _ _) hz
   have hd2:PyData.depthAll ds≤k:=Nat.le_trans (Nat.le_max_right _ _) hz
   obtain ⟨as,ra⟩:=i1.readsT T n1.1 q1
   obtain ⟨bs,rb⟩:=i2.readsT T n2.1 q2
   have he:=SeqAt.eqAt_reads d e A.in1 s _ _ as bs ra rb o1.1 o2.1 (by show A.units + 1 + _ < _;omega)
   rw [cmpDs] at hc
   rw [ltDs]
   by_cases g:PyData.eqv d e=true
   ·rw [if_pos g] at hc ⊢
    rw [g] at he
    exact .eq he (ih es _ _ _ _ t1 t2 s1 s2 hc o1.2 o2.2 n1.2 n2.2 hd2)
   ·rw [if_neg g] at hc ⊢
    rw [Bool.not_eq_true] at g
    rw [g] at he
    exact .ne he (one d e _ _ _ _ i1 i2 q1 q2 hc o1.1 o2.1 n1.1 n2.1 hd1)
theorem ltD_okT (T:TupsAt H s.heap):∀ (k:Nat) (d e:PyData) (x y:V) (u v:Value) (A:Around),Is H x d→Is H y e→RelV x u→RelV y v→cmpD d e=true→d.canLay0=true→e.canLay0=true→noL d=true→noL e=true→d.depth≤k→A.units + k + 2 < cLine→RcLt A s u v (ltD d e):=by
 intro k
 induction k with
 | zero=>
  intro d e x y u v A hx hy ru rv hc od oe _ _ hk hA
  rcases cmp_shape hc with ⟨i,j,rfl,rfl⟩ | ⟨ds,es,rfl,rfl,_⟩
  ·exact lt_int_ok hx hy ru rv
  ·rw [dep_tup] at hk
   exact absurd hk (Nat.not_succ_le_zero _)
 | succ k ih=>
  intro d e x y u v A hx hy ru rv hc od oe nd ne hk hA
  rcases cmp_shape hc with ⟨i,j,rfl,rfl⟩ | ⟨ds,es,rfl,rfl,hcs⟩
  ·exact lt_int_ok hx hy ru rv
  ·rw [dep_tup] at hk
   cases hx with
   | tup ea ha=>
   cases hy with
   | tup eb hb=>
   obtain rfl:=(show u=Value.ref _ from ru)
   obtain rfl:=(show v=Value.ref _ from rv)
   obtain ⟨its,r1,p1⟩:=T _ _ ea
   obtain ⟨its2,r2,p2⟩:=T _ _ eb
   rw [ltD]
   rw [PyData.canLay0] at od oe
   rw [noL] at nd ne
   refine lt_tup p1 p2 (by omega) (ltDs_okT (k:=k) T (by omega) (fun d e x y u v h1 h2 h3 h4 h5 h6 h7 h9 h10 h8=>ih d e x y u v A.in1 h1 h2 h3 h4 h5 h6 h7 h9 h10 h8 (by show A.units + 1 + k + 2 < _;omega)) ds es _ _ _ _ ha hb r1 r2 hcs od oe nd ne (Nat.le_of_succ_le_succ hk))
theorem katD {prog:Program} {w:World} {A:Around} (T:TupsAt H s.heap) (hA:A.units + 50 < cLine) {b:Bool} {Q:Bool→Shared→Prop}:
  ∀ (ds es:List PyData) (xs ys:List V) (us vs:List Value) (i:Nat),IsAll H xs ds→IsAll H ys es→Vals xs us→Vals ys vs→cmpDs ds es=true→PyData.canLayAll0 ds=true→PyData.canLayAll0 es=true→noLs ds=true→noLs es=true→PyData.depthAll ds≤40→
   (i=0→∀ d e dr er,ds=d::dr→es=e::er→(∃ m n,d=.int m∧e=.int n)∨PyData.eqv d e=true)→Q (ltDs ds es) s→PySem.W.KatLex prog w A b (decide (ds.length < es.length)) Q (us.zip vs) i s:=by
 intro ds
 induction ds with
 | nil=>
  intro es xs ys us vs i h1 h2 r1 r2 hc o1 o2 _ _ hz hh q
  cases h1
  cases r1
  cases es with
  | nil=>cases h2;cases r2;exact q
  | cons e es=>cases h2 with | cons _ _=>cases r2 with | cons _ _=>exact q
 | cons d ds ih=>
  intro es xs ys us vs i h1 h2 r1 r2 hc o1 o2 n1 n2 hz hh q
  cases h1 with
  | cons i1 t1=>
  cases r1 with
  | cons q1 s1=>
  cases es with
  | nil=>cases h2;cases r2;exact q
  | cons e es=>
   cases h2 with
   | cons i2 t2=>
   cases r2 with
   | cons q2 s2=>
   rw [PyData.canLayAll0,Bool.and_eq_true] at o1 o2
   rw [noLs,Bool.and_eq_true] at n1 n2
   rw [PyData.depthAll] at hz
   have hd1:d.depth≤40:=Nat.le_trans (Nat.le_max_left _ _) hz
   have hd2:PyData.depthAll ds≤40:=Nat.le_trans (Nat.le_max_right _ _) hz
   obtain ⟨as,ra⟩:=i1.readsT T n1.1 q1
   obtain ⟨bs,rb⟩:=i2.readsT T n2.1 q2
   have he:=SeqAt.eqAt_reads d e A s _ _ as bs ra rb o1.1 o2.1 (by omega)
   rw [cmpDs] at hc
   rw [ltDs] at q
   rw [List.zip_cons_cons]
   refine PySem.W.kat_cons (he prog w _ _ ?_)
   by_cases g:PyData.eqv d e=true
   ·rw [if_pos g] at hc q
    rw [g]
    have:=ih es _ _ _ _ (i + 1) t1 t2 s1 s2 hc o1.2 o2.2 n1.2 n2.2 hd2 (fun z=>by omega) q
    rw [show decide ((d::ds).length < (e::es).length)=decide (ds.length < es.length) by simp]
    exact PySem.W.kat_yes this
   ·rw [if_neg g] at hc q
    rw [Bool.not_eq_true] at g
    rw [g]
    refine PySem.W.kat_no ?_
    have lt:=ltD_okT T 40 d e _ _ _ _ A i1 i2 q1 q2 hc o1.1 o2.1 n1.1 n2.1 hd1 (by omega)
    cases hb:(b&&i==0) with
    | true=>
     have i0:i=0:=by
      rw [Bool.and_eq_true] at hb
      simpa using hb.2
     rcases hh i0 d e ds es rfl rfl with ⟨m,n,rfl,rfl⟩ | z
     ·cases i1
      cases i2
      obtain ⟨t,rfl⟩:=q1
      obtain ⟨t2,rfl⟩:=q2
      rw [ltD] at q
      exact oneLt_int q
     ·rw [g] at z;cases z
    | false=>exact PySem.W.kat_one _ _ (lt prog w _ _ (show PySem.W.BoolBack Q (.bool (ltD d e)) s from q))
end
noncomputable def Heads (ds:List PyData):Prop:=(∀ d∈ds,∃ n r,d=.tuple (.int n::r))∨∃ x,∀ d∈ds,∃ r,d=.tuple (.str x::r)
noncomputable def rSortD (K:PySem.W.Frag):List V→Hp→VK→Prop:=fun xs H Q=>∃ (p:Addr) (vs:List V) (ds:List PyData) (key:PyData→List Int),xs=[.ref p]∧(SqL K H p vs∨SqT K H p vs)∧IsAll H vs ds∧Heads ds∧(∀ d∈ds,okD d∧noL d=true)∧
 (∀ d∈ds,∀ e∈ds,cmpD d e=true∧ltD d e=HT.lexLt (key d) (key e))∧(ds.map key).Nodup∧
 ∀ (l:Addr) (vs':List V) (ds':List PyData),H l=none→IsAll H vs' ds'→ds'.Perm ds→ds'.Pairwise (fun a b=>HT.lexLt (key a) (key b)=true)→Q (.ref l) (upd H l (.lst vs'))
section
variable {X:Cx}
theorem call_sortD (hu:X.A.units + 64 < cLine):CallR X (.builtin "sorted") (rSortD X.K):=by
 intro pins s σ H xs us Q I r h
 obtain ⟨p,vs,ds,key,rfl,hq,ha,hH,hk,hc,hnd,q⟩:=h
 obtain ⟨u,rfl,rx⟩:=Vals.one r
 cases (show u=Value.ref p from rx)
 obtain ⟨its,rv,hl,hz⟩:∃ its,Vals vs its∧Col X.prog X.w s p its∧vs.length≤sizeLine:=by
  rcases hq with hq | hq
  ·obtain ⟨its,rv,pl,hz⟩:=I.list hq
   exact ⟨its,rv,Col.list pl.isList (by rw [←rv.length];exact hz),hz⟩
  ·obtain ⟨its,rv,pl,hz⟩:=I.tuple hq
   exact ⟨its,rv,Col.tup pl (by rw [←rv.length];exact hz),hz⟩
 have e1:vs.length=ds.length:=ha.length
 have e2:its.length=ds.length:=by rw [←rv.length,e1]
 by_cases h2:its.length < 2
 ·refine sorted_few hl h2 fun D h' n hD hkeep ho=>?_
  refine ⟨.ref D,_,I.laid (t':=s.toks) (o:=.lst vs) hkeep hD ⟨hz,its,n,rv,ho⟩,rfl,q D vs ds (I.hok.fresh hD) ha (List.Perm.refl _) ?_⟩
  match ds,e2,h2 with
  | [],_,_=>exact .nil
  | [a],_,_=>exact List.pairwise_singleton _ _
  | a::b::r,e2,h2=>simp at e2;omega
 ·obtain ⟨m,F⟩:=I.fr
  have atD:∀ (i:Nat) (hi:i < ds.length),∃ v u,vs[i]? =some v∧its[i]? =some u∧Is H v ds[i]∧RelV v u:=fun i hi=>by
   obtain ⟨v,ev,iv⟩:=ha.get (i:=i) (d:=ds[i]) (List.getElem?_eq_getElem hi)
   obtain ⟨u,eu,ru⟩:=rv.get ev
   exact ⟨v,u,ev,eu,iv,ru⟩
  have ndi:its.Nodup:=by
   rw [List.Nodup,List.pairwise_iff_getElem]
   intro i j hi hj hij e
   have hi':i < ds.length:=by omega
   have hj':j < ds.length:=by omega
   obtain ⟨v,u,ev,eu,iv,ru⟩:=atD i hi'
   obtain ⟨v',u',ev',eu',iv',ru'⟩:=atD j hj'
   rw [List.getElem?_eq_getElem hi] at eu
   rw [List.getElem?_eq_getElem hj] at eu'
   have ee:u=u':=by rw [←Option.some.inj eu,←Option.some.inj eu',e]
   have tup:∀ (d:PyData) (v:V) (u:Value),d∈ds→Is H v d→RelV v u→∃ a,v=.ref a∧u=.ref a:=fun d v u hd iv ru=>by
    have:∃ r,d=.tuple r:=by
     rcases hH with z | ⟨x,z⟩
     ·obtain ⟨n,r,e⟩:=z d hd
      exact ⟨_,e⟩
     ·obtain ⟨r,e⟩:=z d hd
      exact ⟨_,e⟩
    obtain ⟨r,rfl⟩:=this
    cases iv with
    | tup _ _=>exact ⟨_,rfl,ru⟩
   obtain ⟨a,rfl,rfl⟩:=tup _ _ _ (List.getElem_mem hi') iv ru
   obtain ⟨a',rfl,rfl⟩:=tup _ _ _ (List.getElem_mem hj') iv' ru'
   cases ee
   have ed:=Is.fn (hk _ (List.getElem_mem hi')).2 (hk _ (List.getElem_mem hj')).2 iv iv'
   have:=List.pairwise_iff_getElem.mp hnd i j (by simpa using hi') (by simpa using hj') hij
   simp only [List.getElem_map] at this
   exact this (by rw [ed])
  refine TS.sorted_big F (news:=allNews X.base s.heap X.env.locals) news_all hl (by omega) (by rw [←rv.length];exact hz) ndi fun D e0 h' F' N' hD=>?_
  have hkeep:∀ b o,b≠X.env.locals→s.heap.get? b=some o→h'.get? b=some o:=fun b o hb e=>by
   cases qb:X.base.get? b with
   | some u=>
    have:=I.bk b u qb
    rw [e] at this;cases this
    exact F'.keep b _ qb
   | none=>exact (N' (b,o) (List.mem_cons_of_mem _ (mem_allNews hb qb e))).1
  have TT:TupsAt H ({ s with heap:=h' }:Shared).heap:=fun a xs ea=>by
   obtain ⟨zs,rz,⟨o,h1,h2,n,h3⟩,_⟩:=I.tuple (SqT.of (K:=X.K) ea)
   have hL:a≠X.env.locals:=fun z=>by rw [z,I.free] at ea;cases ea
   exact ⟨zs,rz,o,hkeep a o hL h1,h2,n,h3⟩
  have item:∀ (i:Nat) (hi:i < ds.length),∃ (a:Addr) (xs:List V) (es:List PyData) (o:Obj) (zs:List Value) (n:Nat),its.getD i Value.none=.ref a∧ds[i]=.tuple es∧IsAll H xs es∧h'.get? a=some o∧o.cls=.type "tuple"∧o.data=.seq zs.toArray n∧Vals xs zs:=fun i hi=>by
   obtain ⟨v,u,ev,eu,iv,ru⟩:=atD i hi
   have:∃ r,ds[i]=.tuple r:=by
    rcases hH with z | ⟨x,z⟩
    ·obtain ⟨n,r,e⟩:=z _ (List.getElem_mem hi)
     exact ⟨_,e⟩
    ·obtain ⟨r,e⟩:=z _ (List.getElem_mem hi)
     exact ⟨_,e⟩
   obtain ⟨es,ee⟩:=this
   rw [ee] at iv
   cases iv with
   | @tup a xs _ ea hxs=>
    obtain ⟨zs,rz,o,g1,g2,n,g3⟩:=TT a xs ea
    refine ⟨a,xs,es,o,zs,n,?_,ee,hxs,g1,g2,g3,rz⟩
    rw [List.getD_eq_getElem?_getD,eu]
    exact ru
  obtain ⟨T,fs,tups,hfl,hT,hTT⟩:∃ (T:String) (fs:List Value),PySem.W.KatTups h' its fs∧fs.length=its.length∧(∀ v∈fs,typeOf v=pure (Value.type T))∧(Value.type T==Value.type T)=true:=by
   have go:∀ T:String,(∀ (es:List PyData) (xs:List V) (zs:List Value),.tuple es∈ds→IsAll H xs es→Vals xs zs→∃ f,zs.toArray[0]? =some f∧typeOf f=pure (Value.type T))→
     ∃ (fs:List Value),PySem.W.KatTups h' its fs∧fs.length=its.length∧(∀ v∈fs,typeOf v=pure (Value.type T)):=fun T hf=>
    katTups_of its fun i u eu=>by
     have hi:i < ds.length:=by rw [←e2];exact (List.getElem?_eq_some_iff.mp eu).1
     obtain ⟨a,xs,es,o,zs,n,g1,ge,gx,g2,g3,g4,g5⟩:=item i hi
     rw [List.getD_eq_getElem?_getD,eu] at g1
     obtain ⟨f,f1,f2⟩:=hf es xs zs (by rw [←ge];exact List.getElem_mem hi) gx g5
     exact ⟨a,o,zs.toArray,n,f,g1,g2,g3,g4,f1,f2⟩
   rcases hH with z | ⟨x,z⟩
   ·obtain ⟨fs,a,b,c⟩:=go "int" fun es xs zs hm ix rz=>by
     obtain ⟨n,r,e⟩:=z _ hm
     cases e
     cases ix with
     | cons i1 t1=>
      cases i1
      cases rz with
      | cons r1 _=>
       obtain ⟨t,rfl⟩:=r1
       exact ⟨_,rfl,rfl⟩
    exact ⟨"int",fs,a,b,c,rfl⟩
   ·obtain ⟨fs,a,b,c⟩:=go "str" fun es xs zs hm ix rz=>by
     obtain ⟨r,e⟩:=z _ hm
     cases e
     cases ix with
     | cons i1 t1=>
      cases i1
      cases rz with
      | cons r1 _=>
       obtain ⟨t,rfl⟩:=r1
       exact ⟨_,rfl,rfl⟩
    exact ⟨"str",fs,a,b,c,rfl⟩
  have S:Str1 (fun i j=>HT.lexLt (key (ds.getD i .none)) (key (ds.getD j .none))) its.length:=⟨fun i j k _ _ _ a b=>lex_tr a b,fun i j hi hj hne a=>lex_tot (fun z=>hne ?_) a,fun i j _ _ a=>lex_asym a⟩
  ·refine ⟨_,_,S,fun Q q=>PySem.W.kat_kind tups (by omega) (fun v hv=>PySem.W.Looks.of_pure (hT v hv)) hTT q,fun i j hi hj C hC=>?_,fun pq pm up=>?_⟩
   rw [e2] at hi hj
   ·show wpAny _ _ (keyLt' _ (its.getD i Value.none) (its.getD j Value.none)) C _ _
    obtain ⟨a,xs,es,o,zs,n,g1,ge,gx,g2,g3,g4,g5⟩:=item i hi
    obtain ⟨a',xs',es',o',zs',n',g1',ge',gx',g2',g3',g4',g5'⟩:=item j hj
    rw [g1,g1']
    refine PySem.W.kat_lt g2 g4 g2' g4' ?_
    have ez:decide (zs.toArray.size < zs'.toArray.size)=decide (es.length < es'.length):=by
     have l1:=g5.length
     have l2:=g5'.length
     rw [gx.length] at l1
     rw [gx'.length] at l2
     rw [List.size_toArray,List.size_toArray,l1,l2]
    rw [ez]
    have mi:=List.getElem_mem hi
    have mj:=List.getElem_mem hj
    have cij:=hc _ mi _ mj
    have ki:=hk _ mi
    have kj:=hk _ mj
    rw [ge] at ki
    rw [ge'] at kj
    have e1':ds.getD i .none=ds[i]:=by simp [hi]
    have e2':ds.getD j .none=ds[j]:=by simp [hj]
    have hC':C (HT.lexLt (key ds[i]) (key ds[j])) { s with heap:=h' }:=by rw [←e1',←e2'];exact hC
    rw [←cij.2,ge,ge',ltD] at hC'
    rw [ge,ge',cmpD] at cij
    have o1:=ki.1.1
    have o2:=kj.1.1
    have d1:=ki.1.2
    rw [PyData.canLay0] at o1 o2
    rw [dep_tup] at d1
    have n1:=ki.2
    have n2:=kj.2
    rw [noL] at n1 n2
    refine katD (s:={ s with heap:=h' }) TT (show X.A.units + 1 + 1 + 50 < cLine by omega) es es' xs xs' zs zs' 0 gx gx' g5 g5' cij.1 o1 o2 n1 n2 (by omega) (fun _ d e dr er ed ee=>?_) hC'
    rcases hH with z | ⟨x,z⟩
    ·obtain ⟨m,r,f1⟩:=z _ mi
     obtain ⟨m',r',f2⟩:=z _ mj
     rw [ge,ed] at f1
     rw [ge',ee] at f2
     cases f1
     cases f2
     exact .inl ⟨_,_,rfl,rfl⟩
    ·obtain ⟨r,f1⟩:=z _ mi
     obtain ⟨r',f2⟩:=z _ mj
     rw [ge,ed] at f1
     rw [ge',ee] at f2
     cases f1
     cases f2
     exact .inr (by simp [PyData.eqv])
   ·rw [e2] at pm
    refine PySem.W.KasFin.intro F' N' (.head fun x hx=>Nat.ne_of_lt (hD x hx)) fun h'' c F'' N''=>?_
    have hnD:s.heap.get? D=none:=by
     cases qd:s.heap.get? D with
     | none=>rfl
     | some o=>
      have hh:=N' (D,_) List.mem_cons_self
      have hm:=hD (D,o) (mem_allNews hh.2.1 hh.2.2 qd)
      exact absurd hm (Nat.lt_irrefl _)
    have hkeep2:∀ b o,b≠X.env.locals→s.heap.get? b=some o→h''.get? b=some o:=fun b o hb e=>by
     cases qb:X.base.get? b with
     | some u=>
      have:=I.bk b u qb
      rw [e] at this;cases this
      exact F''.keep b _ qb
     | none=>exact (N'' (b,o) (List.mem_cons_of_mem _ (mem_allNews hb qb e))).1
    have hlt:∀ x∈pq,x < ds.length:=fun x hx=>List.mem_range.mp (pm.mem_iff.mp hx)
    have rv2:∀ l:List Nat,(∀ x∈l,x < ds.length)→Vals (l.map fun i=>vs.getD i .non) (l.map fun i=>its.getD i Value.none)∧IsAll H (l.map fun i=>vs.getD i .non) (l.map fun i=>ds.getD i .none):=fun l=>by
     induction l with
     | nil=>exact fun _=>⟨.nil,.nil⟩
     | cons x l ih=>
      intro hx
      obtain ⟨ih1,ih2⟩:=ih fun y hy=>hx y (List.mem_cons_of_mem _ hy)
      have hxn:=hx x List.mem_cons_self
      obtain ⟨v,u,ev,eu,iv,ru⟩:=atD x hxn
      have a1:vs.getD x .non=v:=by rw [List.getD_eq_getElem?_getD,ev];rfl
      have a2:its.getD x Value.none=u:=by rw [List.getD_eq_getElem?_getD,eu];rfl
      have a3:ds.getD x .none=ds[x]:=by simp [hxn]
      simp only [List.map_cons,a1,a2,a3]
      exact ⟨.cons ru ih1,.cons iv ih2⟩
    obtain ⟨rv3,ia3⟩:=rv2 pq hlt
    have ho:=(N'' (D,_) List.mem_cons_self).1
    have hpl:pq.length=ds.length:=by rw [pm.length_eq,List.length_range]
    refine ⟨.ref D,_,I.laidBut (t':=s.toks) hkeep2 F.ns F''.ns hnD rv3 (by rw [List.length_map,hpl,←e1];exact hz) ho,rfl,q D _ _ (I.none_of hnD) ia3 ?_ ?_⟩
    ·have:=pm.map fun i=>ds.getD i .none
     rw [map_getD_range] at this
     exact this
    ·rw [List.pairwise_map]
     exact up
  ·rw [e2] at hi hj
   have e1':ds.getD i .none=ds[i]:=by simp [hi]
   have e2':ds.getD j .none=ds[j]:=by simp [hj]
   rw [e1',e2'] at z
   have:=(List.getElem_inj (i:=i) (j:=j) (h₀:=by simpa using hi) (h₁:=by simpa using hj) hnd).mp (by simpa using z)
   exact this
theorem k_sortD (K:PySem.W.Frag) (hu:X.A.units + 64 < cLine) (h:X.K=K:=by rfl):CallR X (.builtin "sorted") (rSortD K):=h▸call_sortD hu
end
section
variable {H:Hp} {Q:VK} {K:PySem.W.Frag}
theorem rd_sortD {p:Addr} {vs:List V} {ds:List PyData} (key:PyData→List Int) (e:H p=some (.lst vs)) (ha:IsAll H vs ds) (hH:Heads ds) (hk:∀ d∈ds,okD d∧noL d=true) (hc:∀ d∈ds,∀ e∈ds,cmpD d e=true∧ltD d e=HT.lexLt (key d) (key e)) (nd:(ds.map key).Nodup)
  (h:∀ (l:Addr) (vs':List V) (ds':List PyData),H l=none→IsAll H vs' ds'→ds'.Perm ds→ds'.Pairwise (fun a b=>HT.lexLt (key a) (key b)=true)→Q (.ref l) (upd H l (.lst vs'))):rSortD K [.ref p] H Q:=⟨p,vs,ds,key,rfl,.inl (SqL.of e),ha,hH,hk,hc,nd,h⟩
end
end L2
namespace Nt
section
variable {n:Nat} {R:Nat→Nat→Prop}
noncomputable def Con (n:Nat) (R:Nat→Nat→Prop) (s:Int) (x:Nat→Int):Prop:=∀ i j,i < n→j < n→(x j - x i≥s↔R i j)
noncomputable def NN (n:Nat) (x:Nat→Int):Prop:=∀ i,i < n→0≤x i
structure TP (n:Nat) (R:Nat→Nat→Prop) (s:Int) (x:Nat→Int) (N:Nat) (v:Nat→Nat) (k:Nat→Bool):Prop where
 lt:∀ t,t≤N→v t < n
 st:x (v 0)=0
 up:∀ t,t < N→k t=true→R (v t) (v (t + 1))∧x (v (t + 1))=x (v t) + s
 dn:∀ t,t < N→k t=false→¬R (v (t + 1)) (v t)∧x (v (t + 1))=x (v t) + 1 - s
noncomputable def D (k:Nat→Bool):Nat→Int
 | 0=>0
 | t + 1=>D k t + (if k t=true then 1 else -1)
noncomputable def Mc (k:Nat→Bool):Nat→Int
 | 0=>0
 | t + 1=>Mc k t + (if k t=true then 0 else 1)
theorem TP.val {s:Int} {x:Nat→Int} {N:Nat} {v:Nat→Nat} {k:Nat→Bool} (p:TP n R s x N v k):∀ t,t≤N→x (v t)=D k t * s + Mc k t
 | 0,_=>by rw [p.st];simp [D,Mc]
 | t + 1,h=>by
  have ih:=p.val t (by omega)
  simp only [D,Mc]
  cases hk:k t with
  | true=>
   rw [(p.up t (by omega) hk).2,ih,if_pos rfl,if_pos rfl,Int.add_mul]
   omega
  | false=>
   rw [(p.dn t (by omega) hk).2,ih,if_neg Bool.false_ne_true,if_neg Bool.false_ne_true,Int.add_mul]
   omega
theorem TP.cut {s:Int} {x:Nat→Int} (hx:Con n R s x) {N:Nat} {v:Nat→Nat} {k:Nat→Bool} (p:TP n R s x N v k) {a b:Nat} (hab:a < b) (hb:b≤N) (e:x (v a)=x (v b)) (hbN:b < N):
  TP n R s x (N - (b - a)) (fun t=>if t≤a then v t else v (t + (b - a))) (fun t=>if t < a then k t else k (t + (b - a))) where
 lt:=fun t ht=>by
  by_cases h:t≤a
  ·rw [if_pos h];exact p.lt t (by omega)
  ·rw [if_neg h];exact p.lt _ (by omega)
 st:=by rw [if_pos (Nat.zero_le _)];exact p.st
 up:=fun t ht hk=>by
  by_cases h:t < a
  ·rw [if_pos h] at hk
   rw [if_pos (by omega),if_pos (by omega)]
   exact p.up t (by omega) hk
  ·rw [if_neg h] at hk
   have q:=p.up (t + (b - a)) (by omega) hk
   rw [if_neg (by omega:¬t + 1≤a)]
   have e1:t + 1 + (b - a)=t + (b - a) + 1:=by omega
   rw [e1]
   by_cases h2:t≤a
   ·have ta:t=a:=by omega
    subst ta
    rw [if_pos (Nat.le_refl _)]
    have eb:t + (b - t)=b:=by omega
    rw [eb] at q ⊢
    refine ⟨?_,by rw [e];exact q.2⟩
    exact (hx _ _ (p.lt t (by omega)) (p.lt _ (by omega))).mp (by rw [q.2,e];omega)
   ·rw [if_neg h2];exact q
 dn:=fun t ht hk=>by
  by_cases h:t < a
  ·rw [if_pos h] at hk
   rw [if_pos (by omega),if_pos (by omega)]
   exact p.dn t (by omega) hk
  ·rw [if_neg h] at hk
   have q:=p.dn (t + (b - a)) (by omega) hk
   rw [if_neg (by omega:¬t + 1≤a)]
   have e1:t + 1 + (b - a)=t + (b - a) + 1:=by omega
   rw [e1]
   by_cases h2:t≤a
   ·have ta:t=a:=by omega
    subst ta
    rw [if_pos (Nat.le_refl _)]
    have eb:t + (b - t)=b:=by omega
    rw [eb] at q ⊢
    refine ⟨fun hR=>q.1 ?_,by rw [e];exact q.2⟩
    have:=(hx _ _ (p.lt _ (by omega)) (p.lt t (by omega))).mpr hR
    exact (hx _ _ (p.lt _ (by omega)) (p.lt b (by omega))).mp (by rw [e] at this;exact this)
   ·rw [if_neg h2];exact q
theorem met (f:Nat→Int) (c:Int):∀ m:Nat,f 0 < c→c≤f m→(∀ j,f (j + 1)≤f j + 1)→∃ j,j≤m∧f j=c
 | 0,h1,h2,_=>by omega
 | m + 1,h1,h2,h3=>by
  by_cases h:c≤f m
  ·obtain ⟨j,a,b⟩:=met f c m h1 h h3
   exact ⟨j,by omega,b⟩
  ·have:=h3 m
   exact ⟨m + 1,Nat.le_refl _,by omega⟩
theorem TP.end {s:Int} {x:Nat→Int} (hx:Con n R s x) {N:Nat} {v:Nat→Nat} {k:Nat→Bool} (p:TP n R s x N v k) {a:Nat} (ha:a < N) (e:x (v a)=x (v N)):
  TP n R s x a (fun t=>if t < a then v t else v N) k where
 lt:=fun t ht=>by
  show (if t < a then v t else v N) < n
  split
  ·exact p.lt t (by omega)
  ·exact p.lt N (Nat.le_refl _)
 st:=by
  show x (if 0 < a then v 0 else v N)=0
  split
  ·exact p.st
  ·have ea:a=0:=by omega
   subst ea
   rw [←e];exact p.st
 up:=fun t ht hk=>by
  show R (if t < a then v t else v N) (if t + 1 < a then v (t + 1) else v N)∧x (if t + 1 < a then v (t + 1) else v N)=x (if t < a then v t else v N) + s
  have q:=p.up t (by omega) hk
  rw [if_pos ht]
  by_cases g:t + 1 < a
  ·rw [if_pos g];exact q
  ·rw [if_neg g]
   have ea:t + 1=a:=by omega
   rw [ea,e] at q
   exact ⟨(hx _ _ (p.lt t (by omega)) (p.lt N (Nat.le_refl _))).mp (by omega),q.2⟩
 dn:=fun t ht hk=>by
  show ¬R (if t + 1 < a then v (t + 1) else v N) (if t < a then v t else v N)∧x (if t + 1 < a then v (t + 1) else v N)=x (if t < a then v t else v N) + 1 - s
  have q:=p.dn t (by omega) hk
  rw [if_pos ht]
  by_cases g:t + 1 < a
  ·rw [if_pos g];exact q
  ·rw [if_neg g]
   have ea:t + 1=a:=by omega
   rw [ea,e] at q
   refine ⟨fun hR=>?_,q.2⟩
   have:=(hx _ _ (p.lt N (Nat.le_refl _)) (p.lt t (by omega))).mpr hR
   omega
end
end Nt
namespace Nt
section
variable {n:Nat} {R:Nat→Nat→Prop}
theorem no_two {s:Int} {x:Nat→Int} (h:Con n R s x) {a b c d:Nat} (ha:a < n) (hb:b < n) (hc:c < n) (hd:d < n) (h1:R a b) (h2:R c d) (h3:¬R a d) (h4:¬R c b):False:=by
 have g1:=(h a b ha hb).mpr h1
 have g2:=(h c d hc hd).mpr h2
 have g3:¬(x d - x a≥s):=fun z=>h3 ((h a d ha hd).mp z)
 have g4:¬(x b - x c≥s):=fun z=>h4 ((h c b hc hb).mp z)
 omega
theorem no_three {s:Int} {x:Nat→Int} (h:Con n R s x) {a b c d:Nat} (ha:a < n) (hb:b < n) (hc:c < n) (hd:d < n) (h1:R a b) (h2:R b c) (h3:¬R a d) (h4:¬R d c):False:=by
 have g1:=(h a b ha hb).mpr h1
 have g2:=(h b c hb hc).mpr h2
 have g3:¬(x d - x a≥s):=fun z=>h3 ((h a d ha hd).mp z)
 have g4:¬(x c - x d≥s):=fun z=>h4 ((h d c hd hc).mp z)
 omega
end
noncomputable def sumTo (x:Nat→Int):Nat→Int
 | 0=>0
 | n + 1=>sumTo x n + x n
theorem sum_nn {x:Nat→Int}:∀ {n:Nat},NN n x→0≤sumTo x n
 | 0,_=>Int.le_refl _
 | n + 1,h=>by
  have a:=sum_nn (n:=n) fun i hi=>h i (by omega)
  have b:=h n (by omega)
  simp only [sumTo]
  omega
theorem sum_lt {x y:Nat→Int}:∀ {n:Nat} {v:Nat},(∀ i,i < n→y i≤x i)→v < n→y v < x v→sumTo y n < sumTo x n
 | 0,v,_,hv,_=>absurd hv (Nat.not_lt_zero _)
 | n + 1,v,h,hv,hl=>by
  simp only [sumTo]
  by_cases e:v=n
  ·subst e
   have le:∀ m,m≤v→sumTo y m≤sumTo x m:=fun m=>by
    induction m with
    | zero=>intro _;exact Int.le_refl _
    | succ m ih=>
     intro hm
     have a:=ih (by omega)
     have b:=h m (by omega)
     simp only [sumTo]
     omega
   have a:=le v (Nat.le_refl _)
   omega
  ·have a:=sum_lt (n:=n) (v:=v) (fun i hi=>h i (by omega)) (by omega) hl
   have b:=h n (by omega)
   omega
theorem least_sum {n:Nat} {p:(Nat→Int)→Prop}:∀ (m:Nat) (x:Nat→Int),p x→NN n x→sumTo x n=(m:Int)→∃ y,p y∧NN n y∧∀ z,p z→NN n z→sumTo y n≤sumTo z n:=by
 intro m
 induction m using Nat.strongRecOn with
 | ind m ih=>
  intro x px nx ex
  by_cases h:∃ z,p z∧NN n z∧sumTo z n < sumTo x n
  ·obtain ⟨z,pz,nz,lz⟩:=h
   have s0:=sum_nn nz
   exact ih (sumTo z n).toNat (by omega) z pz nz (by omega)
  ·exact ⟨x,px,nx,fun z pz nz=>by
    by_cases g:sumTo x n≤sumTo z n
    ·exact g
    ·exact absurd ⟨z,pz,nz,by omega⟩ h⟩
theorem countP_lt {p q:Nat→Bool}:∀ {l:List Nat} {v:Nat},(∀ i∈l,p i=true→q i=true)→v∈l→p v=false→q v=true→l.countP p < l.countP q
 | [],v,_,hv,_,_=>by cases hv
 | a::l,v,h,hv,h1,h2=>by
  have le:∀ m:List Nat,(∀ i∈m,p i=true→q i=true)→m.countP p≤m.countP q:=fun m=>by
   induction m with
   | nil=>intro _;exact Nat.le_refl _
   | cons b m ih=>
    intro g
    have i1:=ih fun i hi=>g i (List.mem_cons_of_mem _ hi)
    have i2:=g b List.mem_cons_self
    simp only [List.countP_cons]
    cases hb:p b with
    | true=>rw [i2 hb];simp;exact i1
    | false=>simp;omega
  simp only [List.countP_cons]
  by_cases e:v=a
  ·subst e
   have i1:=le l fun i hi=>h i (List.mem_cons_of_mem _ hi)
   rw [h1,h2]
   simp
   omega
  ·have hv':v∈l:=by
    rcases List.mem_cons.mp hv with g | g
    ·exact absurd g e
    ·exact g
   have ih:=countP_lt (l:=l) (fun i hi=>h i (List.mem_cons_of_mem _ hi)) hv' h1 h2
   have i2:=h a List.mem_cons_self
   cases ha:p a with
   | true=>rw [i2 ha];simp;exact ih
   | false=>simp;omega
end Nt
namespace Wk
section
variable {n:Nat} {R:Nat→Nat→Prop}
structure Sm (n:Nat) (R:Nat→Nat→Prop):Prop where
 irr:∀ a,a < n→¬R a a
 two:∀ a b c d,a < n→b < n→c < n→d < n→R a b→R c d→R a d∨R c b
 three:∀ a b c d,a < n→b < n→c < n→d < n→R a b→R b c→R a d∨R d c
inductive W (n:Nat) (R:Nat→Nat→Prop):Nat→Nat→List Bool→Prop
 | nil {a:Nat}:a < n→W n R a a []
 | up {a b c:Nat} {l:List Bool}:a < n→R a b→W n R b c l→W n R a c (true::l)
 | fl {a b c:Nat} {l:List Bool}:a < n→¬R b a→W n R b c l→W n R a c (false::l)
theorem W.fst {a b:Nat} {l:List Bool} (h:W n R a b l):a < n:=by cases h <;> assumption
theorem W.snd {a b:Nat} {l:List Bool} (h:W n R a b l):b < n:=by
 induction h with
 | nil h=>exact h
 | up _ _ _ ih=>exact ih
 | fl _ _ _ ih=>exact ih
theorem W.app {a b c:Nat} {l m:List Bool} (h:W n R a b l) (g:W n R b c m):W n R a c (l++m):=by
 induction h with
 | nil _=>exact g
 | up h1 h2 _ ih=>exact .up h1 h2 (ih g)
 | fl h1 h2 _ ih=>exact .fl h1 h2 (ih g)
theorem W.cut {c:Nat} {m:List Bool}:∀ {l:List Bool} {a:Nat},W n R a c (l++m)→∃ b,W n R a b l∧W n R b c m
 | [],a,h=>⟨a,.nil h.fst,h⟩
 | x::l,a,h=>by
  cases h with
  | up h1 h2 h3=>
   obtain ⟨b,g1,g2⟩:=W.cut h3
   exact ⟨b,.up h1 h2 g1,g2⟩
  | fl h1 h2 h3=>
   obtain ⟨b,g1,g2⟩:=W.cut h3
   exact ⟨b,.fl h1 h2 g1,g2⟩
theorem Sm.tr (h:Sm n R) {a b c:Nat} (ha:a < n) (hb:b < n) (hc:c < n) (h1:R a b) (h2:R b c):R a c:=
 (h.two a b b c ha hb hb hc h1 h2).resolve_right (h.irr b hb)
theorem ups (h:Sm n R):∀ (l:List Bool) {a c:Nat},l.all id=true→l≠[]→W n R a c l→R a c
 | [],_,_,_,e,_=>absurd rfl e
 | [x],a,c,e,_,w=>by
  cases w with
  | up h1 h2 h3=>cases h3;exact h2
  | fl h1 h2 h3=>cases e
 | x::y::l,a,c,e,_,w=>by
  cases w with
  | up h1 h2 h3=>exact h.tr h1 h3.fst h3.snd h2 (ups h (y::l) e (by simp) h3)
  | fl h1 h2 h3=>cases e
noncomputable def nt (l:List Bool):Nat:=l.countP id
noncomputable def nf (l:List Bool):Nat:=l.countP (!·)
theorem nt_app (l m:List Bool):nt (l++m)=nt l + nt m:=List.countP_append
theorem nf_app (l m:List Bool):nf (l++m)=nf l + nf m:=List.countP_append
noncomputable def Two3 (l:List Bool):Prop:=∃ u v x y z,l=u++([x,y,z]++v)∧nt [x,y,z]=2
theorem Two3.cons {l:List Bool} (a:Bool) (h:Two3 l):Two3 (a::l):=by
 obtain ⟨u,v,x,y,z,rfl,g⟩:=h
 exact ⟨a::u,v,x,y,z,rfl,g⟩
theorem all_or:∀ (l:List Bool),¬Two3 l→(true::true::l).all id=true∨Two3 (true::true::l)
 | [],_=>.inl rfl
 | true::l,h=>by
  have h':¬Two3 l:=fun z=>h (z.cons true)
  rcases all_or l h' with g | g
  ·exact .inl (by simpa using g)
  ·exact .inr (g.cons true)
 | false::l,h=>.inr ⟨[],l,true,true,false,rfl,rfl⟩
theorem few:∀ (l:List Bool),¬Two3 l→l.all id=true∨3 * nt l≤l.length + 2
  | [],_=>.inl rfl
  | [x],_=>by cases x <;> simp [nt]
  | [x,y],_=>by cases x <;> cases y <;> simp [nt]
  | x::y::z::l,h=>by
    have hx:∀ {m},(Two3 m→Two3 (x::y::z::l))→¬Two3 m:=fun f g=>h (f g)
    have h3:nt [x,y,z]≠2:=fun e=>h ⟨[],l,x,y,z,rfl,e⟩
    have hl:¬Two3 l:=hx fun g=>((g.cons z).cons y).cons x
    cases x <;> cases y <;> cases z <;> first | exact absurd rfl h3 | skip
    all_goals first
      | (rcases few l hl with g | g
         ·
           match l,g,h,hl with
           | [],_,_,_=>exact .inr (by decide)
           | [true],_,_,_=>exact .inr (by decide)
           | true::true::r,g,h,_=>first
             | exact absurd ⟨[_,_],r,_,true,true,rfl,rfl⟩ h
             | exact absurd ⟨[_],true::r,_,_,true,rfl,rfl⟩ h
             | exact .inl (by simpa using g)
           | false::r,g,_,_=>simp at g
           | true::false::r,g,_,_=>simp at g
         · exact .inr (by simp [nt] at g ⊢;omega))
      | skip
    all_goals
      rcases all_or (true::l) (hx fun g=>(g.cons true).cons true) with g | g
      · exact .inl g
      · exact absurd g h
theorem shrink (h:Sm n R) {a d:Nat} {x y z:Bool} (e:nt [x,y,z]=2) (w:W n R a d [x,y,z]):R a d:=by
 cases x <;> cases y <;> cases z <;> first | (exfalso;revert e;decide) | skip
 ·cases w with
  | fl h1 h2 w=>cases w with
   | up h3 h4 w=>cases w with
    | up h5 h6 w=>cases w with
     | nil h7=>exact (h.three _ _ _ _ h3 h5 h7 h1 h4 h6).resolve_left h2
 ·cases w with
  | up h1 h2 w=>cases w with
   | fl h3 h4 w=>cases w with
    | up h5 h6 w=>cases w with
     | nil h7=>exact (h.two _ _ _ _ h1 h3 h5 h7 h2 h6).resolve_right h4
 ·cases w with
  | up h1 h2 w=>cases w with
   | up h3 h4 w=>cases w with
    | fl h5 h6 w=>cases w with
     | nil h7=>exact (h.three _ _ _ _ h1 h3 h5 h7 h2 h4).resolve_right h6
theorem up_of (h:Sm n R):∀ (k:Nat) (l:List Bool) {a c:Nat},l.length≤k→nf l < nt l→W n R a c l→R a c
 | 0,l,_,_,hk,hn,_=>by
  have:l=[]:=List.length_eq_zero_iff.mp (by omega)
  subst this
  cases hn
 | k + 1,l,a,c,hk,hn,w=>by
  have hne:l≠[]:=by rintro rfl;cases hn
  by_cases z:Two3 l
  ·obtain ⟨u,v,x,y,z,rfl,e⟩:=z
   obtain ⟨b,w1,w2⟩:=w.cut
   obtain ⟨d,w2,w3⟩:=w2.cut
   have r:=shrink h e w2
   have w':=w1.app (W.up w2.fst r w3)
   refine up_of h k _ ?_ ?_ w'
   ·simp only [List.length_append,List.length_cons,List.length_nil] at hk ⊢
    omega
   ·have ef:nf [x,y,z]=1:=by
     revert e
     cases x <;> cases y <;> cases z <;> decide
    rw [nf_app,nf_app] at hn
    rw [nt_app,nt_app] at hn
    rw [nf_app,nt_app,show (true::v)=[true]++v from rfl,nf_app,nt_app]
    have e1:nf [true]=0:=rfl
    have e2:nt [true]=1:=rfl
    omega
  ·rcases few l z with g | g
   ·exact ups h l g hne w
   ·apply Classical.byContradiction
    intro z2
    have el:l.length=nt l + nf l:=by
     have:=List.length_eq_countP_add_countP (l:=l) id
     unfold nt nf
     rw [this]
     congr 1
     refine List.countP_congr ?_
     intro x _
     cases x <;> simp
    have e0:nf l=0:=by omega
    have ea:l.all id=true:=List.all_eq_true.mpr fun x hx=>by
     have:=List.countP_eq_zero.mp e0 x hx
     cases x
     ·exact absurd rfl this
     ·rfl
    exact z2 (ups h l ea hne w)
end
end Wk
namespace My
open PySem L2
noncomputable def top (i:Nat):Stmt:=PySem.Challenge.pw_noticed_k06_whole_all_orders.main.body.getD i (.Pass ⟨0,0,0,0⟩)
noncomputable abbrev s_is_whole:Stmt:=top 15
noncomputable abbrev s_is_thing:Stmt:=top 16
noncomputable abbrev s_is_pair:Stmt:=top 17
noncomputable abbrev s_is_rising:Stmt:=top 18
noncomputable abbrev s_is_order:Stmt:=top 19
noncomputable abbrev s_is_step:Stmt:=top 20
noncomputable abbrev s_is_numbers:Stmt:=top 21
noncomputable abbrev s_need_order:Stmt:=top 22
noncomputable abbrev s_need_step:Stmt:=top 23
noncomputable abbrev s_need_numbers:Stmt:=top 24
noncomputable abbrev s_bars_as_two:Stmt:=top 26
noncomputable abbrev s_bars_as_three:Stmt:=top 27
noncomputable abbrev s_first_two:Stmt:=top 28
noncomputable abbrev s_first_three:Stmt:=top 29
noncomputable abbrev s_bar:Stmt:=top 30
noncomputable abbrev s_unlike_pairs:Stmt:=top 33
noncomputable abbrev s_choices:Stmt:=top 34
noncomputable abbrev s_all_orders:Stmt:=top 35
noncomputable abbrev s_told_pairs:Stmt:=top 37
noncomputable abbrev s_told:Stmt:=top 38
noncomputable abbrev s__law_cell_at:Stmt:=top 40
noncomputable abbrev s__law_mixed:Stmt:=top 41
noncomputable abbrev s__law_draw:Stmt:=top 42
noncomputable abbrev s__law_pick:Stmt:=top 43
noncomputable abbrev s__law_bars:Stmt:=top 44
noncomputable abbrev s__law_least:Stmt:=top 45
noncomputable abbrev s__law_which:Stmt:=top 46
noncomputable abbrev s__law_ask:Stmt:=top 47
noncomputable abbrev s_law:Stmt:=top 48
theorem sc_is_whole:FnScope ["value","low","high"] ["value","low","high"] (defScope s_is_whole):=⟨rfl,rfl,rfl,by decide +kernel,rfl,by decide +kernel,by decide +kernel⟩
theorem sc_is_thing:FnScope ["value","many"] ["value","many"] (defScope s_is_thing):=⟨rfl,rfl,rfl,by decide +kernel,rfl,by decide +kernel,by decide +kernel⟩
theorem sc_is_pair:FnScope ["value","many"] ["value","many"] (defScope s_is_pair):=⟨rfl,rfl,rfl,by decide +kernel,rfl,by decide +kernel,by decide +kernel⟩
theorem sc_is_rising:FnScope ["pairs"] ["pairs"] (defScope s_is_rising):=⟨rfl,rfl,rfl,by decide +kernel,rfl,by decide +kernel,by decide +kernel⟩
theorem sc_is_order:FnScope ["value","many","pairs"] ["value"] (defScope s_is_order):=⟨rfl,rfl,rfl,by decide +kernel,rfl,by decide +kernel,by decide +kernel⟩
theorem sc_is_step:FnScope ["value"] ["value"] (defScope s_is_step):=⟨rfl,rfl,rfl,by decide +kernel,rfl,by decide +kernel,by decide +kernel⟩
theorem sc_is_numbers:FnScope ["value","fewest","most"] ["value","fewest","most"] (defScope s_is_numbers):=⟨rfl,rfl,rfl,by decide +kernel,rfl,by decide +kernel,by decide +kernel⟩
theorem sc_need_order:FnScope ["value"] ["value"] (defScope s_need_order):=⟨rfl,rfl,rfl,by decide +kernel,rfl,by decide +kernel,by decide +kernel⟩
theorem sc_need_step:FnScope ["value"] ["value"] (defScope s_need_step):=⟨rfl,rfl,rfl,by decide +kernel,rfl,by decide +kernel,by decide +kernel⟩
theorem sc_need_numbers:FnScope ["value","fewest","most"] ["value","fewest","most"] (defScope s_need_numbers):=⟨rfl,rfl,rfl,by decide +kernel,rfl,by decide +kernel,by decide +kernel⟩
theorem sc_bars_as_two:FnScope ["pairs","a","b","c","d"] ["pairs","a","b","c","d"] (defScope s_bars_as_two):=⟨rfl,rfl,rfl,by decide +kernel,rfl,by decide +kernel,by decide +kernel⟩
theorem sc_bars_as_three:FnScope ["pairs","a","b","c","d"] ["pairs","a","b","c","d"] (defScope s_bars_as_three):=⟨rfl,rfl,rfl,by decide +kernel,rfl,by decide +kernel,by decide +kernel⟩
theorem sc_first_two:FnScope ["pairs","a","b","c","d"] ["pairs"] (defScope s_first_two):=⟨rfl,rfl,rfl,by decide +kernel,rfl,by decide +kernel,by decide +kernel⟩
theorem sc_first_three:FnScope ["many","pairs","a","b","c","d"] ["many","pairs"] (defScope s_first_three):=⟨rfl,rfl,rfl,by decide +kernel,rfl,by decide +kernel,by decide +kernel⟩
theorem sc_bar:FnScope ["order","found"] ["order"] (defScope s_bar):=⟨rfl,rfl,rfl,by decide +kernel,rfl,by decide +kernel,by decide +kernel⟩
theorem sc_unlike_pairs:FnScope ["many","pairs","one","other"] ["many"] (defScope s_unlike_pairs):=⟨rfl,rfl,rfl,by decide +kernel,rfl,by decide +kernel,by decide +kernel⟩
theorem sc_choices:FnScope ["pairs","chosen","pair"] ["pairs"] (defScope s_choices):=⟨rfl,rfl,rfl,by decide +kernel,rfl,by decide +kernel,by decide +kernel⟩
theorem sc_all_orders:FnScope ["many","orders"] ["many"] (defScope s_all_orders):=⟨rfl,rfl,rfl,by decide +kernel,rfl,by decide +kernel,by decide +kernel⟩
theorem sc_told_pairs:FnScope ["step","numbers","pairs","one","other"] ["step","numbers"] (defScope s_told_pairs):=⟨rfl,rfl,rfl,by decide +kernel,rfl,by decide +kernel,by decide +kernel⟩
theorem sc_told:FnScope ["step","numbers"] ["step","numbers"] (defScope s_told):=⟨rfl,rfl,rfl,by decide +kernel,rfl,by decide +kernel,by decide +kernel⟩
theorem sc__law_cell_at:FnScope ["_law_script","_law_k"] ["_law_script","_law_k"] (defScope s__law_cell_at):=⟨rfl,rfl,rfl,by decide +kernel,rfl,by decide +kernel,by decide +kernel⟩
theorem sc__law_mixed:FnScope ["_law_script","_law_k","_law_many","_law_drawn"] ["_law_script","_law_k","_law_many"] (defScope s__law_mixed):=⟨rfl,rfl,rfl,by decide +kernel,rfl,by decide +kernel,by decide +kernel⟩
theorem sc__law_draw:FnScope ["_law_script","_law_town","_law_many"] ["_law_script","_law_town","_law_many"] (defScope s__law_draw):=⟨rfl,rfl,rfl,by decide +kernel,rfl,by decide +kernel,by decide +kernel⟩
theorem sc__law_pick:FnScope ["_law_script","_law_town","_law_some"] ["_law_script","_law_town","_law_some"] (defScope s__law_pick):=⟨rfl,rfl,rfl,by decide +kernel,rfl,by decide +kernel,by decide +kernel⟩
theorem sc__law_bars:FnScope ["_law_order","_law_some","_law_made","_law_a","_law_b","_law_c","_law_d","_law_e","_law_first"] ["_law_order"] (defScope s__law_bars):=⟨rfl,rfl,rfl,by decide +kernel,rfl,by decide +kernel,by decide +kernel⟩
theorem sc__law_least:FnScope ["_law_order","_law_step","_law_line","_law_turn","_law_before","_law_one","_law_other","_law_more"] ["_law_order","_law_step"] (defScope s__law_least):=⟨rfl,rfl,rfl,by decide +kernel,rfl,by decide +kernel,by decide +kernel⟩
theorem sc__law_which:FnScope ["_law_e","_law_own"] ["_law_e"] (defScope s__law_which):=⟨rfl,rfl,rfl,by decide +kernel,rfl,by decide +kernel,by decide +kernel⟩
theorem sc__law_ask:FnScope ["_law_many","_law_e"] ["_law_many"] (defScope s__law_ask):=⟨rfl,rfl,rfl,by decide +kernel,rfl,by decide +kernel,by decide +kernel⟩
theorem sc_law:FnScope ["_law_script","_law_town","_law_many","_law_rows","_law_one","_law_other","_law_due","_law_found","_law_k","_law_longs"] ["_law_script"] (defScope s_law):=⟨rfl,rfl,rfl,by decide +kernel,rfl,by decide +kernel,by decide +kernel⟩
set_option genSizeOf false in
set_option genInjectivity false in
structure Ad where
 a_is_whole:Addr
 d_is_whole:FuncData
 a_is_thing:Addr
 d_is_thing:FuncData
 a_is_pair:Addr
 d_is_pair:FuncData
 a_is_rising:Addr
 d_is_rising:FuncData
 a_is_order:Addr
 d_is_order:FuncData
 a_is_step:Addr
 d_is_step:FuncData
 a_is_numbers:Addr
 d_is_numbers:FuncData
 a_need_order:Addr
 d_need_order:FuncData
 a_need_step:Addr
 d_need_step:FuncData
 a_need_numbers:Addr
 d_need_numbers:FuncData
 a_bars_as_two:Addr
 d_bars_as_two:FuncData
 a_bars_as_three:Addr
 d_bars_as_three:FuncData
 a_first_two:Addr
 d_first_two:FuncData
 a_first_three:Addr
 d_first_three:FuncData
 a_bar:Addr
 d_bar:FuncData
 a_unlike_pairs:Addr
 d_unlike_pairs:FuncData
 a_choices:Addr
 d_choices:FuncData
 a_all_orders:Addr
 d_all_orders:FuncData
 a_told_pairs:Addr
 d_told_pairs:FuncData
 a_told:Addr
 d_told:FuncData
 a__law_cell_at:Addr
 d__law_cell_at:FuncData
 a__law_mixed:Addr
 d__law_mixed:FuncData
 a__law_draw:Addr
 d__law_draw:FuncData
 a__law_pick:Addr
 d__law_pick:FuncData
 a__law_bars:Addr
 d__law_bars:FuncData
 a__law_least:Addr
 d__law_least:FuncData
 a__law_which:Addr
 d__law_which:FuncData
 a__law_ask:Addr
 d__law_ask:FuncData
 a_law:Addr
 d_law:FuncData
 c_Barred:Addr
 c_Full:Addr
 c_NoCount:Addr
 c_NoNumbers:Addr
 c_NoOrder:Addr
 c_NoStep:Addr
 c_NoTelling:Addr
 c_NoThing:Addr
 c_Nothing:Addr
 c_OrderError:Addr
structure Txt (K:PySem.W.Frag) (mg:Str→Option Value) (t:Ad):Prop where
 m_is_whole:mg "is_whole"=some (.ref t.a_is_whole)
 F_is_whole:Fun K "is_whole" "is_whole" s_is_whole t.a_is_whole t.d_is_whole
 b_is_whole:Binds K t.d_is_whole ["value","low","high"] []
 m_is_thing:mg "is_thing"=some (.ref t.a_is_thing)
 F_is_thing:Fun K "is_thing" "is_thing" s_is_thing t.a_is_thing t.d_is_thing
 b_is_thing:Binds K t.d_is_thing ["value","many"] []
 m_is_pair:mg "is_pair"=some (.ref t.a_is_pair)
 F_is_pair:Fun K "is_pair" "is_pair" s_is_pair t.a_is_pair t.d_is_pair
 b_is_pair:Binds K t.d_is_pair ["value","many"] []
 m_is_rising:mg "is_rising"=some (.ref t.a_is_rising)
 F_is_rising:Fun K "is_rising" "is_rising" s_is_rising t.a_is_rising t.d_is_rising
 b_is_rising:Binds K t.d_is_rising ["pairs"] []
 m_is_order:mg "is_order"=some (.ref t.a_is_order)
 F_is_order:Fun K "is_order" "is_order" s_is_order t.a_is_order t.d_is_order
 b_is_order:Binds K t.d_is_order ["value"] []
 m_is_step:mg "is_step"=some (.ref t.a_is_step)
 F_is_step:Fun K "is_step" "is_step" s_is_step t.a_is_step t.d_is_step
 b_is_step:Binds K t.d_is_step ["value"] []
 m_is_numbers:mg "is_numbers"=some (.ref t.a_is_numbers)
 F_is_numbers:Fun K "is_numbers" "is_numbers" s_is_numbers t.a_is_numbers t.d_is_numbers
 b_is_numbers:Binds K t.d_is_numbers ["value","fewest","most"] []
 m_need_order:mg "need_order"=some (.ref t.a_need_order)
 F_need_order:Fun K "need_order" "need_order" s_need_order t.a_need_order t.d_need_order
 b_need_order:Binds K t.d_need_order ["value"] []
 m_need_step:mg "need_step"=some (.ref t.a_need_step)
 F_need_step:Fun K "need_step" "need_step" s_need_step t.a_need_step t.d_need_step
 b_need_step:Binds K t.d_need_step ["value"] []
 m_need_numbers:mg "need_numbers"=some (.ref t.a_need_numbers)
 F_need_numbers:Fun K "need_numbers" "need_numbers" s_need_numbers t.a_need_numbers t.d_need_numbers
 b_need_numbers:Binds K t.d_need_numbers ["value","fewest","most"] []
 m_bars_as_two:mg "bars_as_two"=some (.ref t.a_bars_as_two)
 F_bars_as_two:Fun K "bars_as_two" "bars_as_two" s_bars_as_two t.a_bars_as_two t.d_bars_as_two
 b_bars_as_two:Binds K t.d_bars_as_two ["pairs","a","b","c","d"] []
 m_bars_as_three:mg "bars_as_three"=some (.ref t.a_bars_as_three)
 F_bars_as_three:Fun K "bars_as_three" "bars_as_three" s_bars_as_three t.a_bars_as_three t.d_bars_as_three
 b_bars_as_three:Binds K t.d_bars_as_three ["pairs","a","b","c","d"] []
 m_first_two:mg "first_two"=some (.ref t.a_first_two)
 F_first_two:Fun K "first_two" "first_two" s_first_two t.a_first_two t.d_first_two
 b_first_two:Binds K t.d_first_two ["pairs"] []
 m_first_three:mg "first_three"=some (.ref t.a_first_three)
 F_first_three:Fun K "first_three" "first_three" s_first_three t.a_first_three t.d_first_three
 b_first_three:Binds K t.d_first_three ["many","pairs"] []
 m_bar:mg "bar"=some (.ref t.a_bar)
 F_bar:Fun K "bar" "bar" s_bar t.a_bar t.d_bar
 b_bar:Binds K t.d_bar ["order"] []
 m_unlike_pairs:mg "unlike_pairs"=some (.ref t.a_unlike_pairs)
 F_unlike_pairs:Fun K "unlike_pairs" "unlike_pairs" s_unlike_pairs t.a_unlike_pairs t.d_unlike_pairs
 b_unlike_pairs:Binds K t.d_unlike_pairs ["many"] []
 m_choices:mg "choices"=some (.ref t.a_choices)
 F_choices:Fun K "choices" "choices" s_choices t.a_choices t.d_choices
 b_choices:Binds K t.d_choices ["pairs"] []
 m_all_orders:mg "all_orders"=some (.ref t.a_all_orders)
 F_all_orders:Fun K "all_orders" "all_orders" s_all_orders t.a_all_orders t.d_all_orders
 b_all_orders:Binds K t.d_all_orders ["many"] []
 m_told_pairs:mg "told_pairs"=some (.ref t.a_told_pairs)
 F_told_pairs:Fun K "told_pairs" "told_pairs" s_told_pairs t.a_told_pairs t.d_told_pairs
 b_told_pairs:Binds K t.d_told_pairs ["step","numbers"] []
 m_told:mg "told"=some (.ref t.a_told)
 F_told:Fun K "told" "told" s_told t.a_told t.d_told
 b_told:Binds K t.d_told ["step","numbers"] []
 m__law_cell_at:mg "_law_cell_at"=some (.ref t.a__law_cell_at)
 F__law_cell_at:Fun K "_law_cell_at" "_law_cell_at" s__law_cell_at t.a__law_cell_at t.d__law_cell_at
 b__law_cell_at:Binds K t.d__law_cell_at ["_law_script","_law_k"] []
 m__law_mixed:mg "_law_mixed"=some (.ref t.a__law_mixed)
 F__law_mixed:Fun K "_law_mixed" "_law_mixed" s__law_mixed t.a__law_mixed t.d__law_mixed
 b__law_mixed:Binds K t.d__law_mixed ["_law_script","_law_k","_law_many"] []
 m__law_draw:mg "_law_draw"=some (.ref t.a__law_draw)
 F__law_draw:Fun K "_law_draw" "_law_draw" s__law_draw t.a__law_draw t.d__law_draw
 b__law_draw:Binds K t.d__law_draw ["_law_script","_law_town","_law_many"] []
 m__law_pick:mg "_law_pick"=some (.ref t.a__law_pick)
 F__law_pick:Fun K "_law_pick" "_law_pick" s__law_pick t.a__law_pick t.d__law_pick
 b__law_pick:Binds K t.d__law_pick ["_law_script","_law_town","_law_some"] []
 m__law_bars:mg "_law_bars"=some (.ref t.a__law_bars)
 F__law_bars:Fun K "_law_bars" "_law_bars" s__law_bars t.a__law_bars t.d__law_bars
 b__law_bars:Binds K t.d__law_bars ["_law_order"] []
 m__law_least:mg "_law_least"=some (.ref t.a__law_least)
 F__law_least:Fun K "_law_least" "_law_least" s__law_least t.a__law_least t.d__law_least
 b__law_least:Binds K t.d__law_least ["_law_order","_law_step"] []
 m__law_which:mg "_law_which"=some (.ref t.a__law_which)
 F__law_which:Fun K "_law_which" "_law_which" s__law_which t.a__law_which t.d__law_which
 b__law_which:Binds K t.d__law_which ["_law_e"] []
 m__law_ask:mg "_law_ask"=some (.ref t.a__law_ask)
 F__law_ask:Fun K "_law_ask" "_law_ask" s__law_ask t.a__law_ask t.d__law_ask
 b__law_ask:Binds K t.d__law_ask ["_law_many"] []
 m_law:mg "law"=some (.ref t.a_law)
 F_law:Fun K "law" "law" s_law t.a_law t.d_law
 b_law:Binds K t.d_law ["_law_script"] []
 n_ValueError:mg "ValueError"=none
 n_all:mg "all"=none
 n_bool:mg "bool"=none
 n_dict:mg "dict"=none
 n_int:mg "int"=none
 n_isinstance:mg "isinstance"=none
 n_len:mg "len"=none
 n_list:mg "list"=none
 n_max:mg "max"=none
 n_range:mg "range"=none
 n_sorted:mg "sorted"=none
 n_tuple:mg "tuple"=none
 g_Barred:mg "Barred"=some (.ref t.c_Barred)
 g_Full:mg "Full"=some (.ref t.c_Full)
 g_NoCount:mg "NoCount"=some (.ref t.c_NoCount)
 Z_NoCount:ExcC K t.c_NoCount
 v_NoCount:PySem.W.kitOne K (.ref t.c_NoCount) (.type "ValueError")=some true
 x_NoCount:PySem.W.exmOne K (.ref t.c_NoCount) (.ref t.c_OrderError)=some true
 q_NoCount_Barred:PySem.W.kitOne K (.ref t.c_NoCount) (.ref t.c_Barred)=some false
 q_NoCount_Full:PySem.W.kitOne K (.ref t.c_NoCount) (.ref t.c_Full)=some false
 q_NoCount_NoNumbers:PySem.W.kitOne K (.ref t.c_NoCount) (.ref t.c_NoNumbers)=some false
 q_NoCount_NoOrder:PySem.W.kitOne K (.ref t.c_NoCount) (.ref t.c_NoOrder)=some false
 q_NoCount_NoStep:PySem.W.kitOne K (.ref t.c_NoCount) (.ref t.c_NoStep)=some false
 q_NoCount_NoTelling:PySem.W.kitOne K (.ref t.c_NoCount) (.ref t.c_NoTelling)=some false
 q_NoCount_NoThing:PySem.W.kitOne K (.ref t.c_NoCount) (.ref t.c_NoThing)=some false
 q_NoCount_Nothing:PySem.W.kitOne K (.ref t.c_NoCount) (.ref t.c_Nothing)=some false
 g_NoNumbers:mg "NoNumbers"=some (.ref t.c_NoNumbers)
 g_NoOrder:mg "NoOrder"=some (.ref t.c_NoOrder)
 g_NoStep:mg "NoStep"=some (.ref t.c_NoStep)
 g_NoTelling:mg "NoTelling"=some (.ref t.c_NoTelling)
 g_NoThing:mg "NoThing"=some (.ref t.c_NoThing)
 g_Nothing:mg "Nothing"=some (.ref t.c_Nothing)
 g_OrderError:mg "OrderError"=some (.ref t.c_OrderError)
 c_MOST_LISTED:∃ tk,mg "MOST_LISTED"=some (.int 3 tk)
 c_MOST_NUMBER:∃ tk,mg "MOST_NUMBER"=some (.int 9999 tk)
 c_MOST_STEP:∃ tk,mg "MOST_STEP"=some (.int 999 tk)
 c_MOST_THINGS:∃ tk,mg "MOST_THINGS"=some (.int 8 tk)
structure XF (K:PySem.W.Frag) (mg:Str→Option Value) (c_Barred c_Full c_NoCount c_NoNumbers c_NoOrder c_NoStep c_NoTelling c_NoThing c_Nothing c_OrderError:Addr):Prop where
 g_Barred:mg "Barred"=some (.ref c_Barred)
 g_Full:mg "Full"=some (.ref c_Full)
 g_NoCount:mg "NoCount"=some (.ref c_NoCount)
 Z_NoCount:ExcC K c_NoCount
 v_NoCount:PySem.W.kitOne K (.ref c_NoCount) (.type "ValueError")=some true
 x_NoCount:PySem.W.exmOne K (.ref c_NoCount) (.ref c_OrderError)=some true
 q_NoCount_Barred:PySem.W.kitOne K (.ref c_NoCount) (.ref c_Barred)=some false
 q_NoCount_Full:PySem.W.kitOne K (.ref c_NoCount) (.ref c_Full)=some false
 q_NoCount_NoNumbers:PySem.W.kitOne K (.ref c_NoCount) (.ref c_NoNumbers)=some false
 q_NoCount_NoOrder:PySem.W.kitOne K (.ref c_NoCount) (.ref c_NoOrder)=some false
 q_NoCount_NoStep:PySem.W.kitOne K (.ref c_NoCount) (.ref c_NoStep)=some false
 q_NoCount_NoTelling:PySem.W.kitOne K (.ref c_NoCount) (.ref c_NoTelling)=some false
 q_NoCount_NoThing:PySem.W.kitOne K (.ref c_NoCount) (.ref c_NoThing)=some false
 q_NoCount_Nothing:PySem.W.kitOne K (.ref c_NoCount) (.ref c_Nothing)=some false
 g_NoNumbers:mg "NoNumbers"=some (.ref c_NoNumbers)
 g_NoOrder:mg "NoOrder"=some (.ref c_NoOrder)
 g_NoStep:mg "NoStep"=some (.ref c_NoStep)
 g_NoTelling:mg "NoTelling"=some (.ref c_NoTelling)
 g_NoThing:mg "NoThing"=some (.ref c_NoThing)
 g_Nothing:mg "Nothing"=some (.ref c_Nothing)
 g_OrderError:mg "OrderError"=some (.ref c_OrderError)
end My
local macro_rules | `(tactic| walk_at "rd")=>`(tactic| (repeat (first | with_reducible refine L2.rd_seq ?_ | with_reducible refine L2.rd_next ?_ | with_reducible refine L2.rd_ifS ?_ | with_reducible refine L2.rd_ret ?_ | with_reducible refine L2.rd_drop ?_ | with_reducible refine L2.rd_asg ?_ | with_reducible refine L2.rd_gname ?_ | ((with_reducible refine' L2.rd_var ?qe1 ?_);(case qe1=>exact rfl)) | with_reducible refine L2.rd_C ?_ | with_reducible refine L2.rd_for ?_ | with_reducible refine L2.rd_lc ?_ | with_reducible refine L2.rd_rng1 ?_ | with_reducible refine L2.rd_itup ?_ | with_reducible refine L2.rd_ilst ?_ | with_reducible refine L2.rd_yes ?_ | with_reducible refine L2.rd_ifE ?_ | with_reducible refine L2.rd_raise ?_ | with_reducible refine L2.rd_while ?_ | with_reducible refine L2.rd_gsub ?_ | with_reducible refine L2.rd_bm ?_ | with_reducible refine L2.rd_gcons ?_ | with_reducible refine L2.rd_gnil ?_ | with_reducible refine L2.rd_test ?_ | with_reducible refine L2.rd_B ?_ | with_reducible refine L2.rd_bl ?_ | with_reducible refine L2.rd_op ?_ | with_reducible refine L2.rd_un ?_ | with_reducible refine L2.rd_I0 ?_ | with_reducible refine L2.rd_and ?_ | with_reducible refine L2.rd_or ?_ | with_reducible refine L2.rd_not ?_ | with_reducible refine L2.rd_andV ?_ | with_reducible refine L2.rd_orV ?_ | with_reducible refine L2.rd_notV ?_ | with_reducible refine L2.rd_blE ?_ | with_reducible refine L2.rd_nil ?_ | with_reducible refine L2.rd_cons ?_ | with_reducible refine L2.rd_tup ?_ | with_reducible refine L2.rd_lst ?_ | with_reducible refine L2.rd_call ?_ | with_reducible refine L2.rd_cb ?_ | with_reducible refine L2.rd_chain ?_ | with_reducible refine L2.rd_eqI ?_ | with_reducible refine L2.rd_neI ?_ | with_reducible refine L2.rd_eqB ?_ | with_reducible refine L2.rd_neB ?_ | with_reducible refine L2.rd_isN ?_ | with_reducible refine L2.rd_notN ?_ | with_reducible refine L2.rd_max2 ?_ | with_reducible refine L2.rd_int1 ?_ | with_reducible refine L2.iteT ?_ | with_reducible refine L2.iteF ?_ | with_reducible refine L2.if_nn ?_ | with_reducible refine L2.if_rn ?_ | with_reducible refine L2.if_in ?_ | with_reducible refine L2.if_nnN ?_ | with_reducible refine L2.if_rnN ?_ | with_reducible refine L2.if_inN ?_ | with_reducible refine L2.ifNT ?_ | with_reducible refine L2.ifNF ?_ | ((with_reducible refine' L2.rd_isBool ?qe1 ?_);(case qe1=>assumption)) | ((with_reducible refine' L2.rd_isInt ?qe1 ?_);(case qe1=>assumption)) | ((with_reducible refine' L2.rd_isTup ?qe1 ?_);(case qe1=>assumption)) | ((with_reducible refine' L2.rd_isLst ?qe1 ?_);(case qe1=>assumption)) | ((with_reducible refine' L2.rd_isStr ?qe1 ?_);(case qe1=>assumption)) | ((with_reducible refine' L2.rd_all ?qe1 ?_);(case qe1=>assumption)) | ((with_reducible refine' L2.rd_any ?qe1 ?_);(case qe1=>assumption)) | ((with_reducible refine' L2.rd_lenT ?qe1 ?_);(case qe1=>assumption)) | ((with_reducible refine' L2.rd_lenL ?qe1 ?_);(case qe1=>assumption)) | ((with_reducible refine' L2.rd_tupL ?qe1 ?_);(case qe1=>assumption)) | ((with_reducible refine' L2.rd_ixT ?qe1 ?qf1 ?_);(case qe1=>assumption);(case qf1=>exact rfl)) | ((with_reducible refine' L2.rd_ixL ?qe1 ?qf1 ?_);(case qe1=>assumption);(case qf1=>exact rfl)) | ((with_reducible refine L2.ifT ?_ ?_);with_reducible rfl) | ((with_reducible refine L2.ifF ?_ ?_);with_reducible rfl) | (dsimp only))))
namespace My
open PySem L2
section
variable {P:Program} {w:World} {K:PySem.W.Frag} {mg:Str→Option Value} {base:Heap} {t:Ad}
noncomputable def wholeB (d:PyData) (lo hi:Int):Bool:=match d with | .int i=>decide (lo≤i)&&decide (i≤hi) | _=>false
set_option genSizeOf false in
set_option genInjectivity false in
inductive sp_is_whole (vs:List V) (H:Hp) (Q:VK) (zz3:XK):Prop where
 | mk (x lo hi d:_) (zh0:vs=[x,.int lo,.int hi]) (zh1:Is H x d) (zh2:Q (.bl (wholeB d lo hi)) H):sp_is_whole vs H Q zz3
theorem ok_is_whole (T:Txt K mg t):FnOk P w K mg base CX0 1 t.a_is_whole t.d_is_whole ["value","low","high"] sp_is_whole:=by
 refine T.F_is_whole.ok sc_is_whole (fun vs H Q E h=>?_) (fun cdv A outer s H vs Q E hr h=>?_)
 ·obtain ⟨x,lo,hi,d,rfl,_⟩:=h
  rfl
 ·obtain ⟨x,lo,hi,d,rfl,hx,q⟩:=h
  refine ⟨_,(pss_cons (ps_if (PW.pt (pw_or (pt_val (pe_callB c_isinst (by rfl) T.n_isinstance bt_isinstance (pa_cons (pv 0) (pa_cons (pe_bltn (v:=.ty "bool") rfl T.n_bool bt_bool rfl) pa_nil)))) (pw_or1 (pt_not (pt_val (pe_callB c_isinst (by rfl) T.n_isinstance bt_isinstance (pa_cons (pv 0) (pa_cons (pe_bltn (v:=.ty "int") rfl T.n_int bt_int rfl) pa_nil)))))))) (pss_one (ps_ret pe_bl)) pss_nil)
   (pss_one (ps_ret (pe_chain op_le op_le (pv 1) (pv 0) (pv 2))))),?_⟩
  walk_at "rd"
  have hx2:=hx
  cases hx with
  | int i=>
   walk_at "rd"
   refine ifB (fun h=>?_) (fun h=>?_) <;> walk_at "rd" <;> simpa [wholeB,h] using q
  | _=>walk_at "rd" <;> exact q
set_option genSizeOf false in
set_option genInjectivity false in
inductive sp_is_thing (vs:List V) (H:Hp) (Q:VK) (zz3:XK):Prop where
 | mk (x m d:_) (zh0:vs=[x,.int m]) (zh1:Is H x d) (zh2:Q (.bl (wholeB d 0 (m - 1))) H):sp_is_thing vs H Q zz3
theorem ok_is_thing (T:Txt K mg t):FnOk P w K mg base CX0 2 t.a_is_thing t.d_is_thing ["value","many"] sp_is_thing:=by
 refine T.F_is_thing.ok sc_is_thing (fun vs H Q E h=>?_) (fun cdv A outer s H vs Q E hr h=>?_)
 ·obtain ⟨x,m,d,rfl,_⟩:=h
  rfl
 ·obtain ⟨x,m,d,rfl,hx,q⟩:=h
  refine ⟨_,(pss_one (ps_ret (pe_call (ok_is_whole T) (hr.mono (by decide)) rfl T.m_is_whole T.F_is_whole.kp T.b_is_whole .nil pass0 (pa_cons (pv 0) (pa_cons pe_int (pa_cons (pe_op op_sub (pv 1) pe_int) pa_nil)))))),?_⟩
  walk_at "rd"
  exact ⟨_,_,_,_,rfl,hx,q⟩
noncomputable def prD (p:Int×Int):PyData:=.tuple [.int p.1,.int p.2]
noncomputable def pairB (d:PyData) (m:Int):Bool:=match d with | .tuple [a,b]=>wholeB a 0 (m - 1)&&wholeB b 0 (m - 1)&& !PyData.eqv a b | _=>false
set_option genSizeOf false in
set_option genInjectivity false in
inductive sp_is_pair (vs:List V) (H:Hp) (Q:VK) (zz3:XK):Prop where
 | mk (x m d:_) (zh0:vs=[x,.int m]) (zh1:Is H x d) (zh2:Q (.bl (pairB d m)) H):sp_is_pair vs H Q zz3
theorem pair_other {d:PyData} {m:Int} (h:∀ a b,d≠.tuple [a,b]):pairB d m=false:=by
 unfold pairB
 split
 ·rename_i a b
  exact absurd rfl (h a b)
 ·rfl
theorem isTup_no {d:PyData} (h:∀ ds,d≠.tuple ds):isTupD d=false:=by
 cases d <;> first | rfl | exact absurd rfl (h _)
theorem wholeB_int {d:PyData} {lo hi:Int} (h:wholeB d lo hi=true):∃ i:Int,d=.int i∧lo≤i∧i≤hi:=by
 unfold wholeB at h
 split at h
 ·rename_i i
  simp at h
  exact ⟨i,rfl,h.1,h.2⟩
 ·cases h
theorem ok_is_pair (T:Txt K mg t):FnOk P w K mg base CX0 3 t.a_is_pair t.d_is_pair ["value","many"] sp_is_pair:=by
 refine T.F_is_pair.ok sc_is_pair (fun vs H Q E h=>?_) (fun cdv A outer s H vs Q E hr h=>?_)
 ·obtain ⟨x,m,d,rfl,_⟩:=h
  rfl
 ·obtain ⟨x,m,d,rfl,hx,q⟩:=h
  refine ⟨_,(pss_cons (ps_if (PW.pt (pw_or (pt_not (pt_val (pe_callB c_isinst (by rfl) T.n_isinstance bt_isinstance (pa_cons (pv 0) (pa_cons (pe_bltn (v:=.ty "tuple") rfl T.n_tuple bt_tuple rfl) pa_nil))))) (pw_or1 (pt_cmpR (op_neD hr.units) (pe_callB (k_len K) (by rfl) T.n_len bt_len (pa_cons (pv 0) pa_nil)) pe_int (nomark _))))) (pss_one (ps_ret pe_bl)) pss_nil)
   (pss_cons (ps_if (PW.pt (pw_or (pt_not (pt_val (pe_call (ok_is_thing T) (hr.mono (by decide)) rfl T.m_is_thing T.F_is_thing.kp T.b_is_thing .nil pass0 (pa_cons (pe_ix (k_ix K) (pv 0) pe_int (fun _ _=>rfl)) (pa_cons (pv 1) pa_nil))))) (pw_or1 (pt_not (pt_val (pe_call (ok_is_thing T) (hr.mono (by decide)) rfl T.m_is_thing T.F_is_thing.kp T.b_is_thing .nil pass0 (pa_cons (pe_ix (k_ix K) (pv 0) pe_int (fun _ _=>rfl)) (pa_cons (pv 1) pa_nil)))))))) (pss_one (ps_ret pe_bl)) pss_nil)
   (pss_one (ps_ret (pe_cmpR (op_neD hr.units) (pe_ix (k_ix K) (pv 0) pe_int (fun _ _=>rfl)) (pe_ix (k_ix K) (pv 0) pe_int (fun _ _=>rfl)) (nomark _)))))),?_⟩
  walk_at "rd"
  by_cases hd:∃ ds,d=.tuple ds
  ·obtain ⟨ds,rfl⟩:=hd
   cases hx with
   | @tup a xs _ e hxs=>
   walk_at "rd"
   have hl:=hxs.length
   refine ifB (fun h=>?_) (fun h=>?_)
   ·walk_at "rd"
    rw [pair_other] at q
    ·exact q
    ·rintro a b ⟨⟩
     simp at hl
     simp [hl] at h
   ·walk_at "rd"
    match xs,ds,hxs,hl with
    | [x1,x2],[d1,d2],.cons i1 (.cons i2 .nil),_=>
     walk_at "rd"
     refine ⟨_,_,_,rfl,i1,?_⟩
     walk_at "rd"
     have qe:pairB (.tuple [d1,d2]) m=(wholeB d1 0 (m - 1)&&wholeB d2 0 (m - 1)&& !PyData.eqv d1 d2):=rfl
     rw [qe] at q
     refine ifB (fun h1=>?_) (fun h1=>?_)
     ·walk_at "rd"
      have h1':wholeB d1 0 (m - 1)=false:=by simpa using h1
      simpa [h1'] using q
     ·walk_at "rd"
      refine ⟨_,_,_,rfl,i2,?_⟩
      walk_at "rd"
      have h1':wholeB d1 0 (m - 1)=true:=by simpa using h1
      refine ifB (fun h2=>?_) (fun h2=>?_)
      ·walk_at "rd"
       have h2':wholeB d2 0 (m - 1)=false:=by simpa using h2
       simpa [h2'] using q
      ·walk_at "rd"
       have h2':wholeB d2 0 (m - 1)=true:=by simpa using h2
       obtain ⟨i,rfl,_⟩:=wholeB_int h1'
       obtain ⟨j,rfl,_⟩:=wholeB_int h2'
       refine rd_eqD i1 i2 ⟨rfl,Nat.zero_le _⟩ ⟨rfl,Nat.zero_le _⟩ ?_
       simpa [h1',h2'] using q
    | [],_,_,_=>simp at h
    | [_],_,_,_=>simp at h
    | _::_::_::_,_,_,_=>simp at h;omega
  ·have hd':∀ ds,d≠.tuple ds:=fun ds e=>hd ⟨ds,e⟩
   rw [isTup_no hd']
   walk_at "rd"
   rw [pair_other fun a b=>hd' _] at q
   exact q
noncomputable def risingB:List (Int×Int)→Bool
 | a::b::r=>HT.lexLt [a.1,a.2] [b.1,b.2]&&risingB (b::r)
 | _=>true
theorem rising_range:∀ ps:List (Int×Int),risingB ps=((List.range (ps.length - 1)).map fun i=>HT.lexLt [(ps.getD i (0,0)).1,(ps.getD i (0,0)).2] [(ps.getD (i + 1) (0,0)).1,(ps.getD (i + 1) (0,0)).2]).all id
 | []=>rfl
 | [a]=>rfl
 | a::b::r=>by
  rw [risingB,rising_range (b::r)]
  have e:(a::b::r).length - 1=((b::r).length - 1) + 1:=by simp
  rw [e,List.range_succ_eq_map,List.map_cons,List.all_cons,List.map_map]
  rfl
theorem _root_.L2.atI_of {α:Type} {xs:List α} {i:Nat} {k:Int} {v:α} (hk:k=(i:Int)) (h:xs[i]? =some v):atI xs k=some v:=by
 subst hk
 exact atI_nat h
theorem two_ints {H:Hp} {xs:List V} {a b:Int} (h:IsAll H xs [.int a,.int b]):xs=[.int a,.int b]:=by
 cases h with
 | cons h1 t=>
  cases t with
  | cons h2 t2=>
   cases h1
   cases h2
   cases t2
   rfl
theorem two_io {H:Hp} {xs:List V} {a:Int} {ds:List PyData} (h:IsAll H xs [.int a,.tuple ds]):∃ b ys,xs=[.int a,.ref b]∧H b=some (.tup ys)∧IsAll H ys ds:=by
 cases h with
 | cons h1 t=>
  cases t with
  | cons h2 t2=>
   cases h1
   cases t2
   cases h2 with
   | tup eb hb=>exact ⟨_,_,rfl,eb,hb⟩
theorem pr_at {H:Hp} {xs:List V} {ps:List (Int×Int)} {i:Nat} (h:IsAll H xs (ps.map prD)) (hi:i < ps.length):
  ∃ r,xs[i]? =some (.ref r)∧H r=some (.tup [.int (ps.getD i (0,0)).1,.int (ps.getD i (0,0)).2]):=by
 obtain ⟨v,e,iv⟩:=h.get (i:=i) (d:=prD (ps.getD i (0,0))) (by rw [List.getElem?_map];simp [hi])
 unfold prD at iv
 cases iv with
 | @tup a xs _ ea hxs=>
  obtain rfl:=two_ints hxs
  exact ⟨a,e,ea⟩
theorem small_ln {n:Nat} (h:n≤1000):n≤sizeLine:=Nat.le_of_lt (small1000 h)
set_option genSizeOf false in
set_option genInjectivity false in
inductive sp_is_rising (vs:List V) (H:Hp) (Q:VK) (zz3:XK):Prop where
 | mk (x ps:_) (zh0:vs=[x]) (zh1:Is H x (.tuple (ps.map prD))) (zh2:ps.length≤1000) (zh3:∀ H',Same H H'→Q (.bl (risingB ps)) H'):sp_is_rising vs H Q zz3
theorem ok_is_rising (T:Txt K mg t):FnOk P w K mg base CX0 1 t.a_is_rising t.d_is_rising ["pairs"] sp_is_rising:=by
 refine T.F_is_rising.ok sc_is_rising (fun vs H Q E h=>?_) (fun cdv A outer s H vs Q E hr h=>?_)
 ·obtain ⟨x,ps,rfl,_⟩:=h
  rfl
 ·obtain ⟨x,ps,rfl,hx,hsz,q⟩:=h
  refine ⟨_,(pss_one (ps_ret (pe_callB (k_all K) (by rfl) T.n_all bt_all (pa_cons (pe_lc rfl ⟨True.intro,True.intro,(.inl rfl),True.intro⟩ (M:=["place","pairs"]) (.own (.free 0 rfl rfl .nil)) (gk_name rfl) rfl (by decide +kernel) (pi_range1 rfl T.n_range (pa_cons (pe_op op_sub (pe_callB (k_len K) (by rfl) T.n_len bt_len (pa_cons (pv 0) pa_nil)) pe_int) pa_nil)) (fun C fp s1 H1=>⟨pg_name (i:=0) (show (["place","pairs"]:List Str).Nodup by decide +kernel) rfl (Or.inl rfl),pif_nil,(pe_cmpR (k_ltT K hr.units0) (pe_ix (k_ix K) (pv 1) (pv 0) (fun _ _=>rfl)) (pe_ix (k_ix K) (pv 1) (pe_op op_add (pv 0) pe_int) (fun _ _=>rfl)) (nomark _))⟩)) pa_nil)))),?_⟩
  cases hx with
  | @tup a xs _ e hxs=>
  have hl:xs.length=ps.length:=by rw [hxs.length,List.length_map]
  walk_at "rd"
  refine ⟨_,rfl,by omega,by omega,?_⟩
  have en:((xs.length:Int) - 1).toNat=ps.length - 1:=by omega
  rw [en]
  refine lp_range (small_ln (by omega)) (fun i ys H'=>H'=H∧ys=((List.range i).map fun i=>HT.lexLt [(ps.getD i (0,0)).1,(ps.getD i (0,0)).2] [(ps.getD (i + 1) (0,0)).1,(ps.getD (i + 1) (0,0)).2]).map V.bl) ⟨rfl,rfl⟩ (by rintro i ys H' ⟨_,rfl⟩;simp) ?_ ?_
  ·rintro i ys H' hi ⟨rfl,rfl⟩
   obtain ⟨r1,e1,h1⟩:=pr_at hxs (i:=i) (by omega)
   obtain ⟨r2,e2,h2⟩:=pr_at hxs (i:=i + 1) (by omega)
   walk_at "rd"
   refine rd_ixT e (atI_of (i:=i) (by omega) e1) ?_
   walk_at "rd"
   refine rd_ixT e (atI_of (i:=i + 1) (by omega) e2) ?_
   refine rd_ltT h1 h2 ⟨rfl,?_⟩
   rw [List.range_succ,List.map_append,List.map_append]
   rfl
  ·rintro ys H' ⟨rfl,rfl⟩ p hp
   walk_at "rd"
   refine rd_all upd_same ?_
   rw [←rising_range]
   exact q _ (Same.upd hp)
noncomputable def decP (d:PyData):Int×Int:=match d with | .tuple [.int a,.int b]=>(a,b) | _=>(0,0)
noncomputable def orderB (d:PyData):Bool:=match d with | .tuple [.int n,.tuple ds]=>decide (1≤n)&&decide (n≤8)&&ds.all (fun d=>pairB d n)&&risingB (ds.map decP) | _=>false
theorem pairB_dec {d:PyData} {m:Int} (h:pairB d m=true):d=prD (decP d):=by
 unfold pairB at h
 split at h
 ·rename_i a b
  rw [Bool.and_eq_true,Bool.and_eq_true] at h
  obtain ⟨i,rfl,_⟩:=wholeB_int h.1.1
  obtain ⟨j,rfl,_⟩:=wholeB_int h.1.2
  rfl
 ·cases h
theorem pairs_dec {m:Int}:∀ {ds:List PyData},ds.all (fun d=>pairB d m)=true→ds=(ds.map decP).map prD
 | [],_=>rfl
 | d::ds,h=>by
  rw [List.all_cons,Bool.and_eq_true] at h
  rw [List.map_cons,List.map_cons,←pairs_dec h.2,←pairB_dec h.1]
theorem order_other {d:PyData} (h:∀ n ds,d≠.tuple [.int n,.tuple ds]):orderB d=false:=by
 unfold orderB
 split
 ·rename_i n ds
  exact absurd rfl (h n ds)
 ·rfl
noncomputable def okOrd (d:PyData):Prop:=∀ m ds,d=.tuple [m,.tuple ds]→ds.length≤1000
set_option genSizeOf false in
set_option genInjectivity false in
inductive sp_is_order (vs:List V) (H:Hp) (Q:VK) (zz3:XK):Prop where
 | mk (x d:_) (zh0:vs=[x]) (zh1:Is H x d) (zh2:okOrd d) (zh3:∀ H',Same H H'→Q (.bl (orderB d)) H'):sp_is_order vs H Q zz3
theorem ok_is_order (T:Txt K mg t):FnOk P w K mg base CX0 4 t.a_is_order t.d_is_order ["value"] sp_is_order:=by
 refine T.F_is_order.ok sc_is_order (fun vs H Q E h=>?_) (fun cdv A outer s H vs Q E hr h=>?_)
 ·obtain ⟨x,d,rfl,_⟩:=h
  rfl
 ·obtain ⟨x,d,rfl,hx,hok,q⟩:=h
  refine ⟨_,(pss_cons (ps_if (PW.pt (pw_or (pt_not (pt_val (pe_callB c_isinst (by rfl) T.n_isinstance bt_isinstance (pa_cons (pv 0) (pa_cons (pe_bltn (v:=.ty "tuple") rfl T.n_tuple bt_tuple rfl) pa_nil))))) (pw_or1 (pt_cmpR (op_neD hr.units) (pe_callB (k_len K) (by rfl) T.n_len bt_len (pa_cons (pv 0) pa_nil)) pe_int (nomark _))))) (pss_one (ps_ret pe_bl)) pss_nil)
   (pss_cons (ps_set (i:=1) sc_is_order.nd rfl (Or.inr rfl) (pe_ix (k_ix K) (pv 0) pe_int (fun _ _=>rfl)))
   (pss_cons (ps_set (i:=2) sc_is_order.nd rfl (Or.inl rfl) (pe_ix (k_ix K) (pv 0) pe_int (fun _ _=>rfl)))
   (pss_cons (ps_if (PW.pt (pw_or (pt_not (pt_val (pe_call (ok_is_whole T) (hr.mono (by decide)) rfl T.m_is_whole T.F_is_whole.kp T.b_is_whole .nil pass0 (pa_cons (pv 1) (pa_cons pe_int (pa_cons (pe_gint rfl T.c_MOST_THINGS) pa_nil)))))) (pw_or1 (pt_not (pt_val (pe_callB c_isinst (by rfl) T.n_isinstance bt_isinstance (pa_cons (pv 2) (pa_cons (pe_bltn (v:=.ty "tuple") rfl T.n_tuple bt_tuple rfl) pa_nil)))))))) (pss_one (ps_ret pe_bl)) pss_nil)
   (pss_one (ps_ret (pe_and (pe_callB (k_all K) (by rfl) T.n_all bt_all (pa_cons (pe_lc rfl ⟨True.intro,True.intro,True.intro,(.inl rfl),True.intro⟩ (M:=["pair","many"]) (.own (.free 1 rfl rfl .nil)) (gk_name rfl) rfl (by decide +kernel) (k_ptup K (pv 2)) (fun C fp s1 H1=>⟨pg_name (i:=0) (show (["pair","many"]:List Str).Nodup by decide +kernel) rfl (Or.inl rfl),pif_nil,(pe_call (ok_is_pair T) (hr.mono (by decide)) rfl T.m_is_pair T.F_is_pair.kp T.b_is_pair .nil pass0 (pa_cons (pv 0) (pa_cons (pv 1) pa_nil)))⟩)) pa_nil)) (pe_one (pe_call (ok_is_rising T) (hr.mono (by decide)) rfl T.m_is_rising T.F_is_rising.kp T.b_is_rising .nil pass0 (pa_cons (pv 2) pa_nil)))))))))),?_⟩
  walk_at "rd"
  by_cases hd:∃ ds,d=.tuple ds
  ·obtain ⟨ds,rfl⟩:=hd
   cases hx with
   | @tup a xs _ e hxs=>
   walk_at "rd"
   have hl:=hxs.length
   refine ifB (fun h=>?_) (fun h=>?_)
   ·walk_at "rd"
    have q':=q H (Same.refl H)
    rw [order_other] at q'
    ·exact q'
    ·rintro n ds ⟨⟩
     simp at hl
     simp [hl] at h
   ·walk_at "rd"
    match xs,ds,hxs,hl with
    | [x1,x2],[d1,d2],.cons i1 (.cons i2 .nil),_=>
     walk_at "rd"
     refine ⟨_,_,_,_,rfl,i1,?_⟩
     walk_at "rd"
     refine ifB (fun h1=>?_) (fun h1=>?_)
     ·walk_at "rd"
      have h1':wholeB d1 1 8=false:=by simpa using h1
      have q':=q H (Same.refl H)
      by_cases h0:∃ n ds,d1=.int n∧d2=.tuple ds
      ·obtain ⟨n,ds,rfl,rfl⟩:=h0
       have:orderB (.tuple [.int n,.tuple ds])=(decide (1≤n)&&decide (n≤8)&&ds.all (fun d=>pairB d n)&&risingB (ds.map decP)):=rfl
       rw [this,show (decide (1≤n)&&decide (n≤8))=false from h1'] at q'
       exact q'
      ·rw [order_other (by rintro n ds ⟨⟩;exact h0 ⟨_,_,rfl,rfl⟩)] at q'
       exact q'
     ·have h1':wholeB d1 1 8=true:=by simpa using h1
      obtain ⟨n,rfl,hn1,hn8⟩:=wholeB_int h1'
      walk_at "rd"
      by_cases hd2:∃ ds,d2=.tuple ds
      ·obtain ⟨ds,rfl⟩:=hd2
       have hlen:=hok _ _ rfl
       cases i1 with
       | int _=>
       cases i2 with
       | @tup b ys _ eb hys=>
       have hlb:=hys.length
       walk_at "rd"
       refine ⟨b,rfl,⟨ys,SqT.of eb⟩,?_⟩
       refine lp_tup (K:=K) (xs:=ys) (small_ln (by omega)) (fun i zs H'=>H'=H∧zs=((ds.take i).map fun d=>pairB d n).map V.bl) ⟨rfl,rfl⟩ (by rintro i ys H' ⟨_,rfl⟩;simp;omega) (fun i zs H' _ h=>by rw [h.1];exact SqT.of eb) ?_ ?_
       ·rintro i x zs H' hx ⟨rfl,rfl⟩
        obtain ⟨d,ed,id⟩:=hys.get' hx
        walk_at "rd"
        refine ⟨_,_,_,rfl,id,rfl,?_⟩
        rw [List.take_add_one,ed,List.map_append,List.map_append]
        rfl
       ·rintro zs H' ⟨rfl,rfl⟩ p hp
        walk_at "rd"
        refine rd_all upd_same ?_
        rw [hlb,List.take_length,List.all_map]
        walk_at "rd"
        have qe:orderB (.tuple [.int n,.tuple ds])=(decide (1≤n)&&decide (n≤8)&&ds.all (fun d=>pairB d n)&&risingB (ds.map decP)):=rfl
        rw [qe,decide_eq_true hn1,decide_eq_true hn8] at q
        refine ifB (fun h3=>?_) (fun h3=>?_)
        ·walk_at "rd"
         have h3':ds.all (fun d=>pairB d n)=true:=h3
         have ed:=pairs_dec h3'
         have hy2:Is (upd H' p (.lst (((ds.take ys.length).map fun d=>pairB d n).map V.bl))) (.ref b) (.tuple ((ds.map decP).map prD)):=by
          rw [←ed]
          exact Is.same (Same.upd hp) (.tup eb hys)
         rw [hlb,List.take_length] at hy2
         refine ⟨_,_,rfl,hy2,by rw [List.length_map];exact hlen,fun H2 s2=>?_⟩
         have q':=q H2 ((Same.upd hp).trans s2)
         simpa [h3'] using q'
        ·walk_at "rd"
         have h3':ds.all (fun d=>pairB d n)=false:=h3
         have q':=q _ (Same.upd (o:=.lst ((ds.map fun d=>pairB d n).map V.bl)) hp)
         simpa [h3'] using q'
      ·have hd2':∀ ds,d2≠.tuple ds:=fun ds e=>hd2 ⟨ds,e⟩
       rw [isTup_no hd2']
       walk_at "rd"
       have q':=q H (Same.refl H)
       rw [order_other (by rintro n ds ⟨⟩;exact hd2' _ rfl)] at q'
       exact q'
    | [],_,_,_=>simp at h
    | [_],_,_,_=>simp at h
    | _::_::_::_,_,_,_=>simp at h;omega
  ·have hd':∀ ds,d≠.tuple ds:=fun ds e=>hd ⟨ds,e⟩
   rw [isTup_no hd']
   walk_at "rd"
   have q':=q H (Same.refl H)
   rw [order_other fun n ds=>hd' _] at q'
   exact q'
end
end My
namespace My
open PySem L2
section
variable {P:Program} {w:World} {K:PySem.W.Frag} {mg:Str→Option Value} {base:Heap} {t:Ad}
set_option genSizeOf false in
set_option genInjectivity false in
inductive sp_need_order (vs:List V) (H:Hp) (Q:VK) (zz3:XK):Prop where
 | mk (x d:_) (zh0:vs=[x]) (zh1:Is H x d) (zh2:okOrd d) (zh3:orderB d=true) (zh4:∀ H',Same H H'→Q .non H'):sp_need_order vs H Q zz3
theorem ok_need_order (T:Txt K mg t):FnOk P w K mg base CX0 5 t.a_need_order t.d_need_order ["value"] sp_need_order:=by
 refine T.F_need_order.ok sc_need_order (fun vs H Q E h=>?_) (fun cdv A outer s H vs Q E hr h=>?_)
 ·obtain ⟨x,d,rfl,_⟩:=h
  rfl
 ·obtain ⟨x,d,rfl,hx,hok,ho,q⟩:=h
  refine ⟨_,(pss_one (ps_if (pt_not (pt_val (pe_call (ok_is_order T) (hr.mono (by decide)) rfl T.m_is_order T.F_is_order.kp T.b_is_order .nil pass0 (pa_cons (pv 0) pa_nil)))) (pss_one ps_never) pss_nil)),?_⟩
  walk_at "rd"
  refine ⟨_,_,rfl,hx,hok,fun H' s'=>?_⟩
  rw [ho]
  walk_at "rd"
  exact q H' s'
end
end My
namespace My
open PySem L2
section
variable {P:Program} {w:World} {K:PySem.W.Frag} {mg:Str→Option Value} {base:Heap} {t:Ad}
theorem eqv_pr (p q:Int×Int):PyData.eqv (prD p) (prD q)=decide (p=q):=by
 obtain ⟨a,b⟩:=p
 obtain ⟨c,d⟩:=q
 simp only [prD,PyData.eqv,PyData.eqvAll,Bool.and_true]
 by_cases h:a=c
 ·by_cases h2:b=d
  ·subst h h2;simp
  ·simp [h,h2]
 ·simp [h]
theorem inD_pr (p:Int×Int):∀ ps:List (Int×Int),inD (prD p) (ps.map prD)=decide (p∈ps)
 | []=>by simp [inD]
 | q::ps=>by
  have ih:=inD_pr p ps
  unfold inD at ih ⊢
  rw [List.map_cons,List.any_cons,ih,eqv_pr]
  by_cases h:q=p
  ·subst h;simp
  ·have h':¬p=q:=fun e=>h e.symm
   simp [h,h']
theorem ok_pr (p:Int×Int):okD (prD p):=⟨rfl,show 1≤40 by decide⟩
theorem ok_prs:∀ ps:List (Int×Int),okDs (ps.map prD)
 | []=>⟨rfl,Nat.zero_le _⟩
 | p::ps=>by
  obtain ⟨a,b⟩:=ok_prs ps
  refine ⟨?_,?_⟩
  ·rw [List.map_cons,PyData.canLayAll0,a];rfl
  ·rw [List.map_cons,PyData.depthAll]
   exact Nat.max_le.mpr ⟨(ok_pr p).2,b⟩
noncomputable def has (ps:List (Int×Int)) (i j:Int):Bool:=decide ((i,j)∈ps)
theorem rd_inP {H:Hp} {Q:VK} {p:Addr} {y:V} {i j:Int} {ps:List (Int×Int)} (e:H p=some (.tup [.int i,.int j])) (hy:Is H y (.tuple (ps.map prD))) (h:Q (.bl (has ps i j)) H):rInD false (.ref p) y H Q:=by
 refine rd_inD (d:=prD (i,j)) (.tup e (.cons (.int i) (.cons (.int j) .nil))) hy (ok_pr _) (ok_prs _) ?_
 rw [inD_pr]
 exact h
theorem rd_ninP {H:Hp} {Q:VK} {p:Addr} {y:V} {i j:Int} {ps:List (Int×Int)} (e:H p=some (.tup [.int i,.int j])) (hy:Is H y (.tuple (ps.map prD))) (h:Q (.bl (!has ps i j)) H):rInD true (.ref p) y H Q:=by
 refine rd_inD (d:=prD (i,j)) (.tup e (.cons (.int i) (.cons (.int j) .nil))) hy (ok_pr _) (ok_prs _) ?_
 rw [inD_pr]
 exact h
noncomputable def bar2B (ps:List (Int×Int)) (a b c d:Int):Bool:=has ps a b&&has ps c d&&(!has ps a d&& !has ps c b)
noncomputable def bar3B (ps:List (Int×Int)) (a b c d:Int):Bool:=has ps a b&&has ps b c&&(!has ps a d&& !has ps d c)
theorem two_ln {i j:Int}:[V.int i,V.int j].length≤sizeLine:=by
 show 2≤sizeLine
 decide
noncomputable def ordD (n:Nat) (ps:List (Int×Int)):PyData:=.tuple [.int n,.tuple (ps.map prD)]
structure Ord (n:Nat) (ps:List (Int×Int)):Prop where
 lo:1≤n
 hi:n≤8
 ix:∀ p∈ps,0≤p.1∧p.1 < n∧0≤p.2∧p.2 < n∧p.1≠p.2
 up:risingB ps=true
 sz:ps.length≤1000
theorem decP_pr (p:Int×Int):decP (prD p)=p:=rfl
theorem Ord.okd {n:Nat} {ps:List (Int×Int)} (h:Ord n ps):okOrd (ordD n ps):=by
 rintro m ds e
 unfold ordD at e
 injection e with e
 injection e with _ e
 injection e with e _
 injection e with e
 rw [←e,List.length_map]
 exact h.sz
theorem Ord.yes {n:Nat} {ps:List (Int×Int)} (h:Ord n ps):orderB (ordD n ps)=true:=by
 have e:orderB (ordD n ps)=(decide (1≤(n:Int))&&decide ((n:Int)≤8)&&(ps.map prD).all (fun d=>pairB d n)&&risingB ((ps.map prD).map decP)):=rfl
 have e2:(ps.map prD).map decP=ps:=by
  rw [List.map_map]
  exact (List.map_congr_left fun p _=>decP_pr p).trans (List.map_id ps)
 have e3:(ps.map prD).all (fun d=>pairB d n)=true:=by
  rw [List.all_map,List.all_eq_true]
  intro p hp
  obtain ⟨a,b,c,d,f⟩:=h.ix p hp
  show (wholeB (.int p.1) 0 (n - 1)&&wholeB (.int p.2) 0 (n - 1)&& !PyData.eqv (.int p.1) (.int p.2))=true
  have g1:wholeB (.int p.1) 0 (n - 1)=true:=by
   show (decide (0≤p.1)&&decide (p.1≤(n:Int) - 1))=true
   simp;omega
  have g2:wholeB (.int p.2) 0 (n - 1)=true:=by
   show (decide (0≤p.2)&&decide (p.2≤(n:Int) - 1))=true
   simp;omega
  have g3:PyData.eqv (.int p.1) (.int p.2)=false:=by
   show (p.1==p.2)=false
   simpa using f
  rw [g1,g2,g3];rfl
 rw [e,e2,e3,h.up,decide_eq_true (by have:=h.lo;omega),decide_eq_true (by have:=h.hi;omega)]
 rfl
theorem is_ord {H:Hp} {x:V} {n:Nat} {ps:List (Int×Int)} (h:Is H x (ordD n ps)):∃ a b xs,x=.ref a∧H a=some (.tup [.int n,.ref b])∧H b=some (.tup xs)∧IsAll H xs (ps.map prD):=by
 unfold ordD at h
 cases h with
 | @tup a xs _ e hxs=>
  obtain ⟨b,ys,rfl,eb,hb⟩:=two_io hxs
  exact ⟨a,_,_,rfl,e,eb,hb⟩
end
end My
namespace My
open PySem L2
section
variable {P:Program} {w:World} {K:PySem.W.Frag} {mg:Str→Option Value} {base:Heap} {t:Ad}
set_option genSizeOf false in
set_option genInjectivity false in
inductive sp_bar (f:List (Int×Int)→Int→Int→Int→Int→Bool) (vs:List V) (H:Hp) (Q:VK) (zz3:XK):Prop where
 | mk (x ps a b c d:_) (zh0:vs=[x,.int a,.int b,.int c,.int d]) (zh1:Is H x (.tuple (ps.map prD))) (zh2:∀ H',Same H H'→Q (.bl (f ps a b c d)) H'):sp_bar f vs H Q zz3
theorem ok_bars_as_two (T:Txt K mg t):FnOk P w K mg base CX0 1 t.a_bars_as_two t.d_bars_as_two ["pairs","a","b","c","d"] (sp_bar bar2B):=by
 refine T.F_bars_as_two.ok sc_bars_as_two (fun vs H Q E h=>?_) (fun cdv A outer s H vs Q E hr h=>?_)
 ·obtain ⟨x,ps,a,b,c,d,rfl,_⟩:=h
  rfl
 ·obtain ⟨x,ps,a,b,c,d,rfl,hx,q⟩:=h
  refine ⟨_,(pss_cons (ps_if (PW.pt (pw_or (pt_cmpR (op_notInD hr.units) (pe_tup (pa_cons (pv 1) (pa_cons (pv 2) pa_nil))) (pv 0) (by rfl)) (pw_or1 (pt_cmpR (op_notInD hr.units) (pe_tup (pa_cons (pv 3) (pa_cons (pv 4) pa_nil))) (pv 0) (by rfl))))) (pss_one (ps_ret pe_bl)) pss_nil)
   (pss_one (ps_ret (pe_and (pe_cmpR (op_notInD hr.units) (pe_tup (pa_cons (pv 1) (pa_cons (pv 4) pa_nil))) (pv 0) (by rfl)) (pe_one (pe_cmpR (op_notInD hr.units) (pe_tup (pa_cons (pv 3) (pa_cons (pv 2) pa_nil))) (pv 0) (by rfl))))))),?_⟩
  unfold bar2B at q
  walk_at "rd"
  refine ⟨two_ln,fun p1 hp1=>?_⟩
  have s1:=Same.upd (o:=.tup [.int a,.int b]) hp1
  walk_at "rd"
  refine rd_ninP upd_same (hx.same s1) ?_
  walk_at "rd"
  refine ifB (fun h1=>?_) (fun h1=>?_)
  ·walk_at "rd"
   have h1':has ps a b=false:=by simpa using h1
   have q':=q _ s1
   rw [h1'] at q'
   exact q'
  ·have h1':has ps a b=true:=by simpa using h1
   rw [h1'] at q
   walk_at "rd"
   refine ⟨two_ln,fun p2 hp2=>?_⟩
   walk_at "rd"
   refine rd_ninP upd_same (hx.same (s1.trans (Same.upd hp2))) ?_
   walk_at "rd"
   refine ifB (fun h2=>?_) (fun h2=>?_)
   ·walk_at "rd"
    rw [Bool.not_eq_true'] at h2
    rw [h2] at q
    exact q _ (s1.trans (Same.upd hp2))
   ·rw [Bool.not_eq_false'] at h2
    rw [h2] at q
    walk_at "rd"
    refine ⟨two_ln,fun p3 hp3=>?_⟩
    walk_at "rd"
    refine rd_ninP upd_same (hx.same ((s1.trans (Same.upd hp2)).trans (Same.upd hp3))) ?_
    walk_at "rd"
    refine ifB (fun h3=>?_) (fun h3=>?_)
    ·rw [h3] at q
     walk_at "rd"
     refine ⟨two_ln,fun p4 hp4=>?_⟩
     walk_at "rd"
     refine rd_ninP upd_same (hx.same (((s1.trans (Same.upd hp2)).trans (Same.upd hp3)).trans (Same.upd hp4))) ?_
     exact q _ (((s1.trans (Same.upd hp2)).trans (Same.upd hp3)).trans (Same.upd hp4))
    ·rw [h3] at q
     exact q _ ((s1.trans (Same.upd hp2)).trans (Same.upd hp3))
theorem ok_bars_as_three (T:Txt K mg t):FnOk P w K mg base CX0 1 t.a_bars_as_three t.d_bars_as_three ["pairs","a","b","c","d"] (sp_bar bar3B):=by
 refine T.F_bars_as_three.ok sc_bars_as_three (fun vs H Q E h=>?_) (fun cdv A outer s H vs Q E hr h=>?_)
 ·obtain ⟨x,ps,a,b,c,d,rfl,_⟩:=h
  rfl
 ·obtain ⟨x,ps,a,b,c,d,rfl,hx,q⟩:=h
  refine ⟨_,(pss_cons (ps_if (PW.pt (pw_or (pt_cmpR (op_notInD hr.units) (pe_tup (pa_cons (pv 1) (pa_cons (pv 2) pa_nil))) (pv 0) (by rfl)) (pw_or1 (pt_cmpR (op_notInD hr.units) (pe_tup (pa_cons (pv 2) (pa_cons (pv 3) pa_nil))) (pv 0) (by rfl))))) (pss_one (ps_ret pe_bl)) pss_nil)
   (pss_one (ps_ret (pe_and (pe_cmpR (op_notInD hr.units) (pe_tup (pa_cons (pv 1) (pa_cons (pv 4) pa_nil))) (pv 0) (by rfl)) (pe_one (pe_cmpR (op_notInD hr.units) (pe_tup (pa_cons (pv 4) (pa_cons (pv 3) pa_nil))) (pv 0) (by rfl))))))),?_⟩
  unfold bar3B at q
  walk_at "rd"
  refine ⟨two_ln,fun p1 hp1=>?_⟩
  have s1:=Same.upd (o:=.tup [.int a,.int b]) hp1
  walk_at "rd"
  refine rd_ninP upd_same (hx.same s1) ?_
  walk_at "rd"
  refine ifB (fun h1=>?_) (fun h1=>?_)
  ·walk_at "rd"
   have h1':has ps a b=false:=by simpa using h1
   have q':=q _ s1
   rw [h1'] at q'
   exact q'
  ·have h1':has ps a b=true:=by simpa using h1
   rw [h1'] at q
   walk_at "rd"
   refine ⟨two_ln,fun p2 hp2=>?_⟩
   walk_at "rd"
   refine rd_ninP upd_same (hx.same (s1.trans (Same.upd hp2))) ?_
   walk_at "rd"
   refine ifB (fun h2=>?_) (fun h2=>?_)
   ·walk_at "rd"
    rw [Bool.not_eq_true'] at h2
    rw [h2] at q
    exact q _ (s1.trans (Same.upd hp2))
   ·rw [Bool.not_eq_false'] at h2
    rw [h2] at q
    walk_at "rd"
    refine ⟨two_ln,fun p3 hp3=>?_⟩
    walk_at "rd"
    refine rd_ninP upd_same (hx.same ((s1.trans (Same.upd hp2)).trans (Same.upd hp3))) ?_
    walk_at "rd"
    refine ifB (fun h3=>?_) (fun h3=>?_)
    ·rw [h3] at q
     walk_at "rd"
     refine ⟨two_ln,fun p4 hp4=>?_⟩
     walk_at "rd"
     refine rd_ninP upd_same (hx.same (((s1.trans (Same.upd hp2)).trans (Same.upd hp3)).trans (Same.upd hp4))) ?_
     exact q _ (((s1.trans (Same.upd hp2)).trans (Same.upd hp3)).trans (Same.upd hp4))
    ·rw [h3] at q
     exact q _ ((s1.trans (Same.upd hp2)).trans (Same.upd hp3))
end
end My
namespace My
open PySem L2
section
variable {P:Program} {w:World} {K:PySem.W.Frag} {mg:Str→Option Value} {base:Heap} {t:Ad}
theorem fs_next {α β:Type} {F:α→Option β} {l:List α} {i:Nat} {x:α} (h:(l.take i).findSome? F=none) (e:l[i]? =some x) (g:F x=none):(l.take (i + 1)).findSome? F=none:=by
 rw [List.take_add_one,e,List.findSome?_append,h]
 simp [g]
theorem fs_at {α β:Type} {F:α→Option β} {l:List α} {i:Nat} {x:α} {r:β} (h:(l.take i).findSome? F=none) (e:l[i]? =some x) (g:F x=some r):l.findSome? F=some r:=by
 have hl:i < l.length:=(List.getElem?_eq_some_iff.mp e).1
 have e':l[i]=x:=(List.getElem?_eq_some_iff.mp e).2
 have:l=l.take i++x::l.drop (i + 1):=by
  rw [←e',←List.drop_eq_getElem_cons hl,List.take_append_drop]
 rw [this,List.findSome?_append,h]
 simp [g]
theorem fs_end {α β:Type} {F:α→Option β} {l:List α} (h:(l.take l.length).findSome? F=none):l.findSome? F=none:=by
 rwa [List.take_length] at h
theorem rg_at {n i:Nat} (h:i < n):(List.range n)[i]? =some i:=List.getElem?_range h
theorem rg_end {β:Type} {F:Nat→Option β} {n:Nat} (h:((List.range n).take n).findSome? F=none):(List.range n).findSome? F=none:=by
 rwa [List.take_of_length_le (by simp)] at h
noncomputable def tagD (s:Str):Option (List Int)→PyData
 | none=>.none
 | some l=>.tuple (.str s::l.map .int)
noncomputable def f2i (ps:List (Int×Int)) (p q:Int×Int):Option (List Int):=if bar2B ps p.1 p.2 q.1 q.2=true then some [p.1,p.2,q.1,q.2] else none
noncomputable def f2 (ps:List (Int×Int)):Option (List Int):=ps.findSome? fun p=>ps.findSome? (f2i ps p)
set_option genSizeOf false in
set_option genInjectivity false in
inductive sp_first_two (vs:List V) (H:Hp) (Q:VK) (zz3:XK):Prop where
 | mk (x ps:_) (zh0:vs=[x]) (zh1:Is H x (.tuple (ps.map prD))) (zh2:∀ v H',Same H H'→Is H' v (tagD "two" (f2 ps))→Q v H'):sp_first_two vs H Q zz3
theorem ok_first_two (T:Txt K mg t):FnOk P w K mg base CX0 2 t.a_first_two t.d_first_two ["pairs"] sp_first_two:=by
 refine T.F_first_two.ok sc_first_two (fun vs H Q E h=>?_) (fun cdv A outer s H vs Q E hr h=>?_)
 ·obtain ⟨x,ps,rfl,_⟩:=h
  rfl
 ·obtain ⟨x,ps,rfl,hx,q⟩:=h
  refine ⟨_,(pss_cons (ps_for PassesOwn.never rfl (k_ptup K (pv 0)) (k_gtup K rfl (pgs_cons (pg_name (i:=1) sc_first_two.nd rfl (Or.inl rfl)) (pgs_cons (pg_name (i:=2) sc_first_two.nd rfl (Or.inl rfl)) pgs_nil))) (pss_one (ps_for PassesOwn.never rfl (k_ptup K (pv 0)) (k_gtup K rfl (pgs_cons (pg_name (i:=3) sc_first_two.nd rfl (Or.inl rfl)) (pgs_cons (pg_name (i:=4) sc_first_two.nd rfl (Or.inl rfl)) pgs_nil))) (pss_one (ps_if (pt_val (pe_call (ok_bars_as_two T) (hr.mono (by decide)) rfl T.m_bars_as_two T.F_bars_as_two.kp T.b_bars_as_two .nil pass0 (pa_cons (pv 0) (pa_cons (pv 1) (pa_cons (pv 2) (pa_cons (pv 3) (pa_cons (pv 4) pa_nil))))))) (pss_one (ps_ret (pe_tup (pa_cons pe_str (pa_cons (pv 1) (pa_cons (pv 2) (pa_cons (pv 3) (pa_cons (pv 4) pa_nil)))))))) pss_nil)))))
   (pss_one (ps_ret pe_non))),?_⟩
  cases hx with
  | @tup a xs _ e hxs=>
  have hl:xs.length=ps.length:=by rw [hxs.length,List.length_map]
  walk_at "rd"
  refine ⟨a,rfl,⟨xs,SqT.of e⟩,?_⟩
  refine fp_tup (K:=K) (xs:=xs) (fun i σ H'=>(∃ va vb vc vd,σ=[some (.ref a),va,vb,vc,vd])∧Same H H'∧(ps.take i).findSome? (fun p=>ps.findSome? (f2i ps p))=none) ⟨⟨_,_,_,_,rfl⟩,Same.refl H,rfl⟩ (fun i σ H' _ h=>SqT.of (h.2.1 _ _ e)) ?_ ?_
  ·rintro i x σ H1 hx ⟨⟨va,vb,vc,vd,rfl⟩,s1,n1⟩
   obtain ⟨p,ep,ip⟩:=(hxs.same s1).get' hx
   rw [List.getElem?_map] at ep
   cases hpi:ps[i]? with
   | none=>rw [hpi] at ep;cases ep
   | some p0=>
   rw [hpi] at ep
   cases ep
   unfold prD at ip
   cases ip with
   | @tup r ys _ er hys=>
   obtain rfl:=two_ints hys
   refine rd_gtup er rfl ?_
   walk_at "rd"
   refine ⟨a,rfl,⟨xs,SqT.of (s1 _ _ e)⟩,?_⟩
   refine fp_tup (K:=K) (xs:=xs) (fun j σ H'=>(∃ vc vd,σ=[some (.ref a),some (.int p0.1),some (.int p0.2),vc,vd])∧Same H H'∧(ps.take j).findSome? (f2i ps p0)=none) ⟨⟨_,_,rfl⟩,s1,rfl⟩ (fun i σ H' _ h=>SqT.of (h.2.1 _ _ e)) ?_ ?_
   ·rintro j y σ H2 hy ⟨⟨vc,vd,rfl⟩,s2,n2⟩
    obtain ⟨q2,eq2,iq2⟩:=(hxs.same s2).get' hy
    rw [List.getElem?_map] at eq2
    cases hqj:ps[j]? with
    | none=>rw [hqj] at eq2;cases eq2
    | some q0=>
    rw [hqj] at eq2
    cases eq2
    unfold prD at iq2
    cases iq2 with
    | @tup r2 ys2 _ er2 hys2=>
    obtain rfl:=two_ints hys2
    refine rd_gtup er2 rfl ?_
    walk_at "rd"
    refine ⟨_,ps,_,_,_,_,rfl,Is.same s2 (.tup e hxs),fun H3 s3=>?_⟩
    cases hf:bar2B ps p0.1 p0.2 q0.1 q0.2 with
    | true=>
     walk_at "rd"
     refine ⟨by show 5≤sizeLine;decide,fun r3 hr3=>?_⟩
     have ef:f2 ps=some [p0.1,p0.2,q0.1,q0.2]:=fs_at n1 hpi (fs_at n2 hqj (if_pos hf))
     refine q _ _ ((s2.trans s3).trans (Same.upd hr3)) ?_
     rw [ef]
     exact .tup upd_same (.cons (.str _) (.cons (.int _) (.cons (.int _) (.cons (.int _) (.cons (.int _) .nil)))))
    | false=>
     walk_at "rd"
     exact ⟨⟨_,_,rfl⟩,s2.trans s3,fs_next n2 hqj (if_neg (by rw [hf];exact Bool.false_ne_true))⟩
   ·rintro σ H2 ⟨⟨vc,vd,rfl⟩,s2,n2⟩
    rw [hl] at n2
    exact ⟨⟨_,_,_,_,rfl⟩,s2,fs_next n1 hpi (fs_end n2)⟩
  ·rintro σ H1 ⟨⟨va,vb,vc,vd,rfl⟩,s1,n1⟩
   rw [hl] at n1
   walk_at "rd"
   refine q _ H1 s1 ?_
   rw [show f2 ps=none from fs_end n1]
   exact .non
noncomputable def f3i (n:Nat) (ps:List (Int×Int)) (p:Int×Int) (c:Nat):Option (List Int):=(List.range n).findSome? fun (d:Nat)=>if bar3B ps p.1 p.2 c d=true then some [p.1,p.2,(c:Int),(d:Int)] else none
noncomputable def f3 (n:Nat) (ps:List (Int×Int)):Option (List Int):=ps.findSome? fun p=>(List.range n).findSome? (f3i n ps p)
set_option genSizeOf false in
set_option genInjectivity false in
inductive sp_first_three (vs:List V) (H:Hp) (Q:VK) (zz3:XK):Prop where
 | mk (x ps n:_) (zh0:vs=[.int (n:Nat),x]) (zh1:n≤8) (zh2:Is H x (.tuple (ps.map prD))) (zh3:∀ v H',Same H H'→Is H' v (tagD "three" (f3 n ps))→Q v H'):sp_first_three vs H Q zz3
theorem ok_first_three (T:Txt K mg t):FnOk P w K mg base CX0 2 t.a_first_three t.d_first_three ["many","pairs"] sp_first_three:=by
 refine T.F_first_three.ok sc_first_three (fun vs H Q E h=>?_) (fun cdv A outer s H vs Q E hr h=>?_)
 ·obtain ⟨x,ps,n,rfl,_⟩:=h
  rfl
 ·obtain ⟨x,ps,n,rfl,hn,hx,q⟩:=h
  refine ⟨_,(pss_cons (ps_for PassesOwn.never rfl (k_ptup K (pv 1)) (k_gtup K rfl (pgs_cons (pg_name (i:=2) sc_first_three.nd rfl (Or.inl rfl)) (pgs_cons (pg_name (i:=3) sc_first_three.nd rfl (Or.inl rfl)) pgs_nil))) (pss_one (ps_for PassesOwn.never rfl (pi_range1 rfl T.n_range (pa_cons (pv 0) pa_nil)) (pg_name (i:=4) sc_first_three.nd rfl (Or.inl rfl)) (pss_one (ps_for PassesOwn.never rfl (pi_range1 rfl T.n_range (pa_cons (pv 0) pa_nil)) (pg_name (i:=5) sc_first_three.nd rfl (Or.inl rfl)) (pss_one (ps_if (pt_val (pe_call (ok_bars_as_three T) (hr.mono (by decide)) rfl T.m_bars_as_three T.F_bars_as_three.kp T.b_bars_as_three .nil pass0 (pa_cons (pv 1) (pa_cons (pv 2) (pa_cons (pv 3) (pa_cons (pv 4) (pa_cons (pv 5) pa_nil))))))) (pss_one (ps_ret (pe_tup (pa_cons pe_str (pa_cons (pv 2) (pa_cons (pv 3) (pa_cons (pv 4) (pa_cons (pv 5) pa_nil)))))))) pss_nil)))))))
   (pss_one (ps_ret pe_non))),?_⟩
  cases hx with
  | @tup a xs _ e hxs=>
  have hl:xs.length=ps.length:=by rw [hxs.length,List.length_map]
  walk_at "rd"
  refine ⟨a,rfl,⟨xs,SqT.of e⟩,?_⟩
  refine fp_tup (K:=K) (xs:=xs) (fun i σ H'=>(∃ va vb vc vd,σ=[some (.int n),some (.ref a),va,vb,vc,vd])∧Same H H'∧(ps.take i).findSome? (fun p=>(List.range n).findSome? (f3i n ps p))=none) ⟨⟨_,_,_,_,rfl⟩,Same.refl H,rfl⟩ (fun i σ H' _ h=>SqT.of (h.2.1 _ _ e)) ?_ ?_
  ·rintro i x σ H1 hx ⟨⟨va,vb,vc,vd,rfl⟩,s1,n1⟩
   obtain ⟨p,ep,ip⟩:=(hxs.same s1).get' hx
   rw [List.getElem?_map] at ep
   cases hpi:ps[i]? with
   | none=>rw [hpi] at ep;cases ep
   | some p0=>
   rw [hpi] at ep
   cases ep
   unfold prD at ip
   cases ip with
   | @tup r ys _ er hys=>
   obtain rfl:=two_ints hys
   refine rd_gtup er rfl ?_
   walk_at "rd"
   refine ⟨_,rfl,by omega,by omega,?_⟩
   rw [Int.toNat_natCast]
   refine fp_range (fun c σ H'=>(∃ vc vd,σ=[some (.int n),some (.ref a),some (.int p0.1),some (.int p0.2),vc,vd])∧Same H H'∧((List.range n).take c).findSome? (f3i n ps p0)=none) ⟨⟨_,_,rfl⟩,s1,rfl⟩ ?_ ?_
   ·rintro c σ H2 hc ⟨⟨vc,vd,rfl⟩,s2,n2⟩
    walk_at "rd"
    refine ⟨_,rfl,by omega,by omega,?_⟩
    rw [Int.toNat_natCast]
    refine fp_range (fun d σ H'=>(∃ vd,σ=[some (.int n),some (.ref a),some (.int p0.1),some (.int p0.2),some (.int (0 + c)),vd])∧Same H H'∧((List.range n).take d).findSome? (fun (d:Nat)=>if bar3B ps p0.1 p0.2 c d=true then some [p0.1,p0.2,(c:Int),(d:Int)] else none)=none) ⟨⟨_,rfl⟩,s2,rfl⟩ ?_ ?_
    ·rintro d σ H3 hd ⟨⟨vd,rfl⟩,s3,n3⟩
     walk_at "rd"
     refine ⟨_,ps,_,_,_,_,rfl,Is.same s3 (.tup e hxs),fun H4 s4=>?_⟩
     rw [Int.zero_add,Int.zero_add]
     cases hf:bar3B ps p0.1 p0.2 c d with
     | true=>
      walk_at "rd"
      refine ⟨by show 5≤sizeLine;decide,fun r3 hr3=>?_⟩
      have ef:f3 n ps=some [p0.1,p0.2,(c:Int),(d:Int)]:=fs_at n1 hpi (fs_at n2 (rg_at hc) (fs_at n3 (rg_at hd) (if_pos hf)))
      refine q _ _ ((s3.trans s4).trans (Same.upd hr3)) ?_
      rw [ef]
      exact .tup upd_same (.cons (.str _) (.cons (.int _) (.cons (.int _) (.cons (.int _) (.cons (.int _) .nil)))))
     | false=>
      walk_at "rd"
      exact ⟨⟨_,rfl⟩,s3.trans s4,fs_next n3 (rg_at hd) (if_neg (by rw [hf];exact Bool.false_ne_true))⟩
    ·rintro σ H3 ⟨⟨vd,rfl⟩,s3,n3⟩
     exact ⟨⟨_,_,rfl⟩,s3,fs_next n2 (rg_at hc) (rg_end n3)⟩
   ·rintro σ H2 ⟨⟨vc,vd,rfl⟩,s2,n2⟩
    exact ⟨⟨_,_,_,_,rfl⟩,s2,fs_next n1 hpi (rg_end n2)⟩
  ·rintro σ H1 ⟨⟨va,vb,vc,vd,rfl⟩,s1,n1⟩
   rw [hl] at n1
   walk_at "rd"
   refine q _ H1 s1 ?_
   rw [show f3 n ps=none from fs_end n1]
   exact .non
noncomputable def barD (n:Nat) (ps:List (Int×Int)):PyData:=match f2 ps with
 | some l=>tagD "two" (some l)
 | none=>tagD "three" (f3 n ps)
set_option genSizeOf false in
set_option genInjectivity false in
inductive sp_bar_full (vs:List V) (H:Hp) (Q:VK) (zz3:XK):Prop where
 | mk (x n ps:_) (zh0:vs=[x]) (zh1:Is H x (ordD n ps)) (zh2:Ord n ps) (zh3:∀ v H',Same H H'→Is H' v (barD n ps)→Q v H'):sp_bar_full vs H Q zz3
theorem ok_bar (T:Txt K mg t):FnOk P w K mg base CX0 6 t.a_bar t.d_bar ["order"] sp_bar_full:=by
 refine T.F_bar.ok sc_bar (fun vs H Q E h=>?_) (fun cdv A outer s H vs Q E hr h=>?_)
 ·obtain ⟨x,n,ps,rfl,_⟩:=h
  rfl
 ·obtain ⟨x,n,ps,rfl,hx,ho,q⟩:=h
  refine ⟨_,(pss_cons (ps_expr (pe_call (ok_need_order T) (hr.mono (by decide)) rfl T.m_need_order T.F_need_order.kp T.b_need_order .nil pass0 (pa_cons (pv 0) pa_nil)))
   (pss_cons (ps_set (i:=1) sc_bar.nd rfl (Or.inl rfl) (pe_call (ok_first_two T) (hr.mono (by decide)) rfl T.m_first_two T.F_first_two.kp T.b_first_two .nil pass0 (pa_cons (pe_ix (k_ix K) (pv 0) pe_int (fun _ _=>rfl)) pa_nil)))
   (pss_cons (ps_if (pt_cmpR o_isN (pv 1) pe_non (nomark _)) (pss_one (ps_set (i:=1) sc_bar.nd rfl (Or.inl rfl) (pe_call (ok_first_three T) (hr.mono (by decide)) rfl T.m_first_three T.F_first_three.kp T.b_first_three .nil pass0 (pa_cons (pe_ix (k_ix K) (pv 0) pe_int (fun _ _=>rfl)) (pa_cons (pe_ix (k_ix K) (pv 0) pe_int (fun _ _=>rfl)) pa_nil))))) pss_nil)
   (pss_one (ps_ret (pv 1)))))),?_⟩
  walk_at "rd"
  refine ⟨_,_,rfl,hx,ho.okd,ho.yes,fun H1 s1=>?_⟩
  obtain ⟨a,b,xs,rfl,ea,eb,hxs⟩:=is_ord (hx.same s1)
  walk_at "rd"
  refine ⟨_,ps,rfl,.tup eb hxs,fun v H2 s2 iv=>?_⟩
  have ea2:=s2 _ _ ea
  have eb2:=s2 _ _ eb
  unfold barD at q
  cases e2:f2 ps with
  | some l=>
   rw [e2] at iv q
   unfold tagD at iv
   cases iv with
   | @tup r ys _ er hys=>
   walk_at "rd"
   exact q _ H2 (s1.trans s2) (.tup er hys)
  | none=>
   rw [e2] at iv q
   unfold tagD at iv
   cases iv with
   | non=>
   walk_at "rd"
   refine ⟨_,ps,n,rfl,ho.hi,.tup eb2 (hxs.same s2),fun v H3 s3 iv=>?_⟩
   walk_at "rd"
   exact q v H3 ((s1.trans s2).trans s3) iv
noncomputable def bar2L (ps:List (Int×Int)):Bool:=ps.any fun p=>ps.any fun q=>bar2B ps p.1 p.2 q.1 q.2
noncomputable def bar3L (n:Nat) (ps:List (Int×Int)):Bool:=ps.any fun p=>(List.range n).any fun c=>(List.range n).any fun d=>bar3B ps p.1 p.2 c d
noncomputable def barB (n:Nat) (ps:List (Int×Int)):Bool:=bar2L ps||bar3L n ps
theorem f2_none {ps:List (Int×Int)}:f2 ps=none↔bar2L ps=false:=by
 unfold f2 bar2L f2i
 rw [List.findSome?_eq_none_iff,List.any_eq_false]
 refine forall_congr' fun p=>forall_congr' fun hp=>?_
 rw [List.findSome?_eq_none_iff,Bool.not_eq_true,List.any_eq_false]
 refine forall_congr' fun q=>forall_congr' fun hq=>?_
 cases bar2B ps p.1 p.2 q.1 q.2 <;> simp
theorem f3_none {n:Nat} {ps:List (Int×Int)}:f3 n ps=none↔bar3L n ps=false:=by
 unfold f3 bar3L f3i
 rw [List.findSome?_eq_none_iff,List.any_eq_false]
 refine forall_congr' fun p=>forall_congr' fun hp=>?_
 rw [List.findSome?_eq_none_iff,Bool.not_eq_true,List.any_eq_false]
 refine forall_congr' fun c=>forall_congr' fun hc=>?_
 rw [List.findSome?_eq_none_iff,Bool.not_eq_true,List.any_eq_false]
 refine forall_congr' fun d=>forall_congr' fun hd=>?_
 cases bar3B ps p.1 p.2 c d <;> simp
theorem barD_no {n:Nat} {ps:List (Int×Int)} (h:barB n ps=false):barD n ps=.none:=by
 unfold barB at h
 rw [Bool.or_eq_false_iff] at h
 unfold barD
 rw [f2_none.mpr h.1,f3_none.mpr h.2]
 rfl
theorem barD_yes {n:Nat} {ps:List (Int×Int)} (h:barB n ps=true):∃ ds,barD n ps=.tuple ds:=by
 unfold barB at h
 unfold barD
 cases e2:f2 ps with
 | some l=>exact ⟨_,rfl⟩
 | none=>
  rw [f2_none.mp e2,Bool.false_or] at h
  cases e3:f3 n ps with
  | some l=>exact ⟨_,rfl⟩
  | none=>rw [f3_none.mp e3] at h;cases h
end
end My
namespace My
open PySem L2
section
variable {P:Program} {w:World} {K:PySem.W.Frag} {mg:Str→Option Value} {base:Heap} {t:Ad}
set_option genSizeOf false in
set_option genInjectivity false in
inductive sp_is_step (vs:List V) (H:Hp) (Q:VK) (zz3:XK):Prop where
 | mk (x d:_) (zh0:vs=[x]) (zh1:Is H x d) (zh2:Q (.bl (wholeB d 1 999)) H):sp_is_step vs H Q zz3
theorem ok_is_step (T:Txt K mg t):FnOk P w K mg base CX0 2 t.a_is_step t.d_is_step ["value"] sp_is_step:=by
 refine T.F_is_step.ok sc_is_step (fun vs H Q E h=>?_) (fun cdv A outer s H vs Q E hr h=>?_)
 ·obtain ⟨x,d,rfl,_⟩:=h
  rfl
 ·obtain ⟨x,d,rfl,hx,q⟩:=h
  refine ⟨_,(pss_one (ps_ret (pe_call (ok_is_whole T) (hr.mono (by decide)) rfl T.m_is_whole T.F_is_whole.kp T.b_is_whole .nil pass0 (pa_cons (pv 0) (pa_cons pe_int (pa_cons (pe_gint rfl T.c_MOST_STEP) pa_nil)))))),?_⟩
  walk_at "rd"
  exact ⟨_,_,_,_,rfl,hx,q⟩
noncomputable def numsB (d:PyData) (a b:Int):Bool:=match d with | .tuple ds=>decide (a≤ds.length)&&decide ((ds.length:Int)≤b)&&ds.all (fun d=>wholeB d 0 9999) | _=>false
set_option genSizeOf false in
set_option genInjectivity false in
inductive sp_is_numbers (vs:List V) (H:Hp) (Q:VK) (zz3:XK):Prop where
 | mk (x a b d:_) (zh0:vs=[x,.int a,.int b]) (zh1:Is H x d) (zh2:(∀ ds,d=.tuple ds→ds.length≤1000)) (zh3:∀ H',Same H H'→Q (.bl (numsB d a b)) H'):sp_is_numbers vs H Q zz3
theorem ok_is_numbers (T:Txt K mg t):FnOk P w K mg base CX0 2 t.a_is_numbers t.d_is_numbers ["value","fewest","most"] sp_is_numbers:=by
 refine T.F_is_numbers.ok sc_is_numbers (fun vs H Q E h=>?_) (fun cdv A outer s H vs Q E hr h=>?_)
 ·obtain ⟨x,a,b,d,rfl,_⟩:=h
  rfl
 ·obtain ⟨x,a,b,d,rfl,hx,hok,q⟩:=h
  refine ⟨_,(pss_cons (ps_if (PW.pt (pw_or (pt_not (pt_val (pe_callB c_isinst (by rfl) T.n_isinstance bt_isinstance (pa_cons (pv 0) (pa_cons (pe_bltn (v:=.ty "tuple") rfl T.n_tuple bt_tuple rfl) pa_nil))))) (pw_or1 (pt_not (pt_chain op_le op_le (pv 1) (pe_callB (k_len K) (by rfl) T.n_len bt_len (pa_cons (pv 0) pa_nil)) (pv 2)))))) (pss_one (ps_ret pe_bl)) pss_nil)
   (pss_one (ps_ret (pe_callB (k_all K) (by rfl) T.n_all bt_all (pa_cons (pe_lc rfl ⟨True.intro,True.intro,True.intro,True.intro,True.intro⟩ (M:=["number"]) (.own .nil) (gk_name rfl) rfl (by decide +kernel) (k_ptup K (pv 0)) (fun C fp s1 H1=>⟨pg_name (i:=0) (show (["number"]:List Str).Nodup by decide +kernel) rfl (Or.inl rfl),pif_nil,(pe_call (ok_is_whole T) (hr.mono (by decide)) rfl T.m_is_whole T.F_is_whole.kp T.b_is_whole .nil pass0 (pa_cons (pv 0) (pa_cons pe_int (pa_cons (pe_gint rfl T.c_MOST_NUMBER) pa_nil))))⟩)) pa_nil))))),?_⟩
  walk_at "rd"
  by_cases hd:∃ ds,d=.tuple ds
  ·obtain ⟨ds,rfl⟩:=hd
   have hlen:=hok _ rfl
   cases hx with
   | @tup r xs _ e hxs=>
   have hl:=hxs.length
   have qe:numsB (.tuple ds) a b=(decide (a≤ds.length)&&decide ((ds.length:Int)≤b)&&ds.all (fun d=>wholeB d 0 9999)):=rfl
   rw [qe] at q
   walk_at "rd"
   refine ifB (fun h1=>?_) (fun h1=>?_)
   ·walk_at "rd"
    rw [hl] at h1
    refine ifB (fun h2=>?_) (fun h2=>?_)
    ·walk_at "rd"
     have q':=q H (Same.refl H)
     have h2':decide ((ds.length:Int)≤b)=false:=by rw [hl] at h2;simpa using h2
     rw [h2',Bool.and_false,Bool.false_and] at q'
     exact q'
    ·walk_at "rd"
     have h2':decide ((ds.length:Int)≤b)=true:=by rw [hl] at h2;simpa using h2
     refine ⟨r,rfl,⟨xs,SqT.of e⟩,?_⟩
     refine lp_tup (K:=K) (xs:=xs) (small_ln (by omega)) (fun i zs H'=>H'=H∧zs=((ds.take i).map fun d=>wholeB d 0 9999).map V.bl) ⟨rfl,rfl⟩ (by rintro i ys H' ⟨_,rfl⟩;simp;omega) (fun i zs H' _ h=>by rw [h.1];exact SqT.of e) ?_ ?_
     ·rintro i x zs H' hx ⟨rfl,rfl⟩
      obtain ⟨d,ed,id⟩:=hxs.get' hx
      walk_at "rd"
      refine ⟨_,_,_,_,rfl,id,rfl,?_⟩
      rw [List.take_add_one,ed,List.map_append,List.map_append]
      rfl
     ·rintro zs H' ⟨rfl,rfl⟩ p hp
      walk_at "rd"
      refine rd_all upd_same ?_
      rw [hl,List.take_length,List.all_map]
      have q':=q _ (Same.upd (o:=.lst ((ds.map fun d=>wholeB d 0 9999).map V.bl)) hp)
      rw [h1,h2'] at q'
      exact q'
   ·walk_at "rd"
    rw [hl] at h1
    have q':=q H (Same.refl H)
    rw [h1,Bool.false_and,Bool.false_and] at q'
    exact q'
  ·have hd':∀ ds,d≠.tuple ds:=fun ds e=>hd ⟨ds,e⟩
   rw [isTup_no hd']
   walk_at "rd"
   have q':=q H (Same.refl H)
   have e:numsB d a b=false:=by
    unfold numsB
    split
    ·exact absurd rfl (hd' _)
    ·rfl
   rw [e] at q'
   exact q'
set_option genSizeOf false in
set_option genInjectivity false in
inductive sp_need_step (vs:List V) (H:Hp) (Q:VK) (zz3:XK):Prop where
 | mk (x d:_) (zh0:vs=[x]) (zh1:Is H x d) (zh2:wholeB d 1 999=true) (zh3:Q .non H):sp_need_step vs H Q zz3
theorem ok_need_step (T:Txt K mg t):FnOk P w K mg base CX0 3 t.a_need_step t.d_need_step ["value"] sp_need_step:=by
 refine T.F_need_step.ok sc_need_step (fun vs H Q E h=>?_) (fun cdv A outer s H vs Q E hr h=>?_)
 ·obtain ⟨x,d,rfl,_⟩:=h
  rfl
 ·obtain ⟨x,d,rfl,hx,ho,q⟩:=h
  refine ⟨_,(pss_one (ps_if (pt_not (pt_val (pe_call (ok_is_step T) (hr.mono (by decide)) rfl T.m_is_step T.F_is_step.kp T.b_is_step .nil pass0 (pa_cons (pv 0) pa_nil)))) (pss_one ps_never) pss_nil)),?_⟩
  walk_at "rd"
  refine ⟨_,_,rfl,hx,?_⟩
  rw [ho]
  walk_at "rd"
  exact q
set_option genSizeOf false in
set_option genInjectivity false in
inductive sp_need_numbers (vs:List V) (H:Hp) (Q:VK) (zz3:XK):Prop where
 | mk (x a b d:_) (zh0:vs=[x,.int a,.int b]) (zh1:Is H x d) (zh2:(∀ ds,d=.tuple ds→ds.length≤1000)) (zh3:numsB d a b=true) (zh4:∀ H',Same H H'→Q .non H'):sp_need_numbers vs H Q zz3
theorem ok_need_numbers (T:Txt K mg t):FnOk P w K mg base CX0 3 t.a_need_numbers t.d_need_numbers ["value","fewest","most"] sp_need_numbers:=by
 refine T.F_need_numbers.ok sc_need_numbers (fun vs H Q E h=>?_) (fun cdv A outer s H vs Q E hr h=>?_)
 ·obtain ⟨x,a,b,d,rfl,_⟩:=h
  rfl
 ·obtain ⟨x,a,b,d,rfl,hx,hok,ho,q⟩:=h
  refine ⟨_,(pss_one (ps_if (pt_not (pt_val (pe_call (ok_is_numbers T) (hr.mono (by decide)) rfl T.m_is_numbers T.F_is_numbers.kp T.b_is_numbers .nil pass0 (pa_cons (pv 0) (pa_cons (pv 1) (pa_cons (pv 2) pa_nil)))))) (pss_one ps_never) pss_nil)),?_⟩
  walk_at "rd"
  refine ⟨_,_,_,_,rfl,hx,hok,fun H' s'=>?_⟩
  rw [ho]
  walk_at "rd"
  exact q H' s'
end
end My
namespace My
open PySem L2
section
variable {P:Program} {w:World} {K:PySem.W.Frag} {mg:Str→Option Value} {base:Heap} {t:Ad}
noncomputable def dem (ps:List (Int×Int)) (st i j:Int):Option Int:=if has ps i j=true then some st else if has ps j i=true then none else some (1 - st)
noncomputable def oV:Option Int→V
 | some k=>.int k
 | none=>.non
set_option genSizeOf false in
set_option genInjectivity false in
inductive sp_demand (vs:List V) (H:Hp) (Q:VK) (zz3:XK):Prop where
 | mk (x ps st i j:_) (zh0:vs=[x,.int st,.int i,.int j]) (zh1:Is H x (.tuple (ps.map prD))) (zh2:∀ H',Same H H'→Q (oV (dem ps st i j)) H'):sp_demand vs H Q zz3
noncomputable abbrev Dm:=Nat×Nat×Int
noncomputable def trD (d:Dm):PyData:=.tuple [.int d.1,.int d.2.1,.int d.2.2]
noncomputable def dmI (ps:List (Int×Int)) (st:Int) (i j:Nat):List Dm:=if i=j then [] else match dem ps st i j with | some k=>[(i,j,k)] | none=>[]
noncomputable def dmRow (ps:List (Int×Int)) (st:Int) (i m:Nat):List Dm:=(List.range m).flatMap (dmI ps st i)
noncomputable def dmAll (n:Nat) (ps:List (Int×Int)) (st:Int) (m:Nat):List Dm:=(List.range m).flatMap fun i=>dmRow ps st i n
theorem grow {H:Hp} {l p:Addr} {xs ys:List V} {d:PyData} {ds:List PyData} (hn:noLs ds=true) (hl:H l=some (.lst xs)) (hp:H p=none) (h:IsAll H xs ds) (hd:Is (upd (upd H p (.tup ys)) l (.lst (xs++[.ref p]))) (.ref p) d):
  IsAll (upd (upd H p (.tup ys)) l (.lst (xs++[.ref p]))) (xs++[.ref p]) (ds++[d]):=by
 refine IsAll.snoc (h.tmono (fun a zs e=>?_) hn) hd
 have h1:a≠l:=ne_of e hl (by intro z;cases z)
 have h2:a≠p:=ne_of_none e hp
 rw [upd_ne h1,upd_ne h2]
 exact e
set_option genSizeOf false in
set_option genInjectivity false in
inductive sp_all_demands (vs:List V) (H:Hp) (Q:VK) (zz3:XK):Prop where
 | mk (x n ps st:_) (zh0:vs=[x,.int st]) (zh1:Is H x (ordD n ps)) (zh2:n≤8) (zh3:∀ l xs H',Same H H'→H l=none→H' l=some (.lst xs)→IsAll H' xs ((dmAll n ps st n).map trD)→Q (.ref l) H'):sp_all_demands vs H Q zz3
noncomputable abbrev Rs:=List Int×List V×V
noncomputable def rel1 (s:Rs) (d:Dm):Rs:=if s.1.getD d.1 0 + d.2.2 > s.1.getD d.2.1 0 then (s.1.set d.2.1 (s.1.getD d.1 0 + d.2.2),s.2.1.set d.2.1 (.int d.1),.int d.2.1) else s
noncomputable def run1 (ds:List Dm) (vals:List Int) (orgs:List V):Rs:=ds.foldl rel1 (vals,orgs,.non)
theorem rel1_len (s:Rs) (d:Dm):(rel1 s d).1.length=s.1.length∧(rel1 s d).2.1.length=s.2.1.length:=by
 unfold rel1
 split
 ·simp
 ·exact ⟨rfl,rfl⟩
theorem fold_len:∀ (ds:List Dm) (s:Rs),(ds.foldl rel1 s).1.length=s.1.length∧(ds.foldl rel1 s).2.1.length=s.2.1.length
 | [],s=>⟨rfl,rfl⟩
 | d::ds,s=>by
  rw [List.foldl_cons]
  have h:=fold_len ds (rel1 s d)
  have g:=rel1_len s d
  exact ⟨h.1.trans g.1,h.2.trans g.2⟩
noncomputable def SameB (v o:Addr) (H H':Hp):Prop:=∀ b u,H b=some u→b≠v→b≠o→H' b=some u
structure Vals2 (H:Hp) (v o:Addr) (vals:List Int) (orgs:List V) (n:Nat):Prop where
 hv:H v=some (.lst (vals.map V.int))
 ho:H o=some (.lst orgs)
 lv:vals.length=n
 lo:orgs.length=n
noncomputable def dmOk (n:Nat) (ds:List Dm):Prop:=∀ d∈ds,d.1 < n∧d.2.1 < n
theorem SameB.refl {v o:Addr} (H:Hp):SameB v o H H:=fun _ _ h _ _=>h
theorem SameB.trans {v o:Addr} {H H1 H2:Hp} (a:SameB v o H H1) (b:SameB v o H1 H2):SameB v o H H2:=fun c u h h1 h2=>b c u (a c u h h1 h2) h1 h2
set_option genSizeOf false in
set_option genInjectivity false in
inductive sp_raise_once (vs:List V) (H:Hp) (Q:VK) (zz3:XK):Prop where
 | mk (l v o ds vals orgs n xs:_) (zh0:vs=[.ref l,.ref v,.ref o]) (zh1:H l=some (.lst xs)) (zh2:IsAll H xs (ds.map trD)) (zh3:Vals2 H v o vals orgs n) (zh4:l≠v) (zh5:l≠o) (zh6:v≠o) (zh7:dmOk n ds) (zh8:∀ H',SameB v o H H'→Vals2 H' v o (run1 ds vals orgs).1 (run1 ds vals orgs).2.1 n→Q (run1 ds vals orgs).2.2 H'):sp_raise_once vs H Q zz3
theorem getD_map {vals:List Int} {i:Nat} (hi:i < vals.length):(vals.map V.int)[i]? =some (.int (vals.getD i 0)):=by
 rw [List.getElem?_map]
 simp [hi]
theorem set_map (vals:List Int) (i:Nat) (k:Int):(vals.map V.int).set i (.int k)=(vals.set i k).map V.int:=by
 rw [List.map_set]
end
end My
namespace My
open PySem L2
section
variable {P:Program} {w:World} {K:PySem.W.Frag} {mg:Str→Option Value} {base:Heap} {t:Ad}
theorem run1_len (ds:List Dm) (vals:List Int) (orgs:List V):(run1 ds vals orgs).1.length=vals.length∧(run1 ds vals orgs).2.1.length=orgs.length:=fold_len ds _
noncomputable def rounds (ds:List Dm):Nat→List Int→List V→V→Rs
 | 0,vals,orgs,r=>(vals,orgs,r)
 | k + 1,vals,orgs,_=>if (run1 ds vals orgs).2.2=.non then ((run1 ds vals orgs).1,(run1 ds vals orgs).2.1,.non) else rounds ds k (run1 ds vals orgs).1 (run1 ds vals orgs).2.1 (run1 ds vals orgs).2.2
set_option genSizeOf false in
set_option genInjectivity false in
inductive sp_raise_all (vs:List V) (H:Hp) (Q:VK) (zz3:XK):Prop where
 | mk (l v o ds vals orgs n xs:_) (zh0:vs=[.ref l,.ref v,.ref o]) (zh1:n≤8) (zh2:H l=some (.lst xs)) (zh3:IsAll H xs (ds.map trD)) (zh4:Vals2 H v o vals orgs n) (zh5:l≠v) (zh6:l≠o) (zh7:v≠o) (zh8:dmOk n ds) (zh9:∀ H',SameB v o H H'→Vals2 H' v o (rounds ds n vals orgs .non).1 (rounds ds n vals orgs .non).2.1 n→Q (rounds ds n vals orgs .non).2.2 H'):sp_raise_all vs H Q zz3
noncomputable def lv (n:Nat) (ds:List Dm):Option (List Int):=if (rounds ds n (List.replicate n 0) (List.replicate n .non) .non).2.2=.non then some (rounds ds n (List.replicate n 0) (List.replicate n .non) .non).1 else none
noncomputable def Ans (Q:VK) (H':Hp):Option (List Int)→Prop
 | none=>Q .non H'
 | some vals=>∀ p,H' p=some (.tup (vals.map V.int))→Q (.ref p) H'
set_option genSizeOf false in
set_option genInjectivity false in
inductive sp_least_values (vs:List V) (H:Hp) (Q:VK) (zz3:XK):Prop where
 | mk (l ds n xs:_) (zh0:vs=[.int (n:Nat),.ref l]) (zh1:n≤8) (zh2:H l=some (.lst xs)) (zh3:IsAll H xs (ds.map trD)) (zh4:dmOk n ds) (zh5:∀ H',Same H H'→Ans Q H' (lv n ds)):sp_least_values vs H Q zz3
theorem dmI_ok {n:Nat} {ps:List (Int×Int)} {st:Int} {i j:Nat} (hi:i < n) (hj:j < n):dmOk n (dmI ps st i j):=by
 intro d hd
 unfold dmI at hd
 split at hd
 ·cases hd
 ·split at hd
  ·rcases List.mem_singleton.mp hd with rfl
   exact ⟨hi,hj⟩
  ·cases hd
theorem dmAll_ok (n:Nat) (ps:List (Int×Int)) (st:Int):dmOk n (dmAll n ps st n):=by
 intro d hd
 obtain ⟨i,hi,hd⟩:=List.mem_flatMap.mp hd
 obtain ⟨j,hj,hd⟩:=List.mem_flatMap.mp hd
 exact dmI_ok (List.mem_range.mp hi) (List.mem_range.mp hj) d hd
noncomputable def nums (n:Nat) (ps:List (Int×Int)) (st:Int):Option (List Int):=lv n (dmAll n ps st n)
end
end My
namespace My
open PySem L2
section
variable {P:Program} {w:World} {K:PySem.W.Frag} {mg:Str→Option Value} {base:Heap} {t:Ad}
noncomputable def tlI (st:Int) (vals:List Int) (i j:Nat):List (Int×Int):=if vals.getD j 0 - vals.getD i 0≥st then [((i:Int),(j:Int))] else []
noncomputable def tlRow (st:Int) (vals:List Int) (i m:Nat):List (Int×Int):=(List.range m).flatMap (tlI st vals i)
noncomputable def tlAll (st:Int) (vals:List Int) (m:Nat):List (Int×Int):=(List.range m).flatMap fun i=>tlRow st vals i vals.length
noncomputable def toldL (st:Int) (vals:List Int):List (Int×Int):=tlAll st vals vals.length
theorem tlRow_succ (st:Int) (vals:List Int) (i m:Nat):tlRow st vals i (m + 1)=tlRow st vals i m++tlI st vals i m:=by
 unfold tlRow
 rw [List.range_succ,List.flatMap_append]
 simp
theorem tlAll_succ (st:Int) (vals:List Int) (m:Nat):tlAll st vals (m + 1)=tlAll st vals m++tlRow st vals m vals.length:=by
 unfold tlAll
 rw [List.range_succ,List.flatMap_append]
 simp
theorem tlI_len (st:Int) (vals:List Int) (i j:Nat):(tlI st vals i j).length≤1:=by
 unfold tlI
 split
 ·exact Nat.le_refl _
 ·exact Nat.zero_le _
theorem tlRow_len (st:Int) (vals:List Int) (i:Nat):∀ m,(tlRow st vals i m).length≤m
 | 0=>Nat.le_refl _
 | m + 1=>by
  rw [tlRow_succ,List.length_append]
  have:=tlRow_len st vals i m
  have:=tlI_len st vals i m
  omega
theorem tlAll_len (st:Int) (vals:List Int):∀ m,(tlAll st vals m).length≤m * vals.length
 | 0=>Nat.zero_le _
 | m + 1=>by
  rw [tlAll_succ,List.length_append,Nat.succ_mul]
  have:=tlAll_len st vals m
  have:=tlRow_len st vals m vals.length
  omega
theorem noLs_pr:∀ ds:List (Int×Int),noLs (ds.map prD)=true
 | []=>rfl
 | d::ds=>by
  rw [List.map_cons,noLs,noLs_pr ds]
  rfl
theorem eqvAll_pr:∀ ps qs:List (Int×Int),PyData.eqvAll (ps.map prD) (qs.map prD)=decide (ps=qs)
 | [],[]=>rfl
 | [],_::_=>rfl
 | _::_,[]=>rfl
 | p::ps,q::qs=>by
  rw [List.map_cons,List.map_cons,PyData.eqvAll,eqv_pr,eqvAll_pr ps qs]
  by_cases h:p=q
  ·by_cases h2:ps=qs
   ·subst h h2;simp
   ·simp [h,h2]
  ·simp [h]
theorem ok_prT (ps:List (Int×Int)):okD (.tuple (ps.map prD)):=by
 have h:=ok_prs ps
 refine ⟨?_,?_⟩
 ·rw [PyData.canLay0];exact h.1
 ·rw [PyData.depth]
  have:PyData.depthAll (ps.map prD)≤1:=by
   clear h
   induction ps with
   | nil=>exact Nat.zero_le _
   | cons p ps ih=>
    rw [List.map_cons,PyData.depthAll]
    exact Nat.max_le.mpr ⟨Nat.le_refl _,ih⟩
  omega
noncomputable abbrev ltP (p q:Int×Int):Prop:=HT.lexLt [p.1,p.2] [q.1,q.2]=true
theorem ltP_of {p q:Int×Int} (h:p.1 < q.1∨(p.1=q.1∧p.2 < q.2)):ltP p q:=by
 show HT.lexLt [p.1,p.2] [q.1,q.2]=true
 rw [HT.lexLt_cons]
 rcases h with h | ⟨h1,h2⟩
 ·rw [if_neg (by omega)]
  exact decide_eq_true h
 ·rw [if_pos h1,HT.lexLt_cons,if_neg (by omega)]
  exact decide_eq_true h2
theorem mem_tlI {st:Int} {vals:List Int} {i j:Nat} {p:Int×Int}:p∈tlI st vals i j↔p=((i:Int),(j:Int))∧vals.getD j 0 - vals.getD i 0≥st:=by
 unfold tlI
 split
 ·rename_i h
  rw [List.mem_singleton]
  exact ⟨fun e=>⟨e,h⟩,fun e=>e.1⟩
 ·rename_i h
  constructor
  ·intro e;cases e
  ·intro e;exact absurd e.2 h
theorem mem_tlRow {st:Int} {vals:List Int} {i m:Nat} {p:Int×Int}:p∈tlRow st vals i m↔∃ j,j < m∧p=((i:Int),(j:Int))∧vals.getD j 0 - vals.getD i 0≥st:=by
 unfold tlRow
 rw [List.mem_flatMap]
 constructor
 ·rintro ⟨j,hj,h⟩
  exact ⟨j,List.mem_range.mp hj,mem_tlI.mp h⟩
 ·rintro ⟨j,hj,h⟩
  exact ⟨j,List.mem_range.mpr hj,mem_tlI.mpr h⟩
theorem mem_tlAll {st:Int} {vals:List Int} {m:Nat} {p:Int×Int}:p∈tlAll st vals m↔∃ i j,i < m∧j < vals.length∧p=((i:Int),(j:Int))∧vals.getD j 0 - vals.getD i 0≥st:=by
 unfold tlAll
 rw [List.mem_flatMap]
 constructor
 ·rintro ⟨i,hi,h⟩
  obtain ⟨j,hj,e,g⟩:=mem_tlRow.mp h
  exact ⟨i,j,List.mem_range.mp hi,hj,e,g⟩
 ·rintro ⟨i,j,hi,hj,e,g⟩
  exact ⟨i,List.mem_range.mpr hi,mem_tlRow.mpr ⟨j,hj,e,g⟩⟩
theorem has_told {st:Int} {vals:List Int} {i j:Nat} (hi:i < vals.length) (hj:j < vals.length):has (toldL st vals) i j=decide (vals.getD j 0 - vals.getD i 0≥st):=by
 unfold has
 congr 1
 apply propext
 unfold toldL
 rw [mem_tlAll]
 constructor
 ·rintro ⟨a,b,_,_,e,g⟩
  have e1:(i:Int)=a:=congrArg Prod.fst e
  have e2:(j:Int)=b:=congrArg Prod.snd e
  have:i=a:=by omega
  have:j=b:=by omega
  subst_vars
  exact g
 ·intro g
  exact ⟨i,j,hi,hj,rfl,g⟩
theorem row_up (st:Int) (vals:List Int) (i:Nat):∀ m,(tlRow st vals i m).Pairwise ltP
 | 0=>.nil
 | m + 1=>by
  rw [tlRow_succ,List.pairwise_append]
  refine ⟨row_up st vals i m,?_,fun p hp q hq=>?_⟩
  ·unfold tlI
   split
   ·exact List.pairwise_singleton _ _
   ·exact .nil
  ·obtain ⟨j,hj,rfl,_⟩:=mem_tlRow.mp hp
   obtain ⟨rfl,_⟩:=mem_tlI.mp hq
   exact ltP_of (.inr ⟨rfl,by show (j:Int) < m;omega⟩)
theorem all_up (st:Int) (vals:List Int):∀ m,(tlAll st vals m).Pairwise ltP
 | 0=>.nil
 | m + 1=>by
  rw [tlAll_succ,List.pairwise_append]
  refine ⟨all_up st vals m,row_up st vals m _,fun p hp q hq=>?_⟩
  obtain ⟨i,j,hi,hj,rfl,_⟩:=mem_tlAll.mp hp
  obtain ⟨j',_,rfl,_⟩:=mem_tlRow.mp hq
  exact ltP_of (.inl (by show (i:Int) < m;omega))
theorem rising_of:∀ {ps:List (Int×Int)},ps.Pairwise ltP→risingB ps=true
 | [],_=>rfl
 | [_],_=>rfl
 | a::b::r,h=>by
  rw [risingB,rising_of (List.pairwise_cons.mp h).2,(List.pairwise_cons.mp h).1 b List.mem_cons_self]
  rfl
theorem row_len {st:Int} (hs:1≤st) {vals:List Int} {i:Nat}:∀ m,i < m→(tlRow st vals i m).length + 1≤m
 | 0,h=>by omega
 | m + 1,h=>by
  rw [tlRow_succ,List.length_append]
  by_cases e:i=m
  ·subst e
   have:tlI st vals i i=[]:=by
    unfold tlI
    rw [if_neg (by omega)]
   rw [this]
   have:=tlRow_len st vals i i
   simp only [List.length_nil]
   omega
  ·have a:=row_len (i:=i) hs (vals:=vals) m (by omega)
   have b:=tlI_len st vals i m
   omega
theorem all_len {st:Int} (hs:1≤st) {vals:List Int}:∀ m,m≤vals.length→(tlAll st vals m).length + m≤m * vals.length
 | 0,_=>by simp [tlAll]
 | m + 1,h=>by
  rw [tlAll_succ,List.length_append,Nat.succ_mul]
  have a:=all_len hs (vals:=vals) m (by omega)
  have b:=row_len hs (vals:=vals) (i:=m) vals.length (by omega)
  omega
theorem told_len {st:Int} (hs:1≤st) {vals:List Int} (h1:1≤vals.length) (h8:vals.length≤8):(toldL st vals).length < 64:=by
 have a:=all_len hs (vals:=vals) vals.length (Nat.le_refl _)
 have b:vals.length * vals.length≤8 * 8:=Nat.mul_le_mul h8 h8
 unfold toldL
 omega
theorem told_ord {st:Int} (hs:1≤st) {vals:List Int} (h1:1≤vals.length) (h8:vals.length≤8):Ord vals.length (toldL st vals) where
 lo:=h1
 hi:=h8
 ix:=fun p hp=>by
  obtain ⟨i,j,hi,hj,rfl,g⟩:=mem_tlAll.mp hp
  refine ⟨by show (0:Int)≤i;omega,by show (i:Int) < vals.length;omega,by show (0:Int)≤j;omega,by show (j:Int) < vals.length;omega,?_⟩
  intro e
  have e':(i:Int)=j:=e
  have:i=j:=by omega
  subst this
  omega
 up:=rising_of (all_up st vals _)
 sz:=by
  have:=told_len hs h1 h8
  omega
theorem sorted_one {α:Type} {lt:α→α→Prop} (as:∀ a b,lt a b→¬lt b a):∀ {l1 l2:List α},l1.Perm l2→l1.Pairwise lt→l2.Pairwise lt→l1=l2
 | [],l2,h,_,_=>(List.nil_perm.mp h).symm
 | a::t1,[],h,_,_=>by
  have:=h.length_eq
  simp at this
 | a::t1,b::t2,h,p1,p2=>by
  have e:a=b:=by
   apply Classical.byContradiction
   intro hne
   have ha:a∈t2:=by
    rcases List.mem_cons.mp (h.mem_iff.mp List.mem_cons_self) with g | g
    ·exact absurd g hne
    ·exact g
   have hb:b∈t1:=by
    rcases List.mem_cons.mp (h.mem_iff.mpr List.mem_cons_self) with g | g
    ·exact absurd g.symm hne
    ·exact g
   exact as a b ((List.pairwise_cons.mp p1).1 b hb) ((List.pairwise_cons.mp p2).1 a ha)
  subst e
  rw [sorted_one as (List.Perm.cons_inv h) (List.pairwise_cons.mp p1).2 (List.pairwise_cons.mp p2).2]
end
end My
namespace My
open PySem L2
section
variable {P:Program} {w:World} {K:PySem.W.Frag} {mg:Str→Option Value} {base:Heap} {t:Ad}
set_option genSizeOf false in
set_option genInjectivity false in
inductive sp_told_pairs (vs:List V) (H:Hp) (Q:VK) (zz3:XK):Prop where
 | mk (a st vals:_) (zh0:vs=[.int st,.ref a]) (zh1:H a=some (.tup (vals.map V.int))) (zh2:vals.length≤8) (zh3:∀ p H',Same H H'→Is H' (.ref p) (.tuple ((toldL st vals).map prD))→Q (.ref p) H'):sp_told_pairs vs H Q zz3
theorem ok_told_pairs (T:Txt K mg t):FnOk P w K mg base CX0 1 t.a_told_pairs t.d_told_pairs ["step","numbers"] sp_told_pairs:=by
 refine T.F_told_pairs.ok sc_told_pairs (fun vs H Q E h=>?_) (fun cdv A outer s H vs Q E hr h=>?_)
 ·obtain ⟨a,st,vals,rfl,_⟩:=h
  rfl
 ·obtain ⟨a,st,vals,rfl,ea,hn,q⟩:=h
  refine ⟨_,(pss_cons (ps_set (i:=2) sc_told_pairs.nd rfl (Or.inl rfl) (pe_lst pa_nil))
   (pss_cons (ps_for PassesOwn.never rfl (pi_range1 rfl T.n_range (pa_cons (pe_callB (k_len K) (by rfl) T.n_len bt_len (pa_cons (pv 1) pa_nil)) pa_nil)) (pg_name (i:=3) sc_told_pairs.nd rfl (Or.inl rfl)) (pss_one (ps_for PassesOwn.never rfl (pi_range1 rfl T.n_range (pa_cons (pe_callB (k_len K) (by rfl) T.n_len bt_len (pa_cons (pv 1) pa_nil)) pa_nil)) (pg_name (i:=4) sc_told_pairs.nd rfl (Or.inl rfl)) (pss_one (ps_if (pt_cmpR (op_ge) (pe_op op_sub (pe_ix (k_ix K) (pv 1) (pv 4) (fun _ _=>rfl)) (pe_ix (k_ix K) (pv 1) (pv 3) (fun _ _=>rfl))) (pv 0) (nomark _)) (pss_one (ps_expr (k_bm K PySem.F.plainAttrs_list PySem.F.slot_list_append PySem.F.type_list_append mt_append (pv 2) (pa_cons (pe_tup (pa_cons (pv 3) (pa_cons (pv 4) pa_nil))) pa_nil)))) pss_nil)))))
   (pss_one (ps_ret (pe_callTy (k_tuple K) (by rfl) T.n_tuple bt_tuple (pa_cons (pv 2) pa_nil)))))),?_⟩
  walk_at "rd"
  refine ⟨Nat.zero_le _,fun l hl=>?_⟩
  have s0:=Same.upd (o:=.lst []) hl
  have ea0:=s0 _ _ ea
  walk_at "rd"
  rw [List.length_map]
  refine ⟨_,rfl,by omega,by omega,?_⟩
  rw [Int.toNat_natCast]
  refine fp_range (fun i σ H'=>(∃ va vb,σ=[some (.int st),some (.ref a),some (.ref l),va,vb])∧Same H H'∧∃ zs,H' l=some (.lst zs)∧IsAll H' zs ((tlAll st vals i).map prD)) ⟨⟨_,_,rfl⟩,s0,[],upd_same,.nil⟩ ?_ ?_
  ·rintro i σ H1 hi ⟨⟨va,vb,rfl⟩,s1,zs,hz,iz⟩
   have ea1:=s1 _ _ ea
   walk_at "rd"
   rw [List.length_map]
   refine ⟨_,rfl,by omega,by omega,?_⟩
   rw [Int.toNat_natCast]
   refine fp_range (fun j σ H'=>(∃ vb,σ=[some (.int st),some (.ref a),some (.ref l),some (.int (0 + i)),vb])∧Same H H'∧∃ zs,H' l=some (.lst zs)∧IsAll H' zs ((tlAll st vals i++tlRow st vals i j).map prD)) ⟨⟨_,rfl⟩,s1,zs,hz,by simpa [tlRow] using iz⟩ ?_ ?_
   ·rintro j σ H2 hj ⟨⟨vb,rfl⟩,s2,zs2,hz2,iz2⟩
    have ea2:=s2 _ _ ea
    have dE:tlAll st vals i++tlRow st vals i (j + 1)=tlAll st vals i++tlRow st vals i j++tlI st vals i j:=by rw [tlRow_succ,List.append_assoc]
    rw [dE]
    walk_at "rd"
    refine rd_ixT ea2 (atI_of (Int.zero_add _) (getD_map hj)) ?_
    walk_at "rd"
    refine rd_ixT ea2 (atI_of (Int.zero_add _) (getD_map hi)) ?_
    walk_at "rd"
    refine ifB (fun h1=>?_) (fun h1=>?_)
    ·have h1':vals.getD j 0 - vals.getD i 0≥st:=of_decide_eq_true h1
     walk_at "rd"
     refine ⟨tyV_lst hz2,?_⟩
     walk_at "rd"
     refine ⟨two_ln,fun p hp=>?_⟩
     have hlp:l≠p:=ne_of_none hz2 hp
     have hlen:zs2.length≤8 * 8 + 8:=by
      rw [iz2.length,List.length_map,List.length_append]
      have h1:=tlAll_len st vals i
      have h2:=tlRow_len st vals i j
      have h3:i * vals.length≤8 * 8:=Nat.mul_le_mul (by omega) hn
      omega
     walk_at "rd"
     refine rd_append (xs:=zs2) ?_ (small1000 (by omega)) ?_
     ·rw [upd_ne hlp]
      exact hz2
     walk_at "rd"
     refine ⟨⟨_,rfl⟩,fun c u e=>?_,_,upd_same,?_⟩
     ·have e3:=s2 c u e
      rw [upd_ne (ne_of_none e hl),upd_ne (ne_of_none e3 hp)]
      exact e3
     ·have e1:tlI st vals i j=[((i:Int),(j:Int))]:=by unfold tlI;rw [if_pos h1']
      rw [e1,List.map_append,Int.zero_add,Int.zero_add]
      refine grow (noLs_pr _) hz2 hp iz2 (.tup ?_ (.cons (.int _) (.cons (.int _) .nil)))
      rw [upd_ne (Ne.symm hlp),upd_same]
    ·have h1':¬vals.getD j 0 - vals.getD i 0≥st:=of_decide_eq_false h1
     walk_at "rd"
     refine ⟨⟨_,rfl⟩,s2,zs2,hz2,?_⟩
     unfold tlI
     rw [if_neg h1',List.append_nil]
     exact iz2
   ·rintro σ H2 ⟨⟨vb,rfl⟩,s2,zs2,hz2,iz2⟩
    exact ⟨⟨_,_,rfl⟩,s2,zs2,hz2,by rw [tlAll_succ];exact iz2⟩
  ·rintro σ H1 ⟨⟨va,vb,rfl⟩,s1,zs,hz,iz⟩
   walk_at "rd"
   intro p hp
   have s2:=Same.upd (o:=.tup zs) hp
   exact q p _ (s1.trans s2) (.tup upd_same (iz.same s2))
end
end My
namespace My
open PySem L2
section
variable {P:Program} {w:World} {K:PySem.W.Frag} {mg:Str→Option Value} {base:Heap} {t:Ad}
theorem lt_asym (p q:Int×Int):ltP p q→¬ltP q p:=fun h1 h2=>by
 have h2':HT.lexLt [q.1,q.2] [p.1,p.2]=true:=h2
 rw [lex_asym h1] at h2'
 cases h2'
theorem pw_of:∀ {ps:List (Int×Int)},risingB ps=true→ps.Pairwise ltP
 | [],_=>.nil
 | [_],_=>List.pairwise_singleton _ _
 | a::b::r,h=>by
  rw [risingB,Bool.and_eq_true] at h
  have ih:=pw_of h.2
  refine List.pairwise_cons.mpr ⟨fun x hx=>?_,ih⟩
  rcases List.mem_cons.mp hx with rfl | hx
  ·exact h.1
  ·exact lex_tr h.1 ((List.pairwise_cons.mp ih).1 x hx)
theorem pw_ext:∀ {l1 l2:List (Int×Int)},l1.Pairwise ltP→l2.Pairwise ltP→(∀ x,x∈l1↔x∈l2)→l1=l2
 | [],[],_,_,_=>rfl
 | [],b::t,_,_,h=>by cases (h b).mpr List.mem_cons_self
 | a::t,[],_,_,h=>by cases (h a).mp List.mem_cons_self
 | a::t1,b::t2,p1,p2,h=>by
  have q1:=List.pairwise_cons.mp p1
  have q2:=List.pairwise_cons.mp p2
  have e:a=b:=by
   apply Classical.byContradiction
   intro hne
   have ha:a∈t2:=by
    rcases List.mem_cons.mp ((h a).mp List.mem_cons_self) with g | g
    ·exact absurd g hne
    ·exact g
   have hb:b∈t1:=by
    rcases List.mem_cons.mp ((h b).mpr List.mem_cons_self) with g | g
    ·exact absurd g.symm hne
    ·exact g
   exact lt_asym a b (q1.1 b hb) (q2.1 a ha)
  subst e
  have irr:∀ x,ltP a x→x≠a:=fun x hx z=>by subst z;exact lt_asym _ _ hx hx
  rw [pw_ext q1.2 q2.2 fun x=>⟨fun hx=>?_,fun hx=>?_⟩]
  ·rcases List.mem_cons.mp ((h x).mp (List.mem_cons_of_mem _ hx)) with g | g
   ·exact absurd g (irr x (q1.1 x hx))
   ·exact g
  ·rcases List.mem_cons.mp ((h x).mpr (List.mem_cons_of_mem _ hx)) with g | g
   ·exact absurd g (irr x (q2.1 x hx))
   ·exact g
theorem has_iff {ps:List (Int×Int)} {i j:Int}:has ps i j=true↔(i,j)∈ps:=by
 unfold has
 exact decide_eq_true_iff
theorem nd_of {ps:List (Int×Int)} (h:ps.Pairwise ltP):ps.Nodup:=by
 refine List.Pairwise.imp (fun {a b} hab z=>?_) h
 subst z
 exact lt_asym _ _ hab hab
theorem nat_len:∀ (m:Nat) (l:List Nat),l.Nodup→(∀ x∈l,x < m)→l.length≤m
 | 0,[],_,_=>Nat.le_refl _
 | 0,x::_,_,h=>absurd (h x List.mem_cons_self) (Nat.not_lt_zero _)
 | m + 1,l,nd,h=>by
  by_cases hm:m∈l
  ·have:=nat_len m (l.erase m) (nd.erase m) fun x hx=>by
    have:=(List.Nodup.mem_erase_iff nd).mp hx
    have:=h x this.2
    omega
   rw [List.length_erase_of_mem hm] at this
   omega
  ·have:=nat_len m l nd fun x hx=>by
    have h1:=h x hx
    have:x≠m:=fun z=>hm (z▸hx)
    omega
   omega
noncomputable def inBox (p:Int×Int):Prop:=0≤p.1∧p.1 < 8∧0≤p.2∧p.2 < 8∧p.1≠p.2
theorem small_prs {ps:List (Int×Int)} (nd:ps.Nodup) (h:∀ p∈ps,inBox p):ps.length < 64:=by
 have e:=nat_len 63 (ps.map fun p=>(8 * p.1 + p.2).toNat) (by
  unfold List.Nodup
  rw [List.pairwise_map]
  refine List.Pairwise.imp_of_mem (fun {a b} ha hb hab z=>hab ?_) nd
  obtain ⟨a1,a2,a3,a4,_⟩:=h a ha
  obtain ⟨b1,b2,b3,b4,_⟩:=h b hb
  have:8 * a.1 + a.2=8 * b.1 + b.2:=by omega
  exact Prod.ext (by omega) (by omega)) (fun x hx=>by
  obtain ⟨p,hp,rfl⟩:=List.mem_map.mp hx
  obtain ⟨a1,a2,a3,a4,_⟩:=h p hp
  show (8 * p.1 + p.2).toNat < 63
  omega)
 rw [List.length_map] at e
 omega
noncomputable def inN (n:Nat) (p:Int×Int):Prop:=0≤p.1∧p.1 < n∧0≤p.2∧p.2 < n∧p.1≠p.2
theorem inN.box {n:Nat} (h8:n≤8) {p:Int×Int} (h:inN n p):inBox p:=by
 obtain ⟨a,b,c,d,e⟩:=h
 exact ⟨a,by omega,c,by omega,e⟩
theorem ord_of {n:Nat} {ps:List (Int×Int)} (lo:1≤n) (hi:n≤8) (ix:∀ p∈ps,inN n p) (up:ps.Pairwise ltP):Ord n ps:=
 ⟨lo,hi,ix,rising_of up,Nat.le_of_lt (Nat.lt_of_lt_of_le (small_prs (nd_of up) fun p hp=>(ix p hp).box hi) (by decide))⟩
theorem Ord.box {n:Nat} {ps:List (Int×Int)} (h:Ord n ps) {p:Int×Int} (hp:p∈ps):inBox p:=inN.box h.hi (h.ix p hp)
theorem Ord.in {n:Nat} {ps:List (Int×Int)} (h:Ord n ps) {i j:Int} (g:has ps i j=true):inN n (i,j):=h.ix _ (has_iff.mp g)
theorem eqvAll_ints:∀ as bs:List Int,PyData.eqvAll (as.map .int) (bs.map .int)=decide (as=bs)
 | [],[]=>rfl
 | [],_::_=>rfl
 | _::_,[]=>rfl
 | a::as,b::bs=>by
  rw [List.map_cons,List.map_cons,PyData.eqvAll,eqvAll_ints as bs,PyData.eqv]
  by_cases h:a=b
  ·by_cases h2:as=bs
   ·subst h h2;simp
   ·simp [h,h2]
  ·simp [h]
theorem ok_ints (as:List Int):okD (.list (as.map .int)):=by
 have h1:PyData.canLayAll0 (as.map PyData.int)=true:=by
  induction as with
  | nil=>rfl
  | cons a as ih=>rw [List.map_cons,PyData.canLayAll0,ih];rfl
 have h2:PyData.depthAll (as.map PyData.int)≤0:=by
  clear h1
  induction as with
  | nil=>exact Nat.le_refl _
  | cons a as ih=>rw [List.map_cons,PyData.depthAll];exact Nat.max_le.mpr ⟨Nat.le_refl _,ih⟩
 refine ⟨?_,?_⟩
 ·rw [PyData.canLay0];exact h1
 ·rw [PyData.depth];omega
noncomputable def gI (f:Nat→Nat→Bool) (i j:Nat):List (Int×Int):=if f i j=true then [((i:Int),(j:Int))] else []
end
end My
namespace My
open PySem L2
section
variable {P:Program} {w:World} {K:PySem.W.Frag} {mg:Str→Option Value} {base:Heap} {t:Ad}
set_option genSizeOf false in
set_option genInjectivity false in
inductive sp_cell (K:PySem.W.Frag) (vs:List V) (H:Hp) (Q:VK) (zz3:XK):Prop where
 | mk (a ns k:_) (zh0:vs=[.ref a,.int k]) (zh1:Scr K H a ns) (zh2:0≤k) (zh3:∀ c H',Same H H'→Q (.int c) H'):sp_cell K vs H Q zz3
theorem int_at {ns:List Int} {k:Int} (h0:0≤k) (h1:k < ns.length):atI (ns.map V.int) k=some (.int (ns.getD k.toNat 0)):=by
 refine atI_of (i:=k.toNat) (by omega) ?_
 rw [List.getElem?_map]
 have:k.toNat < ns.length:=by omega
 simp [this]
theorem ok__law_cell_at (T:Txt K mg t):FnOk P w K mg base CX0 1 t.a__law_cell_at t.d__law_cell_at ["_law_script","_law_k"] (sp_cell K):=by
 refine T.F__law_cell_at.ok sc__law_cell_at (fun vs H Q E h=>?_) (fun cdv A outer s H vs Q E hr h=>?_)
 ·obtain ⟨a,ns,k,rfl,_⟩:=h
  rfl
 ·obtain ⟨a,ns,k,rfl,hs,hk,q⟩:=h
  refine ⟨_,(pss_cons (ps_if (pt_cmpR (op_lt) (pv 1) (pe_callB (k_len K) (by rfl) T.n_len bt_len (pa_cons (pv 0) pa_nil)) (nomark _)) (pss_one (ps_ret (pe_ix (k_ix K) (pv 0) (pv 1) (fun _ _=>rfl)))) pss_nil)
   (pss_cons (ps_if (pt_cmpR (k_eqNil K hr.units0) (pv 0) (pe_lst pa_nil) (nomark _)) (pss_one (ps_ret pe_int)) pss_nil)
   (pss_one (ps_ret (pe_op op_add (pe_op op_mul (pe_ix (k_ix K) (pv 0) (pe_op op_mod (pv 1) (pe_callB (k_len K) (by rfl) T.n_len bt_len (pa_cons (pv 0) pa_nil))) (fun _ _=>rfl)) pe_int) (pv 1)))))),?_⟩
  walk_at "rd"
  refine rd_lenS hs.sq ?_
  walk_at "rd"
  refine ifB (fun h1=>?_) (fun h1=>?_)
  ·have h1':=of_decide_eq_true h1
   rw [List.length_map] at h1'
   walk_at "rd"
   refine rd_ixS hs.sq (int_at hk h1') ?_
   exact q _ H (Same.refl H)
  ·walk_at "rd"
   refine ⟨Nat.zero_le _,fun p hp=>?_⟩
   have s1:=Same.upd (o:=.lst []) hp
   walk_at "rd"
   refine ⟨a,p,ns,rfl,rfl,(hs.same s1).sq,SqL.of upd_same,?_⟩
   walk_at "rd"
   refine ifB (fun h2=>?_) (fun h2=>?_)
   ·walk_at "rd"
    exact q _ _ s1
   ·have h2':=of_decide_eq_false h2
    have hl:0 < ns.length:=List.length_pos_iff.mpr h2'
    walk_at "rd"
    refine rd_lenS (hs.same s1).sq ?_
    rw [List.length_map]
    refine rd_I (by omega) ?_
    refine rd_ixS (hs.same s1).sq (int_at (Int.emod_nonneg _ (by omega)) (Int.emod_lt_of_pos _ (by omega))) ?_
    walk_at "rd"
    refine rd_I (.inr ⟨by decide,by decide⟩) ?_
    walk_at "rd"
    exact q _ _ s1
set_option genSizeOf false in
set_option genInjectivity false in
inductive sp_mixed (K:PySem.W.Frag) (vs:List V) (H:Hp) (Q:VK) (zz3:XK):Prop where
 | mk (a ns k m:_) (zh0:vs=[.ref a,.int k,.int m]) (zh1:Scr K H a ns) (zh2:0≤k) (zh3:0 < m) (zh4:∀ r H',Same H H'→0≤r→r < m→Q (.int r) H'):sp_mixed K vs H Q zz3
theorem ok__law_mixed (T:Txt K mg t):FnOk P w K mg base CX0 2 t.a__law_mixed t.d__law_mixed ["_law_script","_law_k","_law_many"] (sp_mixed K):=by
 refine T.F__law_mixed.ok sc__law_mixed (fun vs H Q E h=>?_) (fun cdv A outer s H vs Q E hr h=>?_)
 ·obtain ⟨a,ns,k,m,rfl,_⟩:=h
  rfl
 ·obtain ⟨a,ns,k,m,rfl,hs,hk,hm,q⟩:=h
  refine ⟨_,(pss_cons (ps_set (i:=3) sc__law_mixed.nd rfl (Or.inl rfl) (pe_op op_mod (pe_op op_mul (pe_op op_add (pe_op op_add (pe_call (ok__law_cell_at T) (hr.mono (by decide)) rfl T.m__law_cell_at T.F__law_cell_at.kp T.b__law_cell_at .nil pass0 (pa_cons (pv 0) (pa_cons (pv 1) pa_nil))) (pe_op op_mul pe_int (pv 1))) pe_int) pe_int) pe_int))
   (pss_one (ps_ret (pe_op op_mod (pe_op op_mod (pe_op op_add (pe_op op_add (pe_op op_mul (pv 3) (pv 3)) (pe_op op_mul pe_int (pv 3))) (pv 1)) pe_int) (pv 2))))),?_⟩
  walk_at "rd"
  refine ⟨a,ns,k,rfl,hs,hk,fun c H1 s1=>?_⟩
  walk_at "rd"
  refine rd_I (.inl ⟨by decide,by decide⟩) ?_
  walk_at "rd"
  refine rd_I (.inr ⟨by decide,by decide⟩) ?_
  walk_at "rd"
  refine rd_I (by decide) ?_
  walk_at "rd"
  have d0:=Int.emod_nonneg ((c + 7919 * k + 1) * 48271) (show (2147483647:Int)≠0 by decide)
  have d1:=Int.emod_lt_of_pos ((c + 7919 * k + 1) * 48271) (show (0:Int) < 2147483647 by decide)
  generalize ((c + 7919 * k + 1) * 48271) % 2147483647=dr at d0 d1
  refine rd_I (.inl ⟨by omega,by omega⟩) ?_
  walk_at "rd"
  refine rd_I (.inl ⟨by decide,by decide⟩) ?_
  walk_at "rd"
  refine rd_I (by decide) ?_
  walk_at "rd"
  refine rd_I hm ?_
  exact q _ H1 s1 (Int.emod_nonneg _ (by omega)) (Int.emod_lt_of_pos _ hm)
set_option genSizeOf false in
set_option genInjectivity false in
inductive sp_draw (K:PySem.W.Frag) (vs:List V) (H:Hp) (Q:VK) (zz3:XK):Prop where
 | mk (a ns tw ts m:_) (zh0:vs=[.ref a,.ref tw,.int m]) (zh1:Scr K H a ns) (zh2:H tw=some (.lst ts)) (zh3:ts.length≤500) (zh4:0 < m) (zh5:∀ r H' ts',SameT tw H H'→H' tw=some (.lst ts')→ts'.length=ts.length + 1→0≤r→r < m→Q (.int r) H'):sp_draw K vs H Q zz3
theorem ok__law_draw (T:Txt K mg t):FnOk P w K mg base CX0 3 t.a__law_draw t.d__law_draw ["_law_script","_law_town","_law_many"] (sp_draw K):=by
 refine T.F__law_draw.ok sc__law_draw (fun vs H Q E h=>?_) (fun cdv A outer s H vs Q E hr h=>?_)
 ·obtain ⟨a,ns,tw,ts,m,rfl,_⟩:=h
  rfl
 ·obtain ⟨a,ns,tw,ts,m,rfl,hs,ht,hl,hm,q⟩:=h
  refine ⟨_,(pss_cons (ps_expr (k_bm K PySem.F.plainAttrs_list PySem.F.slot_list_append PySem.F.type_list_append mt_append (pv 1) (pa_cons pe_int pa_nil)))
   (pss_one (ps_ret (pe_call (ok__law_mixed T) (hr.mono (by decide)) rfl T.m__law_mixed T.F__law_mixed.kp T.b__law_mixed .nil pass0 (pa_cons (pv 0) (pa_cons (pe_callB (k_len K) (by rfl) T.n_len bt_len (pa_cons (pv 1) pa_nil)) (pa_cons (pv 2) pa_nil))))))),?_⟩
  walk_at "rd"
  refine ⟨tyV_lst ht,?_⟩
  walk_at "rd"
  refine rd_append ht (small1000 (by omega)) ?_
  have s1:SameT tw H (upd H tw (.lst (ts++[V.int 0]))):=fun b u e g=>by rw [upd_ne g];exact e
  have ht1:upd H tw (.lst (ts++[V.int 0])) tw=some (.lst (ts++[V.int 0])):=upd_same
  walk_at "rd"
  refine ⟨a,ns,_,m,rfl,hs.t ht s1,by omega,hm,fun r H2 s2 h0 h1=>?_⟩
  exact q r H2 _ (s1.trans s2.t) (s2 _ _ ht1) (by simp) h0 h1
set_option genSizeOf false in
set_option genInjectivity false in
inductive sp_pick (K:PySem.W.Frag) (vs:List V) (H:Hp) (Q:VK) (zz3:XK):Prop where
 | mk (a ns tw ts l xs:_) (zh0:vs=[.ref a,.ref tw,.ref l]) (zh1:Scr K H a ns) (zh2:H tw=some (.lst ts)) (zh3:ts.length≤500) (zh4:H l=some (.lst xs)) (zh5:l≠tw) (zh6:0 < xs.length) (zh7:∀ v H' ts',SameT tw H H'→H' tw=some (.lst ts')→ts'.length=ts.length + 1→v∈xs→Q v H'):sp_pick K vs H Q zz3
theorem ok__law_pick (T:Txt K mg t):FnOk P w K mg base CX0 4 t.a__law_pick t.d__law_pick ["_law_script","_law_town","_law_some"] (sp_pick K):=by
 refine T.F__law_pick.ok sc__law_pick (fun vs H Q E h=>?_) (fun cdv A outer s H vs Q E hr h=>?_)
 ·obtain ⟨a,ns,tw,ts,l,xs,rfl,_⟩:=h
  rfl
 ·obtain ⟨a,ns,tw,ts,l,xs,rfl,hs,ht,hl,el,nl,hx,q⟩:=h
  refine ⟨_,(pss_one (ps_ret (pe_ix (k_ix K) (pv 2) (pe_call (ok__law_draw T) (hr.mono (by decide)) rfl T.m__law_draw T.F__law_draw.kp T.b__law_draw .nil pass0 (pa_cons (pv 0) (pa_cons (pv 1) (pa_cons (pe_callB (k_len K) (by rfl) T.n_len bt_len (pa_cons (pv 2) pa_nil)) pa_nil)))) (fun _ _=>rfl)))),?_⟩
  walk_at "rd"
  refine ⟨a,ns,tw,ts,_,rfl,hs,ht,hl,by omega,fun r H1 ts' s1 ht1 hl1 h0 h1=>?_⟩
  have hr':r.toNat < xs.length:=by omega
  refine rd_ixL (s1 _ _ el nl) (atI_of (i:=r.toNat) (by omega) (List.getElem?_eq_getElem hr')) ?_
  exact q _ H1 ts' s1 ht1 hl1 (List.getElem_mem hr')
end
end My
namespace My
open PySem L2
section
variable {P:Program} {w:World} {K:PySem.W.Frag} {mg:Str→Option Value} {base:Heap} {t:Ad}
theorem SameT.of {w:Addr} {H:Hp} {l:Addr} {o:HO} (h:H l=none):SameT w H (upd H l o):=(Same.upd h).t
end
end My
namespace My
open PySem L2
noncomputable abbrev gt (l:List Int) (v:Nat):Int:=l.getD v 0
theorem gt_set {l:List Int} {j v:Nat} {a:Int} (hj:j < l.length):gt (l.set j a) v=if v=j then a else gt l v:=by
 unfold gt
 rw [List.getD_eq_getElem?_getD,List.getD_eq_getElem?_getD,List.getElem?_set]
 by_cases h:v=j
 ·subst h;simp [hj]
 ·rw [if_neg (Ne.symm h),if_neg h]
noncomputable def SolD (ds:List Dm) (x:Nat→Int):Prop:=∀ d∈ds,x d.1 + d.2.2≤x d.2.1
theorem rel1_mono {s:Rs} {d:Dm} {n:Nat} (hl:s.1.length=n) (hd:d.2.1 < n) (v:Nat):gt s.1 v≤gt (rel1 s d).1 v:=by
 unfold rel1
 split
 ·rename_i h
  show gt s.1 v≤gt (s.1.set d.2.1 (s.1.getD d.1 0 + d.2.2)) v
  rw [gt_set (by omega)]
  split
  ·rename_i e
   subst e
   exact Int.le_of_lt h
  ·exact Int.le_refl _
 ·exact Int.le_refl _
theorem fold_mono {n:Nat}:∀ (ds:List Dm) (s:Rs),s.1.length=n→dmOk n ds→∀ v,gt s.1 v≤gt (ds.foldl rel1 s).1 v
 | [],s,_,_,v=>Int.le_refl _
 | d::ds,s,hl,hd,v=>by
  rw [List.foldl_cons]
  have a:=rel1_mono hl (hd d List.mem_cons_self).2 v
  have b:=fold_mono ds (rel1 s d) ((rel1_len s d).1.trans hl) (fun e he=>hd e (List.mem_cons_of_mem _ he)) v
  exact Int.le_trans a b
theorem rel1_le {s:Rs} {d:Dm} {n:Nat} {x:Nat→Int} (hl:s.1.length=n) (hd:d.1 < n∧d.2.1 < n) (hx:x d.1 + d.2.2≤x d.2.1) (h:∀ v,v < n→gt s.1 v≤x v):∀ v,v < n→gt (rel1 s d).1 v≤x v:=fun v hv=>by
 unfold rel1
 split
 ·show gt (s.1.set d.2.1 (s.1.getD d.1 0 + d.2.2)) v≤x v
  rw [gt_set (by omega)]
  split
  ·rename_i e
   subst e
   have:=h d.1 hd.1
   show gt s.1 d.1 + d.2.2≤_
   omega
  ·exact h v hv
 ·exact h v hv
theorem fold_le {n:Nat} {x:Nat→Int}:∀ (ds:List Dm) (s:Rs),s.1.length=n→dmOk n ds→SolD ds x→(∀ v,v < n→gt s.1 v≤x v)→∀ v,v < n→gt (ds.foldl rel1 s).1 v≤x v
 | [],s,_,_,_,h=>h
 | d::ds,s,hl,hd,hx,h=>by
  rw [List.foldl_cons]
  exact fold_le ds (rel1 s d) ((rel1_len s d).1.trans hl) (fun e he=>hd e (List.mem_cons_of_mem _ he)) (fun e he=>hx e (List.mem_cons_of_mem _ he)) (rel1_le hl (hd d List.mem_cons_self) (hx d List.mem_cons_self) h)
theorem fold_ge {n:Nat}:∀ (ds:List Dm) (s:Rs),s.1.length=n→dmOk n ds→∀ d∈ds,gt s.1 d.1 + d.2.2≤gt (ds.foldl rel1 s).1 d.2.1
 | [],s,_,_,d,h=>by cases h
 | e::ds,s,hl,hd,d,h=>by
  rw [List.foldl_cons]
  have hl':=(rel1_len s e).1.trans hl
  have hd':dmOk n ds:=fun e he=>hd e (List.mem_cons_of_mem _ he)
  have m1:=rel1_mono hl (hd e List.mem_cons_self).2 d.1
  rcases List.mem_cons.mp h with rfl | h'
  ·have m2:=fold_mono ds (rel1 s d) hl' hd' d.2.1
   have:gt s.1 d.1 + d.2.2≤gt (rel1 s d).1 d.2.1:=by
    unfold rel1
    split
    ·show _≤gt (s.1.set d.2.1 (s.1.getD d.1 0 + d.2.2)) d.2.1
     rw [gt_set (by have:=(hd d List.mem_cons_self).2;omega),if_pos rfl]
     exact Int.le_refl _
    ·rename_i g
     exact Int.not_lt.mp g
   omega
  ·have:=fold_ge ds (rel1 s e) hl' hd' d h'
   omega
theorem fold_int:∀ (ds:List Dm) (s:Rs) (k:Int),s.2.2=.int k→∃ k',(ds.foldl rel1 s).2.2=.int k'
 | [],s,k,h=>⟨k,h⟩
 | d::ds,s,k,h=>by
  rw [List.foldl_cons]
  by_cases g:s.1.getD d.1 0 + d.2.2 > s.1.getD d.2.1 0
  ·refine fold_int ds (rel1 s d) d.2.1 ?_
   unfold rel1
   rw [if_pos g]
  ·refine fold_int ds (rel1 s d) k ?_
   unfold rel1
   rw [if_neg g]
   exact h
theorem fold_non:∀ (ds:List Dm) (s:Rs),(ds.foldl rel1 s).2.2=.non→ds.foldl rel1 s=s∧∀ d∈ds,gt s.1 d.1 + d.2.2≤gt s.1 d.2.1
 | [],s,_=>⟨rfl,fun _ h=>nomatch h⟩
 | d::ds,s,h=>by
  rw [List.foldl_cons] at h ⊢
  by_cases g:s.1.getD d.1 0 + d.2.2 > s.1.getD d.2.1 0
  ·obtain ⟨k,e⟩:=fold_int ds (rel1 s d) d.2.1 (by unfold rel1;rw [if_pos g])
   rw [e] at h
   cases h
  ·have e:rel1 s d=s:=by unfold rel1;rw [if_neg g]
   rw [e] at h ⊢
   obtain ⟨a,b⟩:=fold_non ds s h
   refine ⟨a,fun c hc=>?_⟩
   rcases List.mem_cons.mp hc with rfl | hc
   ·exact Int.not_lt.mp g
   ·exact b c hc
theorem fold_fix:∀ (ds:List Dm) (s:Rs),(∀ d∈ds,gt s.1 d.1 + d.2.2≤gt s.1 d.2.1)→ds.foldl rel1 s=s
 | [],s,_=>rfl
 | d::ds,s,h=>by
  rw [List.foldl_cons]
  have e:rel1 s d=s:=by unfold rel1;rw [if_neg (Int.not_lt.mpr (h d List.mem_cons_self))]
  rw [e]
  exact fold_fix ds s fun e he=>h e (List.mem_cons_of_mem _ he)
theorem rounds_ok {n:Nat} {ds:List Dm} (hd:dmOk n ds):∀ (k:Nat) (vals:List Int) (orgs:List V) (r:V),vals.length=n→(1≤k∨r≠.non)→(rounds ds k vals orgs r).2.2=.non→
  (rounds ds k vals orgs r).1.length=n∧(∀ v,gt vals v≤gt (rounds ds k vals orgs r).1 v)∧(∀ d∈ds,gt (rounds ds k vals orgs r).1 d.1 + d.2.2≤gt (rounds ds k vals orgs r).1 d.2.1)∧
  ∀ x,SolD ds x→(∀ v,v < n→gt vals v≤x v)→∀ v,v < n→gt (rounds ds k vals orgs r).1 v≤x v
 | 0,vals,orgs,r,hl,h,e=>by
  rcases h with h | h
  ·omega
  ·exact absurd e h
 | k + 1,vals,orgs,r,hl,_,e=>by
  rw [rounds] at e ⊢
  by_cases g:(run1 ds vals orgs).2.2=.non
  ·rw [if_pos g]
   obtain ⟨a,b⟩:=fold_non ds _ g
   have ea:(run1 ds vals orgs).1=vals:=congrArg (fun s:Rs=>s.1) a
   show (run1 ds vals orgs).1.length=n∧(∀ v,gt vals v≤gt (run1 ds vals orgs).1 v)∧(∀ d∈ds,gt (run1 ds vals orgs).1 d.1 + d.2.2≤gt (run1 ds vals orgs).1 d.2.1)∧∀ x,SolD ds x→(∀ v,v < n→gt vals v≤x v)→∀ v,v < n→gt (run1 ds vals orgs).1 v≤x v
   rw [ea]
   exact ⟨hl,fun v=>Int.le_refl _,b,fun x _ h=>h⟩
  ·rw [if_neg g] at e ⊢
   have hl':(run1 ds vals orgs).1.length=n:=(run1_len ds vals orgs).1.trans hl
   obtain ⟨a,b,c,d⟩:=rounds_ok hd k _ _ _ hl' (.inr g) e
   refine ⟨a,fun v=>Int.le_trans (fold_mono ds (vals,orgs,.non) hl hd v) (b v),c,fun x sx hx=>d x sx (fold_le ds (vals,orgs,.non) hl hd sx hx)⟩
noncomputable def cnt (n:Nat) (x:Nat→Int) (vals:List Int):Nat:=(List.range n).countP fun v=>decide (gt vals v=x v)
theorem cnt_le (n:Nat) (x:Nat→Int) (vals:List Int):cnt n x vals≤n:=by
 have:=List.countP_le_length (l:=List.range n) (p:=fun v=>decide (gt vals v=x v))
 rw [List.length_range] at this
 exact this
theorem cnt_all {n:Nat} {x:Nat→Int} {vals:List Int} (h:n≤cnt n x vals):∀ v,v < n→gt vals v=x v:=by
 have e:(List.range n).countP (fun v=>decide (gt vals v=x v))=(List.range n).length:=by
  have:=cnt_le n x vals
  rw [List.length_range]
  unfold cnt at h this
  omega
 have:=List.countP_eq_length.mp e
 intro v hv
 exact of_decide_eq_true (this v (List.mem_range.mpr hv))
theorem turn_more {n:Nat} {ds:List Dm} (hd:dmOk n ds) {x:Nat→Int} (sx:SolD ds x) (nx:Nt.NN n x) (mx:∀ z,SolD ds z→Nt.NN n z→Nt.sumTo x n≤Nt.sumTo z n) {F:Nat→Bool} (hF:∃ v,v < n∧F v=false) (hp:∀ v,v < n→F v=false→0 < x v):
  ∃ d∈ds,F d.1=true∧F d.2.1=false∧x d.2.1=x d.1 + d.2.2:=by
 apply Classical.byContradiction
 intro hno
 obtain ⟨v,hv,fv⟩:=hF
 have s2:SolD ds (fun i=>if F i=true then x i else x i - 1):=fun d hm=>by
  obtain ⟨h1,h2⟩:=hd d hm
  have g:=sx d hm
  show (if F d.1=true then x d.1 else x d.1 - 1) + d.2.2≤(if F d.2.1=true then x d.2.1 else x d.2.1 - 1)
  cases f1:F d.1 with
  | true=>
   cases f2:F d.2.1 with
   | true=>simp;exact g
   | false=>
    simp
    by_cases e:x d.2.1=x d.1 + d.2.2
    ·exact absurd ⟨d,hm,f1,f2,e⟩ hno
    ·omega
  | false=>
   cases f2:F d.2.1 with
   | true=>simp;omega
   | false=>simp;omega
 have n2:Nt.NN n (fun i=>if F i=true then x i else x i - 1):=fun i hi=>by
  show 0≤(if F i=true then x i else x i - 1)
  cases f:F i with
  | true=>simp;exact nx i hi
  | false=>
   simp
   have:=hp i hi f
   omega
 have:=mx _ s2 n2
 have lt:=Nt.sum_lt (x:=x) (y:=fun i=>if F i=true then x i else x i - 1) (n:=n) (v:=v) (fun i _=>by
  show (if F i=true then x i else x i - 1)≤x i
  split <;> omega) hv (by
  show (if F v=true then x v else x v - 1) < x v
  rw [fv];simp;omega)
 omega
theorem cnt_more {n:Nat} {ds:List Dm} (hd:dmOk n ds) {x:Nat→Int} (sx:SolD ds x) (nx:Nt.NN n x) (mx:∀ z,SolD ds z→Nt.NN n z→Nt.sumTo x n≤Nt.sumTo z n) {vals:List Int} {orgs:List V} (hl:vals.length=n) (h0:∀ v,v < n→0≤gt vals v) (hx:∀ v,v < n→gt vals v≤x v)
  (hc:cnt n x vals < n):cnt n x vals < cnt n x (run1 ds vals orgs).1:=by
 have hF:∃ v,v < n∧decide (gt vals v=x v)=false:=by
  apply Classical.byContradiction
  intro hno
  have:(List.range n).countP (fun v=>decide (gt vals v=x v))=(List.range n).length:=List.countP_eq_length.mpr fun v hv=>by
   cases g:decide (gt vals v=x v) with
   | true=>rfl
   | false=>exact absurd ⟨v,List.mem_range.mp hv,g⟩ hno
  rw [List.length_range] at this
  unfold cnt at hc
  omega
 obtain ⟨d,hm,f1,f2,e⟩:=turn_more hd sx nx mx (F:=fun v=>decide (gt vals v=x v)) hF fun v hv g=>by
  have g':=of_decide_eq_false g
  have:=h0 v hv
  have:=hx v hv
  omega
 have f1':gt vals d.1=x d.1:=of_decide_eq_true f1
 have up:∀ v,v < n→gt (run1 ds vals orgs).1 v≤x v:=fold_le ds (vals,orgs,.non) hl hd sx hx
 have mo:=fold_mono ds (vals,orgs,V.non) hl hd
 have ge:=fold_ge ds (vals,orgs,V.non) hl hd d hm
 refine Nt.countP_lt (v:=d.2.1) (fun i hi g=>?_) (List.mem_range.mpr (hd d hm).2) f2 ?_
 ·have g':gt vals i=x i:=of_decide_eq_true g
  have a:=up i (List.mem_range.mp hi)
  have b:=mo i
  refine decide_eq_true ?_
  have b':gt vals i≤gt (run1 ds vals orgs).1 i:=b
  omega
 ·refine decide_eq_true ?_
  have a:=up _ (hd d hm).2
  have ge':gt vals d.1 + d.2.2≤gt (run1 ds vals orgs).1 d.2.1:=ge
  omega
theorem rounds_end {n:Nat} {ds:List Dm} (hd:dmOk n ds) {x:Nat→Int} (sx:SolD ds x) (nx:Nt.NN n x) (mx:∀ z,SolD ds z→Nt.NN n z→Nt.sumTo x n≤Nt.sumTo z n):∀ (k:Nat) (vals:List Int) (orgs:List V) (r:V),vals.length=n→(∀ v,v < n→0≤gt vals v)→(∀ v,v < n→gt vals v≤x v)→
  n≤cnt n x vals + k→(rounds ds (k + 1) vals orgs r).2.2=.non
 | k,vals,orgs,r,hl,h0,hx,hc=>by
  rw [rounds]
  by_cases g:(run1 ds vals orgs).2.2=.non
  ·rw [if_pos g]
  ·rw [if_neg g]
   by_cases hall:cnt n x vals < n
   ·match k,hc with
    | 0,hc=>omega
    | k + 1,hc=>
     have more:=cnt_more (orgs:=orgs) hd sx nx mx hl h0 hx hall
     refine rounds_end hd sx nx mx k _ _ _ ((run1_len ds vals orgs).1.trans hl) (fun v hv=>?_) (fold_le ds (vals,orgs,.non) hl hd sx hx) (by omega)
     have:=fold_mono ds (vals,orgs,V.non) hl hd v
     have:=h0 v hv
     show 0≤gt (run1 ds vals orgs).1 v
     have e:gt vals v≤gt (run1 ds vals orgs).1 v:=by assumption
     omega
   ·exfalso
    apply g
    have ev:=cnt_all (n:=n) (x:=x) (vals:=vals) (by omega)
    have:run1 ds vals orgs=(vals,orgs,.non):=fold_fix ds _ fun d hm=>by
     obtain ⟨a,b⟩:=hd d hm
     show gt vals d.1 + d.2.2≤gt vals d.2.1
     rw [ev _ a,ev _ b]
     exact sx d hm
    rw [this]
theorem gt_rep (n v:Nat):gt (List.replicate n (0:Int)) v=0:=by
 unfold gt
 rw [List.getD_eq_getElem?_getD,List.getElem?_replicate]
 split <;> rfl
theorem lv_some {n:Nat} (hn:1≤n) {ds:List Dm} (hd:dmOk n ds) {vals:List Int} (h:lv n ds=some vals):vals.length=n∧(∀ v,v < n→0≤gt vals v)∧SolD ds (gt vals)∧∀ x,SolD ds x→Nt.NN n x→∀ v,v < n→gt vals v≤x v:=by
 unfold lv at h
 split at h
 ·rename_i e
  cases h
  obtain ⟨a,b,c,d⟩:=rounds_ok hd n _ _ _ List.length_replicate (.inl hn) e
  refine ⟨a,fun v _=>?_,c,fun x sx nx=>d x sx fun v hv=>?_⟩
  ·have:=b v
   rw [gt_rep] at this
   exact this
  ·rw [gt_rep]
   exact nx v hv
 ·cases h
theorem lv_none {n:Nat} (hn:1≤n) {ds:List Dm} (hd:dmOk n ds) {x:Nat→Int} (sx:SolD ds x) (nx:Nt.NN n x):∃ vals,lv n ds=some vals:=by
 have s0:=Nt.sum_nn nx
 obtain ⟨y,sy,ny,my⟩:=Nt.least_sum (n:=n) (p:=SolD ds) (Nt.sumTo x n).toNat x sx nx (by omega)
 have c1:1≤cnt n y (List.replicate n 0):=by
  have:∃ v,v < n∧y v=0:=by
   apply Classical.byContradiction
   intro hno
   obtain ⟨d,hm,f1,_⟩:=turn_more hd sy ny my (F:=fun _=>false) ⟨0,hn,rfl⟩ fun v hv _=>by
    have a:=ny v hv
    by_cases e:y v=0
    ·exact absurd ⟨v,hv,e⟩ hno
    ·omega
   cases f1
  obtain ⟨v,hv,e⟩:=this
  unfold cnt
  exact List.countP_pos_iff.mpr ⟨v,List.mem_range.mpr hv,decide_eq_true (by rw [gt_rep,e])⟩
 obtain ⟨m,rfl⟩:∃ m,n=m + 1:=⟨n - 1,by omega⟩
 have e:=rounds_end hd sy ny my m (List.replicate (m + 1) 0) (List.replicate (m + 1) .non) .non List.length_replicate (fun v _=>by rw [gt_rep];exact Int.le_refl _) (fun v hv=>by rw [gt_rep];exact ny v hv) (by omega)
 exact ⟨_,by unfold lv;rw [if_pos e]⟩
end My
namespace My
open PySem L2
structure Orig (ds:List Dm) (s:Rs) (R T:Nat→Nat) (v u:Nat) (b:Int):Prop where
 at':s.2.1[v]? =some (.int (u:Nat))
 mem:(u,v,b)∈ds
 rr:R v≤R u + 1
 le:gt s.1 v≤gt s.1 u + b
 lt:T v < T u→gt s.1 v < gt s.1 u + b
structure Gh (n:Nat) (ds:List Dm) (p c:Nat) (pre suf:List Dm) (s:Rs) (R T:Nat→Nat):Prop where
 lv:s.1.length=n
 lo:s.2.1.length=n
 or:∀ v,v < n→(s.2.1[v]? =some .non∧R v=0)∨(1≤T v∧∃ u b,Orig ds s R T v u b)
 suf:∀ d∈suf,R d.1 + 1 < p→gt s.1 d.1 + d.2.2≤gt s.1 d.2.1
 pre:∀ d∈pre,R d.1 < p→gt s.1 d.1 + d.2.2≤gt s.1 d.2.1
 rp:∀ v,R v≤p
 tc:∀ v,T v≤c
 inj:∀ a b,1≤T a→T a=T b→a=b
noncomputable def setN (R:Nat→Nat) (v k:Nat):Nat→Nat:=fun i=>if i=v then k else R i
theorem setN_at (R:Nat→Nat) (v k:Nat):setN R v k v=k:=by unfold setN;rw [if_pos rfl]
theorem setN_ne {R:Nat→Nat} {v k i:Nat} (h:i≠v):setN R v k i=R i:=by unfold setN;rw [if_neg h]
theorem gh_step {n:Nat} {ds:List Dm} (hd:dmOk n ds) (hne:∀ d∈ds,d.1≠d.2.1) {p c:Nat} {pre suf:List Dm} {d:Dm} {s:Rs} {R T:Nat→Nat} (hm:d∈ds) (g:Gh n ds p c pre (d::suf) s R T):
  ∃ R' T',Gh n ds p (c + 1) (pre++[d]) suf (rel1 s d) R' T'∧((rel1 s d).2.2=s.2.2∨∃ v:Nat,v < n∧(rel1 s d).2.2=.int v∧R' v=p)∧∀ v,R v=p→R' v=p:=by
 obtain ⟨h1,h2⟩:=hd d hm
 have hn:=hne d hm
 by_cases h:s.1.getD d.1 0 + d.2.2 > s.1.getD d.2.1 0
 ·have e:rel1 s d=(s.1.set d.2.1 (s.1.getD d.1 0 + d.2.2),s.2.1.set d.2.1 (.int d.1),.int d.2.1):=by unfold rel1;rw [if_pos h]
  rw [e]
  have hu:p≤R d.1 + 1:=by
   refine Nat.le_of_not_lt fun z=>?_
   have:=g.suf d List.mem_cons_self z
   show False
   have h':gt s.1 d.1 + d.2.2 > gt s.1 d.2.1:=h
   omega
  have hlt:d.2.1 < s.1.length:=by rw [g.lv];exact h2
  have gs:∀ w,gt (s.1.set d.2.1 (s.1.getD d.1 0 + d.2.2)) w=if w=d.2.1 then gt s.1 d.1 + d.2.2 else gt s.1 w:=fun w=>gt_set hlt
  have up:∀ w,gt s.1 w≤gt (s.1.set d.2.1 (s.1.getD d.1 0 + d.2.2)) w:=fun w=>by
   rw [gs]
   split
   ·rename_i e;subst e;exact Int.le_of_lt h
   ·exact Int.le_refl _
  refine ⟨setN R d.2.1 p,setN T d.2.1 (c + 1),⟨?_,?_,fun v hv=>?_,fun x hx hr=>?_,fun x hx hr=>?_,fun v=>?_,fun v=>?_,fun a b ha hab=>?_⟩,.inr ⟨d.2.1,h2,rfl,setN_at _ _ _⟩,fun v hv=>?_⟩
  ·show (s.1.set d.2.1 _).length=n
   rw [List.length_set];exact g.lv
  ·show (s.2.1.set d.2.1 _).length=n
   rw [List.length_set];exact g.lo
  ·by_cases ev:v=d.2.1
   ·subst ev
    refine .inr ⟨by rw [setN_at];omega,d.1,d.2.2,?_,hm,?_,?_,?_⟩
    ·show (s.2.1.set d.2.1 (.int d.1))[d.2.1]? =_
     rw [List.getElem?_set_self (by rw [g.lo];exact h2)]
    ·rw [setN_at,setN_ne hn];exact hu
    ·show gt (s.1.set d.2.1 (s.1.getD d.1 0 + d.2.2)) d.2.1≤gt (s.1.set d.2.1 (s.1.getD d.1 0 + d.2.2)) d.1 + d.2.2
     rw [gs,gs,if_pos rfl,if_neg hn]
     exact Int.le_refl _
    ·rw [setN_at,setN_ne hn]
     intro z
     have:=g.tc d.1
     omega
   ·rcases g.or v hv with ⟨a,b⟩ | ⟨t1,u,b,o⟩
    ·refine .inl ⟨?_,by rw [setN_ne ev];exact b⟩
     show (s.2.1.set d.2.1 (.int d.1))[v]? =_
     rw [List.getElem?_set_ne (Ne.symm ev)];exact a
    ·refine .inr ⟨by rw [setN_ne ev];exact t1,u,b,?_,o.mem,?_,?_,?_⟩
     ·show (s.2.1.set d.2.1 (.int d.1))[v]? =_
      rw [List.getElem?_set_ne (Ne.symm ev)];exact o.at'
     ·rw [setN_ne ev]
      by_cases eu:u=d.2.1
      ·subst eu;rw [setN_at];have:=g.rp v;omega
      ·rw [setN_ne eu];exact o.rr
     ·show gt (s.1.set d.2.1 (s.1.getD d.1 0 + d.2.2)) v≤gt (s.1.set d.2.1 (s.1.getD d.1 0 + d.2.2)) u + b
      rw [gs v,if_neg ev]
      have:=up u
      have:=o.le
      omega
     ·show _→gt (s.1.set d.2.1 (s.1.getD d.1 0 + d.2.2)) v < gt (s.1.set d.2.1 (s.1.getD d.1 0 + d.2.2)) u + b
      rw [gs v,if_neg ev,setN_ne ev]
      by_cases eu:u=d.2.1
      ·subst eu
       intro _
       rw [gs,if_pos rfl]
       have:=o.le
       have h':gt s.1 d.1 + d.2.2 > gt s.1 d.2.1:=h
       omega
      ·rw [setN_ne eu,gs u,if_neg eu]
       exact o.lt
  ·have ex:x.1≠d.2.1:=fun z=>by rw [z,setN_at] at hr;omega
   rw [setN_ne ex] at hr
   show gt (s.1.set d.2.1 (s.1.getD d.1 0 + d.2.2)) x.1 + x.2.2≤gt (s.1.set d.2.1 (s.1.getD d.1 0 + d.2.2)) x.2.1
   rw [gs x.1,if_neg ex]
   have:=g.suf x (List.mem_cons_of_mem _ hx) hr
   have:=up x.2.1
   omega
  ·have ex:x.1≠d.2.1:=fun z=>by rw [z,setN_at] at hr;omega
   rw [setN_ne ex] at hr
   show gt (s.1.set d.2.1 (s.1.getD d.1 0 + d.2.2)) x.1 + x.2.2≤gt (s.1.set d.2.1 (s.1.getD d.1 0 + d.2.2)) x.2.1
   rw [gs x.1,if_neg ex]
   rcases List.mem_append.mp hx with hx | hx
   ·have:=g.pre x hx hr
    have:=up x.2.1
    omega
   ·rcases List.mem_singleton.mp hx with rfl
    rw [gs,if_pos rfl]
    exact Int.le_refl _
  ·by_cases ev:v=d.2.1
   ·subst ev;rw [setN_at];exact Nat.le_refl _
   ·rw [setN_ne ev];exact g.rp v
  ·by_cases ev:v=d.2.1
   ·subst ev;rw [setN_at];exact Nat.le_refl _
   ·rw [setN_ne ev];have:=g.tc v;omega
  ·by_cases ea:a=d.2.1
   ·by_cases eb:b=d.2.1
    ·rw [ea,eb]
    ·subst ea
     rw [setN_at,setN_ne eb] at hab
     have:=g.tc b
     omega
   ·by_cases eb:b=d.2.1
    ·subst eb
     rw [setN_at,setN_ne ea] at hab
     have:=g.tc a
     omega
    ·rw [setN_ne ea] at ha hab
     rw [setN_ne eb] at hab
     exact g.inj a b ha hab
  ·by_cases ev:v=d.2.1
   ·subst ev;rw [setN_at]
   ·rw [setN_ne ev];exact hv
 ·have e:rel1 s d=s:=by unfold rel1;rw [if_neg h]
  rw [e]
  refine ⟨R,T,⟨g.lv,g.lo,g.or,fun x hx=>g.suf x (List.mem_cons_of_mem _ hx),fun x hx hr=>?_,g.rp,fun v=>Nat.le_succ_of_le (g.tc v),g.inj⟩,.inl rfl,fun v h=>h⟩
  rcases List.mem_append.mp hx with hx | hx
  ·exact g.pre x hx hr
  ·rcases List.mem_singleton.mp hx with rfl
   exact Int.not_lt.mp h
theorem gh_fold {n:Nat} {ds:List Dm} (hd:dmOk n ds) (hne:∀ d∈ds,d.1≠d.2.1) {p:Nat}:∀ (suf pre:List Dm) (c:Nat) (s:Rs) (R T:Nat→Nat),(∀ d∈suf,d∈ds)→Gh n ds p c pre suf s R T→(s.2.2=.non∨∃ v:Nat,v < n∧s.2.2=.int v∧R v=p)→
  ∃ c' R' T',Gh n ds p c' (pre++suf) [] (suf.foldl rel1 s) R' T'∧((suf.foldl rel1 s).2.2=.non∨∃ v:Nat,v < n∧(suf.foldl rel1 s).2.2=.int v∧R' v=p)
 | [],pre,c,s,R,T,_,g,h=>⟨c,R,T,by rw [List.append_nil];exact g,h⟩
 | d::suf,pre,c,s,R,T,hs,g,h=>by
  obtain ⟨R',T',g',h',k'⟩:=gh_step hd hne (hs d List.mem_cons_self) g
  have:=gh_fold hd hne suf (pre++[d]) (c + 1) (rel1 s d) R' T' (fun x hx=>hs x (List.mem_cons_of_mem _ hx)) g' (by
   rcases h' with h' | h'
   ·rw [h']
    rcases h with h | ⟨v,hv,a,b⟩
    ·exact .inl h
    ·exact .inr ⟨v,hv,a,k' v b⟩
   ·exact .inr h')
  rw [List.append_assoc] at this
  exact this
theorem gh_rounds {n:Nat} {ds:List Dm} (hd:dmOk n ds) (hne:∀ d∈ds,d.1≠d.2.1):∀ (k:Nat) (p c:Nat) (s:Rs) (R T:Nat→Nat),Gh n ds (p + 1) c [] ds s R T→(s.2.2=.non∨∃ v:Nat,v < n∧s.2.2=.int v∧R v=p)→(∀ v,R v≤p)→
  (rounds ds k s.1 s.2.1 s.2.2).2.2≠.non→∃ c' R' T',Gh n ds (p + k + 1) c' [] ds (rounds ds k s.1 s.2.1 s.2.2) R' T'∧∃ v:Nat,v < n∧(rounds ds k s.1 s.2.1 s.2.2).2.2=.int v∧R' v=p + k
 | 0,p,c,s,R,T,g,h,hp,e=>by
  rw [rounds] at e ⊢
  rcases h with h | h
  ·exact absurd h e
  ·exact ⟨c,R,T,g,h⟩
 | k + 1,p,c,s,R,T,g,h,hp,e=>by
  rw [rounds] at e ⊢
  obtain ⟨c',R',T',g',h'⟩:=gh_fold hd hne ds [] c (s.1,s.2.1,.non) R T (fun _ h=>h) ⟨g.lv,g.lo,fun v hv=>(g.or v hv).imp id fun ⟨a,u,b,o⟩=>⟨a,u,b,o.at',o.mem,o.rr,o.le,o.lt⟩,g.suf,g.pre,g.rp,g.tc,g.inj⟩ (.inl rfl)
  change Gh n ds (p + 1) c' ([]++ds) [] (run1 ds s.1 s.2.1) R' T' at g'
  by_cases z:(run1 ds s.1 s.2.1).2.2=.non
  ·rw [if_pos z] at e
   exact absurd rfl e
  ·rw [if_neg z] at e ⊢
   have g2:Gh n ds (p + 1 + 1) c' [] ds (run1 ds s.1 s.2.1) R' T':=⟨g'.lv,g'.lo,g'.or,fun d hd' hr=>g'.pre d (by simpa using hd') (by omega),fun _ h=>(nomatch h),fun v=>Nat.le_succ_of_le (g'.rp v),g'.tc,g'.inj⟩
   have:=gh_rounds hd hne k (p + 1) c' (run1 ds s.1 s.2.1) R' T' g2 h' g'.rp e
   rw [show p + (k + 1)=p + 1 + k by omega]
   exact this
theorem gh_end {n:Nat} {ds:List Dm} (hd:dmOk n ds) (hne:∀ d∈ds,d.1≠d.2.1) (e:(rounds ds n (List.replicate n 0) (List.replicate n .non) .non).2.2≠.non):
  ∃ c R T,Gh n ds (n + 1) c [] ds (rounds ds n (List.replicate n 0) (List.replicate n .non) .non) R T∧∃ v:Nat,v < n∧(rounds ds n (List.replicate n 0) (List.replicate n .non) .non).2.2=.int v∧R v=n:=by
 have g:Gh n ds (0 + 1) 0 [] ds (List.replicate n 0,List.replicate n .non,.non) (fun _=>0) (fun _=>0):=⟨List.length_replicate,List.length_replicate,fun v hv=>.inl ⟨by rw [List.getElem?_replicate,if_pos hv],rfl⟩,fun _ _ h=>absurd h (by omega),fun _ h=>(nomatch h),fun _=>Nat.zero_le _,fun _=>Nat.le_refl _,fun _ _ h=>absurd h (by decide)⟩
 have:=gh_rounds hd hne n 0 0 _ _ _ g (.inl rfl) (fun _=>Nat.le_refl _) e
 rw [Nat.zero_add] at this
 exact this
noncomputable def bk (orgs:List V) (v:Nat):Nat:=match orgs[v]? with | some (.int u)=>u.toNat | _=>v
noncomputable def bks (orgs:List V):Nat→Nat→Nat
 | 0,v=>v
 | k + 1,v=>bk orgs (bks orgs k v)
theorem bks_add (orgs:List V) (a v:Nat):∀ b,bks orgs (a + b) v=bks orgs b (bks orgs a v)
 | 0=>rfl
 | b + 1=>by show bk orgs (bks orgs (a + b) v)=bk orgs _;rw [bks_add orgs a v b]
theorem bk_of {orgs:List V} {v u:Nat} (h:orgs[v]? =some (.int (u:Nat))):bk orgs v=u:=by
 unfold bk;rw [h];exact Int.toNat_natCast u
theorem pigeon:∀ (n:Nat) (f:Nat→Nat),(∀ i,i≤n→f i < n)→∃ i j,i < j∧j≤n∧f i=f j:=by
 intro n f h
 by_cases z:∃ i j,i < j∧j≤n∧f i=f j
 ·exact z
 ·exfalso
  have nd:((List.range (n + 1)).map f).Nodup:=by
   unfold List.Nodup
   rw [List.pairwise_map]
   refine List.Pairwise.imp_of_mem ?_ (List.pairwise_lt_range (n:=n + 1))
   intro a b ha hb hab e
   exact z ⟨a,b,hab,by have:=List.mem_range.mp hb;omega,e⟩
  have sub:((List.range (n + 1)).map f)⊆List.range n:=fun x hx=>by
   obtain ⟨i,hi,rfl⟩:=List.mem_map.mp hx
   exact List.mem_range.mpr (h i (by have:=List.mem_range.mp hi;omega))
  have:=nd.length_le_of_subset sub
  rw [List.length_map,List.length_range,List.length_range] at this
  omega
structure Rnd (n:Nat) (ds:List Dm) (orgs:List V) (s c:Nat):Prop where
 c2:2≤c
 cn:c≤n
 ret:bks orgs c s=s
 first:∀ i,1≤i→i < c→bks orgs i s≠s
 org:∀ i,∃ b,orgs[bks orgs i s]? =some (.int (bks orgs (i + 1) s:Nat))∧(bks orgs (i + 1) s,bks orgs i s,b)∈ds
 dist:∀ i j,i < j→j < c→bks orgs i s≠bks orgs j s
theorem rnd_of {n:Nat} {ds:List Dm} (hd:dmOk n ds) (hne:∀ d∈ds,d.1≠d.2.1) (e:(rounds ds n (List.replicate n 0) (List.replicate n .non) .non).2.2≠.non) {orgs:List V} (ho:orgs=(rounds ds n (List.replicate n 0) (List.replicate n .non) .non).2.1):
  ∃ r:Nat,r < n∧(rounds ds n (List.replicate n 0) (List.replicate n .non) .non).2.2=.int r∧(∀ i,orgs[bks orgs i r]? =some (.int (bks orgs (i + 1) r:Nat)))∧(∃ c,Rnd n ds orgs (bks orgs n r) c)∧
   ∃ (vals:List Int) (T:Nat→Nat),∀ i,∃ b,(bks orgs (i + 1) r,bks orgs i r,b)∈ds∧gt vals (bks orgs i r)≤gt vals (bks orgs (i + 1) r) + b∧(T (bks orgs i r) < T (bks orgs (i + 1) r)→gt vals (bks orgs i r) < gt vals (bks orgs (i + 1) r) + b)∧(T (bks orgs i r)=T (bks orgs (i + 1) r)→bks orgs i r=bks orgs (i + 1) r):=by
 obtain ⟨c,R,T,g,r,hr,er,eR⟩:=gh_end hd hne e
 have st:∀ v,v < n→1≤R v→∃ b,Orig ds (rounds ds n (List.replicate n 0) (List.replicate n .non) .non) R T v (bk orgs v) b∧1≤T v∧bk orgs v < n:=fun v hv h1=>by
  rcases g.or v hv with ⟨_,h⟩ | ⟨t1,u,b,o⟩
  ·omega
  ·have:bk orgs v=u:=bk_of (by rw [ho];exact o.at')
   rw [this]
   exact ⟨b,o,t1,(hd _ o.mem).1⟩
 have ch:∀ i,i≤n→bks orgs i r < n∧n≤R (bks orgs i r) + i:=by
  intro i
  induction i with
  | zero=>intro _;exact ⟨hr,by show n≤R r + 0;omega⟩
  | succ i ih=>
   intro hi
   obtain ⟨a,b⟩:=ih (by omega)
   obtain ⟨w,o,_,l⟩:=st _ a (by omega)
   refine ⟨l,?_⟩
   show n≤R (bk orgs (bks orgs i r)) + (i + 1)
   have:=o.rr
   omega
 obtain ⟨i,j,hij,hj,ef⟩:=pigeon n (fun i=>bks orgs i r) fun i hi=>(ch i hi).1
 have ef':bks orgs i r=bks orgs j r:=ef
 have back:∀ m,∃ m',m' < j∧bks orgs m r=bks orgs m' r:=by
  intro m
  induction m with
  | zero=>exact ⟨0,by omega,rfl⟩
  | succ m ih=>
   obtain ⟨m',h1,h2⟩:=ih
   have e2:bks orgs (m + 1) r=bks orgs (m' + 1) r:=by show bk orgs _=bk orgs _;rw [h2]
   by_cases z:m' + 1 < j
   ·exact ⟨m' + 1,z,e2⟩
   ·have:m' + 1=j:=by omega
    exact ⟨i,hij,by rw [e2,this,ef']⟩
 have all:∀ m,bks orgs m r < n∧∃ b,Orig ds (rounds ds n (List.replicate n 0) (List.replicate n .non) .non) R T (bks orgs m r) (bks orgs (m + 1) r) b∧1≤T (bks orgs m r):=fun m=>by
  obtain ⟨m',h1,h2⟩:=back m
  obtain ⟨a,b⟩:=ch m' (by omega)
  have e2:bks orgs (m + 1) r=bk orgs (bks orgs m' r):=by show bk orgs _=_;rw [h2]
  rw [e2,h2]
  obtain ⟨w,o,t1,_⟩:=st _ a (by omega)
  exact ⟨a,w,o,t1⟩
 have at':∀ m,orgs[bks orgs m r]? =some (.int (bks orgs (m + 1) r:Nat)):=fun m=>by
  obtain ⟨_,b,o,_⟩:=all m
  have:=o.at'
  rw [←ho] at this
  exact this
 have per:bks orgs (j - i) (bks orgs n r)=bks orgs n r:=by
  rw [←bks_add,show n + (j - i)=j + (n - i) by omega,bks_add,←ef',←bks_add,show i + (n - i)=n by omega]
 have ex:∃ c,1≤c∧c≤n∧bks orgs c (bks orgs n r)=bks orgs n r∧∀ k,1≤k→k < c→bks orgs k (bks orgs n r)≠bks orgs n r:=by
  have:∀ m,1≤m→m≤n→bks orgs m (bks orgs n r)=bks orgs n r→∃ c,1≤c∧c≤n∧bks orgs c (bks orgs n r)=bks orgs n r∧∀ k,1≤k→k < c→bks orgs k (bks orgs n r)≠bks orgs n r:=by
   intro m
   induction m using Nat.strongRecOn with
   | _ m ih=>
    intro h1 h2 h3
    by_cases z:∃ k,1≤k∧k < m∧bks orgs k (bks orgs n r)=bks orgs n r
    ·obtain ⟨k,k1,k2,k3⟩:=z
     exact ih k k2 k1 (by omega) k3
    ·exact ⟨m,h1,h2,h3,fun k k1 k2 k3=>z ⟨k,k1,k2,k3⟩⟩
  exact this (j - i) (by omega) (by omega) per
 obtain ⟨c0,c1,cn,cr,cf⟩:=ex
 refine ⟨r,hr,er,at',⟨c0,⟨?_,cn,cr,cf,fun m=>?_,fun a b hab hb z=>?_⟩⟩,(rounds ds n (List.replicate n 0) (List.replicate n .non) .non).1,T,fun m=>?_⟩
 ·refine Nat.le_of_not_lt fun z=>?_
  have e1:c0=1:=by omega
  subst e1
  obtain ⟨_,b,o,_⟩:=all n
  have:=hne _ o.mem
  exact this cr
 ·rw [←bks_add,←bks_add]
  obtain ⟨_,b,o,_⟩:=all (n + m)
  exact ⟨b,at' (n + m),o.mem⟩
 ·
  have e1:bks orgs (c0 - b) (bks orgs a (bks orgs n r))=bks orgs (c0 - b) (bks orgs b (bks orgs n r)):=by rw [z]
  have e2:bks orgs (a + (c0 - b)) (bks orgs n r)=bks orgs (b + (c0 - b)) (bks orgs n r):=by rw [bks_add,bks_add];exact e1
  rw [show b + (c0 - b)=c0 by omega,cr] at e2
  exact cf (a + (c0 - b)) (by omega) (by omega) e2
 ·obtain ⟨_,b,o,t1⟩:=all m
  exact ⟨b,o.mem,o.le,o.lt,fun z=>g.inj _ _ t1 z⟩
end My
namespace My
open PySem L2
theorem mem_dm {n:Nat} {ps:List (Int×Int)} {st:Int} {d:Dm}:d∈dmAll n ps st n↔d.1 < n∧d.2.1 < n∧d.1≠d.2.1∧dem ps st d.1 d.2.1=some d.2.2:=by
 unfold dmAll dmRow
 rw [List.mem_flatMap]
 constructor
 ·rintro ⟨i,hi,h⟩
  obtain ⟨j,hj,h⟩:=List.mem_flatMap.mp h
  unfold dmI at h
  split at h
  ·cases h
  ·rename_i hne
   split at h
   ·rename_i k e
    rcases List.mem_singleton.mp h with rfl
    exact ⟨List.mem_range.mp hi,List.mem_range.mp hj,hne,e⟩
   ·cases h
 ·rintro ⟨hi,hj,hne,e⟩
  refine ⟨d.1,List.mem_range.mpr hi,List.mem_flatMap.mpr ⟨d.2.1,List.mem_range.mpr hj,?_⟩⟩
  unfold dmI
  rw [if_neg hne,e]
  exact List.mem_singleton.mpr rfl
theorem dm_ne {n:Nat} {ps:List (Int×Int)} {st:Int}:∀ d∈dmAll n ps st n,d.1≠d.2.1:=fun d h=>(mem_dm.mp h).2.2.1
noncomputable def rnL (orgs:List V) (s c:Nat):List Nat:=((List.range c).map fun i=>bks orgs i s).reverse
theorem rnL_len (orgs:List V) (s c:Nat):(rnL orgs s c).length=c:=by simp [rnL]
theorem rnL_at {orgs:List V} {s c i:Nat} (h:i < c):(rnL orgs s c)[i]? =some (bks orgs (c - 1 - i) s):=by
 unfold rnL
 rw [List.getElem?_reverse (by simpa using h),List.getElem?_map,List.length_map,List.length_range,List.getElem?_range (by omega)]
 rfl
structure RB (n:Nat) (ds:List Dm) (orgs:List V) (r c:Nat):Prop where
 lo:orgs.length=n
 rn:r < n
 at':∀ i,orgs[bks orgs i r]? =some (.int (bks orgs (i + 1) r:Nat))
 rnd:Rnd n ds orgs (bks orgs n r) c
 val:∃ (vals:List Int) (T:Nat→Nat),∀ i,∃ b,(bks orgs (i + 1) r,bks orgs i r,b)∈ds∧gt vals (bks orgs i r)≤gt vals (bks orgs (i + 1) r) + b∧(T (bks orgs i r) < T (bks orgs (i + 1) r)→gt vals (bks orgs i r) < gt vals (bks orgs (i + 1) r) + b)∧(T (bks orgs i r)=T (bks orgs (i + 1) r)→bks orgs i r=bks orgs (i + 1) r)
noncomputable def IsRnd (n:Nat) (ds:List Dm) (th:List Nat):Prop:=∃ orgs r c,RB n ds orgs r c∧th=rnL orgs (bks orgs n r) c
theorem isRnd_len {n:Nat} {ds:List Dm} {th:List Nat} (h:IsRnd n ds th):2≤th.length∧th.length≤n:=by
 obtain ⟨orgs,r,c,R,rfl⟩:=h
 rw [rnL_len]
 exact ⟨R.rnd.c2,R.rnd.cn⟩
theorem isRnd_next {n:Nat} {ds:List Dm} {th:List Nat} (h:IsRnd n ds th) {i:Nat} (hi:i < th.length):∃ a b k,th[i]? =some a∧th[(i + 1) % th.length]? =some b∧(a,b,k)∈ds:=by
 obtain ⟨orgs,r,c,R,rfl⟩:=h
 rw [rnL_len] at hi ⊢
 by_cases z:i + 1 < c
 ·rw [Nat.mod_eq_of_lt z,rnL_at hi,rnL_at z]
  obtain ⟨k,_,m⟩:=R.rnd.org (c - 1 - (i + 1))
  rw [show c - 1 - (i + 1) + 1=c - 1 - i by omega] at m
  exact ⟨_,_,k,rfl,rfl,m⟩
 ·have e:i + 1=c:=by omega
  rw [e,Nat.mod_self,rnL_at hi,rnL_at (by omega)]
  obtain ⟨k,_,m⟩:=R.rnd.org (c - 1)
  rw [show c - 1 + 1=c by omega,R.rnd.ret] at m
  rw [show c - 1 - i=0 by omega]
  exact ⟨_,_,k,rfl,rfl,m⟩
noncomputable def nI (th:List Nat):List V:=th.map fun (i:Nat)=>V.int (i:Int)
end My
namespace My
open PySem L2
noncomputable def sumN (K:Nat→Int):Nat→Int
 | 0=>0
 | m + 1=>sumN K m + K m
theorem tele {f K:Nat→Int}:∀ m,(∀ j,j < m→f j≤f (j + 1) + K j)→f 0 - f m≤sumN K m∧((∃ j,j < m∧f j < f (j + 1) + K j)→f 0 - f m < sumN K m)
 | 0,_=>⟨by simp [sumN],fun ⟨j,h,_⟩=>absurd h (Nat.not_lt_zero _)⟩
 | m + 1,h=>by
  obtain ⟨a,b⟩:=tele m fun j hj=>h j (by omega)
  have hm:=h m (by omega)
  refine ⟨by rw [sumN];omega,?_⟩
  rintro ⟨j,hj,hs⟩
  rw [sumN]
  by_cases z:j < m
  ·have:=b ⟨j,z,hs⟩
   omega
  ·have e:j=m:=by omega
   subst e
   omega
theorem sumN_list (K:Nat→Int):∀ m,((List.range m).map K).sum=sumN K m
 | 0=>rfl
 | m + 1=>by rw [List.range_succ,List.map_append,List.sum_append,sumN_list K m,sumN];simp
theorem sum_rev:∀ l:List Int,l.reverse.sum=l.sum
 | []=>rfl
 | a::l=>by rw [List.reverse_cons,List.sum_append,sum_rev l,List.sum_cons];simp;omega
theorem isRnd_sum {n:Nat} {ds:List Dm} (hne:∀ d∈ds,d.1≠d.2.1) {th:List Nat} (h:IsRnd n ds th) {K:Nat→Int}
  (hK:∀ (i a b:Nat) (k:Int),i < th.length→th[i]? =some a→th[(i + 1) % th.length]? =some b→(a,b,k)∈ds→k≤K i):0 < ((List.range th.length).map K).sum:=by
 obtain ⟨orgs,r,c,R,rfl⟩:=h
 rw [rnL_len] at hK ⊢
 have c2:=R.rnd.c2
 obtain ⟨vals,T,hv⟩:=R.val
 have X:∀ j,bks orgs j (bks orgs n r)=bks orgs (n + j) r:=fun j=>(bks_add orgs n r j).symm
 let J:Nat→Nat:=fun j=>if j + 1 < c then c - 2 - j else c - 1
 have st:∀ j,j < c→∃ b,(bks orgs (n + (j + 1)) r,bks orgs (n + j) r,b)∈ds∧b≤K (J j)∧gt vals (bks orgs (n + j) r)≤gt vals (bks orgs (n + (j + 1)) r) + b∧(T (bks orgs (n + j) r) < T (bks orgs (n + (j + 1)) r)→gt vals (bks orgs (n + j) r) < gt vals (bks orgs (n + (j + 1)) r) + b):=fun j hj=>by
  obtain ⟨b,h1,h2,h3,_⟩:=hv (n + j)
  refine ⟨b,h1,?_,h2,h3⟩
  by_cases z:j + 1 < c
  ·have e:J j=c - 2 - j:=if_pos z
   rw [e]
   refine hK (c - 2 - j) _ _ b (by omega) (rnL_at (by omega)) ?_ (by
    rw [X,show n + (c - 1 - (c - 2 - j))=n + (j + 1) by omega]
    exact h1)
   rw [Nat.mod_eq_of_lt (by omega),rnL_at (by omega),X,show n + (c - 1 - (c - 2 - j + 1))=n + j by omega]
  ·have e:J j=c - 1:=if_neg z
   have ej:j=c - 1:=by omega
   subst ej
   rw [e]
   have er:bks orgs (n + (c - 1 + 1)) r=bks orgs n r:=by
    rw [show c - 1 + 1=c by omega,←X]
    exact R.rnd.ret
   refine hK (c - 1) (bks orgs n r) _ b (by omega) ?_ ?_ (by rw [←er];exact h1)
   ·rw [rnL_at (by omega),show c - 1 - (c - 1)=0 by omega]
    rfl
   ·rw [show c - 1 + 1=c by omega,Nat.mod_self,rnL_at (by omega),X,show n + (c - 1 - 0)=n + (c - 1) by omega]
 have cyc:bks orgs (n + c) r=bks orgs (n + 0) r:=by rw [←X,R.rnd.ret];rfl
 have key:=tele (f:=fun j=>gt vals (bks orgs (n + j) r)) (K:=fun j=>K (J j)) c fun j hj=>by
  obtain ⟨b,_,h1,h2,_⟩:=st j hj
  show gt vals (bks orgs (n + j) r)≤gt vals (bks orgs (n + (j + 1)) r) + K (J j)
  omega
 have strict:∃ j,j < c∧gt vals (bks orgs (n + j) r) < gt vals (bks orgs (n + (j + 1)) r) + K (J j):=by
  by_cases z:∃ j,j < c∧T (bks orgs (n + j) r) < T (bks orgs (n + (j + 1)) r)
  ·obtain ⟨j,hj,ht⟩:=z
   obtain ⟨b,_,h1,_,h3⟩:=st j hj
   have:=h3 ht
   exact ⟨j,hj,by omega⟩
  ·exfalso
   have dn:∀ j,j < c→T (bks orgs (n + (j + 1)) r)≤T (bks orgs (n + j) r):=fun j hj=>Nat.le_of_not_lt fun y=>z ⟨j,hj,y⟩
   have dn2:∀ m,m + 1≤c→T (bks orgs (n + (m + 1)) r)≤T (bks orgs (n + 1) r):=by
    intro m
    induction m with
    | zero=>intro _;exact Nat.le_refl _
    | succ m ih=>intro hm;exact Nat.le_trans (dn (m + 1) (by omega)) (ih (by omega))
   have e1:=dn2 (c - 1) (by omega)
   rw [show c - 1 + 1=c by omega,cyc] at e1
   have e2:=dn 0 (by omega)
   obtain ⟨b,h1,_,_,h4⟩:=hv (n + 0)
   have e3:=h4 (Nat.le_antisymm e1 e2)
   exact hne _ h1 e3.symm
 have tot:=key.2 strict
 have e0:gt vals (bks orgs (n + 0) r) - gt vals (bks orgs (n + c) r)=0:=by rw [cyc];omega
 have tot':gt vals (bks orgs (n + 0) r) - gt vals (bks orgs (n + c) r) < sumN (fun j=>K (J j)) c:=tot
 rw [e0] at tot'
 have es:((List.range c).map K).sum=sumN (fun j=>K (J j)) c:=by
  obtain ⟨m,rfl⟩:∃ m,c=m + 1:=⟨c - 1,by omega⟩
  rw [List.range_succ,List.map_append,List.sum_append,sumN]
  have eJ:J m=m:=by
   show (if m + 1 < m + 1 then _ else _)=_
   rw [if_neg (Nat.lt_irrefl _)]
   rfl
  have e4:sumN (fun j=>K (J j)) m=((List.range m).map K).sum:=by
   rw [←sumN_list,←sum_rev]
   congr 1
   refine List.ext_getElem? fun i=>?_
   by_cases hi:i < m
   ·rw [List.getElem?_reverse (by simpa using hi),List.getElem?_map,List.getElem?_map,List.length_map,List.length_range,List.getElem?_range (by omega),List.getElem?_range hi]
    show some (K (J (m - 1 - i)))=some (K i)
    have:J (m - 1 - i)=i:=by
     show (if m - 1 - i + 1 < m + 1 then m + 1 - 2 - (m - 1 - i) else m + 1 - 1)=i
     rw [if_pos (by omega)]
     omega
    rw [this]
   ·rw [List.getElem?_eq_none (by simp;omega),List.getElem?_eq_none (by simp;omega)]
  rw [e4]
  show _ + _=_ + K (J m)
  rw [eJ]
  simp
 rw [es]
 exact tot'
end My
namespace My
open PySem L2
noncomputable def Rl (s0:Int) (line:List Int) (i j:Nat):Prop:=gt line j - gt line i≥s0
theorem line_con (s0:Int) (line:List Int):Nt.Con line.length (Rl s0 line) s0 (gt line):=fun i j _ _=>Iff.rfl
section
variable {s0:Int} {line:List Int} (h0:1≤s0) (h1:1≤line.length)
include h0 h1
omit h1 in
theorem no_bar:barB line.length (toldL s0 line)=false:=by
 have hasR:∀ i j:Nat,i < line.length→j < line.length→(has (toldL s0 line) i j=true↔Rl s0 line i j):=fun i j hi hj=>by
  rw [has_told hi hj]
  exact decide_eq_true_iff
 have hc:=line_con s0 line
 unfold barB
 rw [Bool.or_eq_false_iff]
 constructor
 ·unfold bar2L
  cases e:(toldL s0 line).any fun p=>(toldL s0 line).any fun q=>bar2B (toldL s0 line) p.1 p.2 q.1 q.2 with
  | false=>rfl
  | true=>
   exfalso
   obtain ⟨p,hp,e⟩:=List.any_eq_true.mp e
   obtain ⟨q,hq,e⟩:=List.any_eq_true.mp e
   obtain ⟨a,b,ha,hb,rfl,_⟩:=mem_tlAll.mp hp
   obtain ⟨c,d,hc',hd,rfl,_⟩:=mem_tlAll.mp hq
   unfold bar2B at e
   simp only [Bool.and_eq_true,Bool.not_eq_true'] at e
   obtain ⟨⟨e1,e2⟩,e3,e4⟩:=e
   exact Nt.no_two hc ha hb hc' hd ((hasR _ _ ha hb).mp e1) ((hasR _ _ hc' hd).mp e2) (fun z=>by rw [(hasR _ _ ha hd).mpr z] at e3;cases e3) (fun z=>by rw [(hasR _ _ hc' hb).mpr z] at e4;cases e4)
 ·unfold bar3L
  cases e:(toldL s0 line).any fun p=>(List.range line.length).any fun c=>(List.range line.length).any fun d=>bar3B (toldL s0 line) p.1 p.2 c d with
  | false=>rfl
  | true=>
   exfalso
   obtain ⟨p,hp,e⟩:=List.any_eq_true.mp e
   obtain ⟨c,hc',e⟩:=List.any_eq_true.mp e
   obtain ⟨d,hd,e⟩:=List.any_eq_true.mp e
   obtain ⟨a,b,ha,hb,rfl,_⟩:=mem_tlAll.mp hp
   have hc':=List.mem_range.mp hc'
   have hd:=List.mem_range.mp hd
   unfold bar3B at e
   simp only [Bool.and_eq_true,Bool.not_eq_true'] at e
   obtain ⟨⟨e1,e2⟩,e3,e4⟩:=e
   exact Nt.no_three hc ha hb hc' hd ((hasR _ _ ha hb).mp e1) ((hasR _ _ hb hc').mp e2) (fun z=>by rw [(hasR _ _ ha hd).mpr z] at e3;cases e3) (fun z=>by rw [(hasR _ _ hd hc').mpr z] at e4;cases e4)
end
end My
namespace My
open PySem L2
theorem ord_irr {n:Nat} {ps:List (Int×Int)} (ho:Ord n ps) (a:Int):has ps a a=false:=by
 cases h:has ps a a with
 | false=>rfl
 | true=>exact absurd rfl (ho.ix _ (of_decide_eq_true h)).2.2.2.2
theorem any_f {α:Type} {l:List α} {p:α→Bool} (h:l.any p=false) {x:α} (hx:x∈l):p x=false:=by
 cases e:p x with
 | false=>rfl
 | true=>rw [List.any_eq_true.mpr ⟨x,hx,e⟩] at h;cases h
theorem sm_of {n:Nat} {ps:List (Int×Int)} (ho:Ord n ps) (hb:barB n ps=false):Wk.Sm n (fun a b=>has ps a b=true):=by
 unfold barB at hb
 rw [Bool.or_eq_false_iff] at hb
 refine ⟨fun a _ h=>(by rw [ord_irr ho] at h;cases h),fun a b c d ha hb' hc hd h1 h2=>?_,fun a b c d ha hb' hc hd h1 h2=>?_⟩
 ·have:=any_f (any_f hb.1 (of_decide_eq_true h1)) (of_decide_eq_true h2)
  unfold bar2B at this
  dsimp only at this
  rw [h1,h2] at this
  cases e1:has ps a d with
  | true=>exact .inl rfl
  | false=>
   cases e2:has ps c b with
   | true=>exact .inr rfl
   | false=>rw [e1,e2] at this;cases this
 ·have:=any_f (any_f (any_f hb.2 (of_decide_eq_true h1)) (List.mem_range.mpr hc)) (List.mem_range.mpr hd)
  unfold bar3B at this
  dsimp only at this
  rw [h1,h2] at this
  cases e1:has ps a d with
  | true=>exact .inl rfl
  | false=>
   cases e2:has ps d c with
   | true=>exact .inr rfl
   | false=>rw [e1,e2] at this;cases this
theorem rounds_len (ds:List Dm):∀ (k:Nat) (vals:List Int) (orgs:List V) (r:V),(rounds ds k vals orgs r).1.length=vals.length∧(rounds ds k vals orgs r).2.1.length=orgs.length
 | 0,_,_,_=>⟨rfl,rfl⟩
 | k + 1,vals,orgs,r=>by
  rw [rounds]
  have h:=run1_len ds vals orgs
  split
  ·exact h
  ·have:=rounds_len ds k (run1 ds vals orgs).1 (run1 ds vals orgs).2.1 (run1 ds vals orgs).2.2
   exact ⟨this.1.trans h.1,this.2.trans h.2⟩
theorem rnd_is {n:Nat} {ds:List Dm} (hd:dmOk n ds) (hne:∀ d∈ds,d.1≠d.2.1) (h:lv n ds=none):∃ th,IsRnd n ds th:=by
 have e:(rounds ds n (List.replicate n 0) (List.replicate n .non) .non).2.2≠.non:=fun z=>by
  unfold lv at h
  rw [if_pos z] at h
  cases h
 obtain ⟨r,hr',er,at',⟨c,R⟩,vals,T',hval⟩:=rnd_of hd hne e rfl
 exact ⟨_,_,r,c,⟨by rw [(rounds_len ds n _ _ _).2,List.length_replicate],hr',at',R,vals,T',hval⟩,rfl⟩
noncomputable def rst (ps:List (Int×Int)) (th:List Nat):Nat→List Bool
 | 0=>[]
 | m + 1=>rst ps th m++[has ps (th.getD m 0) (th.getD ((m + 1) % th.length) 0)]
theorem rst_len (ps:List (Int×Int)) (th:List Nat):∀ m,(rst ps th m).length=m
 | 0=>rfl
 | m + 1=>by rw [rst,List.length_append,rst_len ps th m];rfl
theorem rst_sum (ps:List (Int×Int)) (th:List Nat) (st:Int):∀ m,sumN (fun i=>if has ps (th.getD i 0) (th.getD ((i + 1) % th.length) 0)=true then st else 1 - st) m=(Wk.nt (rst ps th m):Int) * st + (Wk.nf (rst ps th m):Int) * (1 - st)
 | 0=>by simp [sumN,rst,Wk.nt,Wk.nf]
 | m + 1=>by
  rw [sumN,rst_sum ps th st m,rst,Wk.nt_app,Wk.nf_app]
  cases e:has ps (th.getD m 0) (th.getD ((m + 1) % th.length) 0) with
  | true=>
   rw [if_pos rfl,show Wk.nt [true]=1 from rfl,show Wk.nf [true]=0 from rfl]
   rw [show ((Wk.nt (rst ps th m) + 1:Nat):Int)=(Wk.nt (rst ps th m):Int) + 1 by omega,Int.add_mul]
   rw [Nat.add_zero]
   omega
  | false=>
   rw [if_neg Bool.false_ne_true,show Wk.nt [false]=0 from rfl,show Wk.nf [false]=1 from rfl]
   rw [show ((Wk.nf (rst ps th m) + 1:Nat):Int)=(Wk.nf (rst ps th m):Int) + 1 by omega,Int.add_mul]
   rw [Nat.add_zero]
   omega
theorem getD_of {th:List Nat} {i a:Nat} (h:th[i]? =some a):th.getD i 0=a:=by
 rw [List.getD_eq_getElem?_getD,h]
 rfl
theorem rst_walk {n:Nat} {ps:List (Int×Int)} {st:Int} {th:List Nat} (h:IsRnd n (dmAll n ps st n) th):∀ m,m≤th.length→Wk.W n (fun a b=>has ps a b=true) (th.getD 0 0) (th.getD (m % th.length) 0) (rst ps th m)
 | 0,_=>by
  obtain ⟨l2,_⟩:=isRnd_len h
  obtain ⟨a,b,k,h1,h2,h3⟩:=isRnd_next h (i:=0) (by omega)
  rw [Nat.zero_mod]
  refine .nil ?_
  rw [getD_of h1]
  exact (mem_dm.mp h3).1
 | m + 1,hm=>by
  obtain ⟨a,b,k,h1,h2,h3⟩:=isRnd_next h (i:=m) (by omega)
  have w:=rst_walk h m (by omega)
  rw [Nat.mod_eq_of_lt (by omega)] at w
  rw [rst]
  refine w.app ?_
  rw [getD_of h1,getD_of h2]
  obtain ⟨x1,x2,x3,x4⟩:=mem_dm.mp h3
  dsimp only at x1 x2 x3 x4
  cases e:has ps a b with
  | true=>exact .up x1 e (.nil x2)
  | false=>
   refine .fl x1 ?_ (.nil x2)
   intro z
   have z':has ps b a=true:=z
   unfold dem at x4
   rw [e,z'] at x4
   cases x4
theorem rep_gen {n:Nat} {ps:List (Int×Int)} (ho:Ord n ps) (hb:barB n ps=false) {st:Int} (h1:1≤st) (hn:(n:Int)≤2 * st):∃ vals,nums n ps st=some vals:=by
 cases e:nums n ps st with
 | some v=>exact ⟨v,rfl⟩
 | none=>
  exfalso
  obtain ⟨th,h⟩:=rnd_is (dmAll_ok n ps st) dm_ne e
  obtain ⟨l2,ln⟩:=isRnd_len h
  have n8:=ho.hi
  have sm:=sm_of ho hb
  have w:=rst_walk h th.length (Nat.le_refl _)
  rw [Nat.mod_self] at w
  have hs:=isRnd_sum dm_ne h (K:=fun i=>if has ps (th.getD i 0) (th.getD ((i + 1) % th.length) 0)=true then st else 1 - st) fun i a b k hi h1 h2 h3=>by
   obtain ⟨_,_,_,x4⟩:=mem_dm.mp h3
   dsimp only at x4 ⊢
   rw [getD_of h1,getD_of h2]
   unfold dem at x4
   cases e:has ps a b with
   | true=>rw [e] at x4;injection x4 with x4;rw [if_pos rfl];exact Int.le_of_eq x4.symm
   | false=>
    rw [e] at x4
    rw [if_neg Bool.false_ne_true] at x4 ⊢
    split at x4
    ·cases x4
    ·injection x4 with x4;exact Int.le_of_eq x4.symm
  rw [sumN_list,rst_sum] at hs
  have hl:=rst_len ps th th.length
  have few:Wk.nt (rst ps th th.length) < Wk.nf (rst ps th th.length):=by
   rcases Nat.lt_trichotomy (Wk.nt (rst ps th th.length)) (Wk.nf (rst ps th th.length)) with g | g | g
   ·exact g
   ·exfalso
    have ex:∃ m,m < th.length∧has ps (th.getD m 0) (th.getD ((m + 1) % th.length) 0)=false:=by
     apply Classical.byContradiction
     intro z
     have all:∀ m,m≤th.length→Wk.nf (rst ps th m)=0∧Wk.nt (rst ps th m)=m:=by
      intro m
      induction m with
      | zero=>intro _;exact ⟨rfl,rfl⟩
      | succ m ih=>
       intro hm
       obtain ⟨i1,i2⟩:=ih (by omega)
       have e:has ps (th.getD m 0) (th.getD ((m + 1) % th.length) 0)=true:=by
        cases e:has ps (th.getD m 0) (th.getD ((m + 1) % th.length) 0) with
        | true=>rfl
        | false=>exact absurd ⟨m,by omega,e⟩ z
       rw [rst,e,Wk.nf_app,Wk.nt_app,i1,i2]
       exact ⟨rfl,rfl⟩
     obtain ⟨i1,i2⟩:=all th.length (Nat.le_refl _)
     omega
    obtain ⟨m,hm,em⟩:=ex
    have w1:=rst_walk h m (by omega)
    rw [Nat.mod_eq_of_lt hm] at w1
    have sp:∀ k,m + 1 + k≤th.length→∃ v,rst ps th (m + 1 + k)=rst ps th m++(false::v)∧Wk.W n (fun a b=>has ps a b=true) (th.getD ((m + 1) % th.length) 0) (th.getD ((m + 1 + k) % th.length) 0) v:=by
     intro k
     induction k with
     | zero=>
      intro _
      refine ⟨[],by rw [Nat.add_zero,rst,em],?_⟩
      obtain ⟨a,b,k,h1,h2,h3⟩:=isRnd_next h (i:=m) hm
      rw [Nat.add_zero,getD_of h2]
      exact .nil (mem_dm.mp h3).2.1
     | succ k ih=>
      intro hk
      obtain ⟨v,e1,e2⟩:=ih (by omega)
      obtain ⟨a,b,j,h1,h2,h3⟩:=isRnd_next h (i:=m + 1 + k) (by omega)
      obtain ⟨x1,x2,x3,x4⟩:=mem_dm.mp h3
      dsimp only at x1 x2 x3 x4
      refine ⟨v++[has ps (th.getD (m + 1 + k) 0) (th.getD ((m + 1 + k + 1) % th.length) 0)],?_,?_⟩
      ·rw [show m + 1 + (k + 1)=m + 1 + k + 1 by omega,rst,e1,List.append_assoc,List.cons_append]
      ·rw [Nat.mod_eq_of_lt (by omega:m + 1 + k < th.length)] at e2
       refine e2.app ?_
       rw [show m + 1 + (k + 1)=m + 1 + k + 1 by omega,getD_of h1,getD_of h2]
       cases e:has ps a b with
       | true=>exact .up x1 e (.nil x2)
       | false=>
        refine .fl x1 ?_ (.nil x2)
        intro z
        have z':has ps b a=true:=z
        unfold dem at x4
        rw [e,z'] at x4
        cases x4
    obtain ⟨v,e1,w2⟩:=sp (th.length - (m + 1)) (by omega)
    rw [show m + 1 + (th.length - (m + 1))=th.length by omega] at e1 w2
    rw [Nat.mod_self] at w2
    rw [e1,Wk.nt_app,Wk.nf_app,show (false::v)=[false]++v from rfl,Wk.nt_app,Wk.nf_app,show Wk.nt [false]=0 from rfl,show Wk.nf [false]=1 from rfl] at g
    have up:=Wk.up_of sm _ _ (Nat.le_refl _) (by rw [Wk.nt_app,Wk.nf_app];omega) (w2.app w1)
    obtain ⟨a,b,j,h1,h2,h3⟩:=isRnd_next h (i:=m) hm
    obtain ⟨x1,x2,x3,x4⟩:=mem_dm.mp h3
    dsimp only at x1 x2 x3 x4
    rw [getD_of h1,getD_of h2] at up em
    unfold dem at x4
    rw [em,up] at x4
    cases x4
   ·have:=Wk.up_of sm _ _ (Nat.le_refl _) g w
    exact absurd this (sm.irr _ w.fst)
  have tot:(Wk.nt (rst ps th th.length)) + (Wk.nf (rst ps th th.length))=th.length:=by
   have h1:=List.length_eq_countP_add_countP (l:=rst ps th th.length) id
   have h2:Wk.nf (rst ps th th.length)=List.countP (fun a=>decide ¬id a=true) (rst ps th th.length):=by
    unfold Wk.nf
    refine List.countP_congr ?_
    intro x _
    cases x <;> simp
   have h3:Wk.nt (rst ps th th.length)=List.countP id (rst ps th th.length):=rfl
   omega
  generalize Wk.nt (rst ps th th.length)=p at *
  generalize Wk.nf (rst ps th th.length)=q at *
  have hp:(p:Int) + 1≤st:=by omega
  have hq:(q:Int) * (1 - st)≤((p:Int) + 1) * (1 - st):=by
   have:((q:Int) - (p + 1)) * (st - 1)≥0:=Int.mul_nonneg (by omega) (by omega)
   have e1:((q:Int) - (p + 1)) * (st - 1)=(p + 1) * (1 - st) - q * (1 - st):=by
    rw [Int.sub_mul,show st - 1=-(1 - st) by omega,Int.mul_neg,Int.mul_neg]
    omega
   omega
  have e2:((p:Int) + 1) * (1 - st)=(p:Int) - p * st + 1 - st:=by
   rw [Int.add_mul,Int.mul_sub]
   omega
  omega
end My
namespace My
open PySem L2
section
variable {P:Program} {w:World} {K:PySem.W.Frag} {mg:Str→Option Value} {base:Heap} {t:Ad}
theorem bar_is {H:Hp} {v:V} {n:Nat} {ps:List (Int×Int)} (h:Is H v (barD n ps)):decide (v=V.non)= !barB n ps:=by
 cases e:barB n ps with
 | false=>
  rw [barD_no e] at h
  cases h
  rfl
 | true=>
  obtain ⟨ds,e'⟩:=barD_yes e
  rw [e'] at h
  cases h
  rfl
end
end My
namespace My
open PySem L2
section
variable {P:Program} {w:World} {K:PySem.W.Frag} {mg:Str→Option Value} {base:Heap} {t:Ad}
noncomputable def b4D (p:Bool×List Int):PyData:=.tuple (.str (if p.1=true then "two" else "three")::p.2.map .int)
noncomputable def md2 (ps:List (Int×Int)) (p q:Int×Int):List (Bool×List Int):=if (!has ps p.1 q.2&& !has ps q.1 p.2)=true then [(true,[p.1,p.2,q.1,q.2])] else []
noncomputable def md3i (ps:List (Int×Int)) (p q:Int×Int) (e:Nat):List (Bool×List Int):=if (!has ps p.1 e&& !has ps e q.2)=true then [(false,[p.1,p.2,q.2,(e:Int)])] else []
noncomputable def md3 (ps:List (Int×Int)) (p q:Int×Int) (m:Nat):List (Bool×List Int):=(List.range m).flatMap (md3i ps p q)
noncomputable def mdq (n:Nat) (ps:List (Int×Int)) (p q:Int×Int):List (Bool×List Int):=md2 ps p q++md3 ps p q (if p.2=q.1 then n else 0)
noncomputable def mdp (n:Nat) (ps:List (Int×Int)) (p:Int×Int) (qs:List (Int×Int)):List (Bool×List Int):=qs.flatMap (mdq n ps p)
noncomputable def mdA (n:Nat) (ps:List (Int×Int)) (rs:List (Int×Int)):List (Bool×List Int):=rs.flatMap fun p=>mdp n ps p ps
theorem md3_len (ps:List (Int×Int)) (p q:Int×Int):∀ m,(md3 ps p q m).length≤m
 | 0=>Nat.le_refl _
 | m + 1=>by
  have:=md3_len ps p q m
  unfold md3 at this ⊢
  rw [List.range_succ,List.flatMap_append,List.length_append]
  have e:([m].flatMap (md3i ps p q)).length≤1:=by
   simp only [List.flatMap_cons,List.flatMap_nil,List.append_nil]
   unfold md3i
   split <;> simp
  omega
theorem mdq_len {n:Nat} (n8:n≤8) (ps:List (Int×Int)) (p q:Int×Int):(mdq n ps p q).length≤9:=by
 unfold mdq
 rw [List.length_append]
 have h1:(md2 ps p q).length≤1:=by unfold md2;split <;> simp
 have h2:=md3_len ps p q (if p.2=q.1 then n else 0)
 have h3:(if p.2=q.1 then n else 0)≤8:=by split <;> omega
 omega
theorem flat_len {α β:Type} {f:α→List β} {k:Nat}:∀ {l:List α},(∀ x∈l,(f x).length≤k)→(l.flatMap f).length≤l.length * k
 | [],_=>by simp
 | x::l,h=>by
  rw [List.flatMap_cons,List.length_append,List.length_cons,Nat.succ_mul]
  have h1:=h x List.mem_cons_self
  have h2:=flat_len (l:=l) fun y hy=>h y (List.mem_cons_of_mem _ hy)
  omega
theorem mdp_len {n:Nat} (n8:n≤8) (ps:List (Int×Int)) (p:Int×Int) (qs:List (Int×Int)):(mdp n ps p qs).length≤qs.length * 9:=flat_len fun q _=>mdq_len n8 ps p q
theorem mdA_len {n:Nat} (n8:n≤8) (ps:List (Int×Int)) (rs:List (Int×Int)):(mdA n ps rs).length≤rs.length * (ps.length * 9):=flat_len fun p _=>mdp_len n8 ps p ps
theorem noLs_b4:∀ l:List (Bool×List Int),noLs (l.map b4D)=true
 | []=>rfl
 | p::l=>by
  rw [List.map_cons,noLs,noLs_b4 l]
  have:∀ ns:List Int,noLs (ns.map .int)=true:=fun ns=>by
   induction ns with
   | nil=>rfl
   | cons n ns ih=>rw [List.map_cons,noLs,ih];rfl
  unfold b4D
  rw [noL,noLs,this]
  rfl
theorem seq_restB {ta tb:TS} {D:Ends} {σ:St} {H:Hp} (C:St→Hp→Prop) (rest:∀ σ' H',C σ' H'→tb D σ' H') (h:∀ D':Ends,D'.rt=D.rt→(∀ σ' H',C σ' H'→D'.nx σ' H')→ta D' σ H):tSeq ta tb D σ H:=h { D with nx:=fun σ' H'=>tb D σ' H' } rfl rest
noncomputable def prK (p:Int×Int):List Key×V:=([.inl p.1,.inl p.2],.bl true)
theorem val_any (k:List Key):∀ kvs:List (List Key×V),(valV kvs k).isSome=kvs.any fun kv=>decide (kv.1=k)
 | []=>rfl
 | p::r=>by
  rw [List.any_cons]
  by_cases h:p.1=k
  ·rw [valV_pos h,decide_eq_true h]
   rfl
  ·rw [valV_neg h,decide_eq_false h,Bool.false_or]
   exact val_any k r
theorem val_put (kvs:List (List Key×V)) (k k2:List Key) (v:V):(valV (putK kvs k v) k2).isSome=((valV kvs k2).isSome||decide (k=k2)):=by
 rw [val_any,val_any]
 unfold putK
 split
 ·rename_i h
  have e:((kvs.map fun kv=>if kv.1=k then (kv.1,v) else kv).any fun kv=>decide (kv.1=k2))=kvs.any fun kv=>decide (kv.1=k2):=by
   rw [List.any_map]
   congr 1
   funext kv
   dsimp only [Function.comp]
   split <;> rfl
  rw [e]
  by_cases g:k=k2
  ·subst g
   rw [h]
   rfl
  ·rw [decide_eq_false g,Bool.or_false]
 ·rw [List.any_append]
  simp
theorem dall_has (ps:List (Int×Int)) (i j:Int):(valV (dall (ps.map prK)) [.inl i,.inl j]).isSome=has ps i j:=by
 have go:∀ (ps:List (Int×Int)) (kvs:List (List Key×V)),(valV ((ps.map prK).foldl dput kvs) [.inl i,.inl j]).isSome=((valV kvs [.inl i,.inl j]).isSome||has ps i j):=by
  intro ps
  induction ps with
  | nil=>intro kvs;simp [has]
  | cons p ps ih=>
   intro kvs
   rw [List.map_cons,List.foldl_cons,ih]
   unfold dput
   rw [val_put,Bool.or_assoc]
   congr 1
   unfold has prK
   have e:(([Sum.inl p.1,Sum.inl p.2]:List Key)=[Sum.inl i,Sum.inl j])↔(i,j)=p:=by
    constructor
    ·intro h
     injection h with h1 h2
     injection h1 with h1
     injection h2 with h2 _
     injection h2 with h2
     exact Prod.ext h1.symm h2.symm
    ·rintro rfl
     rfl
   rw [Bool.eq_iff_iff]
   simp only [Bool.or_eq_true,decide_eq_true_eq,List.mem_cons]
   rw [e]
 have:=go ps []
 rw [valV_nil] at this
 simpa [dall] using this
theorem dget_pr {H:Hp} {d b:Addr} {ps:List (Int×Int)} {i j:Int} (e:H d=some (.dT (dall (ps.map prK)))) (eb:H b=some (.tup [.int i,.int j])) {R:Bool→Prop} (h:R (!has ps i j)):
  ∃ a o,V.ref d=V.ref a∧DGet H a (.ref b) o∧∃ k,(V.bl !o.isSome)=V.bl k∧R k:=
 ⟨d,_,rfl,getS (S:=[i,j]) e eb rfl,_,rfl,by rw [show ([i,j].map Sum.inl:List Key)=[.inl i,.inl j] from rfl,dall_has];exact h⟩
theorem b4_is {H:Hp} {a:Addr} {b:Bool} {x:Str} {i j k l:Int} (hx:(if b=true then "two" else "three":Str)=x) (e:H a=some (.tup [.str x,.int i,.int j,.int k,.int l])):Is H (.ref a) (b4D (b,[i,j,k,l])):=by
 subst hx
 exact .tup e (.cons (.str _) (.cons (.int _) (.cons (.int _) (.cons (.int _) (.cons (.int _) .nil)))))
theorem prl_snoc {H:Hp} {ys:List V} {prs:List (List Key×V)} {a b:Addr} {p:List Key×V} (h:PrL H ys prs) (ha:H a=some (.tup [.ref b,p.2])) (hb:H b=some (.tup (p.1.map kV))):PrL H (ys++[.ref a]) (prs++[p]):=by
 refine ⟨by rw [List.length_append,List.length_append,h.1];rfl,fun j x hx=>?_⟩
 by_cases hj:j < ys.length
 ·rw [List.getElem?_append_left hj] at hx
  obtain ⟨a',b',p',e1,e2,e3,e4⟩:=h.2 j x hx
  exact ⟨a',b',p',e1,by rw [List.getElem?_append_left (by rw [h.1];exact hj)];exact e2,e3,e4⟩
 ·rw [List.getElem?_append_right (by omega)] at hx
  have:j - ys.length=0:=by
   have:=(List.getElem?_eq_some_iff.mp hx).1
   simp at this
   omega
  rw [this] at hx
  cases hx
  refine ⟨a,b,p,rfl,?_,ha,hb⟩
  rw [List.getElem?_append_right (by rw [h.1];omega),h.1,this]
  rfl
theorem prl_same {H H':Hp} {ys:List V} {prs:List (List Key×V)} (h:PrL H ys prs) (s:Same H H'):PrL H' ys prs:=⟨h.1,fun j x hx=>by
 obtain ⟨a',b',p',e1,e2,e3,e4⟩:=h.2 j x hx
 exact ⟨a',b',p',e1,e2,s _ _ e3,s _ _ e4⟩⟩
theorem mdp_next {n:Nat} {ps:List (Int×Int)} {p q:Int×Int} {qs:List (Int×Int)} {j:Nat} (h:qs[j]? =some q):mdp n ps p (qs.take (j + 1))=mdp n ps p (qs.take j)++mdq n ps p q:=by
 unfold mdp
 rw [List.take_add_one,h,List.flatMap_append]
 simp
theorem mdA_next {n:Nat} {ps:List (Int×Int)} {p:Int×Int} {rs:List (Int×Int)} {j:Nat} (h:rs[j]? =some p):mdA n ps (rs.take (j + 1))=mdA n ps (rs.take j)++mdp n ps p ps:=by
 unfold mdA
 rw [List.take_add_one,h,List.flatMap_append]
 simp
theorem md3_succ (ps:List (Int×Int)) (p q:Int×Int) (m:Nat):md3 ps p q (m + 1)=md3 ps p q m++md3i ps p q m:=by
 unfold md3
 rw [List.range_succ,List.flatMap_append]
 simp
theorem pr_get' {H:Hp} {xs:List V} {ps:List (Int×Int)} {i:Nat} {x:V} (h:IsAll H xs (ps.map prD)) (hx:xs[i]? =some x):∃ p r,ps[i]? =some p∧x=.ref r∧H r=some (.tup [.int p.1,.int p.2]):=by
 obtain ⟨d,ed,id⟩:=h.get' hx
 rw [List.getElem?_map] at ed
 cases e:ps[i]? with
 | none=>rw [e] at ed;cases ed
 | some p=>
  rw [e] at ed
  cases ed
  unfold prD at id
  cases id with
  | @tup r ys _ er hys=>
   obtain rfl:=two_ints hys
   exact ⟨p,r,rfl,rfl,er⟩
noncomputable def barsL (n:Nat) (ps:List (Int×Int)):List (Bool×List Int):=((mdA n ps ps).filter fun p=>p.1)++(mdA n ps ps).filter fun p=> !p.1
noncomputable def upR (x y:Bool×List Int):Prop:=x.1=y.1→HT.lexLt x.2 y.2=true
theorem lex2 {a b c d a' b' c' d':Int} (h:ltP (a,b) (a',b')):HT.lexLt [a,b,c,d] [a',b',c',d']=true:=by
 have h':HT.lexLt [a,b] [a',b']=true:=h
 rw [HT.lexLt_cons,HT.lexLt_cons] at h' ⊢
 by_cases e1:a=a'
 ·rw [if_pos e1] at h' ⊢
  by_cases e2:b=b'
  ·rw [if_pos e2] at h'
   cases h'
  ·rw [if_neg e2] at h' ⊢
   exact h'
 ·rw [if_neg e1] at h' ⊢
  exact h'
theorem lex3 {a b c d c' d':Int} (h:ltP (c,d) (c',d')):HT.lexLt [a,b,c,d] [a,b,c',d']=true:=by
 rw [HT.lexLt_cons,if_pos rfl,HT.lexLt_cons,if_pos rfl]
 exact h
theorem mem_mdq {n:Nat} {ps:List (Int×Int)} {p q:Int×Int} {x:Bool×List Int} (h:x∈mdq n ps p q):(x=(true,[p.1,p.2,q.1,q.2])∧(!has ps p.1 q.2&& !has ps q.1 p.2)=true)∨(p.2=q.1∧∃ e:Nat,e < n∧x=(false,[p.1,p.2,q.2,(e:Int)])∧(!has ps p.1 e&& !has ps e q.2)=true):=by
 unfold mdq at h
 rcases List.mem_append.mp h with h | h
 ·unfold md2 at h
  split at h
  ·rename_i g
   exact .inl ⟨List.mem_singleton.mp h,g⟩
  ·cases h
 ·unfold md3 at h
  obtain ⟨e,he,h⟩:=List.mem_flatMap.mp h
  have he:=List.mem_range.mp he
  unfold md3i at h
  split at h
  ·rename_i g
   split at he
   ·rename_i g2
    exact .inr ⟨g2,e,he,List.mem_singleton.mp h,g⟩
   ·omega
  ·cases h
theorem mdq_up (n:Nat) (ps:List (Int×Int)) (p q:Int×Int):(mdq n ps p q).Pairwise upR:=by
 unfold mdq
 rw [List.pairwise_append]
 refine ⟨?_,?_,fun x hx y hy e=>?_⟩
 ·unfold md2
  split
  ·exact List.pairwise_singleton _ _
  ·exact .nil
 ·unfold md3
  rw [List.pairwise_flatMap]
  refine ⟨fun e _=>?_,List.Pairwise.imp ?_ List.pairwise_lt_range⟩
  ·unfold md3i
   split
   ·exact List.pairwise_singleton _ _
   ·exact .nil
  ·intro e1 e2 he x hx y hy _
   unfold md3i at hx hy
   split at hx
   ·split at hy
    ·rcases List.mem_singleton.mp hx with rfl
     rcases List.mem_singleton.mp hy with rfl
     exact lex3 (ltP_of (.inr ⟨rfl,by show (e1:Int) < e2;omega⟩))
    ·cases hy
   ·cases hx
 ·exfalso
  unfold md2 at hx
  split at hx
  ·rcases List.mem_singleton.mp hx with rfl
   unfold md3 at hy
   obtain ⟨k,_,hy⟩:=List.mem_flatMap.mp hy
   unfold md3i at hy
   split at hy
   ·rcases List.mem_singleton.mp hy with rfl
    cases e
   ·cases hy
  ·cases hx
theorem mdA_up {n:Nat} {ps:List (Int×Int)} (up:ps.Pairwise ltP):(mdA n ps ps).Pairwise upR:=by
 unfold mdA
 rw [List.pairwise_flatMap]
 refine ⟨fun p _=>?_,up.imp ?_⟩
 ·unfold mdp
  rw [List.pairwise_flatMap]
  refine ⟨fun q _=>mdq_up n ps p q,up.imp ?_⟩
  intro q1 q2 hq x hx y hy e
  rcases mem_mdq hx with ⟨rfl,_⟩ | ⟨g1,e1,_,rfl,_⟩
  ·rcases mem_mdq hy with ⟨rfl,_⟩ | ⟨g2,e2,_,rfl,_⟩
   ·exact lex3 hq
   ·cases e
  ·rcases mem_mdq hy with ⟨rfl,_⟩ | ⟨g2,e2,_,rfl,_⟩
   ·cases e
   ·have h':HT.lexLt [q1.1,q1.2] [q2.1,q2.2]=true:=hq
    rw [HT.lexLt_cons,if_pos (by omega),HT.lexLt_cons] at h'
    split at h'
    ·cases h'
    ·rename_i ne
     refine lex3 (ltP_of (.inl ?_))
     exact of_decide_eq_true h'
 ·intro p1 p2 hp x hx y hy _
  obtain ⟨q1,_,hx⟩:=List.mem_flatMap.mp hx
  obtain ⟨q2,_,hy⟩:=List.mem_flatMap.mp hy
  have e1:∃ c d,x.2=[p1.1,p1.2,c,d]:=by
   rcases mem_mdq hx with ⟨rfl,_⟩ | ⟨_,e1,_,rfl,_⟩
   ·exact ⟨_,_,rfl⟩
   ·exact ⟨_,_,rfl⟩
  have e2:∃ c d,y.2=[p2.1,p2.2,c,d]:=by
   rcases mem_mdq hy with ⟨rfl,_⟩ | ⟨_,e1,_,rfl,_⟩
   ·exact ⟨_,_,rfl⟩
   ·exact ⟨_,_,rfl⟩
  obtain ⟨c,d,e1⟩:=e1
  obtain ⟨c',d',e2⟩:=e2
  rw [e1,e2]
  exact lex2 hp
noncomputable def unI:PyData→Int
 | .int i=>i
 | _=>0
noncomputable def key4:PyData→List Int
 | .tuple (_::ds)=>ds.map unI
 | _=>[]
theorem key4_b (p:Bool×List Int):key4 (b4D p)=p.2:=by
 show (p.2.map PyData.int).map unI=p.2
 rw [List.map_map]
 exact (List.map_congr_left fun i _=>rfl).trans (List.map_id _)
theorem ltDs_ints:∀ l m:List Int,ltDs (l.map .int) (m.map .int)=HT.lexLt l m
 | [],[]=>rfl
 | [],_::_=>rfl
 | _::_,[]=>rfl
 | a::l,b::m=>by
  rw [List.map_cons,List.map_cons,ltDs,ltDs_ints l m,HT.lexLt_cons]
  have e:PyData.eqv (.int a) (.int b)=decide (a=b):=by
   rw [PyData.eqv]
   by_cases g:a=b
   ·simp [g]
   ·simp [g]
  rw [e]
  by_cases g:a=b
  ·rw [if_pos (by simpa using g),if_pos g]
  ·rw [if_neg (by simpa using g),if_neg g,ltD]
theorem cmpDs_ints:∀ l m:List Int,cmpDs (l.map .int) (m.map .int)=true
 | [],_=>by rw [List.map_nil,cmpDs]
 | _::_,[]=>by rw [List.map_nil,List.map_cons,cmpDs]
 | a::l,b::m=>by
  rw [List.map_cons,List.map_cons,cmpDs,cmpDs_ints l m,cmpD]
  split <;> rfl
theorem b4_lt (b:Bool) (l m:List Int):cmpD (b4D (b,l)) (b4D (b,m))=true∧ltD (b4D (b,l)) (b4D (b,m))=HT.lexLt l m:=by
 unfold b4D
 have e:∀ x:Str,PyData.eqv (.str x) (.str x)=true:=fun x=>by simp [PyData.eqv]
 constructor
 ·rw [cmpD,cmpDs,if_pos (e _)]
  exact cmpDs_ints l m
 ·rw [ltD,ltDs,if_pos (e _)]
  exact ltDs_ints l m
theorem ok_tag (b:Bool):okD (.str (if b=true then "two" else "three")):=by
 cases b
 ·exact ⟨by rw [PyData.canLay0];decide +kernel,Nat.zero_le _⟩
 ·exact ⟨by rw [PyData.canLay0];decide +kernel,Nat.zero_le _⟩
theorem b4_ok (p:Bool×List Int):okD (b4D p)∧noL (b4D p)=true:=by
 have h1:∀ ns:List Int,noLs (ns.map .int)=true:=fun ns=>by
  induction ns with
  | nil=>rfl
  | cons n ns ih=>rw [List.map_cons,noLs,ih];rfl
 have h2:∀ ns:List Int,PyData.canLayAll0 (ns.map .int)=true∧PyData.depthAll (ns.map .int)≤0:=fun ns=>by
  induction ns with
  | nil=>exact ⟨rfl,Nat.le_refl _⟩
  | cons n ns ih=>
   rw [List.map_cons,PyData.canLayAll0,PyData.depthAll,ih.1]
   exact ⟨rfl,Nat.max_le.mpr ⟨Nat.le_refl _,ih.2⟩⟩
 refine ⟨⟨?_,?_⟩,?_⟩
 ·unfold b4D
  rw [PyData.canLay0,PyData.canLayAll0,(h2 p.2).1,Bool.and_true]
  exact (ok_tag p.1).1
 ·unfold b4D
  rw [PyData.depth,PyData.depthAll]
  have:=(h2 p.2).2
  have e0:(PyData.str (if p.1=true then "two" else "three")).depth=0:=rfl
  rw [e0]
  omega
 ·unfold b4D
  rw [noL,noLs,h1]
  rfl
theorem b4_at {H:Hp} {zs:List V} {l:List (Bool×List Int)} {i:Nat} {x:V} (iz:IsAll H zs (l.map b4D)) (hx:zs[i]? =some x):∃ p a vs,l[i]? =some p∧x=.ref a∧H a=some (.tup (.str (if p.1=true then "two" else "three")::vs))∧Is H (.ref a) (b4D p):=by
 obtain ⟨d,ed,id⟩:=iz.get' hx
 rw [List.getElem?_map] at ed
 cases e:l[i]? with
 | none=>rw [e] at ed;cases ed
 | some p=>
  rw [e] at ed
  cases ed
  have id2:=id
  unfold b4D at id2
  cases id2 with
  | @tup a xs _ ea hxs=>
   cases hxs with
   | cons h1 t1=>
    cases h1
    exact ⟨p,a,_,rfl,rfl,ea,id⟩
theorem tag_two (b:Bool):PyData.eqv (.str (if b=true then "two" else "three")) (.str "two")=b:=by cases b <;> decide
theorem tag_three (b:Bool):PyData.eqv (.str (if b=true then "two" else "three")) (.str "three")= !b:=by cases b <;> decide
theorem sort4 {H:Hp} {Q:VK} {p:Addr} {vs:List V} (b:Bool) {l:List (Bool×List Int)} (hl:l.Pairwise upR) (hb:∀ x∈l,x.1=b) (e:H p=some (.lst vs)) (ha:IsAll H vs (l.map b4D)) (h:∀ r vs',H r=none→IsAll H vs' (l.map b4D)→Q (.ref r) (upd H r (.lst vs'))):rSortD K [.ref p] H Q:=by
 have hm:∀ d∈l.map b4D,∃ m,d=b4D (b,m):=fun d hd=>by
  obtain ⟨x,hx,rfl⟩:=List.mem_map.mp hd
  exact ⟨x.2,by rw [←hb x hx]⟩
 have pw:(l.map b4D).Pairwise fun a c=>HT.lexLt (key4 a) (key4 c)=true:=by
  rw [List.pairwise_map]
  refine List.Pairwise.imp_of_mem ?_ hl
  intro x y hx hy h
  rw [key4_b,key4_b]
  exact h (by rw [hb x hx,hb y hy])
 refine rd_sortD key4 e ha (.inr ⟨if b=true then "two" else "three",fun d hd=>?_⟩) (fun d hd=>?_) (fun d hd e he=>?_) ?_ fun r vs' ds' hr ia pm up=>?_
 ·obtain ⟨m,rfl⟩:=hm d hd
  exact ⟨_,rfl⟩
 ·obtain ⟨m,rfl⟩:=hm d hd
  exact b4_ok _
 ·obtain ⟨m,rfl⟩:=hm d hd
  obtain ⟨m',rfl⟩:=hm e he
  rw [key4_b,key4_b]
  exact b4_lt b m m'
 ·unfold List.Nodup
  rw [List.pairwise_map]
  refine pw.imp ?_
  intro a c h z
  rw [z] at h
  have:=lex_asym h
  rw [h] at this
  cases this
 ·have ee:=sorted_one (lt:=fun a c:PyData=>HT.lexLt (key4 a) (key4 c)=true) (fun a c h1 h2=>by have:=lex_asym h1;rw [h2] at this;cases this) pm up pw
  rw [ee] at ia
  exact h r vs' hr ia
set_option genSizeOf false in
set_option genInjectivity false in
inductive sp_bars (vs:List V) (H:Hp) (Q:VK) (zz3:XK):Prop where
 | mk (x:V) (n:Nat) (ps:List (Int×Int)) (zh0:vs=[x]) (zh1:Is H x (ordD n ps)) (zh2:Ord n ps) (zh3:∀ (l:Addr) (vs':List V) (H':Hp),Same H H'→H l=none→H' l=some (.lst vs')→IsAll H' vs' ((barsL n ps).map b4D)→Q (.ref l) H'):sp_bars vs H Q zz3
theorem ok__law_bars (T:Txt K mg t):FnOk P w K mg base CX0 1 t.a__law_bars t.d__law_bars ["_law_order"] sp_bars:=by
 refine T.F__law_bars.ok sc__law_bars (fun vs H Q E h=>?_) (fun cdv A outer s H vs Q E hr h=>?_)
 ·obtain ⟨x,n,ps,rfl,_⟩:=h
  rfl
 ·obtain ⟨x,n,ps,rfl,hx,ho,q⟩:=h
  refine ⟨_,(pss_cons (ps_set (i:=1) sc__law_bars.nd rfl (Or.inl rfl) (pe_callTy (k_dictL K hr.units) (by rfl) T.n_dict bt_dict (pa_cons (pe_lc rfl ⟨True.intro,True.intro,True.intro⟩ (M:=["_law_pair"]) (.own .nil) (gk_name rfl) rfl (by decide +kernel) (k_ptup K (pe_ix (k_ix K) (pv 0) pe_int (fun _ _=>rfl))) (fun C fp s1 H1=>⟨pg_name (i:=0) (show (["_law_pair"]:List Str).Nodup by decide +kernel) rfl (Or.inl rfl),pif_nil,(pe_tup (pa_cons (pv 0) (pa_cons pe_bl pa_nil)))⟩)) pa_nil)))
   (pss_cons (ps_set (i:=2) sc__law_bars.nd rfl (Or.inl rfl) (pe_lst pa_nil))
   (pss_cons (ps_for PassesOwn.never rfl (k_ptup K (pe_ix (k_ix K) (pv 0) pe_int (fun _ _=>rfl))) (k_gtup K rfl (pgs_cons (pg_name (i:=3) sc__law_bars.nd rfl (Or.inl rfl)) (pgs_cons (pg_name (i:=4) sc__law_bars.nd rfl (Or.inl rfl)) pgs_nil))) (pss_one (ps_for PassesOwn.never rfl (k_ptup K (pe_ix (k_ix K) (pv 0) pe_int (fun _ _=>rfl))) (k_gtup K rfl (pgs_cons (pg_name (i:=5) sc__law_bars.nd rfl (Or.inl rfl)) (pgs_cons (pg_name (i:=6) sc__law_bars.nd rfl (Or.inl rfl)) pgs_nil))) (pss_cons (ps_if (PW.pt (pw_and (pt_cmp (pc_dnotin (hu_of hr) (pe_tup (pa_cons (pv 3) (pa_cons (pv 6) pa_nil))) (pv 1))) (pw_and1 (pt_cmp (pc_dnotin (hu_of hr) (pe_tup (pa_cons (pv 5) (pa_cons (pv 4) pa_nil))) (pv 1)))))) (pss_one (ps_expr (k_bm K PySem.F.plainAttrs_list PySem.F.slot_list_append PySem.F.type_list_append mt_append (pv 2) (pa_cons (pe_tup (pa_cons pe_str (pa_cons (pv 3) (pa_cons (pv 4) (pa_cons (pv 5) (pa_cons (pv 6) pa_nil)))))) pa_nil)))) pss_nil)
   (pss_one (ps_for PassesOwn.never rfl (pi_range1 rfl T.n_range (pa_cons (pe_op op_mul (pe_ix (k_ix K) (pv 0) pe_int (fun _ _=>rfl)) (pe_callTy c_int (by rfl) T.n_int bt_int (pa_cons (pe_cmpR (op_eqD hr.units) (pv 4) (pv 5) (nomark _)) pa_nil))) pa_nil)) (pg_name (i:=7) sc__law_bars.nd rfl (Or.inl rfl)) (pss_one (ps_if (PW.pt (pw_and (pt_cmp (pc_dnotin (hu_of hr) (pe_tup (pa_cons (pv 3) (pa_cons (pv 7) pa_nil))) (pv 1))) (pw_and1 (pt_cmp (pc_dnotin (hu_of hr) (pe_tup (pa_cons (pv 7) (pa_cons (pv 6) pa_nil))) (pv 1)))))) (pss_one (ps_expr (k_bm K PySem.F.plainAttrs_list PySem.F.slot_list_append PySem.F.type_list_append mt_append (pv 2) (pa_cons (pe_tup (pa_cons pe_str (pa_cons (pv 3) (pa_cons (pv 4) (pa_cons (pv 6) (pa_cons (pv 7) pa_nil)))))) pa_nil)))) pss_nil))))))))
   (pss_cons (ps_set (i:=8) sc__law_bars.nd rfl (Or.inl rfl) (pe_callB (k_sortD K hr.units) (by rfl) T.n_sorted bt_sorted (pa_cons (pe_lc rfl ⟨True.intro,True.intro,True.intro⟩ (M:=["_law_line"]) (.own .nil) (gk_name rfl) rfl (by decide +kernel) (k_plst K (pv 2)) (fun C fp s1 H1=>⟨pg_name (i:=0) (show (["_law_line"]:List Str).Nodup by decide +kernel) rfl (Or.inl rfl),pif_one (pt_cmpR (op_eqD hr.units) (pe_ix (k_ix K) (pv 0) pe_int (fun _ _=>rfl)) pe_str (nomark _)),(pv 0)⟩)) pa_nil)))
   (pss_one (ps_ret (pe_op op_cat (pv 8) (pe_callB (k_sortD K hr.units) (by rfl) T.n_sorted bt_sorted (pa_cons (pe_lc rfl ⟨True.intro,True.intro,True.intro⟩ (M:=["_law_line"]) (.own .nil) (gk_name rfl) rfl (by decide +kernel) (k_plst K (pv 2)) (fun C fp s1 H1=>⟨pg_name (i:=0) (show (["_law_line"]:List Str).Nodup by decide +kernel) rfl (Or.inl rfl),pif_one (pt_cmpR (op_eqD hr.units) (pe_ix (k_ix K) (pv 0) pe_int (fun _ _=>rfl)) pe_str (nomark _)),(pv 0)⟩)) pa_nil))))))))),?_⟩
  obtain ⟨oa,ob,xs,rfl,ea,eb,hxs⟩:=is_ord hx
  have lxs:xs.length=ps.length:=by rw [hxs.length,List.length_map]
  have n8:=ho.hi
  have sz:=ho.sz
  have nd:=nd_of (pw_of ho.up)
  have lp64:=small_prs nd fun p hp=>inN.box n8 (ho.ix p hp)
  walk_at "rd"
  refine ⟨ob,rfl,⟨xs,SqT.of eb⟩,?_⟩
  refine lp_tup (K:=K) (xs:=xs) (small_ln (by omega)) (fun i ys H'=>Same H H'∧PrL H' ys ((ps.take i).map prK)) ⟨Same.refl _,rfl,fun j x hx=>by simp at hx⟩ (by
   rintro i ys H' ⟨_,h⟩
   have:=h.1
   rw [List.length_map,List.length_take] at this
   omega) (fun i ys H' _ h=>SqT.of (h.1 _ _ eb)) ?_ ?_
  ·rintro i x ys H1 hx ⟨s1,iy⟩
   obtain ⟨p0,r,hp0,rfl,er⟩:=pr_get' (hxs.same s1) hx
   walk_at "rd"
   refine ⟨by show 2≤sizeLine;decide,fun q1 hq1=>?_⟩
   have f1:=Same.upd (o:=.tup [V.ref r,V.bl true]) hq1
   refine ⟨s1.trans f1,?_⟩
   rw [List.take_add_one,hp0,List.map_append]
   exact prl_snoc (p:=prK p0) (prl_same iy f1) upd_same (f1 _ _ er)
  rintro ys H1 ⟨s1,iy⟩ l1 hl1
  rw [lxs,List.take_length] at iy
  have ly:ys.length < 64:=by
   have:=iy.1
   rw [List.length_map] at this
   omega
  have f1:=Same.upd (o:=.lst ys) hl1
  walk_at "rd"
  refine ⟨l1,ys,ps.map prK,rfl,upd_same,prl_same iy f1,small1000 (by omega),fun d hd=>?_⟩
  have f2:=Same.upd (o:=.dT (dall (ps.map prK))) hd
  have s2:=(s1.trans f1).trans f2
  have ed:upd (upd H1 l1 (.lst ys)) d (.dT (dall (ps.map prK))) d=some (.dT (dall (ps.map prK))):=upd_same
  generalize upd (upd H1 l1 (.lst ys)) d (.dT (dall (ps.map prK)))=H2 at s2 ed
  clear f1 f2 hd hl1 iy ly
  walk_at "rd"
  refine ⟨Nat.zero_le _,fun m hm=>?_⟩
  have f3:=Same.upd (o:=.lst []) hm
  have s3:=s2.trans f3
  have ed3:=f3 _ _ ed
  have em3:upd H2 m (.lst []) m=some (.lst []):=upd_same
  have nmH:H m=none:=s2.free hm
  generalize upd H2 m (.lst [])=H3 at s3 ed3 em3
  clear f3 hm
  have fin:∀ H',SameT m H3 H'→Same H H':=fun H' s b u e=>s b u (s3 b u e) fun z=>by rw [z,nmH] at e;cases e
  have ea3:=s3 _ _ ea
  have ndm:d≠m:=fun z=>by rw [z,em3] at ed3;cases ed3
  walk_at "rd"
  refine ⟨ob,rfl,⟨xs,SqT.of (s3 _ _ eb)⟩,?_⟩
  refine fp_tup (K:=K) (xs:=xs) (fun i σ H'=>(∃ va vb vc vd ve vf,σ=[some (.ref oa),some (.ref d),some (.ref m),va,vb,vc,vd,ve,vf])∧SameT m H3 H'∧∃ zs,H' m=some (.lst zs)∧IsAll H' zs ((mdA n ps (ps.take i)).map b4D)) ⟨⟨_,_,_,_,_,_,rfl⟩,SameT.refl _ _,[],em3,.nil⟩ (fun i σ H' _ h=>SqT.of (fin H' h.2.1 _ _ eb)) ?_ ?_
  ·rintro i x σ H4 hx ⟨⟨va,vb,vc,vd,ve,vf,rfl⟩,s4,zs,hz,iz⟩
   obtain ⟨p0,r,hp0,rfl,er⟩:=pr_get' (hxs.same (fin H4 s4)) hx
   refine rd_gtup er rfl ?_
   have ea4:=fin H4 s4 _ _ ea
   walk_at "rd"
   refine ⟨ob,rfl,⟨xs,SqT.of (fin H4 s4 _ _ eb)⟩,?_⟩
   refine fp_tup (K:=K) (xs:=xs) (fun j σ H'=>(∃ vc vd ve vf,σ=[some (.ref oa),some (.ref d),some (.ref m),some (.int p0.1),some (.int p0.2),vc,vd,ve,vf])∧SameT m H3 H'∧∃ zs,H' m=some (.lst zs)∧IsAll H' zs ((mdA n ps (ps.take i)++mdp n ps p0 (ps.take j)).map b4D)) ⟨⟨_,_,_,_,rfl⟩,s4,zs,hz,by simpa [mdp] using iz⟩ (fun i σ H' _ h=>SqT.of (fin H' h.2.1 _ _ eb)) ?_ ?_
   rotate_left
   ·rintro σ H5 ⟨⟨vc,vd,ve,vf,rfl⟩,s5,zs5,hz5,iz5⟩
    rw [lxs,List.take_length] at iz5
    exact ⟨⟨_,_,_,_,_,_,rfl⟩,s5,zs5,hz5,by rw [mdA_next hp0];exact iz5⟩
   rintro j y σ H5 hy ⟨⟨vc,vd,ve,vf,rfl⟩,s5,zs5,hz5,iz5⟩
   obtain ⟨q0,r2,hq0,rfl,er2⟩:=pr_get' (hxs.same (fin H5 s5)) hy
   refine rd_gtup er2 rfl ?_
   have ea5:=fin H5 s5 _ _ ea
   have ed5:=s5 _ _ ed3 ndm
   (repeat (first | with_reducible refine rd_gcons ?_ | with_reducible refine rd_gname ?_ | with_reducible refine rd_gnil ?_ | dsimp only))
   have lenz:∀ (H':Hp) (zs:List V) (l:List (Bool×List Int)),IsAll H' zs (l.map b4D)→l.length≤64 * (64 * 9) + 64 * 9 + 9→zs.length < sizeLine:=fun H' zs l h1 h2=>by
    rw [h1.length,List.length_map,sizeLine_eq]
    omega
   have lA:(mdA n ps (ps.take i)).length≤64 * (64 * 9):=by
    have h1:=mdA_len n8 ps (ps.take i)
    rw [List.length_take] at h1
    exact Nat.le_trans h1 (Nat.mul_le_mul (by omega) (Nat.mul_le_mul (by omega) (Nat.le_refl _)))
   have lP:(mdp n ps p0 (ps.take j)).length≤64 * 9:=by
    have h1:=mdp_len n8 ps p0 (ps.take j)
    rw [List.length_take] at h1
    exact Nat.le_trans h1 (Nat.mul_le_mul (by omega) (Nat.le_refl _))
   refine seq_restB (fun σ' H'=>(∃ ve vf,σ'=[some (.ref oa),some (.ref d),some (.ref m),some (.int p0.1),some (.int p0.2),some (.int q0.1),some (.int q0.2),ve,vf])∧SameT m H3 H'∧∃ zs,H' m=some (.lst zs)∧IsAll H' zs ((mdA n ps (ps.take i)++mdp n ps p0 (ps.take j)++md2 ps p0 q0).map b4D)) ?_ (fun D' hrt hnx=>?_)
   rotate_left
   ·walk_at "rd"
    refine rd_dnotin ?_
    walk_at "rd"
    refine ⟨by show 2≤sizeLine;decide,fun q1 hq1=>?_⟩
    walk_at "rd"
    have g1:=Same.upd (o:=.tup [V.int p0.1,V.int q0.2]) hq1
    have hz6:=g1 _ _ hz5
    have iz6:=iz5.same g1
    have ed6:=g1 _ _ ed5
    have s6:=s5.trans g1.t (w:=m)
    have eq6:upd H5 q1 (.tup [V.int p0.1,V.int q0.2]) q1=some (.tup [V.int p0.1,V.int q0.2]):=upd_same
    generalize upd H5 q1 (.tup [V.int p0.1,V.int q0.2])=H6 at hz6 iz6 ed6 s6 eq6
    refine dget_pr ed6 eq6 ?_
    cases h1:has ps p0.1 q0.2 with
    | true=>
     walk_at "rd"
     refine hnx _ _ ⟨⟨_,_,rfl⟩,s6,zs5,hz6,?_⟩
     have e0:md2 ps p0 q0=[]:=by unfold md2;rw [h1];rfl
     rw [e0,List.append_nil]
     exact iz6
    | false=>
     walk_at "rd"
     refine rd_dnotin ?_
     walk_at "rd"
     refine ⟨by show 2≤sizeLine;decide,fun q2 hq2=>?_⟩
     walk_at "rd"
     have g2:=Same.upd (o:=.tup [V.int q0.1,V.int p0.2]) hq2
     have hz7:=g2 _ _ hz6
     have iz7:=iz6.same g2
     have ed7:=g2 _ _ ed6
     have s7:=s6.trans g2.t (w:=m)
     have eq7:upd H6 q2 (.tup [V.int q0.1,V.int p0.2]) q2=some (.tup [V.int q0.1,V.int p0.2]):=upd_same
     generalize upd H6 q2 (.tup [V.int q0.1,V.int p0.2])=H7 at hz7 iz7 ed7 s7 eq7
     refine dget_pr ed7 eq7 ?_
     cases h2:has ps q0.1 p0.2 with
     | true=>
      walk_at "rd"
      refine hnx _ _ ⟨⟨_,_,rfl⟩,s7,zs5,hz7,?_⟩
      have e0:md2 ps p0 q0=[]:=by unfold md2;rw [h1,h2];rfl
      rw [e0,List.append_nil]
      exact iz7
     | false=>
      have e0:md2 ps p0 q0=[(true,[p0.1,p0.2,q0.1,q0.2])]:=by unfold md2;rw [h1,h2];rfl
      rw [e0] at hnx
      walk_at "rd"
      refine ⟨tyV_lst hz7,?_⟩
      walk_at "rd"
      refine ⟨by show 5≤sizeLine;decide,fun q3 hq3=>?_⟩
      have nm3:m≠q3:=ne_of_none hz7 hq3
      walk_at "rd"
      refine rd_append (xs:=zs5) ?_ (lenz _ _ _ iz7 (by rw [List.length_append];omega)) ?_
      ·rw [upd_ne nm3]
       exact hz7
      walk_at "rd"
      refine hnx _ _ ⟨⟨_,_,rfl⟩,fun c u e z=>?_,_,upd_same,?_⟩
      ·rw [upd_ne z]
       have e7:=s7 c u e z
       rw [upd_ne (ne_of_none e7 hq3)]
       exact e7
      ·rw [List.map_append]
       refine grow (noLs_b4 _) hz7 hq3 iz7 (b4_is (x:="two") rfl ?_)
       rw [upd_ne (Ne.symm nm3),upd_same]
   rintro σ' H6 ⟨⟨ve,vf,rfl⟩,s6,zs6,hz6,iz6⟩
   have ea6:=fin H6 s6 _ _ ea
   have ed6:=s6 _ _ ed3 ndm
   walk_at "rd"
   have eM:∀ b:Bool,((n:Int) * (if b=true then 1 else 0))=(((if b=true then n else 0):Nat):Int):=fun b=>by cases b <;> simp
   refine rd_I (.inl ⟨by omega,by omega⟩) ?_
   rw [eM]
   have eb0:(if (p0.2==q0.1)=true then n else 0)=(if p0.2=q0.1 then n else 0):=by
    by_cases z:p0.2=q0.1
    ·rw [if_pos (by simpa using z),if_pos z]
    ·rw [if_neg (by simpa using z),if_neg z]
   rw [eb0]
   have lM:(if p0.2=q0.1 then n else 0)≤8:=by split <;> omega
   walk_at "rd"
   refine ⟨_,rfl,by omega,by omega,?_⟩
   rw [Int.toNat_natCast]
   refine fp_range (fun k σ H'=>(∃ ve vf,σ=[some (.ref oa),some (.ref d),some (.ref m),some (.int p0.1),some (.int p0.2),some (.int q0.1),some (.int q0.2),ve,vf])∧SameT m H3 H'∧∃ zs,H' m=some (.lst zs)∧IsAll H' zs ((mdA n ps (ps.take i)++mdp n ps p0 (ps.take j)++md2 ps p0 q0++md3 ps p0 q0 k).map b4D)) ⟨⟨_,_,rfl⟩,s6,zs6,hz6,by simpa [md3] using iz6⟩ ?_ ?_
   rotate_left
   ·rintro σ H7 ⟨⟨vg,vh,rfl⟩,s7,zs7,hz7,iz7⟩
    refine ⟨⟨_,_,_,_,rfl⟩,s7,zs7,hz7,?_⟩
    rw [mdp_next hq0]
    unfold mdq
    simpa only [List.append_assoc] using iz7
   rintro k σ H7 hk ⟨⟨vg,vh,rfl⟩,s7,zs7,hz7,iz7⟩
   have ed7:=s7 _ _ ed3 ndm
   have l2:(md2 ps p0 q0).length≤1:=by unfold md2;split <;> simp
   have l3:=md3_len ps p0 q0 k
   rw [md3_succ,←List.append_assoc]
   walk_at "rd"
   refine rd_dnotin ?_
   walk_at "rd"
   rw [Int.zero_add]
   refine ⟨by show 2≤sizeLine;decide,fun q1 hq1=>?_⟩
   walk_at "rd"
   have g1:=Same.upd (o:=.tup [V.int p0.1,V.int (k:Nat)]) hq1
   have hz8:=g1 _ _ hz7
   have iz8:=iz7.same g1
   have ed8:=g1 _ _ ed7
   have s8:=s7.trans g1.t (w:=m)
   have eq8:upd H7 q1 (.tup [V.int p0.1,V.int (k:Nat)]) q1=some (.tup [V.int p0.1,V.int (k:Nat)]):=upd_same
   generalize upd H7 q1 (.tup [V.int p0.1,V.int (k:Nat)])=H8 at hz8 iz8 ed8 s8 eq8
   refine dget_pr ed8 eq8 ?_
   cases h1:has ps p0.1 k with
   | true=>
    walk_at "rd"
    refine ⟨⟨_,_,rfl⟩,s8,zs7,hz8,?_⟩
    have e0:md3i ps p0 q0 k=[]:=by unfold md3i;rw [h1];rfl
    rw [e0,List.append_nil]
    exact iz8
   | false=>
    walk_at "rd"
    refine rd_dnotin ?_
    walk_at "rd"
    refine ⟨by show 2≤sizeLine;decide,fun q2 hq2=>?_⟩
    walk_at "rd"
    have g2:=Same.upd (o:=.tup [V.int (k:Nat),V.int q0.2]) hq2
    have hz9:=g2 _ _ hz8
    have iz9:=iz8.same g2
    have ed9:=g2 _ _ ed8
    have s9:=s8.trans g2.t (w:=m)
    have eq9:upd H8 q2 (.tup [V.int (k:Nat),V.int q0.2]) q2=some (.tup [V.int (k:Nat),V.int q0.2]):=upd_same
    generalize upd H8 q2 (.tup [V.int (k:Nat),V.int q0.2])=H9 at hz9 iz9 ed9 s9 eq9
    refine dget_pr ed9 eq9 ?_
    cases h2:has ps k q0.2 with
    | true=>
     walk_at "rd"
     refine ⟨⟨_,_,rfl⟩,s9,zs7,hz9,?_⟩
     have e0:md3i ps p0 q0 k=[]:=by unfold md3i;rw [h1,h2];rfl
     rw [e0,List.append_nil]
     exact iz9
    | false=>
     have e0:md3i ps p0 q0 k=[(false,[p0.1,p0.2,q0.2,(k:Int)])]:=by unfold md3i;rw [h1,h2];rfl
     rw [e0]
     walk_at "rd"
     refine ⟨tyV_lst hz9,?_⟩
     walk_at "rd"
     refine ⟨by show 5≤sizeLine;decide,fun q3 hq3=>?_⟩
     have nm3:m≠q3:=ne_of_none hz9 hq3
     walk_at "rd"
     refine rd_append (xs:=zs7) ?_ (lenz _ _ _ iz9 (by rw [List.length_append,List.length_append,List.length_append];omega)) ?_
     ·rw [upd_ne nm3]
      exact hz9
     walk_at "rd"
     refine ⟨⟨_,_,rfl⟩,fun c u e z=>?_,_,upd_same,?_⟩
     ·rw [upd_ne z]
      have e9:=s9 c u e z
      rw [upd_ne (ne_of_none e9 hq3)]
      exact e9
     ·rw [List.map_append]
      refine grow (noLs_b4 _) hz9 hq3 iz9 (b4_is (x:="three") rfl ?_)
      rw [upd_ne (Ne.symm nm3),upd_same]
  ·rintro σ H4 ⟨⟨va,vb,vc,vd,ve,vf,rfl⟩,s4,zs,hz,iz⟩
   rw [lxs,List.take_length] at iz
   have lA:(mdA n ps ps).length≤64 * (64 * 9):=by
    have h1:=mdA_len n8 ps ps
    exact Nat.le_trans h1 (Nat.mul_le_mul (by omega) (Nat.mul_le_mul (by omega) (Nat.le_refl _)))
   have lz:zs.length=(mdA n ps ps).length:=by rw [iz.length,List.length_map]
   have sH4:=fin H4 s4
   have up:=mdA_up (n:=n) (pw_of ho.up)
   walk_at "rd"
   refine ⟨m,rfl,⟨_,SqL.of hz⟩,?_⟩
   refine lp_list (K:=K) (xs:=zs) (by rw [lz,sizeLine_eq];omega) (fun i ys H'=>H'=H4∧IsAll H' ys ((((mdA n ps ps).take i).filter fun p=>p.1).map b4D)) ⟨rfl,.nil⟩ (by
    rintro i ys H' ⟨_,h⟩
    rw [h.length,List.length_map]
    have:=List.length_filter_le (fun p:Bool×List Int=>p.1) ((mdA n ps ps).take i)
    rw [List.length_take] at this
    omega) (fun i ys H' _ h=>by rw [h.1];exact SqL.of hz) ?_ ?_
   ·rintro i x ys H5 hx ⟨rfl,iy⟩
    obtain ⟨p,a,vs,hp,rfl,ea',ip⟩:=b4_at iz hx
    walk_at "rd"
    refine rd_ixT ea' (atI_of (i:=0) rfl rfl) ?_
    walk_at "rd"
    refine rd_eqD (d:=.str _) (e:=.str "two") (.str _) (.str _) (ok_tag _) (ok_tag true) ?_
    rw [tag_two]
    rw [List.take_add_one,hp,show (some p).toList=[p] from rfl,List.filter_append]
    obtain ⟨b,l⟩:=p
    dsimp only
    refine ⟨_,rfl,?_⟩
    cases b with
    | true=>
     refine ifT (by rfl) ?_
     walk_at "rd"
     refine ⟨rfl,?_⟩
     rw [List.map_append]
     exact iy.append (.cons ip .nil)
    | false=>
     refine ifF (by rfl) ?_
     walk_at "rd"
     refine ⟨rfl,?_⟩
     simpa using iy
   rintro ys H5 ⟨rfl,iy⟩ l1 hl1
   rw [lz,List.take_length] at iy
   have f1:=Same.upd (o:=.lst ys) hl1
   walk_at "rd"
   refine sort4 true (up.filter _) (fun x hx=>(List.mem_filter.mp hx).2) upd_same (iy.same f1) fun r1 w1 hr1 ia1=>?_
   have f2:=Same.upd (o:=.lst w1) hr1
   have sH5:=(sH4.trans f1).trans f2
   have hz5:=f2 _ _ (f1 _ _ hz)
   have iz5:=(iz.same f1).same f2
   have ia5:=ia1.same f2
   have er5:upd (upd H5 l1 (.lst ys)) r1 (.lst w1) r1=some (.lst w1):=upd_same
   generalize upd (upd H5 l1 (.lst ys)) r1 (.lst w1)=H6 at sH5 hz5 iz5 ia5 er5
   walk_at "rd"
   refine ⟨m,rfl,⟨_,SqL.of hz5⟩,?_⟩
   refine lp_list (K:=K) (xs:=zs) (by rw [lz,sizeLine_eq];omega) (fun i ys H'=>H'=H6∧IsAll H' ys ((((mdA n ps ps).take i).filter fun p=> !p.1).map b4D)) ⟨rfl,.nil⟩ (by
    rintro i ys H' ⟨_,h⟩
    rw [h.length,List.length_map]
    have:=List.length_filter_le (fun p:Bool×List Int=> !p.1) ((mdA n ps ps).take i)
    rw [List.length_take] at this
    omega) (fun i ys H' _ h=>by rw [h.1];exact SqL.of hz5) ?_ ?_
   ·rintro i x ys H7 hx ⟨rfl,iy⟩
    obtain ⟨p,a,vs,hp,rfl,ea',ip⟩:=b4_at iz5 hx
    walk_at "rd"
    refine rd_ixT ea' (atI_of (i:=0) rfl rfl) ?_
    walk_at "rd"
    refine rd_eqD (d:=.str _) (e:=.str "three") (.str _) (.str _) (ok_tag _) (ok_tag false) ?_
    rw [tag_three]
    rw [List.take_add_one,hp,show (some p).toList=[p] from rfl,List.filter_append]
    obtain ⟨b,l⟩:=p
    dsimp only
    refine ⟨_,rfl,?_⟩
    cases b with
    | false=>
     refine ifT (by rfl) ?_
     walk_at "rd"
     refine ⟨rfl,?_⟩
     rw [List.map_append]
     exact iy.append (.cons ip .nil)
    | true=>
     refine ifF (by rfl) ?_
     walk_at "rd"
     refine ⟨rfl,?_⟩
     simpa using iy
   rintro ys2 H7 ⟨rfl,iy2⟩ l2 hl2
   rw [lz,List.take_length] at iy2
   have f3:=Same.upd (o:=.lst ys2) hl2
   walk_at "rd"
   refine sort4 false (up.filter _) (fun x hx=>by have:=(List.mem_filter.mp hx).2;simpa using this) upd_same (iy2.same f3) fun r2 w2 hr2 ia2=>?_
   have f4:=Same.upd (o:=.lst w2) hr2
   have l1':w1.length≤64 * (64 * 9):=by
    rw [ia5.length,List.length_map]
    exact Nat.le_trans (List.length_filter_le _ _) lA
   have l2':w2.length≤64 * (64 * 9):=by
    rw [ia2.length,List.length_map]
    exact Nat.le_trans (List.length_filter_le _ _) lA
   refine rd_cat (f4 _ _ (f3 _ _ er5)) upd_same (by rw [sizeLine_eq];omega) fun r3 hr3=>?_
   have f5:=Same.upd (o:=.lst (w1++w2)) hr3
   have sE:=((sH5.trans f3).trans f4).trans f5
   refine q r3 _ _ sE (((sH5.trans f3).trans f4).free hr3) upd_same ?_
   unfold barsL
   rw [List.map_append]
   exact (((ia5.same f3).same f4).same f5).append ((ia2.same f4).same f5)
end
end My
namespace My
open PySem L2
theorem has_iffB {ps:List (Int×Int)} {p:Int×Int} (h:p∈ps):has ps p.1 p.2=true:=decide_eq_true h
theorem bars_nil {n:Nat} {ps:List (Int×Int)} (ho:Ord n ps):barsL n ps=[]↔barB n ps=false:=by
 have e0:barsL n ps=[]↔mdA n ps ps=[]:=by
  unfold barsL
  constructor
  ·intro h
   have h1:=List.append_eq_nil_iff.mp h
   apply Classical.byContradiction
   intro z
   obtain ⟨x,hx⟩:=List.exists_mem_of_ne_nil _ z
   cases e:x.1 with
   | true=>exact List.not_mem_nil (h1.1▸List.mem_filter.mpr ⟨hx,e⟩)
   | false=>exact List.not_mem_nil (h1.2▸List.mem_filter.mpr ⟨hx,by rw [e];rfl⟩)
  ·intro h
   rw [h]
   rfl
 rw [e0]
 constructor
 ·intro h
  unfold barB
  rw [Bool.or_eq_false_iff]
  have no:∀ p∈ps,∀ q∈ps,mdq n ps p q=[]:=fun p hp q hq=>by
   apply Classical.byContradiction
   intro z
   obtain ⟨x,hx⟩:=List.exists_mem_of_ne_nil _ z
   have:x∈mdA n ps ps:=List.mem_flatMap.mpr ⟨p,hp,List.mem_flatMap.mpr ⟨q,hq,hx⟩⟩
   rw [h] at this
   exact List.not_mem_nil this
  constructor
  ·cases e:bar2L ps with
   | false=>rfl
   | true=>
    exfalso
    obtain ⟨p,hp,e⟩:=List.any_eq_true.mp e
    obtain ⟨q,hq,e⟩:=List.any_eq_true.mp e
    have:=no p hp q hq
    unfold bar2B at e
    rw [Bool.and_eq_true] at e
    unfold mdq md2 at this
    rw [if_pos e.2] at this
    cases this
  ·cases e:bar3L n ps with
   | false=>rfl
   | true=>
    exfalso
    obtain ⟨p,hp,e⟩:=List.any_eq_true.mp e
    obtain ⟨c,hc,e⟩:=List.any_eq_true.mp e
    obtain ⟨d,hd,e⟩:=List.any_eq_true.mp e
    unfold bar3B at e
    rw [Bool.and_eq_true,Bool.and_eq_true] at e
    have hq:(p.2,(c:Int))∈ps:=of_decide_eq_true e.1.2
    have:=no p hp _ hq
    unfold mdq at this
    have h3:=(List.append_eq_nil_iff.mp this).2
    rw [if_pos rfl] at h3
    unfold md3 at h3
    have hm:(false,[p.1,p.2,(c:Int),(d:Int)])∈(List.range n).flatMap (md3i ps p (p.2,(c:Int))):=by
     refine List.mem_flatMap.mpr ⟨d,hd,?_⟩
     unfold md3i
     rw [if_pos e.2]
     exact List.mem_singleton.mpr rfl
    rw [h3] at hm
    exact List.not_mem_nil hm
 ·intro h
  unfold barB at h
  rw [Bool.or_eq_false_iff] at h
  apply Classical.byContradiction
  intro z
  obtain ⟨x,hx⟩:=List.exists_mem_of_ne_nil _ z
  obtain ⟨p,hp,hx⟩:=List.mem_flatMap.mp hx
  obtain ⟨q,hq,hx⟩:=List.mem_flatMap.mp hx
  rcases mem_mdq hx with ⟨_,g⟩ | ⟨g1,e,he,_,g⟩
  ·have:=any_f (any_f h.1 hp) hq
   unfold bar2B at this
   rw [has_iffB hp,has_iffB hq,g] at this
   cases this
  ·obtain ⟨_,_,i3,i4,_⟩:=ho.ix q hq
   have:=any_f (any_f (any_f h.2 hp) (List.mem_range.mpr (show q.2.toNat < n by omega))) (List.mem_range.mpr he)
   unfold bar3B at this
   rw [has_iffB hp,Int.toNat_of_nonneg i3,g1,has_iffB hq,g] at this
   cases this
end My
namespace My
open PySem L2
noncomputable def gr0 (vs:List Int) (d:Dm):List Int:=vs.set d.2.1 (if vs.getD d.1 0 + d.2.2 > vs.getD d.2.1 0 then vs.getD d.1 0 + d.2.2 else vs.getD d.2.1 0)
noncomputable def gr1 (ds:List Dm) (vs:List Int):List Int:=ds.foldl gr0 vs
theorem set_own (l:List Int) (i:Nat):l.set i (l.getD i 0)=l:=by
 apply List.ext_getElem?
 intro j
 rw [List.getElem?_set]
 by_cases h:i=j
 ·subst h
  rw [if_pos rfl]
  by_cases g:i < l.length
  ·simp [g]
  ·simp [g]
 ·rw [if_neg h]
theorem gr1_run:∀ (ds:List Dm) (s:Rs),gr1 ds s.1=(ds.foldl rel1 s).1
 | [],s=>rfl
 | d::ds,s=>by
  have e:gr0 s.1 d=(rel1 s d).1:=by
   unfold gr0 rel1
   split
   ·rfl
   ·exact set_own _ _
  show gr1 ds (gr0 s.1 d)=_
  rw [e]
  exact gr1_run ds (rel1 s d)
noncomputable def grounds (ds:List Dm):Nat→List Int→Option (List Int)
 | 0,_=>none
 | k + 1,vals=>if gr1 ds vals=vals then some (gr1 ds vals) else grounds ds k (gr1 ds vals)
theorem gr1_len (ds:List Dm) (vals:List Int):(gr1 ds vals).length=vals.length:=by
 rw [gr1_run ds (vals,[],V.non)]
 exact (fold_len ds (vals,[],V.non)).1
theorem grounds_some {n:Nat} {ds:List Dm} (hd:dmOk n ds):∀ (k:Nat) (vals v:List Int),vals.length=n→grounds ds k vals=some v→
  v.length=n∧(∀ i,gt vals i≤gt v i)∧SolD ds (gt v)∧∀ x,SolD ds x→(∀ i,i < n→gt vals i≤x i)→∀ i,i < n→gt v i≤x i
 | 0,vals,v,hl,h=>by cases h
 | k + 1,vals,v,hl,h=>by
  rw [grounds] at h
  have er:=gr1_run ds (vals,[],V.non)
  by_cases g:gr1 ds vals=vals
  ·rw [if_pos g] at h
   injection h with h
   rw [g] at h
   subst h
   refine ⟨hl,fun i=>Int.le_refl _,fun d hm=>?_,fun x _ hx=>hx⟩
   have ge:=fold_ge ds (vals,[],V.non) hl hd d hm
   rw [←er,g] at ge
   exact ge
  ·rw [if_neg g] at h
   obtain ⟨a,b,c,e⟩:=grounds_some hd k (gr1 ds vals) v ((gr1_len ds vals).trans hl) h
   refine ⟨a,fun i=>?_,c,fun x sx hx=>e x sx fun i hi=>?_⟩
   ·have m:=fold_mono ds (vals,[],V.non) hl hd i
    rw [←er] at m
    exact Int.le_trans m (b i)
   ·have m:=fold_le ds (vals,[],V.non) hl hd sx hx i hi
    rw [←er] at m
    exact m
theorem grounds_is {ds:List Dm}:∀ (k:Nat) (vals:List Int) (orgs:List V) (r:V),1≤k→(rounds ds k vals orgs r).2.2=.non→∀ k',k≤k'→∃ v,grounds ds k' vals=some v
 | 0,_,_,_,h,_,_,_=>by omega
 | k + 1,vals,orgs,r,_,e,0,h=>by omega
 | k + 1,vals,orgs,r,_,e,k' + 1,h=>by
  rw [grounds]
  by_cases g:gr1 ds vals=vals
  ·exact ⟨_,by rw [if_pos g]⟩
  ·rw [if_neg g]
   have er:gr1 ds vals=(run1 ds vals orgs).1:=gr1_run ds (vals,orgs,V.non)
   rw [rounds] at e
   by_cases z:(run1 ds vals orgs).2.2=.non
   ·exfalso
    obtain ⟨a,_⟩:=fold_non ds _ z
    have ea:(run1 ds vals orgs).1=vals:=congrArg (fun s:Rs=>s.1) a
    rw [ea] at er
    exact g er
   ·rw [if_neg z] at e
    match k,e,h with
    | 0,e,h=>exact absurd e z
    | k + 1,e,h=>
     rw [er]
     exact grounds_is (k + 1) _ _ _ (by omega) e k' (by omega)
theorem gt_ext {n:Nat} {a b:List Int} (ha:a.length=n) (hb:b.length=n) (h:∀ i,i < n→gt a i=gt b i):a=b:=by
 apply List.ext_getElem (by omega)
 intro i h1 h2
 have:=h i (by omega)
 unfold gt at this
 simpa [List.getD_eq_getElem?_getD,h1,h2] using this
theorem lv_grownG {n:Nat} (n1:1≤n) {ds es:List Dm} (hd:dmOk n ds) (he:dmOk n es) (hs:∀ x,SolD ds x↔SolD es x):grounds es (n + 1) (List.replicate n 0)=lv n ds:=by
 have z0:∀ x:Nat→Int,Nt.NN n x→∀ i,i < n→gt (List.replicate n (0:Int)) i≤x i:=fun x nx i hi=>by rw [gt_rep];exact nx i hi
 cases e:lv n ds with
 | some v=>
  obtain ⟨a,b,c,d⟩:=lv_some n1 hd e
  have s2:=(hs _).mp c
  obtain ⟨w,hw⟩:=lv_none n1 he s2 b
  have hr:(rounds es n (List.replicate n 0) (List.replicate n .non) .non).2.2=.non:=by
   unfold lv at hw
   split at hw
   ·assumption
   ·cases hw
  obtain ⟨u,hu⟩:=grounds_is n _ _ _ n1 hr (n + 1) (Nat.le_succ _)
  obtain ⟨a2,b2,c2,d2⟩:=grounds_some he (n + 1) _ u List.length_replicate hu
  rw [hu]
  congr 1
  refine gt_ext a2 a fun i hi=>?_
  have k1:=d2 (gt v) s2 (z0 _ b) i hi
  have k2:=d (gt u) ((hs _).mpr c2) (fun j _=>by have:=b2 j;rw [gt_rep] at this;exact this) i hi
  omega
 | none=>
  cases h:grounds es (n + 1) (List.replicate n 0) with
  | none=>rfl
  | some u=>
   obtain ⟨a2,b2,c2,d2⟩:=grounds_some he (n + 1) _ u List.length_replicate h
   obtain ⟨w,hw⟩:=lv_none n1 hd ((hs _).mpr c2) (fun j _=>by have:=b2 j;rw [gt_rep] at this;exact this)
   rw [e] at hw
   cases hw
noncomputable def lsV (ps:List (Int×Int)) (st:Int) (i j:Nat):Int:=(if has ps i j=true then st else 1 - st) * (if i=j then 0 else 1)
noncomputable def lsI (ps:List (Int×Int)) (st:Int) (i j:Nat):List Dm:=if (has ps i j|| !has ps j i)=true then [(i,j,lsV ps st i j)] else []
noncomputable def lsRow (ps:List (Int×Int)) (st:Int) (i m:Nat):List Dm:=(List.range m).flatMap (lsI ps st i)
noncomputable def lsAll (n:Nat) (ps:List (Int×Int)) (st:Int) (m:Nat):List Dm:=(List.range m).flatMap fun i=>lsRow ps st i n
theorem lsRow_succ (ps:List (Int×Int)) (st:Int) (i m:Nat):lsRow ps st i (m + 1)=lsRow ps st i m++lsI ps st i m:=by
 unfold lsRow
 rw [List.range_succ,List.flatMap_append]
 simp
theorem lsAll_succ (n:Nat) (ps:List (Int×Int)) (st:Int) (m:Nat):lsAll n ps st (m + 1)=lsAll n ps st m++lsRow ps st m n:=by
 unfold lsAll
 rw [List.range_succ,List.flatMap_append]
 simp
theorem mem_ls {n:Nat} {ps:List (Int×Int)} {st:Int} {d:Dm}:d∈lsAll n ps st n↔d.1 < n∧d.2.1 < n∧(has ps d.1 d.2.1|| !has ps d.2.1 d.1)=true∧d.2.2=lsV ps st d.1 d.2.1:=by
 unfold lsAll lsRow
 rw [List.mem_flatMap]
 constructor
 ·rintro ⟨i,hi,h⟩
  obtain ⟨j,hj,h⟩:=List.mem_flatMap.mp h
  unfold lsI at h
  split at h
  ·rename_i g
   rcases List.mem_singleton.mp h with rfl
   exact ⟨List.mem_range.mp hi,List.mem_range.mp hj,g,rfl⟩
  ·cases h
 ·rintro ⟨hi,hj,g,e⟩
  refine ⟨d.1,List.mem_range.mpr hi,List.mem_flatMap.mpr ⟨d.2.1,List.mem_range.mpr hj,?_⟩⟩
  unfold lsI
  rw [if_pos g]
  exact List.mem_singleton.mpr (by rw [←e])
theorem ls_ok (n:Nat) (ps:List (Int×Int)) (st:Int):dmOk n (lsAll n ps st n):=fun d hd=>let h:=mem_ls.mp hd;⟨h.1,h.2.1⟩
theorem sol_ls {n:Nat} {ps:List (Int×Int)} {st:Int} (x:Nat→Int):SolD (dmAll n ps st n) x↔SolD (lsAll n ps st n) x:=by
 constructor
 ·intro h d hd
  obtain ⟨h1,h2,h3,h4⟩:=mem_ls.mp hd
  by_cases e:d.1=d.2.1
  ·rw [h4]
   unfold lsV
   rw [if_pos e,e]
   omega
  ·refine h d (mem_dm.mpr ⟨h1,h2,e,?_⟩)
   rw [h4]
   unfold lsV dem
   rw [if_neg e,Int.mul_one]
   cases g:has ps d.1 d.2.1 with
   | true=>rfl
   | false=>
    rw [g,Bool.false_or,Bool.not_eq_true'] at h3
    rw [h3]
    rfl
 ·intro h d hd
  obtain ⟨h1,h2,h3,h4⟩:=mem_dm.mp hd
  refine h d (mem_ls.mpr ⟨h1,h2,?_,?_⟩)
  ·unfold dem at h4
   cases g:has ps d.1 d.2.1 with
   | true=>rfl
   | false=>
    rw [g] at h4
    cases g2:has ps d.2.1 d.1 with
    | true=>rw [g2] at h4;cases h4
    | false=>rfl
  ·unfold lsV
   rw [if_neg h3,Int.mul_one]
   unfold dem at h4
   cases g:has ps d.1 d.2.1 with
   | true=>rw [g] at h4;injection h4 with h4;exact h4.symm
   | false=>
    rw [g] at h4
    cases g2:has ps d.2.1 d.1 with
    | true=>rw [g2] at h4;cases h4
    | false=>rw [g2] at h4;injection h4 with h4;exact h4.symm
theorem gr1_app (ds es:List Dm) (vs:List Int):gr1 (ds++es) vs=gr1 es (gr1 ds vs):=by
 unfold gr1
 rw [List.foldl_append]
theorem rd_eqL {H:Hp} {Q:VK} {p r:Addr} {as bs:List Int} (hx:H p=some (.lst (as.map V.int))) (hy:H r=some (.lst (bs.map V.int))) (h:Q (.bl (decide (as=bs))) H):rEqD false (.ref p) (.ref r) H Q:=
 rd_eqD (.lst (Rd.of hx) (IsAll.ints as)) (.lst (Rd.of hy) (IsAll.ints bs)) (ok_ints as) (ok_ints bs) (by rw [PyData.eqv,eqvAll_ints];exact h)
section
variable {P:Program} {w:World} {K:PySem.W.Frag} {mg:Str→Option Value} {base:Heap} {t:Ad}
set_option genSizeOf false in
set_option genInjectivity false in
inductive sp_lw_least (vs:List V) (H:Hp) (Q:VK) (zz3:XK):Prop where
 | mk (x:V) (n:Nat) (ps:List (Int×Int)) (st:Int) (zh0:vs=[x,.int st]) (zh1:Is H x (ordD n ps)) (zh2:n≤8) (zh3:1≤st) (zh4:st≤999) (zh5:∀ H',Same H H'→Ans Q H' (grounds (lsAll n ps st n) (n + 1) (List.replicate n 0))):sp_lw_least vs H Q zz3
theorem ok__law_least (T:Txt K mg t):FnOk P w K mg base CX0 1 t.a__law_least t.d__law_least ["_law_order","_law_step"] sp_lw_least:=by
 refine T.F__law_least.ok sc__law_least (fun vs H Q E h=>?_) (fun cdv A outer s H vs Q E hr h=>?_)
 ·obtain ⟨x,n,ps,st,rfl,_⟩:=h
  rfl
 ·obtain ⟨x,n,ps,st,rfl,hx,n8,st1,st2,q⟩:=h
  refine ⟨_,(pss_cons (ps_set (i:=2) sc__law_least.nd rfl (Or.inl rfl) (pe_op op_rep (pe_lst (pa_cons pe_int pa_nil)) (pe_ix (k_ix K) (pv 0) pe_int (fun _ _=>rfl))))
   (pss_cons (ps_for PassesOwn.never rfl (pi_range1 rfl T.n_range (pa_cons (pe_op op_add (pe_ix (k_ix K) (pv 0) pe_int (fun _ _=>rfl)) pe_int) pa_nil)) (pg_name (i:=3) sc__law_least.nd rfl (Or.inl rfl)) (pss_cons (ps_set (i:=4) sc__law_least.nd rfl (Or.inl rfl) (pe_callTy (k_list K) (by rfl) T.n_list bt_list (pa_cons (pv 2) pa_nil)))
   (pss_cons (ps_for PassesOwn.never rfl (pi_range1 rfl T.n_range (pa_cons (pe_ix (k_ix K) (pv 0) pe_int (fun _ _=>rfl)) pa_nil)) (pg_name (i:=5) sc__law_least.nd rfl (Or.inl rfl)) (pss_one (ps_for PassesOwn.never rfl (pi_range1 rfl T.n_range (pa_cons (pe_ix (k_ix K) (pv 0) pe_int (fun _ _=>rfl)) pa_nil)) (pg_name (i:=6) sc__law_least.nd rfl (Or.inl rfl)) (pss_cons (ps_set (i:=7) sc__law_least.nd rfl (Or.inl rfl) (pe_op op_sub pe_int (pv 1)))
   (pss_cons (ps_if (pt_cmpR (op_inD hr.units) (pe_tup (pa_cons (pv 5) (pa_cons (pv 6) pa_nil))) (pe_ix (k_ix K) (pv 0) pe_int (fun _ _=>rfl)) (by rfl)) (pss_one (ps_set (i:=7) sc__law_least.nd rfl (Or.inl rfl) (pv 1))) pss_nil)
   (pss_one (ps_if (PW.pt (pw_or (pt_cmpR (op_inD hr.units) (pe_tup (pa_cons (pv 5) (pa_cons (pv 6) pa_nil))) (pe_ix (k_ix K) (pv 0) pe_int (fun _ _=>rfl)) (by rfl)) (pw_or1 (pt_cmpR (op_notInD hr.units) (pe_tup (pa_cons (pv 6) (pa_cons (pv 5) pa_nil))) (pe_ix (k_ix K) (pv 0) pe_int (fun _ _=>rfl)) (by rfl))))) (pss_one (ps_asg (pe_callB (c_max rfl) (by rfl) T.n_max bt_max (pa_cons (pe_ix (k_ix K) (pv 2) (pv 6) (fun _ _=>rfl)) (pa_cons (pe_op op_add (pe_ix (k_ix K) (pv 2) (pv 5) (fun _ _=>rfl)) (pe_op op_mul (pv 7) (pe_callTy c_int (by rfl) T.n_int bt_int (pa_cons (pe_cmpR (op_neD hr.units) (pv 5) (pv 6) (nomark _)) pa_nil)))) pa_nil))) (pg_sub (pv 2) (pv 6) set_list (fun _=>rfl)))) pss_nil)))))))
   (pss_one (ps_if (pt_cmpR (op_eqD hr.units) (pv 2) (pv 4) (nomark _)) (pss_one (ps_ret (pe_callTy (k_tuple K) (by rfl) T.n_tuple bt_tuple (pa_cons (pv 2) pa_nil)))) pss_nil)))))
   (pss_one (ps_ret pe_non)))),?_⟩
  obtain ⟨oa,ob,xs,rfl,ea,eb,hxs⟩:=is_ord hx
  have it:Is H (.ref ob) (.tuple (ps.map prD)):=.tup eb hxs
  walk_at "rd"
  refine ⟨by show 1≤sizeLine;decide,fun p1 hp1=>?_⟩
  have t2:=Same.upd (o:=.lst [V.int 0]) hp1
  have ea2:=t2 _ _ ea
  walk_at "rd"
  refine rd_rep upd_same (by omega) fun v hv=>?_
  have s3:=t2.trans (Same.upd (o:=.lst (List.replicate n (V.int 0))) hv)
  have ev3:upd (upd H p1 (.lst [V.int 0])) v (.lst (List.replicate n (V.int 0))) v=some (.lst ((List.replicate n (0:Int)).map V.int)):=by rw [upd_same,List.map_replicate]
  have nvH:H v=none:=by
   cases e:H v with
   | none=>rfl
   | some u=>rw [t2 _ _ e] at hv;cases hv
  generalize upd (upd H p1 (.lst [V.int 0])) v (.lst (List.replicate n (V.int 0)))=H3 at s3 ev3
  have ea3:=s3 _ _ ea
  clear t2 hv hp1 ea2
  have fin:∀ H',SameT v H H'→Same H H':=fun H' s b u e=>s b u e fun z=>by rw [z,nvH] at e;cases e
  have getO:∀ H',SameT v H H'→H' oa=some (.tup [V.int (n:Nat),V.ref ob])∧Is H' (.ref ob) (.tuple (ps.map prD)):=fun H' s=>⟨fin H' s _ _ ea,it.same (fin H' s)⟩
  walk_at "rd"
  refine ⟨_,rfl,by omega,by omega,?_⟩
  rw [show ((n:Int) + 1).toNat=n + 1 by omega]
  refine fp_range (fun i σ H'=>i≤n + 1∧SameT v H H'∧∃ vals v3 v4 v5 v6 v7,σ=[some (.ref oa),some (.int st),some (.ref v),v3,v4,v5,v6,v7]∧H' v=some (.lst (vals.map V.int))∧vals.length=n∧grounds (lsAll n ps st n) (n + 1 - i) vals=grounds (lsAll n ps st n) (n + 1) (List.replicate n 0))
   ⟨Nat.zero_le _,s3.t,_,_,_,_,_,_,rfl,ev3,List.length_replicate,rfl⟩ ?_ ?_
  ·rintro i σ H4 hi ⟨_,s4,vals,v3,v4,v5,v6,v7,rfl,ev4,lv4,hG⟩
   walk_at "rd"
   refine rd_lstL ev4 fun b hb=>?_
   have t5:=Same.upd (o:=.lst (vals.map V.int)) hb
   have nvb:v≠b:=ne_of_none ev4 hb
   have ev5:=t5 _ _ ev4
   have eb5:upd H4 b (.lst (vals.map V.int)) b=some (.lst (vals.map V.int)):=upd_same
   have s5:=s4.trans t5.t (w:=v)
   generalize upd H4 b (.lst (vals.map V.int))=H5 at ev5 eb5 s5
   clear t5 hb
   obtain ⟨eo5,_⟩:=getO H5 s5
   walk_at "rd"
   refine ⟨_,rfl,by omega,by omega,?_⟩
   rw [Int.toNat_natCast]
   refine fp_range (fun j σ H'=>SameT v H5 H'∧(∃ v5 v6 v7,σ=[some (.ref oa),some (.int st),some (.ref v),some (.int (0 + i)),some (.ref b),v5,v6,v7])∧H' v=some (.lst ((gr1 (lsAll n ps st j) vals).map V.int))) ⟨SameT.refl _ _,⟨_,_,_,rfl⟩,ev5⟩ ?_ ?_
   ·rintro j σ H6 hj ⟨u6,⟨w5,w6,w7,rfl⟩,ev6⟩
    obtain ⟨eo6,_⟩:=getO H6 (s5.trans u6)
    walk_at "rd"
    refine ⟨_,rfl,by omega,by omega,?_⟩
    rw [Int.toNat_natCast]
    refine fp_range (fun k σ H'=>SameT v H5 H'∧(∃ v6 v7,σ=[some (.ref oa),some (.int st),some (.ref v),some (.int (0 + i)),some (.ref b),some (.int (0 + j)),v6,v7])∧H' v=some (.lst ((gr1 (lsAll n ps st j++lsRow ps st j k) vals).map V.int))) ⟨u6,⟨_,_,rfl⟩,by simpa [lsRow] using ev6⟩ ?_ ?_
    ·rintro k σ H7 hk ⟨u7,⟨x6,x7,rfl⟩,ev7⟩
     rw [lsRow_succ,←List.append_assoc,gr1_app]
     have lg:(gr1 (lsAll n ps st j++lsRow ps st j k) vals).length=n:=(gr1_len _ _).trans lv4
     generalize gr1 (lsAll n ps st j++lsRow ps st j k) vals=ws at ev7 lg
     obtain ⟨eo7,it7⟩:=getO H7 (s5.trans u7)
     walk_at "rd"
     refine ⟨by show 2≤sizeLine;decide,fun q1 hq1=>?_⟩
     have f1:=Same.upd (o:=.tup [V.int (0 + (j:Int)),V.int (0 + (k:Int))]) hq1
     have ev8:=f1 _ _ ev7
     have eo8:=f1 _ _ eo7
     have it8:=it7.same f1
     have u8:=u7.trans f1.t (w:=v)
     have eq1:upd H7 q1 (.tup [V.int (0 + (j:Int)),V.int (0 + (k:Int))]) q1=some (.tup [V.int (0 + (j:Int)),V.int (0 + (k:Int))]):=upd_same
     generalize upd H7 q1 (.tup [V.int (0 + (j:Int)),V.int (0 + (k:Int))])=H8 at ev8 eo8 it8 u8 eq1
     have hjk:has ps (0 + (j:Int)) (0 + (k:Int))=has ps j k:=by rw [Int.zero_add,Int.zero_add]
     have hkj:has ps (0 + (k:Int)) (0 + (j:Int))=has ps k j:=by rw [Int.zero_add,Int.zero_add]
     walk_at "rd"
     refine rd_inP eq1 it8 ?_
     rw [hjk]
     clear eq1 f1 ev7 eo7 it7 u7
     cases gp:has ps j k with
     | true=>
      walk_at "rd"
      refine ⟨by show 2≤sizeLine;decide,fun q2 hq2=>?_⟩
      have f2:=Same.upd (o:=.tup [V.int (0 + (j:Int)),V.int (0 + (k:Int))]) hq2
      have ev9:=f2 _ _ ev8
      have eo9:=f2 _ _ eo8
      have u9:=u8.trans f2.t (w:=v)
      walk_at "rd"
      refine rd_inP upd_same (it8.same f2) ?_
      rw [hjk,gp]
      generalize upd H8 q2 (.tup [V.int (0 + (j:Int)),V.int (0 + (k:Int))])=H9 at ev9 eo9 u9
      walk_at "rd"
      refine rd_ixL ev9 (atI_of (i:=k) (by omega) (getD_map (by omega))) ?_
      walk_at "rd"
      refine rd_ixL ev9 (atI_of (i:=j) (by omega) (getD_map (by omega))) ?_
      walk_at "rd"
      have eI:lsI ps st j k=[(j,k,(st) * (if j=k then 0 else 1))]:=by unfold lsI lsV;rw [gp];rfl
      rw [eI]
      by_cases e:j=k
      ·subst e
       have eB:(!((0:Int) + (j:Int)==0 + (j:Int)))=false:=by simp
       rw [eB]
       walk_at "rd"
       refine rd_I (.inr ⟨by decide,by decide⟩) ?_
       walk_at "rd"
       refine rd_setL ev9 (j:=j) (by omega) (by rw [List.length_map];omega) ?_
       walk_at "rd"
       refine ⟨fun c u e g=>by rw [upd_ne g];exact u9 _ _ e g,⟨_,_,rfl⟩,?_⟩
       rw [upd_same,set_map,if_pos rfl]
       rfl
      ·have eB:(!((0:Int) + (j:Int)==0 + (k:Int)))=true:=by simp;omega
       rw [eB]
       walk_at "rd"
       refine rd_I (.inr ⟨by decide,by decide⟩) ?_
       walk_at "rd"
       refine rd_setL ev9 (j:=k) (by omega) (by rw [List.length_map];omega) ?_
       walk_at "rd"
       refine ⟨fun c u e g=>by rw [upd_ne g];exact u9 _ _ e g,⟨_,_,rfl⟩,?_⟩
       rw [upd_same,set_map,if_neg e]
       rfl
     | false=>
      walk_at "rd"
      refine ⟨by show 2≤sizeLine;decide,fun q2 hq2=>?_⟩
      have f2:=Same.upd (o:=.tup [V.int (0 + (j:Int)),V.int (0 + (k:Int))]) hq2
      have ev9:=f2 _ _ ev8
      have eo9:=f2 _ _ eo8
      have it9:=it8.same f2
      have u9:=u8.trans f2.t (w:=v)
      have eq2:upd H8 q2 (.tup [V.int (0 + (j:Int)),V.int (0 + (k:Int))]) q2=some (.tup [V.int (0 + (j:Int)),V.int (0 + (k:Int))]):=upd_same
      generalize upd H8 q2 (.tup [V.int (0 + (j:Int)),V.int (0 + (k:Int))])=H9 at ev9 eo9 u9 it9 eq2
      walk_at "rd"
      refine rd_inP eq2 it9 ?_
      rw [hjk,gp]
      walk_at "rd"
      refine ⟨by show 2≤sizeLine;decide,fun q3 hq3=>?_⟩
      have f3:=Same.upd (o:=.tup [V.int (0 + (k:Int)),V.int (0 + (j:Int))]) hq3
      have ev10:=f3 _ _ ev9
      have eo10:=f3 _ _ eo9
      have u10:=u9.trans f3.t (w:=v)
      walk_at "rd"
      refine rd_ninP upd_same (it9.same f3) ?_
      rw [hkj]
      generalize upd H9 q3 (.tup [V.int (0 + (k:Int)),V.int (0 + (j:Int))])=H10 at ev10 eo10 u10
      cases gq:has ps k j with
      | true=>
       have eI:lsI ps st j k=[]:=by unfold lsI;rw [gp,gq];rfl
       rw [eI]
       walk_at "rd"
       exact ⟨u10,⟨_,_,rfl⟩,ev10⟩
      | false=>
       walk_at "rd"
       refine rd_ixL ev10 (atI_of (i:=k) (by omega) (getD_map (by omega))) ?_
       walk_at "rd"
       refine rd_ixL ev10 (atI_of (i:=j) (by omega) (getD_map (by omega))) ?_
       walk_at "rd"
       have eI:lsI ps st j k=[(j,k,(1 - st) * (if j=k then 0 else 1))]:=by unfold lsI lsV;rw [gp,gq];rfl
       rw [eI]
       by_cases e:j=k
       ·subst e
        have eB:(!((0:Int) + (j:Int)==0 + (j:Int)))=false:=by simp
        rw [eB]
        walk_at "rd"
        refine rd_I (.inr ⟨by decide,by decide⟩) ?_
        walk_at "rd"
        refine rd_setL ev10 (j:=j) (by omega) (by rw [List.length_map];omega) ?_
        walk_at "rd"
        refine ⟨fun c u e g=>by rw [upd_ne g];exact u10 _ _ e g,⟨_,_,rfl⟩,?_⟩
        rw [upd_same,set_map,if_pos rfl]
        rfl
       ·have eB:(!((0:Int) + (j:Int)==0 + (k:Int)))=true:=by simp;omega
        rw [eB]
        walk_at "rd"
        refine rd_I (.inr ⟨by decide,by decide⟩) ?_
        walk_at "rd"
        refine rd_setL ev10 (j:=k) (by omega) (by rw [List.length_map];omega) ?_
        walk_at "rd"
        refine ⟨fun c u e g=>by rw [upd_ne g];exact u10 _ _ e g,⟨_,_,rfl⟩,?_⟩
        rw [upd_same,set_map,if_neg e]
        rfl
    ·rintro σ H7 ⟨u7,⟨x6,x7,rfl⟩,ev7⟩
     exact ⟨u7,⟨_,_,_,rfl⟩,by rw [lsAll_succ];exact ev7⟩
   ·rintro σ H6 ⟨u6,⟨w5,w6,w7,rfl⟩,ev6⟩
    have s6:=s5.trans u6
    have ek:n + 1 - i=(n + 1 - (i + 1)) + 1:=by omega
    rw [ek,grounds] at hG
    walk_at "rd"
    refine rd_eqL ev6 (u6 _ _ eb5 (Ne.symm nvb)) ?_
    walk_at "rd"
    refine ifB (fun g=>?_) (fun g=>?_)
    ·rw [if_pos (of_decide_eq_true g)] at hG
     rw [←hG] at q
     walk_at "rd"
     intro tp htp
     exact q _ ((fin _ s6).trans (Same.upd htp)) tp upd_same
    ·rw [if_neg (of_decide_eq_false g)] at hG
     walk_at "rd"
     exact ⟨hi,s6,gr1 (lsAll n ps st n) vals,_,_,_,_,_,rfl,ev6,(gr1_len _ _).trans lv4,hG⟩
  ·rintro σ H4 ⟨_,s4,vals,v3,v4,v5,v6,v7,rfl,ev4,lv4,hG⟩
   rw [Nat.sub_self,grounds] at hG
   rw [←hG] at q
   walk_at "rd"
   exact q H4 (fin _ s4)
end
end My
namespace My
open PySem L2
section
variable {P:Program} {w:World} {K:PySem.W.Frag} {mg:Str→Option Value} {base:Heap} {t:Ad}
noncomputable def refD (j:Nat):PyData:=.tuple [.str "refused",.int j]
structure Which (K:PySem.W.Frag) (t:Ad) (C:Addr) (j:Nat):Prop where
 lt:j < 9
 Z:ExcC K C
 v:PySem.W.kitOne K (.ref C) (.type "ValueError")=some true
 x:PySem.W.exmOne K (.ref C) (.ref t.c_OrderError)=some true
 k0:PySem.W.kitOne K (.ref C) (.ref t.c_NoOrder)=some (j==0)
 k1:PySem.W.kitOne K (.ref C) (.ref t.c_NoNumbers)=some (j==1)
 k2:PySem.W.kitOne K (.ref C) (.ref t.c_NoStep)=some (j==2)
 k3:PySem.W.kitOne K (.ref C) (.ref t.c_NoThing)=some (j==3)
 k4:PySem.W.kitOne K (.ref C) (.ref t.c_NoCount)=some (j==4)
 k5:PySem.W.kitOne K (.ref C) (.ref t.c_NoTelling)=some (j==5)
 k6:PySem.W.kitOne K (.ref C) (.ref t.c_Barred)=some (j==6)
 k7:PySem.W.kitOne K (.ref C) (.ref t.c_Full)=some (j==7)
 k8:PySem.W.kitOne K (.ref C) (.ref t.c_Nothing)=some (j==8)
noncomputable def wL (j:Nat):List Bool:=[j==0,j==1,j==2,j==3,j==4,j==5,j==6,j==7,j==8]
theorem wL_count {j:Nat} (h:j < 9):(wL j).countP (· ==true)=1:=by
 have:∀ j:Fin 9,(wL j.val).countP (· ==true)=1:=by decide
 exact this ⟨j,h⟩
theorem wL_at {j:Nat} (h:j < 9):(wL j)[j]? =some true:=by
 have:∀ j:Fin 9,(wL j.val)[j.val]? =some true:=by decide
 exact this ⟨j,h⟩
theorem wL_no {j:Nat} (h:j < 9):∀ m,m < j→(wL j)[m]? ≠some true:=by
 have:∀ j m:Fin 9,m.val < j.val→(wL j.val)[m.val]? ≠some true:=by decide
 exact fun m hm=>this ⟨j,h⟩ ⟨m,by omega⟩ hm
set_option genSizeOf false in
set_option genInjectivity false in
inductive sp_which (K:PySem.W.Frag) (t:Ad) (vs:List V) (H:Hp) (Q:VK) (zz3:XK):Prop where
 | mk (e C j:_) (zh0:vs=[.ref e]) (zh1:H e=some (excO e C)) (zh2:Which K t C j) (zh3:∀ v H',Same H H'→Is H' v (refD j)→Q v H'):sp_which K t vs H Q zz3
theorem okH__law_which (T:Txt K mg t):FnOkH P w K mg base 1 t.a__law_which t.d__law_which ["_law_e"] (sp_which K t):=by
 refine T.F__law_which.okH sc__law_which (fun vs H Q E h=>?_) (fun cdv A outer s H vs Q hr h=>?_)
 ·obtain ⟨e,C,j,rfl,_⟩:=h
  rfl
 ·obtain ⟨e,C,j,rfl,he,W,q⟩:=h
  refine ⟨_,(pss_cons (ps_set (i:=1) sc__law_which.nd rfl (Or.inl rfl) (pe_lst (pa_cons (pe_callB (k_isX K) (by rfl) T.n_isinstance bt_isinstance (pa_cons (pv 0) (pa_cons (pe_glob (v:=.ref t.c_NoOrder) rfl T.g_NoOrder rfl) pa_nil))) (pa_cons (pe_callB (k_isX K) (by rfl) T.n_isinstance bt_isinstance (pa_cons (pv 0) (pa_cons (pe_glob (v:=.ref t.c_NoNumbers) rfl T.g_NoNumbers rfl) pa_nil))) (pa_cons (pe_callB (k_isX K) (by rfl) T.n_isinstance bt_isinstance (pa_cons (pv 0) (pa_cons (pe_glob (v:=.ref t.c_NoStep) rfl T.g_NoStep rfl) pa_nil))) (pa_cons (pe_callB (k_isX K) (by rfl) T.n_isinstance bt_isinstance (pa_cons (pv 0) (pa_cons (pe_glob (v:=.ref t.c_NoThing) rfl T.g_NoThing rfl) pa_nil))) pa_nil))))))
   (pss_cons (ps_expr (k_bm K PySem.F.plainAttrs_list PySem.F.slot_list_extend PySem.F.type_list_extend mt_extend (pv 1) (pa_cons (pe_lst (pa_cons (pe_callB (k_isX K) (by rfl) T.n_isinstance bt_isinstance (pa_cons (pv 0) (pa_cons (pe_glob (v:=.ref t.c_NoCount) rfl T.g_NoCount rfl) pa_nil))) (pa_cons (pe_callB (k_isX K) (by rfl) T.n_isinstance bt_isinstance (pa_cons (pv 0) (pa_cons (pe_glob (v:=.ref t.c_NoTelling) rfl T.g_NoTelling rfl) pa_nil))) (pa_cons (pe_callB (k_isX K) (by rfl) T.n_isinstance bt_isinstance (pa_cons (pv 0) (pa_cons (pe_glob (v:=.ref t.c_Barred) rfl T.g_Barred rfl) pa_nil))) (pa_cons (pe_callB (k_isX K) (by rfl) T.n_isinstance bt_isinstance (pa_cons (pv 0) (pa_cons (pe_glob (v:=.ref t.c_Full) rfl T.g_Full rfl) pa_nil))) pa_nil))))) pa_nil)))
   (pss_cons (ps_expr (k_bm K PySem.F.plainAttrs_list PySem.F.slot_list_append PySem.F.type_list_append mt_append (pv 1) (pa_cons (pe_callB (k_isX K) (by rfl) T.n_isinstance bt_isinstance (pa_cons (pv 0) (pa_cons (pe_glob (v:=.ref t.c_Nothing) rfl T.g_Nothing rfl) pa_nil))) pa_nil)))
   (pss_cons (ps_if (PW.pt (pw_or (pt_cmpR (op_neD hr.units) (k_bm K PySem.F.plainAttrs_list PySem.F.slot_list_count PySem.F.type_list_count mt_countB (pv 1) (pa_cons pe_bl pa_nil)) pe_int (nomark _)) (pw_or1 (pt_not (pt_val (pe_callB (k_isX K) (by rfl) T.n_isinstance bt_isinstance (pa_cons (pv 0) (pa_cons (pe_bltn (v:=.ty "ValueError") rfl T.n_ValueError bt_ValueError rfl) pa_nil)))))))) (pss_one (ps_ret (pe_tup (pa_cons pe_str (pa_cons (pe_un un_neg pe_int) pa_nil))))) pss_nil)
   (pss_one (ps_ret (pe_tup (pa_cons pe_str (pa_cons (k_bm K PySem.F.plainAttrs_list PySem.F.slot_list_index PySem.F.type_list_index mt_indexB (pv 1) (pa_cons pe_bl pa_nil)) pa_nil))))))))),?_⟩
  walk_at "rd"
  refine rd_isXo he W.Z W.k0 ?_
  walk_at "rd"
  refine rd_isXo he W.Z W.k1 ?_
  walk_at "rd"
  refine rd_isXo he W.Z W.k2 ?_
  walk_at "rd"
  refine rd_isXo he W.Z W.k3 ?_
  walk_at "rd"
  refine ⟨by show 4≤sizeLine;decide,fun l hl=>?_⟩
  have nle:e≠l:=ne_of_none he hl
  have s1:=Same.upd (o:=.lst [V.bl (j==0),V.bl (j==1),V.bl (j==2),V.bl (j==3)]) hl
  have el1:upd H l (.lst [V.bl (j==0),V.bl (j==1),V.bl (j==2),V.bl (j==3)]) l=some (.lst [V.bl (j==0),V.bl (j==1),V.bl (j==2),V.bl (j==3)]):=upd_same
  have he1:=s1 _ _ he
  generalize upd H l (.lst [V.bl (j==0),V.bl (j==1),V.bl (j==2),V.bl (j==3)])=H1 at s1 el1 he1
  walk_at "rd"
  refine ⟨tyV_lst el1,?_⟩
  walk_at "rd"
  refine rd_isXo he1 W.Z W.k4 ?_
  walk_at "rd"
  refine rd_isXo he1 W.Z W.k5 ?_
  walk_at "rd"
  refine rd_isXo he1 W.Z W.k6 ?_
  walk_at "rd"
  refine rd_isXo he1 W.Z W.k7 ?_
  walk_at "rd"
  refine ⟨by show 4≤sizeLine;decide,fun m hm=>?_⟩
  have s2:=Same.upd (o:=.lst [V.bl (j==4),V.bl (j==5),V.bl (j==6),V.bl (j==7)]) hm
  walk_at "rd"
  refine rd_extend (s2 _ _ el1) upd_same (by show 8≤sizeLine;decide) ?_
  have s3:∀ b u,H b=some u→upd (upd H1 m (.lst [V.bl (j==4),V.bl (j==5),V.bl (j==6),V.bl (j==7)])) l (.lst ([V.bl (j==0),V.bl (j==1),V.bl (j==2),V.bl (j==3)]++[V.bl (j==4),V.bl (j==5),V.bl (j==6),V.bl (j==7)])) b=some u:=fun b u eb=>by
   rw [upd_ne (ne_of_none eb hl)]
   exact s2 _ _ (s1 _ _ eb)
  have el2:upd (upd H1 m (.lst [V.bl (j==4),V.bl (j==5),V.bl (j==6),V.bl (j==7)])) l (.lst ([V.bl (j==0),V.bl (j==1),V.bl (j==2),V.bl (j==3)]++[V.bl (j==4),V.bl (j==5),V.bl (j==6),V.bl (j==7)])) l=some (.lst ([V.bl (j==0),V.bl (j==1),V.bl (j==2),V.bl (j==3)]++[V.bl (j==4),V.bl (j==5),V.bl (j==6),V.bl (j==7)])):=upd_same
  generalize upd (upd H1 m (.lst [V.bl (j==4),V.bl (j==5),V.bl (j==6),V.bl (j==7)])) l (.lst ([V.bl (j==0),V.bl (j==1),V.bl (j==2),V.bl (j==3)]++[V.bl (j==4),V.bl (j==5),V.bl (j==6),V.bl (j==7)]))=H2 at s3 el2
  have he2:=s3 _ _ he
  walk_at "rd"
  refine ⟨tyV_lst el2,?_⟩
  walk_at "rd"
  refine rd_isXo he2 W.Z W.k8 ?_
  walk_at "rd"
  refine rd_append el2 (by show 8 < sizeLine;decide) ?_
  have s6:Same H (upd H2 l (.lst (([V.bl (j==0),V.bl (j==1),V.bl (j==2),V.bl (j==3)]++[V.bl (j==4),V.bl (j==5),V.bl (j==6),V.bl (j==7)])++[V.bl (j==8)]))):=fun b u eb=>by
   rw [upd_ne (ne_of_none eb hl)]
   exact s3 _ _ eb
  have el4:upd H2 l (.lst (([V.bl (j==0),V.bl (j==1),V.bl (j==2),V.bl (j==3)]++[V.bl (j==4),V.bl (j==5),V.bl (j==6),V.bl (j==7)])++[V.bl (j==8)])) l=some (.lst ((wL j).map V.bl)):=upd_same
  generalize upd H2 l (.lst (([V.bl (j==0),V.bl (j==1),V.bl (j==2),V.bl (j==3)]++[V.bl (j==4),V.bl (j==5),V.bl (j==6),V.bl (j==7)])++[V.bl (j==8)]))=H4 at s6 el4
  have he4:=s6 _ _ he
  walk_at "rd"
  refine ⟨tyV_lst el4,?_⟩
  walk_at "rd"
  refine rd_countB el4 ?_
  rw [wL_count W.lt]
  walk_at "rd"
  refine ifF rfl ?_
  walk_at "rd"
  refine rd_isXt he4 W.Z W.v ?_
  walk_at "rd"
  refine ⟨tyV_lst el4,?_⟩
  walk_at "rd"
  refine rd_indexB el4 (wL_at W.lt) (wL_no W.lt) ?_
  refine ⟨by show 2≤sizeLine;decide,fun p hp=>?_⟩
  exact q _ _ (s6.trans (Same.upd hp)) (.tup upd_same (.cons (.str _) (.cons (.int _) .nil)))
end
end My
namespace My
open PySem L2
noncomputable def numD:Option (List Int)→PyData
 | none=>.none
 | some v=>.tuple (v.map .int)
noncomputable def NumV (H:Hp) (x:V):Option (List Int)→Prop
 | none=>x=.non
 | some v=>∃ p,x=.ref p∧H p=some (.tup (v.map V.int))
theorem NumV.is {H:Hp} {x:V} {o:Option (List Int)} (h:NumV H x o):Is H x (numD o):=by
 cases o with
 | none=>cases h;exact .non
 | some v=>obtain ⟨p,rfl,e⟩:=h;exact .tup e (IsAll.ints _)
theorem NumV.same {H H':Hp} {x:V} {o:Option (List Int)} (h:NumV H x o) (s:Same H H'):NumV H' x o:=by
 cases o with
 | none=>exact h
 | some v=>obtain ⟨p,rfl,e⟩:=h;exact ⟨p,rfl,s _ _ e⟩
end My
namespace My
open PySem L2
noncomputable def upI (i j:Nat):List (Int×Int):=if i=j then [] else [((i:Int),(j:Int))]
noncomputable def upRow (i m:Nat):List (Int×Int):=(List.range m).flatMap (upI i)
noncomputable def upAll (n m:Nat):List (Int×Int):=(List.range m).flatMap fun i=>upRow i n
noncomputable def upr (n:Nat):List (Int×Int):=upAll n n
theorem upRow_succ (i m:Nat):upRow i (m + 1)=upRow i m++upI i m:=by
 unfold upRow
 rw [List.range_succ,List.flatMap_append]
 simp
theorem upAll_succ (n m:Nat):upAll n (m + 1)=upAll n m++upRow m n:=by
 unfold upAll
 rw [List.range_succ,List.flatMap_append]
 simp
theorem upI_len (i j:Nat):(upI i j).length≤1:=by unfold upI;split <;> simp
theorem upRow_len (i:Nat):∀ m,(upRow i m).length≤m
 | 0=>Nat.le_refl _
 | m + 1=>by
  rw [upRow_succ,List.length_append]
  have:=upRow_len i m
  have:=upI_len i m
  omega
theorem upAll_len (n:Nat):∀ m,(upAll n m).length≤m * n
 | 0=>Nat.zero_le _
 | m + 1=>by
  rw [upAll_succ,List.length_append,Nat.succ_mul]
  have:=upAll_len n m
  have:=upRow_len m n
  omega
theorem mem_upr {n:Nat} {p:Int×Int}:p∈upr n↔inN n p:=by
 unfold upr upAll upRow
 constructor
 ·intro h
  obtain ⟨i,hi,h⟩:=List.mem_flatMap.mp h
  obtain ⟨j,hj,h⟩:=List.mem_flatMap.mp h
  have hi:=List.mem_range.mp hi
  have hj:=List.mem_range.mp hj
  unfold upI at h
  split at h
  ·cases h
  ·rename_i ne
   rcases List.mem_singleton.mp h with rfl
   exact ⟨by show (0:Int)≤i;omega,by show (i:Int) < n;omega,by show (0:Int)≤j;omega,by show (j:Int) < n;omega,fun z=>ne (by have z':(i:Int)=j:=z;omega)⟩
 ·rintro ⟨h1,h2,h3,h4,h5⟩
  refine List.mem_flatMap.mpr ⟨p.1.toNat,List.mem_range.mpr (by omega),List.mem_flatMap.mpr ⟨p.2.toNat,List.mem_range.mpr (by omega),?_⟩⟩
  unfold upI
  rw [if_neg (fun z=>h5 (by omega))]
  refine List.mem_singleton.mpr (Prod.ext ?_ ?_)
  ·show p.1=((p.1.toNat:Nat):Int);omega
  ·show p.2=((p.2.toNat:Nat):Int);omega
theorem upRow_up (i:Nat):∀ m,(upRow i m).Pairwise ltP
 | 0=>.nil
 | m + 1=>by
  rw [upRow_succ,List.pairwise_append]
  refine ⟨upRow_up i m,?_,fun p hp q hq=>?_⟩
  ·unfold upI
   split
   ·exact .nil
   ·exact List.pairwise_singleton _ _
  ·unfold upRow at hp
   obtain ⟨j,hj,hp⟩:=List.mem_flatMap.mp hp
   have hj:=List.mem_range.mp hj
   unfold upI at hp hq
   split at hp
   ·cases hp
   ·split at hq
    ·cases hq
    ·rcases List.mem_singleton.mp hp with rfl
     rcases List.mem_singleton.mp hq with rfl
     exact ltP_of (.inr ⟨rfl,by show (j:Int) < m;omega⟩)
theorem upAll_up (n:Nat):∀ m,(upAll n m).Pairwise ltP
 | 0=>.nil
 | m + 1=>by
  rw [upAll_succ,List.pairwise_append]
  refine ⟨upAll_up n m,upRow_up m n,fun p hp q hq=>?_⟩
  unfold upAll upRow at hp
  unfold upRow at hq
  obtain ⟨i,hi,hp⟩:=List.mem_flatMap.mp hp
  obtain ⟨j,hj,hp⟩:=List.mem_flatMap.mp hp
  obtain ⟨k,hk,hq⟩:=List.mem_flatMap.mp hq
  have hi:=List.mem_range.mp hi
  unfold upI at hp hq
  split at hp
  ·cases hp
  ·split at hq
   ·cases hq
   ·rcases List.mem_singleton.mp hp with rfl
    rcases List.mem_singleton.mp hq with rfl
    exact ltP_of (.inl (by show (i:Int) < m;omega))
noncomputable def chS (c:List (List (Int×Int))) (p:Int×Int):List (List (Int×Int)):=c++c.map fun s=>s++[p]
noncomputable def chL (l:List (Int×Int)):List (List (Int×Int)):=l.foldl chS [[]]
theorem chL_snoc (l:List (Int×Int)) (p:Int×Int):chL (l++[p])=chS (chL l) p:=by
 unfold chL
 rw [List.foldl_append]
 rfl
theorem chL_next {l:List (Int×Int)} {i:Nat} {p:Int×Int} (h:l[i]? =some p):chL (l.take (i + 1))=chS (chL (l.take i)) p:=by
 rw [List.take_add_one,h]
 exact chL_snoc _ _
theorem chS_len (c:List (List (Int×Int))) (p:Int×Int):(chS c p).length=2 * c.length:=by
 unfold chS
 rw [List.length_append,List.length_map]
 omega
theorem chL_len:∀ (k:Nat) (l:List (Int×Int)),l.length=k→(chL l).length=2 ^ k
 | 0,l,h=>by
  rw [List.length_eq_zero_iff.mp h]
  rfl
 | k + 1,l,h=>by
  have e:l=l.take k++[l.getD k (0,0)]:=by
   have:=List.take_add_one (l:=l) (i:=k)
   rw [List.take_of_length_le (by omega)] at this
   rw [List.getD_eq_getElem?_getD]
   rw [this.symm.trans this] at this
   have hk:k < l.length:=by omega
   rw [List.getElem?_eq_getElem hk] at this ⊢
   exact this
  rw [e,chL_snoc,chS_len,chL_len k _ (by rw [List.length_take];omega)]
  omega
theorem mem_ch:∀ (k:Nat) (l:List (Int×Int)),l.length=k→∀ s,s∈chL l↔s.Sublist l
 | 0,l,h=>fun s=>by
  rw [List.length_eq_zero_iff.mp h]
  constructor
  ·intro z
   rcases List.mem_singleton.mp z with rfl
   exact List.Sublist.refl _
  ·intro z
   rw [List.sublist_nil.mp z]
   exact List.mem_singleton.mpr rfl
 | k + 1,l,h=>fun s=>by
  have hk:k < l.length:=by omega
  have e:l=l.take k++[l[k]]:=by
   have:=List.take_add_one (l:=l) (i:=k)
   rw [List.take_of_length_le (by omega),List.getElem?_eq_getElem hk] at this
   exact this
  have ih:=mem_ch k (l.take k) (by rw [List.length_take];omega)
  rw [e,chL_snoc,List.sublist_append_iff]
  unfold chS
  rw [List.mem_append,List.mem_map]
  constructor
  ·rintro (z | ⟨s',z,rfl⟩)
   ·exact ⟨s,[],by simp,(ih s).mp z,List.nil_sublist _⟩
   ·exact ⟨s',[l[k]],rfl,(ih s').mp z,List.Sublist.refl _⟩
  ·rintro ⟨s1,s2,rfl,z1,z2⟩
   have:s2=[]∨s2=[l[k]]:=by
    match s2,z2 with
    | [],_=>exact .inl rfl
    | [a],z2=>
     have:=List.singleton_sublist.mp z2
     rw [List.mem_singleton.mp this]
     exact .inr rfl
    | a::b::r,z2=>
     have:=z2.length_le
     simp at this
   rcases this with rfl | rfl
   ·rw [List.append_nil]
    exact .inl ((ih s1).mpr z1)
   ·exact .inr ⟨s1,(ih s1).mpr z1,rfl⟩
theorem ch_ord {n:Nat} (n1:1≤n) (n8:n≤8) {s:List (Int×Int)} (h:s∈chL (upr n)):Ord n s:=by
 have hs:=(mem_ch _ _ rfl s).mp h
 have up:(upr n).Pairwise ltP:=upAll_up n n
 exact ord_of n1 n8 (fun p hp=>mem_upr.mp (hs.subset hp)) (up.sublist hs)
theorem ord_ch {n:Nat} {s:List (Int×Int)} (ho:Ord n s):s∈chL (upr n):=by
 rw [mem_ch _ _ rfl]
 have up:(upr n).Pairwise ltP:=upAll_up n n
 have e:s=(upr n).filter fun p=>decide (p∈s):=by
  refine pw_ext (pw_of ho.up) (up.filter _) fun p=>?_
  rw [List.mem_filter,decide_eq_true_iff]
  exact ⟨fun h=>⟨mem_upr.mpr (ho.ix p h),h⟩,fun h=>h.2⟩
 rw [e]
 exact List.filter_sublist
noncomputable def aoL (n:Nat):List (List (Int×Int)):=(chL (upr n)).filter fun s=> !barB n s
noncomputable def flat (ps:List (Int×Int)):List Int:=ps.flatMap fun p=>[p.1,p.2]
theorem flat_inj:∀ {ps qs:List (Int×Int)},flat ps=flat qs→ps=qs
 | [],[],_=>rfl
 | [],q::qs,h=>by simp [flat] at h
 | p::ps,[],h=>by simp [flat] at h
 | p::ps,q::qs,h=>by
  simp only [flat,List.flatMap_cons,List.cons_append,List.nil_append] at h
  injection h with h1 h2
  injection h2 with h2 h3
  rw [flat_inj (ps:=ps) (qs:=qs) h3]
  congr 1
  exact Prod.ext h1 h2
theorem ao_nd {n:Nat} (h:n=1∨n=2∨n=3):(aoL n).Nodup:=by
 rcases h with rfl | rfl | rfl
 ·decide +kernel
 ·decide +kernel
 ·decide +kernel
theorem ao_len {n:Nat} (h:n=1∨n=2∨n=3):(aoL n).length=[1,3,19].getD (n - 1) 0:=by
 rcases h with rfl | rfl | rfl
 ·decide +kernel
 ·decide +kernel
 ·decide +kernel
noncomputable def keyO:PyData→List Int
 | .tuple [_,.tuple ds]=>ds.flatMap fun d=>match d with | .tuple es=>es.map unI | _=>[]
 | _=>[]
theorem keyO_ord (n:Nat) (ps:List (Int×Int)):keyO (ordD n ps)=flat ps:=by
 show (ps.map prD).flatMap _=flat ps
 unfold flat
 rw [List.flatMap_map]
 rfl
theorem ltDs_prs:∀ ps qs:List (Int×Int),ltDs (ps.map prD) (qs.map prD)=HT.lexLt (flat ps) (flat qs)
 | [],[]=>rfl
 | [],_::_=>rfl
 | _::_,[]=>rfl
 | p::ps,q::qs=>by
  rw [List.map_cons,List.map_cons,ltDs,eqv_pr,ltDs_prs ps qs]
  show _=HT.lexLt (p.1::p.2::flat ps) (q.1::q.2::flat qs)
  rw [HT.lexLt_cons,HT.lexLt_cons]
  have e:ltD (prD p) (prD q)=HT.lexLt [p.1,p.2] [q.1,q.2]:=by
   unfold prD
   rw [ltD]
   exact ltDs_ints [p.1,p.2] [q.1,q.2]
  rw [e,HT.lexLt_cons,HT.lexLt_cons]
  by_cases h1:p.1=q.1
  ·by_cases h2:p.2=q.2
   ·have:p=q:=Prod.ext h1 h2
    simp [this]
   ·have:¬p=q:=fun z=>h2 (by rw [z])
    simp [this,h1,h2]
  ·have:¬p=q:=fun z=>h1 (by rw [z])
   simp [this,h1]
theorem cmpDs_prs:∀ ps qs:List (Int×Int),cmpDs (ps.map prD) (qs.map prD)=true
 | [],_=>by rw [List.map_nil,cmpDs]
 | _::_,[]=>by rw [List.map_nil,List.map_cons,cmpDs]
 | p::ps,q::qs=>by
  rw [List.map_cons,List.map_cons,cmpDs,cmpDs_prs ps qs]
  split
  ·rfl
  ·unfold prD
   rw [cmpD]
   exact cmpDs_ints [p.1,p.2] [q.1,q.2]
theorem ord_lt (n:Nat) (ps qs:List (Int×Int)):cmpD (ordD n ps) (ordD n qs)=true∧ltD (ordD n ps) (ordD n qs)=HT.lexLt (flat ps) (flat qs):=by
 have e1:PyData.eqv (.int (n:Int)) (.int (n:Int))=true:=by rw [PyData.eqv];simp
 have e2:PyData.eqv (.tuple (ps.map prD)) (.tuple (qs.map prD))=decide (ps=qs):=by rw [PyData.eqv,eqvAll_pr]
 unfold ordD
 constructor
 ·rw [cmpD,cmpDs,if_pos e1,cmpDs,e2]
  split
  ·rw [cmpDs]
  ·rw [cmpD]
   exact cmpDs_prs ps qs
 ·rw [ltD,ltDs,if_pos e1,ltDs,e2]
  by_cases h:ps=qs
  ·rw [if_pos (by simpa using h),h,ltDs]
   cases e:HT.lexLt (flat qs) (flat qs) with
   | false=>rfl
   | true=>have:=lex_asym e;rw [e] at this;cases this
  ·rw [if_neg (by simpa using h),ltD]
   exact ltDs_prs ps qs
theorem ok_ordD (n:Nat) (ps:List (Int×Int)):okD (ordD n ps)∧noL (ordD n ps)=true:=by
 obtain ⟨a,b⟩:=ok_prT ps
 have h:PyData.depthAll (ps.map prD)≤1:=by
  clear a b
  induction ps with
  | nil=>exact Nat.zero_le _
  | cons p ps ih=>
   rw [List.map_cons,PyData.depthAll]
   exact Nat.max_le.mpr ⟨Nat.le_refl _,ih⟩
 refine ⟨⟨?_,?_⟩,?_⟩
 ·unfold ordD
  rw [PyData.canLay0,PyData.canLayAll0,PyData.canLayAll0,a]
  rfl
 ·unfold ordD
  rw [PyData.depth,PyData.depthAll,PyData.depthAll,PyData.depthAll,PyData.depth]
  have e0:(PyData.int (n:Int)).depth=0:=rfl
  rw [e0]
  omega
 ·unfold ordD
  rw [noL,noLs,noLs,noLs,noL,noL,noLs_pr]
  rfl
theorem sortO {K:PySem.W.Frag} {H:Hp} {Q:VK} {p:Addr} {vs:List V} {n:Nat} {l:List (List (Int×Int))} (nd:l.Nodup) (e:H p=some (.lst vs)) (ha:IsAll H vs (l.map (ordD n)))
  (h:∀ r vs' ds,H r=none→IsAll H vs' ds→ds.Perm (l.map (ordD n))→ds.Pairwise (fun a c=>HT.lexLt (keyO a) (keyO c)=true)→Q (.ref r) (upd H r (.lst vs'))):rSortD K [.ref p] H Q:=by
 have hm:∀ d∈l.map (ordD n),∃ ps∈l,d=ordD n ps:=fun d hd=>by
  obtain ⟨x,hx,rfl⟩:=List.mem_map.mp hd
  exact ⟨x,hx,rfl⟩
 refine rd_sortD keyO e ha (.inl fun d hd=>?_) (fun d hd=>?_) (fun d hd e he=>?_) ?_ h
 ·obtain ⟨m,_,rfl⟩:=hm d hd
  exact ⟨_,_,rfl⟩
 ·obtain ⟨m,_,rfl⟩:=hm d hd
  exact ok_ordD _ _
 ·obtain ⟨m,_,rfl⟩:=hm d hd
  obtain ⟨m',_,rfl⟩:=hm e he
  rw [keyO_ord,keyO_ord]
  exact ord_lt n m m'
 ·unfold List.Nodup at nd ⊢
  rw [List.pairwise_map,List.pairwise_map]
  refine nd.imp ?_
  intro a c h z
  rw [keyO_ord,keyO_ord] at z
  exact h (flat_inj z)
theorem keyO_as (a c:PyData):HT.lexLt (keyO a) (keyO c)=true→¬HT.lexLt (keyO c) (keyO a)=true:=fun h1 h2=>by
 have:=lex_asym h1
 rw [h2] at this
 cases this
noncomputable def tpD (ps:List (Int×Int)):PyData:=.tuple (ps.map prD)
end My
namespace My
open PySem L2
theorem step_ok {st:Int} (h1:1≤st) (h2:st≤999):wholeB (.int st) 1 999=true:=by
 show (decide (1≤st)&&decide (st≤999))=true
 simp [h1,h2]
section
variable {P:Program} {w:World} {K:PySem.W.Frag} {mg:Str→Option Value} {base:Heap} {t:Ad}
set_option genSizeOf false in
set_option genInjectivity false in
inductive sp_told (vs:List V) (H:Hp) (Q:VK) (zz3:XK):Prop where
 | mk (st:Int) (a:Addr) (vals:List Int) (zh0:vs=[.int st,.ref a]) (zh1:1≤st) (zh2:st≤999) (zh3:H a=some (.tup (vals.map V.int))) (zh4:1≤vals.length) (zh5:vals.length≤8) (zh6:(∀ v∈vals,0≤v∧v≤9999)) (zh7:∀ x H',Same H H'→Is H' x (ordD vals.length (toldL st vals))→Q x H'):sp_told vs H Q zz3
theorem nums_ok2 {vals:List Int} (h1:1≤vals.length) (h8:vals.length≤8) (hv:∀ v∈vals,0≤v∧v≤9999):numsB (.tuple (vals.map .int)) 1 8=true:=by
 show (decide ((1:Int)≤((vals.map PyData.int).length:Int))&&decide (((vals.map PyData.int).length:Int)≤8)&&(vals.map PyData.int).all (fun d=>wholeB d 0 9999))=true
 rw [List.length_map,decide_eq_true (by omega),decide_eq_true (by omega),List.all_map]
 refine List.all_eq_true.mpr fun v h=>?_
 obtain ⟨a,b⟩:=hv v h
 show (decide (0≤v)&&decide (v≤9999))=true
 rw [decide_eq_true a,decide_eq_true b]
 rfl
theorem ok_told (T:Txt K mg t):FnOk P w K mg base CX0 4 t.a_told t.d_told ["step","numbers"] sp_told:=by
 refine T.F_told.ok sc_told (fun vs H Q E h=>?_) (fun cdv A outer s H vs Q E hr h=>?_)
 ·obtain ⟨st,a,vals,rfl,_⟩:=h
  rfl
 ·obtain ⟨st,a,vals,rfl,st1,st9,ea,l1,l8,hv,q⟩:=h
  refine ⟨_,(pss_cons (ps_expr (pe_call (ok_need_step T) (hr.mono (by decide)) rfl T.m_need_step T.F_need_step.kp T.b_need_step .nil pass0 (pa_cons (pv 0) pa_nil)))
   (pss_cons (ps_expr (pe_call (ok_need_numbers T) (hr.mono (by decide)) rfl T.m_need_numbers T.F_need_numbers.kp T.b_need_numbers .nil pass0 (pa_cons (pv 1) (pa_cons pe_int (pa_cons (pe_gint rfl T.c_MOST_THINGS) pa_nil)))))
   (pss_one (ps_ret (pe_tup (pa_cons (pe_callB (k_len K) (by rfl) T.n_len bt_len (pa_cons (pv 1) pa_nil)) (pa_cons (pe_call (ok_told_pairs T) (hr.mono (by decide)) rfl T.m_told_pairs T.F_told_pairs.kp T.b_told_pairs .nil pass0 (pa_cons (pv 0) (pa_cons (pv 1) pa_nil))) pa_nil))))))),?_⟩
  walk_at "rd"
  refine ⟨_,_,rfl,.int st,step_ok st1 st9,?_⟩
  walk_at "rd"
  refine ⟨_,_,_,_,rfl,.tup ea (IsAll.ints vals),?_,nums_ok2 l1 l8 hv,fun H2 s2=>?_⟩
  ·rintro ds ⟨⟩
   rw [List.length_map]
   omega
  have ea2:=s2 _ _ ea
  walk_at "rd"
  refine ⟨a,st,vals,rfl,ea2,l8,fun p H3 s3 ip=>?_⟩
  walk_at "rd"
  refine ⟨by show 2≤sizeLine;decide,fun r hr'=>?_⟩
  have u:=Same.upd (o:=.tup [V.int ((vals.map V.int).length:Int),V.ref p]) hr'
  refine q _ _ ((s2.trans s3).trans u) (.tup upd_same (.cons ?_ (.cons (ip.same u) .nil)))
  rw [List.length_map]
  exact .int _
set_option genSizeOf false in
set_option genInjectivity false in
inductive sp_unlike (vs:List V) (H:Hp) (Q:VK) (zz3:XK):Prop where
 | mk (n:Nat) (zh0:vs=[.int (n:Nat)]) (zh1:n≤3) (zh2:∀ l zs H',Same H H'→H l=none→H' l=some (.lst zs)→IsAll H' zs ((upr n).map prD)→Q (.ref l) H'):sp_unlike vs H Q zz3
theorem ok_unlike_pairs (T:Txt K mg t):FnOk P w K mg base CX0 1 t.a_unlike_pairs t.d_unlike_pairs ["many"] sp_unlike:=by
 refine T.F_unlike_pairs.ok sc_unlike_pairs (fun vs H Q E h=>?_) (fun cdv A outer s H vs Q E hr h=>?_)
 ·obtain ⟨n,rfl,_⟩:=h
  rfl
 ·obtain ⟨n,rfl,n3,q⟩:=h
  refine ⟨_,(pss_cons (ps_set (i:=1) sc_unlike_pairs.nd rfl (Or.inl rfl) (pe_lst pa_nil))
   (pss_cons (ps_for PassesOwn.never rfl (pi_range1 rfl T.n_range (pa_cons (pv 0) pa_nil)) (pg_name (i:=2) sc_unlike_pairs.nd rfl (Or.inl rfl)) (pss_one (ps_for PassesOwn.never rfl (pi_range1 rfl T.n_range (pa_cons (pv 0) pa_nil)) (pg_name (i:=3) sc_unlike_pairs.nd rfl (Or.inl rfl)) (pss_one (ps_if (pt_cmpR (op_neD hr.units) (pv 2) (pv 3) (nomark _)) (pss_one (ps_expr (k_bm K PySem.F.plainAttrs_list PySem.F.slot_list_append PySem.F.type_list_append mt_append (pv 1) (pa_cons (pe_tup (pa_cons (pv 2) (pa_cons (pv 3) pa_nil))) pa_nil)))) pss_nil)))))
   (pss_one (ps_ret (pv 1))))),?_⟩
  walk_at "rd"
  refine ⟨Nat.zero_le _,fun l hl=>?_⟩
  have s0:=Same.upd (o:=.lst []) hl
  walk_at "rd"
  refine ⟨_,rfl,by omega,by omega,?_⟩
  rw [Int.toNat_natCast]
  refine fp_range (fun i σ H'=>(∃ va vb,σ=[some (.int n),some (.ref l),va,vb])∧Same H H'∧∃ zs,H' l=some (.lst zs)∧IsAll H' zs ((upAll n i).map prD)) ⟨⟨_,_,rfl⟩,s0,[],upd_same,.nil⟩ ?_ ?_
  ·rintro i σ H1 hi ⟨⟨va,vb,rfl⟩,s1,zs,hz,iz⟩
   walk_at "rd"
   refine ⟨_,rfl,by omega,by omega,?_⟩
   rw [Int.toNat_natCast]
   refine fp_range (fun j σ H'=>(∃ vb,σ=[some (.int n),some (.ref l),some (.int (0 + i)),vb])∧Same H H'∧∃ zs,H' l=some (.lst zs)∧IsAll H' zs ((upAll n i++upRow i j).map prD)) ⟨⟨_,rfl⟩,s1,zs,hz,by simpa [upRow] using iz⟩ ?_ ?_
   ·rintro j σ H2 hj ⟨⟨vb,rfl⟩,s2,zs2,hz2,iz2⟩
    rw [upRow_succ,←List.append_assoc,List.map_append]
    walk_at "rd"
    refine ifB (fun h1=>?_) (fun h1=>?_)
    ·have hij:i≠j:=by intro z;subst z;simp at h1
     have e1:upI i j=[((i:Int),(j:Int))]:=by unfold upI;rw [if_neg hij]
     rw [e1]
     walk_at "rd"
     refine ⟨tyV_lst hz2,?_⟩
     walk_at "rd"
     refine ⟨by show 2≤sizeLine;decide,fun o ho=>?_⟩
     have hlo:l≠o:=ne_of_none hz2 ho
     have lz:zs2.length≤100:=by
      rw [iz2.length,List.length_map,List.length_append]
      have h1:=upAll_len n i
      have h2:=upRow_len i j
      have h3:i * n≤3 * 3:=Nat.mul_le_mul (by omega) n3
      omega
     walk_at "rd"
     refine rd_append (xs:=zs2) (by rw [upd_ne hlo];exact hz2) (small1000 (by omega)) ?_
     walk_at "rd"
     refine ⟨⟨_,rfl⟩,fun c u e=>?_,_,upd_same,?_⟩
     ·have e3:=s2 c u e
      rw [upd_ne (ne_of_none e hl),upd_ne (ne_of_none e3 ho)]
      exact e3
     ·rw [Int.zero_add,Int.zero_add]
      refine grow (noLs_pr _) hz2 ho iz2 (.tup ?_ (.cons (.int _) (.cons (.int _) .nil)))
      rw [upd_ne (Ne.symm hlo),upd_same]
    ·have hij:i=j:=by
      have h1':((i:Int)==(j:Int))=true:=by simpa using h1
      have:=eq_of_beq h1'
      omega
     have e1:upI i j=[]:=by unfold upI;rw [if_pos hij]
     rw [e1]
     walk_at "rd"
     exact ⟨⟨_,rfl⟩,s2,zs2,hz2,by simpa using iz2⟩
   ·rintro σ H2 ⟨⟨vb,rfl⟩,s2,zs2,hz2,iz2⟩
    exact ⟨⟨_,_,rfl⟩,s2,zs2,hz2,by rw [upAll_succ];exact iz2⟩
  ·rintro σ H1 ⟨⟨va,vb,rfl⟩,s1,zs,hz,iz⟩
   walk_at "rd"
   exact q l zs H1 s1 hl hz iz
theorem tp_get {H:Hp} {ys:List V} {l:List (List (Int×Int))} {i:Nat} {x:V} (h:IsAll H ys (l.map tpD)) (hx:ys[i]? =some x):∃ s a xs,l[i]? =some s∧x=.ref a∧H a=some (.tup xs)∧IsAll H xs (s.map prD):=by
 obtain ⟨d,ed,id⟩:=h.get' hx
 rw [List.getElem?_map] at ed
 cases e:l[i]? with
 | none=>rw [e] at ed;cases ed
 | some s=>
  rw [e] at ed
  cases ed
  unfold tpD at id
  cases id with
  | @tup a xs _ ea hxs=>exact ⟨s,a,xs,rfl,rfl,ea,hxs⟩
theorem tp_len {H:Hp} {ys:List V} {l:List (List (Int×Int))} (h:IsAll H ys (l.map tpD)):ys.length=l.length:=by rw [h.length,List.length_map]
theorem sub_len {ps:List (Int×Int)} {l:List (Int×Int)} (h:ps∈chL l):ps.length≤l.length:=((mem_ch _ _ rfl ps).mp h).length_le
set_option genSizeOf false in
set_option genInjectivity false in
inductive sp_choices (vs:List V) (H:Hp) (Q:VK) (zz3:XK):Prop where
 | mk (l:Addr) (zs:List V) (ps:List (Int×Int)) (zh0:vs=[.ref l]) (zh1:H l=some (.lst zs)) (zh2:IsAll H zs (ps.map prD)) (zh3:ps.length≤6) (zh4:∀ r ys H',Same H H'→H' r=some (.lst ys)→IsAll H' ys ((chL ps).map tpD)→Q (.ref r) H'):sp_choices vs H Q zz3
theorem ok_choices (T:Txt K mg t):FnOk P w K mg base CX0 1 t.a_choices t.d_choices ["pairs"] sp_choices:=by
 refine T.F_choices.ok sc_choices (fun vs H Q E h=>?_) (fun cdv A outer s H vs Q E hr h=>?_)
 ·obtain ⟨l,zs,ps,rfl,_⟩:=h
  rfl
 ·obtain ⟨l,zs,ps,rfl,hl,iz,l6,q⟩:=h
  refine ⟨_,(pss_cons (ps_set (i:=1) sc_choices.nd rfl (Or.inl rfl) (pe_lst (pa_cons (pe_tup pa_nil) pa_nil)))
   (pss_cons (ps_for PassesOwn.never rfl (k_plst K (pv 0)) (pg_name (i:=2) sc_choices.nd rfl (Or.inr rfl)) (pss_one (ps_set (i:=1) sc_choices.nd rfl (Or.inl rfl) (pe_op op_cat (pv 1) (pe_lc rfl ⟨True.intro,True.intro,(.inl rfl),True.intro⟩ (M:=["some","pair"]) (.own (.free 2 rfl rfl .nil)) (gk_name rfl) rfl (by decide +kernel) (k_plst K (pv 1)) (fun C fp s1 H1=>⟨pg_name (i:=0) (show (["some","pair"]:List Str).Nodup by decide +kernel) rfl (Or.inl rfl),pif_nil,(pe_op op_catU (pv 0) (pe_tup (pa_cons (pv 1) pa_nil)))⟩))))))
   (pss_one (ps_ret (pv 1))))),?_⟩
  have lz:zs.length=ps.length:=by rw [iz.length,List.length_map]
  walk_at "rd"
  refine ⟨Nat.zero_le _,fun e0 he0=>?_⟩
  have s0:=Same.upd (o:=.tup []) he0
  walk_at "rd"
  refine ⟨by show 1≤sizeLine;decide,fun c0 hc0=>?_⟩
  have s1:=s0.trans (Same.upd (o:=.lst [V.ref e0]) hc0)
  have i1:IsAll (upd (upd H e0 (.tup [])) c0 (.lst [V.ref e0])) [V.ref e0] ((chL []).map tpD):=.cons (.tup (by rw [upd_ne (ne_of_none upd_same hc0),upd_same]) .nil) .nil
  have ec1:upd (upd H e0 (.tup [])) c0 (.lst [V.ref e0]) c0=some (.lst [V.ref e0]):=upd_same
  generalize upd (upd H e0 (.tup [])) c0 (.lst [V.ref e0])=H1 at s1 i1 ec1
  walk_at "rd"
  refine ⟨l,rfl,⟨zs,SqL.of (s1 _ _ hl)⟩,?_⟩
  refine fp_list (K:=K) (xs:=zs) (fun i σ H'=>Same H H'∧∃ c ys,(∃ v2,σ=[some (.ref l),some (.ref c),v2])∧H' c=some (.lst ys)∧IsAll H' ys ((chL (ps.take i)).map tpD)) ⟨s1,c0,_,⟨_,rfl⟩,ec1,i1⟩ (fun i σ H' _ h=>SqL.of (h.1 _ _ hl)) ?_ ?_
  ·rintro i x σ H2 hx ⟨s2,c,ys,⟨v2,rfl⟩,ec,iy⟩
   obtain ⟨p0,r0,hp0,rfl,er0⟩:=pr_get' (iz.same s2) hx
   have li:i < ps.length:=by
    have:=(List.getElem?_eq_some_iff.mp hp0).1
    exact this
   have lc:ys.length≤64:=by
    rw [tp_len iy,chL_len _ _ rfl,List.length_take]
    exact Nat.le_trans (Nat.pow_le_pow_right (by decide) (show min i ps.length≤6 by omega)) (by decide)
   walk_at "rd"
   refine ⟨c,rfl,⟨ys,SqL.of ec⟩,?_⟩
   refine lp_list (K:=K) (xs:=ys) (small_ln (by omega)) (fun j ws H'=>Same H2 H'∧IsAll H' ws (((chL (ps.take i)).take j).map fun s=>tpD (s++[p0]))) ⟨Same.refl _,.nil⟩ (by
    rintro j ws H' ⟨_,h⟩
    rw [h.length,List.length_map,List.length_take]
    omega) (fun j ws H' _ h=>SqL.of (h.1 _ _ ec)) ?_ ?_
   ·rintro j y ws H3 hy ⟨s3,iw⟩
    obtain ⟨s',a,xs,hs',rfl,ea,hxs⟩:=tp_get (iy.same s3) hy
    have lx:xs.length≤6:=by
     rw [hxs.length,List.length_map]
     have:=sub_len (List.mem_of_getElem? hs')
     rw [List.length_take] at this
     omega
    walk_at "rd"
    refine ⟨by show 1≤sizeLine;decide,fun q1 hq1=>?_⟩
    have f1:=Same.upd (o:=.tup [V.ref r0]) hq1
    refine rd_catU (f1 _ _ ea) upd_same (small_ln (by show _ + 1≤1000;omega)) fun u H4 s4 eu=>?_
    refine ⟨(s3.trans f1).trans s4,?_⟩
    rw [List.take_add_one,hs',List.map_append]
    refine ((iw.same f1).same s4).append (.cons (.tup eu ?_) .nil)
    rw [List.map_append]
    exact ((hxs.same f1).same s4).append (.cons (.tup (s4 _ _ (f1 _ _ (s3 _ _ er0))) (.cons (.int _) (.cons (.int _) .nil))) .nil)
   rintro ws H3 ⟨s3,iw⟩ p4 hp4
   have f4:=Same.upd (o:=.lst ws) hp4
   have lw:ws.length≤64:=by
    rw [iw.length,List.length_map,List.length_take]
    omega
   rw [tp_len iy,List.take_length] at iw
   refine rd_cat (f4 _ _ (s3 _ _ ec)) upd_same (small_ln (by omega)) fun p5 hp5=>?_
   have f5:=Same.upd (o:=.lst (ys++ws)) hp5
   walk_at "rd"
   refine ⟨((s2.trans s3).trans f4).trans f5,p5,_,⟨_,rfl⟩,upd_same,?_⟩
   rw [chL_next hp0]
   unfold chS
   rw [List.map_append,List.map_map]
   exact (((iy.same s3).same f4).same f5).append ((iw.same f4).same f5)
  ·rintro σ H2 ⟨s2,c,ys,⟨v2,rfl⟩,ec,iy⟩
   rw [lz,List.take_length] at iy
   walk_at "rd"
   exact q c ys H2 s2 ec iy
theorem up_len {n:Nat} (h:n=1∨n=2∨n=3):(upr n).length≤6:=by
 rcases h with rfl | rfl | rfl <;> decide
noncomputable def Few (n:Nat):Prop:=n=1∨n=2∨n=3
set_option genSizeOf false in
set_option genInjectivity false in
inductive sp_all_orders (vs:List V) (H:Hp) (Q:VK) (zz3:XK):Prop where
 | mk (n:Nat) (zh0:vs=[.int (n:Nat)]) (zh1:Few n) (zh2:∀ r ys ds H',Same H H'→H r=none→H' r=some (.lst ys)→IsAll H' ys ds→ds.Perm ((aoL n).map (ordD n))→ds.Pairwise (fun a c=>HT.lexLt (keyO a) (keyO c)=true)→Q (.ref r) H'):sp_all_orders vs H Q zz3
theorem od_get {H:Hp} {ys:List V} {n:Nat} {l:List (List (Int×Int))} {i:Nat} {x:V} (h:IsAll H ys (l.map (ordD n))) (hx:ys[i]? =some x):∃ s,l[i]? =some s∧Is H x (ordD n s):=by
 obtain ⟨d,ed,id⟩:=h.get' hx
 rw [List.getElem?_map] at ed
 cases e:l[i]? with
 | none=>rw [e] at ed;cases ed
 | some s=>
  rw [e] at ed
  cases ed
  exact ⟨s,rfl,id⟩
theorem ok_all_orders (T:Txt K mg t):FnOk P w K mg base CX0 7 t.a_all_orders t.d_all_orders ["many"] sp_all_orders:=by
 refine T.F_all_orders.ok sc_all_orders (fun vs H Q E h=>?_) (fun cdv A outer s H vs Q E hr h=>?_)
 ·obtain ⟨n,rfl,_⟩:=h
  rfl
 ·obtain ⟨n,rfl,fw,q⟩:=h
  have n1:1≤n:=by rcases fw with rfl | rfl | rfl <;> decide
  have n3:n≤3:=by rcases fw with rfl | rfl | rfl <;> decide
  have ul:=up_len fw
  refine ⟨_,(pss_cons (ps_if (pt_not (pt_val (pe_call (ok_is_whole T) (hr.mono (by decide)) rfl T.m_is_whole T.F_is_whole.kp T.b_is_whole .nil pass0 (pa_cons (pv 0) (pa_cons pe_int (pa_cons (pe_gint rfl T.c_MOST_LISTED) pa_nil)))))) (pss_one ps_never) pss_nil)
   (pss_cons (ps_set_lc (i:=1) sc_all_orders.nd rfl rfl rfl rfl ⟨True.intro,True.intro,(.inl rfl),True.intro⟩ (M:=["pairs","many"]) (.own (.free 0 rfl rfl .nil)) (gk_name rfl) rfl (by decide +kernel) (k_plst K (pe_call (ok_choices T) (hr.mono (by decide)) rfl T.m_choices T.F_choices.kp T.b_choices .nil pass0 (pa_cons (pe_call (ok_unlike_pairs T) (hr.mono (by decide)) rfl T.m_unlike_pairs T.F_unlike_pairs.kp T.b_unlike_pairs .nil pass0 (pa_cons (pv 0) pa_nil)) pa_nil))) (fun C fp s1 H1=>⟨pg_name (i:=0) (show (["pairs","many"]:List Str).Nodup by decide +kernel) rfl (Or.inl rfl),pif_nil,(pe_tup (pa_cons (pv 1) (pa_cons (pv 0) pa_nil)))⟩))
   (pss_one (ps_ret (pe_callB (k_sortD K hr.units) (by rfl) T.n_sorted bt_sorted (pa_cons (pe_lc rfl ⟨True.intro,True.intro,True.intro,True.intro⟩ (M:=["order"]) (.own .nil) (gk_name rfl) rfl (by decide +kernel) (k_plst K (pv 1)) (fun C fp s1 H1=>⟨pg_name (i:=0) (show (["order"]:List Str).Nodup by decide +kernel) rfl (Or.inl rfl),pif_one (pt_cmpR o_isN (pe_call (ok_bar T) (hr.mono (by decide)) rfl T.m_bar T.F_bar.kp T.b_bar .nil pass0 (pa_cons (pv 0) pa_nil)) pe_non (nomark _)),(pv 0)⟩)) pa_nil)))))),?_⟩
  walk_at "rd"
  refine ⟨_,_,_,_,rfl,.int _,?_⟩
  rw [show wholeB (.int (n:Int)) 1 3=true from by
   show (decide ((1:Int)≤n)&&decide ((n:Int)≤3))=true
   rw [decide_eq_true (by omega),decide_eq_true (by omega)]
   rfl]
  walk_at "rd"
  refine ⟨n,rfl,n3,fun l zs H1 s1 nl hl iz=>?_⟩
  walk_at "rd"
  refine ⟨l,zs,upr n,rfl,hl,iz,ul,fun c ys H2 s2 hc iy=>?_⟩
  have ly:ys.length≤64:=by
   rw [tp_len iy,chL_len _ _ rfl]
   exact Nat.le_trans (Nat.pow_le_pow_right (by decide) ul) (by decide)
  walk_at "rd"
  refine ⟨c,rfl,⟨ys,SqL.of hc⟩,?_⟩
  refine lp_list (K:=K) (xs:=ys) (small_ln (by omega)) (fun j ws H'=>Same H2 H'∧IsAll H' ws (((chL (upr n)).take j).map (ordD n))) ⟨Same.refl _,.nil⟩ (by
   rintro j ws H' ⟨_,h⟩
   rw [h.length,List.length_map,List.length_take]
   omega) (fun j ws H' _ h=>SqL.of (h.1 _ _ hc)) ?_ ?_
  ·rintro j y ws H3 hy ⟨s3,iw⟩
   obtain ⟨s',a,xs,hs',rfl,ea,hxs⟩:=tp_get (iy.same s3) hy
   walk_at "rd"
   refine ⟨by show 2≤sizeLine;decide,fun q1 hq1=>?_⟩
   have f1:=Same.upd (o:=.tup [V.int n,V.ref a]) hq1
   refine ⟨s3.trans f1,?_⟩
   rw [List.take_add_one,hs',List.map_append]
   exact (iw.same f1).append (.cons (.tup upd_same (.cons (.int _) (.cons (.tup (f1 _ _ ea) (hxs.same f1)) .nil))) .nil)
  rintro ws H3 ⟨s3,iw⟩ p4 hp4
  rw [tp_len iy,List.take_length] at iw
  have f4:=Same.upd (o:=.lst ws) hp4
  have s4:=((s1.trans s2).trans s3).trans f4
  have iw4:=iw.same f4
  have e4:upd H3 p4 (.lst ws) p4=some (.lst ws):=upd_same
  generalize upd H3 p4 (.lst ws)=H4 at s4 iw4 e4
  have lw:ws.length=(chL (upr n)).length:=by rw [iw.length,List.length_map]
  have ly2:(chL (upr n)).length≤64:=by rw [←tp_len iy];exact ly
  clear iw f4 hp4 s3 iy hc s2 iz hl s1
  walk_at "rd"
  refine ⟨p4,rfl,⟨ws,SqL.of e4⟩,?_⟩
  refine lp_list (K:=K) (xs:=ws) (small_ln (by omega)) (fun j us H'=>Same H4 H'∧IsAll H' us ((((chL (upr n)).take j).filter fun s=> !barB n s).map (ordD n))) ⟨Same.refl _,.nil⟩ (by
   rintro j us H' ⟨_,h⟩
   rw [h.length,List.length_map]
   have:=List.length_filter_le (fun s=> !barB n s) ((chL (upr n)).take j)
   rw [List.length_take] at this
   omega) (fun j us H' _ h=>SqL.of (h.1 _ _ e4)) ?_ ?_
  ·rintro j y us H5 hy ⟨s5,iu⟩
   obtain ⟨s',hs',iy'⟩:=od_get (iw4.same s5) hy
   have ho:=ch_ord n1 (by omega) (List.mem_of_getElem? hs')
   walk_at "rd"
   refine ⟨y,n,s',rfl,iy',ho,fun v H6 s6 iv=>?_⟩
   rw [List.take_add_one,hs',show (some s').toList=[s'] from rfl,List.filter_append]
   walk_at "rd"
   rw [bar_is iv]
   cases hb:barB n s' with
   | true=>
    refine ifF rfl ?_
    refine ⟨s5.trans s6,?_⟩
    have e0:[s'].filter (fun s=> !barB n s)=[]:=by simp [hb]
    rw [e0,List.append_nil]
    exact iu.same s6
   | false=>
    refine ifT rfl ?_
    walk_at "rd"
    refine ⟨s5.trans s6,?_⟩
    have e0:[s'].filter (fun s=> !barB n s)=[s']:=by simp [hb]
    rw [e0,List.map_append]
    exact (iu.same s6).append (.cons (iy'.same s6) .nil)
  rintro us H5 ⟨s5,iu⟩ p6 hp6
  rw [lw,List.take_length] at iu
  have f6:=Same.upd (o:=.lst us) hp6
  walk_at "rd"
  refine sortO (ao_nd fw) upd_same (iu.same f6) fun r vs' ds hr' ia pm up=>?_
  have f7:=Same.upd (o:=.lst vs') hr'
  exact q r _ ds _ (((s4.trans s5).trans f6).trans f7) (((s4.trans s5).trans f6).free hr') upd_same (ia.same f7) pm up
noncomputable def spr_count (t:Ad):Sp:=fun vs H Q E=>∃ x d,vs=[x]∧Is H x d∧wholeB d 1 3=false∧∀ H',Same H H'→E (.ref t.c_NoCount) none H'
theorem okr_all_orders (T:Txt K mg t):FnOk P w K mg base (CXE P w) 7 t.a_all_orders t.d_all_orders ["many"] (spr_count t):=by
 refine T.F_all_orders.okX sc_all_orders (fun vs H Q E h=>?_) (fun cdv A outer s H vs Q E hr h=>?_)
 ·obtain ⟨x,d,rfl,_⟩:=h
  rfl
 ·obtain ⟨x,d,rfl,hx,hd,q⟩:=h
  refine ⟨_,(pss_cons (ps_if (pt_not (pt_val (pe_call (ok_is_whole T) (hr.mono (by decide)) rfl T.m_is_whole T.F_is_whole.kp T.b_is_whole .nil pass0 (pa_cons (pv 0) (pa_cons pe_int (pa_cons (pe_gint rfl T.c_MOST_LISTED) pa_nil)))))) (pss_one (ps_raise T.g_NoCount T.Z_NoCount.exc rfl (pa_cons pe_str pa_nil))) pss_nil)
   (pss_cons ps_never
   (pss_one ps_never))),?_⟩
  walk_at "rd"
  refine ⟨_,_,_,_,rfl,hx,?_⟩
  rw [hd]
  walk_at "rd"
  exact ⟨by show 1≤sizeLine;decide,q H (Same.refl H)⟩
noncomputable def spx_all_orders (t:Ad):Sp:=fun vs H Q E=>sp_all_orders vs H Q E∨spr_count t vs H Q E
theorem okx_all_orders (T:Txt K mg t):FnOk P w K mg base (CXE P w) 7 t.a_all_orders t.d_all_orders ["many"] (spx_all_orders t):=(ok_all_orders T).lift.or (okr_all_orders T)
theorem which_count (T:Txt K mg t):Which K t t.c_NoCount 4:=⟨by decide,T.Z_NoCount,T.v_NoCount,T.x_NoCount,T.q_NoCount_NoOrder,T.q_NoCount_NoNumbers,T.q_NoCount_NoStep,T.q_NoCount_NoThing,kit_yes,T.q_NoCount_NoTelling,T.q_NoCount_Barred,T.q_NoCount_Full,T.q_NoCount_Nothing⟩
set_option genSizeOf false in
set_option genInjectivity false in
inductive sp_ask (K:PySem.W.Frag) (t:Ad) (vs:List V) (H:Hp) (Q:VK) (E:XK):Prop where
 | mk (x:V) (zh0:vs=[x]) (zh1:(sp_all_orders [x] H Q E∨∃ d,Is H x d∧wholeB d 1 3=false∧∀ v H',Same H H'→Is H' v (refD 4)→Q v H')):sp_ask K t vs H Q E
theorem ok__law_ask (T:Txt K mg t):FnOk P w K mg base CX0 10 t.a__law_ask t.d__law_ask ["_law_many"] (sp_ask K t):=by
 refine T.F__law_ask.ok sc__law_ask (fun vs H Q E h=>?_) (fun cdv A outer s H vs Q E hr h=>?_)
 ·obtain ⟨x,rfl,_⟩:=h
  rfl
 ·obtain ⟨x,rfl,h⟩:=h
  refine ⟨_,(pss_one (ps_try (i:=1) rfl sc__law_ask.nd rfl rfl rfl rfl rfl rfl T.g_OrderError (fun pn E1 Eb hp=>(pss_one (ps_ret (pe_call (okx_all_orders T) (hr.mono (by decide)) rfl T.m_all_orders T.F_all_orders.kp T.b_all_orders .nil hp (pa_cons (pv 0) pa_nil))))) (fun ex=>(pss_one (ps_ret (pe_callH (okH__law_which T) ((hr.mono (by decide)).mark _) rfl T.m__law_which T.F__law_which.kp T.b__law_which (pa_cons (pv 1) pa_nil))))))),?_⟩
  walk_at "rd"
  rcases h with h | ⟨d,hx,hd,q⟩
  ·obtain ⟨n,e,fw,q⟩:=h
   exact .inl ⟨n,e,fw,q⟩
  ·refine .inr ⟨_,d,rfl,hx,hd,fun H1 s1=>?_⟩
   have W:=which_count T
   refine ⟨_,rfl,W.x,fun ex σ hex hi=>?_⟩
   walk_at "rd"
   refine rd_var (List.getElem?_set_self hi) ?_
   walk_at "rd"
   exact ⟨ex,_,_,rfl,upd_same,W,fun v H2 s2 iv=>q v H2 ((s1.trans (Same.upd hex)).trans s2) iv⟩
end
end My
namespace My
open PySem L2
theorem ls_nums {n:Nat} (n1:1≤n) (ps:List (Int×Int)) (st:Int):grounds (lsAll n ps st n) (n + 1) (List.replicate n 0)=nums n ps st:=lv_grownG n1 (dmAll_ok n ps st) (ls_ok n ps st) fun x=>sol_ls x
theorem eqv_ref (i j:Nat):PyData.eqv (refD i) (refD j)=decide (i=j):=by
 unfold refD
 rw [PyData.eqv,PyData.eqvAll,PyData.eqvAll,PyData.eqvAll,PyData.eqv,PyData.eqv]
 by_cases h:i=j
 ·subst h;simp
 ·have:¬(i:Int)=(j:Int):=by omega
  simp [h,this]
theorem ok_ref (i:Nat):okD (refD i):=⟨by
 have h:PyData.strOk (Str.ofString "refused")=true:=by decide +kernel
 simp [refD,PyData.canLay0,PyData.canLayAll0,h],Nat.le_trans (show (refD i).depth≤10 from by show 1≤10;decide) (by decide)⟩
theorem ok_bars (n:Nat) (ps:List (Int×Int)):okD (.list ((barsL n ps).map b4D)):=by
 have k:∀ l:List (Bool×List Int),PyData.canLayAll0 (l.map b4D)=true∧PyData.depthAll (l.map b4D)≤20:=fun l=>by
  induction l with
  | nil=>exact ⟨rfl,Nat.zero_le _⟩
  | cons p l ih=>
   rw [List.map_cons,PyData.canLayAll0,PyData.depthAll,ih.1,(b4_ok p).1.1]
   refine ⟨rfl,Nat.max_le.mpr ⟨?_,ih.2⟩⟩
   unfold b4D
   rw [PyData.depth,PyData.depthAll]
   have:∀ ns:List Int,PyData.depthAll (ns.map .int)≤0:=fun ns=>by
    induction ns with
    | nil=>exact Nat.le_refl _
    | cons n ns ih=>rw [List.map_cons,PyData.depthAll];exact Nat.max_le.mpr ⟨Nat.le_refl _,ih⟩
   have:=this p.2
   have e0:(PyData.str (if p.1=true then "two" else "three")).depth=0:=rfl
   rw [e0]
   omega
 refine ⟨?_,?_⟩
 ·rw [PyData.canLay0];exact (k _).1
 ·rw [PyData.depth]
  have:=(k (barsL n ps)).2
  omega
theorem eqv_bars {n:Nat} {ps:List (Int×Int)} (ho:Ord n ps):PyData.eqv (.list ((barsL n ps).map b4D)) (.list [])= !barB n ps:=by
 rw [PyData.eqv]
 cases e:barsL n ps with
 | nil=>
  rw [(bars_nil ho).mp e]
  rfl
 | cons a l=>
  cases h:barB n ps with
  | true=>rfl
  | false=>rw [(bars_nil ho).mpr h] at e;cases e
theorem eqv_ordD (n:Nat) (ps qs:List (Int×Int)):PyData.eqv (ordD n ps) (ordD n qs)=decide (ps=qs):=by
 unfold ordD
 rw [PyData.eqv,PyData.eqvAll,PyData.eqvAll,PyData.eqvAll,PyData.eqv,PyData.eqv,eqvAll_pr]
 simp
theorem dep_ordD (n:Nat) (ps:List (Int×Int)):(ordD n ps).depth≤3:=by
 have h:PyData.depthAll (ps.map prD)≤1:=by
  induction ps with
  | nil=>exact Nat.zero_le _
  | cons p ps ih=>
   rw [List.map_cons,PyData.depthAll]
   exact Nat.max_le.mpr ⟨Nat.le_refl _,ih⟩
 unfold ordD
 rw [PyData.depth,PyData.depthAll,PyData.depthAll,PyData.depthAll,PyData.depth]
 have e0:(PyData.int (n:Int)).depth=0:=rfl
 rw [e0]
 omega
noncomputable def AllO (n:Nat) (ds:List PyData):Prop:=∀ d∈ds,∃ ps∈aoL n,d=ordD n ps
theorem allO_of {n:Nat} {ds:List PyData} (h:ds.Perm ((aoL n).map (ordD n))):AllO n ds:=fun d hd=>by
 obtain ⟨x,hx,rfl⟩:=List.mem_map.mp (h.mem_iff.mp hd)
 exact ⟨x,hx,rfl⟩
theorem allO_ok {n:Nat}:∀ {ds:List PyData},AllO n ds→PyData.canLayAll0 ds=true∧PyData.depthAll ds≤3∧noLs ds=true∧PyData.eqvAll ds ds=true
 | [],_=>⟨rfl,Nat.zero_le _,rfl,rfl⟩
 | d::ds,h=>by
  obtain ⟨a,b,c,e⟩:=allO_ok (ds:=ds) fun x hx=>h x (List.mem_cons_of_mem _ hx)
  obtain ⟨ps,_,rfl⟩:=h d List.mem_cons_self
  rw [PyData.canLayAll0,PyData.depthAll,noLs,PyData.eqvAll,a,c,e,(ok_ordD n ps).1.1,(ok_ordD n ps).2,eqv_ordD,decide_eq_true rfl]
  exact ⟨rfl,Nat.max_le.mpr ⟨dep_ordD n ps,b⟩,rfl,rfl⟩
theorem allO_list {n:Nat} {ds:List PyData} (h:AllO n ds):okD (.list ds):=by
 obtain ⟨a,b,_,_⟩:=allO_ok h
 refine ⟨?_,?_⟩
 ·rw [PyData.canLay0];exact a
 ·rw [PyData.depth];omega
theorem allO_oks {n:Nat} {ds:List PyData} (h:AllO n ds):okDs ds:=by
 obtain ⟨a,b,_,_⟩:=allO_ok h
 exact ⟨a,by omega⟩
theorem allO_in {n:Nat} {ds:List PyData} {ps:List (Int×Int)} (h:ordD n ps∈ds):inD (ordD n ps) ds=true:=by
 unfold inD
 refine List.any_eq_true.mpr ⟨_,h,?_⟩
 rw [eqv_ordD,decide_eq_true rfl]
structure Ef (K:PySem.W.Frag) (H:Hp) (a:Addr) (ns:List Int) (tw rf:Addr) (ys:List V) (ds:List PyData) (L:Nat):Prop where
 scr:Scr K H a ns
 twn:∃ ts,H tw=some (.lst ts)∧ts.length≤L
 ef:H rf=some (.lst ys)
 nf:rf≠tw
 iy:IsAll H ys ds
section
variable {K:PySem.W.Frag} {H H':Hp} {a:Addr} {ns:List Int} {tw rf:Addr} {ys:List V} {ds:List PyData} {L L':Nat}
theorem Ef.same (h:Ef K H a ns tw rf ys ds L) (s:Same H H'):Ef K H' a ns tw rf ys ds L:=⟨h.scr.same s,let ⟨ts,e,g⟩:=h.twn;⟨ts,s _ _ e,g⟩,s _ _ h.ef,h.nf,h.iy.same s⟩
theorem Ef.draw {n:Nat} {ts:List V} (h:Ef K H a ns tw rf ys ds L) (ha:AllO n ds) (s:SameT tw H H') (e:H' tw=some (.lst ts)) (g:ts.length≤L'):Ef K H' a ns tw rf ys ds L':=by
 obtain ⟨ts0,e0,g0⟩:=h.twn
 exact ⟨h.scr.t e0 s,⟨ts,e,g⟩,s _ _ h.ef h.nf,h.nf,h.iy.tmono (fun c us e=>s _ _ e (ne_of e e0 (by intro z;cases z))) (allO_ok ha).2.2.1⟩
end
section
variable {P:Program} {w:World} {K:PySem.W.Frag} {mg:Str→Option Value} {base:Heap} {t:Ad}
set_option genSizeOf false in
set_option genInjectivity false in
inductive spLaw (K:PySem.W.Frag) (vs:List V) (H:Hp) (Q:VK) (zz3:XK):Prop where
 | mk (a ns:_) (zh0:vs=[.ref a]) (zh1:Scr K H a ns) (zh2:∀ H',Q (.bl true) H'):spLaw K vs H Q zz3
theorem ok_law (T:Txt K mg t):FnOk P w K mg base CX0 11 t.a_law t.d_law ["_law_script"] (spLaw K):=by
 refine T.F_law.ok sc_law (fun vs H Q E h=>?_) (fun cdv A outer s H vs Q E hr h=>?_)
 ·obtain ⟨a,ns,rfl,_⟩:=h
  rfl
 ·obtain ⟨a,ns,rfl,hs,q⟩:=h
  refine ⟨_,(pss_cons (ps_set (i:=1) sc_law.nd rfl (Or.inr rfl) (pe_lst pa_nil))
   (pss_cons (ps_set (i:=2) sc_law.nd rfl (Or.inr rfl) (pe_op op_add pe_int (pe_call (ok__law_draw T) (hr.mono (by decide)) rfl T.m__law_draw T.F__law_draw.kp T.b__law_draw .nil pass0 (pa_cons (pv 0) (pa_cons (pv 1) (pa_cons pe_int pa_nil))))))
   (pss_cons (ps_set (i:=3) sc_law.nd rfl (Or.inl rfl) (pe_lst (pa_cons (pe_tup pa_nil) pa_nil)))
   (pss_cons (ps_for PassesOwn.never rfl (pi_range1 rfl T.n_range (pa_cons (pv 2) pa_nil)) (pg_name (i:=4) sc_law.nd rfl (Or.inr rfl)) (pss_one (ps_for PassesOwn.never rfl (pi_range1 rfl T.n_range (pa_cons (pv 2) pa_nil)) (pg_name (i:=5) sc_law.nd rfl (Or.inr rfl)) (pss_one (ps_if (pt_cmpR (op_neD hr.units) (pv 4) (pv 5) (nomark _)) (pss_one (ps_set (i:=3) sc_law.nd rfl (Or.inl rfl) (pe_op op_cat (pv 3) (pe_lc rfl ⟨True.intro,True.intro,(.inl rfl),(.inl rfl),True.intro⟩ (M:=["_law_line","_law_one","_law_other"]) (.own (.free 4 rfl rfl (.free 5 rfl rfl .nil))) (gk_name rfl) rfl (by decide +kernel) (k_plst K (pv 3)) (fun C fp s1 H1=>⟨pg_name (i:=0) (show (["_law_line","_law_one","_law_other"]:List Str).Nodup by decide +kernel) rfl (Or.inl rfl),pif_nil,(pe_op op_catU (pv 0) (pe_tup (pa_cons (pe_tup (pa_cons (pv 1) (pa_cons (pv 2) pa_nil))) pa_nil)))⟩))))) pss_nil)))))
   (pss_cons (ps_set (i:=6) sc_law.nd rfl (Or.inl rfl) (pe_callB (k_sortD K hr.units) (by rfl) T.n_sorted bt_sorted (pa_cons (pe_lc rfl ⟨True.intro,True.intro,True.intro,(.inl rfl),True.intro⟩ (M:=["_law_line","_law_many"]) (.own (.free 2 rfl rfl .nil)) (gk_name rfl) rfl (by decide +kernel) (k_plst K (pv 3)) (fun C fp s1 H1=>⟨pg_name (i:=0) (show (["_law_line","_law_many"]:List Str).Nodup by decide +kernel) rfl (Or.inl rfl),pif_one (pt_cmpR (op_eqD hr.units) (pe_call (ok__law_bars T) (hr.mono (by decide)) rfl T.m__law_bars T.F__law_bars.kp T.b__law_bars .nil pass0 (pa_cons (pe_tup (pa_cons (pv 1) (pa_cons (pv 0) pa_nil))) pa_nil)) (pe_lst pa_nil) (nomark _)),(pe_tup (pa_cons (pv 1) (pa_cons (pv 0) pa_nil)))⟩)) pa_nil)))
   (pss_cons (ps_set (i:=7) sc_law.nd rfl (Or.inl rfl) (pe_call (ok__law_ask T) (hr.mono (by decide)) rfl T.m__law_ask T.F__law_ask.kp T.b__law_ask .nil pass0 (pa_cons (pv 2) pa_nil)))
   (pss_cons (ps_if (PW.pt (pw_or (pt_cmpR (op_neD hr.units) (pv 7) (pv 6) (nomark _)) (pw_or1 (pt_cmpR (op_neD hr.units) (pe_callB (k_len K) (by rfl) T.n_len bt_len (pa_cons (pv 7) pa_nil)) (pe_ix (k_ix K) (pe_lst (pa_cons pe_int (pa_cons pe_int (pa_cons pe_int pa_nil)))) (pe_op op_sub (pv 2) pe_int) (fun _ _=>rfl)) (nomark _))))) (pss_one (ps_ret pe_bl)) pss_nil)
   (pss_cons (ps_if (pt_not (pt_val (pe_callB (k_all K) (by rfl) T.n_all bt_all (pa_cons (pe_lc rfl ⟨True.intro,True.intro,True.intro,True.intro⟩ (M:=["_law_order"]) (.own .nil) (gk_name rfl) rfl (by decide +kernel) (k_plst K (pv 7)) (fun C fp s1 H1=>⟨pg_name (i:=0) (show (["_law_order"]:List Str).Nodup by decide +kernel) rfl (Or.inl rfl),pif_nil,(pe_cmpR o_notN (pe_call (ok__law_least T) (hr.mono (by decide)) rfl T.m__law_least T.F__law_least.kp T.b__law_least .nil pass0 (pa_cons (pv 0) (pa_cons pe_int pa_nil))) pe_non (nomark _))⟩)) pa_nil)))) (pss_one (ps_ret pe_bl)) pss_nil)
   (pss_cons (ps_for PassesOwn.never rfl (pi_range1 rfl T.n_range (pa_cons pe_int pa_nil)) (pg_name (i:=8) sc_law.nd rfl (Or.inl rfl)) (pss_cons (ps_set (i:=9) sc_law.nd rfl (Or.inl rfl) (pe_callTy (k_tuple K) (by rfl) T.n_tuple bt_tuple (pa_cons (pe_lc rfl ⟨True.intro,True.intro,True.intro,(.inl rfl),(.inl rfl),True.intro⟩ (M:=["_law_turn","_law_script","_law_town"]) (.own (.free 0 rfl rfl (.free 1 rfl rfl .nil))) (gk_name rfl) rfl (by decide +kernel) (pi_range1 rfl T.n_range (pa_cons (pv 2) pa_nil)) (fun C fp s1 H1=>⟨pg_name (i:=0) (show (["_law_turn","_law_script","_law_town"]:List Str).Nodup by decide +kernel) rfl (Or.inl rfl),pif_nil,(pe_call (ok__law_draw T) (hr.mono (by decide)) rfl T.m__law_draw T.F__law_draw.kp T.b__law_draw .nil pass0 (pa_cons (pv 1) (pa_cons (pv 2) (pa_cons pe_int pa_nil))))⟩)) pa_nil)))
   (pss_one (ps_if (pt_cmpR (op_notInD hr.units) (pe_call (ok_told T) (hr.mono (by decide)) rfl T.m_told T.F_told.kp T.b_told .nil pass0 (pa_cons (pe_op op_add pe_int (pe_call (ok__law_draw T) (hr.mono (by decide)) rfl T.m__law_draw T.F__law_draw.kp T.b__law_draw .nil pass0 (pa_cons (pv 0) (pa_cons (pv 1) (pa_cons pe_int pa_nil))))) (pa_cons (pv 9) pa_nil))) (pv 7) (by rfl)) (pss_one (ps_ret pe_bl)) pss_nil))))
   (pss_one (ps_ret (pe_cmpR (op_eqD hr.units) (pe_call (ok__law_ask T) (hr.mono (by decide)) rfl T.m__law_ask T.F__law_ask.kp T.b__law_ask .nil pass0 (pa_cons (pe_call (ok__law_pick T) (hr.mono (by decide)) rfl T.m__law_pick T.F__law_pick.kp T.b__law_pick .nil pass0 (pa_cons (pv 0) (pa_cons (pv 1) (pa_cons (pe_lst (pa_cons pe_int (pa_cons pe_int (pa_cons (pe_un un_neg pe_int) (pa_cons pe_non (pa_cons pe_bl (pa_cons pe_str pa_nil))))))) pa_nil)))) pa_nil)) (pe_tup (pa_cons pe_str (pa_cons pe_int pa_nil))) (nomark _))))))))))))),?_⟩
  walk_at "rd"
  refine ⟨Nat.zero_le _,fun tw htw=>?_⟩
  have hs0:=hs.same (Same.upd (o:=.lst []) htw)
  have ht0:upd H tw (.lst []) tw=some (.lst []):=upd_same
  generalize upd H tw (.lst [])=H0 at hs0 ht0
  clear htw hs
  walk_at "rd"
  refine ⟨a,ns,tw,[],3,rfl,hs0,ht0,by decide,by decide,fun r0 H1 ts1 s1 ht1 hl1 r00 r01=>?_⟩
  have hs1:=hs0.t ht0 s1
  rw [List.length_nil] at hl1
  clear s1 hs0 ht0
  obtain ⟨n,hn⟩:∃ n:Nat,1 + r0=(n:Int):=⟨(1 + r0).toNat,by omega⟩
  have fw:Few n:=by unfold Few;omega
  have n1:1≤n:=by omega
  have n3:n≤3:=by omega
  walk_at "rd"
  rw [hn]
  walk_at "rd"
  refine ⟨Nat.zero_le _,fun e0 he0=>?_⟩
  have s0:=Same.upd (o:=.tup []) he0
  walk_at "rd"
  refine ⟨by show 1≤sizeLine;decide,fun c0 hc0=>?_⟩
  have s1:=s0.trans (Same.upd (o:=.lst [V.ref e0]) hc0)
  have i1:IsAll (upd (upd H1 e0 (.tup [])) c0 (.lst [V.ref e0])) [V.ref e0] ((chL []).map tpD):=.cons (.tup (by rw [upd_ne (ne_of_none upd_same hc0),upd_same]) .nil) .nil
  have ec1:upd (upd H1 e0 (.tup [])) c0 (.lst [V.ref e0]) c0=some (.lst [V.ref e0]):=upd_same
  generalize upd (upd H1 e0 (.tup [])) c0 (.lst [V.ref e0])=H2 at s1 i1 ec1
  clear s0 he0 hc0
  have lenC:∀ (m:Nat) (l:List (Int×Int)),l.length≤9→∀ (H:Hp) (ys:List V),IsAll H ys ((chL l).map tpD)→ys.length≤512:=fun _ l hl H ys h=>by
   rw [tp_len h,chL_len _ _ rfl]
   exact Nat.le_trans (Nat.pow_le_pow_right (by decide) hl) (by decide)
  walk_at "rd"
  refine ⟨_,rfl,by omega,by omega,?_⟩
  rw [Int.toNat_natCast]
  refine fp_range (fun i σ H'=>Same H1 H'∧∃ c ys,(∃ v4 v5 v6 v7 v8 v9,σ=[some (.ref a),some (.ref tw),some (.int n),some (.ref c),v4,v5,v6,v7,v8,v9])∧H' c=some (.lst ys)∧IsAll H' ys ((chL (upAll n i)).map tpD)) ⟨s1,c0,_,⟨_,_,_,_,_,_,rfl⟩,ec1,i1⟩ ?_ ?_
  ·rintro i σ H3 hi ⟨s3,c,ys,⟨v4,v5,v6,v7,v8,v9,rfl⟩,ec,iy⟩
   walk_at "rd"
   refine ⟨_,rfl,by omega,by omega,?_⟩
   rw [Int.toNat_natCast]
   refine fp_range (fun j σ H'=>Same H1 H'∧∃ c ys,(∃ v5 v6 v7 v8 v9,σ=[some (.ref a),some (.ref tw),some (.int n),some (.ref c),some (.int (0 + i)),v5,v6,v7,v8,v9])∧H' c=some (.lst ys)∧IsAll H' ys ((chL (upAll n i++upRow i j)).map tpD)) ⟨s3,c,_,⟨_,_,_,_,_,rfl⟩,ec,by simpa [upRow] using iy⟩ ?_ ?_
   rotate_left
   ·rintro σ H4 ⟨s4,c,ys,⟨v5,v6,v7,v8,v9,rfl⟩,ec,iy⟩
    exact ⟨s4,c,ys,⟨_,_,_,_,_,_,rfl⟩,ec,by rw [upAll_succ];exact iy⟩
   rintro j σ H4 hj ⟨s4,c,ys,⟨v5,v6,v7,v8,v9,rfl⟩,ec,iy⟩
   have lu:(upAll n i++upRow i j).length≤9:=by
    rw [List.length_append]
    have h1:=upAll_len n i
    have h2:=upRow_len i j
    have h3:i * n≤2 * 3:=Nat.mul_le_mul (by omega) n3
    omega
   have ly:=lenC 0 _ lu _ _ iy
   rw [upRow_succ,←List.append_assoc]
   walk_at "rd"
   refine ifB (fun h1=>?_) (fun h1=>?_)
   ·have hij:i≠j:=by intro z;subst z;simp at h1
    have e1:upI i j=[((i:Int),(j:Int))]:=by unfold upI;rw [if_neg hij]
    rw [e1,chL_snoc]
    walk_at "rd"
    refine ⟨c,rfl,⟨ys,SqL.of ec⟩,?_⟩
    refine lp_list (K:=K) (xs:=ys) (small_ln (by omega)) (fun k ws H'=>Same H4 H'∧IsAll H' ws (((chL (upAll n i++upRow i j)).take k).map fun s=>tpD (s++[((i:Int),(j:Int))]))) ⟨Same.refl _,.nil⟩ (by
     rintro k ws H' ⟨_,h⟩
     rw [h.length,List.length_map,List.length_take]
     omega) (fun k ws H' _ h=>SqL.of (h.1 _ _ ec)) ?_ ?_
    ·rintro k y ws H5 hy ⟨s5,iw⟩
     obtain ⟨s',a',xs,hs',rfl,ea,hxs⟩:=tp_get (iy.same s5) hy
     have lx:xs.length≤9:=by
      rw [hxs.length,List.length_map]
      have:=sub_len (List.mem_of_getElem? hs')
      omega
     walk_at "rd"
     refine ⟨by show 2≤sizeLine;decide,fun q0 hq0=>?_⟩
     have f0:=Same.upd (o:=.tup [V.int (0 + (i:Int)),V.int (0 + (j:Int))]) hq0
     walk_at "rd"
     refine ⟨by show 1≤sizeLine;decide,fun q1 hq1=>?_⟩
     have f1:=Same.upd (o:=.tup [V.ref q0]) hq1
     refine rd_catU (f1 _ _ (f0 _ _ ea)) upd_same (small_ln (by show _ + 1≤1000;omega)) fun u H6 s6 eu=>?_
     have f01:=f0.trans f1
     refine ⟨(s5.trans f01).trans s6,?_⟩
     rw [List.take_add_one,hs',List.map_append]
     refine ((iw.same f01).same s6).append (.cons (.tup eu ?_) .nil)
     rw [List.map_append]
     refine ((hxs.same f01).same s6).append (.cons (.tup (s6 _ _ (f1 _ _ upd_same)) ?_) .nil)
     rw [Int.zero_add,Int.zero_add]
     exact .cons (.int _) (.cons (.int _) .nil)
    rintro ws H5 ⟨s5,iw⟩ p6 hp6
    have f6:=Same.upd (o:=.lst ws) hp6
    have lw:ws.length≤512:=by
     rw [iw.length,List.length_map,List.length_take]
     omega
    rw [tp_len iy,List.take_length] at iw
    refine rd_cat (f6 _ _ (s5 _ _ ec)) upd_same (by rw [sizeLine_eq];omega) fun p7 hp7=>?_
    have f7:=Same.upd (o:=.lst (ys++ws)) hp7
    walk_at "rd"
    refine ⟨((s4.trans s5).trans f6).trans f7,p7,_,⟨_,_,_,_,_,rfl⟩,upd_same,?_⟩
    unfold chS
    rw [List.map_append,List.map_map]
    exact (((iy.same s5).same f6).same f7).append ((iw.same f6).same f7)
   ·have hij:i=j:=by
     have h1':((i:Int)==(j:Int))=true:=by simpa using h1
     have:=eq_of_beq h1'
     omega
    have e1:upI i j=[]:=by unfold upI;rw [if_pos hij]
    rw [e1,List.append_nil]
    walk_at "rd"
    exact ⟨s4,c,ys,⟨_,_,_,_,_,rfl⟩,ec,iy⟩
  rintro σ H3 ⟨s3,c,ys,⟨v4,v5,v6,v7,v8,v9,rfl⟩,ec,iy⟩
  change IsAll H3 ys ((chL (upr n)).map tpD) at iy
  clear ec1 i1 s1
  have ly2:(chL (upr n)).length≤64:=by
   rw [chL_len _ _ rfl]
   exact Nat.le_trans (Nat.pow_le_pow_right (by decide) (up_len fw)) (by decide)
  have ly:=tp_len iy
  walk_at "rd"
  refine ⟨c,rfl,⟨ys,SqL.of ec⟩,?_⟩
  refine lp_list (K:=K) (xs:=ys) (small_ln (by omega)) (fun j us H'=>Same H3 H'∧IsAll H' us ((((chL (upr n)).take j).filter fun s=> !barB n s).map (ordD n))) ⟨Same.refl _,.nil⟩ (by
   rintro j us H' ⟨_,h⟩
   rw [h.length,List.length_map]
   have:=List.length_filter_le (fun s=> !barB n s) ((chL (upr n)).take j)
   rw [List.length_take] at this
   omega) (fun j us H' _ h=>SqL.of (h.1 _ _ ec)) ?_ ?_
  ·rintro j y us H5 hy ⟨s5,iu⟩
   obtain ⟨s',a',xs,hs',rfl,ea,hxs⟩:=tp_get (iy.same s5) hy
   have ho:=ch_ord n1 (by omega) (List.mem_of_getElem? hs')
   walk_at "rd"
   refine ⟨by show 2≤sizeLine;decide,fun q1 hq1=>?_⟩
   have f1:=Same.upd (o:=.tup [V.int n,V.ref a']) hq1
   walk_at "rd"
   refine ⟨_,n,s',rfl,.tup upd_same (.cons (.int _) (.cons (.tup (f1 _ _ ea) (hxs.same f1)) .nil)),ho,fun lb wb H6 s6 _ elb ib=>?_⟩
   walk_at "rd"
   refine ⟨Nat.zero_le _,fun q8 hq8=>?_⟩
   have f8:=Same.upd (o:=.lst []) hq8
   refine rd_eqD (d:=.list ((barsL n s').map b4D)) (e:=.list []) (.lst (Rd.of (f8 _ _ elb)) (ib.same f8)) (.lst (Rd.of upd_same) .nil) (ok_bars n s') ⟨rfl,by show 1≤40;decide⟩ ?_
   rw [eqv_bars ho]
   have s8:=(f1.trans s6).trans f8
   have ea8:=s8 _ _ ea
   have hxs8:=hxs.same s8
   have iu8:=iu.same s8
   have s58:=s5.trans s8
   generalize upd H6 q8 (.lst [])=H8 at s58 ea8 hxs8 iu8
   rw [List.take_add_one,hs',show (some s').toList=[s'] from rfl,List.filter_append]
   cases hb:barB n s' with
   | true=>
    walk_at "rd"
    refine ifF rfl ?_
    refine ⟨s58,?_⟩
    have e0:[s'].filter (fun s=> !barB n s)=[]:=by simp [hb]
    rw [e0,List.append_nil]
    exact iu8
   | false=>
    walk_at "rd"
    refine ifT rfl ?_
    walk_at "rd"
    refine ⟨by show 2≤sizeLine;decide,fun q9 hq9=>?_⟩
    have f9:=Same.upd (o:=.tup [V.int n,V.ref a']) hq9
    refine ⟨s58.trans f9,?_⟩
    have e0:[s'].filter (fun s=> !barB n s)=[s']:=by simp [hb]
    rw [e0,List.map_append]
    exact (iu8.same f9).append (.cons (.tup upd_same (.cons (.int _) (.cons (.tup (f9 _ _ ea8) (hxs8.same f9)) .nil))) .nil)
  rintro us H5 ⟨s5,iu⟩ p6 hp6
  rw [ly,List.take_length] at iu
  have f6:=Same.upd (o:=.lst us) hp6
  walk_at "rd"
  refine sortO (ao_nd fw) upd_same (iu.same f6) fun rd' vd dd hrd ia pmd upd'=>?_
  have f7:=Same.upd (o:=.lst vd) hrd
  have s7:=((s3.trans s5).trans f6).trans f7
  have ed7:upd (upd H5 p6 (.lst us)) rd' (.lst vd) rd'=some (.lst vd):=upd_same
  have id7:=ia.same f7
  generalize upd (upd H5 p6 (.lst us)) rd' (.lst vd)=H7 at s7 ed7 id7
  clear s5 f6 f7 iu iy ec hp6 hrd ia
  have hs7:=hs1.same s7
  have ht7:=s7 _ _ ht1
  walk_at "rd"
  refine ⟨_,rfl,.inl ⟨n,rfl,fw,fun rf vf df H8 s8 nrf ef ivf pmf upf=>?_⟩⟩
  have edf:df=dd:=sorted_one (lt:=fun a c:PyData=>HT.lexLt (keyO a) (keyO c)=true) keyO_as (pmf.trans pmd.symm) upf upd'
  subst edf
  have AO:=allO_of pmf
  have EF:Ef K H8 a ns tw rf vf df 60:=⟨hs7.same s8,⟨ts1,s8 _ _ ht7,by omega⟩,ef,fun z=>(by rw [z,ht7] at nrf;cases nrf),ivf⟩
  walk_at "rd"
  refine rd_eqD (d:=.list df) (e:=.list df) (.lst (Rd.of ef) ivf) (.lst (Rd.of (s8 _ _ ed7)) (id7.same s8)) (allO_list AO) (allO_list AO) ?_
  rw [show PyData.eqv (.list df) (.list df)=true by rw [PyData.eqv];exact (allO_ok AO).2.2.2]
  clear s7 ed7 id7 hs7 ht7 s8 nrf ef ivf hs1 ht1 s3
  have lf:vf.length=[1,3,19].getD (n - 1) 0:=by
   rw [EF.iy.length,pmf.length_eq,List.length_map,ao_len fw]
  have ef:=EF.ef
  walk_at "rd"
  refine ifF rfl ?_
  walk_at "rd"
  refine ⟨by show 3≤sizeLine;decide,fun q9 hq9=>?_⟩
  have f9:=Same.upd (o:=.lst [V.int 1,V.int 3,V.int 19]) hq9
  have E9:=EF.same f9
  walk_at "rd"
  refine rd_ixL upd_same (atI_of (i:=n - 1) (by omega) (show [V.int 1,V.int 3,V.int 19][n - 1]? =some (.int ([1,3,19].getD (n - 1) 0)) from by rcases fw with rfl | rfl | rfl <;> rfl)) ?_
  generalize upd H8 q9 (.lst [V.int 1,V.int 3,V.int 19])=H9 at E9
  clear EF f9 hq9 ef
  walk_at "rd"
  refine ifF (by
   rw [lf]
   rcases fw with rfl | rfl | rfl <;> rfl) ?_
  walk_at "rd"
  refine ⟨rf,rfl,⟨_,SqL.of E9.ef⟩,?_⟩
  have lv100:vf.length≤100:=by rw [lf];rcases fw with rfl | rfl | rfl <;> decide
  refine lp_list (K:=K) (xs:=vf) (small_ln (by omega)) (fun i zs H'=>Same H9 H'∧zs=(List.replicate i true).map V.bl) ⟨Same.refl _,rfl⟩ (by
   rintro i zs H' ⟨_,rfl⟩
   rw [List.length_map,List.length_replicate]
   exact Nat.le_refl _) (fun i zs H' _ h=>SqL.of (h.1 _ _ E9.ef)) ?_ ?_
  ·rintro i y zs H2 hy ⟨s2,rfl⟩
   obtain ⟨d,ed,id⟩:=E9.iy.get' hy
   obtain ⟨ps,hps,rfl⟩:=AO d (List.mem_of_getElem? ed)
   obtain ⟨hch,hb⟩:=List.mem_filter.mp hps
   have ho:=ch_ord n1 (by omega) hch
   have hb':barB n ps=false:=by simpa using hb
   obtain ⟨v,ev⟩:=rep_gen ho hb' (st:=3) (by decide) (by omega)
   walk_at "rd"
   refine ⟨y,n,ps,3,rfl,id.same s2,by omega,by decide,by decide,fun H3 s3=>?_⟩
   rw [ls_nums n1,ev]
   unfold Ans
   intro p hp
   walk_at "rd"
   refine ⟨s2.trans s3,?_⟩
   rw [List.replicate_succ',List.map_append]
   rfl
  rintro zs H2 ⟨s2,rfl⟩ pz hpz
  have f3:=Same.upd (o:=.lst ((List.replicate vf.length true).map V.bl)) hpz
  have E3:=(E9.same s2).same f3
  walk_at "rd"
  refine rd_all upd_same ?_
  rw [show (List.replicate vf.length true).all id=true by simp]
  generalize upd H2 pz (.lst ((List.replicate vf.length true).map V.bl))=H3 at E3
  clear E9 s2 f3 hpz
  walk_at "rd"
  refine ⟨_,rfl,by decide,by decide,?_⟩
  refine fp_range (fun i σ H'=>(∃ v3 v4 v5 v6 v8 v9,σ=[some (.ref a),some (.ref tw),some (.int n),v3,v4,v5,v6,some (.ref rf),v8,v9])∧Ef K H' a ns tw rf vf df (60 + 4 * i)) ⟨⟨_,_,_,_,_,_,rfl⟩,E3⟩ ?_ ?_
  ·rintro i σ H4 hi ⟨⟨v3,v4,v5,v6,v8,v9,rfl⟩,E4⟩
   have hi6:i < 6:=hi
   walk_at "rd"
   refine ⟨_,rfl,by omega,by omega,?_⟩
   rw [Int.toNat_natCast]
   refine lp_range (small_ln (by omega)) (fun j ys H'=>Ef K H' a ns tw rf vf df (60 + 4 * i + j)∧∃ ws:List Int,ys=ws.map V.int∧ws.length=j∧∀ w∈ws,0≤w∧w≤9999) ⟨E4,[],rfl,rfl,fun _ h=>nomatch h⟩ (by rintro j zs H' ⟨_,ws,rfl,h,_⟩;rw [List.length_map];omega) ?_ ?_
   ·rintro j ys H5 hj ⟨E5,ws,rfl,lws,hws⟩
    obtain ⟨ts5,ht5,hl5⟩:=E5.twn
    walk_at "rd"
    refine ⟨a,ns,tw,ts5,7,rfl,E5.scr,ht5,by omega,by decide,fun r6 H6 ts6 s6 ht6 hl6 r60 r61=>?_⟩
    refine ⟨E5.draw AO s6 ht6 (by omega),ws++[r6],by rw [List.map_append];rfl,by rw [List.length_append,lws];rfl,fun w hw=>?_⟩
    rcases List.mem_append.mp hw with h | h
    ·exact hws w h
    ·rcases List.mem_singleton.mp h with rfl
     exact ⟨r60,by omega⟩
   rintro ys H5 ⟨E5,ws,rfl,lws,hws⟩ p6 hp6
   have f6:=Same.upd (o:=.lst (ws.map V.int)) hp6
   have E6:=E5.same f6
   have e6:upd H5 p6 (.lst (ws.map V.int)) p6=some (.lst (ws.map V.int)):=upd_same
   generalize upd H5 p6 (.lst (ws.map V.int))=H6 at E6 e6
   clear E4 E5 f6 hp6
   walk_at "rd"
   intro tp htp
   have f7:=Same.upd (o:=.tup (ws.map V.int)) htp
   have E7:=E6.same f7
   have e7:upd H6 tp (.tup (ws.map V.int)) tp=some (.tup (ws.map V.int)):=upd_same
   generalize upd H6 tp (.tup (ws.map V.int))=H7 at E7 e7
   clear E6 e6 f7 htp
   obtain ⟨ts7,ht7,hl7⟩:=E7.twn
   walk_at "rd"
   refine ⟨a,ns,tw,ts7,3,rfl,E7.scr,ht7,by omega,by decide,fun r8 H8 ts8 s8 ht8 hl8 r80 r81=>?_⟩
   have E8:=E7.draw AO s8 ht8 (show ts8.length≤60 + 4 * (i + 1) by omega)
   have e8:=s8 _ _ e7 (ne_of e7 ht7 (by intro z;cases z))
   clear E7 e7 s8 ht7
   walk_at "rd"
   refine ⟨1 + r8,tp,ws,rfl,by omega,by omega,e8,by omega,by omega,hws,fun x H9 s9 ix=>?_⟩
   have E9:=E8.same s9
   rw [lws] at ix
   have ho:=told_ord (st:=1 + r8) (vals:=ws) (by omega) (by omega) (by omega)
   have hb:=no_bar (s0:=1 + r8) (line:=ws) (by omega)
   rw [lws] at ho hb
   have hm:ordD n (toldL (1 + r8) ws)∈df:=by
    refine pmf.mem_iff.mpr (List.mem_map.mpr ⟨_,List.mem_filter.mpr ⟨ord_ch ho,?_⟩,rfl⟩)
    rw [hb]
    rfl
   walk_at "rd"
   refine ⟨_,_,ix,.inr (.lst (Rd.of E9.ef) E9.iy),(ok_ordD _ _).1,allO_oks AO,?_⟩
   rw [allO_in hm]
   walk_at "rd"
   refine ifF rfl ?_
   walk_at "rd"
   exact ⟨⟨_,_,_,_,_,_,rfl⟩,E9⟩
  rintro σ H4 ⟨⟨v3,v4,v5,v6,v8,v9,rfl⟩,E4⟩
  obtain ⟨ts4,ht4,hl4⟩:=E4.twn
  clear E3
  walk_at "rd"
  refine ⟨1,rfl,?_⟩
  walk_at "rd"
  refine ⟨by show 6≤sizeLine;decide,fun q5 hq5=>?_⟩
  have f5:=Same.upd (o:=.lst [V.int 0,V.int 4,V.int (-1),V.non,V.bl true,V.str "1"]) hq5
  have E5:=E4.same f5
  have n5:q5≠tw:=fun z=>by rw [z,ht4] at hq5;cases hq5
  walk_at "rd"
  refine ⟨a,ns,tw,ts4,q5,_,rfl,E5.scr,f5 _ _ ht4,by omega,upd_same,n5,by show 0 < 6;decide,fun v H6 ts6 s6 ht6 hl6 hv=>?_⟩
  obtain ⟨d,id,hd⟩:∃ d,Is H6 v d∧wholeB d 1 3=false:=by
   simp only [List.mem_cons,List.not_mem_nil,or_false] at hv
   rcases hv with rfl | rfl | rfl | rfl | rfl | rfl
   ·exact ⟨_,.int _,rfl⟩
   ·exact ⟨_,.int _,rfl⟩
   ·exact ⟨_,.int _,rfl⟩
   ·exact ⟨_,.non,rfl⟩
   ·exact ⟨_,.bl _,rfl⟩
   ·exact ⟨_,.str _,rfl⟩
  walk_at "rd"
  refine ⟨v,rfl,.inr ⟨d,id,hd,fun v7 H7 s7 iv=>?_⟩⟩
  walk_at "rd"
  refine ⟨by show 2≤sizeLine;decide,fun q8 hq8=>?_⟩
  have f8:=Same.upd (o:=.tup [V.str "refused",V.int 4]) hq8
  refine rd_eqD (d:=refD 4) (e:=refD 4) (iv.same f8) (.tup upd_same (.cons (.str _) (.cons (.int _) .nil))) (ok_ref 4) (ok_ref 4) ?_
  rw [eqv_ref,decide_eq_true rfl]
  exact q _
end
end My
namespace My
open PySem L2
theorem of0 {P:List Value→Prop} (h:P []) (us:List Value) (e:us.length=0):P us:=by
 cases us with
 | nil=>exact h
 | cons a us=>cases e
theorem of1 {P:List Value→Prop} (h:∀ a,P [a]) (us:List Value) (e:us.length=1):P us:=by
 cases us with
 | nil=>cases e
 | cons a us=>exact of0 (P:=fun us=>P (a::us)) (h a) us (Nat.succ.inj e)
theorem of2 {P:List Value→Prop} (h:∀ a b,P [a,b]) (us:List Value) (e:us.length=2):P us:=by
 cases us with
 | nil=>cases e
 | cons a us=>exact of1 (P:=fun us=>P (a::us)) (h a) us (Nat.succ.inj e)
theorem of3 {P:List Value→Prop} (h:∀ a b c,P [a,b,c]) (us:List Value) (e:us.length=3):P us:=by
 cases us with
 | nil=>cases e
 | cons a us=>exact of2 (P:=fun us=>P (a::us)) (h a) us (Nat.succ.inj e)
theorem of4 {P:List Value→Prop} (h:∀ a b c d,P [a,b,c,d]) (us:List Value) (e:us.length=4):P us:=by
 cases us with
 | nil=>cases e
 | cons a us=>exact of3 (P:=fun us=>P (a::us)) (h a) us (Nat.succ.inj e)
theorem of5 {P:List Value→Prop} (h:∀ a b c d f,P [a,b,c,d,f]) (us:List Value) (e:us.length=5):P us:=by
 cases us with
 | nil=>cases e
 | cons a us=>exact of4 (P:=fun us=>P (a::us)) (h a) us (Nat.succ.inj e)
theorem mkF {K:PySem.W.Frag} {h:Heap} {mg:Str→Option Value} (X:K.In h) (G:h.Ns mainGlobals mg) {f:Str} {st:Stmt} {ps:List Str} {a:Addr} {od an:Option Addr} {sl:Array (Option Value)} {oc kV dc pm cd ct:Value}
  (hb:∀ (kV doc pm:Value) (an:Option Addr) (cdv ct:Value) (us:List Value),us.length=ps.length→bindArgs (PySem.W.fnOf f f (defArgs st) (defBody st) (defScope st) .none kV doc pm an cdv ct) ⟨us,[]⟩=pure (ps.zip us))
  (e:PySem.W.nsIn K mainGlobals f=some (some (.ref a))) (l:K.lookup a=some ⟨oc,od,.func (PySem.W.fnOf f f (defArgs st) (defBody st) (defScope st) .none kV dc pm an cd ct),sl⟩) (c:PySem.W.codeIn K cd f=true) (k:PySem.W.keepIn K (.ref a)=true):
  ∃ a d,mg f=some (.ref a)∧Fun K f f st a d∧Binds K d ps []:=by
 have F:=fun_mk (st:=st) l c k
 exact ⟨a,_,PySem.W.mg_of X G e,F,F.binds hb⟩
theorem mkN {K:PySem.W.Frag} {h:Heap} {mg:Str→Option Value} (X:K.In h) (G:h.Ns mainGlobals mg) {f:Str} (e:PySem.W.nsIn K mainGlobals f=some none):mg f=none:=PySem.W.mg_none_of X G e
theorem mkM {K:PySem.W.Frag} {h:Heap} {mg:Str→Option Value} (X:K.In h) (G:h.Ns mainGlobals mg) {f:Str} {C:Addr} (e:PySem.W.nsIn K mainGlobals f=some (some (.ref C))):mg f=some (.ref C):=PySem.W.mg_of X G e
theorem mkC {K:PySem.W.Frag} {h:Heap} {mg:Str→Option Value} (X:K.In h) (G:h.Ns mainGlobals mg) {f:Str} {n:Int} {tk:Tok} (e:PySem.W.nsIn K mainGlobals f=some (some (.int n tk))):∃ tk,mg f=some (.int n tk):=⟨tk,PySem.W.mg_of X G e⟩
theorem mkS {K:PySem.W.Frag} {h:Heap} {mg:Str→Option Value} (X:K.In h) (G:h.Ns mainGlobals mg) {f z:Str} {tk:Tok} (e:PySem.W.nsIn K mainGlobals f=some (some (.str z tk))):∃ tk,mg f=some (.str z tk):=⟨tk,PySem.W.mg_of X G e⟩
theorem law_binds {K:PySem.W.Frag} {a:Addr} {fd:FuncData} (F:Fun K "law" "law" s_law a fd) (s:Shared) (v:Value):BindsTo s fd ⟨[v],[]⟩ [("_law_script",v)]:=by
 obtain ⟨oc,od,kV,doc,pm,an,cdv,ct,osl,rfl,lk,hcd⟩:=F.ex
 exact .of_eq rfl
theorem walk {l:PySem.W.OpenLaw} {q:Program} {loose:List Str} {XP:(Str→Option Value)→Heap→Prop} {YP:World→Heap→Prop} {d:DefRec} {K:Params→PySem.W.Frag} (hn:l.most=some 63) (hdf:d.params.defaults=[])
  (hY:∀ (w:World) (h:Heap),YP w h→(K w.params).In h)
  (F:∀ (w:World) (mg:Str→Option Value) (fa:Addr) (h:Heap),(K w.params).In h→h.Ns mainGlobals mg→mg d.name=some (.ref fa)→
   ∃ fd:FuncData,(∀ (s:Shared) (u:Value),BindsTo s fd ⟨[u],[]⟩ [("_law_script",u)])∧∀ base:Heap,(K w.params).In base→base.Ns mainGlobals mg→FnOk l.prog w (K w.params) mg base CX0 11 fa fd ["_law_script"] (spLaw (K w.params))):
  PySem.W.WalkO q loose XP YP l.row.toRowW d [] (fun f vs=>PySem.call f vs):=
 L2.walk_of (n:=63) (k:=11) (x:="_law_script") (CX:=fun _=>CX0) (sp:=fun w=>spLaw (K w.params)) hn (by decide) hdf ⟨rfl,by decide,by decide⟩ hY F (fun _ _ a ns _ hO hS=>⟨a,ns,rfl,Scr.of hO hS,fun _=>rfl⟩) fun _ _ _ _ _ z=>z
theorem txt_of {K:PySem.W.Frag} {mg:Str→Option Value} (TS:(∃ a d,mg "is_whole"=some (PySem.Value.ref a)∧L2.Fun K "is_whole" "is_whole" My.s_is_whole a d∧L2.Binds K d ["value","low","high"] [])∧(∃ a d,mg "is_thing"=some (PySem.Value.ref a)∧L2.Fun K "is_thing" "is_thing" My.s_is_thing a d∧L2.Binds K d ["value","many"] [])∧(∃ a d,mg "is_pair"=some (PySem.Value.ref a)∧L2.Fun K "is_pair" "is_pair" My.s_is_pair a d∧L2.Binds K d ["value","many"] [])∧(∃ a d,mg "is_rising"=some (PySem.Value.ref a)∧L2.Fun K "is_rising" "is_rising" My.s_is_rising a d∧L2.Binds K d ["pairs"] [])∧(∃ a d,mg "is_order"=some (PySem.Value.ref a)∧L2.Fun K "is_order" "is_order" My.s_is_order a d∧L2.Binds K d ["value"] [])∧(∃ a d,mg "is_step"=some (PySem.Value.ref a)∧L2.Fun K "is_step" "is_step" My.s_is_step a d∧L2.Binds K d ["value"] [])∧(∃ a d,mg "is_numbers"=some (PySem.Value.ref a)∧L2.Fun K "is_numbers" "is_numbers" My.s_is_numbers a d∧L2.Binds K d ["value","fewest","most"] [])∧(∃ a d,mg "need_order"=some (PySem.Value.ref a)∧L2.Fun K "need_order" "need_order" My.s_need_order a d∧L2.Binds K d ["value"] [])∧(∃ a d,mg "need_step"=some (PySem.Value.ref a)∧L2.Fun K "need_step" "need_step" My.s_need_step a d∧L2.Binds K d ["value"] [])∧(∃ a d,mg "need_numbers"=some (PySem.Value.ref a)∧L2.Fun K "need_numbers" "need_numbers" My.s_need_numbers a d∧L2.Binds K d ["value","fewest","most"] [])∧(∃ a d,mg "bars_as_two"=some (PySem.Value.ref a)∧L2.Fun K "bars_as_two" "bars_as_two" My.s_bars_as_two a d∧L2.Binds K d ["pairs","a","b","c","d"] [])∧(∃ a d,mg "bars_as_three"=some (PySem.Value.ref a)∧L2.Fun K "bars_as_three" "bars_as_three" My.s_bars_as_three a d∧L2.Binds K d ["pairs","a","b","c","d"] [])∧(∃ a d,mg "first_two"=some (PySem.Value.ref a)∧L2.Fun K "first_two" "first_two" My.s_first_two a d∧L2.Binds K d ["pairs"] [])∧(∃ a d,mg "first_three"=some (PySem.Value.ref a)∧L2.Fun K "first_three" "first_three" My.s_first_three a d∧L2.Binds K d ["many","pairs"] [])∧(∃ a d,mg "bar"=some (PySem.Value.ref a)∧L2.Fun K "bar" "bar" My.s_bar a d∧L2.Binds K d ["order"] [])∧(∃ a d,mg "unlike_pairs"=some (PySem.Value.ref a)∧L2.Fun K "unlike_pairs" "unlike_pairs" My.s_unlike_pairs a d∧L2.Binds K d ["many"] [])∧(∃ a d,mg "choices"=some (PySem.Value.ref a)∧L2.Fun K "choices" "choices" My.s_choices a d∧L2.Binds K d ["pairs"] [])∧(∃ a d,mg "all_orders"=some (PySem.Value.ref a)∧L2.Fun K "all_orders" "all_orders" My.s_all_orders a d∧L2.Binds K d ["many"] [])∧(∃ a d,mg "told_pairs"=some (PySem.Value.ref a)∧L2.Fun K "told_pairs" "told_pairs" My.s_told_pairs a d∧L2.Binds K d ["step","numbers"] [])∧(∃ a d,mg "told"=some (PySem.Value.ref a)∧L2.Fun K "told" "told" My.s_told a d∧L2.Binds K d ["step","numbers"] [])∧(∃ a d,mg "_law_cell_at"=some (PySem.Value.ref a)∧L2.Fun K "_law_cell_at" "_law_cell_at" My.s__law_cell_at a d∧L2.Binds K d ["_law_script","_law_k"] [])∧(∃ a d,mg "_law_mixed"=some (PySem.Value.ref a)∧L2.Fun K "_law_mixed" "_law_mixed" My.s__law_mixed a d∧L2.Binds K d ["_law_script","_law_k","_law_many"] [])∧(∃ a d,mg "_law_draw"=some (PySem.Value.ref a)∧L2.Fun K "_law_draw" "_law_draw" My.s__law_draw a d∧L2.Binds K d ["_law_script","_law_town","_law_many"] [])∧(∃ a d,mg "_law_pick"=some (PySem.Value.ref a)∧L2.Fun K "_law_pick" "_law_pick" My.s__law_pick a d∧L2.Binds K d ["_law_script","_law_town","_law_some"] [])∧(∃ a d,mg "_law_bars"=some (PySem.Value.ref a)∧L2.Fun K "_law_bars" "_law_bars" My.s__law_bars a d∧L2.Binds K d ["_law_order"] [])∧(∃ a d,mg "_law_least"=some (PySem.Value.ref a)∧L2.Fun K "_law_least" "_law_least" My.s__law_least a d∧L2.Binds K d ["_law_order","_law_step"] [])∧(∃ a d,mg "_law_which"=some (PySem.Value.ref a)∧L2.Fun K "_law_which" "_law_which" My.s__law_which a d∧L2.Binds K d ["_law_e"] [])∧(∃ a d,mg "_law_ask"=some (PySem.Value.ref a)∧L2.Fun K "_law_ask" "_law_ask" My.s__law_ask a d∧L2.Binds K d ["_law_many"] [])∧(∃ a d,mg "law"=some (PySem.Value.ref a)∧L2.Fun K "law" "law" My.s_law a d∧L2.Binds K d ["_law_script"] [])∧(mg "ValueError"=none)∧(mg "all"=none)∧(mg "bool"=none)∧(mg "dict"=none)∧(mg "int"=none)∧(mg "isinstance"=none)∧(mg "len"=none)∧(mg "list"=none)∧(mg "max"=none)∧(mg "range"=none)∧(mg "sorted"=none)∧(mg "tuple"=none)∧(∃ c_Barred c_Full c_NoCount c_NoNumbers c_NoOrder c_NoStep c_NoTelling c_NoThing c_Nothing c_OrderError:PySem.Addr,My.XF K mg c_Barred c_Full c_NoCount c_NoNumbers c_NoOrder c_NoStep c_NoTelling c_NoThing c_Nothing c_OrderError)∧(∃ tk,mg "MOST_LISTED"=some (PySem.Value.int 3 tk))∧(∃ tk,mg "MOST_NUMBER"=some (PySem.Value.int 9999 tk))∧(∃ tk,mg "MOST_STEP"=some (PySem.Value.int 999 tk))∧(∃ tk,mg "MOST_THINGS"=some (PySem.Value.int 8 tk))):∃ t:Ad,Txt K mg t:=by
 obtain ⟨⟨a0,d0,m0,F0,b0⟩,⟨a1,d1,m1,F1,b1⟩,⟨a2,d2,m2,F2,b2⟩,⟨a3,d3,m3,F3,b3⟩,⟨a4,d4,m4,F4,b4⟩,⟨a5,d5,m5,F5,b5⟩,⟨a6,d6,m6,F6,b6⟩,⟨a7,d7,m7,F7,b7⟩,⟨a8,d8,m8,F8,b8⟩,⟨a9,d9,m9,F9,b9⟩,⟨a10,d10,m10,F10,b10⟩,⟨a11,d11,m11,F11,b11⟩,⟨a12,d12,m12,F12,b12⟩,⟨a13,d13,m13,F13,b13⟩,⟨a14,d14,m14,F14,b14⟩,⟨a15,d15,m15,F15,b15⟩,⟨a16,d16,m16,F16,b16⟩,⟨a17,d17,m17,F17,b17⟩,⟨a18,d18,m18,F18,b18⟩,⟨a19,d19,m19,F19,b19⟩,⟨a20,d20,m20,F20,b20⟩,⟨a21,d21,m21,F21,b21⟩,⟨a22,d22,m22,F22,b22⟩,⟨a23,d23,m23,F23,b23⟩,⟨a24,d24,m24,F24,b24⟩,⟨a25,d25,m25,F25,b25⟩,⟨a26,d26,m26,F26,b26⟩,⟨a27,d27,m27,F27,b27⟩,⟨a28,d28,m28,F28,b28⟩,N0,N1,N2,N3,N4,N5,N6,N7,N8,N9,N10,N11,⟨c_Barred,c_Full,c_NoCount,c_NoNumbers,c_NoOrder,c_NoStep,c_NoTelling,c_NoThing,c_Nothing,c_OrderError,X⟩,C0,C1,C2,C3⟩:=TS
 exact ⟨⟨a0,d0,a1,d1,a2,d2,a3,d3,a4,d4,a5,d5,a6,d6,a7,d7,a8,d8,a9,d9,a10,d10,a11,d11,a12,d12,a13,d13,a14,d14,a15,d15,a16,d16,a17,d17,a18,d18,a19,d19,a20,d20,a21,d21,a22,d22,a23,d23,a24,d24,a25,d25,a26,d26,a27,d27,a28,d28,c_Barred,c_Full,c_NoCount,c_NoNumbers,c_NoOrder,c_NoStep,c_NoTelling,c_NoThing,c_Nothing,c_OrderError⟩,⟨m0,F0,b0,m1,F1,b1,m2,F2,b2,m3,F3,b3,m4,F4,b4,m5,F5,b5,m6,F6,b6,m7,F7,b7,m8,F8,b8,m9,F9,b9,m10,F10,b10,m11,F11,b11,m12,F12,b12,m13,F13,b13,m14,F14,b14,m15,F15,b15,m16,F16,b16,m17,F17,b17,m18,F18,b18,m19,F19,b19,m20,F20,b20,m21,F21,b21,m22,F22,b22,m23,F23,b23,m24,F24,b24,m25,F25,b25,m26,F26,b26,m27,F27,b27,m28,F28,b28,N0,N1,N2,N3,N4,N5,N6,N7,N8,N9,N10,N11,X.g_Barred,X.g_Full,X.g_NoCount,X.Z_NoCount,X.v_NoCount,X.x_NoCount,X.q_NoCount_Barred,X.q_NoCount_Full,X.q_NoCount_NoNumbers,X.q_NoCount_NoOrder,X.q_NoCount_NoStep,X.q_NoCount_NoTelling,X.q_NoCount_NoThing,X.q_NoCount_Nothing,X.g_NoNumbers,X.g_NoOrder,X.g_NoStep,X.g_NoTelling,X.g_NoThing,X.g_Nothing,X.g_OrderError,C0,C1,C2,C3⟩⟩
end My
open PySem PySem.W PyProof.Rows
def PySem.W.Fast.tw15726887206624700450:Nat:=0
def PySem.W.Fast.tw8304519761142677989:Nat:=0
def PySem.W.Fast.tw11631246684063971679:Nat:=0
def PySem.W.Fast.tw4125830154409698976:Nat:=0
def PySem.W.Fast.tw13409151284101905359:Nat:=0
def PySem.W.Fast.tw18396006835099801622:Nat:=0
def PySem.W.Fast.tw12731282407319657050:Nat:=0
def PySem.W.Fast.tw13777661932514674268:Nat:=0
def PySem.W.Fast.tw5606084464241247546:Nat:=0
def PySem.W.Fast.tw5444358274198812310:Nat:=0
def PySem.W.Fast.tw1362683537633712271:Nat:=0
def PySem.W.Fast.tw645254777024447811:Nat:=0
def PySem.W.Fast.tw18433570250078638182:Nat:=0
def PySem.W.Fast.tw7926963229468583261:Nat:=0
def PySem.W.Fast.tw14489356432238644451:Nat:=0
def PySem.W.Fast.tw17121200336684224243:Nat:=0
def PySem.W.Fast.tw13891330913493358281:Nat:=0
def PySem.W.Fast.tw1421211526326762933:Nat:=0
def PySem.W.Fast.tw14902285985648977435:Nat:=0
def PySem.W.Fast.tw5369250347531104689:Nat:=0
def PySem.W.Fast.tw8554449958844200345:Nat:=0
def PySem.W.Fast.tw13140483661459099665:Nat:=0
def PySem.W.Fast.tw18071166440751392189:Nat:=0
def PySem.W.Fast.tw6875615063087588785:Nat:=0
def PySem.W.Fast.tw12036108603075126322:Nat:=0
def PySem.W.Fast.tw440120175622264612:Nat:=0
def PySem.W.Fast.tw10661912351594124870:Nat:=0
def PySem.W.Fast.tw16394789876232388565:Nat:=0
def PySem.W.Fast.tw7640814583460109034:Nat:=0
def PySem.W.Fast.tw5956785095245520643:Nat:=0
def PySem.W.Fast.tw15370161513963262366:Nat:=0
def PySem.W.Fast.tw17698015411170868566:Nat:=0
def PySem.W.Fast.tw4175929084925906338:Nat:=0
def PySem.W.Fast.tw7034842646903464113:Nat:=0
def PySem.W.Fast.tw8471164063125304146:Nat:=0
def PySem.W.Fast.tw5144591665090133926:Nat:=0
def PySem.W.Fast.tw8749469480916567450:Nat:=0
def PySem.W.Fast.tw10048028854948088823:Nat:=0
def PySem.W.Fast.tw366439450902247831:Nat:=0
def PySem.W.Fast.tw6675112022507551795:Nat:=0
def PySem.W.Fast.tw6910183170930359305:Nat:=0
def PySem.W.Fast.tw17609336493940365480:Nat:=0
def PySem.W.Fast.tw3468117109815776210:Nat:=0
def PySem.W.Fast.tw13816590620223448398:Nat:=0
def PySem.W.Fast.tw3103752819171014238:Nat:=0
def PySem.W.Fast.tw6649560164791485924:Nat:=0
def PySem.W.Fast.tw9735876555442656888:Nat:=0
def PySem.W.Fast.tw2863405892922132229:Nat:=0
def PySem.W.Fast.tw7725340575138814105:Nat:=0
def PySem.W.Fast.tw10825699869264564265:Nat:=0
def PySem.W.Fast.tw6720538789339172442:Nat:=0
def PySem.W.Fast.tw16064330677832026914:Nat:=0
def PySem.W.Fast.tw2891353281624107390:Nat:=0
def PySem.W.Fast.tw7347237109676289981:Nat:=0
def PySem.W.Fast.tw6231669302031273078:Nat:=0
def PySem.W.Fast.tw9678812722065775550:Nat:=0
def PySem.W.Fast.tw6682834710189435647:Nat:=0
def PySem.W.Fast.tw18273087499659909187:Nat:=0
def PySem.W.Fast.tw6767199395854256216:Nat:=0
def PySem.W.Fast.tw14973210043676968042:Nat:=0
def PySem.W.Fast.tw14933277275480279870:Nat:=0
def PySem.W.Fast.tw695563458553960266:Nat:=0
def PySem.W.Fast.tw2983176796415269077:Nat:=0
def PySem.W.Fast.tw17519500506067247403:Nat:=0
def PySem.W.Fast.tw13151517142319284745:Nat:=0
def PySem.W.Fast.tw648587435126901630:Nat:=0
def PySem.W.Fast.tw14550349028885362257:Nat:=0
def PySem.W.Fast.tw8676710596381593346:Nat:=0
def PySem.W.Fast.tw2315000347066196069:Nat:=0
def PySem.W.Fast.tw12311811464002087017:Nat:=0
def PySem.W.Fast.tw17320761183153296283:Nat:=0
def PySem.W.Fast.tw8143211894933876048:Nat:=0
def PySem.W.Fast.tw9387675881867424745:Nat:=0
def PySem.W.Fast.tw15201845165151648346:Nat:=0
def PySem.W.Fast.tw6041264377213250484:Nat:=0
def PySem.W.Fast.tw12525378145803094215:Nat:=0
def PySem.W.Fast.tw13197093066202559038:Nat:=0
def PySem.W.Fast.tw16836292951504393307:Nat:=0
def PySem.W.Fast.tw5212157115982914116:Nat:=0
def PySem.W.Fast.tw12618241904252542876:Nat:=0
def PySem.W.Fast.tw2937718735605020528:Nat:=0
def PySem.W.Fast.tw12956817275289712925:Nat:=0
set_option maxRecDepth 100000 in
set_option maxHeartbeats 0 in
theorem PySem.Challenge.cw_noticed_k06_whole_all_orders_holds : PySem.Challenge.rw_noticed_k06_whole_all_orders.Holds := by
 w_on;o_law;k_head;(case hw=>w_witness2)
 k_fill
 refine My.walk (l:=PySem.Challenge.rw_noticed_k06_whole_all_orders) rfl rfl (fun w h Y=>PySem.W.kIn_of Y) ?F
 case F=>
  intro w mg fa h KX G hmg
  have TS:(∃ a d,mg "is_whole"=some (PySem.Value.ref a)∧L2.Fun (L2.KOf KX) "is_whole" "is_whole" My.s_is_whole a d∧L2.Binds (L2.KOf KX) d ["value","low","high"] [])∧(∃ a d,mg "is_thing"=some (PySem.Value.ref a)∧L2.Fun (L2.KOf KX) "is_thing" "is_thing" My.s_is_thing a d∧L2.Binds (L2.KOf KX) d ["value","many"] [])∧(∃ a d,mg "is_pair"=some (PySem.Value.ref a)∧L2.Fun (L2.KOf KX) "is_pair" "is_pair" My.s_is_pair a d∧L2.Binds (L2.KOf KX) d ["value","many"] [])∧(∃ a d,mg "is_rising"=some (PySem.Value.ref a)∧L2.Fun (L2.KOf KX) "is_rising" "is_rising" My.s_is_rising a d∧L2.Binds (L2.KOf KX) d ["pairs"] [])∧(∃ a d,mg "is_order"=some (PySem.Value.ref a)∧L2.Fun (L2.KOf KX) "is_order" "is_order" My.s_is_order a d∧L2.Binds (L2.KOf KX) d ["value"] [])∧(∃ a d,mg "is_step"=some (PySem.Value.ref a)∧L2.Fun (L2.KOf KX) "is_step" "is_step" My.s_is_step a d∧L2.Binds (L2.KOf KX) d ["value"] [])∧(∃ a d,mg "is_numbers"=some (PySem.Value.ref a)∧L2.Fun (L2.KOf KX) "is_numbers" "is_numbers" My.s_is_numbers a d∧L2.Binds (L2.KOf KX) d ["value","fewest","most"] [])∧(∃ a d,mg "need_order"=some (PySem.Value.ref a)∧L2.Fun (L2.KOf KX) "need_order" "need_order" My.s_need_order a d∧L2.Binds (L2.KOf KX) d ["value"] [])∧(∃ a d,mg "need_step"=some (PySem.Value.ref a)∧L2.Fun (L2.KOf KX) "need_step" "need_step" My.s_need_step a d∧L2.Binds (L2.KOf KX) d ["value"] [])∧(∃ a d,mg "need_numbers"=some (PySem.Value.ref a)∧L2.Fun (L2.KOf KX) "need_numbers" "need_numbers" My.s_need_numbers a d∧L2.Binds (L2.KOf KX) d ["value","fewest","most"] [])∧(∃ a d,mg "bars_as_two"=some (PySem.Value.ref a)∧L2.Fun (L2.KOf KX) "bars_as_two" "bars_as_two" My.s_bars_as_two a d∧L2.Binds (L2.KOf KX) d ["pairs","a","b","c","d"] [])∧(∃ a d,mg "bars_as_three"=some (PySem.Value.ref a)∧L2.Fun (L2.KOf KX) "bars_as_three" "bars_as_three" My.s_bars_as_three a d∧L2.Binds (L2.KOf KX) d ["pairs","a","b","c","d"] [])∧(∃ a d,mg "first_two"=some (PySem.Value.ref a)∧L2.Fun (L2.KOf KX) "first_two" "first_two" My.s_first_two a d∧L2.Binds (L2.KOf KX) d ["pairs"] [])∧(∃ a d,mg "first_three"=some (PySem.Value.ref a)∧L2.Fun (L2.KOf KX) "first_three" "first_three" My.s_first_three a d∧L2.Binds (L2.KOf KX) d ["many","pairs"] [])∧(∃ a d,mg "bar"=some (PySem.Value.ref a)∧L2.Fun (L2.KOf KX) "bar" "bar" My.s_bar a d∧L2.Binds (L2.KOf KX) d ["order"] [])∧(∃ a d,mg "unlike_pairs"=some (PySem.Value.ref a)∧L2.Fun (L2.KOf KX) "unlike_pairs" "unlike_pairs" My.s_unlike_pairs a d∧L2.Binds (L2.KOf KX) d ["many"] [])∧(∃ a d,mg "choices"=some (PySem.Value.ref a)∧L2.Fun (L2.KOf KX) "choices" "choices" My.s_choices a d∧L2.Binds (L2.KOf KX) d ["pairs"] [])∧(∃ a d,mg "all_orders"=some (PySem.Value.ref a)∧L2.Fun (L2.KOf KX) "all_orders" "all_orders" My.s_all_orders a d∧L2.Binds (L2.KOf KX) d ["many"] [])∧(∃ a d,mg "told_pairs"=some (PySem.Value.ref a)∧L2.Fun (L2.KOf KX) "told_pairs" "told_pairs" My.s_told_pairs a d∧L2.Binds (L2.KOf KX) d ["step","numbers"] [])∧(∃ a d,mg "told"=some (PySem.Value.ref a)∧L2.Fun (L2.KOf KX) "told" "told" My.s_told a d∧L2.Binds (L2.KOf KX) d ["step","numbers"] [])∧(∃ a d,mg "_law_cell_at"=some (PySem.Value.ref a)∧L2.Fun (L2.KOf KX) "_law_cell_at" "_law_cell_at" My.s__law_cell_at a d∧L2.Binds (L2.KOf KX) d ["_law_script","_law_k"] [])∧(∃ a d,mg "_law_mixed"=some (PySem.Value.ref a)∧L2.Fun (L2.KOf KX) "_law_mixed" "_law_mixed" My.s__law_mixed a d∧L2.Binds (L2.KOf KX) d ["_law_script","_law_k","_law_many"] [])∧(∃ a d,mg "_law_draw"=some (PySem.Value.ref a)∧L2.Fun (L2.KOf KX) "_law_draw" "_law_draw" My.s__law_draw a d∧L2.Binds (L2.KOf KX) d ["_law_script","_law_town","_law_many"] [])∧(∃ a d,mg "_law_pick"=some (PySem.Value.ref a)∧L2.Fun (L2.KOf KX) "_law_pick" "_law_pick" My.s__law_pick a d∧L2.Binds (L2.KOf KX) d ["_law_script","_law_town","_law_some"] [])∧(∃ a d,mg "_law_bars"=some (PySem.Value.ref a)∧L2.Fun (L2.KOf KX) "_law_bars" "_law_bars" My.s__law_bars a d∧L2.Binds (L2.KOf KX) d ["_law_order"] [])∧(∃ a d,mg "_law_least"=some (PySem.Value.ref a)∧L2.Fun (L2.KOf KX) "_law_least" "_law_least" My.s__law_least a d∧L2.Binds (L2.KOf KX) d ["_law_order","_law_step"] [])∧(∃ a d,mg "_law_which"=some (PySem.Value.ref a)∧L2.Fun (L2.KOf KX) "_law_which" "_law_which" My.s__law_which a d∧L2.Binds (L2.KOf KX) d ["_law_e"] [])∧(∃ a d,mg "_law_ask"=some (PySem.Value.ref a)∧L2.Fun (L2.KOf KX) "_law_ask" "_law_ask" My.s__law_ask a d∧L2.Binds (L2.KOf KX) d ["_law_many"] [])∧(∃ a d,mg "law"=some (PySem.Value.ref a)∧L2.Fun (L2.KOf KX) "law" "law" My.s_law a d∧L2.Binds (L2.KOf KX) d ["_law_script"] [])∧(mg "ValueError"=none)∧(mg "all"=none)∧(mg "bool"=none)∧(mg "dict"=none)∧(mg "int"=none)∧(mg "isinstance"=none)∧(mg "len"=none)∧(mg "list"=none)∧(mg "max"=none)∧(mg "range"=none)∧(mg "sorted"=none)∧(mg "tuple"=none)∧(∃ c_Barred c_Full c_NoCount c_NoNumbers c_NoOrder c_NoStep c_NoTelling c_NoThing c_Nothing c_OrderError:PySem.Addr,My.XF (L2.KOf KX) mg c_Barred c_Full c_NoCount c_NoNumbers c_NoOrder c_NoStep c_NoTelling c_NoThing c_Nothing c_OrderError)∧(∃ tk,mg "MOST_LISTED"=some (PySem.Value.int 3 tk))∧(∃ tk,mg "MOST_NUMBER"=some (PySem.Value.int 9999 tk))∧(∃ tk,mg "MOST_STEP"=some (PySem.Value.int 999 tk))∧(∃ tk,mg "MOST_THINGS"=some (PySem.Value.int 8 tk)):=by
   refine' ⟨?t0,?t1,?t2,?t3,?t4,?t5,?t6,?t7,?t8,?t9,?t10,?t11,?t12,?t13,?t14,?t15,?t16,?t17,?t18,?t19,?t20,?t21,?t22,?t23,?t24,?t25,?t26,?t27,?t28,?t29,?t30,?t31,?t32,?t33,?t34,?t35,?t36,?t37,?t38,?t39,?t40,?t41,?t42,?t43,?t44,?t45⟩
   case t0=>
    dsimp only [L2.KOf]
    refine' My.mkF KX G ?hb ?e ?l ?c ?k
    (case hb=>exact fun _ _ _ _ _ _=>My.of3 (fun _ _ _=>rfl))
    (case e=>k_is);(case l=>k_is);(case c=>k_is);(case k=>k_is)
   case t1=>
    dsimp only [L2.KOf]
    refine' My.mkF KX G ?hb ?e ?l ?c ?k
    (case hb=>exact fun _ _ _ _ _ _=>My.of2 (fun _ _=>rfl))
    (case e=>k_is);(case l=>k_is);(case c=>k_is);(case k=>k_is)
   case t2=>
    dsimp only [L2.KOf]
    refine' My.mkF KX G ?hb ?e ?l ?c ?k
    (case hb=>exact fun _ _ _ _ _ _=>My.of2 (fun _ _=>rfl))
    (case e=>k_is);(case l=>k_is);(case c=>k_is);(case k=>k_is)
   case t3=>
    dsimp only [L2.KOf]
    refine' My.mkF KX G ?hb ?e ?l ?c ?k
    (case hb=>exact fun _ _ _ _ _ _=>My.of1 (fun _=>rfl))
    (case e=>k_is);(case l=>k_is);(case c=>k_is);(case k=>k_is)
   case t4=>
    dsimp only [L2.KOf]
    refine' My.mkF KX G ?hb ?e ?l ?c ?k
    (case hb=>exact fun _ _ _ _ _ _=>My.of1 (fun _=>rfl))
    (case e=>k_is);(case l=>k_is);(case c=>k_is);(case k=>k_is)
   case t5=>
    dsimp only [L2.KOf]
    refine' My.mkF KX G ?hb ?e ?l ?c ?k
    (case hb=>exact fun _ _ _ _ _ _=>My.of1 (fun _=>rfl))
    (case e=>k_is);(case l=>k_is);(case c=>k_is);(case k=>k_is)
   case t6=>
    dsimp only [L2.KOf]
    refine' My.mkF KX G ?hb ?e ?l ?c ?k
    (case hb=>exact fun _ _ _ _ _ _=>My.of3 (fun _ _ _=>rfl))
    (case e=>k_is);(case l=>k_is);(case c=>k_is);(case k=>k_is)
   case t7=>
    dsimp only [L2.KOf]
    refine' My.mkF KX G ?hb ?e ?l ?c ?k
    (case hb=>exact fun _ _ _ _ _ _=>My.of1 (fun _=>rfl))
    (case e=>k_is);(case l=>k_is);(case c=>k_is);(case k=>k_is)
   case t8=>
    dsimp only [L2.KOf]
    refine' My.mkF KX G ?hb ?e ?l ?c ?k
    (case hb=>exact fun _ _ _ _ _ _=>My.of1 (fun _=>rfl))
    (case e=>k_is);(case l=>k_is);(case c=>k_is);(case k=>k_is)
   case t9=>
    dsimp only [L2.KOf]
    refine' My.mkF KX G ?hb ?e ?l ?c ?k
    (case hb=>exact fun _ _ _ _ _ _=>My.of3 (fun _ _ _=>rfl))
    (case e=>k_is);(case l=>k_is);(case c=>k_is);(case k=>k_is)
   case t10=>
    dsimp only [L2.KOf]
    refine' My.mkF KX G ?hb ?e ?l ?c ?k
    (case hb=>exact fun _ _ _ _ _ _=>My.of5 (fun _ _ _ _ _=>rfl))
    (case e=>k_is);(case l=>k_is);(case c=>k_is);(case k=>k_is)
   case t11=>
    dsimp only [L2.KOf]
    refine' My.mkF KX G ?hb ?e ?l ?c ?k
    (case hb=>exact fun _ _ _ _ _ _=>My.of5 (fun _ _ _ _ _=>rfl))
    (case e=>k_is);(case l=>k_is);(case c=>k_is);(case k=>k_is)
   case t12=>
    dsimp only [L2.KOf]
    refine' My.mkF KX G ?hb ?e ?l ?c ?k
    (case hb=>exact fun _ _ _ _ _ _=>My.of1 (fun _=>rfl))
    (case e=>k_is);(case l=>k_is);(case c=>k_is);(case k=>k_is)
   case t13=>
    dsimp only [L2.KOf]
    refine' My.mkF KX G ?hb ?e ?l ?c ?k
    (case hb=>exact fun _ _ _ _ _ _=>My.of2 (fun _ _=>rfl))
    (case e=>k_is);(case l=>k_is);(case c=>k_is);(case k=>k_is)
   case t14=>
    dsimp only [L2.KOf]
    refine' My.mkF KX G ?hb ?e ?l ?c ?k
    (case hb=>exact fun _ _ _ _ _ _=>My.of1 (fun _=>rfl))
    (case e=>k_is);(case l=>k_is);(case c=>k_is);(case k=>k_is)
   case t15=>
    dsimp only [L2.KOf]
    refine' My.mkF KX G ?hb ?e ?l ?c ?k
    (case hb=>exact fun _ _ _ _ _ _=>My.of1 (fun _=>rfl))
    (case e=>k_is);(case l=>k_is);(case c=>k_is);(case k=>k_is)
   case t16=>
    dsimp only [L2.KOf]
    refine' My.mkF KX G ?hb ?e ?l ?c ?k
    (case hb=>exact fun _ _ _ _ _ _=>My.of1 (fun _=>rfl))
    (case e=>k_is);(case l=>k_is);(case c=>k_is);(case k=>k_is)
   case t17=>
    dsimp only [L2.KOf]
    refine' My.mkF KX G ?hb ?e ?l ?c ?k
    (case hb=>exact fun _ _ _ _ _ _=>My.of1 (fun _=>rfl))
    (case e=>k_is);(case l=>k_is);(case c=>k_is);(case k=>k_is)
   case t18=>
    dsimp only [L2.KOf]
    refine' My.mkF KX G ?hb ?e ?l ?c ?k
    (case hb=>exact fun _ _ _ _ _ _=>My.of2 (fun _ _=>rfl))
    (case e=>k_is);(case l=>k_is);(case c=>k_is);(case k=>k_is)
   case t19=>
    dsimp only [L2.KOf]
    refine' My.mkF KX G ?hb ?e ?l ?c ?k
    (case hb=>exact fun _ _ _ _ _ _=>My.of2 (fun _ _=>rfl))
    (case e=>k_is);(case l=>k_is);(case c=>k_is);(case k=>k_is)
   case t20=>
    dsimp only [L2.KOf]
    refine' My.mkF KX G ?hb ?e ?l ?c ?k
    (case hb=>exact fun _ _ _ _ _ _=>My.of2 (fun _ _=>rfl))
    (case e=>k_is);(case l=>k_is);(case c=>k_is);(case k=>k_is)
   case t21=>
    dsimp only [L2.KOf]
    refine' My.mkF KX G ?hb ?e ?l ?c ?k
    (case hb=>exact fun _ _ _ _ _ _=>My.of3 (fun _ _ _=>rfl))
    (case e=>k_is);(case l=>k_is);(case c=>k_is);(case k=>k_is)
   case t22=>
    dsimp only [L2.KOf]
    refine' My.mkF KX G ?hb ?e ?l ?c ?k
    (case hb=>exact fun _ _ _ _ _ _=>My.of3 (fun _ _ _=>rfl))
    (case e=>k_is);(case l=>k_is);(case c=>k_is);(case k=>k_is)
   case t23=>
    dsimp only [L2.KOf]
    refine' My.mkF KX G ?hb ?e ?l ?c ?k
    (case hb=>exact fun _ _ _ _ _ _=>My.of3 (fun _ _ _=>rfl))
    (case e=>k_is);(case l=>k_is);(case c=>k_is);(case k=>k_is)
   case t24=>
    dsimp only [L2.KOf]
    refine' My.mkF KX G ?hb ?e ?l ?c ?k
    (case hb=>exact fun _ _ _ _ _ _=>My.of1 (fun _=>rfl))
    (case e=>k_is);(case l=>k_is);(case c=>k_is);(case k=>k_is)
   case t25=>
    dsimp only [L2.KOf]
    refine' My.mkF KX G ?hb ?e ?l ?c ?k
    (case hb=>exact fun _ _ _ _ _ _=>My.of2 (fun _ _=>rfl))
    (case e=>k_is);(case l=>k_is);(case c=>k_is);(case k=>k_is)
   case t26=>
    dsimp only [L2.KOf]
    refine' My.mkF KX G ?hb ?e ?l ?c ?k
    (case hb=>exact fun _ _ _ _ _ _=>My.of1 (fun _=>rfl))
    (case e=>k_is);(case l=>k_is);(case c=>k_is);(case k=>k_is)
   case t27=>
    dsimp only [L2.KOf]
    refine' My.mkF KX G ?hb ?e ?l ?c ?k
    (case hb=>exact fun _ _ _ _ _ _=>My.of1 (fun _=>rfl))
    (case e=>k_is);(case l=>k_is);(case c=>k_is);(case k=>k_is)
   case t28=>
    dsimp only [L2.KOf]
    refine' My.mkF KX G ?hb ?e ?l ?c ?k
    (case hb=>exact fun _ _ _ _ _ _=>My.of1 (fun _=>rfl))
    (case e=>k_is);(case l=>k_is);(case c=>k_is);(case k=>k_is)
   case t29=>
    refine' My.mkN KX G ?e
    (case e=>k_is)
   case t30=>
    refine' My.mkN KX G ?e
    (case e=>k_is)
   case t31=>
    refine' My.mkN KX G ?e
    (case e=>k_is)
   case t32=>
    refine' My.mkN KX G ?e
    (case e=>k_is)
   case t33=>
    refine' My.mkN KX G ?e
    (case e=>k_is)
   case t34=>
    refine' My.mkN KX G ?e
    (case e=>k_is)
   case t35=>
    refine' My.mkN KX G ?e
    (case e=>k_is)
   case t36=>
    refine' My.mkN KX G ?e
    (case e=>k_is)
   case t37=>
    refine' My.mkN KX G ?e
    (case e=>k_is)
   case t38=>
    refine' My.mkN KX G ?e
    (case e=>k_is)
   case t39=>
    refine' My.mkN KX G ?e
    (case e=>k_is)
   case t40=>
    refine' My.mkN KX G ?e
    (case e=>k_is)
   case t41=>
    dsimp only [L2.KOf]
    refine' ⟨_,_,_,_,_,_,_,_,_,_,My.XF.mk (My.mkM KX G ?kg0) (My.mkM KX G ?kg1) (My.mkM KX G ?kg2) ?kf3 ?kf4 ?kf5 ?kf6 ?kf7 ?kf8 ?kf9 ?kf10 ?kf11 ?kf12 ?kf13 (My.mkM KX G ?kg14) (My.mkM KX G ?kg15) (My.mkM KX G ?kg16) (My.mkM KX G ?kg17) (My.mkM KX G ?kg18) (My.mkM KX G ?kg19) (My.mkM KX G ?kg20)⟩
    (case kg0=>k_is)
    (case kg1=>k_is)
    (case kg2=>k_is)
    (case kg14=>k_is)
    (case kg15=>k_is)
    (case kg16=>k_is)
    (case kg17=>k_is)
    (case kg18=>k_is)
    (case kg19=>k_is)
    (case kg20=>k_is)
    (case kf3=>exact ⟨by k_exc,by k_is,by k_is,by k_is,by k_is,by k_is,⟨_,by k_is⟩⟩)
    (case kf4=>exact L2.kit_val (by k_is))
    (case kf5=>exact L2.exm_of (by k_is) (by k_is) (by k_is) (by k_is))
    (case kf6=>exact L2.kit_no (by decide) (by k_is) (by k_is) (by k_is))
    (case kf7=>exact L2.kit_no (by decide) (by k_is) (by k_is) (by k_is))
    (case kf8=>exact L2.kit_no (by decide) (by k_is) (by k_is) (by k_is))
    (case kf9=>exact L2.kit_no (by decide) (by k_is) (by k_is) (by k_is))
    (case kf10=>exact L2.kit_no (by decide) (by k_is) (by k_is) (by k_is))
    (case kf11=>exact L2.kit_no (by decide) (by k_is) (by k_is) (by k_is))
    (case kf12=>exact L2.kit_no (by decide) (by k_is) (by k_is) (by k_is))
    (case kf13=>exact L2.kit_no (by decide) (by k_is) (by k_is) (by k_is))
   case t42=>
    refine' My.mkC KX G ?e
    (case e=>k_is)
   case t43=>
    refine' My.mkC KX G ?e
    (case e=>k_is)
   case t44=>
    refine' My.mkC KX G ?e
    (case e=>k_is)
   case t45=>
    refine' My.mkC KX G ?e
    (case e=>k_is)
  obtain ⟨t,T⟩:=My.txt_of TS
  have e:=hmg.symm.trans T.m_law
  cases e
  exact ⟨_,My.law_binds T.F_law,fun base _ _=>My.ok_law T⟩
#print axioms PySem.Challenge.cw_noticed_k06_whole_all_orders_holds
