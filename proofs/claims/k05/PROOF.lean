import PyProof.Rows.All
import Wide.All
import OpenK.AllK
import Wide.FinOn
import Lean
import PyProof.EqAt
import PyProof.EqKinds
import PyProof.TupleCall
import PyProof.P3Eq
import PyProof.P3In
import PyProof.NeData
import KE.KSortTup
import KE.LcSums
import PyProof.Rows.TupAdd
import KE.KTryMore
import OpenK.KOwn
import PyProof.NsDelKeeps
import PyProof.ExcArgsOwn
import KE.KIsAll
import KE.KDictList
import KE.KDictOf
import KE.KLam
import KE.KMinKey
import KE.KNest
import KE.KNestM
import KE.KRevIter
import PyProof.AttrMissHeap
import PyProof.Draws
import PyProof.EnumMake
import PyProof.FactsAll.tuple
import PyProof.ListMulRoad
import PyProof.ListRange
import PyProof.MinMaxWalk
import PyProof.Rows.MinMaxN
import PyProof.Rows.SetFrom
import PyProof.Rows.SumAny
import PyProof.SliceList
import PyProof.TupleOfSeq
import PyProof.WalkInts
import PyProof.WalksMore
import PyProof.ZipIter
import PySem.Challenge.RW_noticed_k05_whole_rows
open List (any_cons any_eq_false any_eq_true append_assoc append_nil countP_cons drop_eq_getElem_cons drop_of_length_le drop_take eq_nil_of_length_eq_zero exists_mem_of_ne_nil filterMap_cons filter_append filter_cons filter_sublist flatMap_append flatMap_cons flatten_cons foldl_cons getElem_inj getElem_map getElem_mem getElem_of_mem getElem_take length_append length_cons length_drop length_filter_le length_map length_nil length_pos_iff length_range length_replicate length_set length_take lookup_cons map_append map_congr_left map_cons map_id map_map map_nil mem_append mem_append_left mem_append_right mem_cons mem_cons_of_mem mem_cons_self mem_filter mem_filterMap mem_flatMap mem_iff_getElem mem_map mem_of_mem_drop mem_of_mem_take mem_range mem_singleton nodup_cons nodup_nil nodup_range not_mem_nil of_mem_zip pairwise_append pairwise_cons pairwise_flatMap pairwise_iff_getElem pairwise_lt_range pairwise_map pairwise_singleton perm_append_comm range range_succ replicate replicate_succ reverse_cons size_toArray sum_append take_add_one take_append_drop take_length take_of_length_le take_sublist zip_cons_cons)
set_option Elab.async false
set_option linter.all false
set_option maxRecDepth 100000
namespace L2
open PySem PySem.Spec PyProof.Rows
noncomputable abbrev aG:=Sum Int Str
noncomputable def kU:aG->Value->Bool
 | .inl k,v=>Value.isInt k v
 | .inr x,v=>Value.isStrOf x v
noncomputable def VL(w:World):aG->Int
 | .inl k=>hashInt k
 | .inr x=>hashStr w x
theorem iJ:∀{k:aG}{v:Value},kU k v=true->(∃i t,k=Sum.inl i/\v=Value.int i t)\/(∃x t,k=Sum.inr x/\v=Value.str x t)
 | .inl i,v,h=>by
  obtain⟨t,e⟩:=Value.isInt_shape (k:=i) (v:=v) h
  exact .inl ⟨i,t,rfl,e⟩
 | .inr x,v,h=>by
  obtain⟨t,e⟩:=Value.isStrOf_shape (x:=x) (v:=v) h
  exact .inr ⟨x,t,rfl,e⟩
theorem VJ(i:Int)(t:Tok):kU (.inl i) (.int i t)=true:=by simp[kU,Value.isInt]
theorem VI(x:Str)(t:Tok):kU (.inr x) (.str x t)=true:=by simp[kU,Value.isStrOf]
theorem VG(a b:Int):decide ((Sum.inl a:aG)=Sum.inl b)=(a==b):=by
 by_cases e:a=b
 ·subst e;simp
 ·have h:¬(Sum.inl a:aG)=Sum.inl b:=λq=>e (Sum.inl.inj q)
  rw[decide_eq_false h]
  exact(beq_eq_false_iff_ne.mpr e).symm
theorem VD(a b:Str):decide ((Sum.inr a:aG)=Sum.inr b)=decide (a=b):=by
 by_cases e:a=b
 ·subst e;simp
 ·have h:¬(Sum.inr a:aG)=Sum.inr b:=λq=>e (Sum.inr.inj q)
  rw[decide_eq_false h,decide_eq_false e]
theorem VF(a:Int)(b:Str):decide ((Sum.inl a:aG)=Sum.inr b)=false:=decide_eq_false (λq=>nomatch q)
theorem VE(a:Str)(b:Int):decide ((Sum.inr a:aG)=Sum.inl b)=false:=decide_eq_false (λq=>nomatch q)
noncomputable def dC(prog:Program)(w:World):PySem.KeyKind prog w aG where
 is:=kU
 hash:=VL w
 inj:=λv a b ha hb=>by
  rcases iJ ha with⟨i,t,rfl,rfl⟩|⟨x,t,rfl,rfl⟩
  ·rcases iJ hb with⟨j,u,rfl,e⟩|⟨y,u,rfl,e⟩
   ·injection e with e1 _;rw[e1]
   ·exact nomatch e
  ·rcases iJ hb with⟨j,u,rfl,e⟩|⟨y,u,rfl,e⟩
   ·exact nomatch e
   ·injection e with e1 _;rw[e1]
 byValue:=λk v h=>by
  rcases iJ h with⟨i,t,rfl,rfl⟩|⟨x,t,rfl,rfl⟩ <;> rfl
 pyHash:=λhv h=>by
  rcases iJ hv with⟨i,t,rfl,rfl⟩|⟨x,t,rfl,rfl⟩
  ·exact wpAny_pyHash_int h
  ·exact wpAny_pyHash_str h
 eqBool:=λhu hv h=>by
  rcases iJ hu with⟨i,t,rfl,rfl⟩|⟨x,t,rfl,rfl⟩
  ·rcases iJ hv with⟨j,u,rfl,rfl⟩|⟨y,u,rfl,rfl⟩
   ·rw[VG]at h;exact wpAny_eqBool_int h
   ·rw[VF]at h;exact SeqAt.EqAt.int_str i t y u _ _ _ _ h
  ·rcases iJ hv with⟨j,u,rfl,rfl⟩|⟨y,u,rfl,rfl⟩
   ·rw[VE]at h;exact SeqAt.EqAt.str_int x t j u _ _ _ _ h
   ·rw[VD]at h;exact wpAny_eqBool_str h
 «strs»:=λk x t v h=>by
  rcases iJ h with⟨i,u,rfl,e⟩|⟨y,u,rfl,e⟩
  ·exact nomatch e
  ·injection e with e1 _
   subst e1
   cases v <;> rfl
theorem S0(prog:Program)(w:World)(i:Int)(t:Tok):(dC prog w).is (.inl i) (.int i t)=true:=VJ i t
theorem SZ(prog:Program)(w:World)(x:Str)(t:Tok):(dC prog w).is (.inr x) (.str x t)=true:=VI x t
inductive V where
 |non|bl (b:Bool)|int (i:Int)|str (x:Str)|byt (b:Array UInt8)|flt (b:UInt64)|ref (a:Addr)|ty (n:String)
 deriving DecidableEq
noncomputable def RelV:V->Value->Prop
 | .non,u=>u=Value.none
 | .bl b,u=>u=Value.bool b
 | .int i,u=>∃t,u=Value.int i t
 | .str x,u=>∃t,u=Value.str x t
 | .byt b,u=>∃t,u=Value.bytes b t
 | .flt b,u=>∃t,u=Value.float b t
 | .ref a,u=>u=Value.ref a
 | .ty n,u=>u=Value.type n
noncomputable abbrev Vals:List V->List Value->Prop:=Paired RelV
theorem Vals.length{xs:List V}{us:List Value}(r:Vals xs us):xs.length=us.length:=Paired.length r
theorem Vals.get:∀{xs:List V}{us:List Value}{i:Nat}{x:V},Vals xs us->xs[i]? =some x->∃u,us[i]? =some u/\RelV x u
 |_,_,_,_,.nil,e=>by simp at e
 |_,_,0,_,.cons r _,e=>by simp at e;subst e;exact⟨_,rfl,r⟩
 |_,_,i+1,x,.cons _ t,e=>by
  obtain⟨u,h1,h2⟩:=Vals.get (i:=i) (x:=x) t (by simpa using e)
  exact⟨u,by simpa using h1,h2⟩
theorem Vals.set{x:V}{u:Value}(r:RelV x u):∀{xs:List V}{us:List Value}(i:Nat),Vals xs us->Vals (xs.set i x) (us.set i u)
 |_,_,_,.nil=>.nil
 |_,_,0,.cons _ t=>.cons r t
 |_,_,i+1,.cons q t=>.cons q (Vals.set r i t)
theorem Vals.append:∀{xs ys:List V}{us ws:List Value},Vals xs us->Vals ys ws->Vals (xs++ys) (us++ws)
 |_,_,_,_,.nil,s=>s
 |_,_,_,_,.cons r t,s=>.cons r (Vals.append t s)
theorem Vals.take:∀{xs:List V}{us:List Value}(n:Nat),Vals xs us->Vals (xs.take n) (us.take n)
 |_,_,0,_=>.nil
 |_,_,_+1,.nil=>.nil
 |_,_,n+1,.cons r t=>.cons r (Vals.take n t)
theorem Vals.drop:∀{xs:List V}{us:List Value}(n:Nat),Vals xs us->Vals (xs.drop n) (us.drop n)
 |_,_,0,r=>r
 |_,_,_+1,.nil=>.nil
 |_,_,n+1,.cons _ t=>Vals.drop n t
theorem Vals.none_of:∀{xs:List V}{us:List Value}{i:Nat},Vals xs us->xs[i]? =none->us[i]? =none:=λ{xs us i}r e=>by
 have h1:=r.length
 have h2:xs.length<=i:=List.getElem?_eq_none_iff.mp e
 exact List.getElem?_eq_none_iff.mpr (by lia)
noncomputable def RelO:Option V->Option Value->Prop
 |some v,some u=>RelV v u
 |none,none=>True
 |_,_=>False
noncomputable def KV{κ:Type}:List (κ×V)->List (κ×Value)->Prop:=Paired λ(p:κ×V)(q:κ×Value)=>p.1=q.1/\RelV p.2 q.2
noncomputable def kV:aG->V
 | .inl i=>.int i
 | .inr x=>.str x
inductive HO where
 |lst (xs:List V)
 |tup (xs:List V)
 |dK (kvs:List (aG×V))|dT (kvs:List (List aG×V))
 |set (S:Int->Bool) (n:Nat)
 |ins (C dx:Addr) (fs:List (Str×V))
 |own (x:Addr)
 |xd (fs:List (Str×V))
 |met (f x:Addr)
 |rng (lo hi:Int)
 |frz (o:Obj) (u:HO)
 |tbl (ps:Array Value)
 |ext (φ:Heap->Prop)
noncomputable abbrev Hp:=Addr->Option HO
noncomputable def upd(H:Hp)(a:Addr)(o:HO):Hp:=λb=>if b=a then some o else H b
theorem aC{H:Hp}{a:Addr}{o:HO}:upd H a o a=some o:=by unfold upd;rw[if_pos rfl]
theorem aE{H:Hp}{a b:Addr}{o:HO}(h:b≠a):upd H a o b=H b:=by unfold upd;rw[if_neg h]
theorem KP{H:Hp}{a:Addr}{o u:HO}:upd (upd H a o) a u=upd H a u:=by
 funext b;unfold upd;split <;> rfl
theorem gT{H:Hp}{a b:Addr}{o u:HO}(h:H a=some o)(h':H b=some u)(d:o≠u):a≠b:=by
 intro e;subst e;rw[h]at h';exact d (Option.some.inj h')
theorem aS{H:Hp}{a b:Addr}{o:HO}(h:H a=some o)(h':H b=none):a≠b:=by
 intro e;subst e;rw[h]at h';cases h'
noncomputable def IsTupN(h:Heap)(a:Addr)(items:Array Value):Prop:=IsTup h a items/\∃o,h.get? a=some o/\o.dict=none
theorem IsTupN.new(h:Heap)(items:Array Value):IsTupN (h.push { cls:=.type "tuple",data:=.seq items }) h.objs.size items:=⟨IsTup.new h items,_,Heap.get?_push_size _ rfl,rfl⟩
section
variable(P:Program)(w:World)
noncomputable def ObjOk(H:Hp)(h:Heap)(a:Addr):HO->Prop
 | .lst xs=>xs.length<=sizeLine/\∃(its:List Value)(n:Nat),Vals xs its/\h.get? a=some { cls:=.type "list",data:=.seq its.toArray n }
 | .tup xs=>xs.length<=sizeLine/\∃its:List Value,Vals xs its/\IsTupN h a its.toArray
 | .dK kvs=>kvs.length<=sizeLine/\(a==sysModules)=false/\∃vs,KV kvs vs/\h.DictOf (dC P w) a vs
 | .dT kvs=>kvs.length<=sizeLine/\(a==sysModules)=false/\∃xs:List (List aG×Addr×Value),
   Paired (λ(p:List aG×V)(q:List aG×Addr×Value)=>p.1=q.1/\H q.2.1=some (.tup (p.1.map kV))/\RelV p.2 q.2.2) kvs xs/\
   ∃o es ep,h.get? a=some o/\o.ExactDict/\o.data=.dict es ep/\es.toList=xs.map (entryOfKey (tupleKind (dC P w)))/\(xs.map (·.1)).Nodup
 | .set S n=>h.SetOf (intKind P w) a S n
 | .ins C dx fs=>H dx=some (.own a)/\fs.length<=1000/\dx≠a/\h.get? a=some (PySem.W.instObj C dx)/\
   ∃mA,h.Ns1 dx mA/\(∀f,RelO (fs.lookup f) (mA f))/\PySem.Within mA (fs.map (·.1))
 | .own _=>∃o,h.get? a=some o
 | .xd fs=>∃mA,h.Ns1 a mA/\∀f,RelO (fs.lookup f) (mA f)
 | .rng lo hi=>∃t u v,h.get? a=some { cls:=.type "range",data:=.fields #[.int lo t,.int hi u,.int 1 v] }
 | .frz o u=>h.get? a=some o/\ObjOk H h a u
 | .tbl ps=>h.get? a=some { cls:=.none,data:=.fields ps }
 | .met f x=>h.get? a=some (PySem.W.methodObj (.ref f) (.ref x))
 | .ext φ=>φ h/\(∃o,h.get? a=some o)/\∀h1 h2:Heap,φ h1->(∀o,h1.get? a=some o->h2.get? a=some o)->φ h2
noncomputable def HOk(H:Hp)(h:Heap):Prop:=∀a o,H a=some o->ObjOk P w H h a o
end
section
variable{P:Program}{w:World}{H H':Hp}{h h':Heap}{a:Addr}{o:HO}
theorem ObjOk.lt(x:ObjOk P w H h a o):a<h.objs.size:=by
 cases o with
 |lst xs=>obtain⟨_,_,_,_,e⟩:=x;exact Heap.lt_size e
 |tup xs=>obtain⟨_,_,_,p⟩:=x;exact p.1.lt
 |dK kvs=>obtain⟨_,_,_,_,o,_,_,e,_⟩:=x;exact Heap.lt_size e
 |dT kvs=>obtain⟨_,_,_,_,o,_,_,e,_⟩:=x;exact Heap.lt_size e
 |set S n=>obtain⟨o,_,_,_,e,_⟩:=x;exact Heap.lt_size e
 |ins C dx fs=>obtain⟨_,_,_,e,_⟩:=x;exact Heap.lt_size e
 |own y=>obtain⟨_,e⟩:=x;exact Heap.lt_size e
 |xd fs=>obtain⟨_,⟨_,_,_,e,_⟩,_⟩:=x;exact Heap.lt_size e
 |rng lo hi=>obtain⟨_,_,_,e⟩:=x;exact Heap.lt_size e
 |frz ob u=>obtain⟨e,_⟩:=x;exact Heap.lt_size e
 |tbl ps=>exact Heap.lt_size (show h.get? a=some _ from x)
 |met f y=>exact Heap.lt_size (show h.get? a=some _ from x)
 |ext φ=>obtain⟨_,⟨_,e⟩,_⟩:=x;exact Heap.lt_size e
theorem Paired.mapP{α β:Type}{F G:α->β->Prop}:∀{l₁:List α}{l₂:List β},Paired F l₁ l₂->(∀a b,F a b->G a b)->Paired G l₁ l₂
 |_,_,.nil,_=>.nil
 |_,_,.cons r t,f=>.cons (f _ _ r) (Paired.mapP t f)
theorem ObjOk.stay(x:ObjOk P w H h a o)(k:∀b u,(b=a\/H b=some (.own a))->h.get? b=some u->h'.get? b=some u)
  (ho:∀b,H b=some (.own a)->H' b=some (.own a)) (ht:∀b xs,H b=some (.tup xs)->H' b=some (.tup xs)):ObjOk P w H' h' a o:=by
 induction o with
 |lst xs=>obtain⟨z,its,n,r,e⟩:=x;exact⟨z,its,n,r,k _ _ (.inl rfl) e⟩
 |tup xs=>obtain⟨z,its,r,⟨ob,e,c⟩,ob2,e2,c2⟩:=x;exact⟨z,its,r,⟨ob,k _ _ (.inl rfl) e,c⟩,ob2,k _ _ (.inl rfl) e2,c2⟩
 |dK kvs=>obtain⟨z,y,vs,r,ob,es,ep,e,c⟩:=x;exact⟨z,y,vs,r,ob,es,ep,k _ _ (.inl rfl) e,c⟩
 |dT kvs=>
  obtain⟨z,y,xs,r,ob,es,ep,e,c⟩:=x
  exact⟨z,y,xs,Paired.mapP r λp q z=>⟨z.1,ht _ _ z.2.1,z.2.2⟩,ob,es,ep,k _ _ (.inl rfl) e,c⟩
 |set S n=>obtain⟨ob,es,ep,t,e,c⟩:=x;exact⟨ob,es,ep,t,k _ _ (.inl rfl) e,c⟩
 |ins C dx fs=>
  obtain⟨d,z,ne,e,mA,⟨od,es,ep,e2,c⟩,r⟩:=x
  exact⟨ho _ d,z,ne,k _ _ (.inl rfl) e,mA,⟨od,es,ep,k _ _ (.inr d) e2,c⟩,r⟩
 |own y=>obtain⟨ob,e⟩:=x;exact⟨ob,k _ _ (.inl rfl) e⟩
 |xd fs=>obtain⟨mA,⟨od,es,ep,e,c⟩,r⟩:=x;exact⟨mA,⟨od,es,ep,k _ _ (.inl rfl) e,c⟩,r⟩
 |rng lo hi=>obtain⟨t,u,v,e⟩:=x;exact⟨t,u,v,k _ _ (.inl rfl) e⟩
 |frz ob u ih=>obtain⟨e,q⟩:=x;exact⟨k _ _ (.inl rfl) e,ih q⟩
 |tbl ps=>
  have e:h.get? a=some { cls:=.none,data:=.fields ps }:=x
  show h'.get? a=some { cls:=.none,data:=.fields ps }
  exact k a _ (.inl rfl) e
 |met f y=>
  have e:h.get? a=some (PySem.W.methodObj (.ref f) (.ref y)):=x
  show h'.get? a=some (PySem.W.methodObj (.ref f) (.ref y))
  exact k a _ (.inl rfl) e
 |ext φ=>obtain⟨p,⟨o,e⟩,st⟩:=x;exact⟨st _ _ p λo q=>k _ _ (.inl rfl) q,⟨o,k _ _ (.inl rfl) e⟩,st⟩
theorem HOk.lt(x:HOk P w H h)(e:H a=some o):a<h.objs.size:=(x a o e).lt
theorem HOk.fresh(x:HOk P w H h)(e:h.objs.size<=a):H a=none:=by
 cases q:H a with
 |none=>rfl
 |some u=>exact absurd (Nat.lt_of_lt_of_le (x.lt q) e) (Nat.lt_irrefl _)
theorem HOk.kept(x:HOk P w H h)(k:∀b u,h.get? b=some u->h'.get? b=some u):HOk P w H h':=λa o e=>
 (x a o e).stay (λb u _ q=>k b u q) (λ_ q=>q) λ_ _ q=>q
theorem HOk.laid(x:HOk P w H h)(k:∀b u,h.get? b=some u->h'.get? b=some u)(hp:h.objs.size<=a)(new:ObjOk P w (upd H a o) h' a o):HOk P w (upd H a o) h':=λb u e=>by
 have hn:=x.fresh hp
 by_cases hb:b=a
 ·subst hb;rw[aC]at e;cases e;exact new
 ·rw[aE hb]at e
  exact(x b u e).stay (λc v _ q=>k c v q) (λc q=>by rw[aE (aS q hn)];exact q) λc xs q=>by rw[aE (aS q hn)];exact q
end
noncomputable def Rd(H:Hp)(a:Addr)(u:HO):Prop:=H a=some u\/∃o,H a=some (.frz o u)
theorem Rd.of{H:Hp}{a:Addr}{u:HO}(h:H a=some u):Rd H a u:=.inl h
theorem Rd.ok{P:Program}{w:World}{H:Hp}{h:Heap}{a:Addr}{u:HO}(r:Rd H a u)(x:HOk P w H h):ObjOk P w H h a u:=by
 rcases r with r|⟨o,r⟩
 ·exact x a u r
 ·obtain⟨_,q⟩:=x a _ r
  exact q
noncomputable def nR:Option HO->Prop
 |some (.lst _)=>True
 |some (.dK _)=>True
 |some (.dT _)=>True
 |some (.set _ _)=>True
 |some (.ins _ _ _)=>True
 |some (.ext _)=>True
 |_=>False
section
variable{P:Program}{w:World}{H:Hp}{h h':Heap}{x e:Addr}{o':HO}
theorem HOk.write(ok:HOk P w H h)(mu:nR (H x))(he:e=x\/H e=some (.own x))(k:∀b u,b≠e->h.get? b=some u->h'.get? b=some u)(heo:∃u,h'.get? e=some u)
  (new:ObjOk P w (upd H x o') h' x o'):HOk P w (upd H x o') h':=λb u q=>by
 have nown:∀c y,H c=some (.own y)->c≠x:=λc y r z=>by subst z;rw[r]at mu;exact mu
 have ntup:∀c xs,H c=some (.tup xs)->c≠x:=λc xs r z=>by subst z;rw[r]at mu;exact mu
 by_cases hb:b=x
 ·subst hb;rw[aC]at q;cases q;exact new
 ·rw[aE hb]at q
  by_cases hbe:b=e
  ·have q':H b=some (.own x):=by
    rcases he with z|z
    ·exact absurd (hbe.trans z) hb
    ·rw[hbe];exact z
   rw[q]at q';cases q'
   obtain⟨v,hv⟩:=heo
   exact⟨v,by rw[hbe];exact hv⟩
  ·refine(ok b u q).stay (λc v hc r=>k c v ?_ r) (λc r=>by rw[aE (nown c b r)];exact r) λc xs r=>by rw[aE (ntup c xs r)];exact r
   rcases hc with rfl|hc
   ·exact hbe
   ·rintro rfl
    rcases he with z|z
    ·exact nown c b hc z
    ·rw[hc]at z;cases z;exact hb rfl
end
structure Un (fs ex:List Addr) (H H':Hp) (h h':Heap):Prop where
 keep:∀b o,h.get? b=some o->H b=none->b∉fs->b∉ex->h'.get? b=some o
 slot:∀b o,h.get? b=some o->H b=none->b∈fs->b∉ex->∃sl,h'.get? b=some { o with slots:=sl }
 free:∀b o,h.get? b=some o->H b=none->b∉ex->H' b=none
 there:∀b o,h.get? b=some o->b∉ex->∃o',h'.get? b=some o'
 tups:∀b xs,H b=some (.tup xs)->H' b=some (.tup xs)
 frzs:∀b o u,H b=some (.frz o u)->H' b=some (.frz o u)
 tbls:∀b ps,H b=some (.tbl ps)->∃more,H' b=some (.tbl (ps++more))
section
variable{fs fs' ex ex':List Addr}{H H1 H2:Hp}{h h1 h2 h':Heap}{a x e:Addr}{o:HO}
theorem Un.any(u:Un fs ex H H1 h h1){b:Addr}{ob:Obj}(q:h.get? b=some ob)(n:H b=none)(hx:b∉ex):∃sl,h1.get? b=some { ob with slots:=sl }:=by
 by_cases hb:b∈fs
 ·exact u.slot b ob q n hb hx
 ·exact⟨ob.slots,u.keep b ob q n hb hx⟩
theorem Un.trans(a:Un fs ex H H1 h h1)(b:Un fs ex H1 H2 h1 h2):Un fs ex H H2 h h2 where
 keep:=λc ob q n hc hx=>b.keep c ob (a.keep c ob q n hc hx) (a.free c ob q n hx) hc hx
 slot:=λc ob q n hc hx=>by
  obtain⟨sl,e1⟩:=a.slot c ob q n hc hx
  obtain⟨sl',e2⟩:=b.slot c _ e1 (a.free c ob q n hx) hc hx
  exact⟨sl',e2⟩
 free:=λc ob q n hx=>by
  obtain⟨o',e1⟩:=a.there c ob q hx
  exact b.free c o' e1 (a.free c ob q n hx) hx
 there:=λc ob q hx=>by
  obtain⟨o',e1⟩:=a.there c ob q hx
  exact b.there c o' e1 hx
 tups:=λc xs q=>b.tups c xs (a.tups c xs q)
 frzs:=λc ob xs q=>b.frzs c ob xs (a.frzs c ob xs q)
 tbls:=λc ps q=>by
  obtain⟨m1,e1⟩:=a.tbls c ps q
  obtain⟨m2,e2⟩:=b.tbls c _ e1
  exact⟨m1++m2,by rw[e2,Array.append_assoc]⟩
theorem Un.kept(k:∀b u,h.get? b=some u->h'.get? b=some u):Un fs ex H H h h':=
 ⟨λb ob q _ _ _=>k b ob q,λb ob q _ _ _=>⟨ob.slots,k b ob q⟩,λ_ _ _ n _=>n,λb ob q _=>⟨ob,k b ob q⟩,λ_ _ q=>q,λ_ _ _ q=>q,λ_ ps q=>⟨#[],by rw[q];simp⟩⟩
theorem Un.refl:Un fs ex H H h h:=Un.kept λ_ _ q=>q
theorem Un.laid(k:∀b u,h.get? b=some u->h'.get? b=some u)(hp:h.objs.size<=a)(hn:H a=none):Un fs ex H (upd H a o) h h' where
 keep:=λb u q _ _ _=>k b u q
 slot:=λb u q _ _ _=>⟨u.slots,k b u q⟩
 free:=λb u q n _=>by rw[aE (Nat.ne_of_lt (Nat.lt_of_lt_of_le (Heap.lt_size q) hp))];exact n
 there:=λb u q _=>⟨u,k b u q⟩
 tups:=λb xs q=>by rw[aE (aS q hn)];exact q
 frzs:=λb u xs q=>by rw[aE (aS q hn)];exact q
 tbls:=λb ps q=>⟨#[],by rw[aE (aS q hn),q];simp⟩
theorem Un.write(mu:nR (H x))(he:e=x\/H e=some (.own x))(k:∀b u,b≠e->h.get? b=some u->h'.get? b=some u)(heo:∃u,h'.get? e=some u):Un fs ex H (upd H x o) h h':=by
 have hx:∀b,H b=none->b≠x:=λb n z=>by subst z;rw[n]at mu;exact mu
 have hb:∀b,H b=none->b≠e:=λb n z=>by
  subst z
  rcases he with r|r
  ·exact hx b n r
  ·rw[n]at r;cases r
 have hm:∀b u,H b=some u->¬nR (some u)->b≠x:=λb u q nm z=>by subst z;rw[q]at mu;exact nm mu
 refine⟨λb u q n _ _=>k b u (hb b n) q,λb u q n _ _=>⟨u.slots,k b u (hb b n) q⟩,λb u q n _=>by rw[aE (hx b n)];exact n,λb u q _=>?_,
  λb xs q=>by rw[aE (hm b _ q λz=>z)];exact q,λb u xs q=>by rw[aE (hm b _ q λz=>z)];exact q,λb ps q=>⟨#[],by rw[aE (hm b _ q λz=>z),q];simp⟩⟩
 by_cases hbe:b=e
 ·subst hbe;exact heo
 ·exact⟨u,k b u hbe q⟩
theorem Un.mono(u:Un fs ex H H1 h h1)(hs:∀b∈fs,b∈fs')(hx:∀b∈ex,b∈ex'):Un fs' ex' H H1 h h1:=
 ⟨λb ob q n hb he=>u.keep b ob q n (λz=>hb (hs b z)) λz=>he (hx b z),λ_ _ q n _ he=>u.any q n λz=>he (hx _ z),λb ob q n he=>u.free b ob q n λz=>he (hx b z),λb ob q he=>u.there b ob q λz=>he (hx b z),u.tups,u.frzs,u.tbls⟩
end
noncomputable def oB(h:Heap)(H:Hp):List Addr:=(range h.objs.size).filter λa=>(H a).isSome
noncomputable def iN(h:Heap)(H:Hp):Heap:=PySem.W.hideAll h (oB h H)
theorem WR(h:Heap)(H:Hp):(iN h H).objs.size=h.objs.size:=PySem.W.hideAll_size _ _
theorem WS{h:Heap}{H:Hp}{b:Addr}{o:Obj}(e:h.get? b=some o)(n:H b=none):(iN h H).get? b=some o:=
 PySem.W.hideAll_get _ e λhm=>by
  have q:(H b).isSome=true:=(mem_filter.mp hm).2
  rw[n]at q;simp at q
theorem SD{h:Heap}{H:Hp}{b:Addr}{o:Obj}(e:(iN h H).get? b=some o):h.get? b=some o/\H b=none:=by
 have e':h.get? b=some o:=PySem.W.of_hideAll (oB h H) e
 refine⟨e',?_⟩
 cases q:H b with
 |none=>rfl
 |some x=>
  have hm:b∈oB h H:=mem_filter.mpr ⟨mem_range.mpr (Heap.lt_size e'),by simp[q]⟩
  have z:(iN h H).get? b=none:=PySem.W.hideAll_none (oB h H) hm
  rw[z]at e;cases e
noncomputable def lI(g h:Heap)(L:Addr):List (Addr×Obj):=(range h.objs.size).filterMap λa=>if a=L\/(g.get? a).isSome=true then none else(h.get? a).map λo=>(a,o)
theorem kO{g h:Heap}{L a:Addr}{o:Obj}(h1:a≠L)(h2:g.get? a=none)(h3:h.get? a=some o):(a,o)∈lI g h L:=
 mem_filterMap.mpr ⟨a,mem_range.mpr (Heap.lt_size h3),by simp[h1,h2,h3]⟩
theorem SC{g h:Heap}{L:Addr}{p:Addr×Obj}(hp:p∈lI g h L):p.1≠L/\g.get? p.1=none/\h.get? p.1=some p.2:=by
 obtain⟨b,_,e⟩:=mem_filterMap.mp hp
 split at e
 ·cases e
 ·rename_i hn
  cases q:h.get? b with
  |none=>rw[q]at e;simp at e
  |some u=>
   rw[q]at e
   simp only[Option.map_some,Option.some.injEq]at e
   subst e
   refine⟨λz=>hn (.inl z),?_,q⟩
   show g.get? b=none
   cases r:g.get? b with
   |none=>rfl
   |some v=>exact(hn (.inr (by simp[r]))).elim
noncomputable def cA(g h:Heap)(L d:Addr):List (Addr×Obj):=(lI g h L).filter λp=>decide (p.1≠d)
theorem FK{g h:Heap}{L:Addr}:News g L h (lI g h L):=λp hp=>let⟨a,b,c⟩:=SC hp;⟨c,a,b⟩
structure Mod (K:PySem.W.Frag) (mg:Str->Option Value) (base:Heap):Prop where
 kin:K.In base
 glob:base.Ns mainGlobals mg
 blt:∃mb,base.Ns builtinsNs mb/\∀x:Str,x≠"__name__"->mb x=bootBuiltins x
 nolimit:base.NoLimit
structure Cx where
 prog:Program
 w:World
 K:PySem.W.Frag
 mg:Str->Option Value
 base:Heap
 A:Around
 N:List Str
 s₀:Shared
 H₀:Hp
 env:Env
 outer:List Env
 stack:List Env
 ex:List Addr
 fn:Str->Bool
 calm:Bool
 pn:List (Addr×Obj)
 xe:Value->Shared->Prop
noncomputable def aV(l:List Env):List Addr:=l.filterMap (·.frame)
noncomputable abbrev Cx.fs(X:Cx):List Addr:=aV X.outer
noncomputable def qN(sc:Scope)(x:Str):Prop:=sc.names.lookup x=some .local\/sc.names.lookup x=some .cell\/sc.names.lookup x=some .free
noncomputable def Loc(sc:Scope)(x:Str):Prop:=sc.names.lookup x=some .local\/sc.names.lookup x=some .cell
noncomputable def Look(env:Env)(h:Heap)(m:Str->Option Value)(x:Str)(u:Value):Prop:=
 (env.kindOf x=some .local/\m x=some u)\/((env.kindOf x=some .cell\/env.kindOf x=some .free)/\∃c,env.cells.lookup x=some c/\h.IsCell c (some u))
structure Cx.Ok (X:Cx):Prop where
 mod:Mod X.K X.mg X.base
 kind:X.env.scope.kind=.function
 glob:X.env.globals=mainGlobals
 blt:X.env.builtins=builtinsNs
 above:X.s₀.heap.objs.size<=X.env.locals
 inj:∀x y c,X.env.cells.lookup x=some c->X.env.cells.lookup y=some c->x=y
 has:∀x,(X.env.kindOf x=some .cell\/X.env.kindOf x=some .free)->∃c,X.env.cells.lookup x=some c
 cab:∀x c,X.fn x=true->X.env.cells.lookup x=some c->X.s₀.heap.objs.size<=c
 hd:X.calm=true->X.A.handled=none
 frames:X.A.frames=some X.stack
 stk:X.stack=X.outer\/(X.stack=X.env::X.outer/\X.env.frame=some X.env.locals)
 exf:∀b∈X.ex,b≠X.env.locals/\∀x c,X.env.cells.lookup x=some c->c≠b
 bs:∀b o,X.base.get? b=some o->X.s₀.heap.get? b=some o/\X.H₀ b=none
 bsz:X.base.objs.size<=X.s₀.heap.objs.size
 noex:∀b o,X.base.get? b=some o->b∉X.ex
 exfs:∀b∈X.ex,b∉X.fs
 funs:X.s₀.heap.FunFrames X.base X.outer
 frf:∀b∈X.fs,X.H₀ b=none
structure Inv (X:Cx) (pins:List (Addr×Obj)) (σ:List (Option V)) (H:Hp) (s:Shared):Prop where
 ok:X.Ok
 os:s.os=X.s₀.os
 bare:AllBare s.gens
 base:Un X.fs X.ex X.H₀ H X.s₀.heap s.heap
 loc:∃m,s.heap.Ns X.env.locals m/\∀(i:Nat)(x:Str)(v:V),X.N[i]? =some x->σ[i]? =some (some v)->qN X.env.scope x->∃u,RelV v u/\Look X.env s.heap m x u
 cell:∀x c,X.env.cells.lookup x=some c->∃v,s.heap.IsCell c v
 free:H X.env.locals=none
 freeC:∀x c,X.env.cells.lookup x=some c->H c=none
 pin:∀p∈X.pn++pins,s.heap.get? p.1=some p.2/\H p.1=none/\p.1≠X.env.locals/\p.1∉X.fs/\∀v,p.2.data≠.cell v
 hok:HOk X.prog X.w H s.heap
 len:σ.length=X.N.length
section
variable{X:Cx}{pins:List (Addr×Obj)}{σ:List (Option V)}{H H':Hp}{s:Shared}{h':Heap}
theorem Cx.Ok.nofr(ok:X.Ok){b:Addr}{o:Obj}(e:X.base.get? b=some o):b∉X.fs:=λhb=>by
 have:=(ok.funs.mem hb).1
 rw[e]at this;cases this
theorem Inv.bs(I:Inv X pins σ H s):∀b o,X.base.get? b=some o->s.heap.get? b=some o/\H b=none:=λb o e=>
 ⟨I.base.keep b o (I.ok.bs b o e).1 (I.ok.bs b o e).2 (I.ok.nofr e) (I.ok.noex b o e),I.base.free b o (I.ok.bs b o e).1 (I.ok.bs b o e).2 (I.ok.noex b o e)⟩
theorem Inv.bk(I:Inv X pins σ H s):∀b o,X.base.get? b=some o->s.heap.get? b=some o:=λb o e=>(I.bs b o e).1
theorem Inv.mod(I:Inv X pins σ H s):Mod X.K X.mg X.base:=I.ok.mod
theorem Inv.kIn(I:Inv X pins σ H s):X.K.In s.heap:=I.ok.mod.kin.keeps I.bk
theorem Inv.nolimit(I:Inv X pins σ H s):s.heap.NoLimit:=I.ok.mod.nolimit.keeps I.bk
theorem Inv.fr(I:Inv X pins σ H s):∃m,Fr X.base X.env.locals s.heap m:=
 let⟨m,hn,_⟩:=I.loc
 ⟨m,hn,I.bk,Nat.le_trans I.ok.bsz I.ok.above⟩
theorem Inv.lt(I:Inv X pins σ H s):X.env.locals<s.heap.objs.size:=let⟨_,hn,_⟩:=I.loc;hn.lt
theorem Inv.sz(I:Inv X pins σ H s):X.s₀.heap.objs.size<=s.heap.objs.size:=Nat.le_trans I.ok.above (Nat.le_of_lt I.lt)
theorem Inv.nofs(I:Inv X pins σ H s){a:Addr}(h:s.heap.objs.size<=a):a∉X.fs:=λhb=>by
 obtain⟨_,o,ho,_⟩:=I.ok.funs.mem hb
 exact absurd (Nat.lt_of_lt_of_le (Heap.lt_size ho) (Nat.le_trans I.sz h)) (Nat.lt_irrefl _)
theorem Inv.cne(I:Inv X pins σ H s):∀x c,X.env.cells.lookup x=some c->c≠X.env.locals:=λx c e z=>by
 obtain⟨v,o,ho,hd⟩:=I.cell x c e
 obtain⟨m,⟨o',es,ep,ho',hd',_⟩,_⟩:=I.loc
 rw[z,ho']at ho;cases ho;rw[hd']at hd;cases hd
theorem Inv.funs(I:Inv X pins σ H s):s.heap.FunFrames X.base X.outer:=by
 have all:∀(l:List Env),(∀b∈aV l,b∈X.fs)->X.s₀.heap.FunFrames X.base l->s.heap.FunFrames X.base l:=by
  intro l
  induction l with
  |nil=>intro _ _;trivial
  |cons env r ih=>
   intro hs hl
   obtain⟨hk,⟨L,o,hf,hn,ho,hd⟩,hr⟩:=hl
   have hL:L∈X.fs:=hs L (by unfold aV;rw[filterMap_cons,hf];exact mem_cons_self)
   obtain⟨sl,e⟩:=I.base.slot L o ho (I.ok.frf L hL) hL λz=>I.ok.exfs L z hL
   exact⟨hk,⟨L,_,hf,hn,e,hd⟩,ih (λb hb=>hs b (by unfold aV;rw[filterMap_cons,hf];exact mem_cons_of_mem _ hb)) hr⟩
 exact all X.outer (λ_ hb=>hb) I.ok.funs
theorem Inv.stack(I:Inv X pins σ H s):s.heap.FunFrames X.base X.stack:=by
 rcases I.ok.stk with e|⟨e,hf⟩
 ·rw[e];exact I.funs
 ·rw[e]
  obtain⟨m,hn,_⟩:=I.loc
  refine .cons (by rw[I.ok.kind];decide) hf hn ?_ I.funs
  exact Heap.get?_none_of_le (Nat.le_trans I.ok.bsz I.ok.above)
theorem Inv.stkSub(I:Inv X pins σ H s):∀b∈aV X.stack,b∈X.env.locals::X.fs:=λb hb=>by
 rcases I.ok.stk with e|⟨e,hf⟩
 ·rw[e]at hb;exact mem_cons_of_mem _ hb
 ·rw[e]at hb
  unfold aV at hb
  rw[filterMap_cons,hf]at hb
  exact hb
theorem Inv.stkFree(I:Inv X pins σ H s):∀b∈aV X.stack,H b=none:=λb hb=>by
 rcases mem_cons.mp (I.stkSub b hb) with e|hb
 ·rw[e];exact I.free
 ·obtain⟨_,o,ho,_⟩:=I.ok.funs.mem hb
  exact I.base.free b o ho (I.ok.frf b hb) λz=>I.ok.exfs b z hb
theorem Inv.step{g':Array GenState}{t':Nat}{d':Drawn}{ch:List Addr}(I:Inv X pins σ H s)
  (hch:∀b∈ch,(b∈X.ex\/X.s₀.heap.objs.size<=b)/\b≠X.env.locals/\(∀x c,X.env.cells.lookup x=some c->c≠b)/\∀p∈X.pn++pins,p.1≠b)
  (keep:∀b o,b≠X.env.locals->b∉X.fs->b∉ch->s.heap.get? b=some o->H b=none->h'.get? b=some o)
  (slot:∀b o,b≠X.env.locals->b∈X.fs->b∉ch->s.heap.get? b=some o->H b=none->∃sl,h'.get? b=some { o with slots:=sl }) (free:∀b o,b∉ch->s.heap.get? b=some o->H b=none->H' b=none)
  (there:∀b o,b∉ch->s.heap.get? b=some o->∃o',h'.get? b=some o')
  (tups:∀b xs,H b=some (.tup xs)->H' b=some (.tup xs)) (frzs:∀b o u,H b=some (.frz o u)->H' b=some (.frz o u)) (tbls:∀b ps,H b=some (.tbl ps)->∃more,H' b=some (.tbl (ps++more)))
  (ns:∀m,s.heap.Ns X.env.locals m->h'.Ns X.env.locals m) (hok:HOk X.prog X.w H' h') (hg:AllBare g'):
  Inv X pins σ H' { s with heap:=h',gens:=g',drawn:=d',toks:=t' }:=by
 have neL:∀b o,X.s₀.heap.get? b=some o->b≠X.env.locals:=λb o e=>Nat.ne_of_lt (Nat.lt_of_lt_of_le (Heap.lt_size e) I.ok.above)
 have neC:∀b o,X.s₀.heap.get? b=some o->b∉X.ex->b∉ch:=λb o e hx hb=>by
  rcases(hch b hb).1 with z|z
  ·exact hx z
  ·exact absurd (Nat.lt_of_lt_of_le (Heap.lt_size e) z) (Nat.lt_irrefl _)
 have cellK:∀x c,X.env.cells.lookup x=some c->∀v,s.heap.IsCell c v->h'.IsCell c v:=λx c e v⟨o,ho,hd⟩=>by
  have nch:c∉ch:=λz=>(hch c z).2.2.1 x c e rfl
  by_cases hc:c∈X.fs
  ·obtain⟨sl,q⟩:=slot c o (I.cne x c e) hc nch ho (I.freeC x c e)
   exact⟨_,q,hd⟩
  ·exact⟨o,keep c o (I.cne x c e) hc nch ho (I.freeC x c e),hd⟩
 refine⟨I.ok,I.os,hg,⟨λb o e n hb hx=>?_,λb o e n hb hx=>?_,λb o e n hx=>?_,λb o e hx=>?_,λb xs e=>tups b xs (I.base.tups b xs e),λb o xs e=>frzs b o xs (I.base.frzs b o xs e),λb ps e=>?_⟩,?_,λx c e=>?_,?_,λx c e=>?_,λp hp=>?_,hok,I.len⟩
 ·exact keep b o (neL b o e) hb (neC b o e hx) (I.base.keep b o e n hb hx) (I.base.free b o e n hx)
 ·obtain⟨sl,e1⟩:=I.base.slot b o e n hb hx
  obtain⟨sl',e2⟩:=slot b _ (neL b o e) hb (neC b o e hx) e1 (I.base.free b o e n hx)
  exact⟨sl',e2⟩
 ·obtain⟨o',e1⟩:=I.base.there b o e hx
  exact free b o' (neC b o e hx) e1 (I.base.free b o e n hx)
 ·obtain⟨o',e1⟩:=I.base.there b o e hx
  exact there b o' (neC b o e hx) e1
 ·obtain⟨m1,e1⟩:=I.base.tbls b ps e
  obtain⟨m2,e2⟩:=tbls b _ e1
  exact⟨m1++m2,by rw[e2,Array.append_assoc]⟩
 ·obtain⟨m,hn,hl⟩:=I.loc
  refine⟨m,ns m hn,λi x v e1 e2 e3=>?_⟩
  obtain⟨u,r,l⟩:=hl i x v e1 e2 e3
  refine⟨u,r,?_⟩
  rcases l with l|⟨k,c,e,z⟩
  ·exact .inl l
  ·exact .inr ⟨k,c,e,cellK x c e _ z⟩
 ·obtain⟨v,z⟩:=I.cell x c e
  exact⟨v,cellK x c e v z⟩
 ·obtain⟨m,⟨o,_,_,ho,_⟩,_⟩:=I.loc
  exact free _ o (λz=>(hch _ z).2.1 rfl) ho I.free
 ·obtain⟨v,o,ho,hd⟩:=I.cell x c e
  exact free c o (λz=>(hch c z).2.2.1 x c e rfl) ho (I.freeC x c e)
 ·obtain⟨e,n,ne,nf,d⟩:=I.pin p hp
  have nch:p.1∉ch:=λz=>(hch p.1 z).2.2.2 p hp rfl
  exact⟨keep p.1 p.2 ne nf nch e n,free p.1 p.2 nch e n,ne,nf,d⟩
theorem Inv.un{t':Nat}(I:Inv X pins σ H s)(u:Un X.fs [] H H' s.heap h')(hok:HOk X.prog X.w H' h'):Inv X pins σ H' { s with heap:=h',toks:=t' }:=by
 obtain⟨m,⟨o,es,ep,ho,r⟩,_⟩:=id I.loc
 obtain⟨sl,hL⟩:=u.any ho I.free (by simp)
 exact I.step (g':=s.gens) (d':=s.drawn) (ch:=[]) (λ_ z=>nomatch z) (λb o _ hb _ e n=>u.keep b o e n hb (by simp)) (λb o _ hb _ e n=>u.slot b o e n hb (by simp)) (λb o _ e n=>u.free b o e n (by simp)) (λb o _ e=>u.there b o e (by simp)) u.tups u.frzs u.tbls (λm' hm=>by
  obtain⟨o',es',ep',ho',r'⟩:=hm
  rw[ho]at ho';cases ho'
  exact⟨_,es',ep',hL,r'⟩) hok I.bare
theorem Inv.call{g':Array GenState}{t':Nat}{d':Drawn}{ch:List Addr}(I:Inv X pins σ H s)(u:Un (aV X.stack) ch H H' s.heap h')(hok:HOk X.prog X.w H' h')(hg:AllBare g')
  (hch:∀b∈ch,(b∈X.ex\/X.s₀.heap.objs.size<=b)/\b≠X.env.locals/\(∀x c,X.env.cells.lookup x=some c->c≠b)/\∀p∈X.pn++pins,p.1≠b):
  Inv X pins σ H' { s with heap:=h',gens:=g',drawn:=d',toks:=t' }:=by
 obtain⟨m,⟨o,es,ep,ho,r⟩,_⟩:=id I.loc
 obtain⟨sl,hL⟩:=u.any ho I.free λz=>(hch _ z).2.1 rfl
 exact I.step (ch:=ch) hch (λb o hL hb hc e n=>u.keep b o e n (λz=>(mem_cons.mp (I.stkSub b z)).elim hL hb) hc) (λb o _ _ hc e n=>u.any e n hc) (λb o hc e n=>u.free b o e n hc) (λb o hc e=>u.there b o e hc) u.tups u.frzs u.tbls (λm' hm=>by
  obtain⟨o',es',ep',ho',r'⟩:=hm
  rw[ho]at ho';cases ho'
  exact⟨_,es',ep',hL,r'⟩) hok hg
theorem Inv.turned{t':Nat}{it:Addr}(I:Inv X pins σ H s)(k:∀b o,b≠it->s.heap.get? b=some o->h'.get? b=some o)(hn:H it=none)(hL:it≠X.env.locals)
  (h1:it∈X.ex\/X.s₀.heap.objs.size<=it) (h2:∀x c,X.env.cells.lookup x=some c->c≠it) (h3:∀p∈X.pn++pins,p.1≠it):Inv X pins σ H { s with heap:=h',toks:=t' }:=by
 have nit:∀b u,H b=some u->b≠it:=λb u e z=>by rw[z,hn]at e;cases e
 refine I.step (g':=s.gens) (d':=s.drawn) (ch:=[it]) (λb hb=>?_) (λb o _ _ hc e _=>k b o (λz=>hc (by simp[z])) e) (λb o _ _ hc e _=>⟨o.slots,k b o (λz=>hc (by simp[z])) e⟩) (λ_ _ _ _ n=>n)
  (λb o hc e=>⟨o,k b o (λz=>hc (by simp[z])) e⟩) (λ_ _ e=>e) (λ_ _ _ e=>e) (λb ps e=>⟨#[],by rw[e];simp⟩) (λm hm=>?_) (λb u e=>?_) I.bare
 ·have e:b=it:=by simpa using hb
  subst e
  exact⟨h1,hL,h2,h3⟩
 ·obtain⟨o,es,ep,ho,r⟩:=hm
  exact⟨o,es,ep,k _ o (Ne.symm hL) ho,r⟩
 ·refine(I.hok b u e).stay (λc v hc q=>k c v ?_ q) (λ_ q=>q) λ_ _ q=>q
  rcases hc with z|z
  ·rw[z];exact nit b u e
  ·exact nit c _ z
theorem Inv.tok(I:Inv X pins σ H s)(t:Nat):Inv X pins σ H { s with toks:=t }:=I.un (h':=s.heap) (t':=t) Un.refl I.hok
theorem Inv.kept{t':Nat}(I:Inv X pins σ H s)(k:∀b u,s.heap.get? b=some u->h'.get? b=some u):Inv X pins σ H { s with heap:=h',toks:=t' }:=I.un (Un.kept k) (I.hok.kept k)
theorem Inv.laid{a:Addr}{o:HO}{t':Nat}(I:Inv X pins σ H s)(k:∀b u,s.heap.get? b=some u->h'.get? b=some u)(hp:s.heap.objs.size<=a)(new:ObjOk X.prog X.w (upd H a o) h' a o):
  Inv X pins σ (upd H a o) { s with heap:=h',toks:=t' }:=I.un (Un.laid k hp (I.hok.fresh hp)) (I.hok.laid k hp new)
theorem Inv.write{x e:Addr}{o:HO}{t':Nat}(I:Inv X pins σ H s)(mu:nR (H x))(he:e=x\/H e=some (.own x))(k:∀b u,b≠e->s.heap.get? b=some u->h'.get? b=some u)(heo:∃u,h'.get? e=some u)
  (new:ObjOk X.prog X.w (upd H x o) h' x o):Inv X pins σ (upd H x o) { s with heap:=h',toks:=t' }:=I.un (Un.write mu he k heo) (I.hok.write mu he k heo new)
theorem Inv.weak{σ':List (Option V)}(I:Inv X pins σ H s)(hl:σ'.length=σ.length)(w:∀(i:Nat)v,σ'[i]? =some (some v)->σ[i]? =some (some v)):Inv X pins σ' H s:=
 ⟨I.ok,I.os,I.bare,I.base,let⟨m,hn,hl'⟩:=I.loc;⟨m,hn,λi x v e1 e2 e3=>hl' i x v e1 (w i v e2) e3⟩,I.cell,I.free,I.freeC,I.pin,I.hok,hl.trans I.len⟩
theorem Inv.pins_of{pins':List (Addr×Obj)}(I:Inv X pins σ H s)(h:∀p∈pins',s.heap.get? p.1=some p.2/\H p.1=none/\p.1≠X.env.locals/\p.1∉X.fs/\∀v,p.2.data≠.cell v):Inv X pins' σ H s:=
 ⟨I.ok,I.os,I.bare,I.base,I.loc,I.cell,I.free,I.freeC,λp hp=>(mem_append.mp hp).elim (λz=>I.pin p (mem_append_left _ z)) (h p),I.hok,I.len⟩
theorem vF{N:List Str}(hN:N.Nodup){i j:Nat}{x:Str}(a:N[i]? =some x)(b:N[j]? =some x):i=j:=by
 obtain⟨h1,e1⟩:=List.getElem?_eq_some_iff.mp a
 obtain⟨h2,e2⟩:=List.getElem?_eq_some_iff.mp b
 exact(getElem_inj hN).mp (e1.trans e2.symm)
theorem BT{M:Model}{A:Around}{E:Value->Shared->Prop}{i:Nat}{x:Str}{v:V}{u:Value}{Q:Unit->Shared->Prop}(I:Inv X pins σ H s)(hN:X.N.Nodup)(hi:X.N[i]? =some x)(hx:Loc X.env.scope x)(r:RelV v u)
  (h:∀s',Inv X pins (σ.set i (some v)) H s'->(∃a,Heap.SameBut a s.heap s'.heap/\(a=X.env.locals\/X.env.cells.lookup x=some a))->Q () s') (hf:X.fn x=true\/X.env.scope.names.lookup x=some .local:=by first|exact .inl rfl|exact .inr rfl|assumption):wpAny M A (storeName X.env x u) Q E s:=by
 obtain⟨m,hn,hl⟩:=id I.loc
 have hcls:(X.env.scope.kind==.class||(X.env.scope.kind==.module&&X.env.locals != X.env.globals))=false:=by rw[I.ok.kind];rfl
 have hiσ:i<σ.length:=by rw[I.len];exact(List.getElem?_eq_some_iff.mp hi).1
 have cne:=I.cne
 have tracked:∀{a:Addr}{h':Heap},(∃o,s.heap.get? a=some o/\H a=none)->Heap.SameBut a s.heap h'->HOk X.prog X.w H h':=λ{a h'}ha hs b ob e=>by
  obtain⟨_,_,hfree⟩:=ha
  refine(I.hok b ob e).stay (λc w' hc q=>(hs.2 c ?_).trans q) (λ_ q=>q) λ_ _ q=>q
  rintro rfl
  rcases hc with rfl|hc
  ·rw[hfree]at e;cases e
  ·rw[hfree]at hc;cases hc
 rcases hx with hk|hk
 ·refine wpAny_storeName_local hk hn (λh' hn' hs=>?_) hcls
  obtain⟨oL,_,_,hoL,_⟩:=id hn
  refine h _ ⟨I.ok,I.os,I.bare,⟨λb o e n hb hx=>?_,λb o e n hb hx=>?_,I.base.free,λb o e hx=>?_,I.base.tups,I.base.frzs,I.base.tbls⟩,⟨_,hn',λj y v' e1 e2 e3=>?_⟩,λy c e=>?_,I.free,I.freeC,λp hp=>?_,tracked ⟨oL,hoL,I.free⟩ hs,by simpa using I.len⟩ ⟨_,hs,.inl rfl⟩
  ·exact(hs.2 b (Nat.ne_of_lt (Nat.lt_of_lt_of_le (Heap.lt_size e) I.ok.above))).trans (I.base.keep b o e n hb hx)
  ·obtain⟨sl,e1⟩:=I.base.slot b o e n hb hx
   exact⟨sl,(hs.2 b (Nat.ne_of_lt (Nat.lt_of_lt_of_le (Heap.lt_size e) I.ok.above))).trans e1⟩
  ·obtain⟨o',e1⟩:=I.base.there b o e hx
   exact⟨o',(hs.2 b (Nat.ne_of_lt (Nat.lt_of_lt_of_le (Heap.lt_size e) I.ok.above))).trans e1⟩
  ·by_cases hj:j=i
   ·subst hj
    rw[hi]at e1;cases e1
    rw[List.getElem?_set_self hiσ]at e2
    cases e2
    exact⟨u,r,.inl ⟨hk,by simp⟩⟩
   ·rw[List.getElem?_set_ne (Ne.symm hj)]at e2
    obtain⟨u',r',q⟩:=hl j y v' e1 e2 e3
    refine⟨u',r',?_⟩
    rcases q with⟨k,e⟩|⟨k,c,e,z⟩
    ·refine .inl ⟨k,?_⟩
     have:y≠x:=λe=>hj (vF hN e1 (e▸hi))
     simp[this,e]
    ·exact .inr ⟨k,c,e,z.sameBut hs (cne y c e)⟩
  ·obtain⟨w',z⟩:=I.cell y c e
   exact⟨w',z.sameBut hs (cne y c e)⟩
  ·obtain⟨e,n,ne,nf,d⟩:=I.pin p hp
   exact⟨(hs.2 p.1 ne).trans e,n,ne,nf,d⟩
 ·have hfn:X.fn x=true:=by
   rcases hf with z|z
   ·exact z
   ·rw[z]at hk;cases hk
  obtain⟨c,hc⟩:=I.ok.has x (.inl hk)
  obtain⟨w',z⟩:=I.cell x c hc
  refine wpAny_storeName_cell I.ok.kind hk hc z (λh' hc' hs=>?_)
  obtain⟨oc,hoc,hocd⟩:=id z
  refine h { s with heap:=h' } ⟨I.ok,I.os,I.bare,⟨λb o e n hb hx=>?_,λb o e n hb hx=>?_,I.base.free,λb o e hx=>?_,I.base.tups,I.base.frzs,I.base.tbls⟩,⟨m,hn.sameBut hs (Ne.symm (cne x c hc)),λj y v' e1 e2 e3=>?_⟩,λy c' e=>?_,I.free,I.freeC,λp hp=>?_,tracked ⟨oc,hoc,I.freeC x c hc⟩ hs,by simpa using I.len⟩ ⟨c,hs,.inr hc⟩
  ·exact(hs.2 b (Nat.ne_of_lt (Nat.lt_of_lt_of_le (Heap.lt_size e) (I.ok.cab x c hfn hc)))).trans (I.base.keep b o e n hb hx)
  ·obtain⟨sl,e1⟩:=I.base.slot b o e n hb hx
   exact⟨sl,(hs.2 b (Nat.ne_of_lt (Nat.lt_of_lt_of_le (Heap.lt_size e) (I.ok.cab x c hfn hc)))).trans e1⟩
  ·obtain⟨o',e1⟩:=I.base.there b o e hx
   exact⟨o',(hs.2 b (Nat.ne_of_lt (Nat.lt_of_lt_of_le (Heap.lt_size e) (I.ok.cab x c hfn hc)))).trans e1⟩
  ·by_cases hj:j=i
   ·subst hj
    rw[hi]at e1;cases e1
    rw[List.getElem?_set_self hiσ]at e2
    cases e2
    exact⟨u,r,.inr ⟨.inl hk,c,hc,hc'⟩⟩
   ·rw[List.getElem?_set_ne (Ne.symm hj)]at e2
    obtain⟨u',r',q⟩:=hl j y v' e1 e2 e3
    refine⟨u',r',?_⟩
    rcases q with q|⟨k,c',e,z'⟩
    ·exact .inl q
    ·refine .inr ⟨k,c',e,z'.sameBut hs ?_⟩
     rintro rfl
     exact hj (vF hN e1 (I.ok.inj _ _ _ e hc▸hi))
  ·by_cases hcc:c'=c
   ·subst hcc;exact⟨_,hc'⟩
   ·obtain⟨w2,z2⟩:=I.cell y c' e
    exact⟨w2,z2.sameBut hs hcc⟩
  ·obtain⟨e,n,ne,nf,d⟩:=I.pin p hp
   refine⟨(hs.2 p.1 ?_).trans e,n,ne,nf,d⟩
   intro q
   rw[q,hoc]at e
   have q':oc=p.2:=Option.some.inj e
   exact d w' (by rw[<-q'];exact hocd)
theorem rV{M:Model}{A:Around}{E:Value->Shared->Prop}{i:Nat}{x:Str}{v:V}{u:Value}{Q:Unit->Shared->Prop}(I:Inv X pins σ H s)(hN:X.N.Nodup)(hi:X.N[i]? =some x)(hx:Loc X.env.scope x)(r:RelV v u)
  (h:∀s',Inv X pins (σ.set i (some v)) H s'->Q () s') (hf:X.fn x=true\/X.env.scope.names.lookup x=some .local:=by first|exact .inl rfl|exact .inr rfl|assumption):wpAny M A (storeName X.env x u) Q E s:=
 BT I hN hi hx r (λs' I' _=>h s' I') hf
theorem Inv.call'{s':Shared}{ch:List Addr}(I:Inv X pins σ H s)(ho:s'.os=s.os)(u:Un (aV X.stack) ch H H' s.heap s'.heap)(hok:HOk X.prog X.w H' s'.heap)(hg:AllBare s'.gens)
  (hch:∀b∈ch,(b∈X.ex\/X.s₀.heap.objs.size<=b)/\b≠X.env.locals/\(∀x c,X.env.cells.lookup x=some c->c≠b)/\∀p∈X.pn++pins,p.1≠b):Inv X pins σ H' s':=by
 obtain⟨h',g',d',t',o'⟩:=s'
 have e:o'=s.os:=ho
 subst e
 exact I.call (g':=g') (t':=t') (d':=d') u hok hg hch
end
noncomputable abbrev XK:=Value->Option Addr->Hp->Prop
noncomputable abbrev St:=List (Option V)
noncomputable abbrev VK:=V->Hp->Prop
noncomputable abbrev TE:=St->Hp->VK->Prop
noncomputable abbrev TT:=St->Hp->(Bool->Hp->Prop)->Prop
noncomputable abbrev TA:=St->Hp->(List V->Hp->Prop)->Prop
structure dN where
 nx:St->Hp->Prop
 rt:VK
 bk:St->Hp->Prop:=λ_ _=>False
 ct:St->Hp->Prop:=λ_ _=>False
noncomputable abbrev TS:=dN->St->Hp->Prop
noncomputable def EP(X:Cx)(pins:List (Addr×Obj))(σ:St)(Q:VK)(u:Value)(s':Shared):Prop:=∃v H',Inv X pins σ H' s'/\RelV v u/\Q v H'
noncomputable def TP(X:Cx)(pins:List (Addr×Obj))(σ:St)(Q:Bool->Hp->Prop)(b:Bool)(s':Shared):Prop:=∃H',Inv X pins σ H' s'/\Q b H'
noncomputable def AP(X:Cx)(pins:List (Addr×Obj))(σ:St)(Q:List V->Hp->Prop)(us:List Value)(s':Shared):Prop:=∃vs H',Inv X pins σ H' s'/\Vals vs us/\Q vs H'
noncomputable def SP(X:Cx)(pins:List (Addr×Obj))(D:dN)(f:Flow)(s':Shared):Prop:=
 match f with
 | .next=>∃σ' H',Inv X pins σ' H' s'/\D.nx σ' H'
 | .brk=>∃σ' H',Inv X pins σ' H' s'/\D.bk σ' H'
 | .cont=>∃σ' H',Inv X pins σ' H' s'/\D.ct σ' H'
 | .ret u=>∃v σ' H',Inv X pins σ' H' s'/\RelV v u/\D.rt v H'
noncomputable def PE(X:Cx)(e:Expr)(t:TE):Prop:=
 ∀(pins:List (Addr×Obj))(s:Shared)(σ:St)(H:Hp)(Q:VK),Inv X pins σ H s->t σ H Q->wpAny (model X.prog X.w) X.A (eval e X.env) (EP X pins σ Q) X.xe s
noncomputable def PT(X:Cx)(e:Expr)(t:TT):Prop:=
 ∀(pins:List (Addr×Obj))(s:Shared)(σ:St)(H:Hp)(Q:Bool->Hp->Prop),Inv X pins σ H s->t σ H Q->wpAny (model X.prog X.w) X.A (isTrue e X.env (eval e X.env)) (TP X pins σ Q) X.xe s
noncomputable def PW(X:Cx)(e:Expr)(t:TT):Prop:=
 ∀(whole:Sem Value)(pins:List (Addr×Obj))(s:Shared)(σ:St)(H:Hp)(Q:Bool->Hp->Prop),Inv X pins σ H s->t σ H Q->wpAny (model X.prog X.w) X.A (isTrue e X.env whole) (TP X pins σ Q) X.xe s
theorem PW.pt{X:Cx}{e:Expr}{t:TT}(h:PW X e t):PT X e t:=h _
noncomputable def PA(X:Cx)(es:List Expr)(t:TA):Prop:=
 ∀(pos:Pos)(pins:List (Addr×Obj))(s:Shared)(σ:St)(H:Hp)(Q:List V->Hp->Prop),Inv X pins σ H s->t σ H Q->wpAny (model X.prog X.w) X.A (spliced (backTo pos (starEach es X.env))) (AP X pins σ Q) X.xe s
noncomputable def PS(X:Cx)(st:Stmt)(t:TS):Prop:=
 ∀(pins:List (Addr×Obj))(s:Shared)(σ:St)(H:Hp)(D:dN),Inv X pins σ H s->t D σ H->wpAny (model X.prog X.w) X.A (exec st X.env) (SP X pins D) X.xe s
noncomputable def PSs(X:Cx)(st:List Stmt)(t:TS):Prop:=
 ∀(pins:List (Addr×Obj))(s:Shared)(σ:St)(H:Hp)(D:dN),Inv X pins σ H s->t D σ H->wpAny (model X.prog X.w) X.A (execs st X.env) (SP X pins D) X.xe s
theorem aH{α:Type}{t:Sem α}{Q Q':α->Shared->Prop}{M:Model}{A:Around}{E:Value->Shared->Prop}{s:Shared}(h:wpAny M A t Q E s)(hQ:∀a s,Q a s->Q' a s):wpAny M A t Q' E s:=wpAny_mono h hQ λ_ _ x=>x
section
variable{X:Cx}
noncomputable def rK(i:Nat):TE:=λσ H Q=>∃v,σ[i]? =some (some v)/\Q v H
noncomputable def tC(v:V):TE:=λ_ H Q=>Q v H
theorem QR{i:Nat}{x:Str}{pos:Pos}(hN:X.N[i]? =some x)(hv:qN X.env.scope x)(hd:(x==("__debug__":Str))=false:=by decide)(hcd:(x==("__classdict__":Str))=false:=by decide):PE X (.Name x pos) (rK i):=by
 intro pins s σ H Q I h
 obtain⟨v,e,h⟩:=h
 obtain⟨m,hn,hl⟩:=I.loc
 obtain⟨u,r,l⟩:=hl i x v hN e hv
 have fin:EP X pins σ Q u s:=⟨v,H,I,r,h⟩
 rcases l with⟨hk,hm⟩|⟨hk,c,hc,hcell⟩
 ·exact wpAny_Name (wpAny_loadName_local I.ok.kind hk hn hm fin) hd
 ·rcases hk with hk|hk
  ·exact wpAny_Name (wpAny_loadName_cell I.ok.kind hk hc hcell fin) hd
  ·exact wpAny_Name (wpAny_loadName_free I.ok.kind hk hc hcell fin hcd) hd
theorem pe_int{i j pos}:PE X (.Constant (.int i) j pos) (tC (.int i)):=λ_ _ _ H _ I h=>wpAny_Constant_int ⟨.int i,H,I.tok _,⟨_,rfl⟩,h⟩
theorem pe_bl{b j pos}:PE X (.Constant (.bool b) j pos) (tC (.bl b)):=λ_ _ _ H _ I h=>Constant_bool ⟨.bl b,H,I,rfl,h⟩
theorem pe_non{j pos}:PE X (.Constant .none j pos) (tC .non):=λ_ _ _ H _ I h=>Constant_none ⟨.non,H,I,rfl,h⟩
theorem pe_str{x j pos}:PE X (.Constant (.str x) j pos) (tC (.str x)):=λ_ _ _ H _ I h=>Calls.Constant_str ⟨.str x,H,I.tok _,⟨_,rfl⟩,h⟩
noncomputable def Gl(X:Cx)(x:Str):Prop:=X.env.kindOf x=some .globalImplicit
theorem kR{E:Value->Shared->Prop}{pins:List (Addr×Obj)}{s:Shared}{σ:St}{H:Hp}{x:Str}{u:Value}{pos:Pos}{Q:Value->Shared->Prop}(I:Inv X pins σ H s)(hg:Gl X x)(hm:X.mg x=some u)(h:Q u s)
  (hd:(x==("__debug__":Str))=false:=by decide):wpAny (model X.prog X.w) X.A (eval (.Name x pos) X.env) Q E s:=
 Calls.Name_function_global I.ok.kind hg (Calls.loadGlobal_global (by rw[I.ok.glob];exact I.mod.glob.keeps I.bk) hm h) hd
theorem iI{E:Value->Shared->Prop}{pins:List (Addr×Obj)}{s:Shared}{σ:St}{H:Hp}{x:Str}{u:Value}{pos:Pos}{Q:Value->Shared->Prop}(I:Inv X pins σ H s)(hg:Gl X x)(hm:X.mg x=none)(hv:bootBuiltins x=some u)(h:Q u s)
  (hn:x≠"__name__":=by decide) (hd:(x==("__debug__":Str))=false:=by decide):wpAny (model X.prog X.w) X.A (eval (.Name x pos) X.env) Q E s:=by
 obtain⟨mb,h1,h2⟩:=I.mod.blt
 exact Calls.Name_function_global I.ok.kind hg (Calls.loadGlobal_builtin (by rw[I.ok.glob];exact I.mod.glob.keeps I.bk) hm (by rw[I.ok.blt];exact h1.keeps I.bk) ((h2 x hn).trans hv) h) hd
theorem fO{x:Str}{v:V}{u:Value}{pos:Pos}(hg:Gl X x)(hm:X.mg x=some u)(r:RelV v u)(hd:(x==("__debug__":Str))=false:=by decide):PE X (.Name x pos) (tC v):=
 λ_ _ _ H _ I h=>kR I hg hm ⟨v,H,I,r,h⟩ hd
theorem kH{x:Str}{v:V}{u:Value}{pos:Pos}(hg:Gl X x)(hm:X.mg x=none)(hv:bootBuiltins x=some u)(r:RelV v u)(hn:x≠"__name__":=by decide)(hd:(x==("__debug__":Str))=false:=by decide):PE X (.Name x pos) (tC v):=
 λ_ _ _ H _ I h=>iI I hg hm hv ⟨v,H,I,r,h⟩ hn hd
variable{a b:Expr}{ta tb:TE}{pos:Pos}
noncomputable def PC(X:Cx)(op:CmpOp)(a b:Expr)(t:TE):Prop:=
 ∀(pins:List (Addr×Obj))(s:Shared)(σ:St)(H:Hp)(Q:VK),Inv X pins σ H s->t σ H Q->
  wpAny (model X.prog X.w) X.A (eval a X.env) (λv s₁=>wpAny (model X.prog X.w) X.A (eval b X.env) (λu s₂=>wpAny (model X.prog X.w) X.A (compareOp op v u) (EP X pins σ Q) X.xe s₂) X.xe s₁) X.xe s
theorem SM(b:Expr){op:CmpOp}(h:op≠.In)(h2:op≠.NotIn):behindInMarks op b=false:=by
 have e1:(op==CmpOp.In)=false:=by cases op <;> first|rfl|exact absurd rfl h
 have e2:(op==CmpOp.NotIn)=false:=by cases op <;> first|rfl|exact absurd rfl h2
 cases b <;> simp[behindInMarks,e1,e2]
noncomputable def tB(t:TE):TT:=λσ H Q=>t σ H λx H1=>∃c,x=.bl c/\Q c H1
theorem oU{op:CmpOp}{t:TE}(h:PC X op a b t)(h1:behindInMarks op b=false:=by first|exact SM _ (by decide) (by decide)|rfl):PT X (.Compare a [op] [b] pos) (tB t):=by
 intro pins s σ H Q I hw
 refine wpAny_isTrue_Compare1 (aH (h pins s σ H _ I hw) λv s1 h1=>aH h1 λu s2 h2=>aH h2 λc s3⟨x,H1,I1,r1,q1⟩=>?_) h1
 obtain⟨d,rfl,q⟩:=q1
 cases r1
 exact wpAny_truthy_bool ⟨H1,I1,q⟩
theorem dA{e:Expr}{t:TE}(h:PE X e t)(he:∀whole,isTrue e X.env whole=(do let v <-whole;standAt e.pos;holding [v] (truthy v)):=by intro _;rfl):PT X e (tB t):=by
 intro pins s σ H Q I hw
 refine isTrue_plain (aH (h pins s σ H _ I hw) λv s1⟨x,H1,I1,r1,q1⟩=>?_) (he _)
 obtain⟨d,rfl,q⟩:=q1
 cases r1
 exact wpAny_truthy_bool ⟨H1,I1,q⟩
variable{tA tB':TT}{cA:List Expr}
noncomputable def BQ(t u:TT):TT:=λσ H Q=>t σ H λc H1=>if c=true then u σ H1 Q else Q false H1
noncomputable def BB(t u:TT):TT:=λσ H Q=>t σ H λc H1=>if c=true then Q true H1 else u σ H1 Q
noncomputable def BC(t:TT):TT:=λσ H Q=>t σ H λc H1=>Q (!c) H1
theorem l6(ha:PT X a tA):PW X (.BoolOp .And [a] pos) tA:=by
 intro wh pins s σ H Q I h
 refine isTrue_and (aH (ha pins s σ H Q I h) λc s1 e=>?_)
 cases c with
 |true=>exact isTrue_and_nil e
 |false=>exact e
theorem gO(ha:PT X a tA):PW X (.BoolOp .Or [a] pos) tA:=by
 intro wh pins s σ H Q I h
 refine isTrue_or (aH (ha pins s σ H Q I h) λc s1 e=>?_)
 cases c with
 |false=>exact isTrue_or_nil e
 |true=>exact e
theorem l7(ha:PT X a tA)(hb:PW X (.BoolOp .And (b::cA) pos) tB'):PW X (.BoolOp .And (a::b::cA) pos) (BQ tA tB'):=by
 intro wh pins s σ H Q I h
 refine isTrue_and (aH (ha pins s σ H _ I h) λc s1⟨H1,I1,q1⟩=>?_)
 cases c with
 |true=>exact hb wh pins s1 σ H1 Q I1 q1
 |false=>exact⟨H1,I1,q1⟩
theorem gP(ha:PT X a tA)(hb:PW X (.BoolOp .Or (b::cA) pos) tB'):PW X (.BoolOp .Or (a::b::cA) pos) (BB tA tB'):=by
 intro wh pins s σ H Q I h
 refine isTrue_or (aH (ha pins s σ H _ I h) λc s1⟨H1,I1,q1⟩=>?_)
 cases c with
 |true=>exact⟨H1,I1,q1⟩
 |false=>exact hb wh pins s1 σ H1 Q I1 q1
theorem eZ(ha:PT X a tA):PT X (.UnaryOp .Not a pos) (BC tA):=by
 intro pins s σ H Q I h
 exact isTrue_not (ha pins s σ H (λc H1=>Q (!c) H1) I h)
noncomputable def BP(ta tb:TE):TE:=λσ H Q=>ta σ H λx H1=>∃c,x=.bl c/\if c=true then tb σ H1 Q else Q (.bl false) H1
noncomputable def LE(ta tb:TE):TE:=λσ H Q=>ta σ H λx H1=>∃c,x=.bl c/\if c=true then Q (.bl true) H1 else tb σ H1 Q
noncomputable def LF(ta:TE):TE:=λσ H Q=>ta σ H λx H1=>∃c,x=.bl c/\Q (.bl (!c)) H1
theorem oZ{op}{t:TE}(h:PE X a t):PE X (.BoolOp op [a] pos) t:=λpins s σ H Q I hw=>BoolOp_one (h pins s σ H Q I hw)
theorem o0(ha:PE X a ta)(hb:PE X (.BoolOp .And (b::cA) pos) tb):PE X (.BoolOp .And (a::b::cA) pos) (BP ta tb):=by
 intro pins s σ H Q I h
 refine BoolOp_and (aH (ha pins s σ H _ I h) λv s1⟨x,H1,I1,r1,q1⟩=>?_)
 obtain⟨c,rfl,q1⟩:=q1
 cases r1
 refine wpAny_truthy_bool ?_
 cases c with
 |true=>exact hb pins s1 σ H1 Q I1 q1
 |false=>exact⟨.bl false,H1,I1,rfl,q1⟩
noncomputable def LH(t:TT)(ta tb:TE):TE:=λσ H Q=>t σ H λc H1=>if c=true then ta σ H1 Q else tb σ H1 Q
end
noncomputable def SqL(K:PySem.W.Frag)(H:Hp)(a:Addr)(xs:List V):Prop:=
 Rd H a (.lst xs)\/
  ∃(o:Obj)(its:Array Value)(n:Nat),K.lookup a=some o/\o.cls=.type "list"/\o.dict=none/\o.data=.seq its n/\its.size<=sizeLine/\Vals xs its.toList
noncomputable def SqT(K:PySem.W.Frag)(H:Hp)(a:Addr)(xs:List V):Prop:=
 Rd H a (.tup xs)\/
  ∃(o:Obj)(its:Array Value)(n:Nat),K.lookup a=some o/\o.cls=.type "tuple"/\o.data=.seq its n/\its.size<=sizeLine/\Vals xs its.toList
noncomputable def aaA:Value->Option V
 | .none=>some .non
 | .bool b=>some (.bl b)
 | .int i _=>some (.int i)
 | .str x _=>some (.str x)
 | .bytes b _=>some (.byt b)
 | .float b _=>some (.flt b)
 | .ref a=>some (.ref a)
 | .type n=>some (.ty n)
 |_=>none
theorem RelV.abs{x:V}{u:Value}(r:RelV x u):aaA u=some x:=by
 cases x with
 |non=>cases r;rfl
 |bl _=>cases r;rfl
 |int _=>obtain⟨t,rfl⟩:=r;rfl
 |str _=>obtain⟨t,rfl⟩:=r;rfl
 |byt _=>obtain⟨t,rfl⟩:=r;rfl
 |flt _=>obtain⟨t,rfl⟩:=r;rfl
 |ref _=>cases r;rfl
 |ty _=>cases r;rfl
theorem RelV.inj{x y:V}{u:Value}(r:RelV x u)(q:RelV y u):x=y:=Option.some.inj (r.abs.symm.trans q.abs)
theorem Vals.inj:∀{xs ys:List V}{us:List Value},Vals xs us->Vals ys us->xs=ys
 |_,_,_,.nil,.nil=>rfl
 |_,_,_,.cons r t,.cons r' t'=>by rw[r.inj r',Vals.inj t t']
section
variable{X:Cx}{pins:List (Addr×Obj)}{σ:St}{H:Hp}{s:Shared}{a:Addr}{xs ys:List V}
theorem SqL.of{K:PySem.W.Frag}(h:H a=some (.lst xs)):SqL K H a xs:=.inl (.inl h)
theorem SqT.of{K:PySem.W.Frag}(h:H a=some (.tup xs)):SqT K H a xs:=.inl (.inl h)
theorem Inv.list(I:Inv X pins σ H s)(h:SqL X.K H a xs):∃its:List Value,Vals xs its/\PlainL s.heap a its.toArray/\xs.length<=sizeLine:=by
 rcases h with h|⟨o,its,n,hk,hc,hd,hs,hz,r⟩
 ·obtain⟨z,its,n,r,e⟩:=h.ok I.hok
  exact⟨its,r,⟨_,n,e,rfl,rfl,rfl⟩,z⟩
 ·refine⟨its.toList,r,⟨o,n,I.kIn a o hk,hc,hd,by simpa using hs⟩,?_⟩
  have e:=r.length
  simp only[Array.length_toList]at e
  lia
theorem Inv.tuple(I:Inv X pins σ H s)(h:SqT X.K H a xs):∃its:List Value,Vals xs its/\IsTup s.heap a its.toArray/\xs.length<=sizeLine:=by
 rcases h with h|⟨o,its,n,hk,hc,hs,hz,r⟩
 ·obtain⟨z,its,r,p⟩:=h.ok I.hok
  exact⟨its,r,p.1,z⟩
 ·refine⟨its.toList,r,⟨o,I.kIn a o hk,hc,n,by simpa using hs⟩,?_⟩
  have e:=r.length
  simp only[Array.length_toList]at e
  lia
theorem Inv.list_inj(I:Inv X pins σ H s)(h:SqL X.K H a xs)(h':SqL X.K H a ys):xs=ys:=by
 obtain⟨its,r,⟨o,n,e,_,_,d⟩,_⟩:=I.list h
 obtain⟨its',r',⟨o',n',e',_,_,d'⟩,_⟩:=I.list h'
 rw[e]at e';cases e'
 rw[d]at d'
 injection d' with d1 _
 have:its=its':=by simpa using congrArg Array.toList d1
 subst this
 exact r.inj r'
theorem Inv.tuple_inj(I:Inv X pins σ H s)(h:SqT X.K H a xs)(h':SqT X.K H a ys):xs=ys:=by
 obtain⟨its,r,⟨o,e,_,n,d⟩,_⟩:=I.tuple h
 obtain⟨its',r',⟨o',e',_,n',d'⟩,_⟩:=I.tuple h'
 rw[e]at e';cases e'
 rw[d]at d'
 injection d' with d1 _
 have:its=its':=by simpa using congrArg Array.toList d1
 subst this
 exact r.inj r'
end
noncomputable abbrev Cx.wish(X:Cx)(E:Value->Shared->Prop):Cx:={ X with xe:=E }
noncomputable abbrev Cx.nox(X:Cx):Cx:=X.wish λ_ _=>False
theorem Cx.Ok.wish{X:Cx}(ok:X.Ok)(E:Value->Shared->Prop):(X.wish E).Ok:=
 ⟨ok.mod,ok.kind,ok.glob,ok.blt,ok.above,ok.inj,ok.has,ok.cab,ok.hd,ok.frames,ok.stk,ok.exf,ok.bs,ok.bsz,ok.noex,ok.exfs,ok.funs,ok.frf⟩
theorem Cx.Ok.unwish{X:Cx}{E:Value->Shared->Prop}(ok:(X.wish E).Ok):X.Ok:=
 ⟨ok.mod,ok.kind,ok.glob,ok.blt,ok.above,ok.inj,ok.has,ok.cab,ok.hd,ok.frames,ok.stk,ok.exf,ok.bs,ok.bsz,ok.noex,ok.exfs,ok.funs,ok.frf⟩
section
variable{X:Cx}{pins:List (Addr×Obj)}{σ:St}{H:Hp}{s:Shared}{E:Value->Shared->Prop}
theorem Inv.wish(I:Inv X pins σ H s)(E:Value->Shared->Prop):Inv (X.wish E) pins σ H s:=⟨I.ok.wish E,I.os,I.bare,I.base,I.loc,I.cell,I.free,I.freeC,I.pin,I.hok,I.len⟩
theorem Inv.unwish(I:Inv (X.wish E) pins σ H s):Inv X pins σ H s:=⟨I.ok.unwish,I.os,I.bare,I.base,I.loc,I.cell,I.free,I.freeC,I.pin,I.hok,I.len⟩
theorem SP.unwish{D:dN}{f:Flow}{s':Shared}(h:SP (X.wish E) pins D f s'):SP X pins D f s':=by
 cases f with
 |next=>obtain⟨σ',H',I,q⟩:=h;exact⟨σ',H',I.unwish,q⟩
 |brk=>obtain⟨σ',H',I,q⟩:=h;exact⟨σ',H',I.unwish,q⟩
 |cont=>obtain⟨σ',H',I,q⟩:=h;exact⟨σ',H',I.unwish,q⟩
 |ret u=>obtain⟨v,σ',H',I,r,q⟩:=h;exact⟨v,σ',H',I.unwish,r,q⟩
theorem PE.nox{e:Expr}{t:TE}(h:PE X.nox e t):PE X e t:=λpins s σ H Q I hw=>
 wpAny_mono (h pins s σ H Q (I.wish _) hw) (λ_ _⟨v,H',I',r,q⟩=>⟨v,H',I'.unwish,r,q⟩) λ_ _ z=>False.elim z
theorem PT.nox{e:Expr}{t:TT}(h:PT X.nox e t):PT X e t:=λpins s σ H Q I hw=>
 wpAny_mono (h pins s σ H Q (I.wish _) hw) (λ_ _⟨H',I',q⟩=>⟨H',I'.unwish,q⟩) λ_ _ z=>False.elim z
theorem PSs.nox{st:List Stmt}{t:TS}(h:PSs X.nox st t):PSs X st t:=λpins s σ H D I hw=>
 wpAny_mono (h pins s σ H D (I.wish _) hw) (λ_ _ q=>q.unwish) λ_ _ z=>False.elim z
end
section
variable{X:Cx}{st:Stmt}{cA:List Stmt}{t u:TS}{e:Expr}{te:TE}{pos:Pos}
noncomputable def BE:TS:=λD σ H=>D.nx σ H
noncomputable def rM(t u:TS):TS:=λD σ H=>t { D with nx:=u D } σ H
theorem bK:PSs X [] BE:=λ_ _ σ H _ I h=>wpAny_execs_nil ⟨σ,H,I,h⟩
theorem aF(h1:PS X st t)(h2:PSs X cA u):PSs X (st::cA) (rM t u):=by
 intro pins s σ H D I h
 refine wpAny_execs_cons (aH (h1 pins s σ H { D with nx:=u D } I h) λf s1 q=>?_)
 cases f with
 |next=>
  obtain⟨σ',H',I',q⟩:=q
  exact h2 pins s1 σ' H' D I' q
 |ret v=>exact q
 |brk=>exact q
 |cont=>exact q
theorem aD(h1:PS X st t):PSs X [st] t:=by
 intro pins s σ H D I h
 refine wpAny_execs_cons (aH (h1 pins s σ H D I h) λf s1 q=>?_)
 cases f with
 |next=>exact wpAny_execs_nil q
 |ret v=>exact q
 |brk=>exact q
 |cont=>exact q
theorem Inv.quiet{pins:List (Addr×Obj)}{σ:St}{H:Hp}{s:Shared}(I:Inv X pins σ H s):interactive X.env=false:=by simp[interactive,I.ok.kind]
noncomputable def BJ(te:TE):TS:=λD σ H=>te σ H λ_ H1=>D.nx σ H1
theorem cR(he:PE X e te)(hs:swapsWith e none pos.line X.env=pure false:=by rfl):PS X (.Expr e pos) (BJ te):=by
 intro pins s σ H D I h
 exact wpAny_Expr_any (aH (he pins s σ H _ I h) λv s1⟨x,H1,I1,r1,q1⟩=>⟨σ,H1,I1,q1⟩) I.quiet hs
noncomputable def A9(te:TE):TS:=λD σ H=>te σ H D.rt
theorem aK(he:PE X e te):PS X (.Return (some e) pos) (A9 te):=by
 intro pins s σ H D I h
 exact wpAny_Return_some (aH (he pins s σ H _ I h) λv s1⟨x,H1,I1,r1,q1⟩=>⟨x,σ,H1,I1,r1,q1⟩)
noncomputable def BG(c:TT)(t u:TS):TS:=λD σ H=>c σ H λb H1=>if b=true then t D σ H1 else u D σ H1
theorem bL{c:Expr}{a b:List Stmt}{tc:TT}(hc:PT X c tc)(ha:PSs X a t)(hb:PSs X b u):PS X (.If c a b pos) (BG tc t u):=by
 intro pins s σ H D I h
 refine wpAny_If (aH (hc pins s σ H _ I h) λd s1⟨H1,I1,q1⟩=>?_)
 cases d with
 |true=>exact ha pins s1 σ H1 D I1 q1
 |false=>exact hb pins s1 σ H1 D I1 q1
noncomputable def LG:TS:=λ_ _ _=>False
theorem i7:PS X st LG:=λ_ _ _ _ _ _ h=>h.elim
end
noncomputable abbrev TG:=V->St->Hp->(St->Hp->Prop)->Prop
noncomputable abbrev eS:=List V->St->Hp->(St->Hp->Prop)->Prop
noncomputable def PG(X:Cx)(target:Expr)(t:TG):Prop:=
 ∀(pins:List (Addr×Obj))(s:Shared)(σ:St)(H:Hp)(v:V)(u:Value)(Q:St->Hp->Prop),Inv X pins σ H s->RelV v u->t v σ H Q->
  wpAny (model X.prog X.w) X.A (assign target X.env u) (λ_ s'=>∃σ' H',Inv X pins σ' H' s'/\Q σ' H') X.xe s
noncomputable def nQ(X:Cx)(ts:List Expr)(t:eS):Prop:=
 ∀(pins:List (Addr×Obj))(s:Shared)(σ:St)(H:Hp)(vs:List V)(us:List Value)(Q:St->Hp->Prop),Inv X pins σ H s->Vals vs us->t vs σ H Q->
  wpAny (model X.prog X.w) X.A (assignInOrder ((assignEach ts X.env).map (·.2)) us) (λ_ s'=>∃σ' H',Inv X pins σ' H' s'/\Q σ' H') X.xe s
noncomputable abbrev qO:=V->V->V->Hp->(Hp->Prop)->Prop
noncomputable def IT(X:Cx)(t:qO):Prop:=
 ∀(pins:List (Addr×Obj))(s:Shared)(σ:St)(H:Hp)(o i v:V)(ov iv u:Value)(Q:Hp->Prop),Inv X pins σ H s->RelV o ov->RelV i iv->RelV v u->t o i v H Q->
  wpAny (model X.prog X.w) X.A (setItem ov iv u) (λ_ s'=>∃H',Inv X pins σ H' s'/\Q H') X.xe s
section
variable{X:Cx}{pos:Pos}
noncomputable def jX(i:Nat):TG:=λv σ H Q=>Q (σ.set i (some v)) H
theorem aP{i:Nat}{x:Str}(hN:X.N.Nodup)(hi:X.N[i]? =some x)(hx:Loc X.env.scope x)(hf:X.fn x=true\/X.env.scope.names.lookup x=some .local:=by first|exact .inl rfl|exact .inr rfl|assumption):PG X (.Name x pos) (jX i):=by
 intro pins s σ H v u Q I r h
 exact wpAny_assign_Name (rV I hN hi hx r (λs' I'=>⟨_,H,I',h⟩) hf)
noncomputable def wW:eS:=λvs σ H Q=>vs=[]/\Q σ H
noncomputable def wX(t:TG)(u:eS):eS:=λvs σ H Q=>∃v r,vs=v::r/\t v σ H λσ' H'=>u r σ' H' Q
theorem fM:nQ X [] wW:=by
 intro pins s σ H vs us Q I r h
 obtain⟨e,h⟩:=h
 subst e
 cases r
 exact assignInOrder_nil ⟨σ,H,I,h⟩
theorem cF{e:Expr}{es:List Expr}{t:TG}{u:eS}(h1:PG X e t)(h2:nQ X es u)
  (hs:(assignEach (e::es) X.env).map (·.2)=assign e X.env::(assignEach es X.env).map (·.2):=by rfl):nQ X (e::es) (wX t u):=by
 intro pins s σ H vs us Q I r h
 obtain⟨v,vr,e1,h⟩:=h
 subst e1
 cases r with
 |cons r rr=>
  rw[hs]
  refine assignInOrder_cons (aH (h1 pins s σ H _ _ _ I r h) λ_ s1⟨σ1,H1,I1,q1⟩=>?_)
  exact h2 pins s1 σ1 H1 _ _ Q I1 rr q1
noncomputable def pW(K:PySem.W.Frag)(n:Nat)(t:eS):TG:=λv σ H Q=>∃a xs,v=.ref a/\SqT K H a xs/\xs.length=n/\t xs σ H Q
theorem QP{es:List Expr}{k:Nat}{t:eS}{n:Nat}(hc:X.calm=true)(h:nQ X es t)
  (hn:(assignEach es X.env).length=n:=by rfl) (hst:(assignEach es X.env).findIdx? (·.1)=none:=by rfl):PG X (.Tuple es k pos) (pW X.K n t):=by
 intro pins s σ H v u Q I r hw
 obtain⟨a,xs,e1,hq,hl,hw⟩:=hw
 subst e1
 cases r
 obtain⟨its,rv,ht,hz⟩:=I.tuple hq
 refine assign_Tuple_tuple (I.ok.hd hc) ht (by simp[hn,<-hl,rv.length]) hst λh' hx=>?_
 have I1:Inv X pins σ H { s with heap:=h' }:=I.kept (t':=s.toks) λb o e=>hx b o (Nat.ne_of_lt (Heap.lt_size e)) e
 exact h pins _ σ H xs _ Q I1 (by simpa using rv) hw
noncomputable def GS(to ti:TE)(t:qO):TG:=λv σ H Q=>to σ H λo H1=>ti σ H1 λi H2=>t o i v H2 λH3=>Q σ H3
theorem uW{o i:Expr}{to ti:TE}{t:qO}(ho:PE X o to)(hi:PE X i ti)(hs:IT X t)
  (ha:∀v,assign (.Subscript o i pos) X.env v=(do
   let ov <-holding [v] (eval o X.env)
   let iv <-holding [v,ov] (eval i X.env)
   standAt pos
   holding [v,ov,iv] (setItem ov iv v)
   release [v,ov,iv] []):=by intro _;rfl):PG X (.Subscript o i pos) (GS to ti t):=by
 intro pins s σ H v u Q I r h
 rw[ha]
 refine wpAny_bind (wpAny_holding (aH (ho pins s σ H _ I h) λov s1⟨x,H1,I1,r1,q1⟩=>?_))
 refine wpAny_bind (wpAny_holding (aH (hi pins s1 σ H1 _ I1 q1) λiv s2⟨y,H2,I2,r2,q2⟩=>?_))
 refine wpAny_bind (wpAny_standAt (wpAny_bind (wpAny_holding (aH (hs pins s2 σ H2 x y v ov iv u _ I2 r1 r2 r q2) λ_ s3⟨H3,I3,q3⟩=>?_))))
 exact wpAny_release ⟨σ,H3,I3,q3⟩
noncomputable def oG(te:TE)(g:TG):TS:=λD σ H=>te σ H λx H1=>g x σ H1 D.nx
theorem uU{tg e:Expr}{te:TE}{g:TG}(he:PE X e te)(hg:PG X tg g)(hs:swapsWithSole [tg] e pos.line X.env=pure false:=by rfl)(hw:swappedStores [tg] e X.env=pure none:=by rfl)
  (h1:(assignEach [tg] X.env).map (·.2)=[assign tg X.env]:=by rfl):PS X (.Assign [tg] e pos) (oG te g):=by
 intro pins s σ H D I h
 refine wpAny_Assign_stores (aH (he pins s σ H _ I h) λv s1⟨x,H1,I1,r1,q1⟩=>?_) hs hw
 rw[h1]
 exact aH (hg pins s1 σ H1 x v _ I1 r1 q1) λ_ s2 q=>q
theorem bG{i:Nat}{x:Str}{e:Expr}{te:TE}{pos':Pos}(hN:X.N.Nodup)(hi:X.N[i]? =some x)(hx:Loc X.env.scope x)(he:PE X e te)(hs:swapsWith e (some (.Name x pos')) pos.line X.env=pure false:=by rfl)(hf:X.fn x=true\/X.env.scope.names.lookup x=some .local:=by first|exact .inl rfl|exact .inr rfl|assumption):
  PS X (.Assign [.Name x pos'] e pos) (oG te (jX i)):=by
 intro pins s σ H D I h
 refine wpAny_Assign_Name (aH (he pins s σ H _ I h) λv s1⟨y,H1,I1,r1,q1⟩=>?_) hs
 exact rV I1 hN hi hx r1 (λs2 I2=>⟨_,H1,I2,q1⟩) hf
noncomputable def A5(c:TT)(tb:TS):TS:=λD σ H=>∃W:Nat->St->Hp->Prop,(∃m,W m σ H)/\∀m σ H,W m σ H->
 c σ H λb H1=>if b=true then ∃N:St->Hp->Prop,(∀σ' H',N σ' H'->∃m',m'<m/\W m' σ' H')/\tb { D with nx:=N,ct:=N,bk:=D.nx } σ H1 else D.nx σ H1
theorem P4{c:Expr}{body:List Stmt}{tc:TT}{tb:TS}(hp:PassesOwn (model X.prog X.w) X.A X.env X.xe)(hc:PT X c tc)(hb:PSs X body tb):PS X (.While c body [] pos) (A5 tc tb):=by
 intro pins s σ H D I h
 obtain⟨W,⟨m0,w0⟩,turn⟩:=h
 refine wpAny_While (codeAny_whileLoop (λn s'=>∃σ' H',Inv X pins σ' H' s'/\W n σ' H') ?_ m0 ⟨σ,H,I,w0⟩)
 rintro n s1 ⟨σ1,H1,I1,w1⟩
 refine wpAny_passesOwn hp (aH (hc pins s1 σ1 H1 _ I1 (turn n σ1 H1 w1)) λb s2⟨H2,I2,q2⟩=>?_)
 cases b with
 | true=>
  obtain⟨N,hN,q2⟩:=q2
  rw[if_pos rfl]
  refine wpAny_passesOwn hp (aH (hb pins s2 σ1 H2 _ I2 q2) λf s3 q3=>?_)
  cases f with
  |next=>
   obtain⟨σ3,H3,I3,n3⟩:=q3
   obtain⟨m',hm,w3⟩:=hN σ3 H3 n3
   exact⟨m',hm,σ3,H3,I3,w3⟩
  |cont=>
   obtain⟨σ3,H3,I3,n3⟩:=q3
   obtain⟨m',hm,w3⟩:=hN σ3 H3 n3
   exact⟨m',hm,σ3,H3,I3,w3⟩
  |brk=>exact q3
  |ret v=>exact q3
 |false=>
  rw[if_neg Bool.false_ne_true]
  exact wpAny_execs_nil ⟨σ1,H2,I2,q2⟩
end
structure It where
 go:Nat->Hp->Prop
 yld:Nat->Hp->V->Hp->Prop
 stop:Nat->Hp->Prop
noncomputable def fI(X:Cx)(pins:List (Addr×Obj))(H:Hp)(b:Addr):Prop:=
 H b=none/\b≠X.env.locals/\b∉X.fs/\(b∈X.ex\/X.s₀.heap.objs.size<=b)/\(∀x c,X.env.cells.lookup x=some c->c≠b)/\∀p∈X.pn++pins,p.1≠b
theorem Inv.fpOk{X:Cx}{pins:List (Addr×Obj)}{σ:St}{H H':Hp}{s:Shared}{b:Addr}(I:Inv X pins σ H s)(hb:s.heap.objs.size<=b)(hn:H' b=none):fI X pins H' b:=by
 refine⟨hn,Nat.ne_of_gt (Nat.lt_of_lt_of_le I.lt hb),I.nofs hb,.inr (Nat.le_trans I.sz hb),λx c e z=>?_,λp hp z=>?_⟩
 ·obtain⟨v,q⟩:=I.cell x c e
  exact absurd (Nat.lt_of_lt_of_le q.lt (by rw[z];exact hb)) (Nat.lt_irrefl _)
 ·exact absurd (Nat.lt_of_lt_of_le (Heap.lt_size (I.pin p hp).1) (by rw[z];exact hb)) (Nat.lt_irrefl _)
structure lK (P:Program) (w:World) (K:PySem.W.Frag) (tg:Expr) (J:It) (fp:List Addr) (it:Addr) (tn:Nat->Heap->Prop):Prop where
 mem:it∈fp
 obj:∀i h,tn i h->∀b∈fp,∃o,h.get? b=some o/\∀v,o.data≠.cell v
 keep:∀i h h',tn i h->(∀b∈fp,∀o,h.get? b=some o->h'.get? b=some o)->tn i h'
 item:∀(X:Cx),X.prog=P->X.w=w->X.K=K->X.calm=true->∀(i:Nat)(pins:List (Addr×Obj))(s:Shared)(σ:St)(H:Hp)(E:Value->Shared->Prop),Inv X pins σ H s->(∀b∈fp,fI X pins H b)->tn i s.heap->J.go i H->
  wpAny (model P w) X.A (pyNext (.ref it)) (λr s1=>∃u,r=some u/\
   wpAny (model P w) X.A (letOwnedTupleGo tg (.ref it) u) (λ_ s2=>∃x H',Inv X pins σ H' s2/\RelV x u/\J.yld i H x H'/\tn (i+1) s2.heap/\∀b∈fp,H' b=none) E s1) E s
 done:∀(X:Cx),X.prog=P->X.w=w->X.K=K->X.calm=true->∀(i:Nat)(pins:List (Addr×Obj))(s:Shared)(σ:St)(H:Hp)(E:Value->Shared->Prop),Inv X pins σ H s->(∀b∈fp,fI X pins H b)->tn i s.heap->J.stop i H->
  wpAny (model P w) X.A (pyNext (.ref it)) (λr s1=>r=none/\Inv X pins σ H s1) E s
 self:∀(A:Around)(i:Nat)(s:Shared)(Q:Value->Shared->Prop)(E:Value->Shared->Prop),tn i s.heap->Q (.ref it) s->wpAny (model P w) A (pyIter (.ref it)) Q E s
noncomputable abbrev TI:=St->Hp->(It->Hp->Prop)->Prop
noncomputable def IU(X:Cx)(pins:List (Addr×Obj))(σ:St)(tg:Expr)(R:It->Hp->Prop)(itv:Value)(s2:Shared):Prop:=
 ∃(it:Addr)(fp:List Addr)(tn:Nat->Heap->Prop)(J:It)(H':Hp),itv=.ref it/\Inv X pins σ H' s2/\lK X.prog X.w X.K tg J fp it tn/\tn 0 s2.heap/\(∀b∈fp,fI X pins H' b)/\R J H'
noncomputable def PI(X:Cx)(tg iter:Expr)(wi:TI):Prop:=
 ∀(pins:List (Addr×Obj))(s:Shared)(σ:St)(H:Hp)(R:It->Hp->Prop),Inv X pins σ H s->wi σ H R->
  wpAny (model X.prog X.w) X.A (eval iter X.env) (λv s1=>wpAny (model X.prog X.w) X.A (pyIter v) (IU X pins σ tg R) X.xe s1) X.xe s
theorem wJ{M:Model}{A:Around}{E:Value->Shared->Prop}{s:Shared}{tg:Expr}{it:Addr}{u:Value}{o:Obj}{n:String}{vs:Array Value}{Q:Unit->Shared->Prop}(ho:s.heap.get? it=some o)(hc:o.cls=.type n)(hd:o.data=.fields vs)
    (hn:["enumerate","zip","dict_itemiterator","dict_reverseitemiterator","odict_iterator","itertools.zip_longest","itertools.pairwise"].contains n=false) (hQ:Q () s):wpAny M A (letOwnedTupleGo tg (.ref it) u) Q E s:=by
  unfold letOwnedTupleGo
  cases tg <;> first
    |exact wpAny_pure hQ
    |(cases u <;> first
        |exact wpAny_pure hQ
        | (refine wpAny_bind (wpAny_load ho ?_)
           rw[hc,hd]
           show wpAny M A (if(["enumerate","zip","dict_itemiterator","dict_reverseitemiterator","odict_iterator","itertools.zip_longest","itertools.pairwise"].contains n&&vs[0]? ==some (rawInt _))=true then _ else _) Q E s
           rw[if_neg (by intro h;rw[hn,Bool.false_and]at h;cases h)]
           exact wpAny_pure hQ))
noncomputable def iV(K:PySem.W.Frag)(a:Addr):It:=
 ⟨λi H=>∃xs x,SqL K H a xs/\xs[i]? =some x,λi H x H'=>H'=H/\∀xs,SqL K H a xs->xs[i]? =some x,λi H=>∃xs,SqL K H a xs/\xs.length<=i⟩
noncomputable def iU(K:PySem.W.Frag)(a:Addr):It:=
 ⟨λi H=>∃xs x,SqT K H a xs/\xs[i]? =some x,λi H x H'=>H'=H/\∀xs,SqT K H a xs->xs[i]? =some x,λi H=>∃xs,SqT K H a xs/\xs.length<=i⟩
noncomputable def hX(lo:Int)(n:Nat):It:=⟨λi _=>i<n,λi H x H'=>H'=H/\x=.int (lo+i),λi _=>n<=i⟩
theorem K3{P:Program}{w:World}{K:PySem.W.Frag}{tg:Expr}(a it:Addr):lK P w K tg (iV K a) [it] it (λi h=>h.IsListIter it a i) where
 mem:=by simp
 obj:=λi h st b hb=>by
  have e:b=it:=by simpa using hb
  subst e
  obtain⟨o,e,c,d⟩:=st
  exact⟨o,e,λv z=>by rw[d]at z;cases z⟩
 keep:=λi h h' st k=>st.at λo e=>k it (by simp) o e
 item:=by
  intro X hP hw hK hc i pins s σ H E I hf st hg
  subst hP hw hK
  obtain⟨xs,x,hq,hx⟩:=hg
  obtain⟨its,rv,p,hz⟩:=I.list hq
  obtain⟨u,hu,ru⟩:=rv.get hx
  obtain⟨f0,f1,f2,f3,f4,f5⟩:=hf it (by simp)
  refine wpAny_pyNext_list_item st p.isList (x:=u) (by simpa using hu) λh' st' sb=>?_
  have I1:Inv X pins σ H { s with heap:=h' }:=I.turned (t':=s.toks) (λb o hb e=>(sb.2 b hb).trans e) f0 f1 f3 f4 f5
  obtain⟨o,e,c,d⟩:=id st'
  exact⟨u,rfl,wJ (s:={ s with heap:=h' }) e c d (by decide) ⟨x,H,I1,ru,⟨rfl,λys hy=>by rw[I.list_inj hy hq];exact hx⟩,st',λb hb=>(hf b hb).1⟩⟩
 done:=by
  intro X hP hw hK hc i pins s σ H E I hf st hg
  subst hP hw hK
  obtain⟨xs,hq,hx⟩:=hg
  obtain⟨its,rv,p,hz⟩:=I.list hq
  obtain⟨f0,f1,f2,f3,f4,f5⟩:=hf it (by simp)
  have hl:=rv.length
  exact wpAny_pyNext_list_end (I.ok.hd hc) st p.isList (by simp;lia) λh' eb=>⟨rfl,I.turned (t':=s.toks) (λb o hb e=>eb b o hb e) f0 f1 f3 f4 f5⟩
 self:=λ_ _ _ _ _ st h=>wpAny_pyIter_listiter st h
theorem K1{P:Program}{w:World}{K:PySem.W.Frag}{tg:Expr}(a it:Addr):lK P w K tg (iU K a) [it] it (λi h=>h.IsTupleIter it a i) where
 mem:=by simp
 obj:=λi h st b hb=>by
  have e:b=it:=by simpa using hb
  subst e
  obtain⟨o,e,c,d⟩:=st
  exact⟨o,e,λv z=>by rw[d]at z;cases z⟩
 keep:=λi h h' st k=>st.at λo e=>k it (by simp) o e
 item:=by
  intro X hP hw hK hc i pins s σ H E I hf st hg
  subst hP hw hK
  obtain⟨xs,x,hq,hx⟩:=hg
  obtain⟨its,rv,p,hz⟩:=I.tuple hq
  obtain⟨u,hu,ru⟩:=rv.get hx
  obtain⟨f0,f1,f2,f3,f4,f5⟩:=hf it (by simp)
  refine wpAny_pyNext_tuple_item st (show s.heap.IsTuple a its.toArray from p) (x:=u) (by simpa using hu) λh' st' sb=>?_
  have I1:Inv X pins σ H { s with heap:=h' }:=I.turned (t':=s.toks) (λb o hb e=>(sb.2 b hb).trans e) f0 f1 f3 f4 f5
  obtain⟨o,e,c,d⟩:=id st'
  exact⟨u,rfl,wJ (s:={ s with heap:=h' }) e c d (by decide) ⟨x,H,I1,ru,⟨rfl,λys hy=>by rw[I.tuple_inj hy hq];exact hx⟩,st',λb hb=>(hf b hb).1⟩⟩
 done:=by
  intro X hP hw hK hc i pins s σ H E I hf st hg
  subst hP hw hK
  obtain⟨xs,hq,hx⟩:=hg
  obtain⟨its,rv,p,hz⟩:=I.tuple hq
  obtain⟨f0,f1,f2,f3,f4,f5⟩:=hf it (by simp)
  have hl:=rv.length
  exact wpAny_pyNext_tuple_end (I.ok.hd hc) st (show s.heap.IsTuple a its.toArray from p) (by simp;lia) λh' eb=>⟨rfl,I.turned (t':=s.toks) (λb o hb e=>eb b o hb e) f0 f1 f3 f4 f5⟩
 self:=λ_ _ _ _ _ st h=>wpAny_pyIter_tupleiter st h
theorem K2{P:Program}{w:World}{K:PySem.W.Frag}{tg:Expr}(it:Addr)(lo:Int)(n:Nat):lK P w K tg (hX lo n) [it] it (λi h=>IsRangeIter h it (lo+(i:Nat)*1) ((n:Int)-(i:Nat)) 1) where
 mem:=by simp
 obj:=λi h st b hb=>by
  have e:b=it:=by simpa using hb
  subst e
  exact⟨_,st,λv z=>by
   have z':Data.fields _=Data.cell v:=z
   cases z'⟩
 keep:=λi h h' st k=>k it (by simp) _ st
 item:=by
  intro X hP hw hK hc i pins s σ H E I hf st hg
  subst hP hw hK
  obtain⟨f0,f1,f2,f3,f4,f5⟩:=hf it (by simp)
  have W:=Walks.range (prog:=X.prog) (w:=X.w) (I.ok.hd hc) it lo 1 n
  refine W.item i s _ _ hg st λv h' tk hv st' kk=>?_
  obtain⟨t,rfl⟩:=hv
  have I1:Inv X pins σ H { s with heap:=h',toks:=tk }:=I.turned (λb o hb e=>kk b o (by simpa using hb) e) f0 f1 f3 f4 f5
  refine⟨_,rfl,wJ (s:={ s with heap:=h',toks:=tk }) (n:="range_iterator") st' rfl rfl (by decide) ⟨.int (lo+i),H,I1,⟨t,?_⟩,⟨rfl,rfl⟩,st',λb hb=>(hf b hb).1⟩⟩
  rw[Int.mul_one]
 done:=by
  intro X hP hw hK hc i pins s σ H E I hf st hg
  subst hP hw hK
  obtain⟨f0,f1,f2,f3,f4,f5⟩:=hf it (by simp)
  exact wpAny_pyNext_range_end (I.ok.hd hc) st (by have:n<=i:=hg;lia) λh' eb=>⟨rfl,I.turned (t':=s.toks) (λb o hb e=>eb b o hb e) f0 f1 f3 f4 f5⟩
 self:=λ_ _ _ _ _ st h=>wpAny_pyIter_rangeiter st h
section
variable{X:Cx}{tg:Expr}
noncomputable def wG(K:PySem.W.Frag)(tl:TE):TI:=λσ H R=>tl σ H λx H1=>∃a,x=.ref a/\(∃xs,SqL K H1 a xs)/\R (iV K a) H1
noncomputable def wF(K:PySem.W.Frag)(tl:TE):TI:=λσ H R=>tl σ H λx H1=>∃a,x=.ref a/\(∃xs,SqT K H1 a xs)/\R (iU K a) H1
theorem QN{l:Expr}{tl:TE}(hl:PE X l tl):PI X tg l (wG X.K tl):=by
 intro pins s σ H R I h
 refine aH (hl pins s σ H _ I h) λv s1⟨x,H1,I1,r1,q1⟩=>?_
 obtain⟨a,e,⟨xs,hq⟩,q⟩:=q1
 subst e
 cases r1
 obtain⟨its,rv,p,hz⟩:=I1.list hq
 refine wpAny_pyIter_list p.isList ?_
 refine⟨s1.heap.objs.size,[s1.heap.objs.size],_,_,H1,rfl,I1.kept (t':=s1.toks) λb o e=>Heap.get?_push_of_some _ e,K3 a _,⟨_,Heap.get?_push_size _ rfl,rfl,rfl⟩,λb hb=>?_,q⟩
 have e:b=s1.heap.objs.size:=by simpa using hb
 subst e
 exact I1.fpOk (Nat.le_refl _) (I1.hok.fresh (Nat.le_refl _))
theorem QM{l:Expr}{tl:TE}(hl:PE X l tl):PI X tg l (wF X.K tl):=by
 intro pins s σ H R I h
 refine aH (hl pins s σ H _ I h) λv s1⟨x,H1,I1,r1,q1⟩=>?_
 obtain⟨a,e,⟨xs,hq⟩,q⟩:=q1
 subst e
 cases r1
 obtain⟨its,rv,p,hz⟩:=I1.tuple hq
 refine wpAny_pyIter_tuple (show s1.heap.IsTuple a its.toArray from p) ?_
 refine⟨s1.heap.objs.size,[s1.heap.objs.size],_,_,H1,rfl,I1.kept (t':=s1.toks) λb o e=>Heap.get?_push_of_some _ e,K1 a _,⟨_,Heap.get?_push_size _ rfl,rfl,rfl⟩,λb hb=>?_,q⟩
 have e:b=s1.heap.objs.size:=by simpa using hb
 subst e
 exact I1.fpOk (Nat.le_refl _) (I1.hok.fresh (Nat.le_refl _))
theorem PY{pins:List (Addr×Obj)}{σ:St}{H:Hp}{s:Shared}{R:It->Hp->Prop}{E:Value->Shared->Prop}{lo hi:Int}{t u v:Tok}{tk:Nat}(I:Inv X pins σ H s)(h1:-(2^62)<=lo)(h2:lo<2^62)(h3:-(2^62)<=hi)(h4:hi<2^62)
  (q:R (hX lo (hi-lo).toNat) H):wpAny (model X.prog X.w) X.A (pyIter (.ref s.heap.objs.size)) (IU X pins σ tg R) E { s with heap:=s.heap.push { cls:=.type "range",data:=.fields #[.int lo t,.int hi u,.int 1 v] },toks:=tk }:=by
 refine wpAny_pyIter_range (IsRange.new ..) (small_one h1 h2 h3 h4) ?_
 have I1:Inv X pins σ H { s with heap:=s.heap.push { cls:=.type "range",data:=.fields #[.int lo t,.int hi u,.int 1 v] },toks:=tk }:=I.kept λb o e=>Heap.get?_push_of_some _ e
 refine⟨(s.heap.push { cls:=.type "range",data:=.fields #[.int lo t,.int hi u,.int 1 v] }).objs.size,[(s.heap.push { cls:=.type "range",data:=.fields #[.int lo t,.int hi u,.int 1 v] }).objs.size],_,_,H,rfl,
  I1.kept (t':=tk) λb o e=>Heap.get?_push_of_some _ e,K2 _ lo (hi-lo).toNat,?_,λb hb=>?_,q⟩
 ·have e1:lo+((0:Nat):Int)*1=lo:=by simp
  have e2:(((hi-lo).toNat:Nat):Int)-((0:Nat):Int)=Builtin.Range.rangeSize lo hi 1:=by rw[rangeSize_one];split <;> lia
  show IsRangeIter _ _ (lo+((0:Nat):Int)*1) ((((hi-lo).toNat:Nat):Int)-((0:Nat):Int)) 1
  rw[e1,e2]
  exact Heap.get?_push_size _ rfl
 ·have e:b=(s.heap.push { cls:=.type "range",data:=.fields #[.int lo t,.int hi u,.int 1 v] }).objs.size:=by simpa using hb
  subst e
  exact I1.fpOk (Nat.le_refl _) (I1.hok.fresh (Nat.le_refl _))
noncomputable def GN(ta:TA):TI:=λσ H R=>ta σ H λvs H1=>∃j:Int,vs=[.int j]/\-(2^62)<=j/\j<2^62/\R (hX 0 j.toNat) H1
theorem cS{a:Expr}{ta:TA}{p pos:Pos}(hg:Gl X "range")(hm:X.mg "range"=none)(ha:PA X [a] ta)(hs:starEach [a] X.env=[(false,eval a X.env)]:=by rfl):PI X tg (.Call (.Name "range" p) [a] [] pos) (GN ta):=by
 intro pins s σ H R I h
 refine Call_ (iI I hg hm boot_range (PyProof.Rows.callWith_type1 (aH (ha pos pins s σ H _ I h) λus s1⟨vs,H1,I1,r1,q1⟩=>?_) hs rfl))
 obtain⟨j,e,q1,q2,q⟩:=q1
 subst e
 cases r1 with
 |cons r rr=>
  cases rr
  obtain⟨t,rfl⟩:=r
  exact call_range_1 (PY I1 (by lia) (by lia) q1 q2 (by simpa using q))
noncomputable def BI(wi:TI)(g:TG)(tb:TS):TS:=λD σ H=>wi σ H λJ H1=>∃W:Nat->Nat->St->Hp->Prop,(∃m,W 0 m σ H1)/\∀i m σ H,W i m σ H->
 (J.stop i H/\D.nx σ H)\/(J.go i H/\∃N:St->Hp->Prop,(∀σ' H',N σ' H'->∃m',m'<m/\W (i+1) m' σ' H')/\∀x H',J.yld i H x H'->g x σ H' λσ2 H2=>tb { D with nx:=N,ct:=N,bk:=D.nx } σ2 H2)
noncomputable def i8(fp:List Addr)(h:Heap):List (Addr×Obj):=fp.filterMap λb=>(h.get? b).map λo=>(b,o)
theorem pD{fp:List Addr}{h:Heap}{b:Addr}{o:Obj}(hb:b∈fp)(e:h.get? b=some o):(b,o)∈i8 fp h:=mem_filterMap.mpr ⟨b,hb,by rw[e];rfl⟩
theorem FF{fp:List Addr}{h:Heap}{p:Addr×Obj}(hp:p∈i8 fp h):p.1∈fp/\h.get? p.1=some p.2:=by
 obtain⟨b,hb,e⟩:=mem_filterMap.mp hp
 cases q:h.get? b with
 |none=>rw[q]at e;cases e
 |some o=>
  rw[q]at e
  have e':(b,o)=p:=Option.some.inj e
  subst e'
  exact⟨hb,q⟩
theorem Inv.pinned{pins:List (Addr×Obj)}{σ:St}{H:Hp}{s:Shared}{fp:List Addr}(I:Inv X pins σ H s)(hf:∀b∈fp,fI X pins H b)(ho:∀b∈fp,∃o,s.heap.get? b=some o/\∀v,o.data≠.cell v):Inv X (pins++i8 fp s.heap) σ H s:=
 I.pins_of λp hp=>(mem_append.mp hp).elim (λz=>I.pin p (mem_append_right _ z)) λz=>by
  obtain⟨hb,e⟩:=FF z
  obtain⟨f0,f1,f2,_⟩:=hf p.1 hb
  obtain⟨o,e',d⟩:=ho p.1 hb
  rw[e]at e';cases e'
  exact⟨e,f0,f1,f2,d⟩
theorem Inv.unpinned{pins pl:List (Addr×Obj)}{σ:St}{H:Hp}{s:Shared}(I:Inv X (pins++pl) σ H s):Inv X pins σ H s:=I.pins_of λp hp=>I.pin p (mem_append_right _ (mem_append_left _ hp))
theorem bW{iter:Expr}{body:List Stmt}{wi:TI}{g:TG}{tb:TS}{pos:Pos}(hp:PassesOwn (model X.prog X.w) X.A X.env X.xe)(hc:X.calm=true)(hi:PI X tg iter wi)(hg:PG X tg g)(hb:PSs X body tb)
  (hs:∀x,foldedSetIterable iter X.env x=pure x:=by intro _;rfl):PS X (.For tg iter body [] pos) (BI wi g tb):=by
 intro pins s σ H D I h
 refine wpAny_For (aH (hi pins s σ H _ I h) λv s1 h1=>aH h1 λitv s2 h2=>?_) hs
 obtain⟨it,fp,tn,J,H2,e,I2,T,st2,f2,W,⟨m0,w0⟩,turn⟩:=h2
 subst e
 have stat:∀{H':Hp},(∀b∈fp,H' b=none)->∀b∈fp,fI X pins H' b:=λhn b hb=>⟨hn b hb,(f2 b hb).2⟩
 refine codeAny_forLoop_any (λn s'=>∃i σ' H',Inv X pins σ' H' s'/\tn i s'.heap/\(∀b∈fp,H' b=none)/\W i n σ' H') ?_ m0 ⟨0,σ,H2,I2,st2,λb hb=>(f2 b hb).1,w0⟩
 rintro n s3 ⟨i,σ3,H3,I3,st3,fr3,w3⟩
 rcases turn i n σ3 H3 w3 with⟨stop,qn⟩|⟨go,N,hN,step⟩
 ·refine wpAny_passesOwn hp (aH (T.done X rfl rfl rfl hc i pins s3 σ3 H3 X.xe I3 (stat fr3) st3 stop) λr s4⟨hr,I4⟩=>?_)
  subst hr
  exact wpAny_execs_nil ⟨σ3,H3,I4,qn⟩
 ·refine wpAny_passesOwn hp (aH (T.item X rfl rfl rfl hc i pins s3 σ3 H3 X.xe I3 (stat fr3) st3 go) λr s4⟨u,hr,h4⟩=>?_)
  subst hr
  refine wpAny_passesOwn hp (aH h4 λ_ s5⟨x,H5,I5,r5,y5,st5,fr5⟩=>?_)
  have I5':=I5.pinned (stat fr5) (T.obj _ _ st5)
  refine wpAny_passesOwn hp (aH (hg _ s5 σ3 H5 x u _ I5' r5 (step x H5 y5)) λ_ s6⟨σ6,H6,I6,q6⟩=>?_)
  refine wpAny_passesOwn hp (aH (hb _ s6 σ6 H6 _ I6 q6) λf s7 q7=>?_)
  have again:∀{σ7:St}{H7:Hp},Inv X (pins++i8 fp s5.heap) σ7 H7 s7->N σ7 H7->∃m,m<n/\∃i σ' H',Inv X pins σ' H' s7/\tn i s7.heap/\(∀b∈fp,H' b=none)/\W i m σ' H':=λ{σ7 H7}I7 n7=>by
   obtain⟨m',hm,w7⟩:=hN σ7 H7 n7
   refine⟨m',hm,i+1,σ7,H7,I7.unpinned,T.keep _ _ _ st5 λb hb o e=>(I7.pin (b,o) (mem_append_right _ (mem_append_right _ (pD hb e)))).1,λb hb=>?_,w7⟩
   obtain⟨o,e,d⟩:=T.obj _ _ st5 b hb
   exact(I7.pin (b,o) (mem_append_right _ (mem_append_right _ (pD hb e)))).2.1
  cases f with
  |next=>obtain⟨σ7,H7,I7,n7⟩:=q7;exact again I7 n7
  |cont=>obtain⟨σ7,H7,I7,n7⟩:=q7;exact again I7 n7
  |brk=>obtain⟨σ7,H7,I7,q7⟩:=q7;exact⟨σ7,H7,I7.unpinned,q7⟩
  |ret v=>obtain⟨x7,σ7,H7,I7,r7,q7⟩:=q7;exact⟨x7,σ7,H7,I7.unpinned,r7,q7⟩
end
noncomputable abbrev R2:=V->V->Hp->VK->Prop
noncomputable def OpR(X:Cx)(f:Value->Value->Sem Value)(r:R2):Prop:=
 ∀(pins:List (Addr×Obj))(s:Shared)(σ:St)(H:Hp)(x y:V)(v u:Value)(Q:VK),Inv X pins σ H s->RelV x v->RelV y u->r x y H Q->
  wpAny (model X.prog X.w) X.A (f v u) (EP X pins σ Q) X.xe s
noncomputable def z7(X:Cx)(f:Value->Sem Value)(r:V->Hp->VK->Prop):Prop:=
 ∀(pins:List (Addr×Obj))(s:Shared)(σ:St)(H:Hp)(x:V)(v:Value)(Q:VK),Inv X pins σ H s->RelV x v->r x H Q->
  wpAny (model X.prog X.w) X.A (f v) (EP X pins σ Q) X.xe s
noncomputable def CallR(X:Cx)(f:Value)(r:List V->Hp->VK->Prop):Prop:=
 ∀(pins:List (Addr×Obj))(s:Shared)(σ:St)(H:Hp)(xs:List V)(us:List Value)(Q:VK),Inv X pins σ H s->Vals xs us->r xs H Q->
  wpAny (model X.prog X.w) X.A (call f us) (EP X pins σ Q) X.xe s
noncomputable def lV(r:R2)(ta tb:TE):TE:=λσ H Q=>ta σ H λx H1=>tb σ H1 λy H2=>r x y H2 Q
noncomputable def A6(r:V->Hp->VK->Prop)(ta:TE):TE:=λσ H Q=>ta σ H λx H1=>r x H1 Q
noncomputable def rI(C:Int->Int->Prop)(g:Int->Int->V):R2:=λx y H Q=>∃i j,x=.int i/\y=.int j/\C i j/\Q (g i j) H
noncomputable def gN(g:Int->Int->V):R2:=λx y H Q=>∃i j,x=.int i/\y=.int j/\Q (g i j) H
noncomputable def rU(g:Int->V):V->Hp->VK->Prop:=λx H Q=>∃i,x=.int i/\Q (g i) H
section
variable{X:Cx}{a b c:Expr}{ta tb tc:TE}{pos:Pos}
theorem yR(ha:PE X a ta)(hb:PE X b tb){pins:List (Addr×Obj)}{s:Shared}{σ:St}{H:Hp}{R:V->V->Hp->Prop}(I:Inv X pins σ H s)
  (h:ta σ H λx H1=>tb σ H1 λy H2=>R x y H2) {Q:Value->Shared->Prop} {f:Value->Value->Sem Value}
  (hf:∀v u s2 x y H2,Inv X pins σ H2 s2->RelV x v->RelV y u->R x y H2->wpAny (model X.prog X.w) X.A (f v u) Q X.xe s2):
  wpAny (model X.prog X.w) X.A (eval a X.env) (λv s₁=>wpAny (model X.prog X.w) X.A (eval b X.env) (λu s₂=>wpAny (model X.prog X.w) X.A (f v u) Q X.xe s₂) X.xe s₁) X.xe s:=by
 refine aH (ha pins s σ H _ I h) λv s1⟨x,H1,I1,r1,q1⟩=>?_
 refine aH (hb pins s1 σ H1 _ I1 q1) λu s2⟨y,H2,I2,r2,q2⟩=>?_
 exact hf v u s2 x y H2 I2 r1 r2 q2
theorem aY{op:Operator}{r:R2}(ho:OpR X (binaryOp op) r)(ha:PE X a ta)(hb:PE X b tb):PE X (.BinOp a op b pos) (lV r ta tb):=by
 intro pins s σ H Q I h
 exact wpAny_BinOp (yR ha hb I h λv u s2 x y H2 I2 rx ry q=>ho pins s2 σ H2 x y v u Q I2 rx ry q)
theorem EQ{op:UnaryOp}{r:V->Hp->VK->Prop}(ho:z7 X (unaryOp op) r)(ha:PE X a ta):PE X (.UnaryOp op a pos) (A6 r ta):=by
 intro pins s σ H Q I h
 exact UnaryOp_ (aH (ha pins s σ H _ I h) λv s1⟨x,H1,I1,r1,q1⟩=>ho pins s1 σ H1 x v Q I1 r1 q1)
theorem E7{f:Value->Value->Sem Value}{C:Int->Int->Prop}{g:Int->Int->Int}
  (rule:∀(i j:Int)(t u:Tok)(s:Shared)(Q:Value->Shared->Prop)(E:Value->Shared->Prop),C i j->Q (.int (g i j) s.toks) { s with toks:=s.toks+1 }->wpAny (model X.prog X.w) X.A (f (.int i t) (.int j u)) Q E s):
  OpR X f (rI C λi j=>.int (g i j)):=by
 intro pins s σ H x y v u Q I rx ry h
 obtain⟨i,j,rfl,rfl,hc,q⟩:=h
 obtain⟨t,rfl⟩:=rx
 obtain⟨t',rfl⟩:=ry
 exact rule i j t t' s _ _ hc ⟨.int (g i j),H,I.tok _,⟨_,rfl⟩,q⟩
theorem E6{f:Value->Value->Sem Value}{g:Int->Int->Int}
  (rule:∀(i j:Int)(t u:Tok)(s:Shared)(Q:Value->Shared->Prop)(E:Value->Shared->Prop),Q (.int (g i j) s.toks) { s with toks:=s.toks+1 }->wpAny (model X.prog X.w) X.A (f (.int i t) (.int j u)) Q E s):
  OpR X f (gN λi j=>.int (g i j)):=by
 intro pins s σ H x y v u Q I rx ry h
 obtain⟨i,j,rfl,rfl,q⟩:=h
 obtain⟨t,rfl⟩:=rx
 obtain⟨t',rfl⟩:=ry
 exact rule i j t t' s _ _ ⟨.int (g i j),H,I.tok _,⟨_,rfl⟩,q⟩
theorem o6{f:Value->Value->Sem Value}{g:Int->Int->Bool}
  (rule:∀(i j:Int)(t u:Tok)(s:Shared)(Q:Value->Shared->Prop)(E:Value->Shared->Prop),Q (.bool (g i j)) s->wpAny (model X.prog X.w) X.A (f (.int i t) (.int j u)) Q E s):
  OpR X f (gN λi j=>.bl (g i j)):=by
 intro pins s σ H x y v u Q I rx ry h
 obtain⟨i,j,rfl,rfl,q⟩:=h
 obtain⟨t,rfl⟩:=rx
 obtain⟨t',rfl⟩:=ry
 exact rule i j t t' s _ _ ⟨.bl (g i j),H,I,rfl,q⟩
noncomputable def CMul(i j:Int):Prop:=(-(2^64)<i/\i<2^64)\/(-(2^64)<j/\j<2^64)
theorem CMul.ok{i j:Int}(h:CMul i j):IntMulOk i j:=by
 rcases h with⟨h1,h2⟩|⟨h1,h2⟩
 ·exact .of_left (intBits_le_64 h1 h2)
 ·exact .of_right (intBits_le_64 h1 h2)
theorem c6:OpR X (binaryOp .Add) (gN λi j=>.int (i+j)):=E6 λ_ _ _ _ _ _ _ q=>add_int q
theorem kI:OpR X (binaryOp .Sub) (gN λi j=>.int (i-j)):=E6 λ_ _ _ _ _ _ _ q=>sub_int q
theorem kJ:OpR X (binaryOp .Mult) (rI CMul λi j=>.int (i*j)):=E7 λ_ _ _ _ _ _ _ hc q=>mul_int q hc.ok
theorem mC:OpR X (binaryOp .Mod) (rI (λ_ j=>0<j) λi j=>.int (i%j)):=E7 λi j _ _ _ _ _ hc q=>by
 have h1:(0:Int)<j:=hc
 exact mod_int' (by lia) (by rw[Int.fmod_eq_emod_of_nonneg i (by lia)];exact q)
theorem n9{f:Value->Sem Value}{g:Int->Int}
  (rule:∀(i:Int)(t:Tok)(s:Shared)(Q:Value->Shared->Prop)(E:Value->Shared->Prop),Q (.int (g i) s.toks) { s with toks:=s.toks+1 }->wpAny (model X.prog X.w) X.A (f (.int i t)) Q E s):
  z7 X f (rU λi=>.int (g i)):=by
 intro pins s σ H x v Q I rx h
 obtain⟨i,rfl,q⟩:=h
 obtain⟨t,rfl⟩:=rx
 exact rule i t s _ _ ⟨.int (g i),H,I.tok _,⟨_,rfl⟩,q⟩
theorem AW:z7 X (unaryOp .USub) (rU λi=>.int (-i)):=n9 λ_ _ _ _ _ q=>neg_int q
theorem G8{pins:List (Addr×Obj)}{σ:St}{H:Hp}{s:Shared}{Q:VK}{k k':Bool}(I:Inv X pins σ H s)(q:Q (.bl k) H)(e:k=k'):EP X pins σ Q (.bool k') s:=by
 subst e
 exact⟨.bl k,H,I,rfl,q⟩
theorem E2:OpR X (compareOp .Lt) (gN λi j=>.bl (decide (i<j))):=o6 λ_ _ _ _ _ _ _ q=>lt_int q
theorem E3:OpR X (compareOp .LtE) (gN λi j=>.bl (decide (i<=j))):=o6 λ_ _ _ _ _ _ _ q=>le_int q
theorem u0:OpR X (compareOp .Gt) (gN λi j=>.bl (decide (j<i))):=o6 λ_ _ _ _ _ _ _ q=>gt_int q
theorem E4:OpR X (compareOp .GtE) (gN λi j=>.bl (decide (j<=i))):=o6 λ_ _ _ _ _ _ _ q=>ge_int q
theorem Q8:OpR X (compareOp .Is) (λx y H Q=>y=.non/\Q (.bl (decide (x=.non))) H):=by
 intro pins s σ H x y v u Q I rx ry h
 obtain⟨rfl,q⟩:=h
 cases ry
 refine is_none_gen (G8 I q ?_)
 cases x <;> first
  |(cases rx;rfl)
  |(obtain⟨t,rfl⟩:=rx;rfl)
theorem Q6:OpR X (compareOp .IsNot) (λx y H Q=>y=.non/\Q (.bl (!decide (x=.non))) H):=by
 intro pins s σ H x y v u Q I rx ry h
 obtain⟨rfl,q⟩:=h
 cases ry
 refine isnot_none_gen (G8 I q ?_)
 cases x <;> first
  |(cases rx;rfl)
  |(obtain⟨t,rfl⟩:=rx;rfl)
theorem OpR.or{f:Value->Value->Sem Value}{r r':R2}(h:OpR X f r)(h':OpR X f r'):OpR X f (λx y H Q=>r x y H Q\/r' x y H Q):=by
 intro pins s σ H x y v u Q I rx ry q
 rcases q with q|q
 ·exact h pins s σ H x y v u Q I rx ry q
 ·exact h' pins s σ H x y v u Q I rx ry q
theorem bA(b:Expr){op:CmpOp}(h:op≠.In:=by decide)(h2:op≠.NotIn:=by decide):behindInMarks op b=false:=by
 have e1:(op==CmpOp.In)=false:=by cases op <;> first|rfl|exact absurd rfl h
 have e2:(op==CmpOp.NotIn)=false:=by cases op <;> first|rfl|exact absurd rfl h2
 cases b <;> simp[behindInMarks,e1,e2]
theorem cP{op:CmpOp}{r:R2}(ho:OpR X (compareOp op) r)(ha:PE X a ta)(hb:PE X b tb)(hm:behindInMarks op b=false):PE X (.Compare a [op] [b] pos) (lV r ta tb):=by
 intro pins s σ H Q I h
 exact wpAny_Compare1 (yR ha hb I h λv u s2 x y H2 I2 rx ry q=>ho pins s2 σ H2 x y v u Q I2 rx ry q) hm
noncomputable def A8(t:TE):TT:=λσ H Q=>t σ H λx H'=>∃k,x=.bl k/\Q k H'
theorem bE{op:CmpOp}{r:R2}(ho:OpR X (compareOp op) r)(ha:PE X a ta)(hb:PE X b tb)(hm:behindInMarks op b=false):PT X (.Compare a [op] [b] pos) (A8 (lV r ta tb)):=by
 intro pins s σ H Q I h
 refine wpAny_isTrue_Compare1 (aH (ha pins s σ H _ I h) λv s1⟨x,H1,I1,r1,q1⟩=>aH (hb pins s1 σ H1 _ I1 q1) λu s2⟨y,H2,I2,r2,q2⟩=>
  aH (ho pins s2 σ H2 x y v u _ I2 r1 r2 q2) λc s3⟨z,H3,I3,r3,k,e,q3⟩=>?_) hm
 subst e
 cases r3
 exact wpAny_truthy_bool ⟨H3,I3,q3⟩
noncomputable def BN(r r':R2)(ta tb tc:TE):TE:=λσ H Q=>ta σ H λx H1=>tb σ H1 λy H2=>r x y H2 λz H3=>∃k,z=.bl k/\
 (if k=true then tc σ H3 λw' H4=>r' y w' H4 Q else Q (.bl false) H3)
theorem QV{op op':CmpOp}{r r':R2}(ho:OpR X (compareOp op) r)(ho':OpR X (compareOp op') r')(ha:PE X a ta)(hb:PE X b tb)(hc:PE X c tc)
  (hm:lastMarks [op,op'] [b,c]=false:=by with_unfolding_all rfl):PE X (.Compare a [op,op'] [b,c] pos) (BN r r' ta tb tc):=by
 intro pins s σ H Q I h
 refine Compare_chain (aH (ha pins s σ H _ I h) λv s1⟨x,H1,I1,r1,q1⟩=>chain_link (aH (hb pins s1 σ H1 _ I1 q1) λu s2⟨y,H2,I2,r2,q2⟩=>
  aH (ho pins s2 σ H2 x y v u _ I2 r1 r2 q2) λd s3⟨z,H3,I3,r3,k,e,q3⟩=>?_)) hm
 subst e
 cases r3
 refine wpAny_truthy_bool ?_
 cases k with
 |false=>exact ite_ff ⟨.bl false,H3,I3,rfl,q3⟩
 |true=>exact ite_tt (chain_last (aH (hc pins s3 σ H3 _ I3 q3) λw' s4⟨z',H4,I4,r4,q4⟩=>ho' pins s4 σ H4 y z' u w' Q I4 r2 r4 q4))
theorem pK:(sizeLine:Nat)<2^63:=by rw[sizeLine_eq];decide
theorem vals1{x:V}{us:List Value}(r:Vals [x] us):∃u,us=[u]/\RelV x u:=by
 cases r with
 |cons r1 r2=>cases r2;exact⟨_,rfl,r1⟩
theorem vals2{x y:V}{us:List Value}(r:Vals [x,y] us):∃u w',us=[u,w']/\RelV x u/\RelV y w':=by
 cases r with
 |cons r1 r2=>
  cases r2 with
  |cons r3 r4=>cases r4;exact⟨_,_,rfl,r1,r3⟩
theorem YG(hc:X.calm=true):CallR X (.builtin "max") (λxs H Q=>∃i j,xs=[.int i,.int j]/\Q (.int (if j>i then j else i)) H):=by
 intro pins s σ H xs us Q I r h
 obtain⟨i,j,rfl,q⟩:=h
 obtain⟨u,w',rfl,⟨t,rfl⟩,⟨t',rfl⟩⟩:=vals2 r
 refine max_two_ints (I.ok.hd hc) λh' tk k=>⟨_,H,I.kept k,?_,q⟩
 by_cases hj:j>i
 ·rw[if_pos hj,if_pos hj];exact⟨_,rfl⟩
 ·rw[if_neg hj,if_neg hj];exact⟨_,rfl⟩
theorem YM:CallR X (.type "int") (λxs H Q=>(∃i,xs=[.int i]/\Q (.int i) H)\/∃k,xs=[.bl k]/\Q (.int (if k then 1 else 0)) H):=by
 intro pins s σ H xs us Q I r h
 rcases h with⟨i,rfl,q⟩|⟨k,rfl,q⟩
 ·obtain⟨u,rfl,t,rfl⟩:=vals1 r
  exact call_int_int ⟨.int i,H,I,⟨_,rfl⟩,q⟩
 ·obtain⟨u,rfl,r1⟩:=vals1 r
  cases r1
  exact call_int_bool ⟨.int (if k then 1 else 0),H,I.tok _,⟨_,rfl⟩,q⟩
end
structure ObjM (h:Heap) (x dx C:Addr) (mA:Str->Option Value):Prop where
 obj:h.get? x=some (PySem.W.instObj C dx)
 ns:h.Ns1 dx mA
 ne:dx≠x
theorem UR{h:Heap}{dx:Addr}{mA:Str->Option Value}(n:h.Ns1 dx mA):∃od,h.get? dx=some od/\∀name,PySem.W.lookIn name od=some (mA name):=by
 obtain⟨o,es,ep,ho,hd,hk,_,hm⟩:=n
 refine⟨o,ho,λname=>?_⟩
 have e:=hm name
 unfold nsFind findBy at e
 rw[<-Array.find?_toList]at e
 unfold PySem.W.lookIn
 rw[hd]
 dsimp only
 split
 ·rename_i y q
  rw[q]at e
  exact congrArg some e
 ·rename_i q
  rw[q]at e
  have a:es.toList.any (·.refKey)=false:=by
   rw[any_eq_false]
   intro y hy
   obtain⟨z,t,hkey⟩:=hk y (Array.mem_toList_iff.mp hy)
   simp[DictEntry.refKey,hkey]
  have a':¬es.toList.any (·.refKey)=true:=by rw[a];exact Bool.false_ne_true
  rw[if_neg a']
  exact congrArg some e
theorem ObjM.look{h:Heap}{x dx C:Addr}{mA:Str->Option Value}(I:ObjM h x dx C mA):∃od,PySem.W.InstAt h x (PySem.W.instObj C dx) C (some od)/\∀name,PySem.W.lookIn name od=some (mA name):=
 let⟨od,ho,hl⟩:=UR I.ns
 ⟨od,⟨I.obj,rfl,rfl,ho⟩,hl⟩
section
variable{prog:Program}{w:World}{A:Around}{E:Value->Shared->Prop}{s:Shared}{K:PySem.W.Frag}{x dx C f:Addr}{mA:Str->Option Value}{name:Str}{v:Value}
theorem sC{ns:List Str}{Q:Unit->Shared->Prop}(X:K.In s.heap)(I:ObjM s.heap x dx C mA)
  (hs:PySem.W.findIn K (.ref C) "__setattr__"=some (some (.builtin "object.__setattr__"))) (hp:PySem.W.plainOver K C=true) (ht:PySem.W.takerIn K C name=some none) (hh:PySem.W.hasDictIn K C=true)
  (hw:PySem.Within mA ns) (hsz:ns.length<=sizeLine)
  (h:∀h',ObjM h' x dx C (λy=>if y=name then some v else mA y)->Heap.SameBut dx s.heap h'->Q () { s with heap:=h',toks:=s.toks+2 }):
  wpAny (model prog w) A (setAttr (.ref x) name v) Q E s:=by
 obtain⟨od,J,hl⟩:=I.look
 refine PySem.W.set_plain X J hs (PySem.W.osa_open (s:={ s with toks:=s.toks+1 }) (r:=none) X J hp ht λb=>?_)
 obtain⟨cd,hc,hd'⟩:=PySem.W.any_some hh
 have hx:s.heap.get? x=some ⟨.ref C,some dx,.plain,#[]⟩:=I.obj
 refine wpAny_bind (wpAny_pure (wpAny_bind (wpAny_bind (wpAny_loadPart hx (wpAny_bind (PySem.W.Looks.here (s:={ s with toks:=s.toks+1 }) (PySem.W.looks_clsIn X hc) ?_))))))
 rw[hd']
 refine wpAny_pure (a:=some dx) (wpAny_bind (wpAny_pure (wpAny_bind ?_)))
 refine wpAny_nsSet1 (s:={ s with toks:=s.toks+1 }) I.ns λh' hn2 hs2=>?_
 obtain⟨oD,esD,epD,hoD,hdD,hcD⟩:=hn2.count (PySem.Within.cons name v hw)
 refine wpAny_bind (wpAny_lookBehind hoD (by rw[hdD];exact pastItsLine_dict (Nat.le_trans hcD (by rw[length_cons];lia))) ?_)
 exact wpAny_pure (h _ ⟨(hs2.2 _ (Ne.symm I.ne)).trans I.obj,hn2,I.ne⟩ hs2)
end
theorem RelO.some_of{v:V}{o:Option Value}(r:RelO (some v) o):∃u,o=some u/\RelV v u:=by
 cases o with
 |none=>exact(show False from r).elim
 |some u=>exact⟨u,rfl,r⟩
theorem RelO.none_of{o:Option Value}(r:RelO none o):o=none:=by
 cases o with
 |none=>rfl
 |some u=>exact(show False from r).elim
section
variable{P:Program}{w:World}{H H':Hp}{h h':Heap}{a C dx:Addr}{fs fs':List (Str×V)}
theorem WH(hok:HOk P w H h)(e:H a=some (.ins C dx fs)):∃mA,ObjM h a dx C mA/\(∀f,RelO (fs.lookup f) (mA f))/\PySem.Within mA (fs.map (·.1))/\fs.length<=1000/\H dx=some (.own a):=by
 obtain⟨d,z,ne,ob,mA,n,r,q⟩:=(show ObjOk P w H h a (.ins C dx fs) from hok a _ e)
 exact⟨mA,⟨ob,n,ne⟩,r,q,z,d⟩
end
structure Cls (K:PySem.W.Frag) (C:Addr):Prop where
 pg:PySem.W.plainGet K C Str.empty=true
 hd:PySem.W.hasDictIn K C=true
 po:PySem.W.plainOver K C=true
 sa:PySem.W.findIn K (.ref C) "__setattr__"=some (some (.builtin "object.__setattr__"))
theorem Cls.get{K:PySem.W.Frag}{C:Addr}(c:Cls K C)(f:Str):PySem.W.plainGet K C f=true:=c.pg
structure gG (K:PySem.W.Frag) (C:Addr) (f:Str) (v:V) (u:Value):Prop where
 at_:PySem.W.findIn K (.ref C) f=some (some u)
 rel:RelV v u
 get:PySem.W.specialIn K u "__get__"=some none
 cp:PySem.W.copiedNames.contains f=false
structure aaI (K:PySem.W.Frag) (C:Addr) (m:Str) (f:Addr):Prop where
 at_:PySem.W.findIn K (.ref C) m=some (some (.ref f))
 fn:PySem.W.isFn K (.ref f)=true
 kp:PySem.W.keepIn K (.ref f)=true
section
variable{X:Cx}{pins:List (Addr×Obj)}{σ:St}{H:Hp}{s:Shared}{a C dx:Addr}{fs:List (Str×V)}{f:Str}{v:V}{A:Around}{E:Value->Shared->Prop}
theorem Inv.made(I:Inv X pins σ H s):Inv X pins σ (upd (upd H s.heap.objs.size (.own (s.heap.objs.size+1))) (s.heap.objs.size+1) (.ins C s.heap.objs.size []))
  { s with heap:=(s.heap.push PySem.W.emptyDict).push (PySem.W.instObj C s.heap.objs.size) }:=by
 have e1:(s.heap.push PySem.W.emptyDict).get? s.heap.objs.size=some PySem.W.emptyDict:=Heap.get?_push_size s.heap rfl
 have e2:((s.heap.push PySem.W.emptyDict).push (PySem.W.instObj C s.heap.objs.size)).get? (s.heap.objs.size+1)=some (PySem.W.instObj C s.heap.objs.size):=by
  have:=Heap.get?_push_size (s.heap.push PySem.W.emptyDict) (o:=PySem.W.instObj C s.heap.objs.size) rfl
  rwa [Heap.size_push]at this
 have e3:(s.heap.push PySem.W.emptyDict).Ns s.heap.objs.size (λ_=>none):=⟨PySem.W.emptyDict,#[],_,e1,rfl,(λe he=>absurd he (by simp)),λ_=>rfl⟩
 have I1:=I.laid (a:=s.heap.objs.size) (o:=.own (s.heap.objs.size+1)) (h':=s.heap.push PySem.W.emptyDict) (t':=s.toks) (λb u q=>Heap.get?_push_of_some _ q) (Nat.le_refl _) ⟨_,e1⟩
 refine I1.laid (a:=s.heap.objs.size+1) (o:=.ins C s.heap.objs.size []) (t':=s.toks) (λb u q=>Heap.get?_push_of_some _ q) (Nat.le_of_eq (Heap.size_push _ _)) ?_
 have ne:s.heap.objs.size≠s.heap.objs.size+1:=Nat.ne_of_lt (Nat.lt_succ_self _)
 refine⟨by rw[aE ne,aC],Nat.zero_le _,ne,e2,λ_=>none,(Heap.Ns1.of_empty e3).at λo q=>Heap.get?_push_of_some _ q,λ_=>True.intro,λy hy=>absurd rfl hy⟩
end
section
variable{X:Cx}{o e value:Expr}{f:Str}{pos pos' tpos:Pos}{ta tv:TE}
end
section
variable{X:Cx}{pins:List (Addr×Obj)}{σ:St}{H:Hp}{s:Shared}{A:Around}{E:Value->Shared->Prop}{Q:Value->Shared->Prop}{c:Value}{b:Bool}
inductive eQ (K:PySem.W.Frag) (H:Hp):V->Value->Prop where
 |non:eQ K H .non (.type "NoneType")
 |bl (x:Bool):eQ K H (.bl x) (.type "bool")
 |int (i:Int):eQ K H (.int i) (.type "int")
 |str (x:Str):eQ K H (.str x) (.type "str")
 |flt (x:UInt64):eQ K H (.flt x) (.type "float")
 |lst {a:Addr} {xs:List V} (e:H a=some (.lst xs)):eQ K H (.ref a) (.type "list")
 |frz {a:Addr} {o:Obj} {xs:List V} (e:H a=some (.frz o (.lst xs))):eQ K H (.ref a) (.type "list")
 |tup {a:Addr} {xs:List V} (e:H a=some (.tup xs)):eQ K H (.ref a) (.type "tuple")
 |dK {a:Addr} {kvs:List (aG×V)} (e:H a=some (.dK kvs)):eQ K H (.ref a) (.type "dict")
 |dT {a:Addr} {kvs:List (List aG×V)} (e:H a=some (.dT kvs)):eQ K H (.ref a) (.type "dict")
 | ins {a C dx:Addr} {fs:List (Str×V)} (e:H a=some (.ins C dx fs)) (cl:Cls K C) (ha:PySem.W.findIn K (.ref C) "__class__"=some (some (.builtin "object.__class__")))
   (hn:PySem.W.specialIn K (.builtin "object.__class__") "__get__"=some (some (.builtin "getset_descriptor.__get__"))) (htk:PySem.W.takesIn K (.builtin "object.__class__")=some true)
   (hm:PySem.W.mroIn K C (.type "object")=some true):eQ K H (.ref a) (.ref C)
theorem WB{x:V}{u t:Value}(I:Inv X pins σ H s)(rx:RelV x u)(ty:eQ X.K H x t)(e:PySem.W.kitOne X.K t c=some b)(h:∀tk,Q (.bool b) { s with toks:=tk }):
  wpAny (model X.prog X.w) A (call (.builtin "isinstance") [u,c]) Q E s:=by
 cases ty with
 |non=>cases(show u=Value.none from rx);exact PySem.W.kia_one PySem.W.kitx_none I.kIn True.intro e (λz=>nomatch z) h
 |bl y=>cases(show u=Value.bool y from rx);exact PySem.W.kia_one PySem.W.kitx_bool I.kIn True.intro e (λz=>nomatch z) h
 |int i=>obtain⟨t,q⟩:=(show ∃t,u=Value.int i t from rx);cases q;exact PySem.W.kia_one PySem.W.kitx_int I.kIn True.intro e (λz=>nomatch z) h
 |str y=>obtain⟨t,q⟩:=(show ∃t,u=Value.str y t from rx);cases q;exact PySem.W.kia_one PySem.W.kitx_str I.kIn True.intro e (λz=>nomatch z) h
 |flt y=>obtain⟨t,q⟩:=(show ∃t,u=Value.float y t from rx);cases q;exact PySem.W.kia_one PySem.W.kitx_float I.kIn True.intro e (λz=>nomatch z) h
 |@lst a xs ea=>
  cases(show u=Value.ref a from rx)
  obtain⟨_,_,n,_,h1⟩:=(show ObjOk X.prog X.w H s.heap a (.lst xs) from I.hok a _ ea)
  exact PySem.W.kia_one PySem.W.kitx_list I.kIn ⟨_,h1,rfl⟩ e (λz=>nomatch z) h
 |@frz a ob xs ea=>
  cases(show u=Value.ref a from rx)
  obtain⟨_,_,_,n,_,h1⟩:=(show ObjOk X.prog X.w H s.heap a (.frz ob (.lst xs)) from I.hok a _ ea)
  exact PySem.W.kia_one PySem.W.kitx_list I.kIn ⟨_,h1,rfl⟩ e (λz=>nomatch z) h
 |@tup a xs ea=>
  cases(show u=Value.ref a from rx)
  obtain⟨_,_,_,p⟩:=(show ObjOk X.prog X.w H s.heap a (.tup xs) from I.hok a _ ea)
  obtain⟨o,h1,h2,_⟩:=p.1
  exact PySem.W.kia_one PySem.W.kitx_tuple I.kIn ⟨o,h1,h2⟩ e (λz=>nomatch z) h
 |@dK a kvs ea=>
  cases(show u=Value.ref a from rx)
  obtain⟨_,_,vs,_,p⟩:=(show ObjOk X.prog X.w H s.heap a (.dK kvs) from I.hok a _ ea)
  obtain⟨o,es,ep,h1,h2,_⟩:=p
  exact PySem.W.kia_one PySem.W.kitx_dict I.kIn ⟨o,h1,h2.1⟩ e (λz=>nomatch z) h
 |@dT a kvs ea=>
  cases(show u=Value.ref a from rx)
  obtain⟨_,_,xs,_,o,es,ep,h1,h2,_⟩:=(show ObjOk X.prog X.w H s.heap a (.dT kvs) from I.hok a _ ea)
  exact PySem.W.kia_one PySem.W.kitx_dict I.kIn ⟨o,h1,h2.1⟩ e (λz=>nomatch z) h
 |@ins a C dx fs ea cl ha hn htk hm=>
  cases(show u=Value.ref a from rx)
  obtain⟨mA,O,_⟩:=WH I.hok ea
  obtain⟨od,J,_⟩:=O.look
  exact PySem.W.kia_one (PySem.W.kitx_own (cl.get _) cl.hd ha hn htk hm) I.kIn J e (λz=>nomatch z) h
end
structure Room (k:Nat) (A:Around):Prop where
 hd:A.handled=none
 dp:A.depth+3*k+5<recursionLimit
 un:A.units+16*k+200<cLine
theorem Room.mono{j k:Nat}{A:Around}(r:Room k A)(h:j<=k):Room j A:=⟨r.hd,by have:=r.dp;lia,by have:=r.un;lia⟩
theorem Room.deeper{k:Nat}{A:Around}(r:Room (k+1) A)(env:Env):Room k (A.deeper env):=
 ⟨r.hd,by have:=r.dp;show A.depth+1+3*k+5<_;lia,by have:=r.un;show A.units+3+16*k+200<_;lia⟩
theorem Room.in1{k:Nat}{A:Around}(r:Room (k+1) A):Room k A.in1:=
 ⟨r.hd,by have:=r.dp;show A.depth+3*k+5<_;lia,by have:=r.un;show A.units+1+16*k+200<_;lia⟩
theorem Room.depth{k:Nat}{A:Around}(r:Room k A):A.depth<recursionLimit:=by have:=r.dp;lia
theorem Room.units{k:Nat}{A:Around}(r:Room k A):A.units+64<cLine:=by have:=r.un;lia
theorem Room.units0{k:Nat}{A:Around}(r:Room k A):A.units<cLine:=by have:=r.un;lia
noncomputable def BD:TA:=λ_ H Q=>Q [] H
noncomputable def BM(ta:TE)(tr:TA):TA:=λσ H Q=>ta σ H λx H1=>tr σ H1 λxs H2=>Q (x::xs) H2
section
variable{X:Cx}{e:Expr}{es:List Expr}{te:TE}{t:TA}{pos:Pos}
theorem pa_nil:PA X [] BD:=λ_ _ _ _ H Q I h=>Calls.spliced_nil ⟨[],H,I,.nil,h⟩
theorem aA(ha:PE X e te)(hr:PA X es t)(hs:starEach (e::es) X.env=(false,eval e X.env)::starEach es X.env:=by rfl):PA X (e::es) (BM te t):=by
 intro pos pins s σ H Q I h
 rw[hs]
 show wpAny _ _ (spliced ((false,eval e X.env)::backTo pos (starEach es X.env))) _ _ s
 refine Calls.spliced_cons (aH (ha pins s σ H _ I h) λu s1⟨x,H1,I1,r1,q1⟩=>?_)
 exact aH (hr pos pins s1 σ H1 _ I1 q1) λus s2⟨xs,H2,I2,r2,q2⟩=>⟨x::xs,H2,I2,.cons r1 r2,q2⟩
noncomputable def A7(t:TA):TE:=λσ H Q=>t σ H λxs H1=>xs.length<=sizeLine/\∀p,H1 p=none->Q (.ref p) (upd H1 p (.tup xs))
noncomputable def BF(t:TA):TE:=λσ H Q=>t σ H λxs H1=>xs.length<=sizeLine/\∀p,H1 p=none->Q (.ref p) (upd H1 p (.lst xs))
theorem bI{x1}(h:PA X es t):PE X (.Tuple es x1 pos) (A7 t):=by
 intro pins s σ H Q I hq
 refine wpAny_Tuple_spliced (aH (h pos pins s σ H _ I hq) λus s1⟨xs,H1,I1,r,z,q⟩=>⟨by rw[<-r.length];exact z,?_⟩)
 have hf:H1 s1.heap.objs.size=none:=I1.hok.fresh (Nat.le_refl _)
 refine⟨.ref s1.heap.objs.size,upd H1 s1.heap.objs.size (.tup xs),I1.laid (t':=s1.toks) (λb u e=>Heap.get?_push_of_some _ e) (Nat.le_refl _) ?_,rfl,q _ hf⟩
 exact⟨z,us,r,⟨_,Heap.get?_push_size _ rfl,rfl,_,rfl⟩,_,Heap.get?_push_size _ rfl,rfl⟩
theorem cT(h:PA X es t):PE X (.List es pos) (BF t):=by
 intro pins s σ H Q I hq
 refine wpAny_List_spliced (aH (h pos pins s σ H _ I hq) λus s1⟨xs,H1,I1,r,z,q⟩=>⟨by rw[<-r.length];exact z,?_⟩)
 have hf:H1 s1.heap.objs.size=none:=I1.hok.fresh (Nat.le_refl _)
 refine⟨.ref s1.heap.objs.size,upd H1 s1.heap.objs.size (.lst xs),I1.laid (t':=s1.toks) (λb u e=>Heap.get?_push_of_some _ e) (Nat.le_refl _) ?_,rfl,q _ hf⟩
 exact⟨z,us,0,r,Heap.get?_push_size _ rfl⟩
end
noncomputable abbrev Sp:=List V->Hp->VK->XK->Prop
noncomputable abbrev cX:=List Env->Hp->Shared->XK->Value->Shared->Prop
structure Env0 (P:Program) (w:World) (K:PySem.W.Frag) (mg:Str->Option Value) (base:Heap) (A:Around) (outer:List Env) (s:Shared) (H:Hp):Prop where
 frames:A.frames=some outer
 mod:Mod K mg base
 bs:∀b o,base.get? b=some o->s.heap.get? b=some o/\H b=none
 bsz:base.objs.size<=s.heap.objs.size
 funs:s.heap.FunFrames base outer
 frf:∀b∈aV outer,H b=none
 hok:HOk P w H s.heap
 bare:AllBare s.gens
noncomputable def CE(outer:List Env)(P:Program)(w:World)(H:Hp)(s:Shared)(Q:VK)(u:Value)(s':Shared):Prop:=
 ∃v H',s'.os=s.os/\AllBare s'.gens/\Un (aV outer) [] H H' s.heap s'.heap/\HOk P w H' s'.heap/\RelV v u/\Q v H'
noncomputable def CR(CX:cX)(outer:List Env)(P:Program)(w:World)(H:Hp)(s:Shared)(Q:VK)(E:XK)(r:Result)(s':Shared):Prop:=
 match r with
 | .ok (.ret u)=>CE outer P w H s Q u s'
 | .ok _=>False
 | .error e=>CX outer H s E e s'
structure FnOk (P:Program) (w:World) (K:PySem.W.Frag) (mg:Str->Option Value) (base:Heap) (CX:cX) (k:Nat) (f:Addr) (fd:FuncData) (ps:List Str) (sp:Sp):Prop where
 len:∀vs H Q E,sp vs H Q E->vs.length=ps.length
 run:∀(A:Around)(outer:List Env)(s:Shared)(H:Hp)(args:Args)(us:List Value)(vs:List V)(Q:VK)(E:XK),Room k A->Env0 P w K mg base A outer s H->BindsTo s fd args (ps.zip us)->Vals vs us->sp vs H Q E->
  codeAny (model P w) A (.call (.ref f) args) (CR CX outer P w H s Q E) s
theorem FnOk.mono{P:Program}{w:World}{K:PySem.W.Frag}{mg:Str->Option Value}{base:Heap}{CX:cX}{j k:Nat}{f:Addr}{fd:FuncData}{ps:List Str}{sp:Sp}(F:FnOk P w K mg base CX j f fd ps sp)(h:j<=k):
  FnOk P w K mg base CX k f fd ps sp:=⟨F.len,λA outer s H args us vs Q E hr=>F.run A outer s H args us vs Q E (hr.mono h)⟩
theorem FnOk.imp{P:Program}{w:World}{K:PySem.W.Frag}{mg:Str->Option Value}{base:Heap}{CX:cX}{k:Nat}{f:Addr}{fd:FuncData}{ps:List Str}{sp sp':Sp}(F:FnOk P w K mg base CX k f fd ps sp)
  (h:∀vs H Q E,sp' vs H Q E->sp vs H Q E):FnOk P w K mg base CX k f fd ps sp':=
 ⟨λvs H Q E q=>F.len vs H Q E (h _ _ _ _ q),λA outer s H args us vs Q E hr he hb hv hs=>F.run A outer s H args us vs Q E hr he hb hv (h _ _ _ _ hs)⟩
theorem Env0.in1{P:Program}{w:World}{K:PySem.W.Frag}{mg:Str->Option Value}{base:Heap}{A:Around}{outer:List Env}{s:Shared}{H:Hp}(e:Env0 P w K mg base A outer s H):
  Env0 P w K mg base A.in1 outer s H:=⟨e.frames,e.mod,e.bs,e.bsz,e.funs,e.frf,e.hok,e.bare⟩
section
variable{X:Cx}{pins:List (Addr×Obj)}{σ:St}{H:Hp}{s s':Shared}
theorem Inv.env0(I:Inv X pins σ H s):Env0 X.prog X.w X.K X.mg X.base X.A X.stack s H:=
 ⟨I.ok.frames,I.ok.mod,I.bs,Nat.le_trans I.ok.bsz I.sz,I.stack,I.stkFree,I.hok,I.bare⟩
theorem Inv.after{Q:VK}{u:Value}(I:Inv X pins σ H s)(h:CE X.stack X.prog X.w H s Q u s'):EP X pins σ Q u s':=by
 obtain⟨v,H',os,bare,un,hok,r,q⟩:=h
 obtain⟨hh,g,d,t,os'⟩:=s'
 obtain rfl:os'=s.os:=os
 exact⟨v,H',I.call (h':=hh) (g':=g) (d':=d) (t':=t) (ch:=[]) un hok bare (λb z=>absurd z (by simp)),r,q⟩
end
noncomputable def rQ(sp:Sp)(dvs:List V)(E:XK)(t:TA):TE:=λσ H Q=>t σ H λvs H1=>sp (vs++dvs) H1 Q E
noncomputable def Binds(K:PySem.W.Frag)(fd:FuncData)(ps:List Str)(ds:List Value):Prop:=
 ∀(s:Shared)(us:List Value),K.In s.heap->(us++ds).length=ps.length->BindsTo s fd ⟨us,[]⟩ (ps.zip (us++ds))
theorem Binds.all{K:PySem.W.Frag}{fd:FuncData}{ps:List Str}(h:∀us:List Value,us.length=ps.length->bindArgs fd ⟨us,[]⟩=pure (ps.zip us)):Binds K fd ps []:=λs us _ hl=>by
 rw[append_nil]at hl ⊢
 exact .of_eq (h us hl)
noncomputable def j3(CX:cX)(X:Cx)(E:XK):Prop:=∀(pins:List (Addr×Obj))(σ:St)(H:Hp)(s:Shared)(e:Value)(s':Shared),Inv X pins σ H s->CX X.stack H s E e s'->X.xe e s'
section
variable{X:Cx}{CX:cX}{k:Nat}{f C:Addr}{fd:FuncData}{ps:List Str}{sp:Sp}{dvs:List V}{ds:List Value}{E:XK}{x m:Str}{p pos apos:Pos}{e o:Expr}{es:List Expr}{ta:TE}{t:TA}
theorem C6{pins:List (Addr×Obj)}{σ:St}{H:Hp}{s:Shared}{Q:VK}{us:List Value}{vs:List V}(F:FnOk X.prog X.w X.K X.mg X.base CX k f fd ps sp)(hr:Room k X.A)(hb:Binds X.K fd ps ds)(hd:Vals dvs ds)(hx:j3 CX X E)
  (I:Inv X pins σ H s) (r:Vals vs us) (h:sp (vs++dvs) H Q E):wpAny (model X.prog X.w) X.A (call (.ref f) us) (EP X pins σ Q) X.xe s:=by
 have r2:Vals (vs++dvs) (us++ds):=r.append hd
 have hl:(us++ds).length=ps.length:=by rw[<-r2.length];exact F.len _ _ _ _ h
 refine wpAny_call (codeAny_mono (F.run X.A X.stack s H ⟨us,[]⟩ (us++ds) (vs++dvs) Q E hr I.env0 (hb s us I.kIn hl) r2 h) λr s' hq=>?_)
 cases r with
 |error e=>exact hx pins σ H s e s' I hq
 |ok fl=>
  cases fl with
  |ret u=>exact I.after hq
  |next=>exact False.elim hq
  |brk=>exact False.elim hq
  |cont=>exact False.elim hq
theorem aN(F:FnOk X.prog X.w X.K X.mg X.base CX k f fd ps sp)(hr:Room k X.A)(hg:Gl X x)(hm:X.mg x=some (.ref f))(hk:PySem.W.keepIn X.K (.ref f)=true)(hb:Binds X.K fd ps ds)(hd:Vals dvs ds)(hx:j3 CX X E)
  (ha:PA X (e::es) t) (hdb:(x==("__debug__":Str))=false:=by decide) (he:starEach (e::es) X.env=(false,eval e X.env)::starEach es X.env:=by rfl) (hpl:(backTo pos (starEach es X.env)).any (·.1)=false:=by rfl):
  PE X (.Call (.Name x p) (e::es) [] pos) (rQ sp dvs E t):=by
 intro pins s σ H Q I h
 refine wpAny_Call_Name_kw (kR I hg hm ?_ hdb)
 refine PySem.W.callWith_K (h₀:=X.base) I.ok.mod.kin hk (aH (ha pos pins s σ H _ I h) λus s1⟨vs,H1,I1,r,q⟩=>⟨I1.kIn,?_⟩) he hpl
 exact C6 F hr hb hd hx I1 r q
structure Mk (K:PySem.W.Frag) (C f:Addr):Prop where
 makes:PySem.W.makesIn K C=true
 init:PySem.W.findIn K (.ref C) "__init__"=some (some (.ref f))
 fn:PySem.W.isFn K (.ref f)=true
 kp:PySem.W.keepIn K (.ref C)=true
end
section
variable{X:Cx}{CX:cX}{k:Nat}{f C:Addr}{fd:FuncData}{ps ks:List Str}{sp:Sp}{E:XK}{x m:Str}{p pos apos kpos:Pos}{e o:Expr}{es:List Expr}{kws:List Keyword}{te ta:TE}{t tk:TA}{nm:Option Str}
structure aaJ (K:PySem.W.Frag) (fd:FuncData) (ps ks:List Str) (g:List Value->List Value->List Value) (gV:List V->List V->List V):Prop where
 to:∀(s:Shared)(us ws:List Value),K.In s.heap->(g us ws).length=ps.length->BindsTo s fd ⟨us,ks.zip ws⟩ (ps.zip (g us ws))
 rel:∀{vs:List V}{us:List Value}{zs:List V}{ws:List Value},Vals vs us->Vals zs ws->Vals (gV vs zs) (g us ws)
variable{g:List Value->List Value->List Value}{gV:List V->List V->List V}
end
structure aW (N P:List Str) (sc:Scope):Prop where
 kind:sc.kind=.function
 co:sc.isCoroutine=false
 gen:sc.isGenerator=false
 nd:N.Nodup
 pre:N.take P.length=P
 par:∀x∈P,sc.names.lookup x=some .local\/sc.names.lookup x=some .cell
 nofree:∀y∈sc.names,y.2≠.free
theorem HU{kindOf:Str->Option NameKind}{x:Str}:∀{binds:List (Str×Value)}{m:Str->Option Value},(∀v,(x,v)∉binds)->bindL kindOf binds m x=m x
 |[],_,_=>rfl
 | (n,v)::r,m,h=>by
  unfold bindL
  rw[HU λw hw=>h w (mem_cons_of_mem _ hw)]
  split
  ·have:x≠n:=by rintro rfl;exact h v mem_cons_self
   simp[this]
  ·rfl
theorem HW{kindOf:Str->Option NameKind}{x:Str}:∀{binds:List (Str×Value)}{m:Str->Option Value},(∀v,(x,v)∉binds)->bindC kindOf binds m x=m x
 |[],_,_=>rfl
 | (n,v)::r,m,h=>by
  unfold bindC
  rw[HW λw hw=>h w (mem_cons_of_mem _ hw)]
  split
  ·rfl
  ·have:x≠n:=by rintro rfl;exact h v mem_cons_self
   simp[this]
theorem HV{kindOf:Str->Option NameKind}{x:Str}{v:Value}:∀{P:List Str}{vs:List Value}{i:Nat}{m:Str->Option Value},P.Nodup->P[i]? =some x->vs[i]? =some v->kindOf x=some .local->
  bindL kindOf (P.zip vs) m x=some v
 |[],_,_,_,_,h,_,_=>by simp at h
 |_::_,[],_,_,_,_,h,_=>by simp at h
 |p::P,w::vs,0,m,nd,h1,h2,hk=>by
  simp at h1 h2;subst h1;subst h2
  show bindL kindOf ((p,w)::P.zip vs) m p=_
  unfold bindL
  rw[HU λv hv=>(nodup_cons.mp nd).1 (of_mem_zip hv).1,if_pos hk]
  simp
 |p::P,w::vs,i+1,m,nd,h1,h2,hk=>by
  show bindL kindOf ((p,w)::P.zip vs) m x=_
  unfold bindL
  exact HV (i:=i) (nodup_cons.mp nd).2 (by simpa using h1) (by simpa using h2) hk
theorem HX{kindOf:Str->Option NameKind}{x:Str}{v:Value}:∀{P:List Str}{vs:List Value}{i:Nat}{m:Str->Option Value},P.Nodup->P[i]? =some x->vs[i]? =some v->kindOf x≠some .local->
  bindC kindOf (P.zip vs) m x=some v
 |[],_,_,_,_,h,_,_=>by simp at h
 |_::_,[],_,_,_,_,h,_=>by simp at h
 |p::P,w::vs,0,m,nd,h1,h2,hk=>by
  simp at h1 h2;subst h1;subst h2
  show bindC kindOf ((p,w)::P.zip vs) m p=_
  unfold bindC
  rw[HW λv hv=>(nodup_cons.mp nd).1 (of_mem_zip hv).1,if_neg hk]
  simp
 |p::P,w::vs,i+1,m,nd,h1,h2,hk=>by
  show bindC kindOf ((p,w)::P.zip vs) m x=_
  unfold bindC
  exact HX (i:=i) (nodup_cons.mp nd).2 (by simpa using h1) (by simpa using h2) hk
noncomputable def start(N:List Str)(vs:List V):St:=vs.map some++replicate (N.length-vs.length) none
noncomputable def cO(CX:cX)(P:Program)(w:World)(K:PySem.W.Frag)(mg:Str->Option Value)(base:Heap)(N:List Str)(qual:Str)(scope:Scope)(f:Addr)(cd:Value)(A:Around)(outer:List Env)(s:Shared)(H:Hp)(E:XK):Cx where
 prog:=P
 w:=w
 K:=K
 mg:=mg
 base:=base
 A:=A.deeper (envOfC qual scope s.heap.objs.size f cd)
 N:=N
 s₀:=s
 H₀:=H
 env:=envOfC qual scope s.heap.objs.size f cd
 outer:=outer
 stack:=envOfC qual scope s.heap.objs.size f cd::outer
 ex:=[]
 calm:=true
 fn:=λ_=>true
 pn:=[]
 xe:=λe s'=>wpAny (model P w) (A.deeper (envOfC qual scope s.heap.objs.size f cd)) (leaving (envOfC qual scope s.heap.objs.size f cd) e) (λ_ s''=>CX outer H s E e s'') (λe' s''=>CX outer H s E e' s'') s'
theorem HP{sc:Scope}{n:Nat}{x:Str}(h:sc.names.lookup x=some .cell):∃c,(cellsFrom n sc.names []).lookup x=some c:=by
 have q:=PySem.W.cellsFrom_some sc.names n [] (.inl h)
 exact Option.isSome_iff_exists.mp q
theorem GM{CX:cX}{P:Program}{w:World}{K:PySem.W.Frag}{mg:Str->Option Value}{base:Heap}{N ps:List Str}{qual:Str}{scope:Scope}{f:Addr}{cd:Value}{A:Around}{outer:List Env}{s s1:Shared}{H:Hp}{E:XK}{us:List Value}{vs:List V}
  (S:aW N ps scope) (hd:A.handled=none) (e0:Env0 P w K mg base A outer s H) (hl:vs.length=ps.length) (r:Vals vs us)
  (x:InCallC s s.heap.objs.size (bindL (envOfC qual scope s.heap.objs.size f cd).kindOf (ps.zip us) λ_=>none) (cellsFrom (s.heap.objs.size+1) scope.names []) (bindC (envOfC qual scope s.heap.objs.size f cd).kindOf (ps.zip us) λ_=>none) s1):
  Inv (cO CX P w K mg base N qual scope f cd A outer s H E) [] (start N vs) H s1:=by
 have hpl:ps.length<=N.length:=by have:=congrArg List.length S.pre;rw[length_take]at this;lia
 obtain⟨h1,tk,rfl,hk⟩:=x.done
 have noA:∀b:Addr,b∉(cO CX P w K mg base N qual scope f cd A outer s H E).ex:=λb z=>absurd (show b∈([]:List Addr) from z) (by simp)
 refine⟨⟨e0.mod,S.kind,rfl,rfl,Nat.le_refl _,λy z c h1 h2=>?_,λy hy=>?_,λy c _ h=>?_,λ_=>hd,Around.frames_deeper e0.frames,.inr ⟨rfl,rfl⟩,λb z=>absurd z (noA b),e0.bs,e0.bsz,λb _ _=>noA b,λb z=>absurd z (noA b),e0.funs,e0.frf⟩,
  rfl,e0.bare,Un.kept hk,⟨_,x.toInCall.ns,λi y v h1 h2 h3=>?_⟩,λy c h=>⟨_,x.cell y c h⟩,e0.hok.fresh (Nat.le_refl _),λy c h=>?_,λp hp=>absurd (show p∈([]:List (Addr×Obj)) from hp) (by simp),e0.hok.kept hk,?_⟩
 ·exact name_of_addr x.apart (PySem.mem_of_lookup h1) (PySem.mem_of_lookup h2)
 ·have hy:scope.names.lookup y=some .cell\/scope.names.lookup y=some .free:=hy
  rcases hy with hy|hy
  ·exact HP hy
  ·exact absurd rfl (S.nofree _ (PySem.mem_of_lookup hy))
 ·exact Nat.le_of_lt (x.above y c (PySem.mem_of_lookup h))
 ·have hi:i<vs.length:=by
   unfold start at h2
   by_cases hi:i<vs.length
   ·exact hi
   ·rw[List.getElem?_append_right (by simpa using hi)]at h2
    rw[List.getElem?_replicate]at h2
    split at h2 <;> cases h2
  have ha:vs[i]? =some v:=by
   unfold start at h2
   rw[List.getElem?_append_left (by simpa using hi),List.getElem?_map]at h2
   cases e:vs[i]? with
   |none=>rw[e]at h2;cases h2
   |some a=>rw[e]at h2;cases h2;rfl
  obtain⟨u,hu,rv⟩:=r.get ha
  have hp:ps[i]? =some y:=by
   rw[<-S.pre,List.getElem?_take_of_lt (by lia)];exact h1
  have ndP:ps.Nodup:=by rw[<-S.pre];exact S.nd.sublist (take_sublist _ _)
  refine⟨u,rv,?_⟩
  rcases S.par y (List.mem_of_getElem? hp) with k|k
  ·exact .inl ⟨k,HV ndP hp hu k⟩
  ·obtain⟨c,e⟩:=HP (n:=s.heap.objs.size+1) k
   refine .inr ⟨.inl k,c,e,?_⟩
   have q:=x.cell y c e
   rw[HX ndP hp hu (by show scope.names.lookup y≠_;rw[k];decide)]at q
   exact q
 ·exact e0.hok.fresh (Nat.le_of_lt (x.above y c (PySem.mem_of_lookup h)))
 ·unfold start
  show _=N.length
  rw[length_append,length_map,length_replicate]
  lia
theorem GY{CX:cX}{P:Program}{w:World}{K:PySem.W.Frag}{mg:Str->Option Value}{base:Heap}{k:Nat}{f:Addr}{name qual:Str}{params:Arguments}{body:List Stmt}{scope:Scope}{dV kV doc pm cdv ct oc:Value}{an od:Option Addr}
  {osl:Array (Option Value)} {N ps:List Str} {sp:Sp} (lk:K.lookup f=some ⟨oc,od,.func (PySem.W.fnOf name qual params body scope dV kV doc pm an cdv ct),osl⟩) (hcd:PySem.W.codeIn K cdv qual=true) (S:aW N ps scope)
  (len:∀vs H Q E,sp vs H Q E->vs.length=ps.length)
  (hbody:∀(A:Around)(outer:List Env)(s:Shared)(H:Hp)(vs:List V)(Q:VK)(E:XK),Room k (A.deeper (envOfC qual scope s.heap.objs.size f cdv))->sp vs H Q E->
   ∃t,PSs (cO CX P w K mg base N qual scope f cdv A outer s H E) body t/\t { nx:=λ_ H'=>Q .non H',rt:=Q } (start N vs) H):
  FnOk P w K mg base CX (k+1) f (PySem.W.fnOf name qual params body scope dV kV doc pm an cdv ct) ps sp:=by
 refine⟨len,λA outer s H args us vs Q E hr e0 hb r hsp=>?_⟩
 have hl:=len _ _ _ _ hsp
 have KX:K.In s.heap:=e0.mod.kin.keeps λb o e=>(e0.bs b o e).1
 have lim:s.heap.NoLimit:=e0.mod.nolimit.keeps λb o e=>(e0.bs b o e).1
 have hkind:∀y∈ps.zip us,scope.names.lookup y.1=some .local\/(scope.names.lookup y.1=some .cell/\((cellsFrom (s.heap.objs.size+1) scope.names []).lookup y.1).isSome=true):=λ⟨n,v⟩hy=>by
  rcases S.par n (of_mem_zip hy).1 with q|q
  ·exact .inl q
  ·exact .inr ⟨q,PySem.W.cellsFrom_some _ _ _ (.inl q)⟩
 refine codeAny_call_function hr.depth (KX _ _ lk) rfl S.co S.gen rfl (PySem.W.codeRec_of KX hcd) (hb _ _ _ _ ?_)
 refine wpAny_newFunctionEnv_cells S.kind hkind λenv he s1 x=>?_
 subst he
 refine⟨lim.keeps x.toInCall.keep,codeAny_func ?_⟩
 obtain⟨t,ht,hq⟩:=hbody A outer s H vs Q E (hr.deeper _) hsp
 have I:Inv (cO CX P w K mg base N qual scope f cdv A outer s H E) [] (start N vs) H s1:=GM S hr.hd e0 hl r x
 refine wpAny_mono (ht [] s1 (start N vs) H _ I hq) (λfl s' hs=>?_) λe s' hs=>hs
 have fin:∀{σ':St}{H':Hp}{v:V}{u:Value},Inv (cO CX P w K mg base N qual scope f cdv A outer s H E) [] σ' H' s'->RelV v u->Q v H'->CE outer P w H s Q u s':=
  λ{σ' H' v u}J rv q=>⟨v,H',J.os,J.bare,J.base,J.hok,rv,q⟩
 cases fl with
 |ret u=>
  obtain⟨v,σ',H',J,rv,q⟩:=hs
  exact fin J rv q
 |next=>
  obtain⟨σ',H',J,q⟩:=hs
  exact fin (v:=V.non) (u:=Value.none) J rfl q
 |brk=>
  obtain⟨_,_,_,q⟩:=hs
  exact False.elim q
 |cont=>
  obtain⟨_,_,_,q⟩:=hs
  exact False.elim q
section
variable{X:Cx}{x:Str}{p pos:Pos}{e:Expr}{es:List Expr}{t:TA}{id T:String}{r:List V->Hp->VK->Prop}
noncomputable def rR(r:List V->Hp->VK->Prop)(t:TA):TE:=λσ H Q=>t σ H λvs H1=>r vs H1 Q
theorem aZ(hc:CallR X (.builtin id) r)(hg:Gl X x)(hm:X.mg x=none)(hv:bootBuiltins x=some (.builtin id))(ha:PA X (e::es) t)(hn:x≠"__name__":=by decide)(hdb:(x==("__debug__":Str))=false:=by decide)
  (he:starEach (e::es) X.env=(false,eval e X.env)::starEach es X.env:=by rfl) (hpl:(backTo pos (starEach es X.env)).any (·.1)=false:=by rfl):PE X (.Call (.Name x p) (e::es) [] pos) (rR r t):=by
 intro pins s σ H Q I h
 refine wpAny_Call_Name_kw (iI I hg hm hv ?_ hn hdb)
 exact PyProof.Rows.callWith_builtin1 (aH (ha pos pins s σ H _ I h) λus s1⟨vs,H1,I1,r1,q1⟩=>hc pins s1 σ H1 vs us Q I1 r1 q1) he hpl
theorem iC(hc:CallR X (.type T) r)(hg:Gl X x)(hm:X.mg x=none)(hv:bootBuiltins x=some (.type T))(ha:PA X (e::es) t)(hn:x≠"__name__":=by decide)(hdb:(x==("__debug__":Str))=false:=by decide)
  (he:starEach (e::es) X.env=(false,eval e X.env)::starEach es X.env:=by rfl) (hpl:(backTo pos (starEach es X.env)).any (·.1)=false:=by rfl):PE X (.Call (.Name x p) (e::es) [] pos) (rR r t):=by
 intro pins s σ H Q I h
 refine wpAny_Call_Name_kw (iI I hg hm hv ?_ hn hdb)
 exact PyProof.Rows.callWith_type1 (aH (ha pos pins s σ H _ I h) λus s1⟨vs,H1,I1,r1,q1⟩=>hc pins s1 σ H1 vs us Q I1 r1 q1) he hpl
end
end L2
namespace HT
open PySem PyProof.Rows
noncomputable def lexLt:List Int->List Int->Bool
 |[],[]=>false
 |[],_::_=>true
 |_::_,[]=>false
 |x::xs,y::ys=>if x=y then lexLt xs ys else decide (x<y)
theorem eB(x y:Int)(xs ys:List Int):lexLt (x::xs) (y::ys)=if x=y then lexLt xs ys else decide (x<y):=rfl
theorem UV:lexLt [] []=false:=rfl
theorem UW(y:Int)(ys:List Int):lexLt [] (y::ys)=true:=rfl
theorem UX(x:Int)(xs:List Int):lexLt (x::xs) []=false:=rfl
theorem W8(A:Around)(s:Shared)(a:Int)(t:Tok)(c:Int)(u:Tok):∃e,SeqAt.EqAt A s (.int a t) (.int c u) e/\(e=true<->a=c):=
 ⟨(a==c),SeqAt.EqAt.int_int a t c u,by simp⟩
theorem DZ(A:Around)(s:Shared)(a:Int)(t:Tok)(c:Int)(u:Tok)(prog:Program)(w:World)(E:Value->Shared->Prop)(Q:Value->Shared->Prop)(h:Q (.bool (decide (a<c))) s):
  wpAny (model prog w) A (richCompare .Lt (.int a t) (.int c u)) Q E s:=
 (PyProof.Rows.lt_int h:wpAny (model prog w) A (compareOp .Lt (.int a t) (.int c u)) Q E s)
section
open PySem.SeqAt
open PySem.AutoSeq1 (wpAny_loadPart')
open PySem.MeetsSeq PySem.MeetsSeq2 PySem.MeetsSeq3
theorem K5(l b:Addr)(items items2:Array Value)(n n2:Nat)(dd dd2:Option Addr)(sl sl2:Array (Option Value))(ns ms:List Int)(hi:IntsAre items.toList ns)(hj:IntsAre items2.toList ms):
  Meets (Builtin.«tuple.__lt__» ⟨[.ref l,.ref b],[]⟩)
   (λ_ R s=>s.heap.get? l=some { cls:=.type "tuple",dict:=dd,data:=.seq items n,slots:=sl }/\s.heap.get? b=some { cls:=.type "tuple",dict:=dd2,data:=.seq items2 n2,slots:=sl2 }/\
    R (.ok (.ret (.bool (lexLt ns ms)))) s):=
 .of_wp λprog w A R s h=>by
  obtain⟨hp,g,d,tk,os⟩:=s;obtain⟨hl,hb,h⟩:=h
  have f2:=AutoSeq1.sub_tuple_tuple
  have z1:items.size=ns.length:=by rw[<-hi.length];simp
  have z2:items2.size=ms.length:=by rw[<-hj.length];simp
  wp_walk using wpAny_loadPart' hl,wpAny_loadPart' hb,wpAny_forIn_list _ (λcA b s'=>b.1=none/\s'=⟨hp,g,d,tk,os⟩/\∃(vs ws:List Value)(ns' ms':List Int),cA=vs.zip ws/\
   IntsAre vs ns'/\IntsAre ws ms'/\ns'.length+items2.size=ms'.length+items.size/\R (.ok (.ret (.bool (lexLt ns' ms')))) ⟨hp,g,d,tk,os⟩) _
  case turn=>
   rintro⟨y,x⟩ cA b s' ⟨hb',rfl,vs,ws,ns',ms',hz,hvi,hwi,hlen,hR⟩
   cases hvi with
   |nil=>rw[List.zip_nil_left]at hz;cases hz
   | cons a t hvi'=>
    cases hwi with
    |nil=>rw[List.zip_nil_right]at hz;cases hz
    | cons c u hwi'=>
     rw[zip_cons_cons]at hz
     injection hz with hyx hrest
     injection hyx with hy hx
     subst hy hx
     rw[eB]at hR
     simp only[length_cons]at hlen
     obtain⟨e,he,hiff⟩:=W8 A.in1 ⟨hp,g,d,tk,os⟩ a t c u
     refine wpAny_bind (he prog w _ _ ?_)
     cases e with
     |true=>
      rw[if_pos (hiff.mp rfl)]at hR
      wp_walk
      exact⟨rfl,rfl,_,_,_,_,hrest,hvi',hwi',by lia,hR⟩
     |false=>
      rw[if_neg (λq=>absurd (hiff.mpr q) Bool.false_ne_true)]at hR
      have hri:=DZ A.in1 ⟨hp,g,d,tk,os⟩ a t c u prog w
      wp_walk using hri
      exact⟨_,rfl,by simpa using hR⟩
  case fin=>
   rintro⟨b1,b2⟩ s' ⟨hb',rfl,vs,ws,ns',ms',hz,hvi,hwi,hlen,hR⟩
   simp only at hb'
   subst hb'
   have hv:lexLt ns' ms'=decide (items.size<items2.size):=by
    cases hvi with
    | nil=>
     cases hwi with
     |nil=>
      simp only[length_nil]at hlen
      rw[UV]
      exact(decide_eq_false (by lia)).symm
     |cons c u hw=>
      simp only[length_nil,length_cons]at hlen
      rw[UW]
      exact(decide_eq_true (by lia)).symm
    | cons a t hv=>
     cases hwi with
     |nil=>
      simp only[length_nil,length_cons]at hlen
      rw[UX]
      exact(decide_eq_false (by lia)).symm
     |cons c u hw=>
      rw[zip_cons_cons]at hz
      cases hz
   rw[hv]at hR
   wp_walk
   exact⟨_,rfl,by simpa[Builtin.Tuple.tupleCompareSizes]using hR⟩
  case h=>
   exact⟨rfl,rfl,items.toList,items2.toList,ns,ms,rfl,hi,hj,by lia,h⟩
end
section
variable{prog:Program}{w:World}{A:Around}{E:Value->Shared->Prop}{s:Shared}
theorem UL{l b:Addr}{items items2:Array Value}{ns ms:List Int}{Q:Value->Shared->Prop}(hl:IsTup s.heap l items)(hb:IsTup s.heap b items2)(hi:IntsAre items.toList ns)(hj:IntsAre items2.toList ms)
  (hu:A.units<cLine) (h:Q (.bool (lexLt ns ms)) s):wpAny (model prog w) A (compareOp .Lt (.ref l) (.ref b)) Q E s:=by
 obtain⟨⟨cls,dd,data,sl⟩,ho,hc,n,hd⟩:=id hl
 obtain⟨⟨cls2,dd2,data2,sl2⟩,ho2,hc2,n2,hd2⟩:=id hb
 simp only at hc hd hc2 hd2
 subst hc hd hc2 hd2
 exact richCompare_meets_room (op:=.Lt) ⟨_,ho,rfl⟩ ⟨_,ho2,rfl⟩ PySem.F.slot_tuple_lt PySem.F.entry_tuple_lt (PySem.F.args_tuple_lt_2 _ _) (K5 l b items items2 n n2 dd dd2 sl sl2 ns ms hi hj)
  ⟨ho,ho2,show Value.bool (lexLt ns ms)≠Value.notImplemented/\Q (.bool (lexLt ns ms)) s from⟨(λx=>nomatch x),h⟩⟩ hu
end
end HT
namespace L2
open PySem PySem.Spec PyProof.Rows
noncomputable abbrev TO:=St->Hp->(Option Int->Hp->Prop)->Prop
theorem intsAre_of{ns:List Int}:∀{us:List Value},Vals (ns.map V.int) us->IntsAre us ns:=by
 induction ns with
 |nil=>intro us r;rw[map_nil]at r;cases r;exact .nil
 | cons n ns ih=>
  intro us r
  rw[map_cons]at r
  cases r with
  |cons r1 r2=>
   obtain⟨t,e⟩:=r1
   subst e
   exact .cons n t (ih r2)
section
variable{X:Cx}{e:Expr}{te:TE}{lo hi:Option Expr}{tl th:TO}{pos p2:Pos}
noncomputable def SlR(X:Cx)(r:V->Option Int->Option Int->Hp->VK->Prop):Prop:=
 ∀(pins:List (Addr×Obj))(s:Shared)(σ:St)(H:Hp)(x:V)(v vl vu:Value)(lo hi:Option Int)(sl:Addr)(Q:VK),Inv X pins σ H s->RelV x v->s.heap.IsSliceOf sl vl vu .none->IsPart vl lo->IsPart vu hi->r x lo hi H Q->
  ∃T id,typeLookup (.type T) "__getitem__"=pure (some (.builtin id))/\s.TypeIs v T/\wpAny (model X.prog X.w) X.A (getItem v (.ref sl)) (EP X pins σ Q) X.xe s
theorem SlR.or{r r':V->Option Int->Option Int->Hp->VK->Prop}(h:SlR X r)(h':SlR X r'):SlR X (λx lo hi H Q=>r x lo hi H Q\/r' x lo hi H Q):=by
 intro pins s σ H x v vl vu lo hi sl Q I rx hs pl pu q
 rcases q with q|q
 ·exact h pins s σ H x v vl vu lo hi sl Q I rx hs pl pu q
 ·exact h' pins s σ H x v vl vu lo hi sl Q I rx hs pl pu q
noncomputable def uJ(K:PySem.W.Frag):R2:=λx y H Q=>∃a b ns ms,x=.ref a/\y=.ref b/\SqT K H a (ns.map V.int)/\SqT K H b (ms.map V.int)/\Q (.bl (HT.lexLt ns ms)) H
theorem Q7(hu:X.A.units<cLine):OpR X (compareOp .Lt) (uJ X.K):=by
 intro pins s σ H x y v u Q I rx ry h
 obtain⟨a,b,ns,ms,rfl,rfl,ha,hb,q⟩:=h
 cases rx
 cases ry
 obtain⟨its,r1,p1,_⟩:=I.tuple ha
 obtain⟨its2,r2,p2,_⟩:=I.tuple hb
 have i1:IntsAre its.toArray.toList ns:=intsAre_of r1
 have i2:IntsAre its2.toArray.toList ms:=intsAre_of r2
 exact HT.UL p1 p2 i1 i2 hu ⟨.bl (HT.lexLt ns ms),H,I,rfl,q⟩
end
noncomputable def iK(n:Nat)(i:Int):Option Nat:=if 0<=i then(if i<n then some i.toNat else none) else if -(n:Int)<=i then some (i+n).toNat else none
noncomputable def eP{α:Type}(xs:List α)(i:Int):Option α:=(iK xs.length i).bind λj=>xs[j]?
theorem GG{n:Nat}{i:Int}{j:Nat}(h:iK n i=some j):seqIndex? i n=some j/\j<n/\-(n:Int)<=i/\i<n:=by
 unfold iK at h
 by_cases h0:0<=i
 ·rw[if_pos h0]at h
  by_cases h1:i<n
  ·rw[if_pos h1]at h
   have e:i.toNat=j:=Option.some.inj h
   exact⟨by rw[seqIndex_of h0 h1,e],by lia,by lia,h1⟩
  ·rw[if_neg h1]at h;cases h
 ·rw[if_neg h0]at h
  by_cases h1:-(n:Int)<=i
  ·rw[if_pos h1]at h
   have e:(i+n).toNat=j:=Option.some.inj h
   exact⟨by rw[seqIndex_neg (by lia) h1,e],by lia,h1,by lia⟩
  ·rw[if_neg h1]at h;cases h
theorem IM{α:Type}{xs:List α}{i:Int}{v:α}(h:eP xs i=some v):∃j,seqIndex? i xs.length=some j/\xs[j]? =some v/\j<xs.length/\-(xs.length:Int)<=i/\i<xs.length:=by
 unfold eP at h
 cases e:iK xs.length i with
 |none=>rw[e]at h;cases h
 |some j=>
  rw[e]at h
  obtain⟨h1,h2,h3,h4⟩:=GG e
  exact⟨j,h1,h,h2,h3,h4⟩
theorem Z5{α:Type}{xs:List α}{j:Nat}{v:α}(h:xs[j]? =some v):eP xs (j:Int)=some v:=by
 have hj:j<xs.length:=(List.getElem?_eq_some_iff.mp h).1
 have e:iK xs.length (j:Int)=some j:=by
  unfold iK
  rw[if_pos (by lia),if_pos (by lia)];simp
 unfold eP;rw[e];exact h
noncomputable def aaC(b:Expr):Prop:=∀o i,subscripted b false o i=operate [o,i] (getItem o i)
noncomputable def IxR(X:Cx)(r:R2):Prop:=
 ∀(value slice:Expr)(pins:List (Addr×Obj))(s:Shared)(σ:St)(H:Hp)(x y:V)(v u:Value)(Q:VK),Inv X pins σ H s->RelV x v->RelV y u->r x y H Q->
  subscripted slice false v u=operate [v,u] (getItem v u)->wpAny (model X.prog X.w) X.A (subscriptTail value slice v u) (EP X pins σ Q) X.xe s
noncomputable def MtR(X:Cx)(id:String)(r:V->List V->Hp->VK->Prop):Prop:=
 ∀(pins:List (Addr×Obj))(s:Shared)(σ:St)(H:Hp)(x:V)(xs:List V)(v:Value)(us:List Value)(Q:VK),Inv X pins σ H s->RelV x v->Vals xs us->r x xs H Q->
  wpAny (model X.prog X.w) X.A (call (.builtin id) (v::us)) (EP X pins σ Q) X.xe s
section
variable{X:Cx}{a b:Expr}{ta tb:TE}{pos:Pos}
theorem IxR.or{r r':R2}(h:IxR X r)(h':IxR X r'):IxR X (λx y H Q=>r x y H Q\/r' x y H Q):=by
 intro value slice pins s σ H x y v u Q I rx ry q hs
 rcases q with q|q
 ·exact h value slice pins s σ H x y v u Q I rx ry q hs
 ·exact h' value slice pins s σ H x y v u Q I rx ry q hs
theorem MtR.or{id:String}{r r':V->List V->Hp->VK->Prop}(h:MtR X id r)(h':MtR X id r'):MtR X id (λx xs H Q=>r x xs H Q\/r' x xs H Q):=by
 intro pins s σ H x xs v us Q I rx rs q
 rcases q with q|q
 ·exact h pins s σ H x xs v us Q I rx rs q
 ·exact h' pins s σ H x xs v us Q I rx rs q
theorem aQ{r:R2}(hr:IxR X r)(ha:PE X a ta)(hb:PE X b tb)(hs:aaC b):PE X (.Subscript a b pos) (lV r ta tb):=by
 intro pins s σ H Q I h
 exact Subscript_ (yR ha hb I h λv u s2 x y H2 I2 rx ry q=>hr a b pins s2 σ H2 x y v u Q I2 rx ry q (hs _ _))
noncomputable def P1(K:PySem.W.Frag):R2:=λx y H Q=>∃p xs i v,x=.ref p/\y=.int i/\SqL K H p xs/\eP xs i=some v/\Q v H
noncomputable def PZ(K:PySem.W.Frag):R2:=λx y H Q=>∃p xs i v,x=.ref p/\y=.int i/\SqT K H p xs/\eP xs i=some v/\Q v H
theorem VY:IxR X (P1 X.K):=by
 intro value slice pins s σ H x y v u Q I rx ry h hs
 obtain⟨p,xs,i,z,rfl,rfl,hq,he,q⟩:=h
 cases rx
 obtain⟨t,rfl⟩:=ry
 obtain⟨its,r,pl,hz⟩:=I.list hq
 obtain⟨j,h1,h2,h3,h4,h5⟩:=IM he
 obtain⟨w,ew,rw'⟩:=r.get h2
 have hl:=r.length
 have hn:=pK
 have fin:EP X pins σ Q w s:=⟨z,H,I,rw',q⟩
 by_cases h0:0<=i
 ·have hj:i.toNat=j:=by
   rw[seqIndex_of h0 h5]at h1
   exact Option.some.inj h1
  exact item_listR pl.isList h0 (by lia) (by rw[hj];simpa using ew) fin hs
 ·have hj:(i+(its.toArray.size:Int)).toNat=j:=by
   rw[seqIndex_neg (by lia) h4]at h1
   rw[size_toArray,<-hl]
   exact Option.some.inj h1
  exact subscriptTail_builtinR (x:=w) pl.isList.typeIs slot_list_getitem.lookup
   (wpAny_getItem_list_neg (Q:=λr s'=>r=w/\EP X pins σ Q r s') pl.isList (by lia) (by rw[size_toArray] <;> lia) (by lia) (by rw[hj];simpa using ew) ⟨rfl,fin⟩) hs
theorem VX:IxR X (PZ X.K):=by
 intro value slice pins s σ H x y v u Q I rx ry h hs
 obtain⟨p,xs,i,z,rfl,rfl,hq,he,q⟩:=h
 cases rx
 obtain⟨t,rfl⟩:=ry
 obtain⟨its,r,pl,hz⟩:=I.tuple hq
 obtain⟨j,h1,h2,h3,h4,h5⟩:=IM he
 obtain⟨w,ew,rw'⟩:=r.get h2
 have hl:=r.length
 have hn:=pK
 have fin:EP X pins σ Q w s:=⟨z,H,I,rw',q⟩
 exact subscriptTail_builtinR (x:=w) pl.typeIs slot_tuple_getitem.lookup
  (getItem_tuple (j:=j) (Q:=λr s'=>r=w/\EP X pins σ Q r s') pl (by lia) (by lia) (by rw[size_toArray,<-hl];exact h1) (by simpa using ew) ⟨rfl,fin⟩) hs
theorem TK(its:List Value)(n j:Nat)(u:Value):Obj.mapSeq (·.setIfInBounds j u) { cls:=.type "list",data:=.seq its.toArray n }={ cls:=.type "list",data:=.seq (its.set j u).toArray n }:=by
 simp[Obj.mapSeq]
theorem Inv.lst{pins:List (Addr×Obj)}{σ:St}{H:Hp}{s:Shared}{p:Addr}{xs:List V}(I:Inv X pins σ H s)(h:H p=some (.lst xs)):
  ∃(its:List Value)(n:Nat),Vals xs its/\s.heap.get? p=some { cls:=.type "list",data:=.seq its.toArray n }/\xs.length<=sizeLine:=by
 obtain⟨z,its,n,r,e⟩:=I.hok p _ h
 exact⟨its,n,r,e,z⟩
theorem Inv.lstUpd{pins:List (Addr×Obj)}{σ:St}{H:Hp}{s:Shared}{p:Addr}{xs ys:List V}{its its':List Value}{n n':Nat}{f:Obj->Obj}(I:Inv X pins σ H s)(h:H p=some (.lst xs))
  (ho:s.heap.get? p=some { cls:=.type "list",data:=.seq its.toArray n }) (hf:f { cls:=.type "list",data:=.seq its.toArray n }={ cls:=.type "list",data:=.seq its'.toArray n' }) (r:Vals ys its') (hz:ys.length<=sizeLine) (t:Nat):
  Inv X pins σ (upd H p (.lst ys)) { s with heap:=s.heap.update p f,toks:=t }:=by
 have e:(s.heap.update p f).get? p=some { cls:=.type "list",data:=.seq its'.toArray n' }:=by
  rw[Heap.get?_update_self f ho (by rw[hf] <;> rfl),hf]
 refine I.write (x:=p) (e:=p) (by rw[h];trivial) (.inl rfl) (λb u hb q=>(Heap.get?_update_other _ _ (Ne.symm hb)).trans q) ⟨_,e⟩ ?_
 exact⟨hz,its',n',r,e⟩
noncomputable def D0:V->V->V->Hp->(Hp->Prop)->Prop:=λo i v H Q=>∃p xs k j,o=.ref p/\i=.int k/\H p=some (.lst xs)/\iK xs.length k=some j/\Q (upd H p (.lst (xs.set j v)))
theorem sD:IT X D0:=by
 intro pins s σ H o i v ov iv u Q I ro ri rv h
 obtain⟨p,xs,k,j,rfl,rfl,hp,hj,q⟩:=h
 cases ro
 obtain⟨t,rfl⟩:=ri
 obtain⟨its,n,r,ho,hz⟩:=I.lst hp
 obtain⟨h1,h2,h3,h4⟩:=GG hj
 have hl:=r.length
 have hn:=pK
 have I':Inv X pins σ (upd H p (.lst (xs.set j v))) { s with heap:=s.heap.update p (Obj.mapSeq (·.setIfInBounds j u)) }:=
  I.lstUpd hp ho (TK its n j u) (r.set rv j) (by rw[length_set];exact hz) s.toks
 by_cases h0:0<=k
 ·have hk:k.toNat=j:=by
   rw[seqIndex_of h0 h4]at h1
   exact Option.some.inj h1
  exact PySem.W.ki_setAt ho h0 (by lia) (by rw[size_toArray,<-hl];exact h4) (by rw[hk];exact⟨_,I',q⟩)
 ·have hk:(k+(its.toArray.size:Int)).toNat=j:=by
   rw[seqIndex_neg (by lia) h3]at h1
   rw[size_toArray,<-hl]
   exact Option.some.inj h1
  exact PySem.W.ki_setBack ho (by lia) (by rw[size_toArray,<-hl];exact h3) (by lia) (by rw[hk];exact⟨_,I',q⟩)
theorem YJ:CallR X (.builtin "len") (λxs H Q=>∃p ys,xs=[.ref p]/\(SqL X.K H p ys\/SqT X.K H p ys)/\Q (.int ys.length) H):=by
 intro pins s σ H xs us Q I r h
 obtain⟨p,ys,rfl,hq,q⟩:=h
 obtain⟨u,rfl,rx⟩:=vals1 r
 cases rx
 have hn:=pK
 rcases hq with hq|hq
 ·obtain⟨its,r',pl,hz⟩:=I.list hq
  have hlen:=r'.length
  exact Calls.call_len_list pl.isList (by simp only[size_toArray] <;> lia) ⟨.int ys.length,H,I.tok _,⟨s.toks+1,by rw[size_toArray,hlen]⟩,q⟩
 ·obtain⟨its,r',pl,hz⟩:=I.tuple hq
  have hlen:=r'.length
  exact len_tuple pl (by simp only[size_toArray] <;> lia) ⟨.int ys.length,H,I.tok _,⟨s.toks+1,by rw[size_toArray,hlen]⟩,q⟩
theorem CallR.or{f:Value}{r r':List V->Hp->VK->Prop}(h:CallR X f r)(h':CallR X f r'):CallR X f (λxs H Q=>r xs H Q\/r' xs H Q):=by
 intro pins s σ H xs us Q I rs q
 rcases q with q|q
 ·exact h pins s σ H xs us Q I rs q
 ·exact h' pins s σ H xs us Q I rs q
theorem YI:CallR X (.type "list") (λxs H Q=>∃p ys,xs=[.ref p]/\(SqL X.K H p ys\/SqT X.K H p ys)/\∀l,H l=none->Q (.ref l) (upd H l (.lst ys))):=by
 intro pins s σ H xs us Q I r h
 obtain⟨p,ys,rfl,hq,q⟩:=h
 obtain⟨u,rfl,rx⟩:=vals1 r
 cases rx
 have fin:∀(its:List Value),Vals ys its->ys.length<=sizeLine->∀(h':Heap)(c':Nat),(∀b o',s.heap.get? b=some o'->h'.get? b=some o')->
   h'.get? s.heap.objs.size=some { cls:=.type "list",dict:=none,data:=.seq its.toArray c',slots:=#[] }->EP X pins σ Q (.ref s.heap.objs.size) { s with heap:=h' }:=λits r' hz h' c' kp e=>
  ⟨.ref s.heap.objs.size,_,I.laid (t':=s.toks) kp (Nat.le_refl _) (show ObjOk X.prog X.w _ h' _ (.lst ys) from⟨hz,its,c',r',e⟩),rfl,q _ (I.hok.fresh (Nat.le_refl _))⟩
 rcases hq with hq|hq
 ·obtain⟨its,r',pl,hz⟩:=I.list hq
  have hlen:=r'.length
  obtain⟨o,ho,hc,n,hd⟩:=pl.isList
  exact call_list_seq p (.inl rfl) ho hc hd (λh' c' kp e=>fin its r' hz h' c' kp e) (by simp only[size_toArray] <;> lia)
 ·obtain⟨its,r',pl,hz⟩:=I.tuple hq
  have hlen:=r'.length
  obtain⟨o,ho,hc,n,hd⟩:=pl
  exact call_list_seq p (.inr rfl) ho hc hd (λh' c' kp e=>fin its r' hz h' c' kp e) (by simp only[size_toArray] <;> lia)
theorem X9:CallR X (.type "tuple") (λxs H Q=>∃p ys,xs=[.ref p]/\((SqL X.K H p ys/\∀l,H l=none->Q (.ref l) (upd H l (.tup ys)))\/(SqT X.K H p ys/\Q (.ref p) H))):=by
 intro pins s σ H xs us Q I r h
 obtain⟨p,ys,rfl,h⟩:=h
 obtain⟨u,rfl,rx⟩:=vals1 r
 cases rx
 rcases h with⟨hq,q⟩|⟨hq,q⟩
 ·obtain⟨its,r',pl,hz⟩:=I.list hq
  have hlen:=r'.length
  refine call_tuple_list pl.isList (λh' kp=>?_) (by simp only[size_toArray] <;> lia)
  have I1:Inv X pins σ H { s with heap:=h' }:=I.kept (t':=s.toks) kp
  have I2:Inv X pins σ (upd H h'.objs.size (.tup ys)) { s with heap:=h'.push { cls:=.type "tuple",data:=.seq its.toArray } }:=
   I1.laid (t':=s.toks) (λb o e=>Heap.get?_push_of_some _ e) (Nat.le_refl _) (show ObjOk X.prog X.w _ _ _ (.tup ys) from⟨hz,its,r',IsTupN.new _ _⟩)
  exact⟨.ref h'.objs.size,_,I2,rfl,q _ (I1.hok.fresh (Nat.le_refl _))⟩
 ·obtain⟨its,r',pl,hz⟩:=I.tuple hq
  exact call_tuple_same pl ⟨.ref p,H,I,rfl,q⟩
noncomputable def oA(K:PySem.W.Frag)(T:String)(x:V)(H:Hp):Prop:=match x with
 | .str _=>T="str"
 | .int _=>T="int"
 | .ref p=>(T="list"/\∃xs,SqL K H p xs)\/(T="tuple"/\∃o,K.lookup p=some o/\o.cls=.type "tuple"/\o.dict=none)\/
   (T="dict"/\((∃kvs,H p=some (.dK kvs))\/∃kvs,H p=some (.dT kvs)))\/(T="set"/\∃S n,H p=some (.set S n))
 |_=>False
theorem KY{pins:List (Addr×Obj)}{σ:St}{H:Hp}{s:Shared}{T:String}{x:V}{v:Value}(I:Inv X pins σ H s)(r:RelV x v)(ty:oA X.K T x H):
  s.TypeIs v T/\∀a,v=.ref a->∃ob,s.heap.get? a=some ob/\ob.dict=none:=by
 cases x with
 |str z=>
  obtain⟨t,rfl⟩:=r
  cases(show T="str" from ty)
  exact⟨typeIs_str s z t,λ_ e=>nomatch e⟩
 |int i=>
  obtain⟨t,rfl⟩:=r
  cases(show T="int" from ty)
  exact⟨typeIs_int s i t,λ_ e=>nomatch e⟩
 | ref p=>
  cases r
  rcases ty with⟨rfl,xs,hq⟩|⟨rfl,o,hk,hc,hd⟩|⟨rfl,hk⟩|⟨rfl,S,n,hk⟩
  ·obtain⟨its,_,pl,_⟩:=I.list hq
   refine⟨pl.isList.typeIs,λa e=>?_⟩
   cases e
   obtain⟨o,n,e,c,hd,_⟩:=pl
   exact⟨o,e,hd⟩
  ·refine⟨⟨o,I.kIn p o hk,hc⟩,λa e=>?_⟩
   cases e
   exact⟨o,I.kIn _ o hk,hd⟩
  ·have z:∃o,s.heap.get? p=some o/\o.ExactDict:=by
    rcases hk with⟨kvs,hk⟩|⟨kvs,hk⟩
    ·obtain⟨_,_,_,_,o,_,_,e,ex,_⟩:=I.hok p _ hk
     exact⟨o,e,ex⟩
    ·obtain⟨_,_,_,_,o,_,_,e,ex,_⟩:=I.hok p _ hk
     exact⟨o,e,ex⟩
   obtain⟨o,e,ex⟩:=z
   refine⟨⟨o,e,ex.1⟩,λa e2=>?_⟩
   cases e2
   exact⟨o,e,ex.2.1⟩
  ·obtain⟨o,_,_,_,e,ex,_⟩:=I.hok p _ hk
   refine⟨⟨o,e,ex.1⟩,λa e2=>?_⟩
   cases e2
   exact⟨o,e,ex.2.1⟩
 |_=>exact False.elim ty
noncomputable def rS(K:PySem.W.Frag)(T:String)(r:V->List V->Hp->VK->Prop)(to:TE)(t:TA):TE:=λσ H Q=>to σ H λx H1=>oA K T x H1/\t σ H1 λxs H2=>r x xs H2 Q
variable{o e:Expr}{es:List Expr}{to:TE}{t:TA}{name:Str}{apos cpos:Pos}{T id:String}{r:V->List V->Hp->VK->Prop}
theorem QY(pa:PlainAttrs T)(slot:Slot T name id)(hty:typeOf (.builtin id)=pure (.type "method_descriptor"))(hm:MtR X id r)(ho:PE X o to)(ha:PA X (e::es) t)
  (hbase:attributeBase o name X.env (eval o X.env)=eval o X.env:=by rfl)
  (hfew:((backTo cpos (starEach (e::es) X.env)).all (λx=> !x.1)&&(backToKw cpos (keywordEach [] X.env)).all (λx=>x.1.isSome)
   &&decide ((e::es).length+([]:List Keyword).length+(if([]:List Keyword).isEmpty then 0 else 1)<30))=true:=by rfl)
  (hline:(apos.endLine==cpos.line)=true:=by rfl) (hs:starEach (e::es) X.env=(false,eval e X.env)::starEach es X.env:=by rfl) (hplain:(backTo cpos (starEach es X.env)).any (·.1)=false:=by rfl):
  PE X (.Call (.Attribute o name apos) (e::es) [] cpos) (rS X.K T r to t):=by
 intro pins s σ H Q I h
 refine wpAny_Call_method_late hbase hfew hline rfl (aH (ho pins s σ H _ I h) λv s1⟨x,H1,I1,r1,ty,q1⟩=>?_)
 obtain⟨h1,h2⟩:=KY I1 r1 ty
 refine⟨T,id,pa,slot,hty,h1,h2,?_⟩
 have hA:=ha cpos pins s1 σ H1 _ I1 q1
 rw[hs]at hA ⊢
 refine Calls.callWith_builtin (by show(false||(backTo cpos (starEach es X.env)).any (·.1))=false;rw[hplain] <;> rfl) (Calls.evalArgs_plain ?_)
 exact aH hA λus s2⟨vs,H2,I2,r2,q2⟩=>hm pins s2 σ H2 x vs v us Q I2 r1 r2 q2
end
noncomputable def qR(X:Cx)(id:String)(r:V->List V->Hp->VK->Prop):Prop:=
 ∀(pins:List (Addr×Obj))(s:Shared)(σ:St)(H:Hp)(x:V)(xs:List V)(v:Value)(us:List Value)(Q:VK),Inv X pins σ H s->RelV x v->Vals xs us->r x xs H Q->
  wpAny (model X.prog X.w) X.A (call (.builtin id) (v::us)) (EP X pins σ Q) X.xe s
theorem Vals.one:∀{x:V}{us:List Value},Vals [x] us->∃u,us=[u]/\RelV x u
 |_,_,.cons r .nil=>⟨_,rfl,r⟩
theorem Vals.two{x y:V}{us:List Value}(h:Vals [x,y] us):∃u v,us=[u,v]/\RelV x u/\RelV y v:=by
 cases h with
 |cons r t=>
 cases t with
 |cons q t=>
 cases t
 exact⟨_,_,rfl,r,q⟩
theorem Vals.dropLast{xs:List V}{us:List Value}(h:Vals xs us):Vals xs.dropLast us.dropLast:=by
 induction h with
 |nil=>exact .nil
 |cons r t ih=>
  cases t with
  |nil=>exact .nil
  |cons q t'=>exact .cons r ih
theorem Vals.eraseIdx:∀{xs:List V}{us:List Value}(i:Nat),Vals xs us->Vals (xs.eraseIdx i) (us.eraseIdx i)
 |_,_,_,.nil=>.nil
 |_,_,0,.cons _ t=>t
 |_,_,i+1,.cons r t=>.cons r (Vals.eraseIdx i t)
theorem Vals.reverse{xs:List V}{us:List Value}(h:Vals xs us):Vals xs.reverse us.reverse:=by
 induction h with
 |nil=>exact .nil
 |cons r t ih=>rw[reverse_cons,reverse_cons];exact Vals.append ih (.cons r .nil)
theorem Vals.rep{xs:List V}{us:List Value}(h:Vals xs us):∀k:Nat,Vals (replicate k xs).flatten (replicate k us).flatten
 |0=>.nil
 |k+1=>by
  rw[replicate_succ,replicate_succ,flatten_cons,flatten_cons]
  exact Vals.append h (Vals.rep h k)
theorem foldl_rep(its:List Value):∀(k:Nat)(acc:List Value),
  List.foldl (λx1 x2=>x1++x2) acc.toArray (replicate k its.toArray)=(acc++(replicate k its).flatten).toArray
 |0,acc=>by simp
 | k+1,acc=>by
  have e:acc.toArray++its.toArray=(acc++its).toArray:=by simp
  have e2:(acc++its)++(replicate k its).flatten=acc++(replicate (k+1) its).flatten:=by
   rw[replicate_succ,flatten_cons,append_assoc]
  rw[<-e2,<-foldl_rep its k (acc++its),<-e,replicate_succ,foldl_cons]
section
variable{X:Cx}{pins:List (Addr×Obj)}{σ:St}{H:Hp}{s:Shared}{l b:Addr}{xs ys zs:List V}
theorem Inv.lset{its its':List Value}{n:Nat}{f:Array Value->Array Value}{t':Nat}(I:Inv X pins σ H s)(hH:H l=some (.lst xs))
  (e:s.heap.get? l=some { cls:=.type "list",data:=.seq its.toArray n }) (hf:f its.toArray=its'.toArray) (hv:Vals ys its') (hz:ys.length<=sizeLine):
  Inv X pins σ (upd H l (.lst ys)) { s with heap:=s.heap.update l (Obj.mapSeq f),toks:=t' }:=by
 have q:=PySem.IsL.update e f
 rw[hf]at q
 refine I.write (x:=l) (e:=l) (by rw[hH];exact trivial) (.inl rfl) (λb' u hb hu=>(Heap.get?_update_other s.heap (Obj.mapSeq f) (Ne.symm hb)).trans hu) ⟨_,q⟩ ?_
 exact⟨hz,its',_,hv,q⟩
theorem Inv.lnew{its:List Value}{t':Nat}(I:Inv X pins σ H s)(hv:Vals ys its)(hz:ys.length<=sizeLine):
  Inv X pins σ (upd H s.heap.objs.size (.lst ys)) { s with heap:=s.heap.push { cls:=.type "list",data:=.seq its.toArray },toks:=t' }:=
 I.laid (λ_ _ q=>Heap.get?_push_of_some _ q) (Nat.le_refl _) ⟨hz,its,0,hv,Heap.get?_push_size _ rfl⟩
theorem Inv.fresh(I:Inv X pins σ H s):H s.heap.objs.size=none:=I.hok.fresh (Nat.le_refl _)
theorem Inv.lstM(I:Inv X pins σ H s)(hH:H l=some (.lst xs)):xs.length<=sizeLine/\∃(its:List Value)(n:Nat),Vals xs its/\xs.length=its.length/\s.heap.get? l=some { cls:=.type "list",data:=.seq its.toArray n }:=by
 obtain⟨z,its,n,r,e⟩:=I.hok l _ hH
 exact⟨z,its,n,r,r.length,e⟩
theorem FJ{n:Nat}(h:n<=sizeLine):Builtin.List.listTooLong n=false:=by
 unfold Builtin.List.listTooLong
 exact decide_eq_false (by lia)
end
section
variable{X:Cx}
noncomputable def EE:V->List V->Hp->VK->Prop:=λx vs H Q=>∃l xs y,x=.ref l/\vs=[y]/\H l=some (.lst xs)/\xs.length<sizeLine/\Q .non (upd H l (.lst (xs++[y])))
theorem jU:qR X "list.append" EE:=by
 intro pins s σ H x vs v us Q I rx rv h
 obtain⟨l,xs,y,rfl,rfl,hH,hz,q⟩:=h
 cases rx
 obtain⟨u,rfl,ru⟩:=rv.one
 obtain⟨z,its,n,r,hl,e⟩:=I.lstM hH
 refine call_meets F.slot_list_append ⟨_,e,rfl⟩ F.entry_list_append (F.args_list_append_2 _ _) (PySem.list_append l its.toArray n u (by rw[size_toArray];lia)) ⟨e,?_⟩
 refine⟨.non,_,I.lset (its':=its++[u]) hH e (by simp) (r.append (.cons ru .nil)) ?_,rfl,q⟩
 rw[length_append,List.length_singleton]
 lia
noncomputable def D9:V->List V->Hp->VK->Prop:=λx vs H Q=>∃l b xs zs,x=.ref l/\vs=[.ref b]/\H l=some (.lst xs)/\H b=some (.lst zs)/\xs.length+zs.length<=sizeLine/\Q .non (upd H l (.lst (xs++zs)))
theorem FM:qR X "list.extend" D9:=by
 intro pins s σ H x vs v us Q I rx rv h
 obtain⟨l,b,xs,zs,rfl,rfl,hH,hB,hz,q⟩:=h
 cases rx
 obtain⟨u,rfl,ru⟩:=rv.one
 cases ru
 obtain⟨z,its,n,r,hl,e⟩:=I.lstM hH
 obtain⟨z2,its2,n2,r2,hl2,e2⟩:=I.lstM hB
 have hsz:its.toArray.size+its2.toArray.size<=sizeLine:=by rw[size_toArray,size_toArray];lia
 have hlong:¬(!its.toArray.isEmpty&&Builtin.List.listTooLong (its.toArray.size+its2.toArray.size))=true:=by
  rw[FJ hsz,Bool.and_false]
  exact Bool.false_ne_true
 refine call_meets F.slot_list_extend ⟨_,e,rfl⟩ F.entry_list_extend (F.args_list_extend_2 _ _)
  (AutoSeq1.list_extend_list_list_0 l its.toArray n b its2.toArray n2 hlong (by rw[size_toArray];lia) (by lia)) ⟨e,e2,?_⟩
 refine⟨.non,_,I.lset (its':=its++its2) hH e (by simp) (r.append r2) ?_,rfl,q⟩
 rw[length_append]
 lia
noncomputable def ED:R2:=λx y H Q=>∃l b xs zs,x=.ref l/\y=.ref b/\H l=some (.lst xs)/\H b=some (.lst zs)/\xs.length+zs.length<=sizeLine/\∀p,H p=none->Q (.ref p) (upd H p (.lst (xs++zs)))
theorem E5:OpR X (binaryOp .Add) ED:=by
 intro pins s σ H x y v u Q I rx ry h
 obtain⟨l,b,xs,zs,rfl,rfl,hH,hB,hz,q⟩:=h
 cases rx
 cases ry
 obtain⟨z,its,n,r,hl,e⟩:=I.lstM hH
 obtain⟨z2,its2,n2,r2,hl2,e2⟩:=I.lstM hB
 refine PySem.P.add_list e e2 ?_ (by rw[size_toArray,size_toArray];lia)
 have ea:its.toArray++its2.toArray=(its++its2).toArray:=by simp
 rw[ea]
 exact⟨.ref _,_,I.lnew (t':=s.toks) (r.append r2) (by rw[length_append];lia),rfl,q _ I.fresh⟩
noncomputable def D1:R2:=λx y H Q=>∃l k xs,x=.ref l/\y=.int k/\H l=some (.lst xs)/\-(2^63)<=k/\k<2^63/\xs.length*k.toNat<=sizeLine/\
 ∀p,H p=none->Q (.ref p) (upd H p (.lst (replicate k.toNat xs).flatten))
theorem UZ{α:Type}(xs:List α)(k:Nat):(replicate k xs).flatten.length=k*xs.length:=by
 induction k with
 |zero=>simp
 |succ k ih=>rw[replicate_succ,flatten_cons,length_append,ih,Nat.succ_mul,Nat.add_comm]
theorem mB:OpR X (binaryOp .Mult) D1:=by
 intro pins s σ H x y v u Q I rx ry h
 obtain⟨l,k,xs,rfl,rfl,hH,h1,h2,hz,q⟩:=h
 cases rx
 obtain⟨t,rfl⟩:=ry
 obtain⟨z,its,n,r,hl,e⟩:=I.lstM hH
 have hlen:its.toArray.size*k.toNat<=sizeLine:=by rw[size_toArray,<-hl];exact hz
 have hcap:¬its.toArray.size*k.toNat>(2^63-1)/8:=by
  have:(sizeLine:Nat)<=(2^63-1)/8:=by decide
  lia
 have hfit:¬(!Builtin.List.listFitsIndex k)=true:=by
  rw[fitsIndex_both h1 h2]
  exact Bool.false_ne_true
 have hlong:¬Builtin.List.listTooLong (its.toArray.size*k.toNat)=true:=by
  rw[FJ hlen]
  exact Bool.false_ne_true
 have hnew:List.foldl (λx1 x2=>x1++x2) #[] (replicate (if its.toArray.isEmpty=true then 0 else k.toNat) its.toArray)=(replicate k.toNat its).flatten.toArray:=by
  have f0:∀m:Nat,List.foldl (λx1 x2=>x1++x2) #[] (replicate m its.toArray)=(replicate m its).flatten.toArray:=λm=>by
   have:=foldl_rep its m []
   rw[List.nil_append]at this
   exact this
  rw[f0]
  cases its with
  |nil=>simp
  |cons a r'=>rw[if_neg (by simp)]
 refine wpAny_binaryOp_repeat_ref (T:="list") (U:="int") (by decide) ⟨_,e,rfl⟩ (λs'=>typeIs_int s' k t) noFill_list_mul F.fills_int_mul F.slot_int_rmul repeat_list F.slot_int_index.lookup
  (call_meets F.slot_int_rmul (typeIs_int s k t) F.entry_int_rmul (F.args_int_rmul_2 _ _) (int___rmul___int_list k t l its.toArray n)
   ⟨e,rfl,⟨_,e,rfl⟩,call_meets F.slot_list_mul ⟨_,e,rfl⟩ F.entry_list_mul (F.args_list_mul_2 _ _) (AutoListH.list___mul___list_int_3 l its.toArray n k t hfit hcap hlong) ⟨e,?_⟩⟩)
 rw[hnew]
 exact⟨.ref _,_,I.lnew (t':=s.toks) (r.rep k.toNat) (by rw[UZ,Nat.mul_comm];exact hz),rfl,q _ I.fresh⟩
end
section
variable{prog:Program}{w:World}{A:Around}{E:Value->Shared->Prop}{s:Shared}
end
section
variable{X:Cx}
end
end L2
namespace Att
open PySem PySem.W PySem.Calls PyProof.Rows
theorem WE{P:Params}{h:Heap}:∀(ns:List Int)(vs:List Value),WellAll P h vs (ns.map WData.int)->IntsAre vs ns:=by
 intro ns
 induction ns with
 |nil=>
  intro vs w
  rw[map_nil]at w
  cases w
  exact .nil
 | cons n ns ih=>
  intro vs w
  rw[map_cons]at w
  cases w with
  |cons a b=>
   cases a
   exact .cons _ _ (ih _ b)
theorem MC{l:OpenLaw}{n:Nat}(hn:l.most=some n){P:Params}{h:Heap}{args:List WData}{vals:List Value}
  (hpre:l.row.toRowW.claim.pre args=true) (hwl:WellAll P h vals args):
  ∃a vs ns,vals=[Value.ref a]/\args=[WData.list (ns.map WData.int)]/\h.get? a=some { cls:=.type "list",data:=.seq vs.toArray }/\IntsAre vs ns/\ns.length<=n:=by
 have hsh:WShape.hasAll [] args [.list .int]=true:=(pre_splitW hpre).1
 have hc:l.pre.holds [] { args:=args }=true:=(pre_splitW hpre).2
 obtain⟨d,r,rfl,h1,h2⟩:=hasAllW_cons hsh
 obtain rfl:=hasAllW_nil h2
 obtain⟨xs,rfl,h3⟩:=hasW_list h1
 obtain⟨ns,rfl⟩:=items_int h3
 have hlen:ns.length<=n:=by
  unfold OpenLaw.pre at hc
  have h4:(WTm.not (.lt (.lit (.int (n:Int))) (.len (.arg 0)))).holds [] { args:=[.list (ns.map .int)] }=true:=by
   have h4:=(holds_andW hc).1
   rw[hn]at h4
   exact h4
  have h5:=condW_of h4 (w_not (w_lt w_lit (w_len_list (w_arg rfl))))
  rw[length_map]at h5
  refine Nat.le_of_not_lt λq=>?_
  have q':(n:Int)<((ns.length:Nat):Int):=by lia
  first
   |(rw[decide_eq_true q']at h5;exact absurd h5 (by decide))
   |(simp at h5;lia)
 cases hwl with
 |cons w1 w2=>
  cases w2
  cases w1 with
  |list ho hall=>exact⟨_,_,ns,rfl,rfl,ho,WE ns _ hall,hlen⟩
theorem QA(l:OpenLaw)(args:List WData):l.row.toRowW.claim.post args (.bool true) args=true:=
 postW_of (r:=l.row.toRowW) (X:=(true==true))
  (show WShape.has [] (.bool true) .bool=true by first|rfl|decide|simp[WShape.has,WShape.arms,WShape.armsAll])
  (show(WTm.eq .res (.lit (.bool true))).value [] { args:=args,res:=some (.bool true),after:=args }=some (.bool (true==true)) from w_eq_bool (w_res rfl) w_lit) rfl
theorem attach_call{l:OpenLaw}{n:Nat}{q:Program}{loose:List Str}{XP:(Str->Option Value)->Heap->Prop}{YP:World->Heap->Prop}{d:DefRec}
  (hn:l.most=some n) (hdf:d.params.defaults=[])
  (call:∀(w:World)(s₀ s₁:Shared)(mg mb:Str->Option Value)(fa:Addr)(o:Obj)(pm cd doc:Value)(a:Addr)(vs:List Value)(ns:List Int),
   Ground q loose [] XP w s₀ mg mb s₁.heap->YP w s₁.heap->
   s₁.heap.get? fa=some o->o.data=.func (docDef d.name d.params d.body d.scope pm cd doc)->s₁.heap.CodeRec cd d.name->mg d.name=some (.ref fa)->
   s₁.heap.get? a=some { cls:=.type "list",data:=.seq vs.toArray }->IntsAre vs ns->ns.length<=n->s₁.gens=#[]->
   codeAny (model l.prog w) callerA (.call (.ref fa) ⟨[.ref a],[]⟩) (λr s'=>r=.ok (.ret (.bool true))/\OldK s₁.heap s'.heap/\s'.os=s₁.os/\AllBare s'.gens) s₁):
  WalkO q loose XP YP l.row.toRowW d [] (λf vs=>PySem.call f vs):=by
 intro w s₀ s₁ mg mb G Y fa o pm cd doc dV kV ho hd hcd hD hmg hg args vals as hpre hlay hrd hwl hlo
 obtain rfl:dV=.none:=Dflts.none hD hdf
 obtain rfl:kV=.none:=Dflts.noKw hD
 obtain⟨a,vs,ns,rfl,rfl,hobj,hints,hlen⟩:=MC hn hpre hwl
 refine enter_call (codeAny_mono (call w s₀ s₁ mg mb fa o pm cd doc a vs ns G Y ho (fd_plain hd) hcd hmg hobj hints hlen hg) λr s' hq=>?_)
 obtain⟨rfl,h2,h3,h4⟩:=hq
 exact⟨.inl ⟨.bool true,.bool true,[],rfl,λ_=>rfl,.bool true,QA l _,λ_=>⟨List.Pairwise.nil,λ_ hm=>(nomatch hm)⟩⟩,h2,h3,h4⟩
section
variable{prog:Program}{w:World}{A:Around}{E:Value->Shared->Prop}{s:Shared}{K:Frag}
end
end Att
namespace L2
open PySem PySem.Spec PyProof.Rows
theorem AV:∀{vs:List Value}{ns:List Int},IntsAre vs ns->Vals (ns.map V.int) vs
 |_,_,.nil=>.nil
 |_,_,.cons n t h=>.cons ⟨t,rfl⟩ (AV h)
noncomputable def qQ(H:Hp):Prop:=∀b,H b=none\/∃o xs,H b=some (.frz o (.lst xs))
theorem U2{P:Program}{w:World}{K:PySem.W.Frag}{mg mb:Str->Option Value}{CX:cX}{k:Nat}{fa a:Addr}{fd:FuncData}{x:Str}{sp:Sp}{s₁:Shared}{vs:List Value}{ns:List Int}
  (KX:K.In s₁.heap) (hns:s₁.heap.Ns mainGlobals mg) (hb:s₁.heap.Ns builtinsNs mb) (hbb:∀x:Str,x≠"__name__"->mb x=bootBuiltins x) (hlim:s₁.heap.NoLimit) (hg:s₁.gens=#[])
  (ha:s₁.heap.get? a=some { cls:=.type "list",data:=.seq vs.toArray }) (hi:IntsAre vs ns) (hl:ns.length<=sizeLine) (hr:Room k callerA)
  (F:∀base:Heap,K.In base->base.Ns mainGlobals mg->FnOk P w K mg base CX k fa fd [x] sp) (hbind:∀(s:Shared)(u:Value),BindsTo s fd ⟨[u],[]⟩ [(x,u)])
  (hsp:∀H:Hp,qQ H->SqL K H a (ns.map V.int)->sp [.ref a] H (λv _=>v=.bl true) λ_ _ _=>False)
  (hCX:∀H e s',CX [] H s₁ (λ_ _ _=>False) e s'->False):
  codeAny (model P w) callerA (.call (.ref fa) ⟨[.ref a],[]⟩) (λr s'=>r=.ok (.ret (.bool true))/\OldK s₁.heap s'.heap/\s'.os=s₁.os/\AllBare s'.gens) s₁:=by
 have rv:=AV hi
 have lenV:=hi.length
 have core:∀H:Hp,qQ H->SqL K H a (ns.map V.int)->HOk P w H s₁.heap->(∀b,H b≠none->b=a)->(H a≠none->K.lookup a=none)->
   codeAny (model P w) callerA (.call (.ref fa) ⟨[.ref a],[]⟩) (λr s'=>r=.ok (.ret (.bool true))/\OldK s₁.heap s'.heap/\s'.os=s₁.os/\AllBare s'.gens) s₁:=by
  intro H hO hS hok hA hK
  have base_of:∀{b:Addr}{o:Obj},s₁.heap.get? b=some o->H b=none->(iN s₁.heap H).get? b=some o:=λe n=>WS e n
  have noA:∀{b:Addr}{o:Obj}{es:Array DictEntry}{ep:Nat},s₁.heap.get? b=some o->o.data=.dict es ep->H b=none:=λ{b o es ep}e d=>by
   cases q:H b with
   |none=>rfl
   |some u=>
    have e':b=a:=hA b (by rw[q];simp)
    subst e'
    rw[ha]at e;cases e
    have d':Data.seq vs.toArray _=Data.dict es ep:=d
    cases d'
  have nsK:∀{b:Addr}{m:Str->Option Value},s₁.heap.Ns b m->(iN s₁.heap H).Ns b m:=λ{b m}⟨o,es,ep,e,d,r⟩=>⟨o,es,ep,base_of e (noA e d),d,r⟩
  have hKb:K.In (iN s₁.heap H):=λb o e=>base_of (KX b o e) (by
   cases q:H b with
   |none=>rfl
   |some u=>
    have e':b=a:=hA b (by rw[q];simp)
    subst e'
    rw[hK (by rw[q];simp)]at e;cases e)
  have hM:Mod K mg (iN s₁.heap H):=⟨hKb,nsK hns,⟨mb,nsK hb,hbb⟩,let⟨mc,h1,h2⟩:=hlim;⟨mc,nsK h1,h2⟩⟩
  have e0:Env0 P w K mg (iN s₁.heap H) callerA [] s₁ H:=⟨rfl,hM,λb o e=>SD e,Nat.le_of_eq (WR _ _),trivial,λb hb=>absurd (show b∈([]:List Addr) from hb) (by simp),hok,.of_eq hg⟩
  refine codeAny_mono ((F _ hKb (nsK hns)).run callerA [] s₁ H ⟨[.ref a],[]⟩ [.ref a] [.ref a] _ _ hr e0 (hbind s₁ (.ref a)) (.cons rfl .nil) (hsp H hO hS)) λr s' h=>?_
  cases r with
  |error e=>exact(hCX H e s' h).elim
  | ok fl=>
   cases fl with
   |next=>exact False.elim h
   |brk=>exact False.elim h
   |cont=>exact False.elim h
   | ret u=>
    obtain⟨v,H',os,bare,un,hok',r',q⟩:=h
    have q':v=.bl true:=q
    subst q'
    obtain rfl:u=Value.bool true:=r'
    refine⟨rfl,OldK.of_keep λb o e=>?_,os,bare⟩
    cases q:H b with
    |none=>exact un.keep b o e q (by intro z;exact absurd (show b∈([]:List Addr) from z) (by simp)) (by simp)
    | some u=>
     rcases hO b with z|⟨ob,xs,z⟩
     ·rw[q]at z;cases z
     ·have z2:=un.frzs b ob _ z
      obtain⟨e1,_⟩:=hok b _ z
      obtain⟨e2,_⟩:=hok' b _ z2
      rw[e]at e1;cases e1
      exact e2
 cases hk:K.lookup a with
 |some o=>
  have e:=KX a o hk
  rw[ha]at e
  cases e
  refine core (λ_=>none) (λ_=>.inl rfl) (.inr ⟨_,vs.toArray,_,hk,rfl,rfl,rfl,by rw[size_toArray,lenV];exact hl,by simpa using rv⟩) (λb u z=>by have z':(none:Option HO)=some u:=z;cases z') (λb z=>absurd rfl z) λz=>absurd rfl z
 | none=>
  refine core (λb=>if b=a then some (.frz { cls:=.type "list",data:=.seq vs.toArray } (.lst (ns.map V.int))) else none) (λb=>?_) (.inl (.inr ⟨{ cls:=.type "list",data:=.seq vs.toArray },if_pos rfl⟩)) (λb u z=>?_) (λb z=>?_) λ_=>hk
  ·by_cases hb:b=a
   ·exact .inr ⟨_,_,if_pos hb⟩
   ·exact .inl (if_neg hb)
  ·by_cases hb:b=a
   ·have z':=(if_pos hb).symm.trans z
    cases z'
    subst hb
    exact⟨ha,by rw[length_map];exact hl,vs,_,rv,ha⟩
   ·have z':=(if_neg hb).symm.trans z
    cases z'
  ·by_cases hb:b=a
   ·exact hb
   ·exact absurd (if_neg hb) z
noncomputable abbrev bD{K:PySem.W.Frag}{h:Heap}(_:K.In h):PySem.W.Frag:=K
theorem KH{l:PySem.W.OpenLaw}{n k:Nat}{q:Program}{loose:List Str}{XP:(Str->Option Value)->Heap->Prop}{YP:World->Heap->Prop}{d:DefRec}{K:Params->PySem.W.Frag}{CX:World->cX}{sp:World->Sp}{x:Str}
  (hn:l.most=some n) (hn2:n<=sizeLine) (hdf:d.params.defaults=[]) (hr:Room k callerA)
  (hY:∀(w:World)(h:Heap),YP w h->(K w.params).In h)
  (F:∀(w:World)(mg:Str->Option Value)(fa:Addr)(h:Heap),(K w.params).In h->h.Ns mainGlobals mg->mg d.name=some (.ref fa)->
   ∃fd:FuncData,(∀(s:Shared)(u:Value),BindsTo s fd ⟨[u],[]⟩ [(x,u)])/\
    ∀base:Heap,(K w.params).In base->base.Ns mainGlobals mg->FnOk l.prog w (K w.params) mg base (CX w) k fa fd [x] (sp w))
  (hsp:∀(w:World)(H:Hp)(a:Addr)(ns:List Int),ns.length<=n->qQ H->SqL (K w.params) H a (ns.map V.int)->sp w [.ref a] H (λv _=>v=.bl true) λ_ _ _=>False)
  (hCX:∀(w:World)(H:Hp)(s:Shared)(e:Value)(s':Shared),CX w [] H s (λ_ _ _=>False) e s'->False):
  PySem.W.WalkO q loose XP YP l.row.toRowW d [] (λf vs=>PySem.call f vs):=by
 refine Att.attach_call hn hdf λw s₀ s₁ mg mb fa o pm cd doc a vs ns G Y ho hd hcd hmg hobj hints hlen hg=>?_
 have KX:=hY w _ Y
 obtain⟨fd,hb,hF⟩:=F w mg fa _ KX G.T.g hmg
 exact U2 KX G.T.g G.T.b G.T.builtins G.T.nolimit hg hobj hints (Nat.le_trans hlen hn2) hr hF hb (λH hO hS=>hsp w H a ns hlen hO hS) λH e s'=>hCX w H s₁ e s'
noncomputable def lE(s:Stmt):Arguments:=match s with
 | .FunctionDef _ a _ _ _ _ _ _ _ _=>a
 |_=>{ posonlyargs:=[],args:=[],vararg:=none,kwonlyargs:=[],kw_defaults:=[],kwarg:=none,defaults:=[] }
noncomputable def iQ(s:Stmt):List Stmt:=match s with
 | .FunctionDef _ _ b _ _ _ _ _ _ _=>b
 |_=>[]
noncomputable def aL(s:Stmt):Scope:=match s with
 | .FunctionDef _ _ _ _ _ _ sc _ _ _=>sc
 |_=>{ kind:=.function,names:=[],isGenerator:=false,isCoroutine:=false }
noncomputable abbrev aU:cX:=λ_ _ _ _ _ _=>False
noncomputable abbrev E0:XK:=λ_ _ _=>False
theorem aO{X:Cx}:j3 aU X E0:=λ_ _ _ _ _ _ _ h=>h.elim
structure Fun (K:PySem.W.Frag) (x qual:Str) (st:Stmt) (f:Addr) (fd:FuncData):Prop where
 ex:∃(oc:Value)(od:Option Addr)(kV doc pm:Value)(an:Option Addr)(cdv ct:Value)(osl:Array (Option Value)),
  fd=PySem.W.fnOf x qual (lE st) (iQ st) (aL st) .none kV doc pm an cdv ct/\K.lookup f=some ⟨oc,od,.func fd,osl⟩/\PySem.W.codeIn K cdv qual=true
 kp:PySem.W.keepIn K (.ref f)=true
section
variable{P:Program}{w:World}{K:PySem.W.Frag}{mg:Str->Option Value}{base:Heap}
theorem Fun.ok{x qual:Str}{st:Stmt}{f:Addr}{fd:FuncData}{N ps:List Str}{k:Nat}{sp:Sp}(F:Fun K x qual st f fd)(S:aW N ps (aL st))(len:∀vs H Q E,sp vs H Q E->vs.length=ps.length)
  (hbody:∀(cdv:Value)(A:Around)(outer:List Env)(s:Shared)(H:Hp)(vs:List V)(Q:VK)(E:XK),Room k (A.deeper (envOfC qual (aL st) s.heap.objs.size f cdv))->sp vs H Q E->
   ∃t,PSs (cO aU P w K mg base N qual (aL st) f cdv A outer s H E).nox (iQ st) t/\t { nx:=λ_ H'=>Q .non H',rt:=Q } (start N vs) H):FnOk P w K mg base aU (k+1) f fd ps sp:=by
 obtain⟨oc,od,kV,doc,pm,an,cdv,ct,osl,rfl,lk,hcd⟩:=F.ex
 refine GY lk hcd S len λA outer s H vs Q E hr hsp=>?_
 obtain⟨t,h,q⟩:=hbody cdv A outer s H vs Q E hr hsp
 exact⟨t,h.nox,q⟩
theorem Fun.binds{x qual:Str}{st:Stmt}{f:Addr}{fd:FuncData}{ps:List Str}(F:Fun K x qual st f fd)
  (h:∀(kV doc pm:Value)(an:Option Addr)(cdv ct:Value)(us:List Value),us.length=ps.length->bindArgs (PySem.W.fnOf x qual (lE st) (iQ st) (aL st) .none kV doc pm an cdv ct) ⟨us,[]⟩=pure (ps.zip us)):Binds K fd ps []:=by
 obtain⟨oc,od,kV,doc,pm,an,cdv,ct,osl,rfl,lk,hcd⟩:=F.ex
 exact .all (h kV doc pm an cdv ct)
theorem WZ{x qual:Str}{st:Stmt}{f:Addr}{oc:Value}{od an:Option Addr}{osl:Array (Option Value)}{kV doc pm cdv ct:Value}(l:K.lookup f=some ⟨oc,od,.func (PySem.W.fnOf x qual (lE st) (iQ st) (aL st) .none kV doc pm an cdv ct),osl⟩)
  (c:PySem.W.codeIn K cdv qual=true) (k:PySem.W.keepIn K (.ref f)=true):Fun K x qual st f (PySem.W.fnOf x qual (lE st) (iQ st) (aL st) .none kV doc pm an cdv ct):=⟨⟨oc,od,kV,doc,pm,an,cdv,ct,osl,rfl,l,c⟩,k⟩
end
theorem eK{A:Around}{k:Nat}(hr:Room k A):A.units+1<cLine:=Nat.lt_of_le_of_lt (Nat.add_le_add_left (by decide:1<=64) _) hr.units
theorem gJ{n:Nat}(h:n<=1000):n<sizeLine:=Nat.lt_of_le_of_lt h (by decide)
section
variable{X:Cx}
theorem pv(i:Nat){x:Str}{pos:Pos}(hN:X.N[i]? =some x:=by rfl)(hv:qN X.env.scope x:=by first|exact Or.inl rfl|exact Or.inr (Or.inl rfl)|exact Or.inr (Or.inr rfl))(hd:(x==("__debug__":Str))=false:=by decide)
  (hcd:(x==("__classdict__":Str))=false:=by decide):PE X (.Name x pos) (rK i):=QR hN hv hd hcd
end
theorem mL{A B:Prop}(h:B):if false=true then A else B:=by
 rw[if_neg Bool.false_ne_true]
 exact h
theorem mK{A B:Prop}(h:A):if true=true then A else B:=by
 rw[if_pos rfl]
 exact h
noncomputable def Same(H H':Hp):Prop:=∀b o,H b=some o->H' b=some o
theorem Same.refl(H:Hp):Same H H:=λ_ _ h=>h
theorem Same.trans{H H1 H2:Hp}(a:Same H H1)(b:Same H1 H2):Same H H2:=λc o h=>b c o (a c o h)
theorem Same.free{H H':Hp}(e:Same H H'){l:Addr}(h:H' l=Option.none):H l=Option.none:=by
 cases q:H l with
 |none=>rfl
 |some o=>
  rw[e l o q]at h
  cases h
theorem Same.seq{K:PySem.W.Frag}{H H':Hp}{a:Addr}{xs:List V}(e:Same H H')(h:SqL K H a xs):SqL K H' a xs:=by
 rcases h with(h|⟨o,h⟩)|h
 ·exact .inl (.inl (e _ _ h))
 ·exact .inl (.inr ⟨o,e _ _ h⟩)
 ·exact .inr h
noncomputable def gY(env:Env):List (Str×NameKind)->List (Str×Addr)->List (Str×Addr)
 |[],cs=>cs
 |(n,k)::r,cs=>gY env r (if k==.free then(match env.cells.lookup n with|some a=>(n,a)::cs|none=>cs) else cs)
noncomputable def FrOk(env:Env):List (Str×NameKind)->Prop
 |[]=>True
 |(n,k)::r=>(match k with| .free=>(env.kindOf n=some .cell\/env.kindOf n=some .free)| .cell=>False|_=>True)/\FrOk env r
theorem FrOk.free{env:Env}:∀{ns:List (Str×NameKind)}{n:Str},FrOk env ns->(n,NameKind.free)∈ns->env.kindOf n=some .cell\/env.kindOf n=some .free
 |[],_,_,h=>by cases h
 |(m,k)::r,n,f,h=>by
  obtain⟨a,b⟩:=f
  rcases mem_cons.mp h with e|e
  ·cases e;exact a
  ·exact b.free e
theorem FrOk.nocell{env:Env}:∀{ns:List (Str×NameKind)},FrOk env ns->∀y∈ns,y.2≠.cell
 |[],_,_,h=>by cases h
 | (m,k)::r,f,y,h=>by
  obtain⟨a,b⟩:=f
  rcases mem_cons.mp h with e|e
  ·subst e
   intro e
   have e':k=.cell:=e
   subst e'
   exact a
  ·exact b.nocell y e
theorem yL{env:Env}:∀(ns:List (Str×NameKind))(cs:List (Str×Addr)),(∀n,(n,NameKind.free)∈ns->∃a,env.cells.lookup n=some a)->
  (forIn (m:=Sem) ns cs λx r=>match x with|(name,kind)=>(if(kind==NameKind.free)=true then(do let a <-cellOf env name;pure (ForInStep.yield ((name,a)::r))) else pure (ForInStep.yield r)))=pure (gY env ns cs)
 |[],cs,_=>rfl
 | (n,k)::r,cs,h=>by
  rw[List.forIn_cons]
  cases hk:(k==NameKind.free) with
  |false=>
   simp only[hk,Bool.false_eq_true,if_false]
   rw[pure_bind]
   show forIn (m:=Sem) r cs _=pure (gY env r (if(k==NameKind.free)=true then _ else cs))
   rw[hk]
   exact yL r cs λn hn=>h n (mem_cons_of_mem _ hn)
  |true=>
   have ek:k=.free:=by simpa using hk
   subst ek
   obtain⟨a,ha⟩:=h n mem_cons_self
   simp only[hk,if_true]
   unfold cellOf
   rw[ha]
   simp only[pure_bind]
   show forIn (m:=Sem) r ((n,a)::cs) _=pure (gY env r (if(NameKind.free==NameKind.free)=true then(match env.cells.lookup n with|some a=>(n,a)::cs|none=>cs) else cs))
   rw[hk,if_pos rfl,ha]
   exact yL r _ λn hn=>h n (mem_cons_of_mem _ hn)
theorem HN{env:Env}{sc:Scope}(h:∀n,(n,NameKind.free)∈sc.names->∃a,env.cells.lookup n=some a):closureFor sc env=pure (gY env sc.names []):=by
 unfold closureFor
 exact(congrArg (λz=>z >>=λr=>pure r) (yL sc.names [] h)).trans (by simp)
theorem iS{env:Env}:∀{ns:List (Str×NameKind)}{cs:List (Str×Addr)},(∀x c,cs.lookup x=some c->env.cells.lookup x=some c)->∀x c,(gY env ns cs).lookup x=some c->env.cells.lookup x=some c
 |[],_,h,x,c,e=>h x c e
 | (n,k)::r,cs,h,x,c,e=>by
  refine iS (ns:=r) (λy d q=>?_) x c e
  by_cases hk:(k==NameKind.free)=true
  ·rw[if_pos hk]at q
   cases hn:env.cells.lookup n with
   |none=>rw[hn]at q;exact h y d q
   | some a=>
    rw[hn]at q
    simp only[lookup_cons]at q
    cases hy:(y==n) with
    |true=>
     rw[hy]at q
     have:y=n:=by simpa using hy
     subst this
     rw[hn];exact q
    |false=>rw[hy]at q;exact h y d q
  ·rw[if_neg hk]at q;exact h y d q
theorem yM{env:Env}:∀{ns:List (Str×NameKind)}{cs:List (Str×Addr)}{x:Str},((∃c,cs.lookup x=some c)\/((x,NameKind.free)∈ns/\∃a,env.cells.lookup x=some a))->∃c,(gY env ns cs).lookup x=some c
 |[],cs,x,h=>by
  rcases h with h|⟨h,_⟩
  ·exact h
  ·cases h
 | (n,k)::r,cs,x,h=>by
  refine yM (ns:=r) ?_
  rcases h with⟨c,h⟩|⟨h,a,ha⟩
  ·left
   by_cases hk:(k==NameKind.free)=true
   ·rw[if_pos hk]
    cases hn:env.cells.lookup n with
    |none=>exact⟨c,h⟩
    |some a=>
     simp only[lookup_cons]
     cases hy:(x==n) with
     |true=>exact⟨a,rfl⟩
     |false=>exact⟨c,h⟩
   ·rw[if_neg hk];exact⟨c,h⟩
  ·rcases mem_cons.mp h with e|e
   ·left
    cases e
    rw[if_pos (by rfl),ha]
    exact⟨a,by simp⟩
   ·exact .inr ⟨e,a,ha⟩
theorem FX{α:Type}:∀{ns:List (Str×α)}{x:Str}{k:α},ns.lookup x=some k->(x,k)∈ns
 |[],_,_,h=>by cases h
 | (n,j)::r,x,k,h=>by
  simp only[lookup_cons]at h
  cases hx:(x==n) with
  |true=>
   rw[hx]at h
   cases h
   have:x=n:=by simpa using hx
   subst this
   exact mem_cons_self
  |false=>rw[hx]at h;exact mem_cons_of_mem _ (FX h)
noncomputable def eY(env:Env)(p:Str×NameKind):Str×NameKind:=if(p.2==NameKind.free&&env.scope.kind==.function&&env.kindOf p.1==some .cell) then(p.1,NameKind.cell) else(p.1,p.2)
theorem DG(env:Env)(p:Str×NameKind):(eY env p).1=p.1:=by
 unfold eY
 split <;> rfl
theorem M6(env:Env)(n:Str):(eY env (n,.free)).2=.cell\/(eY env (n,.free)).2=.free:=by
 unfold eY
 split
 ·exact .inl rfl
 ·exact .inr rfl
theorem M7(env:Env)(p:Str×NameKind)(hn:p.2≠.cell)(h:(eY env p).2=.cell\/(eY env p).2=.free):p.2=.free:=by
 unfold eY at h
 split at h
 ·rename_i hc
  have h1:=(Bool.and_eq_true _ _).mp hc
  have h2:=(Bool.and_eq_true _ _).mp h1.1
  simpa using h2.1
 ·rcases h with h|h
  ·exact absurd h hn
  ·exact h
theorem vX{α:Type}(x:Str)(p:Str×α)(r:List (Str×α)):(p::r).lookup x=if(x==p.1)=true then some p.2 else r.lookup x:=by
 obtain⟨n,k⟩:=p
 rw[lookup_cons]
 cases(x==n) <;> rfl
theorem DL{env:Env}:∀{names:List (Str×NameKind)}{x:Str},names.lookup x=some .free->(names.map (eY env)).lookup x=some .cell\/(names.map (eY env)).lookup x=some .free
 |[],_,h=>by cases h
 | (n,k)::r,x,h=>by
  have ih:=@DL env r x
  rw[map_cons,vX,DG]
  rw[vX]at h
  by_cases hx:(x==n)=true
  ·rw[if_pos hx]at h ⊢
   cases h
   rcases M6 env n with e|e
   ·exact .inl (congrArg some e)
   ·exact .inr (congrArg some e)
  ·rw[if_neg hx]at h ⊢
   exact ih h
theorem DM{env:Env}:∀{names:List (Str×NameKind)}{x:Str},(∀y∈names,y.2≠.cell)->((names.map (eY env)).lookup x=some .cell\/(names.map (eY env)).lookup x=some .free)->(x,NameKind.free)∈names
 |[],_,_,h=>by rcases h with h|h <;> cases h
 | (n,k)::r,x,hn,h=>by
  have ih:=@DM env r x (λy hy=>hn y (mem_cons_of_mem _ hy))
  rw[map_cons,vX,DG]at h
  by_cases hx:(x==n)=true
  ·rw[if_pos hx]at h
   have ex:x=n:=by simpa using hx
   subst ex
   have e:=M7 env (x,k) (hn _ mem_cons_self) (h.imp Option.some.inj Option.some.inj)
   have e':k=.free:=e
   subst e'
   exact mem_cons_self
  ·rw[if_neg hx]at h
   exact mem_cons_of_mem _ (ih h)
noncomputable def cH(X:Cx)(sc:Scope)(M:List Str)(C:Addr)(fp:List Addr)(s:Shared)(H:Hp):Cx:=
 { X with N:=M,s₀:=s,H₀:=H,env:=compEnvC sc (gY X.env sc.names []) C X.env,outer:=X.stack,stack:=X.stack,ex:=fp,fn:=λ_=>false,pn:=[],xe:=λ_ _=>False }
inductive FmOk (N:List Str) (sc:Scope):List Str->List (Option Nat)->Prop
 |nil:FmOk N sc [] []
 |own {x M fm}:FmOk N sc M fm->FmOk N sc (x::M) (none::fm)
 |free {x M fm} (j:Nat):N[j]? =some x->sc.names.lookup x=some .free->FmOk N sc M fm->FmOk N sc (x::M) (some j::fm)
noncomputable def dH(fm:List (Option Nat))(σ:St):St:=fm.map λo=>match o with|none=>none|some j=>(σ[j]?).join
theorem FmOk.len{N:List Str}{sc:Scope}:∀{M:List Str}{fm:List (Option Nat)},FmOk N sc M fm->fm.length=M.length
 |_,_,.nil=>rfl
 |_,_,.own h=>by simp[h.len]
 |_,_,.free _ _ _ h=>by simp[h.len]
theorem FmOk.get{N:List Str}{sc:Scope}{σ:St}:∀{M:List Str}{fm:List (Option Nat)}{i:Nat}{x:Str}{v:V},FmOk N sc M fm->M[i]? =some x->(dH fm σ)[i]? =some (some v)->∃(j:Nat),N[j]? =some x/\sc.names.lookup x=some .free/\σ[j]? =some (some v)
 |_,_,i,x,v,.nil,e,_=>by simp at e
 |_,_,0,x,v,.own h,e,q=>by simp[dH]at q
 | _,_,0,x,v,.free j a b h,e,q=>by
  simp at e
  subst e
  refine⟨j,a,b,?_⟩
  have q':(σ[j]?).join=some v:=by simpa[dH]using q
  cases hs:σ[j]? with
  |none=>rw[hs]at q';cases q'
  |some o=>
   rw[hs]at q'
   have:o=some v:=q'
   rw[this]
 |_,_,i+1,x,v,.own h,e,q=>h.get (i:=i) (by simpa using e) (by simpa[dH]using q)
 |_,_,i+1,x,v,.free j a b h,e,q=>h.get (i:=i) (by simpa using e) (by simpa[dH]using q)
section
variable{X:Cx}{pins:List (Addr×Obj)}{σ:St}{H:Hp}{s:Shared}{sc:Scope}{M:List Str}{C:Addr}{fp:List Addr}
theorem Y4(I:Inv X pins σ H s)(hf:∀b∈fp,fI X pins H b)(hl:∀b∈fp,b<s.heap.objs.size)(hC:s.heap.objs.size<=C)(fr:FrOk X.env sc.names)(hk:sc.kind=.function):(cH X sc M C fp s H).Ok where
 mod:=I.ok.mod
 kind:=hk
 glob:=I.ok.glob
 blt:=I.ok.blt
 above:=hC
 inj:=λx y c e1 e2=>I.ok.inj x y c (iS (λ_ _ z=>by cases z) x c e1) (iS (λ_ _ z=>by cases z) y c e2)
 has:=λx h=>by
  have hm:(x,NameKind.free)∈sc.names:=DM (env:=X.env) fr.nocell h
  exact yM (.inr ⟨hm,I.ok.has x (fr.free hm)⟩)
 cab:=λx c h _=>by cases h
 hd:=I.ok.hd
 frames:=I.ok.frames
 stk:=.inl rfl
 exf:=λb hb=>⟨Nat.ne_of_lt (Nat.lt_of_lt_of_le (hl b hb) hC),λx c e=>(hf b hb).2.2.2.2.1 x c (iS (λ_ _ z=>by cases z) x c e)⟩
 bs:=I.bs
 bsz:=Nat.le_trans I.ok.bsz I.sz
 noex:=λb o e hb=>by
  rcases(hf b hb).2.2.2.1 with z|z
  ·exact I.ok.noex b o e z
  ·exact absurd (Nat.lt_of_lt_of_le (Heap.lt_size (I.ok.bs b o e).1) z) (Nat.lt_irrefl _)
 exfs:=λb hb hs=>by
  rcases mem_cons.mp (I.stkSub b hs) with e|e
  ·exact(hf b hb).2.1 e
  ·exact(hf b hb).2.2.1 e
 funs:=I.stack
 frf:=I.stkFree
theorem Y5{h₁:Heap}{t:Nat}{pl:List (Addr×Obj)}{m:Str->Option Value}{fm:List (Option Nat)}(I:Inv X pins σ H s)(hf:∀b∈fp,fI X pins H b)(hl:∀b∈fp,b<s.heap.objs.size)(hC:s.heap.objs.size<=C)(fr:FrOk X.env sc.names)(hk:sc.kind=.function)
  (hfm:FmOk X.N sc M fm) (k:∀b o,s.heap.get? b=some o->h₁.get? b=some o) (hn:h₁.Ns C m)
  (hp:∀p∈pl,h₁.get? p.1=some p.2/\H p.1=none/\p.1≠C/\p.1∉aV X.stack/\∀v,p.2.data≠.cell v):Inv (cH X sc M C fp s H) pl (dH fm σ) H { s with heap:=h₁,toks:=t } where
 ok:=Y4 I hf hl hC fr hk
 os:=rfl
 bare:=I.bare
 base:=Un.kept k
 loc:=⟨m,hn,λi x v e1 e2 e3=>by
  obtain⟨j,a,b,c⟩:=hfm.get e1 e2
  obtain⟨m',hn',hl'⟩:=I.loc
  have hm:=FX b
  have hk':=fr.free hm
  have vis:qN X.env.scope x:=by
   rcases hk' with z|z
   ·exact .inr (.inl z)
   ·exact .inr (.inr z)
  obtain⟨u,r,l⟩:=hl' j x v a c vis
  refine⟨u,r,.inr ⟨DL b,?_⟩⟩
  rcases l with⟨z,_⟩|⟨_,cc,hcc,hcell⟩
  ·rcases hk' with y|y <;> (rw[z]at y;cases y)
  ·obtain⟨c2,e2⟩:=yM (env:=X.env) (ns:=sc.names) (cs:=[]) (x:=x) (.inr ⟨hm,cc,hcc⟩)
   have e3:=iS (λ_ _ z=>by cases z) x c2 e2
   rw[hcc]at e3
   cases e3
   refine⟨cc,e2,?_⟩
   obtain⟨o,ho,hd⟩:=hcell
   exact⟨o,k _ _ ho,hd⟩⟩
 cell:=λx c e=>by
  obtain⟨v,o,ho,hd⟩:=I.cell x c (iS (λ_ _ z=>by cases z) x c e)
  exact⟨v,o,k _ _ ho,hd⟩
 free:=I.hok.fresh hC
 freeC:=λx c e=>I.freeC x c (iS (λ_ _ z=>by cases z) x c e)
 pin:=λp hp'=>by
  have hp':p∈pl:=by simpa[cH]using hp'
  exact hp p hp'
 hok:=I.hok.kept k
 len:=by simp[dH,hfm.len,cH]
end
theorem XX{prog:Program}{w:World}{A:Around}{R:Result->Shared->Prop}{s:Shared}{elt target iter:Expr}{ifs:List Expr}{scope:Scope}{pos:Pos}{it acc:Value}{env:Env}(I:Nat->Shared->Prop)
  (turn:∀n s,I n s->wpAny (model prog w) A (pyNext it) (λr s₁=>match r with
   |none=>R (.ok .next) s₁
   | some v=>wpAny (model prog w) A (letOwnedTupleGo target it v) (λ_ s₁'=>wpAny (model prog w) A (assign target env v) (λ_ s₂=>
     wpAny (model prog w) A (forIn ifs true λc r=>if r=true then do let ok <-isTrue c env (eval c env);pure (ForInStep.yield ok) else pure (ForInStep.yield r)) (λok s₃=>
      if ok=true then wpAny (model prog w) A (eval elt env) (λx s₄=>
       wpAny (model prog w) A (call (.builtin "list.append") [acc,x]) (λ_ s₅=>∃m,m<n/\I m s₅) (λ_ _=>False) s₄) (λ_ _=>False) s₃
      else ∃m,m<n/\I m s₃) (λ_ _=>False) s₂) (λ_ _=>False) s₁') (λ_ _=>False) s₁) (λ_ _=>False) s)
  (n:Nat) (h:I n s):
  codeAny (model prog w) A (.compLoop (.ListComp elt [⟨target,iter,ifs,0⟩] scope pos) 0 it acc env) R s:=by
 refine codeAny_loop rfl I (λn s hI=>?_) n h
 show wpAny _ A ((compTurn (.ListComp elt [⟨target,iter,ifs,0⟩] scope pos) 0 it acc env).onRaise (λx=>do noteFrame x env;theTreesLotGoes x)) _ _ s
 refine wpAny_noted ?_
 rw[compTurn_list]
 refine wpAny_bind (wpAny_standAt (wpAny_bind (wpAny_mono (turn n s hI) (λr s₁ h₁=>?_) λ_ _ h'=>h'.elim)))
 cases r with
 |none=>exact wpAny_pure h₁
 | some v=>
  refine wpAny_bind (wpAny_mono h₁ (λ_ s₁' h₁'=>?_) λ_ _ h'=>h'.elim)
  refine wpAny_bind (wpAny_mono h₁' (λ_ s₂ h₂=>wpAny_bind (wpAny_mono h₂ (λok s₃ h₃=>?_) λ_ _ h'=>h'.elim)) λ_ _ h'=>h'.elim)
  cases ok with
  |false=>exact wpAny_pure ⟨rfl,h₃⟩
  |true=>
   exact wpAny_bind (wpAny_bind (wpAny_mono h₃ (λx s₄ h₄=>wpAny_bind (wpAny_mono h₄ (λ_ s₅ h₅=>wpAny_pure (wpAny_pure ⟨rfl,h₅⟩)) λ_ _ h'=>h'.elim)) λ_ _ h'=>h'.elim))
noncomputable def nP(X:Cx)(ifs:List Expr)(t:TT):Prop:=
 ∀(pins:List (Addr×Obj))(s:Shared)(σ:St)(H:Hp)(Q:Bool->Hp->Prop),Inv X pins σ H s->t σ H Q->
  wpAny (model X.prog X.w) X.A (forIn ifs true λc r=>if r=true then do let ok <-isTrue c X.env (eval c X.env);pure (ForInStep.yield ok) else pure (ForInStep.yield r)) (TP X pins σ Q) X.xe s
noncomputable def A4:TT:=λ_ H Q=>Q true H
theorem i9{X:Cx}:nP X [] A4:=λpins s σ H Q I h=>wpAny_tests_nil ⟨H,I,h⟩
theorem jR{X:Cx}{c:Expr}{t:TT}(h:PT X c t):nP X [c] t:=λpins s σ H Q I hw=>wpAny_tests_one (h pins s σ H Q I hw)
noncomputable def GK(fm:List (Option Nat))(g:TG):Prop:=∀(x:V)(σ:St)(H:Hp)(Q:St->Hp->Prop),g x σ H Q->g x σ H λσ' H'=>Q σ' H'/\∀(i j:Nat),fm[i]? =some (some j)->σ'[i]? =σ[i]?
noncomputable def qV(fm:List (Option Nat))(g:eS):Prop:=∀(xs:List V)(σ:St)(H:Hp)(Q:St->Hp->Prop),g xs σ H Q->g xs σ H λσ' H'=>Q σ' H'/\∀(i j:Nat),fm[i]? =some (some j)->σ'[i]? =σ[i]?
theorem fE{fm:List (Option Nat)}{i:Nat}(h:fm[i]? =some none):GK fm (jX i):=λx σ H Q q=>⟨q,λi' j e=>by
 by_cases hi:i=i'
 ·subst hi;rw[h]at e;cases e
 ·exact List.getElem?_set_ne hi⟩
theorem wK{fm:List (Option Nat)}:qV fm wW:=λxs σ H Q⟨e,q⟩=>⟨e,q,λ_ _ _=>rfl⟩
theorem kZ{fm:List (Option Nat)}{i:Nat}{u:eS}(h:fm[i]? =some none)(h2:qV fm u):qV fm (wX (jX i) u):=λxs σ H Q⟨v,r,e,q⟩=>⟨v,r,e,by
 have q2:=h2 r (σ.set i (some v)) H Q q
 have mono:∀(σ0 σ1:St),σ1=σ0.set i (some v)->(u r σ1 H λσ' H'=>Q σ' H'/\∀(i j:Nat),fm[i]? =some (some j)->σ'[i]? =σ1[i]?)=(u r σ1 H λσ' H'=>Q σ' H'/\∀(i j:Nat),fm[i]? =some (some j)->σ'[i]? =σ0[i]?):=λσ0 σ1 e1=>by
  subst e1
  congr 1
  funext σ' H'
  apply propext
  constructor
  ·rintro⟨a,b⟩
   refine⟨a,λi' j e=>(b i' j e).trans ?_⟩
   by_cases hi:i=i'
   ·subst hi;rw[h]at e;cases e
   ·exact List.getElem?_set_ne hi
  ·rintro⟨a,b⟩
   refine⟨a,λi' j e=>(b i' j e).trans ?_⟩
   by_cases hi:i=i'
   ·subst hi;rw[h]at e;cases e
   ·exact(List.getElem?_set_ne hi).symm
 show u r (σ.set i (some v)) H _
 rw[<-mono σ _ rfl]
 exact q2⟩
theorem wM{K:PySem.W.Frag}{fm:List (Option Nat)}{n:Nat}{t:eS}(h:qV fm t):GK fm (pW K n t):=λx σ H Q⟨a,xs,e,q,l,r⟩=>⟨a,xs,e,q,l,h xs σ H Q r⟩
theorem W2{fm:List (Option Nat)}{σ:St}{i:Nat}{v:V}(e:(dH fm σ)[i]? =some (some v)):∃j,fm[i]? =some (some j):=by
 unfold dH at e
 rw[List.getElem?_map]at e
 cases h:fm[i]? with
 |none=>rw[h]at e;cases e
 |some o=>
  cases o with
  |none=>rw[h]at e;cases e
  |some j=>exact⟨j,rfl⟩
noncomputable def rP(wi:TI)(fm:List (Option Nat))(g:TG)(tt:TT)(te:TE):TE:=λσ H Q=>wi σ H λJ H1=>∃W:Nat->Nat->List V->Hp->Prop,(∃m,W 0 m [] H1)/\∀i m ys H,W i m ys H->
 (J.stop i H/\∀p,H p=none->Q (.ref p) (upd H p (.lst ys)))\/
 (J.go i H/\ys.length<sizeLine/\∃N:List V->Hp->Prop,(∀ys' H',N ys' H'->∃m',m'<m/\W (i+1) m' ys' H')/\
  ∀x H',J.yld i H x H'->g x (dH fm σ) H' λσ2 H2=>tt σ2 H2 λok H3=>if ok=true then te σ2 H3 λv H4=>N (ys++[v]) H4 else N ys H3)
section
variable{X:Cx}{pins:List (Addr×Obj)}{σ:St}{sc:Scope}{M:List Str}{fm:List (Option Nat)}{tg iter elt:Expr}{ifs:List Expr}{pos:Pos}{g:TG}{tt:TT}{te:TE}
theorem HK{it:Addr}{fp:List Addr}{tn:Nat->Heap->Prop}{J:It}{H2:Hp}{s2:Shared}{E:Value->Shared->Prop}{RR:Value->Addr->Result->Shared->Prop}{Q:VK}(hc:X.calm=true)
  (I2:Inv X pins σ H2 s2) (T:lK X.prog X.w X.K tg J fp it tn) (st:tn 0 s2.heap) (hf:∀b∈fp,fI X pins H2 b) (fr:FrOk X.env sc.names) (hk:sc.kind=.function) (hfm:FmOk X.N sc M fm) (hgk:GK fm g)
  (hB:∀C fp s H,PG (cH X sc M C fp s H) tg g/\nP (cH X sc M C fp s H) ifs tt/\PE (cH X sc M C fp s H) elt te)
  (W:Nat->Nat->List V->Hp->Prop) (hw:∃m,W 0 m [] H2)
  (turn:∀i m ys H,W i m ys H->(J.stop i H/\∀p,H p=none->Q (.ref p) (upd H p (.lst ys)))\/
   (J.go i H/\ys.length<sizeLine/\∃N:List V->Hp->Prop,(∀ys' H',N ys' H'->∃m',m'<m/\W (i+1) m' ys' H')/\
    ∀x H',J.yld i H x H'->g x (dH fm σ) H' λσ2 H2=>tt σ2 H2 λok H3=>if ok=true then te σ2 H3 λv H4=>N (ys++[v]) H4 else N ys H3))
  (hRR:∀D C H' m s',s'.heap.Ns C m->Inv X pins σ H' s'->fI X pins H' C->Q (.ref D) H'->RR (.ref D) C (.ok .next) s'):
  wpAny (model X.prog X.w) X.A (newList []) (λacc s₃=>wpAny (model X.prog X.w) X.A (newFunctionEnv sc X.env.globals (gY X.env sc.names []) [] X.env.qual none .none (some X.env)) (λcenv s₄=>
   codeAny (model X.prog X.w) X.A (.compStart (.ListComp elt [⟨tg,iter,ifs,0⟩] sc pos) 0 (.ref it) acc { cenv with scope:=relabel sc X.env }) (RR acc cenv.locals) s₄) E s₃) E s2:=by
 have hl:∀b∈fp,b<s2.heap.objs.size:=λb hb=>by
  obtain⟨o,e,_⟩:=T.obj _ _ st b hb
  exact Heap.lt_size e
 refine wpAny_newObj_type (wpAny_newFunctionEnv fr.nocell (by intro y hy;simp at hy) (λh₁ hns₁ hsb₁=>?_) hk)
 dsimp only at hns₁ hsb₁ ⊢
 generalize hH2:s2.heap.push { cls:=.type "list",dict:=none,data:=.seq ([]:List Value).toArray }=G2 at hns₁ hsb₁ ⊢
 have hC:G2.objs.size=s2.heap.objs.size+1:=by rw[<-hH2,Heap.size_push]
 have hCle:s2.heap.objs.size<=G2.objs.size:=by rw[hC];exact Nat.le_succ _
 have hDC:s2.heap.objs.size≠G2.objs.size:=by rw[hC];exact Nat.ne_of_lt (Nat.lt_succ_self _)
 have below:∀b,b<s2.heap.objs.size->b≠G2.objs.size:=λb hb=>Nat.ne_of_lt (Nat.lt_of_lt_of_le hb hCle)
 have old:∀b o,s2.heap.get? b=some o->h₁.get? b=some o:=λb o e=>hsb₁.extBut b o (below b (Heap.lt_size e)) (Heap.get?_push_of_some _ (hH2▸Heap.get?_push_of_some _ e))
 have hacc:h₁.PlainList s2.heap.objs.size #[]:=⟨_,hsb₁.extBut _ _ hDC (Heap.get?_push_of_some _ (hH2▸Heap.get?_push_size _ rfl))⟩
 have hst₁:tn 0 h₁:=T.keep _ _ _ st λb _ o e=>old b o e
 obtain⟨B1,B2,B3⟩:=hB G2.objs.size fp s2 H2
 have hDfs:s2.heap.objs.size∉aV X.stack:=λhb=>by
  rcases mem_cons.mp (I2.stkSub _ hb) with e|e
  ·exact absurd I2.lt (by rw[<-e];exact Nat.lt_irrefl _)
  ·exact I2.nofs (Nat.le_refl _) e
 have hDf:s2.heap.objs.size∉fp:=λhb=>Nat.lt_irrefl _ (hl _ hb)
 have fpB:∀{pl:List (Addr×Obj)}{H':Hp},(∀b∈fp,H' b=none)->(∀p∈pl,p.1∉fp)->∀b∈fp,fI (cH X sc M G2.objs.size fp s2 H2) pl H' b:=λ{pl H'}hn hp b hb=>by
  refine⟨hn b hb,below b (hl b hb),λz=>?_,.inl hb,λx c e=>(hf b hb).2.2.2.2.1 x c (iS (λ_ _ z=>by cases z) x c e),λp hp' z=>?_⟩
  ·rcases mem_cons.mp (I2.stkSub b z) with e|e
   ·exact(hf b hb).2.1 e
   ·exact(hf b hb).2.2.1 e
  ·have hp'':p∈pl:=by simpa[cH]using hp'
   exact hp p hp'' (z▸hb)
 have loop:∀s₃:Shared,s₃={ s2 with heap:=h₁,toks:=s2.toks+([]:List (Str×Value)).length }->
   codeAny (model X.prog X.w) X.A (.compLoop (.ListComp elt [⟨tg,iter,ifs,0⟩] sc pos) 0 (.ref it) (.ref s2.heap.objs.size) (compEnvC sc (gY X.env sc.names []) G2.objs.size X.env)) (RR (.ref s2.heap.objs.size) G2.objs.size) s₃:=by
  rintro s₃ rfl
  obtain⟨m0,w0⟩:=hw
  refine XX (λn s'=>∃(i:Nat)(ys:List V)(its:List Value)(k:Nat)(H':Hp),Inv (cH X sc M G2.objs.size fp s2 H2) [(s2.heap.objs.size,{ cls:=.type "list",data:=.seq its.toArray k })] (dH fm σ) H' s'/\Vals ys its/\ys.length<=sizeLine/\
   tn i s'.heap/\(∀b∈fp,H' b=none)/\W i n ys H') ?_ m0 ?_
  ·rintro n s' ⟨i,ys,its,k,H',I',rv,hz,st',fn',w'⟩
   have np:∀p∈[((s2.heap.objs.size,{ cls:=.type "list",data:=.seq its.toArray k }):Addr×Obj)],p.1∉fp:=λp hp=>by
    rcases mem_singleton.mp hp with rfl
    exact hDf
   rcases turn i n ys H' w' with⟨stop,qn⟩|⟨go,hz',N,hN,step⟩
   ·refine aH (T.done (cH X sc M G2.objs.size fp s2 H2) rfl rfl rfl hc i _ s' _ H' _ I' (fpB fn' np) st' stop) λr s4⟨hr,I4⟩=>?_
    subst hr
    obtain⟨eD,nD,_,_,_⟩:=I4.pin _ (mem_append_right _ mem_cons_self)
    obtain⟨m4,hn4,_⟩:=I4.loc
    have u4:Un (aV X.stack) fp H2 H' s2.heap s4.heap:=I4.base
    have eD':s4.heap.get? s2.heap.objs.size=some { cls:=.type "list",data:=.seq its.toArray k }:=eD
    have nD':H' s2.heap.objs.size=none:=nD
    have ne:∀b,b<s2.heap.objs.size->b≠s2.heap.objs.size:=λb hb=>Nat.ne_of_lt hb
    have hok:HOk X.prog X.w (upd H' s2.heap.objs.size (.lst ys)) s4.heap:=λb ob e=>by
     by_cases hb:b=s2.heap.objs.size
     ·subst hb
      rw[aC]at e
      cases e
      exact⟨hz,its,k,rv,eD'⟩
     ·rw[aE hb]at e
      exact(I4.hok b ob e).stay (λ_ _ _ q=>q) (λc q=>by rw[aE (aS q nD')];exact q) λc xs q=>by rw[aE (aS q nD')];exact q
    have u5:Un (aV X.stack) fp H2 (upd H' s2.heap.objs.size (.lst ys)) s2.heap s4.heap:=
     ⟨u4.keep,u4.slot,λb o e n hx=>by rw[aE (ne b (Heap.lt_size e))];exact u4.free b o e n hx,u4.there,
      λb xs e=>by have:=u4.tups b xs e;rw[aE (aS this nD')];exact this,
      λb o u e=>by have:=u4.frzs b o u e;rw[aE (aS this nD')];exact this,
      λb ps e=>by obtain⟨mo,this⟩:=u4.tbls b ps e;exact⟨mo,by rw[aE (aS this nD')];exact this⟩⟩
    have I5:Inv X pins σ (upd H' s2.heap.objs.size (.lst ys)) s4:=
     I2.call' I4.os u5 hok I4.bare λb hb=>⟨(hf b hb).2.2.2.1,(hf b hb).2.1,(hf b hb).2.2.2.2.1,(hf b hb).2.2.2.2.2⟩
    refine hRR _ _ _ m4 s4 hn4 I5 (I2.fpOk hCle ?_) (qn _ nD')
    rw[aE (Ne.symm hDC)]
    exact I4.free
   ·refine aH (T.item (cH X sc M G2.objs.size fp s2 H2) rfl rfl rfl hc i _ s' _ H' _ I' (fpB fn' np) st' go) λr s4⟨u,hr,h4⟩=>?_
    subst hr
    refine aH h4 λ_ s5⟨x,H5,I5,r5,y5,st5,fr5⟩=>?_
    have I5':=I5.pinned (fpB fr5 np) (T.obj _ _ st5)
    refine aH (B1 _ s5 _ H5 x u _ I5' r5 (hgk _ _ _ _ (step x H5 y5))) λ_ s6⟨σ6,H6,I6,q6,k6⟩=>?_
    refine aH (B2 _ s6 σ6 H6 _ I6 q6) λok s7⟨H7,I7,q7⟩=>?_
    have len6:(dH fm σ).length=σ6.length:=I'.len.trans I6.len.symm
    have wk:∀(j:Nat)(v:V),(dH fm σ)[j]? =some (some v)->σ6[j]? =some (some v):=λj v e=>by
     obtain⟨j',e'⟩:=W2 e
     rw[k6 j j' e']
     exact e
    have back:∀{σ8:St}{H8:Hp}{s8:Shared},Inv (cH X sc M G2.objs.size fp s2 H2) ([(s2.heap.objs.size,{ cls:=.type "list",data:=.seq its.toArray k })]++i8 fp s5.heap) σ8 H8 s8->tn (i+1) s8.heap/\∀b∈fp,H8 b=none:=λ{σ8 H8 s8}I8=>by
     refine⟨T.keep _ _ _ st5 λb hb o e=>(I8.pin (b,o) (mem_append_right _ (mem_append_right _ (pD hb e)))).1,λb hb=>?_⟩
     obtain⟨o,e,d⟩:=T.obj _ _ st5 b hb
     exact(I8.pin (b,o) (mem_append_right _ (mem_append_right _ (pD hb e)))).2.1
    cases ok with
    |false=>
     rw[if_neg Bool.false_ne_true]at q7
     rw[if_neg Bool.false_ne_true]
     obtain⟨m',hm,w7⟩:=hN ys H7 q7
     exact⟨m',hm,i+1,ys,its,k,H7,(I7.weak len6 wk).unpinned,rv,hz,(back I7).1,(back I7).2,w7⟩
    | true=>
     rw[if_pos rfl]at q7
     rw[if_pos rfl]
     refine aH (B3 _ s7 σ6 H7 _ I7 q7) λy s8⟨v,H8,I8,r8,q8⟩=>?_
     obtain⟨st8,fr8⟩:=back I8
     obtain⟨m',hm,w8⟩:=hN _ H8 q8
     obtain⟨eD,nD,_,_,_⟩:=I8.pin _ (mem_append_right _ (mem_append_left _ mem_cons_self))
     have hits:its.toArray.size=ys.length:=by simp[rv.length]
     refine wpAny_list_append_plain (items:=its.toArray) ⟨k,eD⟩ (λh' hpl hsb=>?_) (by rw[hits];exact hz)
     obtain⟨k',ek⟩:=hpl
     have ek':h'.get? s2.heap.objs.size=some { cls:=.type "list",data:=.seq (its++[y]).toArray k' }:=by simpa using ek
     have np8:∀p∈i8 fp s5.heap,p.1≠s2.heap.objs.size:=λp hp z=>hDf (z▸(FF hp).1)
     have I9:Inv (cH X sc M G2.objs.size fp s2 H2) (i8 fp s5.heap) σ6 H8 s8:=I8.pins_of λp hp=>I8.pin p (mem_append_right _ (mem_append_right _ hp))
     have I10:Inv (cH X sc M G2.objs.size fp s2 H2) (i8 fp s5.heap) σ6 H8 { s8 with heap:=h',toks:=s8.toks }:=
      I9.turned (it:=s2.heap.objs.size) (λb o hb e=>hsb.extBut b o hb e) nD hDC (.inr (Nat.le_refl _)) (λx c e z=>by
       obtain⟨v',q⟩:=I2.cell x c (iS (λ_ _ z=>by cases z) x c e)
       exact absurd (show c<s2.heap.objs.size from q.lt) (by rw[z];exact Nat.lt_irrefl _)) λp hp=>np8 p (by simpa[cH]using hp)
     have I11:Inv (cH X sc M G2.objs.size fp s2 H2) [(s2.heap.objs.size,{ cls:=.type "list",data:=.seq (its++[y]).toArray k' })] (dH fm σ) H8 { s8 with heap:=h',toks:=s8.toks }:=
      (I10.weak len6 wk).pins_of λp hp=>by
       rcases mem_singleton.mp hp with rfl
       exact⟨ek',nD,hDC,hDfs,λ_ z=>nomatch z⟩
     refine⟨m',hm,i+1,ys++[v],its++[y],k',H8,I11,rv.append (.cons r8 .nil),?_,?_,fr8,w8⟩
     ·rw[length_append];exact hz'
     ·exact T.keep _ _ _ st8 λb hb o e=>hsb.extBut b o (λz=>hDf (z▸hb)) e
  ·obtain⟨k0,e0⟩:=hacc
   refine⟨0,[],[],k0,H2,Y5 I2 hf hl hCle fr hk hfm old hns₁ λp hp=>?_,.nil,Nat.zero_le _,hst₁,λb hb=>(hf b hb).1,w0⟩
   rcases mem_singleton.mp hp with rfl
   exact⟨e0,I2.hok.fresh (Nat.le_refl _),hDC,hDfs,λ_ z=>nomatch z⟩
 exact codeAny_compStart_list (loop _ rfl) (T.self _ 0 _ _ _ hst₁ (loop _ rfl))
end
section
variable{X:Cx}{sc:Scope}{M:List Str}{fm:List (Option Nat)}{tg iter elt:Expr}{ifs:List Expr}{pos:Pos}{g:TG}{tt:TT}{te:TE}{wi:TI}
theorem Inv.letGo{pins:List (Addr×Obj)}{σ:St}{H:Hp}{s:Shared}{C:Addr}{h':Heap}(I:Inv X pins σ H s)(f:fI X pins H C)(hs:Heap.SameBut C s.heap h'):Inv X pins σ H { s with heap:=h' }:=
 I.turned (t':=s.toks) (it:=C) (λb o hb e=>hs.extBut b o hb e) f.1 f.2.1 f.2.2.2.1 f.2.2.2.2.1 f.2.2.2.2.2
theorem fN(hc:X.calm=true)(fr:FrOk X.env sc.names)(hfm:FmOk X.N sc M fm)(hgk:GK fm g)(hk:sc.kind=.function)(hnm:∀y∈sc.names,y.2=.local->sc.names.lookup y.1=some .local)(hi:PI X tg iter wi)
  (hB:∀C fp s H,PG (cH X sc M C fp s H) tg g/\nP (cH X sc M C fp s H) ifs tt/\PE (cH X sc M C fp s H) elt te) (hs:∀x,foldedSetIterable iter X.env x=pure x:=by intro _;rfl):
  PE X (.ListComp elt [⟨tg,iter,ifs,0⟩] sc pos) (rP wi fm g tt te):=by
 intro pins s σ H Q I h
 rw[eval_ListComp]
 have hclos:=HN (env:=X.env) (sc:=sc) λn hn=>I.ok.has n (fr.free hn)
 refine wpAny_comprehension_free (use:=none) rfl hs hclos hk hnm (aH (hi pins s σ H _ I h) λv s1 h1=>aH h1 λitv s2 h2=>?_)
 obtain⟨it,fp,tn,J,H2,e,I2,T,st2,f2,W,w0,turn⟩:=h2
 subst e
 refine HK (Q:=Q) (RR:=λacc C=>compPost (model X.prog X.w) X.A X.xe none (EP X pins σ Q) acc C) hc I2 T st2 f2 fr hk hfm hgk hB W w0 turn ?_
 intro D C H' m s' hn I' f' q
 exact⟨m,hn,λh' hs'=>⟨.ref D,H',I'.letGo f' hs',rfl,q⟩⟩
theorem oX{i:Nat}{x:Str}{px pst:Pos}(hN:X.N.Nodup)(hix:X.N[i]? =some x)(hx:X.env.kindOf x=some .local)(hsw:swapsWith (.ListComp elt [⟨tg,iter,ifs,0⟩] sc pos) (some (.Name x px)) pst.line X.env=pure true)
  (hc:X.calm=true) (fr:FrOk X.env sc.names) (hfm:FmOk X.N sc M fm) (hgk:GK fm g) (hk:sc.kind=.function) (hnm:∀y∈sc.names,y.2=.local->sc.names.lookup y.1=some .local) (hi:PI X tg iter wi)
  (hB:∀C fp s H,PG (cH X sc M C fp s H) tg g/\nP (cH X sc M C fp s H) ifs tt/\PE (cH X sc M C fp s H) elt te) (hs:∀x,foldedSetIterable iter X.env x=pure x:=by intro _;rfl):
  PS X (.Assign [.Name x px] (.ListComp elt [⟨tg,iter,ifs,0⟩] sc pos) pst) (oG (rP wi fm g tt te) (jX i)):=by
 intro pins s σ H D I h
 rw[exec_Assign_Name_used _ _ _ _ hsw]
 refine wpAny_bind (wpAny_standAt (wpAny_bind ?_))
 show wpAny _ _ (do let _ <-comprehension (.ListComp elt [⟨tg,iter,ifs,0⟩] sc pos) sc X.env _ (newList []) false (eval iter X.env) (some (assign (.Name x px) X.env))) _ _ s
 have hclos:=HN (env:=X.env) (sc:=sc) λn hn=>I.ok.has n (fr.free hn)
 refine wpAny_bind (wpAny_mono (wpAny_comprehension_free (use:=some (assign (.Name x px) X.env)) (Q:=λ_ s'=>SP X pins D .next s') rfl hs hclos hk hnm (aH (hi pins s σ H _ I h) λv s1 h1=>aH h1 λitv s2 h2=>?_))
  (λ_ s' hq=>wpAny_pure (wpAny_pure hq)) λ_ _ e=>e)
 obtain⟨it,fp,tn,J,H2,e,I2,T,st2,f2,W,w0,turn⟩:=h2
 subst e
 refine HK (Q:=λv H'=>jX i v σ H' D.nx) (RR:=λacc C=>compPost (model X.prog X.w) X.A X.xe (some (assign (.Name x px) X.env)) (λ_ s'=>SP X pins D .next s') acc C) hc I2 T st2 f2 fr hk hfm hgk hB W w0 turn ?_
 intro Da C H' m s' hn I' f' q
 show wpAny _ _ (assign (.Name x px) X.env (.ref Da)) _ _ s'
 refine wpAny_assign_Name (BT (v:=.ref Da) I' hN hix (.inl hx) rfl (λs2 I2' hs2=>?_) (.inr hx))
 obtain⟨a,hsb,ha⟩:=hs2
 have hCa:C≠a:=by
  rcases ha with rfl|ha
  ·exact f'.2.1
  ·exact(f'.2.2.2.2.1 x a ha).symm
 exact⟨m,hn.sameBut hsb hCa,λh' hs'=>⟨_,H',I2'.letGo f' hs',q⟩⟩
end
mutual
inductive Is (H:Hp):V->PyData->Prop
 |non:Is H .non .none
 |bl (b:Bool):Is H (.bl b) (.bool b)
 |int (i:Int):Is H (.int i) (.int i)
 |str (x:Str):Is H (.str x) (.str x)
 |tup {a:Addr} {xs:List V} {ds:List PyData}:H a=some (.tup xs)->IsAll H xs ds->Is H (.ref a) (.tuple ds)
 |lst {a:Addr} {xs:List V} {ds:List PyData}:Rd H a (.lst xs)->IsAll H xs ds->Is H (.ref a) (.list ds)
inductive IsAll (H:Hp):List V->List PyData->Prop
 |nil:IsAll H [] []
 |cons {v:V} {d:PyData} {vs:List V} {ds:List PyData}:Is H v d->IsAll H vs ds->IsAll H (v::vs) (d::ds)
end
theorem IsAll.length{H:Hp}:∀{vs:List V}{ds:List PyData},IsAll H vs ds->vs.length=ds.length
 |_,_,.nil=>rfl
 |_,_,.cons _ t=>by simp[t.length]
theorem IsAll.get{H:Hp}:∀{vs:List V}{ds:List PyData}{i:Nat}{d:PyData},IsAll H vs ds->ds[i]? =some d->∃v,vs[i]? =some v/\Is H v d
 |_,_,_,_,.nil,e=>by simp at e
 |_,_,0,_,.cons h t,e=>by simp at e;subst e;exact⟨_,rfl,h⟩
 |_,_,i+1,d,.cons h t,e=>by
  obtain⟨v,a,b⟩:=t.get (i:=i) (d:=d) (by simpa using e)
  exact⟨v,by simpa using a,b⟩
theorem IsAll.get'{H:Hp}:∀{vs:List V}{ds:List PyData}{i:Nat}{v:V},IsAll H vs ds->vs[i]? =some v->∃d,ds[i]? =some d/\Is H v d
 |_,_,_,_,.nil,e=>by simp at e
 |_,_,0,_,.cons h t,e=>by simp at e;subst e;exact⟨_,rfl,h⟩
 |_,_,i+1,d,.cons h t,e=>by
  obtain⟨v,a,b⟩:=t.get' (i:=i) (v:=d) (by simpa using e)
  exact⟨v,by simpa using a,b⟩
theorem IsAll.append{H:Hp}:∀{vs:List V}{ds:List PyData}{us:List V}{es:List PyData},IsAll H vs ds->IsAll H us es->IsAll H (vs++us) (ds++es)
 |_,_,_,_,.nil,s=>s
 |_,_,_,_,.cons h t,s=>.cons h (t.append s)
theorem IsAll.snoc{H:Hp}{vs:List V}{ds:List PyData}{v:V}{d:PyData}(h:IsAll H vs ds)(q:Is H v d):IsAll H (vs++[v]) (ds++[d]):=h.append (.cons q .nil)
theorem IsAll.take{H:Hp}:∀{vs:List V}{ds:List PyData}(n:Nat),IsAll H vs ds->IsAll H (vs.take n) (ds.take n)
 |_,_,0,_=>.nil
 |_,_,_+1,.nil=>.nil
 |_,_,n+1,.cons h t=>.cons h (t.take n)
theorem IsAll.drop{H:Hp}:∀{vs:List V}{ds:List PyData}(n:Nat),IsAll H vs ds->IsAll H (vs.drop n) (ds.drop n)
 |_,_,0,h=>h
 |_,_,_+1,.nil=>.nil
 |_,_,n+1,.cons h t=>t.drop n
theorem IsAll.ints{H:Hp}:∀ns:List Int,IsAll H (ns.map V.int) (ns.map PyData.int)
 |[]=>.nil
 |n::ns=>.cons (.int n) (IsAll.ints ns)
theorem IsAll.of_ints{H:Hp}:∀{vs:List V}{ns:List Int},IsAll H vs (ns.map PyData.int)->vs=ns.map V.int
 |_,[],h=>by cases h;rfl
 |_,n::ns,h=>by
  rw[map_cons]at h
  cases h with
  |cons h1 t=>
  cases h1
  rw[map_cons,t.of_ints]
mutual
theorem Is.mono{H H':Hp}(ht:∀a xs,H a=some (.tup xs)->H' a=some (.tup xs))(hl:∀a xs,Rd H a (.lst xs)->Rd H' a (.lst xs)):∀{v:V}{d:PyData},Is H v d->Is H' v d
 |_,_,.non=>.non
 |_,_,.bl b=>.bl b
 |_,_,.int i=>.int i
 |_,_,.str x=>.str x
 |_,_,.tup e h=>.tup (ht _ _ e) (IsAll.mono ht hl h)
 |_,_,.lst e h=>.lst (hl _ _ e) (IsAll.mono ht hl h)
theorem IsAll.mono{H H':Hp}(ht:∀a xs,H a=some (.tup xs)->H' a=some (.tup xs))(hl:∀a xs,Rd H a (.lst xs)->Rd H' a (.lst xs)):∀{vs:List V}{ds:List PyData},IsAll H vs ds->IsAll H' vs ds
 |_,_,.nil=>.nil
 |_,_,.cons h t=>.cons (Is.mono ht hl h) (IsAll.mono ht hl t)
end
mutual
noncomputable def cB:PyData->Bool
 | .none| .bool _| .int _| .str _=>true
 | .tuple xs=>bR xs
 | .list _| .dict _=>false
noncomputable def bR:List PyData->Bool
 |[]=>true
 |x::xs=>cB x&&bR xs
end
mutual
theorem Is.tmono{H H':Hp}(ht:∀a xs,H a=some (.tup xs)->H' a=some (.tup xs)):∀{v:V}{d:PyData},cB d=true->Is H v d->Is H' v d
 |_,_,_,.non=>.non
 |_,_,_,.bl b=>.bl b
 |_,_,_,.int i=>.int i
 |_,_,_,.str x=>.str x
 |_,_,n,.tup e h=>.tup (ht _ _ e) (IsAll.tmono ht (by simpa[cB]using n) h)
 |_,_,n,.lst e h=>by simp[cB]at n
theorem IsAll.tmono{H H':Hp}(ht:∀a xs,H a=some (.tup xs)->H' a=some (.tup xs)):∀{vs:List V}{ds:List PyData},bR ds=true->IsAll H vs ds->IsAll H' vs ds
 |_,_,_,.nil=>.nil
 |_,_,n,.cons h t=>by
  rw[bR,Bool.and_eq_true]at n
  exact .cons (Is.tmono ht n.1 h) (IsAll.tmono ht n.2 t)
end
theorem Same.rd{H H':Hp}(e:Same H H'){a:Addr}{u:HO}(h:Rd H a u):Rd H' a u:=by
 rcases h with h|⟨o,h⟩
 ·exact .inl (e _ _ h)
 ·exact .inr ⟨o,e _ _ h⟩
theorem Is.same{H H':Hp}(e:Same H H'){v:V}{d:PyData}(h:Is H v d):Is H' v d:=h.mono (λ_ _ q=>e _ _ q) λ_ _ q=>e.rd q
theorem IsAll.same{H H':Hp}(e:Same H H'){v:List V}{d:List PyData}(h:IsAll H v d):IsAll H' v d:=h.mono (λ_ _ q=>e _ _ q) λ_ _ q=>e.rd q
section
variable{X:Cx}{pins:List (Addr×Obj)}{σ:St}{H:Hp}{s:Shared}
mutual
theorem Is.reads(I:Inv X pins σ H s):∀{v:V}{d:PyData}{u:Value},Is H v d->RelV v u->∃as,Reads s.heap u d as
 |_,_,_,.non,r=>by cases(show _=Value.none from r);exact⟨_,.none⟩
 |_,_,_,.bl b,r=>by cases(show _=Value.bool b from r);exact⟨_,.bool b⟩
 |_,_,_,.int i,r=>by obtain⟨t,rfl⟩:=r;exact⟨_,.int i t⟩
 |_,_,_,.str x,r=>by obtain⟨t,rfl⟩:=r;exact⟨_,.str x t⟩
 |_,_,_,.tup (a:=a) e h,r=>by
  cases(show _=Value.ref a from r)
  obtain⟨its,rv,⟨o,h1,h2,n,h3⟩,_⟩:=I.tuple (SqT.of e)
  obtain⟨as,ra⟩:=IsAll.reads I h rv
  exact⟨_,.tuple h1 h2 h3 (by simpa using ra)⟩
 |_,_,_,.lst (a:=a) e h,r=>by
  cases(show _=Value.ref a from r)
  obtain⟨its,rv,⟨o,n,h1,h2,_,h3⟩,_⟩:=I.list (.inl e)
  obtain⟨as,ra⟩:=IsAll.reads I h rv
  exact⟨_,.list h1 h2 h3 (by simpa using ra)⟩
theorem IsAll.reads(I:Inv X pins σ H s):∀{vs:List V}{ds:List PyData}{us:List Value},IsAll H vs ds->Vals vs us->∃as,ReadsAll s.heap us ds as
 |_,_,_,.nil,.nil=>⟨_,.nil⟩
 |_,_,_,.cons h t,.cons r q=>by
  obtain⟨as,ra⟩:=Is.reads I h r
  obtain⟨bs,rb⟩:=IsAll.reads I t q
  exact⟨_,.cons ra rb⟩
end
end
noncomputable def dQ(d:PyData):Prop:=d.canLay0=true/\d.depth<=40
noncomputable def vB(ds:List PyData):Prop:=PyData.canLayAll0 ds=true/\PyData.depthAll ds<=40
section
variable{X:Cx}
noncomputable def jM(neg:Bool):R2:=λx y H Q=>∃d e,Is H x d/\Is H y e/\dQ d/\dQ e/\Q (.bl (if neg then !PyData.eqv d e else PyData.eqv d e)) H
theorem dY(hu:X.A.units+64<cLine):OpR X (compareOp .Eq) (jM false):=by
 intro pins s σ H x y v u Q I rx ry h
 obtain⟨d,e,hx,hy,od,oe,q⟩:=h
 obtain⟨as,ra⟩:=hx.reads I rx
 obtain⟨bs,rb⟩:=hy.reads I ry
 exact SeqAt.compareEq_reads ra rb od.1 oe.1 (by have:=od.2;lia) ⟨.bl _,H,I,rfl,q⟩
theorem fQ(hu:X.A.units+64<cLine):OpR X (compareOp .NotEq) (jM true):=by
 intro pins s σ H x y v u Q I rx ry h
 obtain⟨d,e,hx,hy,od,oe,q⟩:=h
 obtain⟨as,ra⟩:=hx.reads I rx
 obtain⟨bs,rb⟩:=hy.reads I ry
 exact SeqAt.compareNe_reads ra rb od.1 oe.1 (by have:=od.2;lia) ⟨.bl _,H,I,rfl,q⟩
noncomputable def jW(d:PyData)(ds:List PyData):Bool:=ds.any λy=>PyData.eqv y d
noncomputable def kE(neg:Bool):R2:=λx y H Q=>∃d ds,Is H x d/\(Is H y (.tuple ds)\/Is H y (.list ds))/\dQ d/\vB ds/\Q (.bl (if neg then !jW d ds else jW d ds)) H
theorem jT(hu:X.A.units+64<cLine):OpR X (compareOp .In) (kE false):=by
 intro pins s σ H x y v u Q I rx ry h
 obtain⟨d,ds,hx,hy,od,oe,q⟩:=h
 obtain⟨as,ra⟩:=hx.reads I rx
 rcases hy with hy|hy
 ·obtain⟨bs,rb⟩:=hy.reads I ry
  exact SeqAt.in_tuple_reads rb ra oe.1 od.1 (by have:=od.2;lia) ⟨.bl _,H,I,rfl,q⟩
 ·obtain⟨bs,rb⟩:=hy.reads I ry
  exact SeqAt.in_list_reads rb ra oe.1 od.1 (by have:=od.2;lia) ⟨.bl _,H,I,rfl,q⟩
theorem iD(hu:X.A.units+64<cLine):OpR X (compareOp .NotIn) (kE true):=by
 intro pins s σ H x y v u Q I rx ry h
 obtain⟨d,ds,hx,hy,od,oe,q⟩:=h
 obtain⟨as,ra⟩:=hx.reads I rx
 rcases hy with hy|hy
 ·obtain⟨bs,rb⟩:=hy.reads I ry
  exact SeqAt.notIn_tuple_reads rb ra oe.1 od.1 (by have:=od.2;lia) ⟨.bl _,H,I,rfl,q⟩
 ·obtain⟨bs,rb⟩:=hy.reads I ry
  exact SeqAt.notIn_list_reads rb ra oe.1 od.1 (by have:=od.2;lia) ⟨.bl _,H,I,rfl,q⟩
end
noncomputable def gH:PyData->String
 | .none=>"NoneType"
 | .bool _=>"bool"
 | .int _=>"int"
 | .str _=>"str"
 | .list _=>"list"
 | .tuple _=>"tuple"
 | .dict _=>"dict"
theorem Is.ty{K:PySem.W.Frag}{H:Hp}{v:V}{d:PyData}(h:Is H v d):eQ K H v (.type (gH d)):=by
 cases h with
 |non=>exact .non
 |bl b=>exact .bl b
 |int i=>exact .int i
 |str x=>exact .str x
 |tup e _=>exact .tup e
 |lst e _=>
  rcases e with e|⟨o,e⟩
  ·exact .lst e
  ·exact .frz e
noncomputable def iM(T:String)(d:PyData):Bool:=gH d==T||(T=="int"&&gH d=="bool")
theorem VB{K:PySem.W.Frag}(d:PyData):PySem.W.kitOne K (.type (gH d)) (.type "bool")=some (iM "bool" d):=by cases d <;> with_unfolding_all rfl
theorem U9{K:PySem.W.Frag}(d:PyData):PySem.W.kitOne K (.type (gH d)) (.type "int")=some (iM "int" d):=by cases d <;> with_unfolding_all rfl
theorem kit_tuple{K:PySem.W.Frag}(d:PyData):PySem.W.kitOne K (.type (gH d)) (.type "tuple")=some (iM "tuple" d):=by cases d <;> with_unfolding_all rfl
theorem U8{K:PySem.W.Frag}(d:PyData):PySem.W.kitOne K (.type (gH d)) (.type "list")=some (iM "list" d):=by cases d <;> with_unfolding_all rfl
theorem U7{K:PySem.W.Frag}(d:PyData):PySem.W.kitOne K (.type (gH d)) (.type "str")=some (iM "str" d):=by cases d <;> with_unfolding_all rfl
theorem VA{K:PySem.W.Frag}(d:PyData):PySem.W.kitOne K (.type (gH d)) (.type "dict")=some (iM "dict" d):=by cases d <;> with_unfolding_all rfl
section
variable{X:Cx}
theorem YK:CallR X (.builtin "isinstance") (λxs H Q=>∃x T d,xs=[x,.ty T]/\T∈(["bool","int","tuple","list","str","dict"]:List String)/\Is H x d/\Q (.bl (iM T d)) H):=by
 intro pins s σ H xs us Q I r h
 obtain⟨x,T,d,rfl,hT,hx,q⟩:=h
 obtain⟨u,v,rfl,rx,ry⟩:=Vals.two r
 cases(show v=Value.type T from ry)
 have fin:∀{b:Bool},PySem.W.kitOne X.K (.type (gH d)) (.type T)=some b->b=iM T d->wpAny (model X.prog X.w) X.A (call (.builtin "isinstance") [u,.type T]) (EP X pins σ Q) X.xe s:=λ{b}e eb=>by
  subst eb
  exact WB I rx hx.ty e λtk=>⟨.bl _,H,I.tok tk,rfl,q⟩
 simp only[mem_cons,not_mem_nil,or_false]at hT
 rcases hT with rfl|rfl|rfl|rfl|rfl|rfl
 ·exact fin (VB d) rfl
 ·exact fin (U9 d) rfl
 ·exact fin (kit_tuple d) rfl
 ·exact fin (U8 d) rfl
 ·exact fin (U7 d) rfl
 ·exact fin (VA d) rfl
end
end L2
set_option maxHeartbeats 4000000
namespace L2
open PySem PySem.Spec PyProof.Rows
noncomputable def Run{α:Type}(lt:Nat->Nat->Bool)(n:Nat):PySem.W.KasT α->(α->Prop)->Prop
 | .ret a,Q=>Q a
 | .ask i j k,Q=>i<n/\j<n/\Run lt n (k (lt i j)) Q
section
variable{lt:Nat->Nat->Bool}{n:Nat}
theorem Run.mono{α:Type}{Q Q':α->Prop}(h:∀a,Q a->Q' a):∀{t:PySem.W.KasT α},Run lt n t Q->Run lt n t Q'
 | .ret a,q=>h a q
 | .ask i j k,⟨a,b,q⟩=>⟨a,b,Run.mono h q⟩
theorem Run.bind{α β:Type}{f:α->PySem.W.KasT β}{Q:β->Prop}:∀{t:PySem.W.KasT α},Run lt n t (λa=>Run lt n (f a) Q)->Run lt n (t.bind f) Q
 | .ret a,q=>q
 | .ask i j k,⟨a,b,q⟩=>⟨a,b,Run.bind q⟩
theorem Run.wp{α:Type}{cmp:Nat->Nat->(Bool->Shared->Prop)->Shared->Prop}{Q:α->Prop}{R:α->Shared->Prop}{s:Shared}(hc:∀i j C,i<n->j<n->C (lt i j) s->cmp i j C s)(hR:∀a,Q a->R a s):
  ∀{t:PySem.W.KasT α},Run lt n t Q->t.kasWp cmp R s
 | .ret a,q=>hR a q
 | .ask i j k,⟨a,b,q⟩=>hc i j _ a b (Run.wp hc hR q)
structure nO (lt:Nat->Nat->Bool) (n:Nat):Prop where
 tr:∀i j k,i<n->j<n->k<n->lt i j=true->lt j k=true->lt i k=true
 tot:∀i j,i<n->j<n->i≠j->lt i j=false->lt j i=true
 irr:∀i j,i<n->j<n->lt i j=true->lt j i=false
structure cV (n:Nat) (p:Array Nat):Prop where
 sz:p.size=n
 lt:∀i,i<n->p.getD i 0<n
 ne:∀i j,i<n->j<n->i≠j->p.getD i 0≠p.getD j 0
 pm:p.toList.Perm (range n)
noncomputable def Up(lt:Nat->Nat->Bool)(p:Array Nat)(k:Nat):Prop:=∀i j,i<j->j<k->lt (p.getD i 0) (p.getD j 0)=true
noncomputable def Dn(lt:Nat->Nat->Bool)(p:Array Nat)(k:Nat):Prop:=∀i j,i<j->j<k->lt (p.getD j 0) (p.getD i 0)=true
variable(S:nO lt n)
include S
theorem KS{p:Array Nat}{k:Nat}(P:cV n p)(h1:1<=k)(hk:k<n)(u:Up lt p k)(h:lt (p.getD (k-1) 0) (p.getD k 0)=true):Up lt p (k+1):=λi j hij hj=>by
 by_cases e:j=k
 ·subst e
  by_cases e2:i=j-1
  ·subst e2;exact h
  ·exact S.tr _ _ _ (P.lt _ (by lia)) (P.lt _ (by lia)) (P.lt _ (by lia)) (u i (j-1) (by lia) (by lia)) h
 ·exact u i j hij (by lia)
theorem XH{p:Array Nat}{k:Nat}(P:cV n p)(h1:1<=k)(hk:k<n)(u:Dn lt p k)(h:lt (p.getD k 0) (p.getD (k-1) 0)=true):Dn lt p (k+1):=λi j hij hj=>by
 by_cases e:j=k
 ·subst e
  by_cases e2:i=j-1
  ·subst e2;exact h
  ·exact S.tr _ _ _ (P.lt _ (by lia)) (P.lt _ (by lia)) (P.lt _ (by lia)) h (u i (j-1) (by lia) (by lia))
 ·exact u i j hij (by lia)
theorem tW{p:Array Nat}(P:cV n p):∀(f k:Nat),1<=k->k+f<=n->Up lt p k->Run lt n (PySem.W.kas_asc p f k) λr=>k<=r/\r<=k+f/\Up lt p r/\(r<k+f->lt (p.getD r 0) (p.getD (r-1) 0)=true)
 |0,k,_,_,u=>⟨Nat.le_refl _,Nat.le_refl _,u,λh=>absurd h (Nat.lt_irrefl _)⟩
 | f+1,k,h1,hn,u=>by
  refine⟨P.lt _ (by lia),P.lt _ (by lia),?_⟩
  cases c:lt (p.getD k 0) (p.getD (k-1) 0) with
  |true=>exact⟨Nat.le_refl _,by lia,u,λ_=>c⟩
  |false=>
   have c':=S.tot _ _ (P.lt _ (by lia)) (P.lt _ (by lia)) (P.ne k (k-1) (by lia) (by lia) (by lia)) c
   exact(tW P f (k+1) (by lia) (by lia) (KS S P h1 (by lia) u c')).mono λr⟨a,b,c,d⟩=>⟨by lia,by lia,c,λh=>d (by lia)⟩
theorem C7{p:Array Nat}(P:cV n p):∀(f k:Nat),1<=k->k+f<=n->Dn lt p k->Run lt n (PySem.W.kas_desc f p k 0) λr=>r.1=p/\r.2.2=0/\k<=r.2.1/\r.2.1<=k+f/\Dn lt p r.2.1
 |0,k,_,_,u=>⟨rfl,rfl,Nat.le_refl _,Nat.le_refl _,u⟩
 | f+1,k,h1,hn,u=>by
  refine⟨P.lt _ (by lia),P.lt _ (by lia),?_⟩
  cases c:lt (p.getD k 0) (p.getD (k-1) 0) with
  |true=>
   show Run lt n (if(0:Nat)>0 then PySem.W.kas_desc f (PySem.W.kas_rev p (k-(0+1)) k) (k+1) 0 else PySem.W.kas_desc f p (k+1) 0) _
   rw[if_neg (Nat.lt_irrefl 0)]
   exact(C7 P f (k+1) (by lia) (by lia) (XH S P h1 (by lia) u c)).mono λr⟨a,b,c,d,e⟩=>⟨a,b,by lia,by lia,e⟩
  |false=>
   have c':=S.tot _ _ (P.lt _ (by lia)) (P.lt _ (by lia)) (P.ne k (k-1) (by lia) (by lia) (by lia)) c
   refine⟨P.lt _ (by lia),P.lt _ (by lia),?_⟩
   rw[c']
   exact⟨rfl,rfl,Nat.le_refl _,Nat.le_add_right _ _,u⟩
omit S in
theorem mR{p:Array Nat}{k:Nat}(hk:k<=p.size)(i:Nat):(PySem.W.kas_rev p 0 k).getD i 0=if i<k then p.getD (k-1-i) 0 else p.getD i 0:=by
 have e:∀(q:Array Nat)(i:Nat),q.getD i 0=(q[i]?).getD 0:=λq i=>by
  by_cases h:i<q.size
  ·simp[Array.getD,h]
  ·simp[Array.getD,h]
 rw[e,e,e]
 unfold PySem.W.kas_rev
 rw[getElem?_mirror hk _ (by lia)]
 by_cases h:i<k
 ·rw[if_pos h]
  by_cases h2:(0<=i/\i<0+(k-0)/2)\/(k-(k-0)/2<=i/\i<k)
  ·rw[if_pos h2]
   congr 2
   lia
  ·rw[if_neg h2]
   have:k-1-i=i:=by lia
   rw[this]
 ·rw[if_neg h,if_neg (by lia)]
omit S in
theorem DJ{p:Array Nat}(P:cV n p){k:Nat}(hk:k<=n):cV n (PySem.W.kas_rev p 0 k) where
 sz:=(mirror_size _ _ _ _).trans P.sz
 lt:=λi hi=>by
  rw[mR (by rw[P.sz];exact hk)]
  split
  ·exact P.lt _ (by lia)
  ·exact P.lt _ hi
 ne:=λi j hi hj hne=>by
  rw[mR (by rw[P.sz];exact hk),mR (by rw[P.sz];exact hk)]
  split <;> split <;> exact P.ne _ _ (by lia) (by lia) (by lia)
 pm:=(Array.perm_iff_toList_perm.mp (mirror_perm _ _ _ _)).trans P.pm
omit S in
theorem NA{p:Array Nat}(P:cV n p){k:Nat}(hk:k<=n)(d:Dn lt p k):Up lt (PySem.W.kas_rev p 0 k) k:=λi j hij hj=>by
 rw[mR (by rw[P.sz];exact hk),mR (by rw[P.sz];exact hk),if_pos (by lia),if_pos hj]
 exact d _ _ (by lia) (by lia)
theorem MW{p:Array Nat}(P:cV n p){k:Nat}(h1:1<=k)(hk:k<=n)(d:Dn lt p k):Run lt n (PySem.W.kas_tail3 k n p) λr=>1<=r.1/\r.1<=n/\cV n r.2/\Up lt r.2 r.1:=by
 unfold PySem.W.kas_tail3
 refine Run.bind ((tW S (DJ P hk) (n-k) k h1 (by lia) (NA P hk d)).mono λr⟨a,b,c,_⟩=>?_)
 exact⟨by lia,by lia,DJ P hk,c⟩
theorem MY{p:Array Nat}(P:cV n p)(h1:1<=n):Run lt n (PySem.W.kas_count n p) λr=>1<=r.1/\r.1<=n/\cV n r.2/\Up lt r.2 r.1:=by
 unfold PySem.W.kas_count
 refine Run.bind ((tW S P (n-1) 1 (Nat.le_refl _) (by lia) (λi j hij hj=>by lia)).mono λr⟨a,b,u,c⟩=>?_)
 by_cases hr:(r==n)=true
 ·rw[if_pos hr]
  exact⟨a,by lia,P,u⟩
 ·rw[if_neg hr]
  have hr':r≠n:=by simpa using hr
  by_cases h2:r>1
  ·rw[if_pos h2]
   refine⟨P.lt _ (by lia),P.lt _ (by lia),?_⟩
   rw[u 0 (r-1) (by lia) (by lia)]
   exact⟨a,by lia,P,u⟩
  ·rw[if_neg h2]
   have er:r=1:=by lia
   subst er
   unfold PySem.W.kas_descPart
   have c0:=c (by lia)
   have d2:Dn lt p 2:=λi j hij hj=>by
    have ei:i=0:=by lia
    have ej:j=1:=by lia
    subst ei ej
    exact c0
   refine Run.bind ((C7 S P (n-(1+1)) (1+1) (by lia) (by lia) d2).mono λq⟨e1,e2,e3,e4,e5⟩=>?_)
   rw[e2,if_neg (Nat.lt_irrefl 0),e1]
   exact MW S P (by lia) (by lia) e5
theorem tV{p:Array Nat}(P:cV n p){k:Nat}(hk:k<n):∀(f l r:Nat),r<=l+f->l<=r->r<=k->(∀i,i<l->lt (p.getD i 0) (p.getD k 0)=true)->(∀i,r<=i->i<k->lt (p.getD k 0) (p.getD i 0)=true)->Up lt p k->
  Run lt n (PySem.W.kas_place p k f l r) λx=>x<=k/\(∀i,i<x->lt (p.getD i 0) (p.getD k 0)=true)/\(∀i,x<=i->i<k->lt (p.getD k 0) (p.getD i 0)=true)
 |0,l,r,h1,h2,h3,hl,hr,_=>by
  have e:l=r:=by lia
  subst e
  exact⟨h3,hl,hr⟩
 | f+1,l,r,h1,h2,h3,hl,hr,u=>by
  unfold PySem.W.kas_place
  by_cases h:l>=r
  ·rw[if_pos h]
   have e:l=r:=by lia
   subst e
   exact⟨h3,hl,hr⟩
  ·rw[if_neg h]
   refine⟨P.lt _ (by lia),P.lt _ (by lia),?_⟩
   cases c:lt (p.getD k 0) (p.getD ((l+r)/2) 0) with
   |true=>
    refine tV P hk f l ((l+r)/2) (by lia) (by lia) (by lia) hl (λi wI iO=>?_) u
    by_cases e:i=(l+r)/2
    ·subst e;exact c
    ·exact S.tr _ _ _ (P.lt _ (by lia)) (P.lt _ (by lia)) (P.lt _ (by lia)) c (u _ _ (by lia) (by lia))
   |false=>
    have c':=S.tot _ _ (P.lt _ (by lia)) (P.lt _ (by lia)) (P.ne k ((l+r)/2) (by lia) (by lia) (by lia)) c
    refine tV P hk f ((l+r)/2+1) r (by lia) (by lia) h3 (λi hi=>?_) hr u
    by_cases e:i=(l+r)/2
    ·subst e;exact c'
    ·exact S.tr _ _ _ (P.lt _ (by lia)) (P.lt _ (by lia)) (P.lt _ (by lia)) (u _ _ (by lia) (by lia)) c'
omit S in
theorem mS{p:Array Nat}{k d:Nat}(hk:k<p.size)(hd:d<=k)(i:Nat):(bubble p k d).getD i 0=if i=k-d then p.getD k 0 else if k-d<i/\i<=k then p.getD (i-1) 0 else p.getD i 0:=by
 have e:∀(q:Array Nat)(i:Nat),q.getD i 0=(q[i]?).getD 0:=λq i=>by
  by_cases h:i<q.size
  ·simp[Array.getD,h]
  ·simp[Array.getD,h]
 rw[e,e,e,e,getElem?_bubble hk d hd]
 split
 ·rfl
 ·split <;> rfl
omit S in
theorem YX{p:Array Nat}(P:cV n p){k d:Nat}(hk:k<n)(hd:d<=k):cV n (bubble p k d) where
 sz:=(bubble_size _ _ _).trans P.sz
 lt:=λi hi=>by
  rw[mS (by rw[P.sz];exact hk) hd]
  split
  ·exact P.lt _ hk
  ·split
   ·exact P.lt _ (by lia)
   ·exact P.lt _ hi
 ne:=λi j hi hj hne=>by
  rw[mS (by rw[P.sz];exact hk) hd,mS (by rw[P.sz];exact hk) hd]
  split <;> split <;> first|(split <;> first|exact P.ne _ _ (by lia) (by lia) (by lia)|(split <;> exact P.ne _ _ (by lia) (by lia) (by lia)))|exact P.ne _ _ (by lia) (by lia) (by lia)|lia
 pm:=(Array.perm_iff_toList_perm.mp (bubble_perm _ _ _)).trans P.pm
theorem C8:∀(f:Nat)(p:Array Nat)(k:Nat),cV n p->k+f=n->1<=k->Up lt p k->Run lt n (PySem.W.kas_bin f p k) λq=>cV n q/\Up lt q n
 |0,p,k,P,e,_,u=>by
  have e':k=n:=by lia
  subst e'
  exact⟨P,u⟩
 | f + 1,p,k,P,e,h1,u=>by
  unfold PySem.W.kas_bin
  refine Run.bind ((tV S P (by lia:k<n) k 0 k (by lia) (by lia) (Nat.le_refl _) (λi hi=>by lia) (λi h1 h2=>by lia) u).mono λl⟨hl,ha,hb⟩=>?_)
  have hp:k<p.size:=by rw[P.sz];lia
  refine C8 f _ (k+1) (YX P (by lia) (by lia)) (by lia) (by lia) λi j hij hj=>?_
  rw[mS hp (by lia),mS hp (by lia)]
  have el:k-(k-l)=l:=by lia
  rw[el]
  by_cases hi:i=l
  ·rw[if_pos hi]
   rw[if_neg (by lia:¬j=l),if_pos (by lia)]
   exact hb _ (by lia) (by lia)
  ·rw [if_neg hi]
   by_cases hj':j=l
   ·rw[if_pos hj',if_neg (by lia)]
    exact ha _ (by lia)
   ·rw[if_neg hj']
    by_cases c1:l<i/\i<=k
    ·rw[if_pos c1,if_pos (by lia)]
     exact u _ _ (by lia) (by lia)
    ·rw[if_neg c1]
     by_cases c2:l<j/\j<=k
     ·rw[if_pos c2]
      exact u _ _ (by lia) (by lia)
     ·rw[if_neg c2]
      exact u _ _ (by lia) (by lia)
theorem MX(h1:1<=n):Run lt n (PySem.W.kas_sort n) λq=>cV n q/\Up lt q n:=by
 unfold PySem.W.kas_sort
 have P0:cV n (List.toArray (range n)):=by
  have e:∀i,i<n->(List.toArray (range n)).getD i 0=i:=λi hi=>by simp[Array.getD,hi]
  exact⟨by simp,λi hi=>by rw[e i hi];exact hi,λi j hi hj hne=>by rw[e i hi,e j hj];exact hne,List.Perm.refl _⟩
 refine Run.bind ((MY S P0 h1).mono λr⟨a,b,P,u⟩=>?_)
 by_cases h:r.1<n
 ·rw[if_pos h]
  have em:max r.1 1=r.1:=by lia
  rw[em]
  exact C8 S _ _ _ P (by lia) a u
 ·rw[if_neg h]
  have e:r.1=n:=by lia
  rw[e]at u
  exact⟨P,u⟩
end
theorem FI{h:Heap}{a:Addr}{m m':Str->Option Value}(x:h.Ns a m)(y:h.Ns a m'):m=m':=by
 obtain⟨o,es,ep,e,d,_,f⟩:=x
 obtain⟨o',es',ep',e',d',_,f'⟩:=y
 rw[e]at e';cases e'
 rw[d]at d';cases d'
 funext z
 rw[<-f z,<-f' z]
theorem ObjOk.there{P:Program}{w:World}{H:Hp}{h:Heap}{a:Addr}{o:HO}(x:ObjOk P w H h a o):∃u,h.get? a=some u:=by
 cases o with
 |lst xs=>obtain⟨_,_,_,_,e⟩:=x;exact⟨_,e⟩
 |tup xs=>obtain⟨_,_,_,_,o,e,_⟩:=x;exact⟨_,e⟩
 |dK kvs=>obtain⟨_,_,_,_,o,_,_,e,_⟩:=x;exact⟨_,e⟩
 |dT kvs=>obtain⟨_,_,_,_,o,_,_,e,_⟩:=x;exact⟨_,e⟩
 |set S n=>obtain⟨o,_,_,_,e,_⟩:=x;exact⟨_,e⟩
 |ins C dx fs=>obtain⟨_,_,_,e,_⟩:=x;exact⟨_,e⟩
 |own y=>obtain⟨_,e⟩:=x;exact⟨_,e⟩
 |xd fs=>obtain⟨_,⟨_,_,_,e,_⟩,_⟩:=x;exact⟨_,e⟩
 |rng lo hi=>obtain⟨_,_,_,e⟩:=x;exact⟨_,e⟩
 |frz ob u=>obtain⟨e,_⟩:=x;exact⟨_,e⟩
 |tbl ps=>exact⟨_,show h.get? a=some _ from x⟩
 |met f y=>exact⟨_,show h.get? a=some _ from x⟩
 |ext φ=>obtain⟨_,⟨_,e⟩,_⟩:=x;exact⟨_,e⟩
section
variable{X:Cx}{pins:List (Addr×Obj)}{σ:St}{H:Hp}{s:Shared}
theorem Inv.none_of(I:Inv X pins σ H s){a:Addr}(h:s.heap.get? a=none):H a=none:=by
 cases q:H a with
 |none=>rfl
 |some o=>
  obtain⟨u,e⟩:=(I.hok a o q).there
  rw[h]at e;cases e
theorem Inv.laidBut{a:Addr}{xs:List V}{its:List Value}{n t':Nat}{h':Heap}{m:Str->Option Value}(I:Inv X pins σ H s)(k:∀b u,b≠X.env.locals->s.heap.get? b=some u->h'.get? b=some u)(hm:s.heap.Ns X.env.locals m)(hm':h'.Ns X.env.locals m)
  (hp:s.heap.get? a=none) (rv:Vals xs its) (hz:xs.length<=sizeLine) (ho:h'.get? a=some { cls:=.type "list",data:=.seq its.toArray n }):Inv X pins σ (upd H a (.lst xs)) { s with heap:=h',toks:=t' }:=by
 have hn:H a=none:=I.none_of hp
 have neL:∀b u,H b=some u->b≠X.env.locals:=λb u e z=>by rw[z,I.free]at e;cases e
 refine I.step (g':=s.gens) (d':=s.drawn) (ch:=[]) (λ_ z=>nomatch z) (λb o h1 _ _ e _=>k b o h1 e) (λb o h1 _ _ e _=>⟨o.slots,k b o h1 e⟩)
  (λb o _ e q=>by rw[aE (λz=>by rw[z,hp]at e;cases e)];exact q) (λb o _ e=>?_)
  (λb xs q=>by rw[aE (aS q hn)];exact q) (λb o u q=>by rw[aE (aS q hn)];exact q) (λb ps q=>⟨#[],by rw[aE (aS q hn),q];simp⟩) (λm2 h2=>?_) (λb u e=>?_) I.bare
 ·by_cases hb:b=X.env.locals
  ·subst hb
   obtain⟨o',_,_,e',_⟩:=hm'
   exact⟨o',e'⟩
  ·exact⟨o,k b o hb e⟩
 ·rw[FI h2 hm];exact hm'
 ·by_cases hb:b=a
  ·subst hb
   rw[aC]at e
   cases e
   exact⟨hz,its,n,rv,ho⟩
  ·rw[aE hb]at e
   refine(I.hok b u e).stay (λc v hc q=>k c v ?_ q) (λc q=>by rw[aE (aS q hn)];exact q) λc xs q=>by rw[aE (aS q hn)];exact q
   rcases hc with rfl|hc
   ·exact neL _ _ e
   ·exact neL _ _ hc
end
section
variable{X:Cx}
theorem HS:∀{bs:List Bool}{vs:List Value},Vals (bs.map V.bl) vs->LSm.BoolsAre vs bs
 |[],_,.nil=>.nil
 |b::bs,_,.cons r t=>by
  cases(show _=Value.bool b from r)
  exact .cons b (HS t)
theorem YO(hc:X.calm=true):CallR X (.builtin "all") (λxs H Q=>∃(p:Addr)(bs:List Bool),xs=[.ref p]/\SqL X.K H p (bs.map V.bl)/\Q (.bl (bs.all id)) H):=by
 intro pins s σ H xs us Q I r h
 obtain⟨p,bs,rfl,hq,q⟩:=h
 obtain⟨u,rfl,rx⟩:=Vals.one r
 cases(show u=Value.ref p from rx)
 obtain⟨its,rv,pl,hz⟩:=I.list hq
 obtain⟨m,F⟩:=I.fr
 have hb:=HS rv
 have hl:s.heap.IsList p its.toArray:=pl.isList
 have hlt:p<s.heap.objs.size:=by obtain⟨_,e,_⟩:=hl;exact Heap.lt_size e
 refine call_all_walk (wpAny_pyIter_list hl ?_)
 refine⟨s.heap.objs.size,[s.heap.objs.size,p],[s.heap.objs.size],its.toArray.size,_,_,λi=>(bs[i]?).getD true,rfl,Walks.list (A:=X.A.in1) (I.ok.hd hc) _ p (Nat.ne_of_lt hlt) its.toArray,
  ⟨⟨_,Heap.get?_push_size _ rfl,rfl,rfl⟩,hl.push _⟩,λi v s' Q' E' hP hQ=>?_,λh' tk hk=>?_⟩
 ·obtain⟨b,e,rfl⟩:=hb.get i v (by simpa using hP)
  simp only[e,Option.getD_some]at hQ
  exact wpAny_truthy_bool hQ
 ·have e:((range its.toArray.size).all λi=>(bs[i]?).getD true)=bs.all id:=by
   rw[size_toArray,hb.length];exact LSm.range_all bs
  rw[e]
  exact⟨.bl _,H,I.kept (LSm.kept_iter hk),rfl,q⟩
end
section
variable{prog:Program}{w:World}{A:Around}{E:Value->Shared->Prop}{s:Shared}
noncomputable def Col(prog:Program)(w:World)(s:Shared)(l:Addr)(vs:List Value):Prop:=∀(A:Around)(E:Value->Shared->Prop)(Q:List Value->Shared->Prop),
 Q vs { s with heap:=(s.heap.push (seqObj "list" #[] 0)).update s.heap.objs.size (Obj.mapSeq (· ++vs.toArray)) }->wpAny (model prog w) A (collect (.ref l)) Q E s
theorem Col.list{l:Addr}{vs:List Value}(hl:s.heap.IsList l vs.toArray)(hz:vs.length<=sizeLine):Col prog w s l vs:=λ_ _ _ h=>collect_list hl h hz
theorem Col.tup{l:Addr}{vs:List Value}(hl:IsTup s.heap l vs.toArray)(hz:vs.length<=sizeLine):Col prog w s l vs:=by
 intro A E Q h
 obtain⟨o,ho,hc,n,hd⟩:=hl
 have ho':(s.heap.push (seqObj "list" #[] 0)).get? l=some o:=Heap.get?_push_of_some _ ho
 have e0:((#[]:Array Value)++vs.toArray).toList=vs:=by simp
 unfold collect
 refine wpAny_bind (wpAny_runValue (codeAny_builtin entry_proto_collect' ?_))
 show wpAny _ _ (do again (.builtin "list.__iadd__" ⟨[<-newList [],.ref l],[]⟩)) _ _ s
 refine wpAny_bind (wpAny_newList (wpAny_pure ⟨Code.quiet_builtin _ (by decide +kernel),codeAny_builtin entry_list_iadd' ?_⟩))
 show wpAny _ _ (Builtin.List.listExtendWith (.ref s.heap.objs.size) (.ref l) (.ref s.heap.objs.size)) _ _ { s with heap:=s.heap.push (seqObj "list" #[] 0) }
 unfold Builtin.List.listExtendWith
 refine wpAny_bind (wpAny_typeOf (T:="tuple") ⟨o,ho',hc⟩ ?_)
 have ht2:(Value.type "tuple"==Value.type "tuple")=true:=by rfl
 rw[if_pos (by rw[ht2];simp)]
 refine wpAny_bind (listItems_at ho' hd ?_)
 refine wpAny_bind (listItems_at (xs:=#[]) (n:=0) (Heap.get?_push_size _ rfl) rfl ?_)
 rw[if_neg (by simp)]
 refine wpAny_bind (listUpdate_at (xs:=#[]) (n:=0) (Heap.get?_push_size _ rfl) rfl ?_ (Nat.zero_le _) (Nat.le_trans (Nat.le_of_eq (by rw[<-Array.length_toList,e0])) (Nat.le_succ_of_le hz)))
 refine wpAny_pure ?_
 show wpAny (model prog w) A (do
   let ob <-load s.heap.objs.size
   match ob.data with
   | .seq xs _=>pure xs.toList
   |_=>unsupported "internal:collect") Q E { s with heap:=(s.heap.push (seqObj "list" #[] 0)).update s.heap.objs.size (Obj.mapSeq (· ++vs.toArray)) }
 refine wpAny_bind (wpAny_load (get?_update_seq (Heap.get?_push_size _ rfl) _) ?_)
 show wpAny _ _ (pure ((#[]:Array Value)++vs.toArray).toList) Q E _
 rw[e0]
 exact wpAny_pure h
theorem LV{l:Addr}{vs:List Value}{Q:Value->Shared->Prop}{h₀:Heap}{L:Addr}{m:Str->Option Value}{news:List (Addr×Obj)}(F:Fr h₀ L s.heap m)(N:News h₀ L s.heap news)(hl:Col prog w s l vs)(h2:2<=vs.length)(h64:vs.length<64)
  (h:∀D e1 h',Fr h₀ L h' m->News h₀ L h' ((D,seqObj "list" #[] e1)::news)->(∀q∈news,q.1<D)->
   wpAny (model prog w) A.in1.in1 (keyKind' vs.toArray) (λκ s'=>(PySem.W.kas_sort vs.length).kasWp (PySem.W.kas_ask prog w A.in1.in1 κ vs) (λp s''=>PySem.W.KasFin h₀ L m D e1 (p.toList.map λi=>vs.getD i Value.none) (λs3=>Q (.ref D) s3) s'') s') (λ_ _=>False) { s with heap:=h' }):
  wpAny (model prog w) A (call (.builtin "sorted") [.ref l]) Q E s:=by
 have hsl:vs.length<=sizeLine:=by rw[sizeLine_eq];lia
 refine Calls.call_function_entry kind_sorted plain_sorted entry_sorted (args_sorted1 _) ?_
 unfold Builtin.«sorted»
 refine wpAny_bind (m:=checkCount "sorted" 1 1 _) (wpAny_pure ?_)
 refine wpAny_bind (hl _ _ _ ?_)
 refine wpAny_bind (wpAny_newList ?_ hsl)
 have hsz:((s.heap.push (seqObj "list" #[] 0)).update s.heap.objs.size (Obj.mapSeq (· ++vs.toArray))).objs.size=s.heap.objs.size+1:=by
  rw[Heap.size_update,size_push']
 have hoL:(((s.heap.push (seqObj "list" #[] 0)).update s.heap.objs.size (Obj.mapSeq (· ++vs.toArray))).push (seqObj "list" vs.toArray 0)).get? (s.heap.objs.size+1)=some (seqObj "list" vs.toArray 0):=by
  rw[<-hsz];exact Heap.get?_push_size _ rfl
 have keep:∀b o,s.heap.get? b=some o->(((s.heap.push (seqObj "list" #[] 0)).update s.heap.objs.size (Obj.mapSeq (· ++vs.toArray))).push (seqObj "list" vs.toArray 0)).get? b=some o:=λb o q=>by
  have hlt:b<s.heap.objs.size:=Heap.lt_size q
  rw[Heap.get?_push_ne _ _ _ (by rw[hsz];exact Nat.ne_of_lt (Nat.lt_succ_of_lt hlt)),Heap.get?_update_ne _ _ _ _ (Nat.ne_of_lt hlt),Heap.get?_push_ne _ _ _ (Nat.ne_of_lt hlt)]
  exact q
 have hL:L<s.heap.objs.size:=F.ns.lt
 show wpAny _ _ _ _ _ { s with heap:=((s.heap.push (seqObj "list" #[] 0)).update s.heap.objs.size (Obj.mapSeq (· ++vs.toArray))).push (seqObj "list" vs.toArray 0) }
 rw[hsz]
 refine wpAny_bind (wpAny_holding (wpAny_call_entry slot_list_sort ⟨_,hoL,rfl⟩ entry_list_sort ?body (args_list_sort _)))
 case body=>
  refine PySem.W.kat_list_sort (s:={ s with heap:=((s.heap.push (seqObj "list" #[] 0)).update s.heap.objs.size (Obj.mapSeq (· ++vs.toArray))).push (seqObj "list" vs.toArray 0) })
   (F.kept keep) (N.grown keep) hoL (Nat.ne_of_gt (Nat.lt_succ_of_lt hL)) (Heap.get?_none_of_le (Nat.le_trans F.above (Nat.le_succ_of_le (Nat.le_of_lt hL))))
   (λp hp=>Nat.ne_of_lt (Nat.lt_succ_of_lt (Heap.lt_size (N p hp).1))) h2 h64 λe1 h' F' N'=>?_
  refine wpAny_mono (h _ e1 h' F' N' λq hq=>Nat.lt_succ_of_lt (Heap.lt_size (N q hq).1)) (λκ s' hk=>?_) λ_ _ x=>x
  rw[PySem.W.kat_ask_eq rfl]at hk ⊢
  exact PySem.W.kas_wp_mono hk λp s'' hk'=>hk'.mono λs3 hq=>⟨_,rfl,wpAny_pure ⟨_,rfl,hq⟩⟩
theorem CW{l:Addr}{vs:List Value}{Q:Value->Shared->Prop}(hl:Col prog w s l vs)(h2:vs.length<2)
  (h:∀D h' n,s.heap.objs.size<=D->(∀b o,s.heap.get? b=some o->h'.get? b=some o)->h'.get? D=some { cls:=.type "list",data:=.seq vs.toArray n }->Q (.ref D) { s with heap:=h' }):
  wpAny (model prog w) A (call (.builtin "sorted") [.ref l]) Q E s:=by
 have hsl:vs.length<=sizeLine:=by rw[sizeLine_eq];lia
 refine Calls.call_function_entry kind_sorted plain_sorted entry_sorted (args_sorted1 _) ?_
 unfold Builtin.«sorted»
 refine wpAny_bind (m:=checkCount "sorted" 1 1 _) (wpAny_pure ?_)
 refine wpAny_bind (hl _ _ _ ?_)
 refine wpAny_bind (wpAny_newList ?_ hsl)
 have hsz:((s.heap.push (seqObj "list" #[] 0)).update s.heap.objs.size (Obj.mapSeq (· ++vs.toArray))).objs.size=s.heap.objs.size+1:=by
  rw[Heap.size_update,size_push']
 have hoL:(((s.heap.push (seqObj "list" #[] 0)).update s.heap.objs.size (Obj.mapSeq (· ++vs.toArray))).push (seqObj "list" vs.toArray 0)).get? (s.heap.objs.size+1)=some (seqObj "list" vs.toArray 0):=by
  rw[<-hsz];exact Heap.get?_push_size _ rfl
 have keep:∀b o,s.heap.get? b=some o->(((s.heap.push (seqObj "list" #[] 0)).update s.heap.objs.size (Obj.mapSeq (· ++vs.toArray))).push (seqObj "list" vs.toArray 0)).get? b=some o:=λb o q=>by
  have hlt:b<s.heap.objs.size:=Heap.lt_size q
  rw[Heap.get?_push_ne _ _ _ (by rw[hsz];exact Nat.ne_of_lt (Nat.lt_succ_of_lt hlt)),Heap.get?_update_ne _ _ _ _ (Nat.ne_of_lt hlt),Heap.get?_push_ne _ _ _ (Nat.ne_of_lt hlt)]
  exact q
 show wpAny _ _ _ _ _ { s with heap:=((s.heap.push (seqObj "list" #[] 0)).update s.heap.objs.size (Obj.mapSeq (· ++vs.toArray))).push (seqObj "list" vs.toArray 0) }
 rw[hsz]
 generalize ((s.heap.push (seqObj "list" #[] 0)).update s.heap.objs.size (Obj.mapSeq (· ++vs.toArray))).push (seqObj "list" vs.toArray 0)=g at hoL keep ⊢
 refine wpAny_bind (wpAny_holding (wpAny_call_entry slot_list_sort ⟨_,hoL,rfl⟩ entry_list_sort ?body (args_list_sort _)))
 case body=>
  rw[list_sort_plain]
  have ha:s.heap.objs.size+1<g.objs.size:=Heap.lt_size hoL
  refine wpAny_bind (listItems_at hoL rfl ?_)
  refine wpAny_bind (listUpdate_at hoL rfl ?_ (by rw[size_toArray];exact hsl) (Nat.zero_le _))
  obtain⟨e1,ho1⟩:∃e1,(g.update (s.heap.objs.size+1) (Obj.mapSeq λ_=>(#[]:Array Value))).get? (s.heap.objs.size+1)=some (seqObj "list" #[] e1):=⟨_,get?_update_seq hoL (λ_=>#[])⟩
  refine wpAny_bind (seqEpoch_at ho1 rfl ?_)
  refine wpAny_bind (wpAny_newTuple ?_ hsl)
  refine wpAny_bind (wpAny_newList ?_ (Nat.zero_le _))
  refine wpAny_holding ?_
  have ho6:(((g.update (s.heap.objs.size+1) (Obj.mapSeq λ_=>(#[]:Array Value))).push (seqObj "tuple" vs.toArray 0)).push (seqObj "list" #[] 0)).get? (s.heap.objs.size+1)=some (seqObj "list" #[] e1):=by
   rw[Heap.get?_push_ne _ _ _ (by rw[size_push',Heap.size_update];exact Nat.ne_of_lt (Nat.lt_succ_of_lt ha)),Heap.get?_push_ne _ _ _ (by rw[Heap.size_update];exact Nat.ne_of_lt ha)]
   exact ho1
  show wpAny (model prog w) _ _ _ _ { s with heap:=((g.update (s.heap.objs.size+1) (Obj.mapSeq λ_=>(#[]:Array Value))).push (seqObj "tuple" vs.toArray 0)).push (seqObj "list" #[] 0) }
  dsimp only
  have h2':vs.toArray.size<2:=by simpa using h2
  rw[if_pos h2',if_pos h2']
  refine wpAny_bind (wpAny_pure ?_)
  rw[StateT.run_pure]
  refine wpAny_bind (wpAny_pure ?_)
  dsimp only
  refine wpAny_bind (seqEpoch_at ho6 rfl ?_)
  have earr:(arrOf (SortSt.mk' general' (vs.toArray.zip vs.toArray) #[] 7 none)).map (·.2)=vs.toArray:=by
   show(pairsOf vs).map (·.2)=vs.toArray
   apply Array.toList_inj.mp
   rw[Array.toList_map,pairsOf_toList]
   have e:∀l:List Value,(l.zip l).map (·.2)=l:=λl=>by
    induction l with
    |nil=>rfl
    |cons a r ih=>rw[zip_cons_cons,map_cons,ih]
   rw[e]
  refine wpAny_bind (listUpdate_at ho6 rfl ?_ (Nat.zero_le _) (hsz2:=by rw[earr,size_toArray];exact Nat.le_succ_of_le hsl))
  simp only[bne_self_eq_false,Bool.false_eq_true,if_false]
  refine wpAny_pure ⟨_,rfl,wpAny_pure ⟨_,rfl,?_⟩⟩
  have s2:=get?_update_seq ho6 λ_=>vs.toArray
  rw[earr]
  refine h _ _ _ (Nat.le_succ _) (λb o q=>?_) s2
  have hlt:b<s.heap.objs.size:=Heap.lt_size q
  have hlt2:b<g.objs.size:=Heap.lt_size (keep b o q)
  rw[Heap.get?_update_ne _ _ _ _ (Nat.ne_of_lt (Nat.lt_succ_of_lt hlt)),Heap.get?_push_ne _ _ _ (by rw[size_push',Heap.size_update];exact Nat.ne_of_lt (Nat.lt_succ_of_lt hlt2)),Heap.get?_push_ne _ _ _ (by rw[Heap.size_update];exact Nat.ne_of_lt hlt2),
   Heap.get?_update_ne _ _ _ _ (Nat.ne_of_lt (Nat.lt_succ_of_lt hlt))]
  exact keep b o q
end
theorem kQ:∀{a b:List Int},HT.lexLt a b=true->HT.lexLt b a=false
 |[],[],h=>by cases h
 |[],_::_,_=>rfl
 |_::_,[],h=>by cases h
 | x::a,y::b,h=>by
  rw[HT.eB]at h ⊢
  by_cases e:x=y
  ·rw[if_pos e]at h
   rw[if_pos e.symm]
   exact kQ h
  ·rw[if_neg e]at h
   rw[if_neg (Ne.symm e)]
   have:=of_decide_eq_true h
   exact decide_eq_false (by lia)
theorem vY:∀{a b:List Int},a≠b->HT.lexLt a b=false->HT.lexLt b a=true
 |[],[],h,_=>(h rfl).elim
 |[],_::_,_,h=>by cases h
 |_::_,[],_,_=>rfl
 | x::a,y::b,hne,h=>by
  rw[HT.eB]at h ⊢
  by_cases e:x=y
  ·rw[if_pos e]at h
   rw[if_pos e.symm]
   exact vY (λz=>hne (by rw[e,z])) h
  ·rw[if_neg e]at h
   rw[if_neg (Ne.symm e)]
   have:=of_decide_eq_false h
   exact decide_eq_true (by lia)
theorem pL:∀{a b c:List Int},HT.lexLt a b=true->HT.lexLt b c=true->HT.lexLt a c=true
 |[],_,[],h1,h2=>by
  rename_i b
  cases b
  ·exact h1
  ·cases h2
 |[],_,_::_,_,_=>rfl
 |_::_,[],_,h,_=>by cases h
 |_::_,_::_,[],_,h=>by cases h
 | x::a,y::b,z::c,h1,h2=>by
  rw[HT.eB]at h1 h2 ⊢
  by_cases e1:x=y
  ·rw[if_pos e1]at h1
   by_cases e2:y=z
   ·rw[if_pos e2]at h2
    rw[if_pos (e1.trans e2)]
    exact pL h1 h2
   ·rw[if_neg e2]at h2
    rw[if_neg (by rw[e1];exact e2),e1]
    exact h2
  ·rw[if_neg e1]at h1
   by_cases e2:y=z
   ·rw[if_pos e2]at h2
    rw[if_neg (by rw[<-e2];exact e1),<-e2]
    exact h1
   ·rw[if_neg e2]at h2
    have p:=of_decide_eq_true h1
    have q:=of_decide_eq_true h2
    rw[if_neg (by lia)]
    exact decide_eq_true (by lia)
section
variable{prog:Program}{w:World}{A:Around}{E:Value->Shared->Prop}{s:Shared}
theorem FZ{b:Bool}{Q:Bool->Shared->Prop}:∀{ns ms:List Int}{vs us:List Value}(i:Nat),Vals (ns.map V.int) vs->Vals (ms.map V.int) us->ns.length=ms.length->Q (HT.lexLt ns ms) s->
  PySem.W.KatLex prog w A b false Q (vs.zip us) i s
 |[],[],_,_,_,.nil,.nil,_,q=>q
 |[],_::_,_,_,_,_,_,h,_=>by simp at h
 |_::_,[],_,_,_,_,_,h,_=>by simp at h
 | n::ns,m::ms,_,_,i,.cons r1 t1,.cons r2 t2,h,q=>by
  obtain⟨t,rfl⟩:=r1
  obtain⟨u,rfl⟩:=r2
  rw[zip_cons_cons]
  refine PySem.W.kat_cons (SeqAt.EqAt.int_int n t m u prog w _ _ ?_)
  rw[HT.eB]at q
  by_cases e:n=m
  ·rw[if_pos e]at q
   rw[show(n==m)=true by simpa using e]
   exact PySem.W.kat_yes (FZ (i+1) t1 t2 (by simpa using h) q)
  ·rw[if_neg e]at q
   rw[show(n==m)=false by simpa using e]
   refine PySem.W.kat_no ?_
   cases hb:(b&&i==0) with
   |true=>exact oneLt_int q
   |false=>exact PySem.W.kat_one _ _ (lt_int (show PySem.W.BoolBack Q (.bool (decide (n<m))) s from q))
theorem FY{b:Bool}{Q:Bool->Shared->Prop}{ns ms:List Int}:∀{ps:List Str}{vs us:List Value}(i:Nat),Vals (ps.map V.str++ns.map V.int) vs->Vals (ps.map V.str++ms.map V.int) us->ns.length=ms.length->Q (HT.lexLt ns ms) s->
  PySem.W.KatLex prog w A b false Q (vs.zip us) i s
 |[],_,_,i,h1,h2,h,q=>FZ i h1 h2 h q
 |p::ps,_,_,i,.cons r1 t1,.cons r2 t2,h,q=>by
  obtain⟨t,rfl⟩:=r1
  obtain⟨u,rfl⟩:=r2
  rw[zip_cons_cons]
  refine PySem.W.kat_cons (SeqAt.EqAt.str_str p t p u prog w _ _ ?_)
  rw[beq_self_eq_true]
  exact PySem.W.kat_yes (FY (i+1) t1 t2 h q)
end
noncomputable def jF(ps:List Str)(ns:List Int):PyData:=.tuple (ps.map .str++ns.map .int)
theorem IsAll.preInts{H:Hp}{ns:List Int}:∀{ps:List Str}{vs:List V},IsAll H vs (ps.map PyData.str++ns.map PyData.int)->vs=ps.map V.str++ns.map V.int
 |[],_,h=>h.of_ints
 |p::ps,_,h=>by
  rw[map_cons,List.cons_append]at h
  cases h with
  |cons h1 t=>
  cases h1
  have:=IsAll.preInts (ps:=ps) t
  rw[this]
  rfl
theorem wA{h:Heap}{G:Value->Prop}:∀(its:List Value),(∀(i:Nat)u,its[i]? =some u->∃(a:Addr)(o:Obj)(zs:Array Value)(n:Nat)(f:Value),u=.ref a/\h.get? a=some o/\o.cls=.type "tuple"/\o.data=.seq zs n/\zs[0]? =some f/\G f)->
  ∃fs,PySem.W.KatTups h its fs/\fs.length=its.length/\∀v∈fs,G v
 |[],_=>⟨[],PySem.W.KatTups.nil,rfl,λ_ h=>nomatch h⟩
 |u::its,hi=>by
  obtain⟨fs,t,l,g⟩:=wA its λi u e=>hi (i+1) u (by simpa using e)
  obtain⟨a,o,zs,n,f,rfl,h1,h2,h3,h4,h5⟩:=hi 0 u rfl
  refine⟨f::fs,PySem.W.KatTups.cons h1 h2 h3 h4 t,by simp[l],λv hv=>?_⟩
  rcases mem_cons.mp hv with rfl|hv
  ·exact h5
  ·exact g v hv
theorem FQ{α:Type}(d:α)(l:List α):(range l.length).map (λi=>l.getD i d)=l:=by
 apply List.ext_getElem?
 intro i
 rw[List.getElem?_map]
 by_cases h:i<l.length
 ·rw[List.getElem?_range h]
  simp[h]
 ·rw[List.getElem?_eq_none (by simpa using h),List.getElem?_eq_none (by simpa using h)]
  rfl
section
variable{X:Cx}
noncomputable def uG(K:PySem.W.Frag):List V->Hp->VK->Prop:=λxs H Q=>∃(p:Addr)(vs:List V)(ps:List Str)(nss:List (List Int))(k:Nat),xs=[.ref p]/\(SqL K H p vs\/SqT K H p vs)/\IsAll H vs (nss.map (jF ps))/\(∀ns∈nss,ns.length=k)/\0<ps.length+k/\nss.Nodup/\nss.length<64/\
 ∀(l:Addr)(vs':List V)(nss':List (List Int)),H l=none->IsAll H vs' (nss'.map (jF ps))->nss'.Perm nss->nss'.Pairwise (λa b=>HT.lexLt a b=true)->Q (.ref l) (upd H l (.lst vs'))
theorem YA:CallR X (.builtin "sorted") (uG X.K):=by
 intro pins s σ H xs us Q I r h
 obtain⟨p,vs,ps,nss,k,rfl,hq,ha,hk,hpos,hnd,h64,q⟩:=h
 obtain⟨u,rfl,rx⟩:=Vals.one r
 cases(show u=Value.ref p from rx)
 obtain⟨its,rv,hl,hz⟩:∃its,Vals vs its/\Col X.prog X.w s p its/\vs.length<=sizeLine:=by
  rcases hq with hq|hq
  ·obtain⟨its,rv,pl,hz⟩:=I.list hq
   exact⟨its,rv,Col.list pl.isList (by rw[<-rv.length];exact hz),hz⟩
  ·obtain⟨its,rv,pl,hz⟩:=I.tuple hq
   exact⟨its,rv,Col.tup pl (by rw[<-rv.length];exact hz),hz⟩
 have e1:vs.length=nss.length:=by rw[ha.length,length_map]
 have e2:its.length=nss.length:=by rw[<-rv.length,e1]
 by_cases h2:its.length<2
 ·refine CW hl h2 λD h' n hD hkeep ho=>?_
  refine⟨.ref D,_,I.laid (t':=s.toks) (o:=.lst vs) hkeep hD ⟨hz,its,n,rv,ho⟩,rfl,q D vs nss (I.hok.fresh hD) ha (List.Perm.refl _) ?_⟩
  match nss,e2,h2 with
  |[],_,_=>exact .nil
  |[a],_,_=>exact pairwise_singleton _ _
  |a::b::r,e2,h2=>simp at e2;lia
 ·obtain⟨m,F⟩:=I.fr
  refine LV F (news:=lI X.base s.heap X.env.locals) FK hl (by lia) (by lia) λD e0 h' F' N' hD=>?_
  have hkeep:∀b o,b≠X.env.locals->s.heap.get? b=some o->h'.get? b=some o:=λb o hb e=>by
   cases qb:X.base.get? b with
   |some u=>
    have:=I.bk b u qb
    rw[e]at this;cases this
    exact F'.keep b _ qb
   |none=>exact(N' (b,o) (mem_cons_of_mem _ (kO hb qb e))).1
  have item:∀(i:Nat)(ns:List Int),nss[i]? =some ns->∃(a:Addr)(o:Obj)(zs:List Value)(n:Nat),its.getD i Value.none=.ref a/\h'.get? a=some o/\o.cls=.type "tuple"/\o.data=.seq zs.toArray n/\Vals (ps.map V.str++ns.map V.int) zs:=λi ns e=>by
   obtain⟨v,ev,iv⟩:=ha.get (i:=i) (d:=jF ps ns) (by rw[List.getElem?_map,e];rfl)
   obtain⟨u,eu,ru⟩:=rv.get ev
   unfold jF at iv
   cases iv with
   |@tup a xs _ ea hxs=>
    obtain rfl:=hxs.preInts
    obtain⟨zs,rz,⟨o,h1,h2,n,h3⟩,_⟩:=I.tuple (SqT.of ea)
    have hL:a≠X.env.locals:=λz=>by rw[z,I.free]at ea;cases ea
    refine⟨a,o,zs,n,?_,hkeep a o hL h1,h2,h3,rz⟩
    rw[List.getD_eq_getElem?_getD,eu]
    exact ru
  obtain⟨T,fs,tups,hfl,hT,hTT⟩:∃(T:String)(fs:List Value),PySem.W.KatTups h' its fs/\fs.length=its.length/\(∀v∈fs,typeOf v=pure (Value.type T))/\(Value.type T==Value.type T)=true:=by
   have go:∀T:String,(∀(ns:List Int)(zs:List Value),ns.length=k->Vals (ps.map V.str++ns.map V.int) zs->∃f,zs.toArray[0]? =some f/\typeOf f=pure (Value.type T))->
     ∃(fs:List Value),PySem.W.KatTups h' its fs/\fs.length=its.length/\(∀v∈fs,typeOf v=pure (Value.type T)):=λT hf=>
    wA its λi u eu=>by
     have hi:i<nss.length:=by rw[<-e2];exact(List.getElem?_eq_some_iff.mp eu).1
     obtain⟨a,o,zs,n,g1,g2,g3,g4,g5⟩:=item i nss[i] (List.getElem?_eq_getElem hi)
     rw[List.getD_eq_getElem?_getD,eu]at g1
     obtain⟨f,f1,f2⟩:=hf _ zs (hk _ (getElem_mem hi)) g5
     exact⟨a,o,zs.toArray,n,f,g1,g2,g3,g4,f1,f2⟩
   cases hps:ps with
   | nil=>
    obtain⟨fs,a,b,c⟩:=go "int" λns zs hn rz=>by
     subst hps
     match ns,zs,rz,hn with
     |[],_,_,hn=>simp at hpos;subst hn;simp at hpos
     |n::ns,_,.cons r _,_=>
      obtain⟨t,rfl⟩:=r
      exact⟨_,rfl,rfl⟩
    exact⟨"int",fs,a,b,c,rfl⟩
   | cons p1 pr=>
    obtain⟨fs,a,b,c⟩:=go "str" λns zs hn rz=>by
     subst hps
     match zs,rz with
     |_,.cons r _=>
      obtain⟨t,rfl⟩:=r
      exact⟨_,rfl,rfl⟩
    exact⟨"str",fs,a,b,c,rfl⟩
  refine PySem.W.kat_kind tups (by lia) (λv hv=>PySem.W.Looks.of_pure (hT v hv)) hTT ?_
  have S:nO (λi j=>HT.lexLt (nss.getD i []) (nss.getD j [])) its.length:=⟨λi j k _ _ _ a b=>pL a b,λi j hi hj hne a=>vY (λz=>hne ?_) a,λi j _ _ a=>kQ a⟩
  ·rw [e2]
   rw[e2]at S
   refine Run.wp (λi j C hi hj hC=>?_) (λpq hpq=>?_) (MX S (by lia))
   ·show wpAny _ _ (keyLt' _ (its.getD i Value.none) (its.getD j Value.none)) C _ _
    obtain⟨a,o,zs,n,g1,g2,g3,g4,g5⟩:=item i nss[i] (List.getElem?_eq_getElem hi)
    obtain⟨a',o',zs',n',g1',g2',g3',g4',g5'⟩:=item j nss[j] (List.getElem?_eq_getElem hj)
    rw[g1,g1']
    refine PySem.W.kat_lt g2 g4 g2' g4' ?_
    have hn1:=hk _ (getElem_mem hi)
    have hn2:=hk _ (getElem_mem hj)
    have ez:decide (zs.toArray.size<zs'.toArray.size)=false:=by
     have l1:=g5.length
     have l2:=g5'.length
     simp only[length_append,length_map]at l1 l2
     simp only[size_toArray]
     exact decide_eq_false (by lia)
    rw[ez]
    refine FY 0 (by simpa using g5) (by simpa using g5') (by lia) ?_
    have e1':nss.getD i []=nss[i]:=by simp[hi]
    have e2':nss.getD j []=nss[j]:=by simp[hj]
    rw[<-e1',<-e2']
    exact hC
   ·obtain⟨P,up⟩:=hpq
    refine PySem.W.KasFin.intro F' N' (.head λx hx=>Nat.ne_of_lt (hD x hx)) λh'' c F'' N''=>?_
    have hnD:s.heap.get? D=none:=by
     cases qd:s.heap.get? D with
     |none=>rfl
     |some o=>
      have hh:=N' (D,_) mem_cons_self
      have hm:=hD (D,o) (kO hh.2.1 hh.2.2 qd)
      exact absurd hm (Nat.lt_irrefl _)
    have hkeep2:∀b o,b≠X.env.locals->s.heap.get? b=some o->h''.get? b=some o:=λb o hb e=>by
     cases qb:X.base.get? b with
     |some u=>
      have:=I.bk b u qb
      rw[e]at this;cases this
      exact F''.keep b _ qb
     |none=>exact(N'' (b,o) (mem_cons_of_mem _ (kO hb qb e))).1
    have hlt:∀x∈pq.toList,x<nss.length:=λx hx=>mem_range.mp (P.pm.mem_iff.mp hx)
    have rv2:∀l:List Nat,(∀x∈l,x<nss.length)->Vals (l.map λi=>vs.getD i .non) (l.map λi=>its.getD i Value.none)/\IsAll H (l.map λi=>vs.getD i .non) ((l.map λi=>nss.getD i []).map (jF ps)):=λl=>by
     induction l with
     |nil=>exact λ_=>⟨.nil,.nil⟩
     |cons x l ih=>
      intro hx
      obtain⟨ih1,ih2⟩:=ih λy hy=>hx y (mem_cons_of_mem _ hy)
      have hxn:=hx x mem_cons_self
      obtain⟨v,ev,iv⟩:=ha.get (i:=x) (d:=jF ps nss[x]) (by rw[List.getElem?_map,List.getElem?_eq_getElem hxn];rfl)
      obtain⟨u,eu,ru⟩:=rv.get ev
      have a1:vs.getD x .non=v:=by rw[List.getD_eq_getElem?_getD,ev];rfl
      have a2:its.getD x Value.none=u:=by rw[List.getD_eq_getElem?_getD,eu];rfl
      have a3:nss.getD x []=nss[x]:=by simp[hxn]
      simp only[map_cons,a1,a2,a3]
      exact⟨.cons ru ih1,.cons iv ih2⟩
    obtain⟨rv3,ia3⟩:=rv2 pq.toList hlt
    have ho:=(N'' (D,_) mem_cons_self).1
    have hpl:pq.toList.length=nss.length:=by rw[Array.length_toList];exact P.sz
    refine⟨.ref D,_,I.laidBut (t':=s.toks) hkeep2 F.ns F''.ns hnD rv3 (by rw[length_map,hpl,sizeLine_eq];lia) ho,rfl,q D _ _ (I.none_of hnD) ia3 ?_ ?_⟩
    ·have:=P.pm.map λi=>nss.getD i []
     rw[FQ]at this
     exact this
    ·rw[pairwise_iff_getElem]
     intro i j hi hj hij
     simp only[length_map]at hi hj
     have:=up i j hij (by rw[<-hpl];exact hj)
     have z:∀x(hx:x<pq.toList.length),pq.getD x 0=pq.toList[x]:=λx hx=>by
      have hx':x<pq.size:=by simpa using hx
      simp[Array.getD,hx']
     rw[z i hi,z j hj]at this
     simpa using this
  ·rw[e2]at hi hj
   have e1':nss.getD i []=nss[i]:=by simp[hi]
   have e2':nss.getD j []=nss[j]:=by simp[hj]
   rw[e1',e2']at z
   exact(getElem_inj hnd).mp z
end
theorem dJ:bootBuiltins "len"=some (.builtin "len"):=by decide +kernel
theorem dW:bootBuiltins "isinstance"=some (.builtin "isinstance"):=by decide +kernel
theorem yO:bootBuiltins "all"=some (.builtin "all"):=by decide +kernel
theorem lG:bootBuiltins "sorted"=some (.builtin "sorted"):=by decide +kernel
theorem qG:bootBuiltins "max"=some (.builtin "max"):=by decide +kernel
theorem Y0:bootBuiltins "enumerate"=some (.type "enumerate"):=by decide +kernel
theorem lF:bootBuiltins "tuple"=some (.type "tuple"):=by decide +kernel
theorem HR:bootBuiltins "list"=some (.type "list"):=by decide +kernel
theorem yN:bootBuiltins "int"=some (.type "int"):=by decide +kernel
theorem Y2:bootBuiltins "bool"=some (.type "bool"):=by decide +kernel
theorem Y1:bootBuiltins "dict"=some (.type "dict"):=by decide +kernel
theorem YY:bootBuiltins "set"=some (.type "set"):=by decide +kernel
theorem YZ:bootBuiltins "range"=some (.type "range"):=by decide +kernel
theorem ER{X:Cx}{x:Str}{n:Int}{pos:Pos}(hg:Gl X x)(hm:∃tk,X.mg x=some (.int n tk))(hd:(x==("__debug__":Str))=false:=by decide):PE X (.Name x pos) (tC (.int n)):=
 λ_ _ _ H _ I h=>let⟨tk,e⟩:=hm;kR I hg e ⟨.int n,H,I,⟨tk,rfl⟩,h⟩ hd
noncomputable def l5(K:PySem.W.Frag):R2:=λx y H Q=>∃p xs i v,x=.ref p/\y=.int i/\(SqL K H p xs\/SqT K H p xs)/\eP xs i=some v/\Q v H
theorem VZ{X:Cx}:IxR X (l5 X.K):=by
 intro value slice pins s σ H x y v u Q I rx ry h hs
 obtain⟨p,xs,i,w,e1,e2,hq,ha,q⟩:=h
 rcases hq with hq|hq
 ·exact VY value slice pins s σ H x y v u Q I rx ry ⟨p,xs,i,w,e1,e2,hq,ha,q⟩ hs
 ·exact VX value slice pins s σ H x y v u Q I rx ry ⟨p,xs,i,w,e1,e2,hq,ha,q⟩ hs
noncomputable def kD:List V->Hp->VK->Prop:=λxs H Q=>∃x T d,xs=[x,.ty T]/\T∈(["bool","int","tuple","list","str","dict"]:List String)/\Is H x d/\Q (.bl (iM T d)) H
noncomputable def l0(K:PySem.W.Frag):List V->Hp->VK->Prop:=λxs H Q=>∃p ys,xs=[.ref p]/\(SqL K H p ys\/SqT K H p ys)/\Q (.int ys.length) H
noncomputable def uL(K:PySem.W.Frag):List V->Hp->VK->Prop:=λxs H Q=>∃(p:Addr)(bs:List Bool),xs=[.ref p]/\SqL K H p (bs.map V.bl)/\Q (.bl (bs.all id)) H
noncomputable def P2(K:PySem.W.Frag):List V->Hp->VK->Prop:=λxs H Q=>∃(p:Addr)(bs:List Bool),xs=[.ref p]/\SqL K H p (bs.map V.bl)/\Q (.bl (bs.any id)) H
noncomputable def D6:R2:=λx y H Q=>y=.non/\Q (.bl (decide (x=.non))) H
noncomputable def D2:R2:=λx y H Q=>y=.non/\Q (.bl (!decide (x=.non))) H
section
variable{X:Cx}
theorem nH:CallR X (.builtin "isinstance") kD:=YK
theorem YT:CallR X (.builtin "len") (l0 X.K):=YJ
theorem YU(hc:X.calm=true):CallR X (.builtin "all") (uL X.K):=YO hc
theorem mE:OpR X (compareOp .Is) D6:=Q8
theorem vD:OpR X (compareOp .IsNot) D2:=Q6
noncomputable def uF(K:PySem.W.Frag):List V->Hp->VK->Prop:=λxs H Q=>∃p ys,xs=[.ref p]/\((SqL K H p ys/\∀l,H l=none->Q (.ref l) (upd H l (.tup ys)))\/(SqT K H p ys/\Q (.ref p) H))
noncomputable def uK(K:PySem.W.Frag):List V->Hp->VK->Prop:=λxs H Q=>∃p ys,xs=[.ref p]/\(SqL K H p ys\/SqT K H p ys)/\∀l,H l=none->Q (.ref l) (upd H l (.lst ys))
theorem YS:CallR X (.type "list") (uK X.K):=YI
theorem YQ:CallR X (.type "tuple") (uF X.K):=X9
noncomputable def D4:List V->Hp->VK->Prop:=λxs H Q=>∃i j:Int,xs=[.int i,.int j]/\Q (.int (if j>i then j else i)) H
theorem YR(hc:X.calm=true):CallR X (.builtin "max") D4:=YG hc
noncomputable def D7:List V->Hp->VK->Prop:=λxs H Q=>(∃i,xs=[.int i]/\Q (.int i) H)\/∃k,xs=[.bl k]/\Q (.int (if k then 1 else 0)) H
theorem HQ:CallR X (.type "int") D7:=YM
end
@[reducible] def isBoolD:PyData->Bool| .bool _=>true|_=>false
@[reducible] def isIntD:PyData->Bool| .bool _=>true| .int _=>true|_=>false
@[reducible] def isTupD:PyData->Bool| .tuple _=>true|_=>false
@[reducible] def isLstD:PyData->Bool| .list _=>true|_=>false
@[reducible] def isStrD:PyData->Bool| .str _=>true|_=>false
section
variable{σ:St}{H:Hp}{Q:VK}{D:dN}{K:PySem.W.Frag}
theorem NP{t u:TS}(h:t { D with nx:=u D } σ H):rM t u D σ H:=h
theorem OB(h:D.nx σ H):BE D σ H:=h
theorem O1{c:TT}{t u:TS}(h:c σ H λb H1=>if b=true then t D σ H1 else u D σ H1):BG c t u D σ H:=h
theorem NR{te:TE}(h:te σ H D.rt):A9 te D σ H:=h
theorem O8{te:TE}(h:te σ H λ_ H1=>D.nx σ H1):BJ te D σ H:=h
theorem PO{te:TE}{g:TG}(h:te σ H λx H1=>g x σ H1 D.nx):oG te g D σ H:=h
theorem DU{i:Nat}{v:V}{P:St->Hp->Prop}(h:P (σ.set i (some v)) H):jX i v σ H P:=h
theorem uB{i:Nat}{v:V}(e:σ[i]? =some (some v))(h:Q v H):rK i σ H Q:=⟨v,e,h⟩
theorem PV{v:V}(h:Q v H):tC v σ H Q:=h
theorem NK{te:TE}{P:Bool->Hp->Prop}(h:te σ H λx H'=>∃k,x=.bl k/\P k H'):A8 te σ H P:=h
theorem PX{te:TE}{P:Bool->Hp->Prop}(h:te σ H λx H'=>∃k,x=.bl k/\P k H'):tB te σ H P:=h
theorem PN{b:Bool}{P:Bool->Hp->Prop}(h:P b H):∃k,V.bl b=.bl k/\P k H:=⟨b,rfl,h⟩
theorem NV{r:R2}{ta tb:TE}(h:ta σ H λx H1=>tb σ H1 λy H2=>r x y H2 Q):lV r ta tb σ H Q:=h
theorem NH{r:V->Hp->VK->Prop}{ta:TE}(h:ta σ H λx H1=>r x H1 Q):A6 r ta σ H Q:=h
theorem PU{g:Int->Int->V}{i j:Int}(h:Q (g i j) H):gN g (.int i) (.int j) H Q:=⟨i,j,rfl,rfl,h⟩
theorem gM{C:Int->Int->Prop}{g:Int->Int->V}{i j:Int}(hc:C i j)(h:Q (g i j) H):rI C g (.int i) (.int j) H Q:=⟨i,j,rfl,rfl,hc,h⟩
theorem PR{t u:TT}{P:Bool->Hp->Prop}(h:t σ H λc H1=>if c=true then u σ H1 P else P false H1):BQ t u σ H P:=h
theorem NU{t u:TT}{P:Bool->Hp->Prop}(h:t σ H λc H1=>if c=true then P true H1 else u σ H1 P):BB t u σ H P:=h
theorem NY{t:TT}{P:Bool->Hp->Prop}(h:t σ H λc H1=>P (!c) H1):BC t σ H P:=h
theorem PQ{ta tb:TE}(h:ta σ H λx H1=>∃c,x=.bl c/\if c=true then tb σ H1 Q else Q (.bl false) H1):BP ta tb σ H Q:=h
theorem NT{ta tb:TE}(h:ta σ H λx H1=>∃c,x=.bl c/\if c=true then Q (.bl true) H1 else tb σ H1 Q):LE ta tb σ H Q:=h
theorem NW{ta:TE}(h:ta σ H λx H1=>∃c,x=.bl c/\Q (.bl (!c)) H1):LF ta σ H Q:=h
theorem PM{b:Bool}{P:Bool->Prop}(h:P b):∃c,V.bl b=.bl c/\P c:=⟨b,rfl,h⟩
theorem OA{P:List V->Hp->Prop}(h:P [] H):BD σ H P:=h
theorem PB{ta:TE}{tr:TA}{P:List V->Hp->Prop}(h:ta σ H λx H1=>tr σ H1 λxs H2=>P (x::xs) H2):BM ta tr σ H P:=h
theorem NJ{t:TA}(h:t σ H λxs H1=>xs.length<=sizeLine/\∀p,H1 p=none->Q (.ref p) (upd H1 p (.tup xs))):A7 t σ H Q:=h
theorem OM{t:TA}(h:t σ H λxs H1=>xs.length<=sizeLine/\∀p,H1 p=none->Q (.ref p) (upd H1 p (.lst xs))):BF t σ H Q:=h
theorem PJ{sp:Sp}{dvs:List V}{E:XK}{t:TA}(h:t σ H λvs H1=>sp (vs++dvs) H1 Q E):rQ sp dvs E t σ H Q:=h
theorem PF{r:List V->Hp->VK->Prop}{t:TA}(h:t σ H λvs H1=>r vs H1 Q):rR r t σ H Q:=h
theorem jK{p:Addr}{xs:List V}{i:Int}{v:V}(e:H p=some (.tup xs))(a:eP xs i=some v)(h:Q v H):l5 K (.ref p) (.int i) H Q:=⟨p,xs,i,v,rfl,rfl,.inr (SqT.of e),a,h⟩
theorem gL{p:Addr}{xs:List V}{i:Int}{v:V}(e:H p=some (.lst xs))(a:eP xs i=some v)(h:Q v H):l5 K (.ref p) (.int i) H Q:=⟨p,xs,i,v,rfl,rfl,.inl (SqL.of e),a,h⟩
theorem PD{r r':R2}{ta tb tc:TE}(h:ta σ H λx H1=>tb σ H1 λy H2=>r x y H2 λz H3=>∃k,z=.bl k/\(if k=true then tc σ H3 λw' H4=>r' y w' H4 Q else Q (.bl false) H3)):BN r r' ta tb tc σ H Q:=h
theorem kX{b:Bool}{A B:Prop}(h:b=true)(x:A):if b=true then A else B:=by rw[if_pos h];exact x
theorem fD{b:Bool}{A B:Prop}(h:b=false)(x:B):if b=true then A else B:=by rw[if_neg (by rw[h];exact Bool.false_ne_true)];exact x
theorem bS{b:Bool}{A B:Prop}(h1:b=true->A)(h0:b=false->B):if b=true then A else B:=by
 cases b with
 |true=>rw[if_pos rfl];exact h1 rfl
 |false=>rw[if_neg Bool.false_ne_true];exact h0 rfl
theorem OU{x:V}(h:Q (.bl (decide (x=.non))) H):D6 x .non H Q:=⟨rfl,h⟩
theorem NX{x:V}(h:Q (.bl (!decide (x=.non))) H):D2 x .non H Q:=⟨rfl,h⟩
theorem OX{x:V}{d:PyData}(hx:Is H x d)(h:Q (.bl (isBoolD d)) H):kD [x,.ty "bool"] H Q:=⟨x,"bool",d,rfl,by decide,hx,by cases d <;> exact h⟩
theorem OW{x:V}{d:PyData}(hx:Is H x d)(h:Q (.bl (isIntD d)) H):kD [x,.ty "int"] H Q:=⟨x,"int",d,rfl,by decide,hx,by cases d <;> exact h⟩
theorem OS{x:V}{d:PyData}(hx:Is H x d)(h:Q (.bl (isTupD d)) H):kD [x,.ty "tuple"] H Q:=⟨x,"tuple",d,rfl,by decide,hx,by cases d <;> exact h⟩
theorem OV{x:V}{d:PyData}(hx:Is H x d)(h:Q (.bl (isLstD d)) H):kD [x,.ty "list"] H Q:=⟨x,"list",d,rfl,by decide,hx,by cases d <;> exact h⟩
theorem OT{x:V}{d:PyData}(hx:Is H x d)(h:Q (.bl (isStrD d)) H):kD [x,.ty "str"] H Q:=⟨x,"str",d,rfl,by decide,hx,by cases d <;> exact h⟩
theorem WO{A B:Prop}(h:B):if(!true)=true then A else B:=mL h
theorem WP{A B:Prop}(h:A):if(!false)=true then A else B:=mK h
theorem uE{p:Addr}{bs:List Bool}(e:H p=some (.lst (bs.map V.bl)))(h:Q (.bl (bs.all id)) H):uL K [.ref p] H Q:=⟨p,bs,rfl,SqL.of e,h⟩
theorem PP{p:Addr}{bs:List Bool}(e:H p=some (.lst (bs.map V.bl)))(h:Q (.bl (bs.any id)) H):P2 K [.ref p] H Q:=⟨p,bs,rfl,SqL.of e,h⟩
theorem OI{i j:Int}(h:Q (.int (if j>i then j else i)) H):D4 [.int i,.int j] H Q:=⟨i,j,rfl,h⟩
theorem OY{k:Bool}(h:Q (.int (if k then 1 else 0)) H):D7 [.bl k] H Q:=.inr ⟨k,rfl,h⟩
theorem NI{p:Addr}{ys:List V}(e:H p=some (.lst ys))(h:∀l,H l=none->Q (.ref l) (upd H l (.tup ys))):uF K [.ref p] H Q:=⟨p,ys,rfl,.inl ⟨SqL.of e,h⟩⟩
theorem i6{neg:Bool}{x y:V}{d e:PyData}(hx:Is H x d)(hy:Is H y e)(od:dQ d)(oe:dQ e)(h:Q (.bl (if neg then !PyData.eqv d e else PyData.eqv d e)) H):jM neg x y H Q:=⟨d,e,hx,hy,od,oe,h⟩
theorem O5{x y:Int}(h:Q (.bl (x==y)) H):jM false (.int x) (.int y) H Q:=⟨.int x,.int y,.int x,.int y,⟨rfl,Nat.zero_le _⟩,⟨rfl,Nat.zero_le _⟩,h⟩
theorem OC{x y:Int}(h:Q (.bl (!(x==y))) H):jM true (.int x) (.int y) H Q:=⟨.int x,.int y,.int x,.int y,⟨rfl,Nat.zero_le _⟩,⟨rfl,Nat.zero_le _⟩,h⟩
theorem O6{x y:Bool}(h:Q (.bl (x==y)) H):jM false (.bl x) (.bl y) H Q:=⟨.bool x,.bool y,.bl x,.bl y,⟨rfl,Nat.zero_le _⟩,⟨rfl,Nat.zero_le _⟩,h⟩
theorem OD{x y:Bool}(h:Q (.bl (!(x==y))) H):jM true (.bl x) (.bl y) H Q:=⟨.bool x,.bool y,.bl x,.bl y,⟨rfl,Nat.zero_le _⟩,⟨rfl,Nat.zero_le _⟩,h⟩
theorem DS{neg:Bool}{x y:V}{d:PyData}{ds:List PyData}(hx:Is H x d)(hy:Is H y (.tuple ds))(od:dQ d)(oe:vB ds)(h:Q (.bl (if neg then !jW d ds else jW d ds)) H):kE neg x y H Q:=⟨d,ds,hx,.inl hy,od,oe,h⟩
theorem ON{p:Addr}{xs:List V}(e:H p=some (.tup xs))(h:Q (.int xs.length) H):l0 K [.ref p] H Q:=⟨p,xs,rfl,.inr (SqT.of e),h⟩
theorem OO{p:Addr}{xs:List V}(e:H p=some (.lst xs))(h:Q (.int xs.length) H):l0 K [.ref p] H Q:=⟨p,xs,rfl,.inl (SqL.of e),h⟩
end
section
variable{σ:St}{H:Hp}{Q:VK}{D:dN}{K:PySem.W.Frag}{R:It->Hp->Prop}
theorem O4{wi:TI}{g:TG}{tb:TS}(h:wi σ H λJ H1=>∃W:Nat->Nat->St->Hp->Prop,(∃m,W 0 m σ H1)/\∀i m σ H,W i m σ H->
 (J.stop i H/\D.nx σ H)\/(J.go i H/\∃N:St->Hp->Prop,(∀σ' H',N σ' H'->∃m',m'<m/\W (i+1) m' σ' H')/\∀x H',J.yld i H x H'->g x σ H' λσ2 H2=>tb { D with nx:=N,ct:=N,bk:=D.nx } σ2 H2)):BI wi g tb D σ H:=h
theorem OP{wi:TI}{fm:List (Option Nat)}{g:TG}{tt:TT}{te:TE}(h:wi σ H λJ H1=>∃W:Nat->Nat->List V->Hp->Prop,(∃m,W 0 m [] H1)/\∀i m ys H,W i m ys H->
 (J.stop i H/\∀p,H p=none->Q (.ref p) (upd H p (.lst ys)))\/
 (J.go i H/\ys.length<sizeLine/\∃N:List V->Hp->Prop,(∀ys' H',N ys' H'->∃m',m'<m/\W (i+1) m' ys' H')/\
  ∀x H',J.yld i H x H'->g x (dH fm σ) H' λσ2 H2=>tt σ2 H2 λok H3=>if ok=true then te σ2 H3 λv H4=>N (ys++[v]) H4 else N ys H3)):rP wi fm g tt te σ H Q:=h
theorem NQ{ta:TA}(h:ta σ H λvs H1=>∃j:Int,vs=[.int j]/\-(2^62)<=j/\j<2^62/\R (hX 0 j.toNat) H1):GN ta σ H R:=h
theorem OQ{tl:TE}(h:tl σ H λx H1=>∃a,x=.ref a/\(∃xs,SqT K H1 a xs)/\R (iU K a) H1):wF K tl σ H R:=h
theorem O0{tl:TE}(h:tl σ H λx H1=>∃a,x=.ref a/\(∃xs,SqL K H1 a xs)/\R (iV K a) H1):wG K tl σ H R:=h
theorem NF{P:Bool->Hp->Prop}(h:P true H):A4 σ H P:=h
theorem fK{n:Nat}{t:eS}{a:Addr}{xs:List V}{P:St->Hp->Prop}(e:H a=some (.tup xs))(l:xs.length=n)(h:t xs σ H P):pW K n t (.ref a) σ H P:=⟨a,xs,rfl,SqT.of e,l,h⟩
theorem DW{t:TG}{u:eS}{v:V}{r:List V}{P:St->Hp->Prop}(h:t v σ H λσ' H'=>u r σ' H' P):wX t u (v::r) σ H P:=⟨v,r,rfl,h⟩
theorem DT{P:St->Hp->Prop}(h:P σ H):wW [] σ H P:=⟨rfl,h⟩
end
theorem Same.upd{H:Hp}{l:Addr}{o:HO}(h:H l=none):Same H (upd H l o):=λb u e=>by rw[aE (aS e h)];exact e
theorem Same.tup{H H':Hp}(e:Same H H'){a:Addr}{xs:List V}(h:H a=some (.tup xs)):H' a=some (.tup xs):=e _ _ h
section
variable{X:Cx}
theorem aR(K:PySem.W.Frag)(h:X.K=K:=by rfl):IxR X (l5 K):=h▸VZ
theorem dG(K:PySem.W.Frag)(h:X.K=K:=by rfl):CallR X (.builtin "len") (l0 K):=h▸YT
theorem wC(K:PySem.W.Frag)(hc:X.calm=true:=by rfl)(h:X.K=K:=by rfl):CallR X (.builtin "all") (uL K):=h▸YU hc
theorem wB(K:PySem.W.Frag)(h:X.K=K:=by rfl):CallR X (.type "tuple") (uF K):=h▸YQ
theorem VU(K:PySem.W.Frag)(h:X.K=K:=by rfl):CallR X (.type "list") (uK K):=h▸YS
theorem VN(K:PySem.W.Frag)(h:X.K=K:=by rfl):CallR X (.builtin "sorted") (uG K):=h▸YA
theorem VT(K:PySem.W.Frag)(hu:X.A.units<cLine)(h:X.K=K:=by rfl):OpR X (compareOp .Lt) (uJ K):=h▸Q7 hu
theorem fR(K:PySem.W.Frag){tg l:Expr}{tl:TE}(hl:PE X l tl)(h:X.K=K:=by rfl):PI X tg l (wF K tl):=h▸QM hl
theorem fS(K:PySem.W.Frag){tg l:Expr}{tl:TE}(hl:PE X l tl)(h:X.K=K:=by rfl):PI X tg l (wG K tl):=h▸QN hl
theorem fT(K:PySem.W.Frag){pos:Pos}{es:List Expr}{k:Nat}{t:eS}{n:Nat}(hc:X.calm=true)(hh:nQ X es t)
  (hn:(assignEach es X.env).length=n:=by rfl) (hst:(assignEach es X.env).findIdx? (·.1)=none:=by rfl) (h:X.K=K:=by rfl):PG X (.Tuple es k pos) (pW K n t):=h▸QP hc hh hn hst
theorem fU(K:PySem.W.Frag){o e:Expr}{es:List Expr}{to:TE}{t:TA}{name:Str}{apos cpos:Pos}{T id:String}{r:V->List V->Hp->VK->Prop}(pa:PlainAttrs T)(slot:Slot T name id)(hty:typeOf (.builtin id)=pure (.type "method_descriptor"))(hm:MtR X id r)(ho:PE X o to)(ha:PA X (e::es) t)
  (hbase:attributeBase o name X.env (eval o X.env)=eval o X.env:=by rfl)
  (hfew:((backTo cpos (starEach (e::es) X.env)).all (λx=> !x.1)&&(backToKw cpos (keywordEach [] X.env)).all (λx=>x.1.isSome)
   &&decide ((e::es).length+([]:List Keyword).length+(if([]:List Keyword).isEmpty then 0 else 1)<30))=true:=by rfl)
  (hline:(apos.endLine==cpos.line)=true:=by rfl) (hs:starEach (e::es) X.env=(false,eval e X.env)::starEach es X.env:=by rfl) (hplain:(backTo cpos (starEach es X.env)).any (·.1)=false:=by rfl) (h:X.K=K:=by rfl):
  PE X (.Call (.Attribute o name apos) (e::es) [] cpos) (rS K T r to t):=h▸QY pa slot hty hm ho ha hbase hfew hline hs hplain
end
section
variable{σ:St}{H:Hp}{Q:VK}{D:dN}{K:PySem.W.Frag}
theorem OJ{a b:Addr}{i j k l:Int}(h1:H a=some (.tup [.int i,.int j]))(h2:H b=some (.tup [.int k,.int l]))(h:Q (.bl (HT.lexLt [i,j] [k,l])) H):uJ K (.ref a) (.ref b) H Q:=
 ⟨a,b,[i,j],[k,l],rfl,rfl,SqT.of h1,SqT.of h2,h⟩
theorem PK{T:String}{r:V->List V->Hp->VK->Prop}{to:TE}{t:TA}(h:to σ H λx H1=>oA K T x H1/\t σ H1 λxs H2=>r x xs H2 Q):rS K T r to t σ H Q:=h
theorem jL{l:Addr}{xs:List V}{v:V}(e:H l=some (.lst xs))(hz:xs.length<sizeLine)(h:Q .non (upd H l (.lst (xs++[v])))):EE (.ref l) [v] H Q:=⟨l,xs,v,rfl,rfl,e,hz,h⟩
theorem fJ{l:Addr}{xs:List V}(e:H l=some (.lst xs)):oA K "list" (.ref l) H:=.inl ⟨rfl,_,SqL.of e⟩
end
theorem WL{A B:Prop}(h:A):if decide (V.non=V.non)=true then A else B:=by rw[decide_eq_true rfl];exact mK h
theorem WJ{a:Addr}{A B:Prop}(h:B):if decide (V.ref a=V.non)=true then A else B:=by rw[decide_eq_false (λz=>nomatch z)];exact mL h
theorem WN{a:Int}{A B:Prop}(h:B):if decide (V.int a=V.non)=true then A else B:=by rw[decide_eq_false (λz=>nomatch z)];exact mL h
theorem WK{A B:Prop}(h:B):if(!decide (V.non=V.non))=true then A else B:=by rw[decide_eq_true rfl];exact mL h
theorem WI{a:Addr}{A B:Prop}(h:A):if(!decide (V.ref a=V.non))=true then A else B:=by rw[decide_eq_false (λz=>nomatch z)];exact mK h
theorem WM{a:Int}{A B:Prop}(h:A):if(!decide (V.int a=V.non))=true then A else B:=by rw[decide_eq_false (λz=>nomatch z)];exact mK h
section
variable{σ:St}{H:Hp}{Q:VK}{D:dN}
theorem NG{c:TT}{tb:TS}(h:∃W:Nat->St->Hp->Prop,(∃m,W m σ H)/\∀m σ H,W m σ H->c σ H λb H1=>if b=true then ∃N:St->Hp->Prop,(∀σ' H',N σ' H'->∃m',m'<m/\W m' σ' H')/\tb { D with nx:=N,ct:=N,bk:=D.nx } σ H1 else D.nx σ H1):A5 c tb D σ H:=h
theorem O3{to ti:TE}{t:qO}{v:V}{P:St->Hp->Prop}(h:to σ H λo H1=>ti σ H1 λi H2=>t o i v H2 λH3=>P σ H3):GS to ti t v σ H P:=h
theorem V4{n j:Nat}{k:Int}(hk:k=(j:Int))(hj:j<n):iK n k=some j:=by
 subst hk
 unfold iK
 rw[if_pos (Int.natCast_nonneg _),if_pos (by lia),Int.toNat_natCast]
theorem uC{p:Addr}{xs:List V}{k:Int}{j:Nat}{v:V}{P:Hp->Prop}(e:H p=some (.lst xs))(hk:k=(j:Int))(hj:j<xs.length)(h:P (upd H p (.lst (xs.set j v)))):D0 (.ref p) (.int k) v H P:=⟨p,xs,k,j,rfl,rfl,e,V4 hk hj,h⟩
theorem DK{α:Type}(x:α):∀n:Nat,(replicate n [x]).flatten=replicate n x
 |0=>rfl
 |n+1=>by rw[replicate_succ,flatten_cons,DK x n];rfl
theorem kC{l:Addr}{v:V}{n:Nat}(e:H l=some (.lst [v]))(hn:n<=1000)(h:∀p,H p=none->Q (.ref p) (upd H p (.lst (replicate n v)))):D1 (.ref l) (.int n) H Q:=
 ⟨l,n,[v],rfl,rfl,e,by lia,by lia,by rw[Int.toNat_natCast];have:=gJ hn;simp;lia,λp hp=>by rw[Int.toNat_natCast,DK];exact h p hp⟩
end
section
variable{H:Hp}{K:PySem.W.Frag}
theorem mH{lo:Int}{n:Nat}{G:List V->Hp->Prop}{B:(List V->Hp->Prop)->List V->V->Hp->Prop}(hn:n<=sizeLine)(Pv:Nat->List V->Hp->Prop)(h0:Pv 0 [] H)(hlen:∀i ys H,Pv i ys H->ys.length<=i)
  (hs:∀i ys H,i<n->Pv i ys H->B (Pv (i+1)) ys (.int (lo+i)) H) (hd:∀ys H,Pv n ys H->G ys H):
  ∃W:Nat->Nat->List V->Hp->Prop,(∃m,W 0 m [] H)/\∀i m ys H,W i m ys H->((hX lo n).stop i H/\G ys H)\/((hX lo n).go i H/\ys.length<sizeLine/\
   ∃N:List V->Hp->Prop,(∀ys' H',N ys' H'->∃m',m'<m/\W (i+1) m' ys' H')/\∀x H',(hX lo n).yld i H x H'->B N ys x H'):=by
 refine⟨λi m ys H=>m=n-i/\i<=n/\Pv i ys H,⟨n,by simp,Nat.zero_le _,h0⟩,?_⟩
 rintro i m ys H ⟨rfl,hi,p⟩
 have hl:=hlen i ys H p
 by_cases hlt:i<n
 ·refine .inr ⟨hlt,by lia,Pv (i+1),λys' H' p'=>⟨n-(i+1),by lia,rfl,hlt,p'⟩,λx H' y=>?_⟩
  obtain⟨e,y⟩:=y
  subst e y
  exact hs i ys _ hlt p
 ·have e:i=n:=by lia
  subst e
  exact .inl ⟨Nat.le_refl _,hd ys H p⟩
theorem mG{a:Addr}{xs:List V}{G:List V->Hp->Prop}{B:(List V->Hp->Prop)->List V->V->Hp->Prop}(hn:xs.length<=sizeLine)(Pv:Nat->List V->Hp->Prop)(h0:Pv 0 [] H)(hlen:∀i ys H,Pv i ys H->ys.length<=i)
  (hl:∀i ys H,i<=xs.length->Pv i ys H->SqT K H a xs) (hs:∀i x ys H,xs[i]? =some x->Pv i ys H->B (Pv (i+1)) ys x H) (hd:∀ys H,Pv xs.length ys H->G ys H):
  ∃W:Nat->Nat->List V->Hp->Prop,(∃m,W 0 m [] H)/\∀i m ys H,W i m ys H->((iU K a).stop i H/\G ys H)\/((iU K a).go i H/\ys.length<sizeLine/\
   ∃N:List V->Hp->Prop,(∀ys' H',N ys' H'->∃m',m'<m/\W (i+1) m' ys' H')/\∀x H',(iU K a).yld i H x H'->B N ys x H'):=by
 refine⟨λi m ys H=>m=xs.length-i/\i<=xs.length/\Pv i ys H,⟨xs.length,by simp,Nat.zero_le _,h0⟩,?_⟩
 rintro i m ys H ⟨rfl,hi,p⟩
 have hly:=hlen i ys H p
 have q:=hl i ys H hi p
 by_cases hlt:i<xs.length
 ·refine .inr ⟨⟨xs,xs[i],q,by simp[hlt]⟩,by lia,Pv (i+1),λys' H' p'=>⟨xs.length-(i+1),by lia,rfl,hlt,p'⟩,λx H' y=>?_⟩
  obtain⟨e,y⟩:=y
  subst e
  exact hs i x ys _ (y xs q) p
 ·have e:i=xs.length:=by lia
  subst e
  exact .inl ⟨⟨xs,q,Nat.le_refl _⟩,hd ys H p⟩
theorem mI{a:Addr}{xs:List V}{G:List V->Hp->Prop}{B:(List V->Hp->Prop)->List V->V->Hp->Prop}(hn:xs.length<=sizeLine)(Pv:Nat->List V->Hp->Prop)(h0:Pv 0 [] H)(hlen:∀i ys H,Pv i ys H->ys.length<=i)
  (hl:∀i ys H,i<=xs.length->Pv i ys H->SqL K H a xs) (hs:∀i x ys H,xs[i]? =some x->Pv i ys H->B (Pv (i+1)) ys x H) (hd:∀ys H,Pv xs.length ys H->G ys H):
  ∃W:Nat->Nat->List V->Hp->Prop,(∃m,W 0 m [] H)/\∀i m ys H,W i m ys H->((iV K a).stop i H/\G ys H)\/((iV K a).go i H/\ys.length<sizeLine/\
   ∃N:List V->Hp->Prop,(∀ys' H',N ys' H'->∃m',m'<m/\W (i+1) m' ys' H')/\∀x H',(iV K a).yld i H x H'->B N ys x H'):=by
 refine⟨λi m ys H=>m=xs.length-i/\i<=xs.length/\Pv i ys H,⟨xs.length,by simp,Nat.zero_le _,h0⟩,?_⟩
 rintro i m ys H ⟨rfl,hi,p⟩
 have hly:=hlen i ys H p
 have q:=hl i ys H hi p
 by_cases hlt:i<xs.length
 ·refine .inr ⟨⟨xs,xs[i],q,by simp[hlt]⟩,by lia,Pv (i+1),λys' H' p'=>⟨xs.length-(i+1),by lia,rfl,hlt,p'⟩,λx H' y=>?_⟩
  obtain⟨e,y⟩:=y
  subst e
  exact hs i x ys _ (y xs q) p
 ·have e:i=xs.length:=by lia
  subst e
  exact .inl ⟨⟨xs,q,Nat.le_refl _⟩,hd ys H p⟩
theorem eN{σ:St}{lo:Int}{n:Nat}{G:St->Hp->Prop}{B:(St->Hp->Prop)->V->St->Hp->Prop}(Pv:Nat->St->Hp->Prop)(h0:Pv 0 σ H)(hs:∀i σ H,i<n->Pv i σ H->B (Pv (i+1)) (.int (lo+i)) σ H)(hd:∀σ H,Pv n σ H->G σ H):
  ∃W:Nat->Nat->St->Hp->Prop,(∃m,W 0 m σ H)/\∀i m σ H,W i m σ H->((hX lo n).stop i H/\G σ H)\/((hX lo n).go i H/\
   ∃N:St->Hp->Prop,(∀σ' H',N σ' H'->∃m',m'<m/\W (i+1) m' σ' H')/\∀x H',(hX lo n).yld i H x H'->B N x σ H'):=by
 refine⟨λi m σ H=>m=n-i/\i<=n/\Pv i σ H,⟨n,by simp,Nat.zero_le _,h0⟩,?_⟩
 rintro i m σ H ⟨rfl,hi,p⟩
 by_cases hlt:i<n
 ·refine .inr ⟨hlt,Pv (i+1),λσ' H' p'=>⟨n-(i+1),by lia,rfl,hlt,p'⟩,λx H' y=>?_⟩
  obtain⟨e,y⟩:=y
  subst e y
  exact hs i σ _ hlt p
 ·have e:i=n:=by lia
  subst e
  exact .inl ⟨Nat.le_refl _,hd σ H p⟩
theorem k9{σ:St}{a:Addr}{xs:List V}{G:St->Hp->Prop}{B:(St->Hp->Prop)->V->St->Hp->Prop}(Pv:Nat->St->Hp->Prop)(h0:Pv 0 σ H)(hl:∀i σ H,i<=xs.length->Pv i σ H->SqT K H a xs)
  (hs:∀i x σ H,xs[i]? =some x->Pv i σ H->B (Pv (i+1)) x σ H) (hd:∀σ H,Pv xs.length σ H->G σ H):
  ∃W:Nat->Nat->St->Hp->Prop,(∃m,W 0 m σ H)/\∀i m σ H,W i m σ H->((iU K a).stop i H/\G σ H)\/((iU K a).go i H/\
   ∃N:St->Hp->Prop,(∀σ' H',N σ' H'->∃m',m'<m/\W (i+1) m' σ' H')/\∀x H',(iU K a).yld i H x H'->B N x σ H'):=by
 refine⟨λi m σ H=>m=xs.length-i/\i<=xs.length/\Pv i σ H,⟨xs.length,by simp,Nat.zero_le _,h0⟩,?_⟩
 rintro i m σ H ⟨rfl,hi,p⟩
 have q:=hl i σ H hi p
 by_cases hlt:i<xs.length
 ·refine .inr ⟨⟨xs,xs[i],q,by simp[hlt]⟩,Pv (i+1),λσ' H' p'=>⟨xs.length-(i+1),by lia,rfl,hlt,p'⟩,λx H' y=>?_⟩
  obtain⟨e,y⟩:=y
  subst e
  exact hs i x σ _ (y xs q) p
 ·have e:i=xs.length:=by lia
  subst e
  exact .inl ⟨⟨xs,q,Nat.le_refl _⟩,hd σ H p⟩
theorem mV{σ:St}{a:Addr}{xs:List V}{G:St->Hp->Prop}{B:(St->Hp->Prop)->V->St->Hp->Prop}(Pv:Nat->St->Hp->Prop)(h0:Pv 0 σ H)(hl:∀i σ H,i<=xs.length->Pv i σ H->SqL K H a xs)
  (hs:∀i x σ H,xs[i]? =some x->Pv i σ H->B (Pv (i+1)) x σ H) (hd:∀σ H,Pv xs.length σ H->G σ H):
  ∃W:Nat->Nat->St->Hp->Prop,(∃m,W 0 m σ H)/\∀i m σ H,W i m σ H->((iV K a).stop i H/\G σ H)\/((iV K a).go i H/\
   ∃N:St->Hp->Prop,(∀σ' H',N σ' H'->∃m',m'<m/\W (i+1) m' σ' H')/\∀x H',(iV K a).yld i H x H'->B N x σ H'):=by
 refine⟨λi m σ H=>m=xs.length-i/\i<=xs.length/\Pv i σ H,⟨xs.length,by simp,Nat.zero_le _,h0⟩,?_⟩
 rintro i m σ H ⟨rfl,hi,p⟩
 have q:=hl i σ H hi p
 by_cases hlt:i<xs.length
 ·refine .inr ⟨⟨xs,xs[i],q,by simp[hlt]⟩,Pv (i+1),λσ' H' p'=>⟨xs.length-(i+1),by lia,rfl,hlt,p'⟩,λx H' y=>?_⟩
  obtain⟨e,y⟩:=y
  subst e
  exact hs i x σ _ (y xs q) p
 ·have e:i=xs.length:=by lia
  subst e
  exact .inl ⟨⟨xs,q,Nat.le_refl _⟩,hd σ H p⟩
end
noncomputable def EA(K:PySem.W.Frag):R2:=λx y H Q=>∃p q ns,x=.ref p/\y=.ref q/\SqL K H p (ns.map V.int)/\SqL K H q []/\Q (.bl (decide (ns=[]))) H
theorem Q9{X:Cx}(hu:X.A.units<cLine):OpR X (compareOp .Eq) (EA X.K):=by
 intro pins s σ H x y v u Q I rx ry h
 obtain⟨p,q,ns,rfl,rfl,h1,h2,hq⟩:=h
 cases(show v=Value.ref p from rx)
 cases(show u=Value.ref q from ry)
 obtain⟨its,r1,p1,_⟩:=I.list h1
 obtain⟨its2,r2,p2,_⟩:=I.list h2
 have e2:its2=[]:=by cases r2;rfl
 subst e2
 have hl:=r1.length
 rw[length_map]at hl
 match ns,hl with
 | [],hl=>
  have e1:its=[]:=by
   have:its.length=0:=by simpa using hl.symm
   exact List.length_eq_zero_iff.mp this
  subst e1
  exact SeqAt.eq_listAt (e:=λ_=>true) p1.isList p2.isList rfl hu (λj g _=>absurd g (Nat.not_lt_zero _)) ⟨.bl true,H,I,rfl,hq⟩
 |n::ns,hl=>
  refine SeqAt.eq_list_lengthsAt p1.isList p2.isList ?_ hu ⟨.bl false,H,I,rfl,hq⟩
  have:its.length=ns.length+1:=by simpa using hl.symm
  simp[this]
theorem VV{X:Cx}(K:PySem.W.Frag)(hu:X.A.units<cLine)(h:X.K=K:=by rfl):OpR X (compareOp .Eq) (EA K):=h▸Q9 hu
section
variable{σ:St}{H:Hp}{Q:VK}{K:PySem.W.Frag}
theorem DQ{p:Addr}{xs:List V}(e:SqL K H p xs)(h:Q (.int xs.length) H):l0 K [.ref p] H Q:=⟨p,xs,rfl,.inl e,h⟩
theorem DR{p:Addr}{xs:List V}{i:Int}{v:V}(e:SqL K H p xs)(a:eP xs i=some v)(h:Q v H):l5 K (.ref p) (.int i) H Q:=⟨p,xs,i,v,rfl,rfl,.inl e,a,h⟩
theorem DX{l b:Addr}{xs zs:List V}(e:H l=some (.lst xs))(e2:H b=some (.lst zs))(hz:xs.length+zs.length<=sizeLine)(h:Q .non (upd H l (.lst (xs++zs)))):D9 (.ref l) [.ref b] H Q:=⟨l,b,xs,zs,rfl,rfl,e,e2,hz,h⟩
end
noncomputable def Scr(K:PySem.W.Frag)(H:Hp)(a:Addr)(ns:List Int):Prop:=(∃o,H a=some (.frz o (.lst (ns.map V.int))))\/
 ∃(o:Obj)(its:Array Value)(n:Nat),K.lookup a=some o/\o.cls=.type "list"/\o.dict=none/\o.data=.seq its n/\its.size<=sizeLine/\Vals (ns.map V.int) its.toList
theorem Scr.sq{K:PySem.W.Frag}{H:Hp}{a:Addr}{ns:List Int}(h:Scr K H a ns):SqL K H a (ns.map V.int):=by
 rcases h with⟨o,h⟩|h
 ·exact .inl (.inr ⟨o,h⟩)
 ·exact .inr h
theorem Scr.of{K:PySem.W.Frag}{H:Hp}{a:Addr}{ns:List Int}(hO:qQ H)(h:SqL K H a (ns.map V.int)):Scr K H a ns:=by
 rcases h with(h|⟨o,h⟩)|h
 ·rcases hO a with g|⟨o,xs,g⟩
  ·rw[g]at h;cases h
  ·rw[g]at h;cases h
 ·exact .inl ⟨o,h⟩
 ·exact .inr h
noncomputable def SameT(w:Addr)(H H':Hp):Prop:=∀b u,H b=some u->b≠w->H' b=some u
theorem SameT.refl(w:Addr)(H:Hp):SameT w H H:=λ_ _ h _=>h
theorem SameT.trans{w:Addr}{H H1 H2:Hp}(a:SameT w H H1)(b:SameT w H1 H2):SameT w H H2:=λc u h g=>b c u (a c u h g) g
theorem Same.t{w:Addr}{H H':Hp}(h:Same H H'):SameT w H H':=λb u e _=>h b u e
theorem Scr.t{K:PySem.W.Frag}{H H':Hp}{w a:Addr}{ns:List Int}{ts:List V}(hw:H w=some (.lst ts))(s:SameT w H H')(h:Scr K H a ns):Scr K H' a ns:=by
 rcases h with⟨o,h⟩|h
 ·exact .inl ⟨o,s _ _ h (gT h hw (by intro z;cases z))⟩
 ·exact .inr h
theorem Scr.same{K:PySem.W.Frag}{H H':Hp}{a:Addr}{ns:List Int}(s:Same H H')(h:Scr K H a ns):Scr K H' a ns:=by
 rcases h with⟨o,h⟩|h
 ·exact .inl ⟨o,s _ _ h⟩
 ·exact .inr h
section
variable{σ:St}{H:Hp}{Q:VK}{D:dN}{K:PySem.W.Frag}
theorem O2{t:TT}{ta tb:TE}(h:t σ H λc H1=>if c=true then ta σ H1 Q else tb σ H1 Q):LH t ta tb σ H Q:=h
theorem uD{a b:Addr}{xs ys:List V}(ha:H a=some (.lst xs))(hb:H b=some (.lst ys))(hz:xs.length+ys.length<=sizeLine)(h:∀p,H p=none->Q (.ref p) (upd H p (.lst (xs++ys)))):ED (.ref a) (.ref b) H Q:=
 ⟨a,b,xs,ys,rfl,rfl,ha,hb,hz,h⟩
theorem OK{p:Addr}{ys:List V}(e:H p=some (.tup ys))(h:∀l,H l=none->Q (.ref l) (upd H l (.lst ys))):uK K [.ref p] H Q:=⟨p,ys,rfl,.inr (SqT.of e),h⟩
end
section
variable{prog:Program}{w:World}{A:Around}{E:Value->Shared->Prop}{s:Shared}
end
section
variable{X:Cx}
end
section
variable{H:Hp}{Q:VK}{K:PySem.W.Frag}
end
structure XEnd (P:Program) (w:World) (outer:List Env) (H:Hp) (s:Shared) (e C t:Addr) (H':Hp) (B:Heap) (s':Shared):Prop where
 os:s'.os=s.os
 bare:AllBare s'.gens
 un:Un (aV outer) [] H H' s.heap s'.heap
 cov:∀b o,s.heap.get? b=some o->H b=none->b∉aV outer->B.get? b=some o
 thr:∀b o,s.heap.get? b=some o->b∉aV outer->∃o',B.get? b=some o'
 hok:HOk P w H' B
 fl:Heap.FlyingW B outer e (.ref C) (.ref t) s'.heap
noncomputable abbrev cM(P:Program)(w:World):cX:=λouter H s E ev s'=>∃e C t H' B,ev=.ref e/\XEnd P w outer H s e C t H' B s'/\E (.ref C) none H'
section
variable{CX:cX}{P:Program}{w:World}{K:PySem.W.Frag}{mg:Str->Option Value}{base:Heap}{N:List Str}{qual:Str}{scope:Scope}{f:Addr}{cd:Value}{A:Around}{outer:List Env}{s₀:Shared}{H₀:Hp}{E:XK}
 {pins:List (Addr×Obj)} {σ:St} {H:Hp} {s:Shared}
theorem W0{b:Addr}(hb:b∈aV (envOfC qual scope s₀.heap.objs.size f cd::outer)):b=s₀.heap.objs.size\/b∈aV outer:=by
 have e:aV (envOfC qual scope s₀.heap.objs.size f cd::outer)=s₀.heap.objs.size::aV outer:=rfl
 rw[e]at hb
 exact mem_cons.mp hb
theorem pX{b:Addr}{o:Obj}(h:s₀.heap.get? b=some o)(hb:b∉aV outer):b∉aV (envOfC qual scope s₀.heap.objs.size f cd::outer):=λz=>by
 rcases W0 z with e|e
 ·exact Nat.lt_irrefl _ (e▸Heap.lt_size h)
 ·exact hb e
theorem XEnd.out{e C t:Addr}{H':Hp}{B h':Heap}{s':Shared}(I:Inv (cO CX P w K mg base N qual scope f cd A outer s₀ H₀ E) pins σ H s)(x:XEnd P w (envOfC qual scope s₀.heap.objs.size f cd::outer) H s e C t H' B s')
  (fl:Heap.FlyingW B outer e (.ref C) (.ref t) h') (up:s'.heap.UpToSlots h'):XEnd P w outer H₀ s₀ e C t H' B { s' with heap:=h' }:=by
 have cov:∀b o,s₀.heap.get? b=some o->H₀ b=none->b∉aV outer->B.get? b=some o:=λb o q n nb=>
  x.cov b o (I.base.keep b o q n nb (λz=>nomatch z)) (I.base.free b o q n (λz=>nomatch z)) (pX q nb)
 have thr:∀b o,s₀.heap.get? b=some o->b∉aV outer->∃o',B.get? b=some o':=λb o q nb=>by
  obtain⟨o',e'⟩:=I.base.there b o q (λz=>nomatch z)
  exact x.thr b o' e' (pX q nb)
 have slot:∀b o,s₀.heap.get? b=some o->b∈aV outer->∃sl,h'.get? b=some { o with slots:=sl }:=λb o q nb=>by
  have n:H₀ b=none:=I.ok.frf b nb
  obtain⟨sl,e1⟩:=I.base.slot b o q n nb (λz=>nomatch z)
  obtain⟨sl2,e2⟩:=x.un.slot b _ e1 (I.base.free b o q n (λz=>nomatch z)) (mem_cons_of_mem _ nb) (λz=>nomatch z)
  obtain⟨_,o3,e3,d3⟩:=I.ok.funs.mem nb
  have:o3=o:=by
   have e3':s₀.heap.get? b=some o3:=e3
   rw[q]at e3'
   exact(Option.some.inj e3').symm
  subst this
  obtain⟨sl4,e4⟩:=up b _ e2 d3
  exact⟨sl4,e4⟩
 refine⟨x.os.trans I.os,x.bare,⟨λb o q n nb _=>fl.1 b o (cov b o q n nb),λb o q _ nb _=>slot b o q nb,λb o q n _=>?_,λb o q _=>?_,λb xs q=>?_,λb o u q=>?_,λb ps q=>?_⟩,cov,thr,x.hok,fl⟩
 ·obtain⟨o',e'⟩:=I.base.there b o q (λz=>nomatch z)
  exact x.un.free b o' e' (I.base.free b o q n (λz=>nomatch z)) (λz=>nomatch z)
 ·by_cases nb:b∈aV outer
  ·obtain⟨sl,e'⟩:=slot b o q nb
   exact⟨_,e'⟩
  ·obtain⟨o',e'⟩:=thr b o q nb
   exact⟨o',fl.1 b o' e'⟩
 ·exact x.un.tups b xs (I.base.tups b xs q)
 ·exact x.un.frzs b o u (I.base.frzs b o u q)
 ·obtain⟨m1,e1⟩:=I.base.tbls b ps q
  obtain⟨m2,e2⟩:=x.un.tbls b _ e1
  exact⟨m1++m2,by rw[e2,Array.append_assoc]⟩
theorem ES:j3 (cM P w) (cO (cM P w) P w K mg base N qual scope f cd A outer s₀ H₀ E) E:=by
 intro pins σ H s ev s' I h
 obtain⟨e,C,t,H',B,rfl,x,q⟩:=h
 show wpAny (model P w) (A.deeper (envOfC qual scope s₀.heap.objs.size f cd)) (leaving (envOfC qual scope s₀.heap.objs.size f cd) (.ref e)) _ _ s'
 exact wpAny_leaves_onW (L:=s₀.heap.objs.size) I.ok.frames rfl x.fl λh' fl up=>⟨e,C,t,H',B,rfl,XEnd.out I x fl up,q⟩
theorem TL{e C:Addr}{h':Heap}{vs:List Value}(I:Inv (cO (cM P w) P w K mg base N qual scope f cd A outer s₀ H₀ E) pins σ H s)(hx:Heap.MadeExcOf s.heap h' e (.ref C) vs)(q:E (.ref C) none H):
  (cO (cM P w) P w K mg base N qual scope f cd A outer s₀ H₀ E).xe (.ref e) { s with heap:=h' }:=by
 have st:s.heap.FunFrames base (envOfC qual scope s₀.heap.objs.size f cd::outer):=I.stack
 have hin:∀env∈(envOfC qual scope s₀.heap.objs.size f cd::outer),∀a,env.frame=some a->a∈aV (envOfC qual scope s₀.heap.objs.size f cd::outer):=λenv he a hf=>mem_filterMap.mpr ⟨env,he,hf⟩
 have hB:∀b o,s.heap.get? b=some o->b∉aV (envOfC qual scope s₀.heap.objs.size f cd::outer)->(PySem.W.hideAll s.heap (aV (envOfC qual scope s₀.heap.objs.size f cd::outer))).get? b=some o:=λb o q nb=>PySem.W.hideAll_get _ q nb
 have hok:HOk P w H (PySem.W.hideAll s.heap (aV (envOfC qual scope s₀.heap.objs.size f cd::outer))):=λa o ea=>
  (I.hok a o ea).stay (λb u hb q=>hB b u q λz=>by
   have n:=I.stkFree b z
   rcases hb with rfl|hb
   ·rw[n]at ea;cases ea
   ·rw[n]at hb;cases hb) (λ_ q=>q) λ_ _ q=>q
 show wpAny (model P w) (A.deeper (envOfC qual scope s₀.heap.objs.size f cd)) (leaving (envOfC qual scope s₀.heap.objs.size f cd) (.ref e)) _ _ { s with heap:=h' }
 refine wpAny_leaves_madeW (base:=PySem.W.hideAll s.heap (aV (envOfC qual scope s₀.heap.objs.size f cd::outer))) (h:=s.heap) (L:=s₀.heap.objs.size) I.ok.frames rfl (λb o q=>PySem.W.of_hideAll _ q) (PySem.W.funFrames_hide st hin) hx λh2 t fl _ _ up=>?_
 generalize PySem.W.hideAll s.heap (aV (envOfC qual scope s₀.heap.objs.size f cd::outer))=B at hB hok fl
 refine⟨e,C,t,H,B,rfl,?_,q⟩
 have cov:∀b o,s₀.heap.get? b=some o->H₀ b=none->b∉aV outer->B.get? b=some o:=λb o q n nb=>
  hB b o (I.base.keep b o q n nb (λz=>nomatch z)) (pX q nb)
 have thr:∀b o,s₀.heap.get? b=some o->b∉aV outer->∃o',B.get? b=some o':=λb o q nb=>by
  obtain⟨o',e'⟩:=I.base.there b o q (λz=>nomatch z)
  exact⟨o',hB b o' e' (pX q nb)⟩
 have slot:∀b o,s₀.heap.get? b=some o->b∈aV outer->∃sl,h2.get? b=some { o with slots:=sl }:=λb o q nb=>by
  obtain⟨sl,e1⟩:=I.base.slot b o q (I.ok.frf b nb) nb (λz=>nomatch z)
  obtain⟨_,o3,e3,d3⟩:=I.ok.funs.mem nb
  have:o3=o:=by
   have e3':s₀.heap.get? b=some o3:=e3
   rw[q]at e3'
   exact(Option.some.inj e3').symm
  subst this
  obtain⟨sl4,e4⟩:=up b _ (hx.keeps _ _ e1) d3
  exact⟨sl4,e4⟩
 refine⟨I.os,I.bare,⟨λb o q n nb _=>fl.1 b o (cov b o q n nb),λb o q _ nb _=>slot b o q nb,λb o q n _=>I.base.free b o q n (λz=>nomatch z),λb o q _=>?_,I.base.tups,I.base.frzs,I.base.tbls⟩,cov,thr,hok,fl⟩
 by_cases nb:b∈aV outer
 ·obtain⟨sl,e'⟩:=slot b o q nb
  exact⟨_,e'⟩
 ·obtain⟨o',e'⟩:=thr b o q nb
  exact⟨o',fl.1 b o' e'⟩
abbrev yQ:List Value:=[.type "ValueError",.type "Exception",.type "BaseException",.type "object"]
noncomputable def BA(E:XK)(C:Addr)(t:TA):TS:=λ_ σ H=>t σ H λvs H1=>vs.length<=sizeLine/\E (.ref C) none H1
theorem Q0{x:Str}{C:Addr}{bmB:List Value}{newId:String}(M:Mod K mg base)(hm:mg x=some (.ref C))(q:PySem.W.excIn K C bmB newId=true):OwnCls x C bmB newId mg base:=by
 refine⟨hm,?_⟩
 have X:=M.kin
 unfold PySem.W.excIn at q
 split at q
 ·rename_i dd cd sl ho
  split at q
  ·rename_i C' bm k0 k1 k2 k3 n k5 h1 h2
   simp only[Bool.and_eq_true,beq_iff_eq,Bool.not_eq_true']at q
   obtain⟨⟨⟨⟨⟨rfl,rfl⟩,hdel⟩,ht⟩,hok⟩,hni⟩:=q
   obtain⟨nm,bs,mro,ns,qn,hd,sn,sub,ab,col,del⟩:=cd
   dsimp only at h1 hdel hok hni
   subst h1 hdel
   have h3:sl=#[k0,k1,k2,k3,some (.builtin n),k5]:=by
    obtain⟨l⟩:=sl
    simp only at h2
    rw[h2]
   subst h3
   exact⟨bm,ns,nm,qn,bs,hd,sn,sub,ab,col,dd,k0,k1,k2,k3,k5,_,X _ _ ho,.of_isNs (PySem.W.isNs_of_in X hok),PySem.W.nsMap_none_of_in X hok hni,PySem.W.tail_of_in X ht⟩
  ·cases q
 ·cases q
theorem P6{x:Str}{C:Addr}{np cpos pos:Pos}{e₀:Expr}{cA:List Expr}{t:TA}(hm:mg x=some (.ref C))(qx:PySem.W.excIn K C yQ "ValueError.__new__"=true)
  (hg:Gl (cO (cM P w) P w K mg base N qual scope f cd A outer s₀ H₀ E) x) (ha:PA (cO (cM P w) P w K mg base N qual scope f cd A outer s₀ H₀ E) (e₀::cA) t)
  (he:starEach (e₀::cA) (cO (cM P w) P w K mg base N qual scope f cd A outer s₀ H₀ E).env=(false,eval e₀ (cO (cM P w) P w K mg base N qual scope f cd A outer s₀ H₀ E).env)::starEach cA (cO (cM P w) P w K mg base N qual scope f cd A outer s₀ H₀ E).env:=by rfl)
  (hpl:(backTo cpos (starEach cA (cO (cM P w) P w K mg base N qual scope f cd A outer s₀ H₀ E).env)).any (·.1)=false:=by rfl) (hdb:(x==("__debug__":Str))=false:=by decide):
  PS (cO (cM P w) P w K mg base N qual scope f cd A outer s₀ H₀ E) (.Raise (some (.Call (.Name x np) (e₀::cA) [] cpos)) none pos) (BA E C t):=by
 intro pins s σ H D I h
 have O:OwnCls x C yQ "ValueError.__new__" mg base:=Q0 I.ok.mod hm qx
 obtain⟨tl,Nn,nm,q,bs,hdct,sn,sub,ab,col,dd,k0,k1,k2,k3,k5,mN,hC,hN,hni,T⟩:=O.obj
 refine wpAny_Raise_call_subU (C:=C) (nm:=nm) (q:=q) (N:=Nn) (bs:=bs) (bm:=tl) (hdct:=hdct) (sn:=sn) (sub:=sub) (ab:=ab) (col:=col) (dd:=dd) (k0:=k0) (k1:=k1) (k2:=k2) (k3:=k3) (k5:=k5)
  PySem.F.excBase_ValueError (by decide) PySem.F.excBase_ValueError (mN:=mN) (T.hasType PySem.F.excBase_ValueError.hasBase) (I.ok.hd rfl) (by rw[he];exact hpl) hni (kR I hg O.bound ⟨rfl,?_⟩ hdb)
 have h1:=ha cpos pins s σ H _ I h
 rw[he]at h1 ⊢
 refine Calls.evalArgs_plain (wpAny_mono h1 (λus s2⟨vs,H1,I1,r,q1,q2⟩=>⟨rfl,by rw[<-r.length];exact q1,I1.bk _ _ hC,hN.keeps I1.bk,T.keeps I1.bk,λh' e hm=>TL I1 hm q2⟩) λ_ _ y=>y)
theorem Fun.okX{x qual:Str}{st:Stmt}{f:Addr}{fd:FuncData}{N ps:List Str}{k:Nat}{sp:Sp}(F:Fun K x qual st f fd)(S:aW N ps (aL st))(len:∀vs H Q E,sp vs H Q E->vs.length=ps.length)
  (hbody:∀(cdv:Value)(A:Around)(outer:List Env)(s:Shared)(H:Hp)(vs:List V)(Q:VK)(E:XK),Room k (A.deeper (envOfC qual (aL st) s.heap.objs.size f cdv))->sp vs H Q E->
   ∃t,PSs (cO (cM P w) P w K mg base N qual (aL st) f cdv A outer s H E) (iQ st) t/\t { nx:=λ_ H'=>Q .non H',rt:=Q } (start N vs) H):FnOk P w K mg base (cM P w) (k+1) f fd ps sp:=by
 obtain⟨oc,od,kV,doc,pm,an,cdv,ct,osl,rfl,lk,hcd⟩:=F.ex
 exact GY lk hcd S len λA outer s H vs Q E hr hsp=>hbody cdv A outer s H vs Q E hr hsp
end
section
variable{P:Program}{w:World}{l:List Env}{H H':Hp}{s s':Shared}{e C t:Addr}{B h':Heap}
theorem XEnd.move(x:XEnd P w l H s e C t H' B s')(fr:∀b∈aV l,H b=none)(fl:Heap.FlyingW B l e (.ref C) (.ref t) h')(up:s'.heap.UpToSlots h'):XEnd P w l H s e C t H' B { s' with heap:=h' }:=by
 have slot:∀b o,s.heap.get? b=some o->b∈aV l->∃sl,h'.get? b=some { o with slots:=sl }:=λb o q nb=>by
  obtain⟨sl,e1⟩:=x.un.slot b o q (fr b nb) nb (λz=>nomatch z)
  obtain⟨_,o3,e3,d3⟩:=x.fl.2.2.1.mem nb
  have:o3={ o with slots:=sl }:=Option.some.inj (e3.symm.trans e1)
  subst this
  obtain⟨sl2,e2⟩:=up b _ e1 d3
  exact⟨sl2,e2⟩
 refine⟨x.os,x.bare,⟨λb o q n nb _=>fl.1 b o (x.cov b o q n nb),λb o q _ nb _=>slot b o q nb,x.un.free,λb o q _=>?_,x.un.tups,x.un.frzs,x.un.tbls⟩,x.cov,x.thr,x.hok,fl⟩
 by_cases nb:b∈aV l
 ·obtain⟨sl,e1⟩:=slot b o q nb
  exact⟨_,e1⟩
 ·obtain⟨o',e1⟩:=x.thr b o q nb
  exact⟨o',fl.1 b o' e1⟩
theorem XEnd.new(x:XEnd P w l H s e C t H' B s'):s.heap.get? e=none:=by
 cases q:s.heap.get? e with
 |none=>rfl
 | some o=>
  exfalso
  by_cases nb:e∈aV l
  ·obtain⟨_,o3,e3,d3⟩:=x.fl.2.2.1.mem nb
   obtain⟨oe,vs,he,_,hd,_⟩:=x.fl.first
   rw[e3]at he
   cases he
   exact d3 vs hd
  ·obtain⟨o',e1⟩:=x.thr e o q nb
   rw[x.fl.2.1]at e1
   cases e1
theorem XEnd.free(x:XEnd P w l H s e C t H' B s'):H' e=none:=by
 cases q:H' e with
 |none=>rfl
 |some o=>
  obtain⟨u,e1⟩:=(x.hok e o q).there
  rw[x.fl.2.1]at e1
  cases e1
end
section
variable{X:Cx}{pins:List (Addr×Obj)}{σ:St}{H H':Hp}{s s':Shared}{e C t:Addr}{B:Heap}
theorem Inv.exc(I:Inv X pins σ H s)(x:XEnd X.prog X.w X.stack H s e C t H' B s'):Inv X pins σ H' s':=
 I.call' x.os x.un (x.hok.kept x.fl.1) x.bare (λ_ z=>nomatch z)
noncomputable def lB(e C:Addr):HO:=.ext λh=>∃ob,h.get? e=some ob/\ob.cls=.ref C/\∃vs,ob.data=.fields vs
theorem Inv.track{o:HO}(J:Inv X pins σ H s)(hn:H e=none)(h0:X.s₀.heap.get? e=none)(hL:e≠X.env.locals)(hc:∀x c,X.env.cells.lookup x=some c->c≠e)(hp:∀p∈X.pn++pins,p.1≠e)
  (ho:ObjOk X.prog X.w (upd H e o) s.heap e o):Inv X pins σ (upd H e o) s:=by
 have ne:∀b u,H b=some u->b≠e:=λb u q z=>by rw[z,hn]at q;cases q
 have up:∀b u,H b=some u->upd H e o b=some u:=λb u q=>by rw[aE (ne b u q)];exact q
 refine⟨J.ok,J.os,J.bare,⟨J.base.keep,J.base.slot,λb ob q n hx=>?_,J.base.there,λb xs q=>up _ _ (J.base.tups b xs q),λb ob u q=>up _ _ (J.base.frzs b ob u q),λb ps q=>?_⟩,J.loc,J.cell,?_,λy c q=>?_,λp hq=>?_,λb u q=>?_,J.len⟩
 ·have:b≠e:=λz=>by rw[z,h0]at q;cases q
  rw[aE this]
  exact J.base.free b ob q n hx
 ·obtain⟨m,q⟩:=J.base.tbls b ps q
  exact⟨m,up _ _ q⟩
 ·rw[aE (Ne.symm hL)];exact J.free
 ·rw[aE (hc y c q)];exact J.freeC y c q
 ·obtain⟨a1,a2,a3,a4,a5⟩:=J.pin p hq
  exact⟨a1,by rw[aE (hp p hq)];exact a2,a3,a4,a5⟩
 ·by_cases z:b=e
  ·subst z
   rw[aC]at q
   cases q
   exact ho
  ·rw[aE z]at q
   exact(J.hok b u q).stay (λ_ _ _ q=>q) (λc q=>up _ _ q) λc xs q=>up _ _ q
theorem Inv.forget{i:Nat}{x:Str}{m:Str->Option Value}{v:Option Value}{h':Heap}{t':Nat}(I:Inv X pins σ H s)(hN:X.N.Nodup)(hi:X.N[i]? =some x)(hk:X.env.scope.names.lookup x=some .local)
  (hn:s.heap.Ns X.env.locals m) (hn':h'.Ns X.env.locals (λy=>if y=x then v else m y)) (hs:Heap.SameBut X.env.locals s.heap h'):Inv X pins (σ.set i none) H { s with heap:=h',toks:=t' }:=by
 obtain⟨m0,hn0,hl0⟩:=id I.loc
 obtain rfl:m0=m:=FI hn0 hn
 have nL:∀b o,X.s₀.heap.get? b=some o->b≠X.env.locals:=λb o q=>Nat.ne_of_lt (Nat.lt_of_lt_of_le (Heap.lt_size q) I.ok.above)
 refine⟨I.ok,I.os,I.bare,⟨λb o q n hb hx=>(hs.2 b (nL b o q)).trans (I.base.keep b o q n hb hx),λb o q n hb hx=>?_,I.base.free,λb o q hx=>?_,I.base.tups,I.base.frzs,I.base.tbls⟩,⟨_,hn',λj y v' e1 e2 e3=>?_⟩,λy c q=>?_,I.free,I.freeC,λp hp=>?_,λb ob q=>?_,by rw[length_set];exact I.len⟩
 ·obtain⟨sl,e1⟩:=I.base.slot b o q n hb hx
  exact⟨sl,(hs.2 b (nL b o q)).trans e1⟩
 ·obtain⟨o',e1⟩:=I.base.there b o q hx
  exact⟨o',(hs.2 b (nL b o q)).trans e1⟩
 ·have hj:j≠i:=λz=>by
   subst z
   by_cases hlt:j<σ.length
   ·rw[List.getElem?_set_self hlt]at e2;cases e2
   ·rw[List.getElem?_eq_none (by rw[length_set];lia)]at e2;cases e2
  rw[List.getElem?_set_ne (Ne.symm hj)]at e2
  obtain⟨u',r',q⟩:=hl0 j y v' e1 e2 e3
  refine⟨u',r',?_⟩
  rcases q with⟨k,q⟩|⟨k,c,q,z⟩
  ·refine .inl ⟨k,?_⟩
   have:y≠x:=λq=>hj (vF hN e1 (q▸hi))
   simp[this,q]
  ·exact .inr ⟨k,c,q,z.sameBut hs (I.cne y c q)⟩
 ·obtain⟨w',z⟩:=I.cell y c q
  exact⟨w',z.sameBut hs (I.cne y c q)⟩
 ·obtain⟨a1,a2,a3,a4,a5⟩:=I.pin p hp
  exact⟨(hs.2 p.1 a3).trans a1,a2,a3,a4,a5⟩
 ·refine(I.hok b ob q).stay (λc w' hc z=>(hs.2 c ?_).trans z) (λ_ z=>z) λ_ _ z=>z
  rintro rfl
  have fr:=I.free
  rcases hc with rfl|hc
  ·rw[fr]at q;cases q
  ·rw[fr]at hc;cases hc
noncomputable abbrev Cx.hand(X:Cx)(e:Addr):Cx:={ X with A:=X.A.mark (some (.ref e)),calm:=false,xe:=λ_ _=>False }
theorem Inv.hand(I:Inv X pins σ H s)(e:Addr):Inv (X.hand e) pins σ H s:=
 ⟨⟨I.ok.mod,I.ok.kind,I.ok.glob,I.ok.blt,I.ok.above,I.ok.inj,I.ok.has,I.ok.cab,(λz=>absurd z Bool.false_ne_true),I.ok.frames,I.ok.stk,I.ok.exf,I.ok.bs,I.ok.bsz,I.ok.noex,I.ok.exfs,I.ok.funs,I.ok.frf⟩,I.os,I.bare,I.base,I.loc,I.cell,I.free,I.freeC,I.pin,I.hok,I.len⟩
theorem Inv.unhand(hd:X.calm=true->X.A.handled=none)(I:Inv (X.hand e) pins σ H s):Inv X pins σ H s:=
 ⟨⟨I.ok.mod,I.ok.kind,I.ok.glob,I.ok.blt,I.ok.above,I.ok.inj,I.ok.has,I.ok.cab,hd,I.ok.frames,I.ok.stk,I.ok.exf,I.ok.bs,I.ok.bsz,I.ok.noex,I.ok.exfs,I.ok.funs,I.ok.frf⟩,I.os,I.bare,I.base,I.loc,I.cell,I.free,I.freeC,I.pin,I.hok,I.len⟩
noncomputable def BH(K:PySem.W.Frag)(Dc:Addr)(i:Nat)(th:TS)(D:dN):XK:=λcls _ H'=>∃C,cls=.ref C/\PySem.W.exmOne K (.ref C) (.ref Dc)=some true/\∀(e:Addr)(σ:St),H' e=none->i<σ.length->
 th { nx:=λσ H=>D.nx (σ.set i none) H,rt:=D.rt,bk:=λσ H=>D.bk (σ.set i none) H,ct:=λσ H=>D.ct (σ.set i none) H } (σ.set i (some (.ref e))) (upd H' e (lB e C))
noncomputable abbrev Cx.pinned(X:Cx)(pn:List (Addr×Obj))(E1:Value->Shared->Prop):Cx:={ X with pn:=pn,xe:=E1 }
theorem Inv.pn1(I:Inv X pins σ H s)(E1:Value->Shared->Prop):Inv (X.pinned (X.pn++pins) E1) [] σ H s:=
 ⟨⟨I.ok.mod,I.ok.kind,I.ok.glob,I.ok.blt,I.ok.above,I.ok.inj,I.ok.has,I.ok.cab,I.ok.hd,I.ok.frames,I.ok.stk,I.ok.exf,I.ok.bs,I.ok.bsz,I.ok.noex,I.ok.exfs,I.ok.funs,I.ok.frf⟩,I.os,I.bare,I.base,I.loc,I.cell,I.free,I.freeC,λp hp=>I.pin p (by simpa using hp),I.hok,I.len⟩
theorem Inv.unpn1{E1:Value->Shared->Prop}{pins':List (Addr×Obj)}(I:Inv (X.pinned (X.pn++pins) E1) pins' σ H s):Inv X pins σ H s:=
 ⟨⟨I.ok.mod,I.ok.kind,I.ok.glob,I.ok.blt,I.ok.above,I.ok.inj,I.ok.has,I.ok.cab,I.ok.hd,I.ok.frames,I.ok.stk,I.ok.exf,I.ok.bs,I.ok.bsz,I.ok.noex,I.ok.exfs,I.ok.funs,I.ok.frf⟩,I.os,I.bare,I.base,I.loc,I.cell,I.free,I.freeC,λp hp=>I.pin p (mem_append_left _ hp),I.hok,I.len⟩
theorem SP.unpinned{E1:Value->Shared->Prop}{pins':List (Addr×Obj)}{D:dN}{f:Flow}(h:SP (X.pinned (X.pn++pins) E1) pins' D f s'):SP X pins D f s':=by
 cases f with
 |next=>obtain⟨σ',H',I,q⟩:=h;exact⟨σ',H',I.unpn1,q⟩
 |brk=>obtain⟨σ',H',I,q⟩:=h;exact⟨σ',H',I.unpn1,q⟩
 |cont=>obtain⟨σ',H',I,q⟩:=h;exact⟨σ',H',I.unpn1,q⟩
 |ret u=>obtain⟨v,σ',H',I,r,q⟩:=h;exact⟨v,σ',H',I.unpn1,r,q⟩
theorem P5{x n:Str}{Dc:Addr}{i:Nat}{np hpos pos:Pos}{body suite:List Stmt}{b₀:Stmt}{tb:XK->TS}{th:TS}(hcalm:X.calm=true)(hN:X.N.Nodup)(hi:X.N[i]? =some n)(hk:X.env.scope.names.lookup n=some .local)
  (hex:X.ex=[]) (hstk:X.stack=X.env::X.outer) (hfr:X.env.frame=some X.env.locals) (hg:Gl X x) (hm:X.mg x=some (.ref Dc))
  (hb:∀(pn:List (Addr×Obj))(E1:Value->Shared->Prop)(Eb:XK),j3 (cM X.prog X.w) (X.pinned pn E1) Eb->PSs (X.pinned pn E1) body (tb Eb)) (hh:∀e,PSs (X.hand e) (b₀::suite) th) (hdb:(x==("__debug__":Str))=false:=by decide):
  PS X (.Try body [.ExceptHandler (some (.Name x np)) (some n) (b₀::suite) hpos] [] [] pos) (λD σ H=>tb (BH X.K Dc i th D) D σ H):=by
 intro pins s σ H D I h
 refine wpAny_Try_except ?_
 refine wpAny_mono (hb (X.pn++pins) (λev s₁=>wpAny (model X.prog X.w) X.A (noteFrame ev X.env) (λ_ s₂=>wpAny (model X.prog X.w) X.A (setFlight ev none) (λ_ s₃=>wpAny (model X.prog X.w) X.A (handleBy ev X.env [.ExceptHandler (some (.Name x np)) (some n) (b₀::suite) hpos]) (SP X pins D) X.xe s₃) X.xe s₂) X.xe s₁)
  (BH X.K Dc i th D) ?_ [] s σ H D (I.pn1 _) h) (λf s1 hs=>?_) λ_ _ z=>z
 rotate_left
 ·cases f with
  |next=>exact wpAny_execs_nil (SP.unpinned hs)
  |brk=>exact SP.unpinned hs
  |cont=>exact SP.unpinned hs
  |ret u=>exact SP.unpinned hs
 intro pins' σ' H1 s1 ev s' I1 hx
 obtain⟨e,C,t,H',B,rfl,x0,q⟩:=hx
 have I1:Inv X pins σ' H1 s1:=I1.unpn1
 obtain⟨C',hC',hcm,q⟩:=q
 cases hC'
 have fr:∀b∈aV X.stack,H1 b=none:=λb hb=>I1.stkFree b hb
 have fls:=x0.fl
 have ef:(X.pinned (X.pn++pins) (λev s₁=>wpAny (model X.prog X.w) X.A (noteFrame ev X.env) (λ_ s₂=>wpAny (model X.prog X.w) X.A (setFlight ev none) (λ_ s₃=>wpAny (model X.prog X.w) X.A (handleBy ev X.env [.ExceptHandler (some (.Name x np)) (some n) (b₀::suite) hpos]) (SP X pins D) X.xe s₃) X.xe s₂) X.xe s₁)).stack=X.stack:=rfl
 rw[ef]at x0 fls
 rw[hstk]at fls
 show wpAny (model X.prog X.w) X.A (noteFrame (.ref e) X.env) _ _ s'
 refine wpAny_looks_onW (outer:=X.outer) (L:=X.env.locals) (by rw[<-hstk];exact I1.ok.frames) hfr fls λh4 held up4=>?_
 refine wpAny_landsW held λh5 fl5 up5=>?_
 have x5:=x0.move fr (by rw[hstk];exact fl5) (up4.trans up5)
 have J5:=I1.exc x5
 have XI:X.K.In h5:=J5.kIn
 obtain⟨ob,hob,hoc⟩:=fl5.there
 have LT:PySem.W.Looks (model X.prog X.w) h5 (typeOf (.ref e)) (.ref C):=hoc▸(PySem.W.Looks.ld hob).andThen .now
 have LM:PySem.W.Looks (model X.prog X.w) h5 (excMatches (.ref e) (.ref Dc)) true:=PySem.W.exm_one XI LT hcm
 refine wpAny_handleBy_cons (codeAny_handlers_test ?_) (by intro z;cases z)
 refine kR (X:=X.hand e) (J5.hand e) hg hm ?_ hdb
 refine LM.here ?_
 refine codeAny_handlers_suite_as ?_
 refine lands_againW fl5 λh6 fl6 up6=>?_
 have x6:=x5.move fr (by rw[hstk];exact fl6) up6
 have J6:Inv X pins σ' H' { s' with heap:=h6 }:=I1.exc x6
 obtain⟨oe,vs,he,hec,hed,_⟩:=fl6.first
 have new1:s1.heap.get? e=none:=x0.new
 have J7:Inv X pins σ' (upd H' e (lB e C)) { s' with heap:=h6 }:=by
  refine J6.track x6.free ?_ ?_ ?_ ?_ ?_
  ·cases q0:X.s₀.heap.get? e with
   |none=>rfl
   |some o=>
    obtain⟨o',q1⟩:=I1.base.there e o q0 (by rw[hex];exact λz=>nomatch z)
    rw[new1]at q1;cases q1
  ·rintro rfl
   obtain⟨m,⟨o,_,_,ho,_⟩,_⟩:=I1.loc
   rw[new1]at ho;cases ho
  ·rintro y c q1 rfl
   obtain⟨v,o,ho,_⟩:=I1.cell y c q1
   rw[new1]at ho;cases ho
  ·rintro p hp rfl
   have:=(I1.pin p hp).1
   rw[new1]at this;cases this
  ·exact⟨⟨oe,he,hec,vs,hed⟩,⟨oe,he⟩,λh1 h2⟨o1,a1,a2⟩k=>⟨o1,k _ a1,a2⟩⟩
 refine rV (X:=X.hand e) (v:=.ref e) (J7.hand e) hN hi (.inl hk) rfl (λs8 J8=>?_) (.inr hk)
 refine wpAny_mono (hh e pins s8 _ _ _ J8 (q e σ' x6.free (by rw[I1.len];exact(List.getElem?_eq_some_iff.mp hi).1))) (λf s9 hs=>?_) λ_ _ z=>False.elim z
 have fin:∀(σ9:St)(H9:Hp),Inv (X.hand e) pins σ9 H9 s9->∀(Q:Unit->Shared->Prop),(∀s10,Inv X pins (σ9.set i none) H9 s10->Q () s10)->wpAny (model X.prog X.w) X.A (do bindName X.env n .none;unbindBehindTheSuite X.env n hpos) Q X.xe s9:=λσ9 H9 J9 Q hQ=>by
  have J9:Inv X pins σ9 H9 s9:=J9.unhand I.ok.hd
  obtain⟨m,hn,_⟩:=id J9.loc
  refine wpAny_nameGoes_keeps hk hn (by rw[J9.ok.kind];rfl) λh' v hn' hs'=>hQ _ (J9.forget hN hi hk hn hn' hs')
 cases f with
 |next=>
  obtain⟨σ9,H9,J9,q9⟩:=hs
  exact fin σ9 H9 J9 _ λs10 J10=>⟨_,_,J10,q9⟩
 |brk=>
  obtain⟨σ9,H9,J9,q9⟩:=hs
  exact fin σ9 H9 J9 _ λs10 J10=>⟨_,_,J10,q9⟩
 |cont=>
  obtain⟨σ9,H9,J9,q9⟩:=hs
  exact fin σ9 H9 J9 _ λs10 J10=>⟨_,_,J10,q9⟩
 |ret u=>
  obtain⟨v,σ9,H9,J9,r9,q9⟩:=hs
  exact fin σ9 H9 J9 _ λs10 J10=>⟨v,_,_,J10,r9,q9⟩
end
structure eU (K:PySem.W.Frag) (C:Addr):Prop where
 exc:PySem.W.excIn K C yQ "ValueError.__new__"=true
 ga:PySem.W.findIn K (.ref C) "__getattribute__"=some (some (.builtin "BaseException.__getattribute__"))
 gn:PySem.W.findIn K (.ref C) "__getattr__"=some none
 gc:PySem.W.findIn K (.ref C) "__class__"=some (some (.builtin "object.__class__"))
 sb:PySem.W.subIn K (.ref C) (.type "BaseException")=some true
 so:PySem.W.subIn K (.ref C) (.type "object")=some true
 cl:∃cd,PySem.W.clsIn K C=some cd
section
variable{prog:Program}{w:World}{A:Around}{E:Value->Shared->Prop}{h:Heap}{g:Array GenState}{d:Drawn}{t:Nat}{os:OsState}{a C:Addr}{o:Obj}{K:PySem.W.Frag}
theorem X2{R:Result->Shared->Prop}(X:K.In h)(Z:eU K C)(hx:h.get? a=some o)(hc:o.cls=.ref C)(hq:R (.ok (.ret (.ref C))) ⟨h,g,d,t,os⟩):
  codeAny (model prog w) A (.call (.builtin "getset_descriptor.__get__") ⟨[.builtin "object.__class__",.ref a,.ref C],[]⟩) R ⟨h,g,d,t,os⟩:=by
 have hT5:(⟨h,g,d,t,os⟩:Shared).TypeIs (.builtin "object.__class__") "getset_descriptor":=F.typeOf_object_class
 have Ls:PySem.W.Looks (model prog w) h (isSubtype (.ref C) (.type (".".intercalate ("object.__class__".cutAt '.').dropLast))) true:=by
  rw[F.owner_object_class];exact PySem.W.looks_subIn X Z.so
 refine codeAny_call_builtin F.slot_gs_get.plain F.entry_gs_get (F.slot_gs_get.check _ _ _ _ _ _ _ _ hT5 (F.args_gs_get _ _ _) ?_)
 repeat (any_goals (first|assumption|(with_reducible refine wpAny_loadPart_at hx ?_;rw[hc])|(with_reducible refine PySem.W.Looks.at Ls ?_)|wp_step))
 refine⟨Code.quiet_builtin _ (by decide +kernel),codeAny_builtin F.entry_object_class ?_⟩
 repeat (any_goals (first|assumption|(with_reducible refine wpAny_loadPart_at hx ?_;rw[hc])|wp_step))
theorem X3{tk:Tok}{Q:Fin->Shared->Prop}(X:K.In h)(Z:eU K C)(hx:h.get? a=some o)(hc:o.cls=.ref C)(hq:Q (.done (.ret (.ref C))) ⟨h,g,d,t,os⟩):
  wpAny (model prog w) A (Builtin.«object.__getattribute__» ⟨[.ref a,.str "__class__" tk],[]⟩) Q E ⟨h,g,d,t,os⟩:=by
 have hT5:(⟨h,g,d,t,os⟩:Shared).TypeIs (.builtin "object.__class__") "getset_descriptor":=F.typeOf_object_class
 have f5:=F.typeOf_object_class
 have f6:=F.slot_gs_get.lookup
 have f7:=F.slot_gs_set.lookup
 have Lc:PySem.W.Looks (model prog w) h (typeLookup (.ref C) "__class__") (some (.builtin "object.__class__")):=PySem.W.looks_findIn X Z.gc
 repeat (any_goals (first|assumption|(with_reducible refine wpAny_loadPart_at hx ?_;rw[hc])|(with_reducible refine PySem.W.Looks.at Lc ?_)|wp_step))
 refine X2 X Z hx hc ?_
 repeat (any_goals (first|assumption|wp_step))
theorem X8{M:Model}{nameV:Value}{Q:Unit->Shared->Prop}(X:K.In h)(Z:eU K C)(hx:h.get? a=some o)(hc:o.cls=.ref C)(hq:Q () ⟨h,g,d,t,os⟩):
  wpAny M A (checkBuiltinCall "BaseException.__getattribute__" ⟨[.ref a,nameV],[]⟩) Q E ⟨h,g,d,t,os⟩:=by
 have hk:builtinKind "BaseException.__getattribute__"=some .slot:=by decide +kernel
 have hsplit:splitId "BaseException.__getattribute__"=some ("BaseException","__getattribute__"):=by decide +kernel
 have ha:=F.args_bexc_ga (.ref a) nameV
 have Ls:PySem.W.Looks M h (isSubtype (.ref C) (.type "BaseException")) true:=PySem.W.looks_subIn X Z.sb
 simp only[checkBuiltinCall,hk,hsplit]
 refine wpAny_bind ?_
 unfold isInstance
 repeat (first|(with_reducible refine wpAny_loadPart_at hx ?_;rw[hc])|(with_reducible refine PySem.W.Looks.at Ls ?_)|wp_step)
 exact hq
theorem X4{tk:Tok}{R:Result->Shared->Prop}(X:K.In h)(Z:eU K C)(hx:h.get? a=some o)(hc:o.cls=.ref C)(hq:R (.ok (.ret (.ref C))) ⟨h,g,d,t,os⟩):
  codeAny (model prog w) A (.call (.builtin "BaseException.__getattribute__") ⟨[.ref a,.str "__class__" tk],[]⟩) R ⟨h,g,d,t,os⟩:=
 codeAny_call_builtin PySem.F.excAttr_ValueError.ga.plain F.entry_bexc_ga (X8 X Z hx hc (X3 X Z hx hc hq))
theorem X5{tk:Tok}{Q:Value->Shared->Prop}(X:K.In h)(Z:eU K C)(hx:h.get? a=some o)(hc:o.cls=.ref C)(hq:Q (.ref C) ⟨h,g,d,t,os⟩):
  wpAny (model prog w) A (getAttrBy (.ref a) (.str "__class__" tk) false) Q E ⟨h,g,d,t,os⟩:=by
 have f3:=PySem.F.excAttr_ValueError.ga.bind (.ref a)
 have hx2:(Value.builtin "BaseException.__getattribute__"==Value.builtin "object.__getattribute__")=false:=by decide +kernel
 have L1:PySem.W.Looks (model prog w) h (typeLookup (.ref C) "__getattribute__") (some (.builtin "BaseException.__getattribute__")):=PySem.W.looks_findIn X Z.ga
 have L2:PySem.W.Looks (model prog w) h (typeLookup (.ref C) "__getattr__") none:=PySem.W.looks_findIn X Z.gn
 have hx1:(onTheHeap (Value.ref C)&&Value.builtin "BaseException.__getattribute__"==Value.builtin "object.__getattribute__")=false:=by rw[hx2];rfl
 repeat (any_goals (first|assumption|(with_reducible refine wpAny_loadPart_at hx ?_;rw[hc])|(with_reducible refine PySem.W.Looks.at L1 ?_)|(with_reducible refine PySem.W.Looks.at L2 ?_)|wp_step))
 refine X4 X Z hx hc ?_
 repeat (any_goals (first|assumption|wp_step))
theorem X6{Q:Option Value->Shared->Prop}(X:K.In h)(Z:eU K C)(hx:h.get? a=some o)(hc:o.cls=.ref C)(hq:Q (some (.ref C)) ⟨h,g,d,t+1,os⟩):
  wpAny (model prog w) A (getAttr? (.ref a) "__class__") Q E ⟨h,g,d,t,os⟩:=by
 unfold getAttr? getAttrBy?
 repeat (any_goals (first|assumption|with_reducible apply X5 X Z hx hc|wp_step))
end
theorem GC{K:PySem.W.Frag}{e C:Addr}(Z:eU K C):PySem.W.KitX K (.ref e) (.ref C) (λh=>∃ob,h.get? e=some ob/\ob.cls=.ref C) where
 ty:=λ_ h _⟨ob,h1,h2⟩=>h2▸(PySem.W.Looks.ld h1).andThen .now
 it:=λ_ _ X _=>by
  obtain⟨_,z⟩:=Z.cl
  unfold PySem.W.clsIn at z
  split at z
  ·rename_i c' d' cd' sl' ho
   intro A' Q' E' s' k q
   unfold isType loadHead
   exact wpAny_bind (wpAny_loadPart (k _ _ (X _ _ ho)) (wpAny_pure q))
  ·cases z
 ne:=λh tp dd its n sl X htp=>by
  refine Bool.eq_false_iff.mpr λq=>?_
  have e:C=tp:=Value.ref.inj (beq_iff_eq.mp q)
  subst e
  obtain⟨_,z⟩:=Z.cl
  unfold PySem.W.clsIn at z
  split at z
  ·rename_i c' d' cd' sl' ho
   have z:=(X _ _ ho).symm.trans htp
   cases z
  ·cases z
 ca:=λ{_ _ _ _ _ s}X p k=>by
  obtain⟨hh,g,d,t,os⟩:=s
  obtain⟨ob,h1,h2⟩:=p
  exact X6 X Z h1 h2 k
theorem Y3:bootBuiltins "ValueError"=some (.type "ValueError"):=by decide +kernel
section
variable{X:Cx}
noncomputable def oR(K:PySem.W.Frag):List V->Hp->VK->Prop:=λxs H Q=>∃e C b,H e=some (lB e C)/\eU K C/\((∃D,xs=[.ref e,.ref D]/\PySem.W.kitOne K (.ref C) (.ref D)=some b)\/∃T,xs=[.ref e,.ty T]/\PySem.W.kitOne K (.ref C) (.type T)=some b)/\Q (.bl b) H
theorem YL:CallR X (.builtin "isinstance") (oR X.K):=by
 intro pins s σ H xs us Q I r h
 obtain⟨e,C,b,he,Z,hk,q⟩:=h
 have ho:=I.hok e _ he
 obtain⟨⟨ob,h1,h2,_⟩,_⟩:=ho
 rcases hk with⟨D,rfl,hk⟩|⟨T,rfl,hk⟩
 ·obtain⟨u,v,rfl,rx,ry⟩:=Vals.two r
  cases(show u=Value.ref e from rx)
  cases(show v=Value.ref D from ry)
  exact PySem.W.kia_one (GC Z) I.kIn ⟨ob,h1,h2⟩ hk (λz=>nomatch z) λtk=>⟨.bl _,H,I.tok tk,rfl,q⟩
 ·obtain⟨u,v,rfl,rx,ry⟩:=Vals.two r
  cases(show u=Value.ref e from rx)
  cases(show v=Value.type T from ry)
  exact PySem.W.kia_one (GC Z) I.kIn ⟨ob,h1,h2⟩ hk (λz=>nomatch z) λtk=>⟨.bl _,H,I.tok tk,rfl,q⟩
theorem gW(K:PySem.W.Frag)(h:X.K=K:=by rfl):CallR X (.builtin "isinstance") (oR K):=h▸YL
theorem rB:∀{bs:List Bool}{us:List Value},Vals (bs.map V.bl) us->us=bs.map Value.bool
 |[],_,.nil=>rfl
 |b::bs,_,.cons r t=>by
  cases(show _=Value.bool b from r)
  rw[rB t]
  rfl
noncomputable def mP(b:Bool):Value->Bool
 | .bool a=>a==b
 |_=>false
noncomputable def EC:V->List V->Hp->VK->Prop:=λx vs H Q=>∃(l:Addr)(bs:List Bool)(b:Bool),x=.ref l/\vs=[.bl b]/\H l=some (.lst (bs.map V.bl))/\Q (.int (bs.countP (· ==b):Nat)) H
theorem SY:qR X "list.count" EC:=by
 intro pins s σ H x vs v us Q I rx rv h
 obtain⟨l,bs,b,rfl,rfl,hH,q⟩:=h
 cases(show v=Value.ref l from rx)
 obtain⟨u,rfl,ru⟩:=rv.one
 cases(show u=Value.bool b from ru)
 obtain⟨z,its,n,r,hl,e⟩:=I.lstM hH
 obtain rfl:=rB r
 refine call_meets F.slot_list_count ⟨_,e,rfl⟩ F.entry_list_count (F.args_list_count_2 _ _) (SeqAt.list_countAt l _ n none #[] (.bool b) (mP b)) ⟨e,λy hy=>?_,?_⟩
 ·have hy':y∈bs.map Value.bool:=by simpa using hy
  obtain⟨a,_,rfl⟩:=mem_map.mp hy'
  exact SeqAt.EqAt.bool_bool a b
 ·refine⟨.int _,H,I.tok _,⟨_,rfl⟩,?_⟩
  have:List.countP (mP b) (List.map Value.bool bs).toArray.toList=bs.countP (· ==b):=by
   rw[List.toList_toArray,List.countP_map]
   rfl
  rw[this]
  exact q
noncomputable def D8:V->List V->Hp->VK->Prop:=λx vs H Q=>∃(l:Addr)(bs:List Bool)(b:Bool)(j:Nat),x=.ref l/\vs=[.bl b]/\H l=some (.lst (bs.map V.bl))/\bs[j]? =some b/\(∀m,m<j->bs[m]? ≠some b)/\Q (.int (j:Nat)) H
theorem SX:qR X "list.index" D8:=by
 intro pins s σ H x vs v us Q I rx rv h
 obtain⟨l,bs,b,j,rfl,rfl,hH,hj,hno,q⟩:=h
 cases(show v=Value.ref l from rx)
 obtain⟨u,rfl,ru⟩:=rv.one
 cases(show u=Value.bool b from ru)
 obtain⟨z,its,n,r,hl,e⟩:=I.lstM hH
 obtain rfl:=rB r
 obtain⟨hlt,hb⟩:=List.getElem?_eq_some_iff.mp hj
 have zz:(bs.map V.bl).length<=sizeLine:=by simpa using z
 rw[length_map]at zz
 have hsm:(j:Int)<2^63-1:=by
  have:sizeLine<2^62:=by decide
  lia
 refine call_meets F.slot_list_index ⟨_,e,rfl⟩ F.entry_list_index (F.args_list_index_2 _ _) (SeqAt.list_indexAt l _ n none #[] (.bool b) (mP b) j (by simpa using hlt) hsm (by simp[mP,hb]) (λm hm hmj=>?_)) ⟨e,λy hy=>?_,?_⟩
 ·have hm':m<bs.length:=by simpa using hm
  have:=hno m hmj
  rw[List.getElem?_eq_getElem hm']at this
  have hne:bs[m]≠b:=λz=>this (by rw[z])
  simp[mP,hne]
 ·have hy':y∈bs.map Value.bool:=by simpa using hy
  obtain⟨a,_,rfl⟩:=mem_map.mp hy'
  exact SeqAt.EqAt.bool_bool a b
 ·exact⟨.int _,H,I.tok _,⟨_,rfl⟩,q⟩
end
theorem jD{K:PySem.W.Frag}{C D:Addr}{cd:ClassData}(h0:(Value.ref C==Value.ref D)=false)(h1:PySem.W.clsIn K D=some cd)(h2:PySem.W.typeIn K (.ref D)=some (.type "type"))(h3:PySem.W.subIn K (.ref C) (.ref D)=some false):PySem.W.kitOne K (.ref C) (.ref D)=some false:=by
 unfold PySem.W.kitOne PySem.W.kitCls
 rw[if_neg (by rw[h0];exact Bool.false_ne_true)]
 dsimp only
 rw[h1,h2]
 exact(if_pos rfl).trans h3
theorem U5{K:PySem.W.Frag}{C:Addr}:PySem.W.kitOne K (.ref C) (.ref C)=some true:=by
 unfold PySem.W.kitOne
 rw[if_pos (by simp)]
theorem U6{K:PySem.W.Frag}{C:Addr}(h3:PySem.W.subIn K (.ref C) (.type "ValueError")=some true):PySem.W.kitOne K (.ref C) (.type "ValueError")=some true:=by
 unfold PySem.W.kitOne PySem.W.kitCls
 rw[if_neg (by simp)]
 exact(if_pos (by decide +kernel)).trans h3
theorem W4{K:PySem.W.Frag}{C D:Addr}{cd:ClassData}(h0:PySem.W.subIn K (.ref D) (.type "BaseException")=some true)(h1:PySem.W.clsIn K D=some cd)(h2:PySem.W.typeIn K (.ref D)=some (.type "type"))(h3:PySem.W.subIn K (.ref C) (.ref D)=some true):PySem.W.exmOne K (.ref C) (.ref D)=some true:=by
 unfold PySem.W.exmOne PySem.W.kitCls
 rw[h0,if_pos (by rfl)]
 dsimp only
 rw[h1,h2]
 exact(if_pos rfl).trans h3
structure RoomH (k:Nat) (A:Around):Prop where
 dp:A.depth+3*k+5<recursionLimit
 un:A.units+16*k+200<cLine
theorem Room.mark{k:Nat}{A:Around}(r:Room k A)(v:Option Value):RoomH k (A.mark v):=⟨r.dp,r.un⟩
theorem RoomH.mono{j k:Nat}{A:Around}(r:RoomH k A)(h:j<=k):RoomH j A:=⟨by have:=r.dp;lia,by have:=r.un;lia⟩
theorem RoomH.deeper{k:Nat}{A:Around}(r:RoomH (k+1) A)(env:Env):RoomH k (A.deeper env):=⟨by have:=r.dp;show A.depth+1+3*k+5<_;lia,by have:=r.un;show A.units+3+16*k+200<_;lia⟩
theorem RoomH.units{k:Nat}{A:Around}(r:RoomH k A):A.units+64<cLine:=by have:=r.un;lia
theorem RoomH.units0{k:Nat}{A:Around}(r:RoomH k A):A.units<cLine:=by have:=r.un;lia
structure z9 (P:Program) (w:World) (K:PySem.W.Frag) (mg:Str->Option Value) (base:Heap) (k:Nat) (f:Addr) (fd:FuncData) (ps:List Str) (sp:Sp):Prop where
 len:∀vs H Q E,sp vs H Q E->vs.length=ps.length
 run:∀(A:Around)(outer:List Env)(s:Shared)(H:Hp)(args:Args)(us:List Value)(vs:List V)(Q:VK),RoomH k A->Env0 P w K mg base A outer s H->BindsTo s fd args (ps.zip us)->Vals vs us->sp vs H Q E0->
  codeAny (model P w) A (.call (.ref f) args) (CR aU outer P w H s Q E0) s
noncomputable abbrev yK(P:Program)(w:World)(K:PySem.W.Frag)(mg:Str->Option Value)(base:Heap)(N:List Str)(qual:Str)(scope:Scope)(f:Addr)(cd:Value)(A:Around)(outer:List Env)(s:Shared)(H:Hp):Cx:=
 { cO aU P w K mg base N qual scope f cd A outer s H E0 with calm:=false,xe:=λ_ _=>False }
section
variable{P:Program}{w:World}{K:PySem.W.Frag}{mg:Str->Option Value}{base:Heap}
theorem Fun.okH{x qual:Str}{st:Stmt}{f:Addr}{fd:FuncData}{N ps:List Str}{k:Nat}{sp:Sp}(F:Fun K x qual st f fd)(S:aW N ps (aL st))(len:∀vs H Q E,sp vs H Q E->vs.length=ps.length)
  (hbody:∀(cdv:Value)(A:Around)(outer:List Env)(s:Shared)(H:Hp)(vs:List V)(Q:VK),RoomH k (A.deeper (envOfC qual (aL st) s.heap.objs.size f cdv))->sp vs H Q E0->
   ∃t,PSs (yK P w K mg base N qual (aL st) f cdv A outer s H) (iQ st) t/\t { nx:=λ_ H'=>Q .non H',rt:=Q } (start N vs) H):z9 P w K mg base (k+1) f fd ps sp:=by
 obtain⟨oc,od,kV,doc,pm,an,cdv,ct,osl,rfl,lk,hcd⟩:=F.ex
 refine⟨len,λA outer s H args us vs Q hr e0 hb r hsp=>?_⟩
 have hl:=len _ _ _ _ hsp
 have KX:K.In s.heap:=e0.mod.kin.keeps λb o e=>(e0.bs b o e).1
 have lim:s.heap.NoLimit:=e0.mod.nolimit.keeps λb o e=>(e0.bs b o e).1
 have hkind:∀y∈ps.zip us,(aL st).names.lookup y.1=some .local\/((aL st).names.lookup y.1=some .cell/\((cellsFrom (s.heap.objs.size+1) (aL st).names []).lookup y.1).isSome=true):=λ⟨n,v⟩hy=>by
  rcases S.par n (of_mem_zip hy).1 with q|q
  ·exact .inl q
  ·exact .inr ⟨q,PySem.W.cellsFrom_some _ _ _ (.inl q)⟩
 refine codeAny_call_function (by have:=hr.dp;lia) (KX _ _ lk) rfl S.co S.gen rfl (PySem.W.codeRec_of KX hcd) (hb _ _ _ _ ?_)
 refine wpAny_newFunctionEnv_cells S.kind hkind λenv he s1 x=>?_
 subst he
 refine⟨lim.keeps x.toInCall.keep,codeAny_func ?_⟩
 obtain⟨t,ht,hq⟩:=hbody cdv A outer s H vs Q (hr.deeper _) hsp
 have e0':Env0 P w K mg base { A with handled:=none } outer s H:=⟨e0.frames,e0.mod,e0.bs,e0.bsz,e0.funs,e0.frf,e0.hok,e0.bare⟩
 have I0:Inv (cO aU P w K mg base N qual (aL st) f cdv { A with handled:=none } outer s H E0) [] (start N vs) H s1:=GM S rfl e0' hl r x
 have I:Inv (yK P w K mg base N qual (aL st) f cdv A outer s H) [] (start N vs) H s1:=
  ⟨⟨I0.ok.mod,I0.ok.kind,I0.ok.glob,I0.ok.blt,I0.ok.above,I0.ok.inj,I0.ok.has,I0.ok.cab,(λz=>absurd z Bool.false_ne_true),Around.frames_deeper e0.frames,I0.ok.stk,I0.ok.exf,I0.ok.bs,I0.ok.bsz,I0.ok.noex,I0.ok.exfs,I0.ok.funs,I0.ok.frf⟩,I0.os,I0.bare,I0.base,I0.loc,I0.cell,I0.free,I0.freeC,I0.pin,I0.hok,I0.len⟩
 refine wpAny_mono (ht [] s1 (start N vs) H _ I hq) (λfl s' hs=>?_) λe s' hs=>False.elim hs
 have fin:∀{σ':St}{H':Hp}{v:V}{u:Value},Inv (yK P w K mg base N qual (aL st) f cdv A outer s H) [] σ' H' s'->RelV v u->Q v H'->CE outer P w H s Q u s':=
  λ{σ' H' v u}J rv q=>⟨v,H',J.os,J.bare,J.base,J.hok,rv,q⟩
 cases fl with
 |ret u=>
  obtain⟨v,σ',H',J,rv,q⟩:=hs
  exact fin J rv q
 |next=>
  obtain⟨σ',H',J,q⟩:=hs
  exact fin (v:=V.non) (u:=Value.none) J rfl q
 |brk=>
  obtain⟨_,_,_,q⟩:=hs
  exact False.elim q
 |cont=>
  obtain⟨_,_,_,q⟩:=hs
  exact False.elim q
end
section
variable{X:Cx}{k:Nat}{f:Addr}{fd:FuncData}{ps:List Str}{sp:Sp}{x:Str}{p pos:Pos}{e:Expr}{es:List Expr}{t:TA}
theorem QX(F:z9 X.prog X.w X.K X.mg X.base k f fd ps sp)(hr:RoomH k X.A)(hg:Gl X x)(hm:X.mg x=some (.ref f))(hk:PySem.W.keepIn X.K (.ref f)=true)(hb:Binds X.K fd ps [])
  (ha:PA X (e::es) t) (hdb:(x==("__debug__":Str))=false:=by decide) (he:starEach (e::es) X.env=(false,eval e X.env)::starEach es X.env:=by rfl) (hpl:(backTo pos (starEach es X.env)).any (·.1)=false:=by rfl):
  PE X (.Call (.Name x p) (e::es) [] pos) (rQ sp [] E0 t):=by
 intro pins s σ H Q I h
 refine wpAny_Call_Name_kw (kR I hg hm ?_ hdb)
 refine PySem.W.callWith_K (h₀:=X.base) I.ok.mod.kin hk (aH (ha pos pins s σ H _ I h) λus s1⟨vs,H1,I1,r,q⟩=>⟨I1.kIn,?_⟩) he hpl
 have q':sp vs H1 Q E0:=by simpa using q
 have hl:us.length=ps.length:=by rw[<-r.length];exact F.len _ _ _ _ q'
 have hb':=hb s1 us I1.kIn (by simpa using hl)
 rw[append_nil]at hb'
 refine wpAny_call (codeAny_mono (F.run X.A X.stack s1 H1 ⟨us,[]⟩ us vs Q hr I1.env0 hb' r q') λr s' hq=>?_)
 cases r with
 |error e=>exact hq.elim
 |ok fl=>
  cases fl with
  |ret u=>exact I1.after hq
  |next=>exact False.elim hq
  |brk=>exact False.elim hq
  |cont=>exact False.elim hq
end
section
variable{σ:St}{H:Hp}{Q:VK}{D:dN}{K:PySem.W.Frag}
theorem iA{e C D:Addr}{b:Bool}(he:H e=some (lB e C))(Z:eU K C)(hk:PySem.W.kitOne K (.ref C) (.ref D)=some b)(h:Q (.bl b) H):oR K [.ref e,.ref D] H Q:=⟨e,C,b,he,Z,.inl ⟨D,rfl,hk⟩,h⟩
theorem OR{e C:Addr}{T:String}{b:Bool}(he:H e=some (lB e C))(Z:eU K C)(hk:PySem.W.kitOne K (.ref C) (.type T)=some b)(h:Q (.bl b) H):oR K [.ref e,.ty T] H Q:=⟨e,C,b,he,Z,.inr ⟨T,rfl,hk⟩,h⟩
theorem O9{l:Addr}{bs:List Bool}{b:Bool}(hl:H l=some (.lst (bs.map V.bl)))(h:Q (.int (bs.countP (· ==b):Nat)) H):EC (.ref l) [.bl b] H Q:=⟨l,bs,b,rfl,rfl,hl,h⟩
theorem OZ{l:Addr}{bs:List Bool}{b:Bool}{j:Nat}(hl:H l=some (.lst (bs.map V.bl)))(hj:bs[j]? =some b)(hno:∀m,m<j->bs[m]? ≠some b)(h:Q (.int (j:Nat)) H):D8 (.ref l) [.bl b] H Q:=⟨l,bs,b,j,rfl,rfl,hl,hj,hno,h⟩
theorem NS{E:XK}{C:Addr}{t:TA}(h:t σ H λvs H1=>vs.length<=sizeLine/\E (.ref C) none H1):BA E C t D σ H:=h
end
noncomputable def Fresh(H H':Hp)(v:V)(d:PyData):Prop:=∀H2:Hp,(∀a u,H a=none->H' a=some u->H2 a=some u)->Is H2 v d
inductive FreshAll (H H':Hp):List V->List PyData->Prop
 |nil:FreshAll H H' [] []
 |cons {v:V} {d:PyData} {vs:List V} {ds:List PyData}:Fresh H H' v d->FreshAll H H' vs ds->FreshAll H H' (v::vs) (d::ds)
theorem Fresh.mono{H H1 H2 H3:Hp}{v:V}{d:PyData}(s1:Same H H1)(s2:Same H2 H3)(h:Fresh H1 H2 v d):Fresh H H3 v d:=λK k=>h K λa u n e=>k a u (by
 cases q:H a with
 |none=>rfl
 |some w=>rw[s1 _ _ q]at n;cases n) (s2 _ _ e)
theorem FreshAll.mono{H H1 H2 H3:Hp}(s1:Same H H1)(s2:Same H2 H3):∀{vs:List V}{ds:List PyData},FreshAll H1 H2 vs ds->FreshAll H H3 vs ds
 |_,_,.nil=>.nil
 |_,_,.cons h t=>.cons (h.mono s1 s2) (t.mono s1 s2)
theorem FreshAll.length{H H':Hp}:∀{vs:List V}{ds:List PyData},FreshAll H H' vs ds->vs.length=ds.length
 |_,_,.nil=>rfl
 |_,_,.cons _ t=>by rw[length_cons,length_cons,t.length]
theorem FreshAll.is{H H' H2:Hp}(k:∀a u,H a=none->H' a=some u->H2 a=some u):∀{vs:List V}{ds:List PyData},FreshAll H H' vs ds->IsAll H2 vs ds
 |_,_,.nil=>.nil
 |_,_,.cons h t=>.cons (h H2 k) (t.is k)
theorem FreshAll.mem{H H':Hp}:∀{vs:List V}{ds:List PyData}{v:V},FreshAll H H' vs ds->v∈vs->∃d∈ds,Fresh H H' v d
 |_,_,_,.nil,h=>nomatch h
 | _,_,_,.cons h t,hv=>by
  rcases mem_cons.mp hv with rfl|hv
  ·exact⟨_,mem_cons_self,h⟩
  ·obtain⟨d,hd,f⟩:=t.mem hv
   exact⟨d,mem_cons_of_mem _ hd,f⟩
noncomputable def iX(d:PyData):TE:=λ_ H Q=>∀v H',Same H H'->Fresh H H' v d->Q v H'
noncomputable def j9(ds:List PyData):TA:=λ_ H P=>∀vs H',Same H H'->FreshAll H H' vs ds->P vs H'
section
variable{X:Cx}{e:Expr}{es:List Expr}{pos:Pos}{d:PyData}{ds:List PyData}
theorem PE.imp{t t':TE}(h:PE X e t)(k:∀σ H Q,t' σ H Q->t σ H Q):PE X e t':=λpins s σ H Q I q=>h pins s σ H Q I (k σ H Q q)
theorem PA.imp{t t':TA}(h:PA X es t)(k:∀σ H Q,t' σ H Q->t σ H Q):PA X es t':=λpos pins s σ H Q I q=>h pos pins s σ H Q I (k σ H Q q)
theorem QI{i:Int}{j}:PE X (.Constant (.int i) j pos) (iX (.int i)):=pe_int.imp λ_ H Q q=>q _ H (Same.refl H) λ_ _=>.int i
theorem QJ{b:Bool}{j}:PE X (.Constant (.bool b) j pos) (iX (.bool b)):=pe_bl.imp λ_ H Q q=>q _ H (Same.refl H) λ_ _=>.bl b
theorem QF{j}:PE X (.Constant .none j pos) (iX .none):=pe_non.imp λ_ H Q q=>q _ H (Same.refl H) λ_ _=>.non
theorem QE{x:Str}{j}:PE X (.Constant (.str x) j pos) (iX (.str x)):=pe_str.imp λ_ H Q q=>q _ H (Same.refl H) λ_ _=>.str x
theorem QG{i:Int}{j p2}:PE X (.UnaryOp .USub (.Constant (.int i) j p2) pos) (iX (.int (-i))):=(EQ AW pe_int).imp λ_ H Q q=>⟨i,rfl,q _ H (Same.refl H) λ_ _=>.int (-i)⟩
theorem QB:PA X [] (j9 []):=pa_nil.imp λ_ H P q=>q [] H (Same.refl H) .nil
theorem jQ(ha:PE X e (iX d))(hr:PA X es (j9 ds))(hs:starEach (e::es) X.env=(false,eval e X.env)::starEach es X.env:=by rfl):PA X (e::es) (j9 (d::ds)):=
 (aA ha hr hs).imp λ_ H P q v H1 s1 f1 vs H2 s2 f2=>q (v::vs) H2 (s1.trans s2) (.cons (f1.mono (Same.refl _) s2) (f2.mono s1 (Same.refl _)))
theorem QD{x1}(h:PA X es (j9 ds))(hz:ds.length<=sizeLine:=by decide):PE X (.Tuple es x1 pos) (iX (.tuple ds)):=
 (bI h).imp λ_ H Q q vs H1 s1 f1=>⟨by rw[f1.length];exact hz,λp hp=>q _ _ (s1.trans (Same.upd hp)) λH2 k=>.tup (k p _ (by
  cases e:H p with
  |none=>rfl
  |some u=>rw[s1 _ _ e]at hp;cases hp) aC) (f1.is λa u n e=>k a u n (by rw[aE (aS e hp)];exact e))⟩
theorem QH(h:PA X es (j9 ds))(hz:ds.length<=sizeLine:=by decide):PE X (.List es pos) (iX (.list ds)):=
 (cT h).imp λ_ H Q q vs H1 s1 f1=>⟨by rw[f1.length];exact hz,λp hp=>q _ _ (s1.trans (Same.upd hp)) λH2 k=>.lst (Rd.of (k p _ (by
  cases e:H p with
  |none=>rfl
  |some u=>rw[s1 _ _ e]at hp;cases hp) aC)) (f1.is λa u n e=>k a u n (by rw[aE (aS e hp)];exact e))⟩
end
inductive CallL (X:Cx) (E:XK):List (Addr×Sp)->Prop
 |nil:CallL X E []
 |cons {CX:cX} {k:Nat} {f:Addr} {fd:FuncData} {ps:List Str} {sp:Sp} {l:List (Addr×Sp)} (F:FnOk X.prog X.w X.K X.mg X.base CX k f fd ps sp) (hr:Room k X.A) (hk:PySem.W.keepIn X.K (.ref f)=true) (hb:Binds X.K fd ps []) (hx:j3 CX X E) (r:CallL X E l):CallL X E ((f,sp)::l)
noncomputable def BO(l:List (Addr×Sp))(E:XK)(tf:TE)(t:TA):TE:=λσ H Q=>tf σ H λv H1=>∃(i:Nat)(f:Addr)(sp:Sp),l[i]? =some (f,sp)/\v=.ref f/\t σ H1 λvs H2=>sp vs H2 Q E
theorem CallL.get{X:Cx}{E:XK}:∀{l:List (Addr×Sp)}{i:Nat}{f:Addr}{sp:Sp},CallL X E l->l[i]? =some (f,sp)->∃(CX:cX)(k:Nat)(fd:FuncData)(ps:List Str),FnOk X.prog X.w X.K X.mg X.base CX k f fd ps sp/\Room k X.A/\PySem.W.keepIn X.K (.ref f)=true/\Binds X.K fd ps []/\j3 CX X E
 |_,_,_,_,.nil,e=>by simp at e
 |_,0,_,_,.cons F hr hk hb hx r,e=>by simp at e;obtain⟨rfl,rfl⟩:=e;exact⟨_,_,_,_,F,hr,hk,hb,hx⟩
 |_,i+1,_,_,.cons F hr hk hb hx r,e=>r.get (i:=i) (by simpa using e)
theorem Z6(a b:Expr)(p:Pos)(args:List Expr)(keywords:List Keyword)(pos:Pos)(env:Env):eval (.Call (.Subscript a b p) args keywords pos) env=(do
  callWith pos (<-eval (.Subscript a b p) env) [] (backTo pos (starEach args env)) (backToKw pos (keywordEach keywords env))):=rfl
theorem QW{X:Cx}{E:XK}{l:List (Addr×Sp)}{a b e:Expr}{es:List Expr}{p pos:Pos}{tf:TE}{t:TA}(L:CallL X E l)(hf:PE X (.Subscript a b p) tf)(ha:PA X (e::es) t)
  (he:starEach (e::es) X.env=(false,eval e X.env)::starEach es X.env:=by rfl) (hpl:(backTo pos (starEach es X.env)).any (·.1)=false:=by rfl):
  PE X (.Call (.Subscript a b p) (e::es) [] pos) (BO l E tf t):=by
 intro pins s σ H Q I h
 rw[Z6]
 refine wpAny_bind (aH (hf pins s σ H _ I h) λu s1⟨v,H1,I1,rv,i,f,sp,hl,ev,q⟩=>?_)
 subst ev
 cases(show u=Value.ref f from rv)
 obtain⟨CX,k,fd,ps,F,hr,hk,hb,hx⟩:=L.get hl
 refine PySem.W.callWith_K (h₀:=X.base) I.ok.mod.kin hk (aH (ha pos pins s1 σ H1 _ I1 q) λus s2⟨vs,H2,I2,r,q2⟩=>⟨I2.kIn,?_⟩) he hpl
 exact C6 (dvs:=[]) F hr hb .nil hx I2 r (by rw[append_nil];exact q2)
theorem PH{l:List (Addr×Sp)}{E:XK}{tf:TE}{t:TA}{σ:St}{H:Hp}{Q:VK}(h:tf σ H λv H1=>∃(i:Nat)(f:Addr)(sp:Sp),l[i]? =some (f,sp)/\v=.ref f/\t σ H1 λvs H2=>sp vs H2 Q E):BO l E tf t σ H Q:=h
section
variable{prog:Program}{w:World}{A:Around}{E:Value->Shared->Prop}{s:Shared}
theorem L3{h:Heap}{vs:List Value}{out:Array Value}{b:Addr}{o:Obj}(e:h.get? b=some o):(sortedAll h vs out).get? b=some o:=by
 have hlt:b<h.objs.size:=Heap.lt_size e
 have hsz:((h.push (seqObj "list" #[] 0)).update h.objs.size (Obj.mapSeq (· ++vs.toArray))).objs.size=h.objs.size+1:=by rw[Heap.size_update,size_push']
 have k1:(((h.push (seqObj "list" #[] 0)).update h.objs.size (Obj.mapSeq (· ++vs.toArray))).push (seqObj "list" vs.toArray 0)).get? b=some o:=by
  rw[Heap.get?_push_ne _ _ _ (by rw[hsz];exact Nat.ne_of_lt (Nat.lt_succ_of_lt hlt)),Heap.get?_update_ne _ _ _ _ (Nat.ne_of_lt hlt),Heap.get?_push_ne _ _ _ (Nat.ne_of_lt hlt)]
  exact e
 have hlt2:=Heap.lt_size k1
 unfold sortedAll sortedHeap
 rw[Heap.get?_update_ne _ _ _ _ (Nat.ne_of_lt (Nat.lt_succ_of_lt hlt)),Heap.get?_push_ne _ _ _ (by rw[size_push',Heap.size_update];exact Nat.ne_of_lt (Nat.lt_succ_of_lt hlt2)),Heap.get?_push_ne _ _ _ (by rw[Heap.size_update];exact Nat.ne_of_lt hlt2),Heap.get?_update_ne _ _ _ _ (Nat.ne_of_lt (Nat.lt_succ_of_lt hlt))]
 exact k1
theorem L0{h:Heap}{vs:List Value}{out:Array Value}:∃n,(sortedAll h vs out).get? (h.objs.size+1)=some (seqObj "list" out n):=by
 have hsz:((h.push (seqObj "list" #[] 0)).update h.objs.size (Obj.mapSeq (· ++vs.toArray))).objs.size=h.objs.size+1:=by rw[Heap.size_update,size_push']
 have k1:(((h.push (seqObj "list" #[] 0)).update h.objs.size (Obj.mapSeq (· ++vs.toArray))).push (seqObj "list" vs.toArray 0)).get? (h.objs.size+1)=some (seqObj "list" vs.toArray 0):=by
  rw[<-hsz];exact Heap.get?_push_size _ rfl
 have hlt2:=Heap.lt_size k1
 unfold sortedAll sortedHeap
 generalize ((h.push (seqObj "list" #[] 0)).update h.objs.size (Obj.mapSeq (· ++vs.toArray))).push (seqObj "list" vs.toArray 0)=G at k1 hlt2
 obtain⟨e1,ho1⟩:∃e1,(G.update (h.objs.size+1) (Obj.mapSeq λ_=>(#[]:Array Value))).get? (h.objs.size+1)=some (seqObj "list" #[] e1):=⟨_,get?_update_seq k1 (λ_=>#[])⟩
 have ho6:(((G.update (h.objs.size+1) (Obj.mapSeq λ_=>(#[]:Array Value))).push (seqObj "tuple" vs.toArray 0)).push (seqObj "list" #[] 0)).get? (h.objs.size+1)=some (seqObj "list" #[] e1):=by
  rw[Heap.get?_push_ne _ _ _ (by rw[size_push',Heap.size_update];exact Nat.ne_of_lt (Nat.lt_succ_of_lt hlt2)),Heap.get?_push_ne _ _ _ (by rw[Heap.size_update];exact Nat.ne_of_lt hlt2)]
  exact ho1
 exact⟨_,get?_update_seq ho6 λ_=>out⟩
theorem LW{l:Addr}{vs:List Value}{ns:List Int}{Q:Value->Shared->Prop}(hl:Col prog w s l vs)(hI:IntsAre vs ns)(h64:vs.length<64)
  (h:∀(out:Array Value)(ns':List Int),IntsAre out.toList ns'->ns'.Perm ns->ns'.Pairwise (· <= ·)->Q (.ref (s.heap.objs.size+1)) { s with heap:=sortedAll s.heap vs out }):
  wpAny (model prog w) A (call (.builtin "sorted") [.ref l]) Q E s:=by
 have hsl:vs.length<=sizeLine:=by rw[sizeLine_eq];lia
 refine Calls.call_function_entry kind_sorted plain_sorted entry_sorted (args_sorted1 _) ?_
 unfold Builtin.«sorted»
 refine wpAny_bind (m:=checkCount "sorted" 1 1 _) (wpAny_pure ?_)
 refine wpAny_bind (hl _ _ _ ?_)
 refine wpAny_bind (wpAny_newList ?_ hsl)
 have hsz:((s.heap.push (seqObj "list" #[] 0)).update s.heap.objs.size (Obj.mapSeq (· ++vs.toArray))).objs.size=s.heap.objs.size+1:=by rw[Heap.size_update,size_push']
 have k1:(((s.heap.push (seqObj "list" #[] 0)).update s.heap.objs.size (Obj.mapSeq (· ++vs.toArray))).push (seqObj "list" vs.toArray 0)).get? (s.heap.objs.size+1)=some (seqObj "list" vs.toArray 0):=by
  rw[<-hsz];exact Heap.get?_push_size _ rfl
 show wpAny _ _ _ _ _ { s with heap:=((s.heap.push (seqObj "list" #[] 0)).update s.heap.objs.size (Obj.mapSeq (· ++vs.toArray))).push (seqObj "list" vs.toArray 0) }
 rw[hsz]
 refine wpAny_bind (wpAny_holding (wpAny_call_entry slot_list_sort ⟨_,k1,rfl⟩ entry_list_sort (list_sort_tree k1 hI h64 λout ns' a1 a2 a3=>⟨_,rfl,?_⟩) (args_list_sort _)))
 exact wpAny_pure ⟨_,rfl,h out ns' a1 a2 a3⟩
end
theorem AU{us:List Value}{ns:List Int}(h:IntsAre us ns):Vals (ns.map V.int) us:=by
 induction h with
 |nil=>exact .nil
 |cons _ _ _ ih=>exact .cons ⟨_,rfl⟩ ih
section
variable{X:Cx}
noncomputable def uH(K:PySem.W.Frag):List V->Hp->VK->Prop:=λxs H Q=>∃(p:Addr)(ns:List Int),xs=[.ref p]/\(SqL K H p (ns.map V.int)\/SqT K H p (ns.map V.int))/\ns.length<64/\
 ∀(l:Addr)(ns':List Int),H l=none->ns'.Perm ns->ns'.Pairwise (· <= ·)->Q (.ref l) (upd H l (.lst (ns'.map V.int)))
theorem YB:CallR X (.builtin "sorted") (uH X.K):=by
 intro pins s σ H xs us Q I r h
 obtain⟨p,ns,rfl,hq,h64,q⟩:=h
 obtain⟨u,rfl,rx⟩:=Vals.one r
 cases(show u=Value.ref p from rx)
 obtain⟨its,rv,hl,hz⟩:∃its,Vals (ns.map V.int) its/\Col X.prog X.w s p its/\(ns.map V.int).length<=sizeLine:=by
  rcases hq with hq|hq
  ·obtain⟨its,rv,pl,hz⟩:=I.list hq
   exact⟨its,rv,Col.list pl.isList (by rw[<-rv.length];exact hz),hz⟩
  ·obtain⟨its,rv,pl,hz⟩:=I.tuple hq
   exact⟨its,rv,Col.tup pl (by rw[<-rv.length];exact hz),hz⟩
 have e1:its.length=ns.length:=by rw[<-rv.length,length_map]
 refine LW hl (intsAre_of rv) (by lia) λout ns' a1 a2 a3=>?_
 obtain⟨n,hn⟩:=L0 (h:=s.heap) (vs:=its) (out:=out)
 have hv:=AU a1
 refine⟨.ref (s.heap.objs.size+1),_,I.laid (t':=s.toks) (o:=.lst (ns'.map V.int)) (λb o e=>L3 e) (Nat.le_succ _) ⟨?_,out.toList,n,hv,by simpa using hn⟩,rfl,q _ ns' (I.hok.fresh (Nat.le_succ _)) a2 a3⟩
 rw[length_map,a2.length_eq,<-length_map (f:=V.int)]
 exact hz
theorem GD(K:PySem.W.Frag)(h:X.K=K:=by rfl):CallR X (.builtin "sorted") (uH K):=h▸YB
noncomputable def D3:List V->Hp->VK->Prop:=λxs H Q=>∃j:Int,xs=[.int j]/\∀p,H p=none->Q (.ref p) (upd H p (.rng 0 j))
theorem YE:CallR X (.type "range") D3:=by
 intro pins s σ H xs us Q I r h
 obtain⟨j,rfl,q⟩:=h
 obtain⟨u,rfl,rx⟩:=Vals.one r
 obtain⟨t,rfl⟩:=rx
 refine call_range_1 ⟨.ref s.heap.objs.size,_,I.laid (o:=.rng 0 j) (λb o e=>Heap.get?_push_of_some _ e) (Nat.le_refl _) ⟨_,_,_,Heap.get?_push_size _ rfl⟩,rfl,q _ (I.hok.fresh (Nat.le_refl _))⟩
noncomputable def upTo(n:Nat):List Int:=(range n).map λ(i:Nat)=>(i:Int)
theorem n6(n:Nat):(upTo n).length=n:=by unfold upTo;simp
theorem V7{acc:Array Value}{n:Nat}(h:ItemsOf (λi v=>∃t,v=.int (0+(i:Int)*1) t) acc n):Vals ((upTo n).map V.int) acc.toList:=by
 obtain⟨hs,hv⟩:=h
 have key:∀(l:List Value)(k:Nat),(∀j v,l[j]? =some v->∃t,v=Value.int (((k+j:Nat)):Int) t)->Vals (((List.range' k l.length).map λ(i:Nat)=>(i:Int)).map V.int) l:=λl=>by
  induction l with
  |nil=>intro k _;exact .nil
  |cons x l ih=>
   intro k hk
   rw[length_cons,List.range'_succ,map_cons,map_cons]
   obtain⟨t,rfl⟩:=hk 0 x rfl
   refine .cons ⟨t,rfl⟩ (ih (k+1) λj v e=>?_)
   obtain⟨t,rfl⟩:=hk (j+1) v (by simpa using e)
   exact⟨t,by rw[show k+1+j=k+(j+1) by lia]⟩
 have:=key acc.toList 0 λj v e=>by
  obtain⟨t,rfl⟩:=hv j v (by simpa using e)
  exact⟨t,by simp⟩
 rw[Array.length_toList,hs,<-List.range_eq_range']at this
 exact this
noncomputable def D5:List V->Hp->VK->Prop:=λxs H Q=>∃(p:Addr)(n:Nat),xs=[.ref p]/\H p=some (.rng 0 n)/\n<=1000/\∀l,H l=none->Q (.ref l) (upd H l (.lst ((upTo n).map V.int)))
theorem YH(hc:X.calm=true):CallR X (.type "list") D5:=by
 intro pins s σ H xs us Q I r h
 obtain⟨p,n,rfl,hp,hn,q⟩:=h
 obtain⟨u,rfl,rx⟩:=Vals.one r
 cases(show u=Value.ref p from rx)
 obtain⟨t,u,v,ho⟩:=I.hok p _ hp
 refine call_list_range (I.ok.hd hc) ho (small_one (by lia) (by lia) (by lia) (by lia)) (n:=n) (by rw[rangeSize_one];split <;> lia) (by lia) λh' tk acc c hk hS hacc=>?_
 have hv:=V7 hacc
 refine⟨.ref s.heap.objs.size,_,I.laid (t':=tk) (o:=.lst ((upTo n).map V.int)) hk (Nat.le_refl _) ⟨?_,acc.toList,c,hv,by simpa using hS⟩,rfl,q _ (I.hok.fresh (Nat.le_refl _))⟩
 rw[length_map,n6]
 exact Nat.le_of_lt (gJ hn)
end
end L2
namespace L2
open PySem PySem.Spec PyProof.Rows
open AutoSeq1 (wpAny_loadPart')
section
variable{prog:Program}{w:World}{A:Around}{E:Value->Shared->Prop}{s:Shared}
end
section
variable{X:Cx}
end
section
variable{σ:St}{H:Hp}{Q:VK}{K:PySem.W.Frag}
theorem OE{j:Int}(h:∀p,H p=none->Q (.ref p) (upd H p (.rng 0 j))):D3 [.int j] H Q:=⟨j,rfl,h⟩
theorem OL{p:Addr}{n:Nat}(e:H p=some (.rng 0 n))(hn:n<=1000)(h:∀l,H l=none->Q (.ref l) (upd H l (.lst ((upTo n).map V.int)))):D5 [.ref p] H Q:=⟨p,n,rfl,e,hn,h⟩
end
end L2
namespace L2
open PySem PySem.Spec PyProof.Rows
section
variable{K:PySem.W.Frag}{σ:St}{H:Hp}{Q:VK}
theorem DO{p:Addr}{ns:List Int}(e:H p=some (.tup (ns.map V.int))\/H p=some (.lst (ns.map V.int)))(h64:ns.length<64)(h:∀(l:Addr)(ns':List Int),H l=none->ns'.Perm ns->ns'.Pairwise (· <= ·)->Q (.ref l) (upd H l (.lst (ns'.map V.int)))):uH K [.ref p] H Q:=
 ⟨p,ns,rfl,e.symm.imp SqL.of SqT.of,h64,h⟩
theorem FreshAll.append{H H':Hp}:∀{vs:List V}{ds:List PyData}{ws:List V}{es:List PyData},FreshAll H H' vs ds->FreshAll H H' ws es->FreshAll H H' (vs++ws) (ds++es)
 |_,_,_,_,.nil,h=>h
 |_,_,_,_,.cons a t,h=>.cons a (t.append h)
theorem mem_upTo{n:Nat}{i:Int}:i∈upTo n<->0<=i/\i<n:=by
 unfold upTo
 rw[mem_map]
 constructor
 ·rintro⟨k,hk,rfl⟩
  have:=mem_range.mp hk
  lia
 ·intro h
  exact⟨i.toNat,mem_range.mpr (by lia),by lia⟩
end
inductive Lit:List Expr->List PyData->Prop
 |nil:Lit [] []
 |int {i:Int} {j p es ds}:Lit es ds->Lit (.Constant (.int i) j p::es) (.int i::ds)
 |bl {b:Bool} {j p es ds}:Lit es ds->Lit (.Constant (.bool b) j p::es) (.bool b::ds)
 |non {j p es ds}:Lit es ds->Lit (.Constant .none j p::es) (.none::ds)
 |str {x:Str} {j p es ds}:Lit es ds->Lit (.Constant (.str x) j p::es) (.str x::ds)
 |neg {i:Int} {j p p2 es ds}:Lit es ds->Lit (.UnaryOp .USub (.Constant (.int i) j p2) p::es) (.int (-i)::ds)
 |tup {es' ds' x p es ds}:Lit es' ds'->ds'.length<=100->Lit es ds->Lit (.Tuple es' x p::es) (.tuple ds'::ds)
 |lst {es' ds' p es ds}:Lit es' ds'->ds'.length<=100->Lit es ds->Lit (.List es' p::es) (.list ds'::ds)
theorem Lit.pa{X:Cx}{es:List Expr}{ds:List PyData}(h:Lit es ds):PA X es (j9 ds):=by
 have hz:100<=sizeLine:=by decide
 induction h with
 |nil=>exact QB
 |int _ ih=>exact jQ QI ih
 |bl _ ih=>exact jQ QJ ih
 |non _ ih=>exact jQ QF ih
 |str _ ih=>exact jQ QE ih
 |neg _ ih=>exact jQ QG ih
 |tup _ h _ ih1 ih2=>exact jQ (QD ih1 (Nat.le_trans h hz)) ih2
 |lst _ h _ ih1 ih2=>exact jQ (QH ih1 (Nat.le_trans h hz)) ih2
section
variable{P:Program}{w:World}{A:Around}{E:Value->Shared->Prop}
end
section
variable{X:Cx}
end
section
variable{K:PySem.W.Frag}{σ:St}{H:Hp}
end
section
variable{P:Program}{w:World}{A:Around}{E:Value->Shared->Prop}{s:Shared}
theorem TD{l:Addr}{us:List Value}{ns:List Int}{Q:Value->Shared->Prop}(hh:A.handled=none)(hl:s.heap.IsList l us.toArray)(hi:IntsAre us ns)(ne:0<ns.length)
  (q:∀g M(t:Tok)tk,(∀b o,s.heap.get? b=some o->g.get? b=some o)->M∈ns->(∀a∈ns,a<=M)->Q (.int M t) { s with heap:=g,toks:=tk }):wpAny (model P w) A (call (.builtin "max") [.ref l]) Q E s:=by
 obtain⟨zs,e⟩:=hi.allInts.items
 have en:ns=zs.toList.map (·.1):=by rw[<-hi.numsOf,<-nums_intItems,<-e]
 have zz:0<zs.size:=by rw[en,length_map,Array.length_toList]at ne;exact ne
 rw[e]at hl
 refine max_intList hh hl zz λv g tk hv hk=>?_
 obtain⟨t,rfl⟩:=intItems_at hv
 obtain⟨k1,k2⟩:=argBest_gt (numAt zs) (zs.size-1)
 refine q g _ t tk hk ?_ λa ha=>?_
 ·rw[en,numAt_eq]
  exact getD_mem (by rw[length_map,Array.length_toList];lia)
 ·rw[en]at ha
  obtain⟨j,hj,rfl⟩:=mem_getD ha
  rw[length_map,Array.length_toList]at hj
  rw[<-numAt_eq]
  exact k2 j (by lia)
end
section
variable{X:Cx}
noncomputable def uI(K:PySem.W.Frag):List V->Hp->VK->Prop:=λxs H Q=>∃(p:Addr)(ns:List Int),xs=[.ref p]/\SqL K H p (ns.map V.int)/\0<ns.length/\∀M,M∈ns->(∀a∈ns,a<=M)->Q (.int M) H
theorem YF(hc:X.calm=true):CallR X (.builtin "max") (uI X.K):=by
 intro pins s σ H xs us Q I r h
 obtain⟨p,ns,rfl,hq,ne,q⟩:=h
 obtain⟨u,rfl,rx⟩:=Vals.one r
 cases(show u=Value.ref p from rx)
 obtain⟨its,rv,pl,hz⟩:=I.list hq
 exact TD (I.ok.hd hc) pl.isList (intsAre_of rv) ne λg M t tk hk hM hA=>⟨.int M,H,I.kept (t':=tk) hk,⟨t,rfl⟩,q M hM hA⟩
theorem VR(K:PySem.W.Frag)(hc:X.calm=true:=by rfl)(h:X.K=K:=by rfl):CallR X (.builtin "max") (uI K):=h▸YF hc
end
section
variable{K:PySem.W.Frag}{σ:St}{H:Hp}{Q:VK}
theorem OG{p:Addr}{ns:List Int}(e:H p=some (.lst (ns.map V.int)))(ne:0<ns.length)(h:∀M,M∈ns->(∀a∈ns,a<=M)->Q (.int M) H):uI K [.ref p] H Q:=⟨p,ns,rfl,SqL.of e,ne,h⟩
end
end L2
namespace L2
open PySem PyProof.Rows
noncomputable def lN(A:Around)(s:Shared)(u v:Value)(r:Bool):Prop:=∀(prog:Program)(w:World)(E Q:Value->Shared->Prop),Q (.bool r) s->wpAny (model prog w) A (richCompare .Lt u v) Q E s
inductive hV (A:Around) (s:Shared):List Value->List Value->Bool->Prop
 |nn:hV A s [] [] false
 |nc {v vs}:hV A s [] (v::vs) true
 |cn {u us}:hV A s (u::us) [] false
 |eq {u v us vs r}:SeqAt.EqAt A s u v true->hV A s us vs r->hV A s (u::us) (v::vs) r
 |ne {u v us vs r}:SeqAt.EqAt A s u v false->lN A s u v r->hV A s (u::us) (v::vs) r
section
open PySem.SeqAt
open PySem.AutoSeq1 (wpAny_loadPart')
open PySem.MeetsSeq PySem.MeetsSeq2 PySem.MeetsSeq3
theorem K6(l b:Addr)(items items2:Array Value)(n n2:Nat)(dd dd2:Option Addr)(sl sl2:Array (Option Value))(r:Bool):
  Meets (Builtin.«tuple.__lt__» ⟨[.ref l,.ref b],[]⟩)
   (λA R s=>s.heap.get? l=some { cls:=.type "tuple",dict:=dd,data:=.seq items n,slots:=sl }/\s.heap.get? b=some { cls:=.type "tuple",dict:=dd2,data:=.seq items2 n2,slots:=sl2 }/\
    hV A.in1 s items.toList items2.toList r/\R (.ok (.ret (.bool r))) s):=
 .of_wp λprog w A R s h=>by
  obtain⟨hp,g,d,tk,os⟩:=s;obtain⟨hl,hb,hlt,h⟩:=h
  have f2:=AutoSeq1.sub_tuple_tuple
  wp_walk using wpAny_loadPart' hl,wpAny_loadPart' hb,wpAny_forIn_list _ (λcA b s'=>b.1=none/\s'=⟨hp,g,d,tk,os⟩/\∃(vs ws:List Value),cA=vs.zip ws/\
   hV A.in1 ⟨hp,g,d,tk,os⟩ vs ws r/\vs.length+items2.size=ws.length+items.size) _
  case turn=>
   rintro⟨y,x⟩ cA b s' ⟨hb',rfl,vs,ws,hz,hlt',hlen⟩
   cases hlt' with
   |nn=>cases hz
   |nc=>rw[List.zip_nil_left]at hz;cases hz
   |cn=>rw[List.zip_nil_right]at hz;cases hz
   |eq he hr=>
    rw[zip_cons_cons]at hz
    injection hz with hyx hrest
    injection hyx with hy hx
    subst hy hx
    simp only[length_cons]at hlen
    refine wpAny_bind (he prog w _ _ ?_)
    wp_walk
    exact⟨rfl,rfl,_,_,hrest,hr,by lia⟩
   |ne he hri0=>
    rw[zip_cons_cons]at hz
    injection hz with hyx hrest
    injection hyx with hy hx
    subst hy hx
    refine wpAny_bind (he prog w _ _ ?_)
    have hri:=hri0 prog w
    wp_walk using hri
    exact⟨_,rfl,by simpa using h⟩
  case fin=>
   rintro⟨b1,b2⟩ s' ⟨hb',rfl,vs,ws,hz,hlt',hlen⟩
   simp only at hb'
   subst hb'
   have hv:r=decide (items.size<items2.size):=by
    cases hlt' with
    |nn=>
     simp only[length_nil]at hlen
     exact(decide_eq_false (by lia)).symm
    |nc=>
     simp only[length_nil,length_cons]at hlen
     exact(decide_eq_true (by lia)).symm
    |cn=>
     simp only[length_nil,length_cons]at hlen
     exact(decide_eq_false (by lia)).symm
    |eq _ _=>rw[zip_cons_cons]at hz;cases hz
    |ne _ _=>rw[zip_cons_cons]at hz;cases hz
   rw[hv]at h
   wp_walk
   exact⟨_,rfl,by simpa[Builtin.Tuple.tupleCompareSizes]using h⟩
  case h=>
   exact⟨rfl,rfl,items.toList,items2.toList,rfl,hlt,by simp;lia⟩
end
theorem UM{A:Around}{s:Shared}{l b:Addr}{us vs:List Value}{r:Bool}(hl:IsTup s.heap l us.toArray)(hb:IsTup s.heap b vs.toArray)(hu:A.units<cLine)(h:hV A.in1 s us vs r):lN A s (.ref l) (.ref b) r:=by
 intro prog w E Q q
 obtain⟨⟨cls,dd,data,sl⟩,ho,hc,n,hd⟩:=id hl
 obtain⟨⟨cls2,dd2,data2,sl2⟩,ho2,hc2,n2,hd2⟩:=id hb
 simp only at hc hd hc2 hd2
 subst hc hd hc2 hd2
 exact richCompare_meets_room (op:=.Lt) ⟨_,ho,rfl⟩ ⟨_,ho2,rfl⟩ PySem.F.slot_tuple_lt PySem.F.entry_tuple_lt (PySem.F.args_tuple_lt_2 _ _) (K6 l b us.toArray vs.toArray n n2 dd dd2 sl sl2 r)
  ⟨ho,ho2,by simpa using h,show Value.bool r≠Value.notImplemented/\Q (.bool r) s from⟨(λx=>nomatch x),q⟩⟩ hu
theorem UN{A:Around}{s:Shared}{a c:Int}{t u:Tok}:lN A s (.int a t) (.int c u) (decide (a<c)):=λprog w E Q h=>HT.DZ A s a t c u prog w E Q h
end L2
namespace L2
open PySem PySem.Spec PyProof.Rows
noncomputable abbrev Cx.in1(X:Cx):Cx:={ X with A:=X.A.in1 }
section
variable{X:Cx}{pins:List (Addr×Obj)}{σ:St}{H:Hp}{s:Shared}
theorem Cx.Ok.in1(ok:X.Ok):X.in1.Ok:=⟨ok.mod,ok.kind,ok.glob,ok.blt,ok.above,ok.inj,ok.has,ok.cab,ok.hd,ok.frames,ok.stk,ok.exf,ok.bs,ok.bsz,ok.noex,ok.exfs,ok.funs,ok.frf⟩
theorem Cx.Ok.out1(ok:X.in1.Ok):X.Ok:=⟨ok.mod,ok.kind,ok.glob,ok.blt,ok.above,ok.inj,ok.has,ok.cab,ok.hd,ok.frames,ok.stk,ok.exf,ok.bs,ok.bsz,ok.noex,ok.exfs,ok.funs,ok.frf⟩
theorem Inv.in1(I:Inv X pins σ H s):Inv X.in1 pins σ H s:=⟨I.ok.in1,I.os,I.bare,I.base,I.loc,I.cell,I.free,I.freeC,I.pin,I.hok,I.len⟩
theorem Inv.out1(I:Inv X.in1 pins σ H s):Inv X pins σ H s:=⟨I.ok.out1,I.os,I.bare,I.base,I.loc,I.cell,I.free,I.freeC,I.pin,I.hok,I.len⟩
end
section
variable{X:Cx}{pins:List (Addr×Obj)}{σ:St}{H:Hp}{s:Shared}{qual:Str}{sc:Scope}{M:List Str}{q:Addr}{cd:Value}
end
structure aaB (base:Heap) (mg:Str->Option Value) (c P:Addr):Prop where
 hd:PySem.W.CodeHd base c P
 bl:base.BuiltinsAt mg P
section
variable{X:Cx}{pins:List (Addr×Obj)}{σ:St}{H:Hp}{s:Shared}
theorem Inv.pinNew{H0:Hp}(I:Inv X pins σ H0 s){q:Addr}{o:Obj}{h':Heap}{t':Nat}(I':Inv X pins σ H { s with heap:=h',toks:=t' })(hq:h'.get? q=some o)(hs:s.heap.objs.size<=q)(hn:H q=none)(hd:∀v,o.data≠.cell v):Inv X ((q,o)::pins) σ H { s with heap:=h',toks:=t' }:=
 ⟨I'.ok,I'.os,I'.bare,I'.base,I'.loc,I'.cell,I'.free,I'.freeC,λp hp=>by
  rcases mem_append.mp hp with z|z
  ·exact I'.pin p (mem_append_left _ z)
  ·rcases mem_cons.mp z with rfl|z
   ·exact⟨hq,hn,Nat.ne_of_gt (Nat.lt_of_lt_of_le I.lt hs),I.nofs hs,hd⟩
   ·exact I'.pin p (mem_append_right _ z),I'.hok,I'.len⟩
end
structure Ow (X:Cx) (pins:List (Addr×Obj)) (a:Addr):Prop where
 loc:a≠X.env.locals
 fs:a∉X.fs
 new:a∈X.ex\/X.s₀.heap.objs.size<=a
 cel:∀x c,X.env.cells.lookup x=some c->c≠a
 pin:∀p∈X.pn++pins,p.1≠a
section
variable{X:Cx}{pins p1 p2:List (Addr×Obj)}{σ:St}{H:Hp}{s:Shared}
theorem Inv.ow(I:Inv X pins σ H s){a:Addr}(h:s.heap.objs.size<=a):Ow X pins a where
 loc:=Nat.ne_of_gt (Nat.lt_of_lt_of_le I.lt h)
 fs:=I.nofs h
 new:=.inr (Nat.le_trans I.sz h)
 cel:=λx c e z=>by
  obtain⟨v,o,ho,_⟩:=I.cell x c e
  exact absurd (Heap.lt_size ho) (by rw[z];exact Nat.not_lt.mpr h)
 pin:=λp hp z=>absurd (Heap.lt_size (I.pin p hp).1) (by rw[z];exact Nat.not_lt.mpr h)
theorem Ow.sub{a:Addr}{pl:List (Addr×Obj)}(o:Ow X pins a)(h:∀p∈pl,p∈pins\/p.1≠a):Ow X pl a:=
 ⟨o.loc,o.fs,o.new,o.cel,λp hp=>by
  rcases mem_append.mp hp with z|z
  ·exact o.pin p (mem_append_left _ z)
  ·rcases h p z with y|y
   ·exact o.pin p (mem_append_right _ y)
   ·exact y⟩
theorem Inv.repin{a:Addr}{o o':Obj}{h':Heap}{t':Nat}(I:Inv X (p1++(a,o)::p2) σ H s)(ow:Ow X (p1++p2) a)(k:∀b u,b≠a->s.heap.get? b=some u->h'.get? b=some u)(e:h'.get? a=some o')(hd:∀v,o'.data≠.cell v):
  Inv X (p1++(a,o')::p2) σ H { s with heap:=h',toks:=t' }:=by
 have me:=I.pin (a,o) (mem_append_right _ (mem_append_right _ mem_cons_self))
 have I1:Inv X (p1++p2) σ H s:=I.pins_of λp hp=>I.pin p (mem_append_right _ (by
  rcases mem_append.mp hp with z|z
  ·exact mem_append_left _ z
  ·exact mem_append_right _ (mem_cons_of_mem _ z)))
 have I2:=I1.turned (h':=h') (t':=t') k me.2.1 ow.loc ow.new ow.cel ow.pin
 refine⟨I2.ok,I2.os,I2.bare,I2.base,I2.loc,I2.cell,I2.free,I2.freeC,λp hp=>?_,I2.hok,I2.len⟩
 rcases mem_append.mp hp with z|z
 ·exact I2.pin p (mem_append_left _ z)
 ·rcases mem_append.mp z with z|z
  ·exact I2.pin p (mem_append_right _ (mem_append_left _ z))
  ·rcases mem_cons.mp z with rfl|z
   ·exact⟨e,me.2.1,ow.loc,ow.fs,hd⟩
   ·exact I2.pin p (mem_append_right _ (mem_append_right _ z))
structure aaH (K:PySem.W.Frag) (σ:St) (l:Addr) (xs:List V) (lt:R2) (te:TE) (f:V->St) (G:Hp->Prop) (W:Nat->Nat->V->Hp->Prop) (Q:VK):Prop where
 lst:∀j b k H,W j b k H->H l=some (.lst xs)/\G H
 turn:∀j b k H x,W j b k H->xs[j]? =some x->te (f x) H λk' H'=>lt k' k H' λz H''=>∃c,z=.bl c/\if c=true then W (j+1) j k' H'' else W (j+1) b k H''
 fin:∀b k H x,W xs.length b k H->xs[b]? =some x->Q x H
end
structure aaG (K:PySem.W.Frag) (base:Heap) (mg:Str->Option Value) (x:Str) (c P:Addr):Prop where
 kin:K.In base
 ns:base.Ns mainGlobals mg
 tab:PySem.W.tabIn K x=some (c,P)
 b:aaB base mg c P
mutual
noncomputable def eA:PyData->PyData->Bool
 | .int i,.int j=>decide (i<j)
 | .tuple ds,.tuple es=>iH ds es
 |_,_=>false
noncomputable def iH:List PyData->List PyData->Bool
 |[],[]=>false
 |[],_::_=>true
 |_::_,[]=>false
 |d::ds,e::es=>if PyData.eqv d e=true then iH ds es else eA d e
end
mutual
noncomputable def fW:PyData->PyData->Bool
 | .int _,.int _=>true
 | .tuple ds,.tuple es=>fG ds es
 |_,_=>false
noncomputable def fG:List PyData->List PyData->Bool
 |[],_=>true
 |_::_,[]=>true
 |d::ds,e::es=>if PyData.eqv d e=true then fG ds es else fW d e
end
section
variable{X:Cx}{pins:List (Addr×Obj)}{σ:St}{H:Hp}{s:Shared}
theorem HL{d e:PyData}(h:fW d e=true):(∃i j,d=.int i/\e=.int j)\/∃ds es,d=.tuple ds/\e=.tuple es/\fG ds es=true:=by
 unfold fW at h
 split at h
 ·exact .inl ⟨_,_,rfl,rfl⟩
 ·exact .inr ⟨_,_,rfl,rfl,h⟩
 ·cases h
theorem FV{A:Around}{i j:Int}{x y:V}{u v:Value}(hx:Is H x (.int i))(hy:Is H y (.int j))(ru:RelV x u)(rv:RelV y v):lN A s u v (eA (.int i) (.int j)):=by
 cases hx
 cases hy
 obtain⟨t,rfl⟩:=ru
 obtain⟨t2,rfl⟩:=rv
 rw[eA]
 exact UN
theorem xB(ds:List PyData):(PyData.tuple ds).depth=PyData.depthAll ds+1:=by rw[PyData.depth]
end
section
open PySem.AutoSeq1 (wpAny_loadPart')
variable{prog:Program}{w:World}{A:Around}{E:Value->Shared->Prop}{s:Shared}
end
section
variable{H:Hp}{K:PySem.W.Frag}
end
end L2
namespace L2
open PySem PySem.Spec PyProof.Rows
section
open PySem.F
variable{prog:Program}{w:World}{A:Around}{E:Value->Shared->Prop}{s:Shared}
end
section
variable{X:Cx}
end
end L2
namespace L2
open PySem PySem.Spec PyProof.Rows
structure aaF (z TI TO i1 i2:Addr):Prop where
 TIz:TI≠z
 TOz:TO≠z
 i1z:i1≠z
 i2z:i2≠z
 TITO:TI≠TO
 TIi1:TI≠i1
 TIi2:TI≠i2
 TOi1:TO≠i1
 TOi2:TO≠i2
 i12:i1≠i2
theorem vI{a b:Nat}(h:¬a=b):@Ne Addr a b:=h
section
variable{H:Hp}{K:PySem.W.Frag}
end
section
variable{X:Cx}{pins p1 p2:List (Addr×Obj)}{σ:St}{H:Hp}{s:Shared}
end
section
variable{X:Cx}
end
structure AF (l:Addr) (xs:List V) (lt:R2) (te:V->Hp->VK->Prop) (W:Nat->Nat->V->Hp->Prop) (Q:VK):Prop where
 lst:∀j b k H,W j b k H->H l=some (.lst xs)
 turn:∀j b k H x,W j b k H->xs[j]? =some x->te x H λk' H'=>lt k' k H' λz H''=>∃c,z=.bl c/\if c=true then W (j+1) j k' H'' else W (j+1) b k H''
 fin:∀b k H x,W xs.length b k H->xs[b]? =some x->Q x H
noncomputable def dO:Obj:=seqObj "list" #[] 0
section
variable{X:Cx}{pins p1 p2:List (Addr×Obj)}{σ:St}{H:Hp}{s:Shared}
theorem TH{l S It:Addr}{xs:List V}{lt:R2}{te:V->Hp->VK->Prop}{W:Nat->Nat->V->Hp->Prop}{Q:VK}{kw:List (Str×Value)}{R:Result->Shared->Prop}(hh:X.A.handled=none)
  (M:AF l xs lt te W Q) (hlt:OpR X.in1.nox (compareOp .Gt) lt) (hte:∀x H Q,te x H Q->Q x H) (oS:Ow X.in1 ((It,dO)::pins) S) (oI:Ow X.in1 ((S,dO)::pins) It)
  (hR:∀(v:V)(u:Value)(H:Hp)(s:Shared),Inv X pins σ H s->RelV v u->Q v H->R (.ok (.ret u)) s):
  ∀(r j b:Nat)(H:Hp)(s:Shared)(xb k:V)(vb kb:Value)(c:Nat)(ob:Obj),xs.length-j=r->j<=xs.length->Inv X.in1 ((S,seqObj "list" #[vb,kb] c)::(It,ob)::pins) σ H s->s.heap.IsListIter It l j->xs[b]? =some xb->RelV xb vb->RelV k kb->W j b k H->
   codeAny (model X.prog X.w) X.A (.builtin "max.loop" ⟨[.ref It,.none,.ref S],kw⟩) R s:=by
 have hname:(toString "max"++toString ".loop":String)="max.loop":=by decide
 have hSI:S≠It:=λz=>oS.pin (It,dO) (mem_append_right _ mem_cons_self) z.symm
 have ofS:∀{d:Obj},Ow X.in1 ((It,d)::pins) S:=⟨oS.loc,oS.fs,oS.new,oS.cel,λp hp=>by
  rcases mem_append.mp hp with z|z
  ·exact oS.pin p (mem_append_left _ z)
  ·rcases mem_cons.mp z with rfl|z
   ·exact Ne.symm hSI
   ·exact oS.pin p (mem_append_right _ (mem_cons_of_mem _ z))⟩
 have ofI:∀{d:Obj},Ow X.in1 ((S,d)::pins) It:=⟨oI.loc,oI.fs,oI.new,oI.cel,λp hp=>by
  rcases mem_append.mp hp with z|z
  ·exact oI.pin p (mem_append_left _ z)
  ·rcases mem_cons.mp z with rfl|z
   ·exact hSI
   ·exact oI.pin p (mem_append_right _ (mem_cons_of_mem _ z))⟩
 have ofS0:Ow X.in1 pins S:=⟨oS.loc,oS.fs,oS.new,oS.cel,λp hp=>by
  rcases mem_append.mp hp with z|z
  ·exact oS.pin p (mem_append_left _ z)
  ·exact oS.pin p (mem_append_right _ (mem_cons_of_mem _ z))⟩
 intro r
 induction r with
 | zero=>
  intro j b H s xb k vb kb c ob hr hj I hit hxb rb rk w
  have hin:j=xs.length:=by lia
  subst hin
  have hl:=M.lst _ _ _ _ w
  obtain⟨its,rv,pl,_⟩:=I.list (SqL.of hl)
  have lenI:its.length=xs.length:=rv.length.symm
  have hlI:l≠It:=λz=>by
   have:=(I.pin (It,ob) (mem_append_right _ (mem_cons_of_mem _ mem_cons_self))).2.1
   rw[<-z,hl]at this;cases this
  have Wk:=Walks.list (prog:=X.prog) (w:=X.w) (A:=X.A.in1) hh It l hlI its.toArray
  have nS:=(I.pin (S,seqObj "list" #[vb,kb] c) (mem_append_right _ mem_cons_self)).1
  refine codeAny_builtin PySem.F.entry_max_loop ?_
  rw[Around.under_plainId PySem.F.plain_max_loop _]
  show wpAny _ X.A.in1 (seqItems? (.ref S) >>=_) _ _ _
  refine wpAny_bind (wpAny_seqItems nS rfl ?_)
  show wpAny _ X.A.in1 (tryCatch (pyNext (.ref It)) _ >>=_) _ _ _
  refine wpAny_bind (wpAny_tryCatch (Wk.done _ _ _ ⟨by rw[size_toArray,lenI];exact hit,pl.isList⟩ λh' tk' hk'=>?_))
  have hk:∀b u,b≠It->s.heap.get? b=some u->h'.get? b=some u:=λb u hb e=>hk' b u (by simpa using hb) e
  have I1:Inv X.in1 ((S,seqObj "list" #[vb,kb] c)::pins) σ H s:=I.pins_of λp hp=>I.pin p (mem_append_right _ (by
   rcases mem_cons.mp hp with rfl|z
   ·exact mem_cons_self
   ·exact mem_cons_of_mem _ (mem_cons_of_mem _ z)))
  have oI':=ofI (d:=seqObj "list" #[vb,kb] c)
  have I2:=I1.turned (h':=h') (t':=tk') hk (I.pin (It,ob) (mem_append_right _ (mem_cons_of_mem _ mem_cons_self))).2.1 oI'.loc oI'.new oI'.cel oI'.pin
  have hS':=hk S _ hSI nS
  have s1:=Heap.SameBut.update h' S (Obj.mapSeq λ_=>(#[]:Array Value))
  show wpAny _ X.A.in1 (updateSeq S (λ_=>#[]) >>=_) _ _ _
  refine wpAny_bind ?_
  refine wpAny_updateSeq hS' rfl (wpAny_bind (wpAny_letGo (wpAny_pure ?_)))
  have I3:Inv X.in1 pins σ H { s with heap:=h',toks:=tk' }:=I2.pins_of λp hp=>I2.pin p (mem_append_right _ (mem_cons_of_mem _ hp))
  have hSn:=(I2.pin (S,seqObj "list" #[vb,kb] c) (mem_append_right _ mem_cons_self)).2.1
  have I4:=I3.turned (h':=h'.update S (Obj.mapSeq λ_=>(#[]:Array Value))) (t':=tk') (λb u hb e=>s1.extBut b u hb e) hSn ofS0.loc ofS0.new ofS0.cel ofS0.pin
  exact hR xb vb H _ I4.out1 rb (M.fin b k H xb w hxb)
 | succ r ih=>
  intro j b H s xb k vb kb c ob hr hj I hit hxb rb rk w
  have hlt':j<xs.length:=by lia
  have hl:=M.lst _ _ _ _ w
  obtain⟨its,rv,pl,_⟩:=I.list (SqL.of hl)
  have lenI:its.length=xs.length:=rv.length.symm
  have hlI:l≠It:=λz=>by
   have:=(I.pin (It,ob) (mem_append_right _ (mem_cons_of_mem _ mem_cons_self))).2.1
   rw[<-z,hl]at this;cases this
  have Wk:=Walks.list (prog:=X.prog) (w:=X.w) (A:=X.A.in1) hh It l hlI its.toArray
  have nS:=(I.pin (S,seqObj "list" #[vb,kb] c) (mem_append_right _ mem_cons_self)).1
  refine codeAny_builtin PySem.F.entry_max_loop ?_
  rw[Around.under_plainId PySem.F.plain_max_loop _]
  show wpAny _ X.A.in1 (seqItems? (.ref S) >>=_) _ _ _
  refine wpAny_bind (wpAny_seqItems nS rfl ?_)
  show wpAny _ X.A.in1 (tryCatch (pyNext (.ref It)) _ >>=_) _ _ _
  refine wpAny_bind (wpAny_tryCatch (Wk.item j _ _ _ (by rw[size_toArray,lenI];exact hlt') ⟨hit,pl.isList⟩ λv h' tk' hP hst' hk'=>?_))
  have hv:its[j]? =some v:=by simpa using hP
  obtain⟨x,hx⟩:∃x,xs[j]? =some x:=⟨_,List.getElem?_eq_getElem hlt'⟩
  have rx:RelV x v:=by
   obtain⟨u,hu,ru⟩:=rv.get hx
   rw[hv]at hu;cases hu;exact ru
  obtain⟨oI',hoI',hoc,hod⟩:=id hst'.1
  have hk:∀b u,b≠It->s.heap.get? b=some u->h'.get? b=some u:=λb u hb e=>hk' b u (by simpa using hb) e
  have I1:Inv X.in1 ((S,seqObj "list" #[vb,kb] c)::(It,oI')::pins) σ H { s with heap:=h',toks:=tk' }:=
   Inv.repin (p1:=[(S,seqObj "list" #[vb,kb] c)]) I ofI hk hoI' (λv z=>by rw[hod]at z;cases z)
  have mt:=M.turn j b k H x w hx
  refine wpAny_bind (wpAny_pure ?_)
  have q2:=hte _ _ _ mt
  have I2:=I1
  show wpAny _ X.A.in1 (tryCatch (holding [v,v] (richCompare .Gt v kb >>=_)) _ >>=_) _ _ _
  refine wpAny_bind (wpAny_tryCatch (wpAny_holding (wpAny_bind (wpAny_mono (hlt _ ({ s with heap:=h',toks:=tk' }:Shared) σ H x k v kb _ (I2.wish _) rx rk q2) (λu3 s3⟨z,H3,I3w,r3,cc,ez,q3⟩=>?_) λe s' hF=>(show False from hF).elim))))
  have I3:=I3w.unwish
  subst ez
  obtain rfl:u3=Value.bool cc:=r3
  refine wpAny_bind (wpAny_holding (wpAny_truthy_bool ?_))
  refine wpAny_bind (wpAny_letGo (wpAny_pure ?_))
  have nS3:=(I3.pin (S,seqObj "list" #[vb,kb] c) (mem_append_right _ mem_cons_self)).1
  have nI3:=(I3.pin (It,oI') (mem_append_right _ (mem_cons_of_mem _ mem_cons_self))).1
  have hit3:s3.heap.IsListIter It l (j+1):=⟨oI',nI3,hoc,hod⟩
  cases cc with
  | true=>
   have s1:=Heap.SameBut.update s3.heap S (Obj.mapSeq λ_=>#[v,v])
   obtain⟨c2,hc2⟩:∃c2,(s3.heap.update S (Obj.mapSeq λ_=>#[v,v])).get? S=some (seqObj "list" #[v,v] c2):=⟨_,get?_update_seq nS3 λ_=>#[v,v]⟩
   simp only[if_true]
   refine wpAny_bind ?_
   refine wpAny_updateSeq nS3 rfl (wpAny_bind (wpAny_letGo ?_))
   rw[hname]
   rw[if_pos rfl]at q3
   have I4:Inv X.in1 ((S,seqObj "list" #[v,v] c2)::(It,oI')::pins) σ H3 { s3 with heap:=s3.heap.update S (Obj.mapSeq λ_=>#[v,v]),toks:=s3.toks }:=
    Inv.repin (p1:=[]) I3 ofS (λb u hb e=>s1.extBut b u hb e) hc2 (λv z=>by cases z)
   exact wpAny_pure ⟨plainId_quiet PySem.F.plain_max_loop _,ih (j+1) j H3 _ x x v v c2 oI' (by lia) hlt' I4 ⟨oI',(s1.2 It (Ne.symm hSI)).trans nI3,hoc,hod⟩ hx rx rx q3⟩
  |false=>
   simp only[Bool.false_eq_true,if_false]
   refine wpAny_bind (wpAny_letGo ?_)
   rw[hname]
   rw[if_neg Bool.false_ne_true]at q3
   exact wpAny_pure ⟨plainId_quiet PySem.F.plain_max_loop _,ih (j+1) b H3 _ xb k vb kb c oI' (by lia) hlt' I3 hit3 hxb rb rk q3⟩
theorem TJ{l:Addr}{xs:List V}{lt:R2}{te:V->Hp->VK->Prop}{W:Nat->Nat->V->Hp->Prop}{Q:VK}{kw:List (Str×Value)}{x0:V}(hh:X.A.handled=none)
  (M:AF l xs lt te W Q) (hlt:OpR X.in1.nox (compareOp .Gt) lt) (hte:∀x H Q,te x H Q->Q x H) (I2:Inv X pins σ H s) (hl2:H l=some (.lst xs)) (hx0:xs[0]? =some x0) (w0:te x0 H λk H3=>W 1 0 k H3):
  wpAny (model X.prog X.w) X.A.in1 (do let it <-pyIter (.ref l);again (.builtin "max.loop" ⟨[it,.none,<-newList []],kw⟩)) (λfin s'=>match fin with
   | .done f=>(match (Except.ok f:Result) with| .ok (.ret v)=>EP X pins σ Q v s'| .ok _=>False| .error e=>X.xe e s')
   | .again c'=>c'.quiet=true/\codeAny (model X.prog X.w) X.A c' (λr s'=>match r with| .ok (.ret v)=>EP X pins σ Q v s'| .ok _=>False| .error e=>X.xe e s') s') X.xe s:=by
 have hname:(toString "max"++toString ".loop":String)="max.loop":=by decide
 have I2':=I2.in1
 obtain⟨its,rv,pl,_⟩:=I2'.list (SqL.of hl2)
 have lenI:its.length=xs.length:=rv.length.symm
 refine wpAny_bind (wpAny_pyIter_list pl.isList ?_)
 refine wpAny_bind (wpAny_newList ?_ (Nat.zero_le _))
 refine wpAny_pure ⟨plainId_quiet PySem.F.plain_max_loop _,?_⟩
 have gI:(s.heap.push { cls:=.type "list_iterator",data:=.fields #[.ref l,.int 0 0] }).get? s.heap.objs.size=some { cls:=.type "list_iterator",data:=.fields #[.ref l,.int 0 0] }:=Heap.get?_push_size _ rfl
 have I3:Inv X.in1 ((s.heap.objs.size,{ cls:=.type "list_iterator",data:=.fields #[.ref l,.int 0 0] })::pins) σ H { s with heap:=s.heap.push { cls:=.type "list_iterator",data:=.fields #[.ref l,.int 0 0] },toks:=s.toks }:=
  I2'.pinNew (I2'.kept (t':=s.toks) λb o e=>Heap.get?_push_of_some _ e) gI (Nat.le_refl _) (I2'.hok.fresh (Nat.le_refl _)) λv z=>by cases z
 have oI0:Ow X.in1 pins s.heap.objs.size:=I2'.ow (Nat.le_refl _)
 generalize hh3:s.heap.push { cls:=.type "list_iterator",data:=.fields #[.ref l,.int 0 0] }=h3 at I3 gI ⊢
 have I4:Inv X.in1 ((h3.objs.size,seqObj "list" #[] 0)::(s.heap.objs.size,{ cls:=.type "list_iterator",data:=.fields #[.ref l,.int 0 0] })::pins) σ H { s with heap:=h3.push (seqObj "list" #[] 0),toks:=s.toks }:=
  I3.pinNew (I3.kept (t':=s.toks) λb o e=>Heap.get?_push_of_some _ e) (Heap.get?_push_size _ rfl) (Nat.le_refl _) (I3.hok.fresh (Nat.le_refl _)) λv z=>by cases z
 have oS0:Ow X.in1 ((s.heap.objs.size,{ cls:=.type "list_iterator",data:=.fields #[.ref l,.int 0 0] })::pins) h3.objs.size:=I3.ow (Nat.le_refl _)
 have gS:(h3.push (seqObj "list" #[] 0)).get? h3.objs.size=some (seqObj "list" #[] 0):=Heap.get?_push_size _ rfl
 have gI2:(h3.push (seqObj "list" #[] 0)).get? s.heap.objs.size=some { cls:=.type "list_iterator",data:=.fields #[.ref l,.int 0 0] }:=Heap.get?_push_of_some _ gI
 have hSI:h3.objs.size≠s.heap.objs.size:=λz=>oS0.pin _ (mem_append_right _ mem_cons_self) z.symm
 have pl4:(h3.push (seqObj "list" #[] 0)).IsList l its.toArray:=by
  obtain⟨o,e,r⟩:=pl.isList
  exact⟨o,Heap.get?_push_of_some _ (by rw[<-hh3];exact Heap.get?_push_of_some _ e),r⟩
 have hlI:l≠s.heap.objs.size:=λz=>by
  have:=I2'.hok.fresh (a:=s.heap.objs.size) (Nat.le_refl _)
  rw[<-z,hl2]at this;cases this
 generalize h3.objs.size=S at *
 generalize s.heap.objs.size=It at *
 generalize h3.push (seqObj "list" #[] 0)=h4 at *
 have ofS:∀{d:Obj},Ow X.in1 ((It,d)::pins) S:=⟨oS0.loc,oS0.fs,oS0.new,oS0.cel,λp hp=>by
  rcases mem_append.mp hp with z|z
  ·exact oS0.pin p (mem_append_left _ z)
  ·rcases mem_cons.mp z with rfl|z
   ·exact Ne.symm hSI
   ·exact oS0.pin p (mem_append_right _ (mem_cons_of_mem _ z))⟩
 have ofI:∀{d:Obj},Ow X.in1 ((S,d)::pins) It:=⟨oI0.loc,oI0.fs,oI0.new,oI0.cel,λp hp=>by
  rcases mem_append.mp hp with z|z
  ·exact oI0.pin p (mem_append_left _ z)
  ·rcases mem_cons.mp z with rfl|z
   ·exact hSI
   ·exact oI0.pin p (mem_append_right _ z)⟩
 have Wk:=Walks.list (prog:=X.prog) (w:=X.w) (A:=X.A.in1) hh It l hlI its.toArray
 have hpos:0<xs.length:=(List.getElem?_eq_some_iff.mp hx0).1
 refine codeAny_builtin PySem.F.entry_max_loop ?_
 rw[Around.under_plainId PySem.F.plain_max_loop _]
 show wpAny _ X.A.in1 (seqItems? (.ref S) >>=_) _ _ _
 refine wpAny_bind (wpAny_seqItems gS rfl ?_)
 show wpAny _ X.A.in1 (tryCatch (pyNext (.ref It)) _ >>=_) _ _ _
 refine wpAny_bind (wpAny_tryCatch (Wk.item 0 _ _ _ (by rw[size_toArray,lenI];exact hpos) ⟨⟨_,gI2,rfl,rfl⟩,pl4⟩ λv h' tk' hP hst' hk'=>?_))
 have hv:its[0]? =some v:=by simpa using hP
 have rx:RelV x0 v:=by
  obtain⟨u,hu,ru⟩:=rv.get hx0
  rw[hv]at hu;cases hu;exact ru
 obtain⟨oI',hoI',hoc,hod⟩:=id hst'.1
 have hk2:∀b u,b≠It->h4.get? b=some u->h'.get? b=some u:=λb u hb e=>hk' b u (by simpa using hb) e
 have I1:Inv X.in1 ((S,seqObj "list" #[] 0)::(It,oI')::pins) σ H { s with heap:=h',toks:=tk' }:=
  Inv.repin (s:={ s with heap:=h4,toks:=s.toks }) (p1:=[(S,seqObj "list" #[] 0)]) I4 ofI hk2 hoI' (λv z=>by rw[hod]at z;cases z)
 have mt:=w0
 refine wpAny_bind (wpAny_pure ?_)
 have q2:=hte _ _ _ mt
 have I2:=I1
 have nS3:=(I2.pin (S,seqObj "list" #[] 0) (mem_append_right _ mem_cons_self)).1
 have nI3:=(I2.pin (It,oI') (mem_append_right _ (mem_cons_of_mem _ mem_cons_self))).1
 have s1':=Heap.SameBut.update h' S (Obj.mapSeq λ_=>#[v,v])
 obtain⟨c2,hc2⟩:∃c2,(h'.update S (Obj.mapSeq λ_=>#[v,v])).get? S=some (seqObj "list" #[v,v] c2):=⟨_,get?_update_seq nS3 λ_=>#[v,v]⟩
 show wpAny _ X.A.in1 (updateSeq S (λ_=>#[v,v]) >>=_) _ _ _
 refine wpAny_bind ?_
 refine wpAny_updateSeq nS3 rfl ?_
 rw[hname]
 have I7:Inv X.in1 ((S,seqObj "list" #[v,v] c2)::(It,oI')::pins) σ H { s with heap:=h'.update S (Obj.mapSeq λ_=>#[v,v]),toks:=tk' }:=
  Inv.repin (s:=({ s with heap:=h',toks:=tk' }:Shared)) (p1:=[]) I2 ofS (λb u hb e=>s1'.extBut b u hb e) hc2 (λv z=>by cases z)
 exact wpAny_pure ⟨plainId_quiet PySem.F.plain_max_loop _,TH (pins:=pins) (Q:=Q) hh M hlt hte ofS ofI (λv u H s J r hq=>⟨v,H,J,r,hq⟩) _ 1 0 H _ x0 x0 v v c2 oI' rfl hpos I7 ⟨oI',(s1'.2 It (Ne.symm hSI)).trans nI3,hoc,hod⟩ hx0 rx rx q2⟩
end
section
variable{X:Cx}
noncomputable def rO(tl:TA)(td:TE):TE:=λσ H Q=>tl σ H λvs H1=>td σ H1 λd H2=>∃l ns,vs=[.ref l]/\H2 l=some (.lst (ns.map V.int))/\(ns=[]->Q d H2)/\∀M:Int,M∈ns->(∀a∈ns,a<=M)->Q (.int M) H2
theorem TF(a v:Value):argsOk "max" ⟨[a],[(Str.ofString "default",v)]⟩:=by unfold argsOk;kernel_rfl
theorem Y8{l:Addr}{ns:List Int}{H:Hp}{Q:VK}(hl:H l=some (.lst (ns.map V.int)))(q:∀M:Int,M∈ns->(∀a∈ns,a<=M)->Q (.int M) H):
  AF l (ns.map V.int) (gN λi j=>.bl (decide (j<i))) (λx H Q=>Q x H) (λj b k H'=>H'=H/\∃B:Int,ns[b]? =some B/\k=.int B/\∀i(z:Int),i<j->ns[i]? =some z->z<=B) Q where
 lst:=λj b k H' w=>w.1▸hl
 turn:=λj b k H' x w hx=>by
  obtain⟨rfl,B,hb,rfl,hB⟩:=w
  rw[List.getElem?_map]at hx
  cases hz:ns[j]? with
  |none=>rw[hz]at hx;cases hx
  | some z=>
   rw[hz]at hx
   cases hx
   refine⟨z,B,rfl,rfl,_,rfl,?_⟩
   by_cases g:B<z
   ·rw[if_pos (decide_eq_true g)]
    refine⟨rfl,z,by first|exact hz|rfl,rfl,λi y hi hy=>?_⟩
    by_cases e:i=j
    ·subst e;rw[hz]at hy;cases hy;exact Int.le_refl _
    ·have:=hB i y (by lia) hy;lia
   ·rw[if_neg (by simpa using g)]
    refine⟨rfl,B,hb,rfl,λi y hi hy=>?_⟩
    by_cases e:i=j
    ·subst e;rw[hz]at hy;cases hy;lia
    ·exact hB i y (by lia) hy
 fin:=λb k H' x w hx=>by
  obtain⟨rfl,B,hb,rfl,hB⟩:=w
  rw[List.getElem?_map,hb]at hx
  cases hx
  refine q B (List.mem_of_getElem? hb) λa ha=>?_
  obtain⟨i,hi,e⟩:=mem_iff_getElem.mp ha
  exact hB i a (by rw[length_map];exact hi) (by rw[List.getElem?_eq_getElem hi,e])
theorem QU{e de:Expr}{p pos kpos:Pos}{tl:TA}{td:TE}(hc:X.calm=true)(hg:Gl X "max")(hm:X.mg "max"=none)(hl:PA X [e] tl)(hd:PE X de td)(he:starEach [e] X.env=[(false,eval e X.env)]:=by rfl):
  PE X (.Call (.Name "max" p) [e] [⟨some "default",de,kpos⟩] pos) (rO tl td):=by
 intro pins s σ H Q I h
 have hname:(toString "max"++toString ".loop":String)="max.loop":=by decide
 refine wpAny_Call_Name_kw (iI I hg hm (show bootBuiltins "max"=some (.builtin "max") by first|rfl|exact qG) ?_ (by decide) (by decide))
 refine callWith_kw ?_ (by rw[he];rfl) (by rw[he];rfl) rfl rfl
 refine aH (hl pos pins s σ H _ I h) λus s1⟨vs,H1,I1,r1,q1⟩=>?_
 show wpAny _ _ (evalAll [(do let v <-eval de X.env;standAt pos;pure v)]) _ _ s1
 refine wpAny_evalAll_cons (wpAny_bind (aH (hd pins s1 σ H1 _ I1 q1) λdv s2⟨d,H2,I2,rd,l,ns,ex,hl2,q0,q⟩=>?_))
 subst ex
 obtain⟨u,rfl,rx1⟩:=Vals.one r1
 obtain rfl:u=Value.ref l:=rx1
 refine wpAny_bind (wpAny_standAt (wpAny_pure (wpAny_evalAll_nil ?_)))
 show wpAny _ _ (call (.builtin "max") [.ref l] [(Str.ofString "default",dv)]) _ _ s2
 refine kmk_tree PySem.F.kind_max PySem.F.plain_max PySem.F.entry_max (TF _ _) ?_
 show wpAny _ X.A.in1 (Builtin.Builtins.bindParams "max" ["key","default"] 0 ⟨[],[(Str.ofString "default",dv)]⟩ >>=_) _ _ s2
 refine wpAny_bind (wpAny_of_eq (show Builtin.Builtins.bindParams "max" ["key","default"] 0 ⟨[],[(Str.ofString "default",dv)]⟩=pure [none,some dv] from rfl) ?_)
 refine wpAny_bind (wpAny_pure ?_)
 rw[hname]
 cases hns:ns with
 |cons n0 ns'=>
  refine TJ (kw:=[(Str.ofString "default",dv)]) (I2.ok.hd hc) (Y8 hl2 q) u0 (λ_ _ _ h=>h) I2 hl2 (x0:=.int n0) (by rw[hns];rfl) ⟨rfl,n0,by rw[hns];rfl,rfl,λi z hi hz=>?_⟩
  have:i=0:=by lia
  subst this
  rw[hns]at hz
  cases hz
  exact Int.le_refl _
 | nil=>
  rw[hns]at hl2
  have I2':=I2.in1
  have hh:X.A.handled=none:=I2.ok.hd hc
  obtain⟨its,rv,pl,_⟩:=I2'.list (SqL.of hl2)
  have e0:its.toArray.size=0:=by rw[size_toArray];exact rv.length.symm
  refine wpAny_bind (wpAny_pyIter_list pl.isList ?_)
  refine wpAny_bind (wpAny_newList ?_ (Nat.zero_le _))
  refine wpAny_pure ⟨plainId_quiet PySem.F.plain_max_loop _,?_⟩
  have ltl:l<s2.heap.objs.size:=by obtain⟨o,e,_⟩:=pl.isList;exact Heap.lt_size e
  have gI:((s2.heap.push { cls:=.type "list_iterator",data:=.fields #[.ref l,.int 0 0] }).push (seqObj "list" #[] 0)).get? s2.heap.objs.size=some { cls:=.type "list_iterator",data:=.fields #[.ref l,.int 0 0] }:=Heap.get?_push_of_some _ (Heap.get?_push_size _ rfl)
  have gS:((s2.heap.push { cls:=.type "list_iterator",data:=.fields #[.ref l,.int 0 0] }).push (seqObj "list" #[] 0)).get? (s2.heap.push { cls:=.type "list_iterator",data:=.fields #[.ref l,.int 0 0] }).objs.size=some (seqObj "list" #[] 0):=Heap.get?_push_size _ rfl
  have up:∀b o,s2.heap.get? b=some o->((s2.heap.push { cls:=.type "list_iterator",data:=.fields #[.ref l,.int 0 0] }).push (seqObj "list" #[] 0)).get? b=some o:=λb o e=>Heap.get?_push_of_some _ (Heap.get?_push_of_some _ e)
  have pl4:((s2.heap.push { cls:=.type "list_iterator",data:=.fields #[.ref l,.int 0 0] }).push (seqObj "list" #[] 0)).IsList l its.toArray:=by
   obtain⟨o,e,r⟩:=pl.isList
   exact⟨o,up _ _ e,r⟩
  refine codeAny_builtin PySem.F.entry_max_loop ?_
  rw[Around.under_plainId PySem.F.plain_max_loop _]
  show wpAny _ X.A.in1 (seqItems? (.ref (s2.heap.push { cls:=.type "list_iterator",data:=.fields #[.ref l,.int 0 0] }).objs.size) >>=_) _ _ _
  refine wpAny_bind (wpAny_seqItems gS rfl ?_)
  have Wk:=Walks.list (prog:=X.prog) (w:=X.w) (A:=X.A.in1) hh s2.heap.objs.size l (Nat.ne_of_lt ltl) its.toArray
  show wpAny _ X.A.in1 (tryCatch (pyNext (.ref s2.heap.objs.size)) _ >>=_) _ _ _
  refine wpAny_bind (wpAny_tryCatch (Wk.done _ _ _ ⟨by rw[e0];exact⟨_,gI,rfl,rfl⟩,pl4⟩ λh' tk' hk'=>?_))
  refine wpAny_bind (wpAny_rule (wpAny_pure ?_))
  refine⟨d,H2,I2.kept (t':=tk') λb o e=>hk' b o ?_ (up b o e),rd,q0 hns⟩
  intro hm
  rcases mem_singleton.mp hm with z
  exact absurd (Heap.lt_size e) (by rw[z];exact Nat.lt_irrefl _)
theorem VS{e de:Expr}{p pos kpos:Pos}{tl:TA}{td:TE}(hg:Gl X "max")(hm:X.mg "max"=none)(hl:PA X [e] tl)(hd:PE X de td)(hc:X.calm=true:=by rfl)(he:starEach [e] X.env=[(false,eval e X.env)]:=by rfl):
  PE X (.Call (.Name "max" p) [e] [⟨some "default",de,kpos⟩] pos) (rO tl td):=QU hc hg hm hl hd he
section
variable{σ:St}{H:Hp}{Q:VK}{K:PySem.W.Frag}
theorem OH{tl:TA}{td:TE}(h:tl σ H λvs H1=>td σ H1 λd H2=>∃l ns,vs=[.ref l]/\H2 l=some (.lst (ns.map V.int))/\(ns=[]->Q d H2)/\∀M:Int,M∈ns->(∀a∈ns,a<=M)->Q (.int M) H2):rO tl td σ H Q:=h
end
end
section
variable{κ:Type}[DecidableEq κ]
noncomputable def bV(kvs:List (κ×V))(k:κ):Option V:=(kvs.find? λkv=>decide (kv.1=k)).map (·.2)
noncomputable def cE(kvs:List (κ×V))(k:κ)(v:V):List (κ×V):=
 if(kvs.any λkv=>decide (kv.1=k))=true then kvs.map (λkv=>if kv.1=k then(kv.1,v) else kv) else kvs++[(k,v)]
noncomputable def HC(kvs:List (κ×V))(k:κ):List (κ×V):=kvs.filter λkv=>decide (kv.1≠k)
theorem KO{k:κ}:bV ([]:List (κ×V)) k=none:=rfl
theorem lT{p:κ×V}{r:List (κ×V)}{k:κ}(e:p.1=k):bV (p::r) k=some p.2:=by simp[bV,List.find?_cons,e]
theorem j7{p:κ×V}{r:List (κ×V)}{k:κ}(e:¬p.1=k):bV (p::r) k=bV r k:=by simp[bV,List.find?_cons,e]
theorem rD(k:κ):∀kvs:List (κ×V),(kvs.any λkv=>decide (kv.1=k))=(bV kvs k).isSome
 |[]=>rfl
 |p::r=>by
  rw[any_cons]
  by_cases e:p.1=k
  ·simp only[lT e,decide_eq_true e,Bool.true_or,Option.isSome_some]
  ·rw[j7 e,decide_eq_false e,Bool.false_or];exact rD k r
theorem pM(kvs:List (κ×V))(k:κ)(v:V):(cE kvs k v).length<=kvs.length+1:=by
 unfold cE
 split
 ·rw[length_map];lia
 ·rw[length_append,length_cons,length_nil];lia
theorem EG{kvs:List (κ×V)}{k:κ}(v:V)(h:bV kvs k=none):cE kvs k v=kvs++[(k,v)]:=by
 unfold cE
 rw[rD,h]
 exact if_neg (by decide)
theorem RelO.isSome_eq{o:Option V}{u:Option Value}(r:RelO o u):o.isSome=u.isSome:=by
 cases o with
 |none=>cases u with
  |none=>rfl
  |some _=>exact(show False from r).elim
 |some _=>cases u with
  |none=>exact(show False from r).elim
  |some _=>rfl
theorem RelO.getD{o:Option V}{u:Option Value}{d:V}{d':Value}(r:RelO o u)(rd:RelV d d'):RelV (o.getD d) (u.getD d'):=by
 cases o with
 |none=>cases u with
  |none=>exact rd
  |some _=>exact(show False from r).elim
 |some _=>cases u with
  |none=>exact(show False from r).elim
  |some _=>exact r
theorem KV.val{kvs:List (κ×V)}{vs:List (κ×Value)}(r:KV kvs vs)(k:κ):RelO (bV kvs k) (valueAt vs k):=by
 unfold KV at r
 induction r with
 |nil=>exact True.intro
 | @cons p q ps qs h t ih=>
  obtain⟨h1,h2⟩:=h
  by_cases e:p.1=k
  ·have e':q.1=k:=h1.symm.trans e
   have b:valueAt (q::qs) k=some q.2:=by simp[valueAt,List.find?_cons,e']
   rw[lT e,b];exact h2
  ·have e':¬q.1=k:=λz=>e (h1.trans z)
   have b:valueAt (q::qs) k=valueAt qs k:=by simp[valueAt,List.find?_cons,e']
   rw[j7 e,b];exact ih
theorem KV.any{kvs:List (κ×V)}{vs:List (κ×Value)}(r:KV kvs vs)(k:κ):(kvs.any λkv=>decide (kv.1=k))=vs.any λkv=>decide (kv.1=k):=by
 unfold KV at r
 induction r with
 |nil=>rfl
 |cons h t ih=>rw[any_cons,any_cons,ih,h.1]
theorem KV.repl{kvs:List (κ×V)}{vs:List (κ×Value)}(r:KV kvs vs)(k:κ){y:V}{u:Value}(ry:RelV y u):
  KV (kvs.map λkv=>if kv.1=k then(kv.1,y) else kv) (vs.map λkv=>if kv.1=k then(kv.1,u) else kv):=by
 unfold KV at r ⊢
 induction r with
 |nil=>exact .nil
 |@cons p q ps qs h t ih=>
  rw[map_cons,map_cons]
  refine .cons ?_ ih
  obtain⟨h1,h2⟩:=h
  by_cases e:p.1=k
  ·rw[if_pos e,if_pos (h1.symm.trans e)];exact⟨h1,ry⟩
  ·rw[if_neg e,if_neg (λz=>e (h1.trans z))];exact⟨h1,h2⟩
theorem KV.put{kvs:List (κ×V)}{vs:List (κ×Value)}(r:KV kvs vs)(k:κ){y:V}{u:Value}(ry:RelV y u):KV (cE kvs k y) (stored vs k u):=by
 unfold cE stored
 rw[r.any k]
 by_cases e:(vs.any λkv=>decide (kv.1=k))=true
 ·rw[if_pos e,if_pos e];exact r.repl k ry
 ·rw[if_neg e,if_neg e];exact Paired.snoc r ⟨rfl,ry⟩
theorem KV.drop{kvs:List (κ×V)}{vs:List (κ×Value)}(r:KV kvs vs)(k:κ):KV (HC kvs k) (without vs k):=by
 unfold KV at r ⊢
 unfold HC without
 induction r with
 |nil=>exact .nil
 | @cons p q ps qs h t ih=>
  obtain⟨h1,h2⟩:=h
  rw[filter_cons,filter_cons]
  by_cases e:p.1=k
  ·have a:¬decide (p.1≠k)=true:=by simp[e]
   have b:¬decide (q.1≠k)=true:=by simp[h1.symm.trans e]
   rw[if_neg a,if_neg b];exact ih
  ·have e':¬q.1=k:=λz=>e (h1.trans z)
   have a:decide (p.1≠k)=true:=by simp[e]
   have b:decide (q.1≠k)=true:=by simp[e']
   rw[if_pos a,if_pos b];exact .cons ⟨h1,h2⟩ ih
theorem KV.length{kvs:List (κ×V)}{vs:List (κ×Value)}(r:KV kvs vs):kvs.length=vs.length:=Paired.length r
end
theorem pO{P:Program}{w:World}{k:aG}{u:Value}(r:RelV (kV k) u):(dC P w).is k u=true:=by
 cases k with
 |inl i=>obtain⟨t,e⟩:=(show ∃t,u=Value.int i t from r);subst e;exact S0 P w i t
 |inr x=>obtain⟨t,e⟩:=(show ∃t,u=Value.str x t from r);subst e;exact SZ P w x t
theorem GH{P:Program}{w:World}:∀{ks:List aG}{us:List Value},Vals (ks.map kV) us->ItemsAre (dC P w) ks us
 |[],_,r=>by rw[map_nil]at r;cases r;exact .nil
 |k::ks,_,r=>by
  rw[map_cons]at r
  cases r with
  |cons h t=>exact .cons (pO h) (GH t)
noncomputable abbrev KT(H:Hp):List (List aG×V)->List (List aG×Addr×Value)->Prop:=Paired λp q=>p.1=q.1/\H q.2.1=some (.tup (p.1.map kV))/\RelV p.2 q.2.2
theorem KT.val{H:Hp}{kvs:List (List aG×V)}{xs:List (List aG×Addr×Value)}(r:KT H kvs xs)(k:List aG):RelO (bV kvs k) ((atKey xs k).map (·.2)):=by
 induction r with
 |nil=>exact True.intro
 | @cons p q ps qs h t ih=>
  obtain⟨h1,_,h2⟩:=h
  by_cases e:p.1=k
  ·have e':q.1=k:=h1.symm.trans e
   have b:atKey (q::qs) k=some q.2:=by simp[atKey,List.find?_cons,e']
   rw[lT e,b];exact h2
  ·have e':¬q.1=k:=λz=>e (h1.trans z)
   have b:atKey (q::qs) k=atKey qs k:=by simp[atKey,List.find?_cons,e']
   rw[j7 e,b];exact ih
theorem KT.repl{H:Hp}{kvs:List (List aG×V)}{xs:List (List aG×Addr×Value)}(r:KT H kvs xs)(k:List aG){y:V}{u:Value}(ry:RelV y u):
  KT H (kvs.map λkv=>if kv.1=k then(kv.1,y) else kv) (xs.map (putAt k u)):=by
 induction r with
 |nil=>exact .nil
 |@cons p q ps qs h t ih=>
  rw[map_cons,map_cons]
  refine .cons ?_ ih
  obtain⟨h1,h2,h3⟩:=h
  unfold putAt
  by_cases e:p.1=k
  ·rw[if_pos e,if_pos (h1.symm.trans e)];exact⟨h1,h2,ry⟩
  ·rw[if_neg e,if_neg (λz=>e (h1.trans z))];exact⟨h1,h2,h3⟩
theorem KT.put{H:Hp}{kvs:List (List aG×V)}{xs:List (List aG×Addr×Value)}(r:KT H kvs xs)(k:List aG){b:Addr}{y:V}{u:Value}(hb:H b=some (.tup (k.map kV)))(ry:RelV y u):
  KT H (cE kvs k y) (storedH xs k b u):=by
 have e:(kvs.any λkv=>decide (kv.1=k))=(atKey xs k).isSome:=by
  rw[rD,(r.val k).isSome_eq,Option.isSome_map]
 unfold cE storedH
 rw[e]
 by_cases q:(atKey xs k).isSome=true
 ·rw[if_pos q,if_pos q];exact r.repl k ry
 ·rw[if_neg q,if_neg q];exact Paired.snoc r ⟨rfl,hb,ry⟩
theorem KT.keeps{H H':Hp}{kvs:List (List aG×V)}{xs:List (List aG×Addr×Value)}(r:KT H kvs xs)(ht:∀b ys,H b=some (.tup ys)->H' b=some (.tup ys)):KT H' kvs xs:=
 Paired.mapP r λ_ _ z=>⟨z.1,ht _ _ z.2.1,z.2.2⟩
section
variable{P:Program}{w:World}{H:Hp}{h:Heap}{a:Addr}
theorem DP{u:HO}(ok:HOk P w H h)(e:Rd H a u):ObjOk P w H h a u:=e.ok ok
theorem nB{kvs:List (aG×V)}(ok:HOk P w H h)(e:Rd H a (.dK kvs)):kvs.length<=sizeLine/\(a==sysModules)=false/\∃vs,KV kvs vs/\h.DictOf (dC P w) a vs:=
 show ObjOk P w H h a (.dK kvs) from DP ok e
theorem HI{kvs:List (aG×V)}(ok:HOk P w H h)(e:H a=some (.dK kvs)):kvs.length<=sizeLine/\(a==sysModules)=false/\∃vs,KV kvs vs/\h.DictOf (dC P w) a vs:=nB ok (.inl e)
theorem mJ{ks:List aG}(ok:HOk P w H h)(e:H a=some (.tup (ks.map kV))):(tupleKind (dC P w)).is h ks a:=by
 obtain⟨_,its,r,⟨o,h1,h2,n,h3⟩,_⟩:=(show ObjOk P w H h a (.tup (ks.map kV)) from ok a _ e)
 exact⟨o,its.toArray,n,h1,h2,h3,by simpa using GH r⟩
theorem mZ{kvs:List (List aG×V)}(ok:HOk P w H h)(e:Rd H a (.dT kvs)):kvs.length<=sizeLine/\(a==sysModules)=false/\
  ∃xs,KT H kvs xs/\h.DictOfH (tupleKind (dC P w)) a xs:=by
 obtain⟨z,y,xs,r,o,es,ep,h1,h2,h3,h4,h5⟩:=(show ObjOk P w H h a (.dT kvs) from DP ok e)
 refine⟨z,y,xs,r,o,es,ep,h1,h2,h3,h4,λx hx=>?_,h5⟩
 have all:∀{l:List (List aG×V)}{m:List (List aG×Addr×Value)},KT H l m->∀x∈m,(tupleKind (dC P w)).is h x.1 x.2.1:=by
  intro l m q
  induction q with
  |nil=>intro x hx;exact nomatch hx
  | @cons p q ps qs hq t ih=>
   intro x hx
   rcases mem_cons.mp hx with e|hx
   ·subst e
    exact mJ ok (by rw[<-hq.1];exact hq.2.1)
   ·exact ih x hx
 exact all r x hx
theorem w6{kvs:List (List aG×V)}(ok:HOk P w H h)(e:H a=some (.dT kvs)):kvs.length<=sizeLine/\(a==sysModules)=false/\
  ∃xs,KT H kvs xs/\h.DictOfH (tupleKind (dC P w)) a xs:=mZ ok (.inl e)
end
noncomputable def DGet(H:Hp)(a:Addr)(y:V)(r:Option V):Prop:=
 (∃kvs k,Rd H a (.dK kvs)/\y=kV k/\r=bV kvs k)\/∃kvs k b,Rd H a (.dT kvs)/\y=.ref b/\H b=some (.tup (k.map kV))/\r=bV kvs k
noncomputable def DPut(H:Hp)(a:Addr)(y v:V)(H':Hp):Prop:=
 (∃kvs k,H a=some (.dK kvs)/\y=kV k/\kvs.length<sizeLine/\H'=upd H a (.dK (cE kvs k v)))\/
 ∃kvs k b,H a=some (.dT kvs)/\y=.ref b/\H b=some (.tup (k.map kV))/\kvs.length<sizeLine/\H'=upd H a (.dT (cE kvs k v))
theorem DGet.k{H:Hp}{a:Addr}{kvs:List (aG×V)}{k:aG}(e:H a=some (.dK kvs)):DGet H a (kV k) (bV kvs k):=.inl ⟨kvs,k,.inl e,rfl,rfl⟩
theorem DGet.t{H:Hp}{a b:Addr}{kvs:List (List aG×V)}{k:List aG}(e:H a=some (.dT kvs))(eb:H b=some (.tup (k.map kV))):DGet H a (.ref b) (bV kvs k):=.inr ⟨kvs,k,b,.inl e,rfl,eb,rfl⟩
theorem DPut.k{H:Hp}{a:Addr}{kvs:List (aG×V)}{k:aG}{v:V}(e:H a=some (.dK kvs))(hl:kvs.length<sizeLine):DPut H a (kV k) v (upd H a (.dK (cE kvs k v))):=.inl ⟨kvs,k,e,rfl,hl,rfl⟩
theorem DPut.t{H:Hp}{a b:Addr}{kvs:List (List aG×V)}{k:List aG}{v:V}(e:H a=some (.dT kvs))(eb:H b=some (.tup (k.map kV)))(hl:kvs.length<sizeLine):
  DPut H a (.ref b) v (upd H a (.dT (cE kvs k v))):=.inr ⟨kvs,k,b,e,rfl,eb,hl,rfl⟩
section
variable{X:Cx}{pins:List (Addr×Obj)}{σ:St}{H:Hp}{s:Shared}{a:Addr}{y v:V}{u r:Value}{o:Option V}{A:Around}{E:Value->Shared->Prop}
theorem Inv.big(I:Inv X pins σ H s):sysModules<s.heap.objs.size:=by
 have h:mainGlobals<s.heap.objs.size:=(I.mod.glob.keeps I.bk).lt
 exact Nat.lt_trans (by decide) h
theorem XW{Q:Value->Shared->Prop}(hu:A.units+1<cLine)(I:Inv X pins σ H s)(g:DGet H a y (some v))(ry:RelV y u)(h:∀w' s',Inv X pins σ H s'->RelV v w'->Q w' s'):
  wpAny (model X.prog X.w) A (getItem (.ref a) u) Q E s:=by
 rcases g with⟨kvs,k,e,ey,l⟩|⟨kvs,k,b,e,ey,eb,l⟩
 ·subst ey
  obtain⟨z,hd,vs,rel,dd⟩:=nB I.hok e
  obtain⟨w',hw,rw'⟩:=RelO.some_of (v:=v) (o:=valueAt vs k) (by rw[l];exact rel.val k)
  exact wpAny_getItem_of (pO ry) dd.mapOf hw (h w' _ (I.tok _) rw')
 ·subst ey
  cases(show u=Value.ref b from ry)
  obtain⟨z,hd,xs,rel,dd⟩:=mZ I.hok e
  obtain⟨w',hw,rw'⟩:=RelO.some_of (v:=v) (o:=(atKey xs k).map (·.2)) (by rw[l];exact rel.val k)
  obtain⟨p,hp,hp2⟩:=Option.map_eq_some_iff.mp hw
  refine wpAny_getItem_heap (tupleKind_room_in1 hu) (mJ I.hok eb) dd hp ?_
  rw[hp2]
  exact h w' _ (I.tok _) rw'
theorem XV{Q:Value->Shared->Prop}(hu:A.units+1<cLine)(I:Inv X pins σ H s)(g:DGet H a y o)(ry:RelV y u)(h:∀s',Inv X pins σ H s'->Q (.bool (!o.isSome)) s'):
  wpAny (model X.prog X.w) A (compareOp .NotIn u (.ref a)) Q E s:=by
 rcases g with⟨kvs,k,e,ey,l⟩|⟨kvs,k,b,e,ey,eb,l⟩
 ·subst ey
  obtain⟨z,hd,vs,rel,dd⟩:=nB I.hok e
  refine wpAny_notIn_of (pO ry) hd dd.mapOf ?_
  rw[<-(rel.val k).isSome_eq,<-l]
  exact h _ (I.tok _)
 ·subst ey
  cases(show u=Value.ref b from ry)
  obtain⟨z,hd,xs,rel,dd⟩:=mZ I.hok e
  refine wpAny_notIn_heap (tupleKind_room_in1 hu) (mJ I.hok eb) hd dd ?_
  have q:=(rel.val k).isSome_eq
  rw[Option.isSome_map]at q
  rw[<-q,<-l]
  exact h _ (I.tok _)
theorem xC{h':Heap}{t':Nat}{ob:HO}(I:Inv X pins σ H s)(mu:nR (H a))(hs:Heap.SameBut a s.heap h')(he:∃q,h'.get? a=some q)(new:ObjOk X.prog X.w (upd H a ob) h' a ob):
  Inv X pins σ (upd H a ob) { s with heap:=h',toks:=t' }:=
 I.write (x:=a) (e:=a) mu (.inl rfl) (λb q hb z=>(hs.2 b hb).trans z) he new
theorem XM{P:Program}{w:World}{H':Hp}{h':Heap}{kvs:List (aG×V)}{vs:List (aG×Value)}(z:kvs.length<=sizeLine)(hd:(a==sysModules)=false)(rel:KV kvs vs)(dd:h'.DictOf (dC P w) a vs):
  ObjOk P w H' h' a (.dK kvs):=⟨z,hd,vs,rel,dd⟩
theorem XU{H':Hp}{Q:Unit->Shared->Prop}(hu:A.units+1<cLine)(I:Inv X pins σ H s)(g:DPut H a y v H')(ry:RelV y u)(rv:RelV v r)(h:∀s',Inv X pins σ H' s'->Q () s'):
  wpAny (model X.prog X.w) A (setItem (.ref a) u r) Q E s:=by
 rcases g with⟨kvs,k,e,ey,l,eH⟩|⟨kvs,k,b,e,ey,eb,l,eH⟩
 ·subst ey eH
  obtain⟨z,hd,vs,rel,dd⟩:=HI I.hok e
  have hz:vs.length<=sizeLine:=by rw[<-rel.length];exact z
  have hl:(cE kvs k v).length<=sizeLine:=by have:=pM kvs k v;lia
  refine wpAny_setItem_pairs (hsz:=hz) (pO ry) dd λh' dd' hs=>h _ ?_
  have he:∃q,h'.get? a=some q:=let⟨q,_,_,hq,_⟩:=dd';⟨q,hq⟩
  exact xC I (by rw[e];exact True.intro) hs he (XM hl hd (rel.put k rv) dd')
 ·subst ey eH
  cases(show u=Value.ref b from ry)
  obtain⟨z,hd,xs,rel,dd⟩:=w6 I.hok e
  have hz:xs.length<=sizeLine:=by rw[<-Paired.length rel];exact z
  have hl:(cE kvs k v).length<=sizeLine:=by have:=pM kvs k v;lia
  refine wpAny_setItem_heap (hsz:=hz) (tupleKind_room_in1 hu) (mJ I.hok eb) dd λh' dd' hs=>h _ ?_
  obtain⟨q,es,ep,hq,h2,h3,h4,_,h5⟩:=dd'
  refine xC I (by rw[e];exact True.intro) hs ⟨q,hq⟩ ⟨hl,hd,_,(rel.put k eb rv).keeps λc ys ec=>?_,q,es,ep,hq,h2,h3,h4,h5⟩
  rw[aE (gT ec e (λz=>nomatch z))]
  exact ec
end
section
variable{X:Cx}{pins:List (Addr×Obj)}{σ:St}{H:Hp}{s:Shared}{a:Addr}{kvs:List (aG×V)}{k:aG}{u:Value}{A:Around}{E:Value->Shared->Prop}
end
noncomputable def IV(i:Expr):Prop:=∀ov iv,subscripted i false ov iv=operate [ov,iv] (getItem ov iv)
theorem LJ{prog:Program}{w:World}{A:Around}{E:Value->Shared->Prop}{s:Shared}{env:Env}{value slice:Expr}{pos:Pos}{T id:String}{Q:Value->Shared->Prop}
  (hl:typeLookup (.type T) "__getitem__"=pure (some (.builtin id))) (hs:IV slice)
  (h:wpAny (model prog w) A (eval value env) (λo s₁=>wpAny (model prog w) A (eval slice env) (λi s₂=>s₂.TypeIs o T/\wpAny (model prog w) A (getItem o i) Q E s₂) E s₁) E s):
  wpAny (model prog w) A (eval (.Subscript value slice pos) env) Q E s:=by
 refine Subscript_ (wpAny_mono h (λo s₁ h₁=>wpAny_mono h₁ (λi s₂ h₂=>?_) λ_ _ x=>x) λ_ _ x=>x)
 obtain⟨hT,h₂⟩:=h₂
 unfold subscriptTail
 refine wpAny_bind ?_
 rw[getitemInPython_of_ne hT.not_modules]
 refine wpAny_bind (wpAny_specialOf hT hl ?_)
 have fin:wpAny (model prog w) A (subscripted slice false o i) (λr s₃=>wpAny (model prog w) A (letTemporaryGo value o r >>=λ_=>pure r) Q E s₃) E s₂:=by
  rw[hs o i]
  exact wpAny_operating (wpAny_mono h₂ (λr s₃ h₃=>wpAny_bind (wpAny_letTemporaryGo (wpAny_pure h₃))) λ_ _ x=>x)
 first
  |exact wpAny_pure (wpAny_bind fin)
  |exact wpAny_bind (wpAny_pure (wpAny_bind fin))
  |exact wpAny_bind fin
theorem XO{X:Cx}{pins:List (Addr×Obj)}{σ:St}{H:Hp}{s:Shared}{a:Addr}{y:V}{o:Option V}(I:Inv X pins σ H s)(g:DGet H a y o):s.TypeIs (.ref a) "dict":=by
 rcases g with⟨kvs,k,e,_,_⟩|⟨kvs,k,b,e,_,_,_⟩
 ·obtain⟨_,_,vs,_,dd⟩:=nB I.hok e
  exact dd.typeIs
 ·obtain⟨_,_,xs,_,dd⟩:=mZ I.hok e
  exact dd.typeIs
noncomputable def BL(td ty:TE):TE:=λσ H Q=>td σ H λx H1=>ty σ H1 λy H2=>∃a v,x=.ref a/\DGet H2 a y (some v)/\Q v H2
noncomputable def BK(ty td:TE):TE:=λσ H Q=>ty σ H λy H1=>td σ H1 λx H2=>∃a o,x=.ref a/\DGet H2 a y o/\Q (.bl (!o.isSome)) H2
noncomputable def C5(td ty tv:TE):TS:=λD σ H=>tv σ H λv H1=>td σ H1 λx H2=>ty σ H2 λy H3=>∃a H4,x=.ref a/\DPut H3 a y v H4/\D.nx σ H4
section
variable{X:Cx}{o i e value:Expr}{pos pos' tpos:Pos}{td ty tv:TE}
theorem jS(hu:X.A.units+1<cLine)(ho:PE X o td)(hi:PE X i ty)(hs:IV i):PE X (.Subscript o i pos) (BL td ty):=by
 intro pins s σ H Q I h
 refine LJ PySem.F.slot_dict_getitem.lookup hs (aH (ho pins s σ H _ I h) λu s1⟨x,H1,I1,rx,q1⟩=>aH (hi pins s1 σ H1 _ I1 q1) λiv s2⟨y,H2,I2,ry,a,v,ex,g,q2⟩=>?_)
 subst ex
 obtain rfl:u=Value.ref a:=rx
 exact⟨XO I2 g,XW hu I2 g ry λw' s3 I3 rw'=>⟨v,H2,I3,rw',q2⟩⟩
theorem o4(hu:X.A.units+1<cLine)(hi:PE X i ty)(ho:PE X o td):PC X .NotIn i o (BK ty td):=by
 intro pins s σ H Q I h
 refine aH (hi pins s σ H _ I h) λiv s1⟨y,H1,I1,ry,q1⟩=>aH (ho pins s1 σ H1 _ I1 q1) λu s2⟨x,H2,I2,rx,a,ov,ex,g,q2⟩=>?_
 subst ex
 obtain rfl:u=Value.ref a:=rx
 exact XV hu I2 g ry λs3 I3=>⟨.bl (!ov.isSome),H2,I3,rfl,q2⟩
theorem EJ(hu:X.A.units+1<cLine)(ho:PE X o td)(hi:PE X i ty)(hv:PE X value tv)(hs:swapsWith value (some (.Subscript o i pos')) pos.line X.env=pure false):
  PS X (.Assign [.Subscript o i pos'] value pos) (C5 td ty tv):=by
 intro pins s σ H D I h
 refine wpAny_Assign_Subscript (aH (hv pins s σ H _ I h) λr s1⟨v,H1,I1,rv,q1⟩=>aH (ho pins s1 σ H1 _ I1 q1) λu s2⟨x,H2,I2,rx,q2⟩=>aH (hi pins s2 σ H2 _ I2 q2) λiv s3⟨y,H3,I3,ry,a,H4,ex,g,q3⟩=>?_) hs
 subst ex
 obtain rfl:u=Value.ref a:=rx
 exact XU hu I3 g ry rv λs4 I4=>⟨σ,H4,I4,q3⟩
end
theorem XN{P:Program}{w:World}{H:Hp}(h:Heap)(hb:sysModules<h.objs.size):ObjOk P w H (h.push { cls:=.type "dict",data:=.dict #[] }) h.objs.size (.dK []):=
 ⟨Nat.zero_le _,beq_eq_false_iff_ne.mpr (Ne.symm (Nat.ne_of_lt hb)),[],.nil,Heap.DictOf.new h⟩
theorem XC{P:Program}{w:World}{H:Hp}(h:Heap)(hb:sysModules<h.objs.size):ObjOk P w H (h.push { cls:=.type "dict",data:=.dict #[] }) h.objs.size (.dT []):=
 ⟨Nat.zero_le _,beq_eq_false_iff_ne.mpr (Ne.symm (Nat.ne_of_lt hb)),[],.nil,_,#[],0,Heap.get?_push_size _ rfl,⟨rfl,rfl,rfl⟩,rfl,rfl,nodup_nil⟩
noncomputable def LI:TE:=λ_ H Q=>∀p,H p=none->Q (.ref p) (upd H p (.dK []))
section
variable{X:Cx}{pos:Pos}
theorem uY:PE X (.Dict [] [] pos) LI:=λpins s σ H Q I h=>
 wpAny_Dict_empty ⟨.ref s.heap.objs.size,_,I.laid (a:=s.heap.objs.size) (o:=.dK []) (t':=s.toks) (λ_ _ q=>Heap.get?_push_of_some _ q) (Nat.le_refl _) (XN s.heap I.big),rfl,h _ (I.hok.fresh (Nat.le_refl _))⟩
end
noncomputable def S2(kvs more:List (aG×V)):List (aG×V):=more.foldl (λacc kv=>cE acc kv.1 kv.2) kvs
theorem KV.merge:∀{more:List (aG×V)}{rs:List (aG×Value)}{kvs:List (aG×V)}{vs:List (aG×Value)},KV more rs->KV kvs vs->KV (S2 kvs more) (merged vs rs):=by
 intro more rs kvs vs r
 unfold KV at r
 induction r generalizing kvs vs with
 |nil=>intro q;exact q
 | @cons p q ps qs h t ih=>
  intro r0
  have e:KV (cE kvs p.1 p.2) (stored vs q.1 q.2):=by
   have:=r0.put p.1 h.2
   rw[<-h.1];exact this
  exact ih e
structure M1 (X:Cx) (o:Expr) (m:Str) (apos:Pos) (e:Expr) (cpos:Pos):Prop where
 base:attributeBase o m X.env (eval o X.env)=eval o X.env
 mX:((backTo cpos (starEach [e] X.env)).all (λx=> !x.1)&&(backToKw cpos (keywordEach [] X.env)).all (λx=>x.1.isSome)
  &&decide (([e]:List Expr).length+([]:List Keyword).length+(if([]:List Keyword).isEmpty then 0 else 1)<30))=true
 line:(apos.endLine==cpos.line)=true
 trees:backTo cpos (starEach [e] X.env)=[(false,eval e X.env)]
structure M2 (X:Cx) (o:Expr) (m:Str) (apos:Pos) (e f:Expr) (cpos:Pos):Prop where
 base:attributeBase o m X.env (eval o X.env)=eval o X.env
 mX:((backTo cpos (starEach [e,f] X.env)).all (λx=> !x.1)&&(backToKw cpos (keywordEach [] X.env)).all (λx=>x.1.isSome)
  &&decide (([e,f]:List Expr).length+([]:List Keyword).length+(if([]:List Keyword).isEmpty then 0 else 1)<30))=true
 line:(apos.endLine==cpos.line)=true
 trees:backTo cpos (starEach [e,f] X.env)=[(false,eval e X.env),(false,eval f X.env)]
noncomputable def IsD(H:Hp)(a:Addr):Prop:=(∃kvs,Rd H a (.dK kvs))\/∃kvs,Rd H a (.dT kvs)
theorem WD{X:Cx}{pins:List (Addr×Obj)}{σ:St}{H:Hp}{s:Shared}{a:Addr}(I:Inv X pins σ H s)(d:IsD H a):
  s.TypeIs (.ref a) "dict"/\(∀b,Value.ref a=.ref b->∃ob,s.heap.get? b=some ob/\ob.dict=none)/\(a==sysModules)=false:=by
 rcases d with⟨kvs,e⟩|⟨kvs,e⟩
 ·obtain⟨_,hd,vs,_,dd⟩:=nB I.hok e
  refine⟨dd.typeIs,λb q=>?_,hd⟩
  cases q
  obtain⟨ob,_,_,h1,h2,_⟩:=dd
  exact⟨ob,h1,h2.2.1⟩
 ·obtain⟨_,hd,xs,_,dd⟩:=mZ I.hok e
  refine⟨dd.typeIs,λb q=>?_,hd⟩
  cases q
  obtain⟨ob,_,_,h1,h2,_⟩:=dd
  exact⟨ob,h1,h2.2.1⟩
section
variable{X:Cx}{pins:List (Addr×Obj)}{σ:St}{H:Hp}{s:Shared}{a:Addr}{y d:V}{u r:Value}{o:Option V}{A:Around}{E:Value->Shared->Prop}
end
section
variable{X:Cx}{o e f:Expr}{apos cpos:Pos}{td ty tx:TE}
end
section
variable{X:Cx}{pins:List (Addr×Obj)}{σ:St}{H:Hp}{s:Shared}{a:Addr}{kvs:List (aG×V)}{A:Around}{E:Value->Shared->Prop}
end
section
variable{X:Cx}{pins:List (Addr×Obj)}{σ:St}{H:Hp}{s:Shared}{a:Addr}{y:V}{u:Value}{A:Around}{E:Value->Shared->Prop}
end
section
variable{X:Cx}
end
section
variable{K:PySem.W.Frag}{σ:St}{H:Hp}{Q:VK}
theorem VH(S:List Int):S.map V.int=(S.map (Sum.inl:Int->aG)).map kV:=by rw[map_map];rfl
theorem oP{td ty:TE}(h:ty σ H λy H1=>td σ H1 λx H2=>∃a o,x=.ref a/\DGet H2 a y o/\Q (.bl (!o.isSome)) H2):BK ty td σ H Q:=h
theorem iB{td ty:TE}(h:td σ H λx H1=>ty σ H1 λy H2=>∃a v,x=.ref a/\DGet H2 a y (some v)/\Q v H2):BL td ty σ H Q:=h
theorem DY{td ty tv:TE}{D:dN}(h:tv σ H λv H1=>td σ H1 λx H2=>ty σ H2 λy H3=>∃a H4,x=.ref a/\DPut H3 a y v H4/\D.nx σ H4):C5 td ty tv D σ H:=h
theorem WW{a b:Addr}{kvs:List (List aG×V)}{S:List Int}{o:Option V}(e:H a=some (.dT kvs))(eb:H b=some (.tup (S.map V.int)))(ho:bV kvs (S.map Sum.inl)=o):DGet H a (.ref b) o:=by
 rw[<-ho]
 exact DGet.t e (by rw[<-VH];exact eb)
end
section
variable{P:Program}{w:World}{K:PySem.W.Frag}{mg:Str->Option Value}{base:Heap}{CX:cX}{k:Nat}{f:Addr}{fd:FuncData}{ps:List Str}{sp sp':Sp}
theorem FnOk.lift(F:FnOk P w K mg base aU k f fd ps sp):FnOk P w K mg base (cM P w) k f fd ps sp:=
 ⟨F.len,λA outer s H args us vs Q E hr he hb hv hs=>codeAny_mono (F.run A outer s H args us vs Q E hr he hb hv hs) λr s' h=>by
  cases r with
  |error e=>exact h.elim
  |ok fl=>
   cases fl with
   |ret u=>exact h
   |_=>exact h.elim⟩
theorem FnOk.or(F:FnOk P w K mg base CX k f fd ps sp)(G:FnOk P w K mg base CX k f fd ps sp'):FnOk P w K mg base CX k f fd ps (λvs H Q E=>sp vs H Q E\/sp' vs H Q E):=
 ⟨λvs H Q E h=>h.elim (F.len vs H Q E) (G.len vs H Q E),λA outer s H args us vs Q E hr he hb hv hs=>hs.elim (F.run A outer s H args us vs Q E hr he hb hv) (G.run A outer s H args us vs Q E hr he hb hv)⟩
end
end L2
namespace TS
open PySem PySem.Spec PyProof.Rows
noncomputable def fF:Bool->Keyed->Array Keyed->Nat->Nat->Nat->StateT SortSt Sem (Option Nat):=sortPriv% PySem.Builtin.gallop
noncomputable def jY(left:Bool)(key:Keyed)(arr:Array Keyed)(base i:Nat):StateT SortSt Sem (Option Bool):=do
 let x <-elem' arr (base+i)
 if left then lt' x key else return (<-lt' key x).map (!·)
theorem WY(left:Bool)(key:Keyed)(arr:Array Keyed)(base n hint:Nat):fF left key arr base n hint=(do
 let mut lastofs:=0
 let mut ofs:=1
 let mut lo:=0
 let mut hi:=0
 let some right <-jY left key arr base hint|return none
 if right then
  let maxofs:=n-hint
  for _ in [0:n] do
   if ofs>=maxofs then break
   let some more <-jY left key arr base (hint+ofs)|return none
   if !more then break
   lastofs:=ofs
   ofs:=2*ofs+1
  lo:=hint+lastofs+1
  hi:=hint+min ofs maxofs
 else
  let maxofs:=hint+1
  for _ in [0:n] do
   if ofs>=maxofs then break
   let some found <-jY left key arr base (hint-ofs)|return none
   if found then break
   lastofs:=ofs
   ofs:=2*ofs+1
  lo:=hint+1-min ofs maxofs
  hi:=hint-lastofs
 for _ in [0:n] do
  if lo>=hi then break
  let m:=lo+(hi-lo)/2
  let some more <-jY left key arr base m|return none
  if more then lo:=m+1 else hi:=m
 return some hi):=rfl
noncomputable def cW(prog:Program)(w:World)(A:Around)(s:Shared)(κ:SortKind)(r:Keyed->Nat)(S:Keyed->Prop):Prop:=
 ∀x y:Keyed,S x->S y->∀Q:Bool->Shared->Prop,Q (decide (r x<r y)) s->wpAny (model prog w) A (keyLt' κ x.1 y.1) Q (λ_ _=>False) s
section
variable{prog:Program}{w:World}{A:Around}{E:Value->Shared->Prop}{s:Shared}{κ:SortKind}{r:Keyed->Nat}{S:Keyed->Prop}
theorem lR(C:cW prog w A s κ r S){st:SortSt}{x y:Keyed}{Q:Option Bool->SortSt->Prop}(hk:kindOf st=κ)(hx:S x)(hy:S y)(h:Q (some (decide (r x<r y))) st):wpS (model prog w) A E s (lt' x y) Q st:=by
 rw[lt'_eq]
 refine wpS_bind (wpS_get ?_)
 rw[hk]
 refine wpS_bind (wpS_lift (wpAny_attempt (wpAny_mono (C x y hx hy (λb s'=>s'=s/\b=decide (r x<r y)) ⟨rfl,rfl⟩) (λb s' hb=>?_) λ_ _ e=>e.elim)))
 obtain⟨rfl,rfl⟩:=hb
 exact⟨rfl,wpS_pure h⟩
theorem cD{st:SortSt}{arr:Array Keyed}{i:Nat}{x:Keyed}{Q:Keyed->SortSt->Prop}(e:arr[i]? =some x)(h:Q x st):wpS (model prog w) A E s (elem' arr i) Q st:=by
 rw[elem'_eq,e]
 exact wpS_pure h
noncomputable def bC(left:Bool)(r:Keyed->Nat)(key x:Keyed):Bool:=if left then decide (r x<r key) else !decide (r key<r x)
theorem nY(C:cW prog w A s κ r S){left:Bool}{st:SortSt}{key x:Keyed}{arr:Array Keyed}{base i:Nat}{Q:Option Bool->SortSt->Prop}(hk:kindOf st=κ)(hx:S x)(hy:S key)
  (e:arr[base+i]? =some x) (h:Q (some (bC left r key x)) st):wpS (model prog w) A E s (jY left key arr base i) Q st:=by
 unfold jY
 refine wpS_bind (cD e ?_)
 cases left with
 |true=>
  simp only[if_true]
  exact lR C hk hx hy h
 |false=>
  simp only[Bool.false_eq_true,if_false]
  refine wpS_bind (lR C hk hy hx ?_)
  exact wpS_pure h
theorem AJ(C:cW prog w A s κ r S){left:Bool}{st:SortSt}{key:Keyed}{arr:Array Keyed}{base n lo hi:Nat}{Q:Option (Option Nat)×Nat×Nat->SortSt->Prop}(hk:kindOf st=κ)(hy:S key)(g:Nat->Keyed)
  (hg:∀i,i<n->arr[base+i]? =some (g i)/\S (g i)) (mono:∀i j,i<=j->j<n->bC left r key (g j)=true->bC left r key (g i)=true)
  (h1:lo<=hi) (h2:hi<=n) (h3:∀i,i<lo->bC left r key (g i)=true) (h4:∀i,hi<=i->i<n->bC left r key (g i)=false)
  (h:∀l k,k<=n->(∀i,i<k->bC left r key (g i)=true)->(∀i,k<=i->i<n->bC left r key (g i)=false)->Q (none,l,k) st):
  wpS (model prog w) A E s (forIn [:n] ((none,lo,hi):Option (Option Nat)×Nat×Nat) λx __s=>
        if __s.snd.fst>=__s.snd.snd then pure (ForInStep.done (none,__s.snd.fst,__s.snd.snd))
        else do
         let __x <-jY left key arr base (__s.snd.fst+(__s.snd.snd-__s.snd.fst)/2)
         match __x with
          | some more=>
           if more=true then
            pure (ForInStep.yield (none,__s.snd.fst+(__s.snd.snd-__s.snd.fst)/2+1,__s.snd.snd))
           else pure (ForInStep.yield (none,__s.snd.fst,__s.snd.fst+(__s.snd.snd-__s.snd.fst)/2))
          |x=>pure (ForInStep.done (some none,__s.snd.fst,__s.snd.snd))) Q st:=by
 refine wpS_forRange (I:=λx c st'=>st'=st/\∃l k,c=(none,l,k)/\l<=k/\k<=n/\k-l<=n-x/\(∀i,i<l->bC left r key (g i)=true)/\(∀i,k<=i->i<n->bC left r key (g i)=false)) ?step ?fin ⟨rfl,lo,hi,rfl,h1,h2,by lia,h3,h4⟩
 case fin=>
  rintro c st' ⟨rfl,l,k,rfl,a1,a2,a3,a4,a5⟩
  have:l=k:=by lia
  subst this
  exact h l l a2 a4 a5
 case step=>
  rintro x c st' _ hx ⟨rfl,l,k,rfl,a1,a2,a3,a4,a5⟩
  dsimp only
  by_cases hge:l>=k
  ·rw[if_pos hge]
   have:l=k:=by lia
   subst this
   exact wpS_pure (h l l a2 a4 a5)
  ·rw[if_neg hge]
   have hm:l+(k-l)/2<n:=by lia
   refine wpS_bind (nY C hk (hg _ hm).2 hy (hg _ hm).1 ?_)
   cases e:bC left r key (g (l+(k-l)/2)) with
   |true=>
    dsimp only
    rw[if_pos rfl]
    exact wpS_pure ⟨rfl,_,_,rfl,by lia,a2,by lia,λi hi=>mono i _ (by lia) hm e,a5⟩
   |false=>
    dsimp only
    rw[if_neg (by simp)]
    refine wpS_pure ⟨rfl,_,_,rfl,by lia,by lia,by lia,a4,λi h5 h6=>?_⟩
    cases q:bC left r key (g i) with
    |false=>rfl
    |true=>rw[mono _ i h5 h6 q]at e;cases e
theorem j6(C:cW prog w A s κ r S){left:Bool}{st:SortSt}{key:Keyed}{arr:Array Keyed}{base n hint:Nat}{Q:Option Nat->SortSt->Prop}(hk:kindOf st=κ)(hy:S key)(g:Nat->Keyed)
  (hg:∀i,i<n->arr[base+i]? =some (g i)/\S (g i)) (hm:∀i j,i<=j->j<n->r (g i)<=r (g j)) (hh:hint<n)
  (h:∀k,k<=n->(∀i,i<k->bC left r key (g i)=true)->(∀i,k<=i->i<n->bC left r key (g i)=false)->Q (some k) st):wpS (model prog w) A E s (fF left key arr base n hint) Q st:=by
 have mono:∀i j,i<=j->j<n->bC left r key (g j)=true->bC left r key (g i)=true:=λi j hij hj e=>by
  have:=hm i j hij hj
  unfold bC at e ⊢
  cases left <;> simp at e ⊢ <;> lia
 have monoF:∀i j,i<=j->j<n->bC left r key (g i)=false->bC left r key (g j)=false:=λi j hij hj e=>by
  cases q:bC left r key (g j) with
  |false=>rfl
  |true=>rw[mono i j hij hj q]at e;cases e
 rw[WY]
 refine wpS_bind (nY C hk (hg hint hh).2 hy (hg hint hh).1 ?_)
 cases e0:bC left r key (g hint) with
 | true=>
  simp only[if_true]
  refine wpS_bind (wpS_mono (wpS_forRange (I:=λx c st'=>st'=st/\∃l o,c=(none,l,o)/\l<o/\x<o/\hint+l<n/\bC left r key (g (hint+l))=true)
   (Q:=λc st'=>st'=st/\∃l o,c=(none,l,o)/\l<o/\hint+l<n/\bC left r key (g (hint+l))=true/\∀i,hint+min o (n-hint)<=i->i<n->bC left r key (g i)=false) ?step ?fin ⟨rfl,0,1,rfl,by lia,by lia,hh,e0⟩) ?post)
  case fin=>
   rintro c st' ⟨rfl,l,o,rfl,a1,a2,a3,a4⟩
   exact⟨rfl,l,o,rfl,a1,a3,a4,λi h5 h6=>by lia⟩
  case step=>
   rintro x c st' _ hx ⟨rfl,l,o,rfl,a1,a2,a3,a4⟩
   dsimp only
   by_cases hge:o>=n-hint
   ·rw[if_pos hge]
    exact wpS_pure ⟨rfl,l,o,rfl,a1,a3,a4,λi h5 h6=>by lia⟩
   ·rw[if_neg hge]
    have hn:hint+o<n:=by lia
    refine wpS_bind (nY C hk (hg _ hn).2 hy (hg _ hn).1 ?_)
    cases e:bC left r key (g (hint+o)) with
    |true=>
     dsimp only
     rw[if_neg (by simp)]
     exact wpS_pure ⟨rfl,_,_,rfl,by lia,by lia,hn,e⟩
    |false=>
     dsimp only
     rw[if_pos (by simp)]
     exact wpS_pure ⟨rfl,l,o,rfl,a1,a3,a4,λi h5 h6=>monoF _ i (by lia) h6 e⟩
  case post=>
   rintro c st' ⟨rfl,l,o,rfl,a1,a3,a4,a5⟩
   dsimp only
   refine wpS_bind (AJ C hk hy g hg mono (by lia) (by lia) (λi hi=>mono i _ (by lia) a3 a4) a5 λl k b1 b2 b3=>?_)
   exact wpS_pure (h k b1 b2 b3)
 | false=>
  simp only[Bool.false_eq_true,if_false]
  refine wpS_bind (wpS_mono (wpS_forRange (I:=λx c st'=>st'=st/\∃l o,c=(none,l,o)/\l<o/\x<o/\l<=hint/\bC left r key (g (hint-l))=false)
   (Q:=λc st'=>st'=st/\∃l o,c=(none,l,o)/\l<o/\l<=hint/\bC left r key (g (hint-l))=false/\∀i,i<hint+1-min o (hint+1)->bC left r key (g i)=true) ?step ?fin ⟨rfl,0,1,rfl,by lia,by lia,by lia,e0⟩) ?post)
  case fin=>
   rintro c st' ⟨rfl,l,o,rfl,a1,a2,a3,a4⟩
   exact⟨rfl,l,o,rfl,a1,a3,a4,λi h5=>by lia⟩
  case step=>
   rintro x c st' _ hx ⟨rfl,l,o,rfl,a1,a2,a3,a4⟩
   dsimp only
   by_cases hge:o>=hint+1
   ·rw[if_pos hge]
    exact wpS_pure ⟨rfl,l,o,rfl,a1,a3,a4,λi h5=>by lia⟩
   ·rw[if_neg hge]
    have hn:hint-o<n:=by lia
    refine wpS_bind (nY C hk (hg _ hn).2 hy (hg _ hn).1 ?_)
    cases e:bC left r key (g (hint-o)) with
    |false=>
     dsimp only
     rw[if_neg (by simp)]
     exact wpS_pure ⟨rfl,_,_,rfl,by lia,by lia,by lia,e⟩
    |true=>
     dsimp only
     rw[if_pos rfl]
     exact wpS_pure ⟨rfl,l,o,rfl,a1,a3,a4,λi h5=>mono i _ (by lia) hn e⟩
  case post=>
   rintro c st' ⟨rfl,l,o,rfl,a1,a3,a4,a5⟩
   dsimp only
   refine wpS_bind (AJ C hk hy g hg mono (by lia) (by lia) a5 (λi hi h6=>monoF _ i hi h6 a4) λl k b1 b2 b3=>?_)
   exact wpS_pure (h k b1 b2 b3)
end
noncomputable def vT:Array Keyed->Array Keyed->StateT SortSt Sem (Array Keyed):=sortPriv% PySem.Builtin.mergeLo
noncomputable def vU:Array Keyed->Array Keyed->StateT SortSt Sem (Array Keyed):=sortPriv% PySem.Builtin.mergeHi
noncomputable abbrev sg(st:SortSt)(g:Nat):SortSt:=SortSt.mk' (kindOf st) (arrOf st) (pendingOf st) g (failedOf st)
noncomputable def jG(g:Nat):StateT SortSt Sem Unit:=modify λs=>sg s g
theorem UI(a b:Array Keyed):vT a b=(do
 rule "list.sort.merge-lo"
 let total:=a.size+b.size
 let done (out:Array Keyed) (ia ib:Nat):=out++a.extract ia a.size++b.extract ib b.size
 let lastOfA (out:Array Keyed) (ia ib:Nat):=out++b.extract ib b.size++a.extract ia a.size
 let mut out:Array Keyed:=#[<-elem' b 0]
 let mut ia:=0
 let mut ib:=1
 if ib==b.size then return done out ia ib
 if ia+1==a.size then return lastOfA out ia ib
 let mut minGallop:=gallopOf (<-get)
 for _ in [0:total] do
  let mut acount:=0
  let mut bcount:=0
  for _ in [0:total] do
   let some bWins <-lt' (<-elem' b ib) (<-elem' a ia)|return done out ia ib
   if bWins then
    out:=out.push (<-elem' b ib);ib:=ib+1;bcount:=bcount+1;acount:=0
    if ib==b.size then return done out ia ib
    if bcount>=minGallop then break
   else
    out:=out.push (<-elem' a ia);ia:=ia+1;acount:=acount+1;bcount:=0
    if ia+1==a.size then return lastOfA out ia ib
    if acount>=minGallop then break
  rule "list.sort.gallop"
  minGallop:=minGallop+1
  for _ in [0:total] do
   if minGallop>1 then minGallop:=minGallop-1
   jG minGallop
   let some k <-fF false (<-elem' b ib) a ia (a.size-ia) 0|return done out ia ib
   acount:=k
   if k>0 then
    out:=out++a.extract ia (ia+k);ia:=ia+k
    if ia+1==a.size then return lastOfA out ia ib
    if ia==a.size then return done out ia ib
   out:=out.push (<-elem' b ib);ib:=ib+1
   if ib==b.size then return done out ia ib
   let some k <-fF true (<-elem' a ia) b ib (b.size-ib) 0|return done out ia ib
   bcount:=k
   if k>0 then
    out:=out++b.extract ib (ib+k);ib:=ib+k
    if ib==b.size then return done out ia ib
   out:=out.push (<-elem' a ia);ia:=ia+1
   if ia+1==a.size then return lastOfA out ia ib
   if acount<7&&bcount<7 then break
  minGallop:=minGallop+1
  jG minGallop
 unsupported "internal:list.sort.merge-bound"):=rfl
theorem UJ(a b:Array Keyed):vU a b=(do
 rule "list.sort.merge-hi"
 let total:=a.size+b.size
 let done (out:Array Keyed) (na nb:Nat):=a.extract 0 na++b.extract 0 nb++out.reverse
 let firstOfB (out:Array Keyed) (na nb:Nat):=b.extract 0 nb++a.extract 0 na++out.reverse
 let mut na:=a.size-1
 let mut nb:=b.size
 let mut out:Array Keyed:=#[<-elem' a na]
 if na==0 then return done out na nb
 if nb==1 then return firstOfB out na nb
 let mut minGallop:=gallopOf (<-get)
 for _ in [0:total] do
  let mut acount:=0
  let mut bcount:=0
  for _ in [0:total] do
   let some aWins <-lt' (<-elem' b (nb-1)) (<-elem' a (na-1))|return done out na nb
   if aWins then
    na:=na-1;out:=out.push (<-elem' a na);acount:=acount+1;bcount:=0
    if na==0 then return done out na nb
    if acount>=minGallop then break
   else
    nb:=nb-1;out:=out.push (<-elem' b nb);bcount:=bcount+1;acount:=0
    if nb==1 then return firstOfB out na nb
    if bcount>=minGallop then break
  rule "list.sort.gallop"
  minGallop:=minGallop+1
  for _ in [0:total] do
   if minGallop>1 then minGallop:=minGallop-1
   jG minGallop
   let some at_ <-fF false (<-elem' b (nb-1)) a 0 na (na-1)|return done out na nb
   let k:=na-at_
   acount:=k
   if k>0 then
    out:=out++(a.extract at_ na).reverse;na:=at_
    if na==0 then return done out na nb
   nb:=nb-1;out:=out.push (<-elem' b nb)
   if nb==1 then return firstOfB out na nb
   let some at_ <-fF true (<-elem' a (na-1)) b 0 nb (nb-1)|return done out na nb
   let k:=nb-at_
   bcount:=k
   if k>0 then
    out:=out++(b.extract at_ nb).reverse;nb:=at_
    if nb==1 then return firstOfB out na nb
    if nb==0 then return done out na nb
   na:=na-1;out:=out.push (<-elem' a na)
   if na==0 then return done out na nb
   if acount<7&&bcount<7 then break
  minGallop:=minGallop+1
  jG minGallop
 unsupported "internal:list.sort.merge-bound"):=rfl
noncomputable def Ml(r:Keyed->Nat)(a b out:List Keyed)(ia ib:Nat):Prop:=
 out.Perm (a.take ia++b.take ib)/\out.Pairwise (λx y=>r x<=r y)/\∀u∈out,∀v,v∈a.drop ia\/v∈b.drop ib->r u<=r v
theorem Ml.swap{r:Keyed->Nat}{a b out:List Keyed}{ia ib:Nat}(h:Ml r a b out ia ib):Ml r b a out ib ia:=
 ⟨h.1.trans perm_append_comm,h.2.1,λu hu v hv=>h.2.2 u hu v hv.symm⟩
theorem Ml.a{r:Keyed->Nat}{a b out:List Keyed}{ia ib:Nat}(h:Ml r a b out ia ib)(sa:a.Pairwise λx y=>r x<=r y)(k:Nat)(hk:∀u∈(a.drop ia).take k,∀v∈b.drop ib,r u<=r v):
  Ml r a b (out++(a.drop ia).take k) (ia+k) ib:=by
 obtain⟨h1,h2,h3⟩:=h
 have sd:(a.drop ia).Pairwise λx y=>r x<=r y:=sa.sublist (List.drop_sublist _ _)
 have st:((a.drop ia).take k++(a.drop ia).drop k).Pairwise λx y=>r x<=r y:=by rw[take_append_drop];exact sd
 rw[pairwise_append]at st
 refine⟨?_,?_,?_⟩
 ·rw[List.take_add]
  refine(List.Perm.append_right _ h1).trans ?_
  rw[append_assoc,append_assoc]
  exact List.Perm.append_left _ perm_append_comm
 ·rw[pairwise_append]
  exact⟨h2,st.1,λu hu v hv=>h3 u hu v (.inl (mem_of_mem_take hv))⟩
 ·intro u hu v hv
  rw[<-List.drop_drop]at hv
  rcases mem_append.mp hu with hu|hu
  ·exact h3 u hu v (hv.imp mem_of_mem_drop id)
  ·rcases hv with hv|hv
   ·exact st.2.2 u hu v hv
   ·exact hk u hu v hv
theorem Ml.b{r:Keyed->Nat}{a b out:List Keyed}{ia ib:Nat}(h:Ml r a b out ia ib)(sb:b.Pairwise λx y=>r x<=r y)(k:Nat)(hk:∀u∈(b.drop ib).take k,∀v∈a.drop ia,r u<=r v):
  Ml r a b (out++(b.drop ib).take k) ia (ib+k):=(h.swap.a sb k hk).swap
noncomputable def dM(r:Keyed->Nat)(a b out:Array Keyed):Prop:=out.toList.Perm (a.toList++b.toList)/\out.toList.Pairwise λx y=>r x<=r y
theorem Ml.all{r:Keyed->Nat}{a b out:List Keyed}{ia ib:Nat}(h:Ml r a b out ia ib)(h1:a.length<=ia)(h2:b.length<=ib):out.Perm (a++b)/\out.Pairwise λx y=>r x<=r y:=by
 obtain⟨p,q,_⟩:=h
 rw[take_of_length_le h1,take_of_length_le h2]at p
 exact⟨p,q⟩
theorem ext_toList(a:Array Keyed)(i j:Nat):(a.extract i j).toList=(a.toList.drop i).take (j-i):=by simp[Array.toList_extract,List.extract_eq_take_drop]
theorem Ml.done{r:Keyed->Nat}{a b out:Array Keyed}{ia ib:Nat}(h:Ml r a.toList b.toList out.toList ia ib)(sa:a.toList.Pairwise λx y=>r x<=r y)(sb:b.toList.Pairwise λx y=>r x<=r y)(e:a.size<=ia\/b.size<=ib):
  dM r a b (out++a.extract ia a.size++b.extract ib b.size):=by
 have h1:=h.a sa (a.size-ia) λu hu v hv=>by
  rcases e with e|e
  ·rw[drop_of_length_le (by simpa using e)]at hu;simp at hu
  ·rw[drop_of_length_le (by simpa using e)]at hv;simp at hv
 have h2:=h1.b sb (b.size-ib) λu hu v hv=>by
  rw[drop_of_length_le (by simp;lia)]at hv;simp at hv
 have:=h2.all (by simp;lia) (by simp;lia)
 unfold dM
 rw[Array.toList_append,Array.toList_append,ext_toList,ext_toList]
 exact this
theorem Ml.last{r:Keyed->Nat}{a b out:Array Keyed}{ia ib:Nat}(h:Ml r a.toList b.toList out.toList ia ib)(sa:a.toList.Pairwise λx y=>r x<=r y)(sb:b.toList.Pairwise λx y=>r x<=r y)
  (e:∀u∈b.toList,∀v∈a.toList.drop ia,r u<=r v):dM r a b (out++b.extract ib b.size++a.extract ia a.size):=by
 have h1:=h.b sb (b.size-ib) λu hu v hv=>e u (mem_of_mem_drop (mem_of_mem_take hu)) v hv
 have h2:=h1.a sa (a.size-ia) λu hu v hv=>by
  rw[drop_of_length_le (by simp;lia)]at hv;simp at hv
 have:=h2.all (by simp;lia) (by simp;lia)
 unfold dM
 rw[Array.toList_append,Array.toList_append,ext_toList,ext_toList]
 exact this
noncomputable def it(a:Array Keyed)(i:Nat):Keyed:=a.getD i (Value.none,Value.none)
theorem bU{a:Array Keyed}{i:Nat}(h:i<a.size):a[i]? =some (it a i):=by
 unfold it;rw[getElem?_pos a i h];simp[Array.getD,h]
theorem eI{a:Array Keyed}{i:Nat}(h:i<a.size):it a i=a[i]:=by unfold it;simp[Array.getD,h]
theorem eC{a:Array Keyed}{i:Nat}(h:i<a.size):it a i∈a.toList:=by rw[eI h];simp
noncomputable def Srt(r:Keyed->Nat)(a:Array Keyed):Prop:=∀i j,i<=j->j<a.size->r (it a i)<=r (it a j)
theorem Srt.pw{r:Keyed->Nat}{a:Array Keyed}(h:Srt r a):a.toList.Pairwise λx y=>r x<=r y:=by
 rw[pairwise_iff_getElem]
 intro i j hi hj hij
 have:=h i j (by lia) (by simpa using hj)
 rw[eI (by simpa using hi),eI (by simpa using hj)]at this
 simpa using this
theorem Srt.of{r:Keyed->Nat}{a:Array Keyed}(h:a.toList.Pairwise λx y=>r x<=r y):Srt r a:=by
 intro i j hij hj
 rw[eI hj,eI (by lia:i<a.size)]
 by_cases e:i=j
 ·subst e;exact Nat.le_refl _
 ·rw[pairwise_iff_getElem]at h
  have:=h i j (by simp;lia) (by simpa using hj) (by lia)
  simpa using this
theorem jV{a:Array Keyed}{i:Nat}{v:Keyed}(h:v∈a.toList.drop i):∃j,i<=j/\j<a.size/\v=it a j:=by
 obtain⟨k,hk,e⟩:=mem_iff_getElem.mp h
 rw[length_drop,Array.length_toList]at hk
 refine⟨i+k,by lia,by lia,?_⟩
 rw[eI (by lia),<-e]
 simp
theorem vM{a:Array Keyed}{i k:Nat}{v:Keyed}(h:v∈(a.toList.drop i).take k):∃j,i<=j/\j<i+k/\j<a.size/\v=it a j:=by
 obtain⟨m,hm,e⟩:=mem_iff_getElem.mp h
 rw[length_take,length_drop,Array.length_toList]at hm
 refine⟨i+m,by lia,by lia,by lia,?_⟩
 rw[eI (by lia),<-e]
 simp
noncomputable abbrev MA(r:Keyed->Nat)(a b out:Array Keyed)(ia ib:Nat):Prop:=Ml r a.toList b.toList out.toList ia ib
section
variable{r:Keyed->Nat}{a b out:Array Keyed}{ia ib:Nat}
theorem MA.ext(h:MA r a b out ia ib)(sa:Srt r a)(k:Nat)(hk:∀j,ia<=j->j<ia+k->j<a.size->∀i,ib<=i->i<b.size->r (it a j)<=r (it b i)):MA r a b (out++a.extract ia (ia+k)) (ia+k) ib:=by
 have:=Ml.a h sa.pw k λu hu v hv=>by
  obtain⟨j,h1,h2,h3,rfl⟩:=vM hu
  obtain⟨i,h4,h5,rfl⟩:=jV hv
  exact hk j h1 h2 h3 i h4 h5
 unfold MA
 rw[Array.toList_append,ext_toList,show ia+k-ia=k by lia]
 exact this
theorem MA.exb(h:MA r a b out ia ib)(sb:Srt r b)(k:Nat)(hk:∀j,ib<=j->j<ib+k->j<b.size->∀i,ia<=i->i<a.size->r (it b j)<=r (it a i)):MA r a b (out++b.extract ib (ib+k)) ia (ib+k):=
 Ml.swap (MA.ext (Ml.swap h) sb k hk)
theorem EH{a out:Array Keyed}{i:Nat}(h:i<a.size):out.push (it a i)=out++a.extract i (i+1):=by
 apply Array.toList_inj.mp
 rw[Array.toList_append,ext_toList,Array.toList_push,eI h]
 congr 1
 rw[show i+1-i=1 by lia,List.take_one]
 simp[List.head?_drop,h]
theorem MA.pa(h:MA r a b out ia ib)(sa:Srt r a)(hi:ia<a.size)(hk:∀i,ib<=i->i<b.size->r (it a ia)<=r (it b i)):MA r a b (out.push (it a ia)) (ia+1) ib:=by
 rw[EH hi]
 exact h.ext sa 1 λj h1 h2 h3 i h4 h5=>by
  obtain rfl:j=ia:=by lia
  exact hk i h4 h5
theorem MA.pb(h:MA r a b out ia ib)(sb:Srt r b)(hi:ib<b.size)(hk:∀i,ia<=i->i<a.size->r (it b ib)<=r (it a i)):MA r a b (out.push (it b ib)) ia (ib+1):=
 Ml.swap (MA.pa (Ml.swap h) sb hi hk)
theorem MA.lst(h:MA r a b out ia ib)(sa:Srt r a)(sb:Srt r b)(e:ia+1=a.size)(hl:∀i,i<b.size->r (it b i)<=r (it a (a.size-1))):dM r a b (out++b.extract ib b.size++a.extract ia a.size):=
 Ml.last h sa.pw sb.pw λu hu v hv=>by
  obtain⟨i,h4,h5,rfl⟩:=jV hv
  obtain⟨j,h1,h2,rfl⟩:=jV (i:=0) (a:=b) (by simpa using hu)
  obtain rfl:i=a.size-1:=by lia
  exact hl j h2
end
noncomputable abbrev qS:=Option (Array Keyed)×Array Keyed×Nat×Nat×Nat×Nat×Nat
noncomputable def pI(a b out:Array Keyed)(ia ib mg ac k:Nat):StateT SortSt Sem (ForInStep qS):=do
 let x <-elem' a ia
 if ia+1+1==a.size then pure (.done (some (out.push x++b.extract ib b.size++a.extract (ia+1) a.size),out.push x,ia+1,ib,mg,ac,k))
 else if decide (ac<7)&&decide (k<7) then pure (.done (none,out.push x,ia+1,ib,mg,ac,k))
 else pure (.yield (none,out.push x,ia+1,ib,mg,ac,k))
noncomputable def pJ(a b out:Array Keyed)(ia ib mg ac bc:Nat):StateT SortSt Sem (ForInStep qS):=do
 let x <-elem' b ib
 if ib+1==b.size then pure (.done (some (out.push x++a.extract ia a.size++b.extract (ib+1) b.size),out.push x,ia,ib+1,mg,ac,bc))
 else do
  let y <-elem' a ia
  match <-fF true y b (ib+1) (b.size-(ib+1)) 0 with
  | some k=>
   if k>0 then
    if ib+1+k==b.size then pure (.done (some (out.push x++b.extract (ib+1) (ib+1+k)++a.extract ia a.size++b.extract (ib+1+k) b.size),out.push x++b.extract (ib+1) (ib+1+k),ia,ib+1+k,mg,ac,k))
    else pI a b (out.push x++b.extract (ib+1) (ib+1+k)) ia (ib+1+k) mg ac k
   else pI a b (out.push x) ia (ib+1) mg ac k
  |_=>pure (.done (some (out.push x++a.extract ia a.size++b.extract (ib+1) b.size),out.push x,ia,ib+1,mg,ac,bc))
noncomputable def lo1(a b out:Array Keyed)(ia ib mg ac bc:Nat):StateT SortSt Sem (ForInStep qS):=do
 jG mg
 let y <-elem' b ib
 match <-fF false y a ia (a.size-ia) 0 with
 | some k=>
  if k>0 then
   if ia+k+1==a.size then pure (.done (some (out++a.extract ia (ia+k)++b.extract ib b.size++a.extract (ia+k) a.size),out++a.extract ia (ia+k),ia+k,ib,mg,k,bc))
   else if ia+k==a.size then pure (.done (some (out++a.extract ia (ia+k)++a.extract (ia+k) a.size++b.extract ib b.size),out++a.extract ia (ia+k),ia+k,ib,mg,k,bc))
   else pJ a b (out++a.extract ia (ia+k)) (ia+k) ib mg k bc
  else pJ a b out ia ib mg k bc
 |_=>pure (.done (some (out++a.extract ia a.size++b.extract ib b.size),out,ia,ib,mg,ac,bc))
noncomputable def j1(r:Keyed->Nat)(a b:Array Keyed)(x:Nat)(o:Option (Array Keyed))(out:Array Keyed)(ia ib:Nat):Prop:=
 match o with
 |some res=>dM r a b res
 |none=>MA r a b out ia ib/\ia+1<a.size/\ib<b.size/\x<=ia+ib
noncomputable def qP(r:Keyed->Nat)(a b:Array Keyed)(x:Nat)(st:SortSt)(c:ForInStep qS)(st':SortSt):Prop:=
 (∃g,st'=sg st g)/\match c with
 | .done (o,out,ia,ib,_)=>j1 r a b x o out ia ib
 | .yield (o,out,ia,ib,_)=>o=none/\j1 r a b x o out ia ib
section
variable{prog:Program}{w:World}{A:Around}{E:Value->Shared->Prop}{s:Shared}{κ:SortKind}{r:Keyed->Nat}{S:Keyed->Prop}{a b out:Array Keyed}{ia ib:Nat}{st:SortSt}
theorem nX{g:Nat}{Q:Unit->SortSt->Prop}(h:Q () (sg st g)):wpS (model prog w) A E s (jG g) Q st:=wpS_modify h
theorem AK(sa:Srt r a)(sb:Srt r b)(hl:∀i,i<b.size->r (it b i)<=r (it a (a.size-1))){x mg ac k g:Nat}(M:MA r a b out ia ib)(h1:ia+1<a.size)(h2:ib<b.size)(h3:x<=ia+ib)
  (hk:∀i,ib<=i->i<b.size->r (it a ia)<=r (it b i)):wpS (model prog w) A E s (pI a b out ia ib mg ac k) (qP r a b x st) (sg st g):=by
 unfold pI
 refine wpS_bind (cD (bU (by lia:ia<a.size)) ?_)
 have M':=M.pa sa (by lia) hk
 by_cases e1:ia+1+1=a.size
 ·rw[if_pos (by simpa using e1)]
  exact wpS_pure ⟨⟨g,rfl⟩,M'.lst sa sb e1 hl⟩
 ·rw[if_neg (by simpa using e1)]
  split
  ·exact wpS_pure ⟨⟨g,rfl⟩,M',by lia,h2,by lia⟩
  ·exact wpS_pure ⟨⟨g,rfl⟩,rfl,M',by lia,h2,by lia⟩
theorem AL(C:cW prog w A s κ r S)(hkd:kindOf st=κ)(hS:∀x,x∈a.toList\/x∈b.toList->S x)(sa:Srt r a)(sb:Srt r b)(hl:∀i,i<b.size->r (it b i)<=r (it a (a.size-1))){x mg ac bc g:Nat}(M:MA r a b out ia ib)(h1:ia+1<a.size)(h2:ib<b.size)(h3:x<=ia+ib)
  (hk:∀i,ia<=i->i<a.size->r (it b ib)<=r (it a i)):wpS (model prog w) A E s (pJ a b out ia ib mg ac bc) (qP r a b x st) (sg st g):=by
 unfold pJ
 refine wpS_bind (cD (bU h2) ?_)
 have M':=M.pb sb h2 hk
 by_cases e1:ib+1=b.size
 ·rw[if_pos (by simpa using e1)]
  exact wpS_pure ⟨⟨g,rfl⟩,Ml.done M' sa.pw sb.pw (.inr (by lia))⟩
 ·rw[if_neg (by simpa using e1)]
  refine wpS_bind (cD (bU (by lia:ia<a.size)) ?_)
  refine wpS_bind (j6 C hkd (hS _ (.inl (eC (by lia)))) (λi=>it b (ib+1+i)) (λi hi=>⟨bU (by lia),hS _ (.inr (eC (by lia)))⟩) (λi j hij hj=>sb _ _ (by lia) (by lia)) (by lia) λk k1 k2 k3=>?_)
  dsimp only
  have c2:∀i,i<k->r (it b (ib+1+i))<r (it a ia):=λi hi=>by have:=k2 i hi;unfold bC at this;simpa using this
  have c3:∀i,k<=i->i<b.size-(ib+1)->r (it a ia)<=r (it b (ib+1+i)):=λi hi hj=>by have:=k3 i hi hj;unfold bC at this;simpa using this
  have cb:∀i,ib+1+k<=i->i<b.size->r (it a ia)<=r (it b i):=λi h5 h6=>by
   have:=c3 (i-(ib+1)) (by lia) (by lia)
   rwa [show ib+1+(i-(ib+1))=i by lia]at this
  by_cases k0:k>0
  ·rw[if_pos k0]
   have M2:=M'.exb sb k λj h5 h6 h7 i h8 h9=>by
    have:=c2 (j-(ib+1)) (by lia)
    rw[show ib+1+(j-(ib+1))=j by lia]at this
    have:=sa ia i h8 h9
    lia
   by_cases e2:ib+1+k=b.size
   ·rw[if_pos (by simpa using e2)]
    exact wpS_pure ⟨⟨g,rfl⟩,Ml.done M2 sa.pw sb.pw (.inr (by lia))⟩
   ·rw[if_neg (by simpa using e2)]
    exact AK sa sb hl M2 h1 (by lia) (by lia) cb
  ·rw[if_neg k0]
   obtain rfl:k=0:=by lia
   exact AK sa sb hl M' h1 (by lia) (by lia) (by simpa using cb)
theorem AM(C:cW prog w A s κ r S)(hkd:kindOf st=κ)(hS:∀x,x∈a.toList\/x∈b.toList->S x)(sa:Srt r a)(sb:Srt r b)(hl:∀i,i<b.size->r (it b i)<=r (it a (a.size-1))){x mg ac bc g:Nat}(M:MA r a b out ia ib)(h1:ia+1<a.size)(h2:ib<b.size)(h3:x<=ia+ib):
  wpS (model prog w) A E s (lo1 a b out ia ib mg ac bc) (qP r a b x st) (sg st g):=by
 unfold lo1
 refine wpS_bind (nX ?_)
 refine wpS_bind (cD (bU h2) ?_)
 refine wpS_bind (j6 C hkd (hS _ (.inr (eC h2))) (λi=>it a (ia+i)) (λi hi=>⟨bU (by lia),hS _ (.inl (eC (by lia)))⟩) (λi j hij hj=>sa _ _ (by lia) (by lia)) (by lia) λk k1 k2 k3=>?_)
 dsimp only
 have c2:∀i,i<k->r (it a (ia+i))<=r (it b ib):=λi hi=>by have:=k2 i hi;unfold bC at this;simpa using this
 have c3:∀i,k<=i->i<a.size-ia->r (it b ib)<r (it a (ia+i)):=λi hi hj=>by have:=k3 i hi hj;unfold bC at this;simpa using this
 have cb:∀i,ia+k<=i->i<a.size->r (it b ib)<=r (it a i):=λi h5 h6=>by
  have:=c3 (i-ia) (by lia) (by lia)
  rw[show ia+(i-ia)=i by lia]at this
  lia
 by_cases k0:k>0
 ·rw[if_pos k0]
  have M2:=M.ext sa k λj h5 h6 h7 i h8 h9=>by
   have:=c2 (j-ia) (by lia)
   rw[show ia+(j-ia)=j by lia]at this
   have:=sb ib i h8 h9
   lia
  by_cases e2:ia+k+1=a.size
  ·rw[if_pos (by simpa using e2)]
   exact wpS_pure ⟨⟨mg,rfl⟩,M2.lst sa sb e2 hl⟩
  ·rw[if_neg (by simpa using e2)]
   by_cases e3:ia+k=a.size
   ·rw[if_pos (by simpa using e3)]
    exact wpS_pure ⟨⟨mg,rfl⟩,Ml.done M2 sa.pw sb.pw (.inl (by lia))⟩
   ·rw[if_neg (by simpa using e3)]
    exact AL C hkd hS sa sb hl M2 (by lia) h2 (by lia) cb
 ·rw[if_neg k0]
  obtain rfl:k=0:=by lia
  exact AL C hkd hS sa sb hl M h1 h2 h3 (by simpa using cb)
theorem KA(C:cW prog w A s κ r S){Q:Array Keyed->SortSt->Prop}(hkd:kindOf st=κ)(hS:∀x,x∈a.toList\/x∈b.toList->S x)
  (sa:Srt r a) (sb:Srt r b) (ha:0<a.size) (hb:0<b.size) (h0:r (it b 0)<=r (it a 0)) (hl:∀i,i<b.size->r (it b i)<=r (it a (a.size-1)))
  (h:∀out g,dM r a b out->Q out (sg st g)):wpS (model prog w) A E s (vT a b) Q st:=by
 rw[UI]
 refine wpS_bind (wpS_lift (wpAny_rule ⟨rfl,?_⟩))
 refine wpS_bind (cD (bU hb) ?_)
 have M0:MA r a b #[] 0 0:=⟨by simp,.nil,λu hu=>by simp at hu⟩
 have M1:MA r a b #[it b 0] 0 1:=by
  have:=M0.pb sb hb λi _ hi=>Nat.le_trans h0 (sa 0 i (by lia) hi)
  simpa using this
 dsimp only
 by_cases e1:1=b.size
 ·rw[if_pos (by simpa using e1)]
  exact wpS_pure (h _ (gallopOf st) (Ml.done M1 sa.pw sb.pw (.inr (by lia))))
 rw[if_neg (by simpa using e1)]
 by_cases e2:0+1=a.size
 ·rw[if_pos (by simpa using e2)]
  exact wpS_pure (h _ (gallopOf st) (M1.lst sa sb e2 hl))
 rw[if_neg (by simpa using e2)]
 refine wpS_bind (wpS_get ?_)
 refine wpS_bind (wpS_mono (wpS_forRange (I:=λx c st'=>(∃g,st'=sg st g)/\∃out ia ib mg,c=(none,out,ia,ib,mg)/\j1 r a b (1+x) none out ia ib)
  (Q:=λc st'=>(∃g,st'=sg st g)/\∃res out ia ib mg,c=(some res,out,ia,ib,mg)/\dM r a b res) ?step ?fin ⟨⟨gallopOf st,rfl⟩,_,_,_,_,rfl,M1,by lia,by lia,by lia⟩) ?post)
 case fin=>
  rintro c st' ⟨hg,out,ia,ib,mg,rfl,M,q1,q2,q3⟩
  lia
 case post=>
  rintro c st' ⟨⟨g,rfl⟩,res,out,ia,ib,mg,rfl,M⟩
  exact wpS_pure (h _ g M)
 case step=>
  rintro x c st' _ hx ⟨⟨g,rfl⟩,out,ia,ib,mg,rfl,M,q1,q2,q3⟩
  dsimp only
  refine wpS_bind (wpS_mono (wpS_forRange (I:=λy c st'=>st'=sg st g/\∃out ia ib ac bc,c=(none,out,ia,ib,ac,bc)/\j1 r a b (1+x+min y 1) none out ia ib)
   (Q:=λc st'=>st'=sg st g/\∃o out ia ib ac bc,c=(o,out,ia,ib,ac,bc)/\j1 r a b (1+(x+1)) o out ia ib) ?step1 ?fin1 ⟨rfl,_,_,_,_,_,rfl,M,q1,q2,by lia⟩) ?post1)
  case fin1=>
   rintro c st' ⟨rfl,out,ia,ib,ac,bc,rfl,M,q1,q2,q3⟩
   exact⟨rfl,_,_,_,_,_,_,rfl,M,q1,q2,by lia⟩
  case step1=>
   rintro y c st' _ hy ⟨rfl,out,ia,ib,ac,bc,rfl,M,q1,q2,q3⟩
   dsimp only
   refine wpS_bind (cD (bU q2) ?_)
   refine wpS_bind (cD (bU (by lia:ia<a.size)) ?_)
   refine wpS_bind (lR C hkd (hS _ (.inr (eC q2))) (hS _ (.inl (eC (by lia)))) ?_)
   dsimp only
   by_cases lt:r (it b ib)<r (it a ia)
   ·rw[if_pos (by simpa using lt)]
    refine wpS_bind (cD (bU q2) ?_)
    have M2:=M.pb sb q2 λi h1 h2=>by have:=sa ia i h1 h2;lia
    by_cases e3:ib+1=b.size
    ·rw[if_pos (by simpa using e3)]
     exact wpS_pure ⟨rfl,_,_,_,_,_,_,rfl,Ml.done M2 sa.pw sb.pw (.inr (by lia))⟩
    ·rw[if_neg (by simpa using e3)]
     split
     ·exact wpS_pure ⟨rfl,_,_,_,_,_,_,rfl,M2,q1,by lia,by lia⟩
     ·exact wpS_pure ⟨rfl,_,_,_,_,_,rfl,M2,q1,by lia,by lia⟩
   ·rw[if_neg (by simpa using lt)]
    refine wpS_bind (cD (bU (by lia:ia<a.size)) ?_)
    have M2:=M.pa sa (by lia) λi h1 h2=>by have:=sb ib i h1 h2;lia
    by_cases e3:ia+1+1=a.size
    ·rw[if_pos (by simpa using e3)]
     exact wpS_pure ⟨rfl,_,_,_,_,_,_,rfl,M2.lst sa sb e3 hl⟩
    ·rw[if_neg (by simpa using e3)]
     split
     ·exact wpS_pure ⟨rfl,_,_,_,_,_,_,rfl,M2,by lia,by lia,by lia⟩
     ·exact wpS_pure ⟨rfl,_,_,_,_,_,rfl,M2,by lia,by lia,by lia⟩
  case post1=>
   rintro c st' ⟨rfl,o,out,ia,ib,ac,bc,rfl,M⟩
   cases o with
   |some res=>
    dsimp only
    exact wpS_pure ⟨⟨g,rfl⟩,_,_,_,_,_,rfl,M⟩
   | none=>
    obtain⟨M,q1,q2,q3⟩:=M
    dsimp only
    refine wpS_bind (wpS_lift (wpAny_rule ⟨rfl,?_⟩))
    refine wpS_bind (wpS_mono (wpS_forRange (I:=λy c st'=>(∃g,st'=sg st g)/\∃out ia ib mg ac bc,c=(none,out,ia,ib,mg,ac,bc)/\j1 r a b (1+(x+1)) none out ia ib)
     (Q:=λc st'=>(∃g,st'=sg st g)/\∃o out ia ib mg ac bc,c=(o,out,ia,ib,mg,ac,bc)/\j1 r a b (1+(x+1)) o out ia ib) ?step2 ?fin2 ⟨⟨g,rfl⟩,_,_,_,_,_,_,rfl,M,q1,q2,by lia⟩) ?post2)
    case fin2=>
     rintro c st' ⟨hg,out,ia,ib,mg,ac,bc,rfl,M⟩
     exact⟨hg,_,_,_,_,_,_,_,rfl,M⟩
    case step2=>
     rintro y c st' _ hy ⟨⟨g,rfl⟩,out,ia,ib,mg,ac,bc,rfl,M,q1,q2,q3⟩
     refine wpS_mono (Q:=qP r a b (1+(x+1)) st) ?code λc st' hc=>?_
     case code=>
      dsimp only
      by_cases m1:mg>1
      ·rw[if_pos m1]
       exact AM (mg:=mg-1) (ac:=ac) (bc:=bc) C hkd hS sa sb hl M q1 q2 q3
      ·rw[if_neg m1]
       exact AM (mg:=mg) (ac:=ac) (bc:=bc) C hkd hS sa sb hl M q1 q2 q3
     ·obtain⟨hg,hc⟩:=hc
      match c,hc with
      | .done (o,out,ia,ib,mg,ac,bc),hc=>exact⟨hg,_,_,_,_,_,_,_,rfl,hc⟩
      | .yield (o,out,ia,ib,mg,ac,bc),⟨h1,hc⟩=>
       subst h1
       exact⟨hg,_,_,_,_,_,_,rfl,hc⟩
    case post2=>
     rintro c st' ⟨⟨g',rfl⟩,o,out,ia,ib,mg',ac,bc,rfl,M⟩
     cases o with
     |some res=>
      dsimp only
      exact wpS_pure ⟨⟨g',rfl⟩,_,_,_,_,_,rfl,M⟩
     |none=>
      dsimp only
      refine wpS_bind (nX ?_)
      exact wpS_pure ⟨⟨_,rfl⟩,_,_,_,_,rfl,M⟩
end
noncomputable def Mr(r:Keyed->Nat)(a b o:List Keyed)(na nb:Nat):Prop:=
 o.Perm (a.drop na++b.drop nb)/\o.Pairwise (λx y=>r x<=r y)/\∀u∈o,∀v,v∈a.take na\/v∈b.take nb->r v<=r u
theorem Mr.swap{r:Keyed->Nat}{a b o:List Keyed}{na nb:Nat}(h:Mr r a b o na nb):Mr r b a o nb na:=
 ⟨h.1.trans perm_append_comm,h.2.1,λu hu v hv=>h.2.2 u hu v hv.symm⟩
theorem Mr.a{r:Keyed->Nat}{a b o:List Keyed}{na nb:Nat}(h:Mr r a b o na nb)(sa:a.Pairwise λx y=>r x<=r y)(k:Nat)(hkn:k<=na)(hk:∀u∈(a.take na).drop k,∀v∈b.take nb,r v<=r u):
  Mr r a b ((a.take na).drop k++o) k nb:=by
 obtain⟨h1,h2,h3⟩:=h
 have sd:(a.take na).Pairwise λx y=>r x<=r y:=sa.sublist (take_sublist _ _)
 have st:((a.take na).take k++(a.take na).drop k).Pairwise λx y=>r x<=r y:=by rw[take_append_drop];exact sd
 rw[pairwise_append]at st
 have ek:(a.take na).take k=a.take k:=by rw[List.take_take,Nat.min_eq_left hkn]
 have ed:a.drop k=(a.take na).drop k++a.drop na:=by
  conv=>lhs;rw[<-take_append_drop na a]
  rw[List.drop_append]
  congr 1
  by_cases q:na<=a.length
  ·rw[length_take,Nat.min_eq_left q,show k-na=0 by lia,List.drop_zero]
  ·rw[drop_of_length_le (by lia:a.length<=na),List.drop_nil]
 refine⟨?_,?_,?_⟩
 ·rw[ed,append_assoc]
  exact List.Perm.append_left _ h1
 ·rw[pairwise_append]
  exact⟨st.2.1,h2,λu hu v hv=>h3 v hv u (.inl (mem_of_mem_drop hu))⟩
 ·intro u hu v hv
  rcases mem_append.mp hu with hu|hu
  ·rcases hv with hv|hv
   ·rw[<-ek]at hv
    exact st.2.2 v hv u hu
   ·exact hk u hu v hv
  ·refine h3 u hu v (hv.imp (λhv=>?_) id)
   rw[<-ek]at hv
   exact mem_of_mem_take hv
theorem Mr.b{r:Keyed->Nat}{a b o:List Keyed}{na nb:Nat}(h:Mr r a b o na nb)(sb:b.Pairwise λx y=>r x<=r y)(k:Nat)(hkn:k<=nb)(hk:∀u∈(b.take nb).drop k,∀v∈a.take na,r v<=r u):
  Mr r a b ((b.take nb).drop k++o) na k:=(h.swap.a sb k hkn hk).swap
noncomputable abbrev MB(r:Keyed->Nat)(a b out:Array Keyed)(na nb:Nat):Prop:=Mr r a.toList b.toList out.toList.reverse na nb
theorem S4{a:Array Keyed}{n:Nat}{v:Keyed}(h:v∈a.toList.take n):∃j,j<n/\j<a.size/\v=it a j:=by
 obtain⟨j,_,h2,h3,e⟩:=vM (i:=0) (k:=n) (a:=a) (by simpa using h)
 exact⟨j,by lia,h3,e⟩
theorem S5{a:Array Keyed}{n k:Nat}{v:Keyed}(h:v∈(a.toList.take n).drop k):∃j,k<=j/\j<n/\j<a.size/\v=it a j:=by
 rw[drop_take]at h
 obtain⟨j,h1,h2,h3,e⟩:=vM h
 exact⟨j,h1,by lia,h3,e⟩
section
variable{r:Keyed->Nat}{a b out:Array Keyed}{na nb:Nat}
theorem MB.ext(h:MB r a b out na nb)(sa:Srt r a)(k:Nat)(hkn:k<=na)(hk:∀j,k<=j->j<na->j<a.size->∀i,i<nb->i<b.size->r (it b i)<=r (it a j)):MB r a b (out++(a.extract k na).reverse) k nb:=by
 have:=Mr.a h sa.pw k hkn λu hu v hv=>by
  obtain⟨j,h1,h2,h3,rfl⟩:=S5 hu
  obtain⟨i,h4,h5,rfl⟩:=S4 hv
  exact hk j h1 h2 h3 i h4 h5
 unfold MB
 rw[Array.toList_append,List.reverse_append,Array.toList_reverse,List.reverse_reverse,ext_toList,<-drop_take]
 exact this
theorem MB.exb(h:MB r a b out na nb)(sb:Srt r b)(k:Nat)(hkn:k<=nb)(hk:∀j,k<=j->j<nb->j<b.size->∀i,i<na->i<a.size->r (it a i)<=r (it b j)):MB r a b (out++(b.extract k nb).reverse) na k:=
 Mr.swap (MB.ext (Mr.swap h) sb k hkn hk)
theorem P3{a out:Array Keyed}{i:Nat}(h:i<a.size):out.push (it a i)=out++(a.extract i (i+1)).reverse:=by
 rw[EH h]
 congr 1
 apply Array.toList_inj.mp
 rw[Array.toList_reverse,ext_toList,show i+1-i=1 by lia]
 cases q:a.toList.drop i with
 |nil=>rfl
 |cons x l=>rfl
theorem MB.pa(h:MB r a b out na nb)(sa:Srt r a)(hp:0<na)(hi:na-1<a.size)(hk:∀i,i<nb->i<b.size->r (it b i)<=r (it a (na-1))):MB r a b (out.push (it a (na-1))) (na-1) nb:=by
 rw[P3 hi,show na-1+1=na by lia]
 exact h.ext sa (na-1) (by lia) λj h1 h2 h3 i h4 h5=>by
  obtain rfl:j=na-1:=by lia
  exact hk i h4 h5
theorem MB.pb(h:MB r a b out na nb)(sb:Srt r b)(hp:0<nb)(hi:nb-1<b.size)(hk:∀i,i<na->i<a.size->r (it a i)<=r (it b (nb-1))):MB r a b (out.push (it b (nb-1))) na (nb-1):=
 Mr.swap (MB.pa (Mr.swap h) sb hp hi hk)
theorem Mr.all{a b o:List Keyed}(h:Mr r a b o 0 0):o.Perm (a++b)/\o.Pairwise λx y=>r x<=r y:=by
 obtain⟨p,q,_⟩:=h
 exact⟨by simpa using p,q⟩
theorem MB.done(h:MB r a b out na nb)(sa:Srt r a)(sb:Srt r b)(e:na=0\/nb=0):dM r a b (a.extract 0 na++b.extract 0 nb++out.reverse):=by
 have h1:=h.exb sb 0 (Nat.zero_le _) λj _ h2 _ i h4 h5=>by lia
 have h2:=h1.ext sa 0 (Nat.zero_le _) λj _ h2 _ i h4 h5=>by lia
 have:=h2.all
 unfold dM
 simpa using this
theorem MB.fst(h:MB r a b out na nb)(sa:Srt r a)(sb:Srt r b)(hn:nb=1)(h0:r (it b 0)<=r (it a 0)):dM r a b (b.extract 0 nb++a.extract 0 na++out.reverse):=by
 have h1:=h.ext sa 0 (Nat.zero_le _) λj _ h2 h3 i h4 h5=>by
  obtain rfl:i=0:=by lia
  have:=sa 0 j (by lia) h3
  lia
 have h2:=h1.exb sb 0 (Nat.zero_le _) λj _ h2 _ i h4 h5=>by lia
 have:=h2.all
 unfold dM
 simpa using this
end
noncomputable abbrev qU:=Option (Array Keyed)×Nat×Nat×Array Keyed×Nat×Nat×Nat
noncomputable def pR(a b out:Array Keyed)(na nb mg ac k:Nat):StateT SortSt Sem (ForInStep qU):=do
 let x <-elem' a (na-1)
 if na-1==0 then pure (.done (some (a.extract 0 (na-1)++b.extract 0 nb++(out.push x).reverse),na-1,nb,out.push x,mg,ac,k))
 else if decide (ac<7)&&decide (k<7) then pure (.done (none,na-1,nb,out.push x,mg,ac,k))
 else pure (.yield (none,na-1,nb,out.push x,mg,ac,k))
noncomputable def iO(a b out:Array Keyed)(na nb mg ac bc:Nat):StateT SortSt Sem (ForInStep qU):=do
 let x <-elem' b (nb-1)
 if nb-1==1 then pure (.done (some (b.extract 0 (nb-1)++a.extract 0 na++(out.push x).reverse),na,nb-1,out.push x,mg,ac,bc))
 else do
  let y <-elem' a (na-1)
  match <-fF true y b 0 (nb-1) (nb-1-1) with
  | some k=>
   if nb-1-k>0 then
    if k==1 then pure (.done (some (b.extract 0 k++a.extract 0 na++(out.push x++(b.extract k (nb-1)).reverse).reverse),na,k,out.push x++(b.extract k (nb-1)).reverse,mg,ac,nb-1-k))
    else if k==0 then pure (.done (some (a.extract 0 na++b.extract 0 k++(out.push x++(b.extract k (nb-1)).reverse).reverse),na,k,out.push x++(b.extract k (nb-1)).reverse,mg,ac,nb-1-k))
    else pR a b (out.push x++(b.extract k (nb-1)).reverse) na k mg ac (nb-1-k)
   else pR a b (out.push x) na (nb-1) mg ac (nb-1-k)
  |_=>pure (.done (some (a.extract 0 na++b.extract 0 (nb-1)++(out.push x).reverse),na,nb-1,out.push x,mg,ac,bc))
noncomputable def wI(a b out:Array Keyed)(na nb mg ac bc:Nat):StateT SortSt Sem (ForInStep qU):=do
 jG mg
 let y <-elem' b (nb-1)
 match <-fF false y a 0 na (na-1) with
 | some k=>
  if na-k>0 then
   if k==0 then pure (.done (some (a.extract 0 k++b.extract 0 nb++(out++(a.extract k na).reverse).reverse),k,nb,out++(a.extract k na).reverse,mg,na-k,bc))
   else iO a b (out++(a.extract k na).reverse) k nb mg (na-k) bc
  else iO a b out na nb mg (na-k) bc
 |_=>pure (.done (some (a.extract 0 na++b.extract 0 nb++out.reverse),na,nb,out,mg,ac,bc))
noncomputable def j5(r:Keyed->Nat)(a b:Array Keyed)(x:Nat)(o:Option (Array Keyed))(out:Array Keyed)(na nb:Nat):Prop:=
 match o with
 |some res=>dM r a b res
 |none=>MB r a b out na nb/\0<na/\na<=a.size/\1<nb/\nb<=b.size/\na+nb+x<=a.size+b.size
noncomputable def qT(r:Keyed->Nat)(a b:Array Keyed)(x:Nat)(st:SortSt)(c:ForInStep qU)(st':SortSt):Prop:=
 (∃g,st'=sg st g)/\match c with
 | .done (o,na,nb,out,_)=>j5 r a b x o out na nb
 | .yield (o,na,nb,out,_)=>o=none/\j5 r a b x o out na nb
section
variable{prog:Program}{w:World}{A:Around}{E:Value->Shared->Prop}{s:Shared}{κ:SortKind}{r:Keyed->Nat}{S:Keyed->Prop}{a b out:Array Keyed}{na nb:Nat}{st:SortSt}
theorem AN(sa:Srt r a)(sb:Srt r b){x mg ac k g:Nat}(M:MB r a b out na nb)(h1:0<na)(h1':na<=a.size)(h2:1<nb)(h2':nb<=b.size)(h3:na+nb+x<=a.size+b.size)
  (hk:∀i,i<nb->i<b.size->r (it b i)<=r (it a (na-1))):wpS (model prog w) A E s (pR a b out na nb mg ac k) (qT r a b x st) (sg st g):=by
 unfold pR
 refine wpS_bind (cD (bU (by lia:na-1<a.size)) ?_)
 have M':=M.pa sa h1 (by lia) hk
 by_cases e1:na-1=0
 ·rw[if_pos (by simpa using e1)]
  exact wpS_pure ⟨⟨g,rfl⟩,M'.done sa sb (.inl e1)⟩
 ·rw[if_neg (by simpa using e1)]
  split
  ·exact wpS_pure ⟨⟨g,rfl⟩,M',by lia,by lia,by lia,by lia,by lia⟩
  ·exact wpS_pure ⟨⟨g,rfl⟩,rfl,M',by lia,by lia,by lia,by lia,by lia⟩
theorem AO(C:cW prog w A s κ r S)(hkd:kindOf st=κ)(hS:∀x,x∈a.toList\/x∈b.toList->S x)(sa:Srt r a)(sb:Srt r b)(h0:r (it b 0)<=r (it a 0)){x mg ac bc g:Nat}(M:MB r a b out na nb)(h1:0<na)(h1':na<=a.size)(h2:1<nb)(h2':nb<=b.size)(h3:na+nb+x<=a.size+b.size)
  (hk:∀i,i<na->i<a.size->r (it a i)<=r (it b (nb-1))):wpS (model prog w) A E s (iO a b out na nb mg ac bc) (qT r a b x st) (sg st g):=by
 unfold iO
 refine wpS_bind (cD (bU (by lia:nb-1<b.size)) ?_)
 have M':=M.pb sb (by lia) (by lia) hk
 by_cases e1:nb-1=1
 ·rw[if_pos (by simpa using e1)]
  exact wpS_pure ⟨⟨g,rfl⟩,M'.fst sa sb e1 h0⟩
 ·rw [if_neg (by simpa using e1)]
  refine wpS_bind (cD (bU (by lia:na-1<a.size)) ?_)
  refine wpS_bind (j6 C hkd (hS _ (.inl (eC (by lia)))) (λi=>it b i) (λi hi=>⟨by rw[Nat.zero_add];exact bU (by lia),hS _ (.inr (eC (by lia)))⟩) (λi j hij hj=>sb _ _ (by lia) (by lia)) (by lia) λk k1 k2 k3=>?_)
  dsimp only
  have c2:∀i,i<k->r (it b i)<r (it a (na-1)):=λi hi=>by have:=k2 i hi;unfold bC at this;simpa using this
  have c3:∀i,k<=i->i<nb-1->r (it a (na-1))<=r (it b i):=λi hi hj=>by have:=k3 i hi hj;unfold bC at this;simpa using this
  have cb:∀i,i<k->i<b.size->r (it b i)<=r (it a (na-1)):=λi h5 h6=>by have:=c2 i h5;lia
  by_cases k0:nb-1-k>0
  ·rw[if_pos k0]
   have M2:=M'.exb sb k (by lia) λj h5 h6 h7 i h8 h9=>by
    have:=c3 j h5 h6
    have:=sa i (na-1) (by lia) (by lia)
    lia
   by_cases e2:k=1
   ·rw[if_pos (by simpa using e2)]
    exact wpS_pure ⟨⟨g,rfl⟩,M2.fst sa sb e2 h0⟩
   ·rw[if_neg (by simpa using e2)]
    by_cases e3:k=0
    ·rw[if_pos (by simpa using e3)]
     exact wpS_pure ⟨⟨g,rfl⟩,M2.done sa sb (.inr e3)⟩
    ·rw[if_neg (by simpa using e3)]
     exact AN sa sb M2 h1 h1' (by lia) (by lia) (by lia) cb
  ·rw[if_neg k0]
   obtain rfl:k=nb-1:=by lia
   exact AN sa sb M' h1 h1' (by lia) (by lia) (by lia) cb
theorem AQ(C:cW prog w A s κ r S)(hkd:kindOf st=κ)(hS:∀x,x∈a.toList\/x∈b.toList->S x)(sa:Srt r a)(sb:Srt r b)(h0:r (it b 0)<=r (it a 0)){x mg ac bc g:Nat}(M:MB r a b out na nb)(h1:0<na)(h1':na<=a.size)(h2:1<nb)(h2':nb<=b.size)(h3:na+nb+x<=a.size+b.size):
  wpS (model prog w) A E s (wI a b out na nb mg ac bc) (qT r a b x st) (sg st g):=by
 unfold wI
 refine wpS_bind (nX ?_)
 refine wpS_bind (cD (bU (by lia:nb-1<b.size)) ?_)
 refine wpS_bind (j6 C hkd (hS _ (.inr (eC (by lia)))) (λi=>it a i) (λi hi=>⟨by rw[Nat.zero_add];exact bU (by lia),hS _ (.inl (eC (by lia)))⟩) (λi j hij hj=>sa _ _ (by lia) (by lia)) (by lia) λk k1 k2 k3=>?_)
 dsimp only
 have c2:∀i,i<k->r (it a i)<=r (it b (nb-1)):=λi hi=>by have:=k2 i hi;unfold bC at this;simpa using this
 have c3:∀i,k<=i->i<na->r (it b (nb-1))<r (it a i):=λi hi hj=>by have:=k3 i hi hj;unfold bC at this;simpa using this
 by_cases k0:na-k>0
 ·rw[if_pos k0]
  have M2:=M.ext sa k (by lia) λj h5 h6 h7 i h8 h9=>by
   have:=c3 j h5 h6
   have:=sb i (nb-1) (by lia) (by lia)
   lia
  by_cases e2:k=0
  ·rw[if_pos (by simpa using e2)]
   exact wpS_pure ⟨⟨mg,rfl⟩,M2.done sa sb (.inl e2)⟩
  ·rw[if_neg (by simpa using e2)]
   exact AO C hkd hS sa sb h0 M2 (by lia) (by lia) h2 h2' (by lia) λi hi _=>c2 i hi
 ·rw[if_neg k0]
  obtain rfl:k=na:=by lia
  exact AO C hkd hS sa sb h0 M h1 h1' h2 h2' h3 λi hi _=>c2 i hi
theorem KB(C:cW prog w A s κ r S){Q:Array Keyed->SortSt->Prop}(hkd:kindOf st=κ)(hS:∀x,x∈a.toList\/x∈b.toList->S x)
  (sa:Srt r a) (sb:Srt r b) (ha:0<a.size) (hb:0<b.size) (h0:r (it b 0)<=r (it a 0)) (hl:∀i,i<b.size->r (it b i)<=r (it a (a.size-1)))
  (h:∀out g,dM r a b out->Q out (sg st g)):wpS (model prog w) A E s (vU a b) Q st:=by
 rw[UJ]
 refine wpS_bind (wpS_lift (wpAny_rule ⟨rfl,?_⟩))
 refine wpS_bind (cD (bU (by lia:a.size-1<a.size)) ?_)
 have M0:MB r a b #[] a.size b.size:=⟨by simp,.nil,λu hu=>by simp at hu⟩
 have M1:MB r a b #[it a (a.size-1)] (a.size-1) b.size:=by
  have:=M0.pa sa ha (by lia) λi _ hi=>hl i hi
  simpa using this
 dsimp only
 by_cases e1:a.size-1=0
 ·rw[if_pos (by simpa using e1)]
  exact wpS_pure (h _ (gallopOf st) (M1.done sa sb (.inl e1)))
 rw[if_neg (by simpa using e1)]
 by_cases e2:b.size=1
 ·rw[if_pos (by simpa using e2)]
  exact wpS_pure (h _ (gallopOf st) (M1.fst sa sb e2 h0))
 rw[if_neg (by simpa using e2)]
 refine wpS_bind (wpS_get ?_)
 refine wpS_bind (wpS_mono (wpS_forRange (I:=λx c st'=>(∃g,st'=sg st g)/\∃out na nb mg,c=(none,na,nb,out,mg)/\j5 r a b (1+x) none out na nb)
  (Q:=λc st'=>(∃g,st'=sg st g)/\∃res out na nb mg,c=(some res,na,nb,out,mg)/\dM r a b res) ?step ?fin ⟨⟨gallopOf st,rfl⟩,_,_,_,_,rfl,M1,by lia,by lia,by lia,by lia,by lia⟩) ?post)
 case fin=>
  rintro c st' ⟨hg,out,na,nb,mg,rfl,M,q1,q1',q2,q2',q3⟩
  lia
 case post=>
  rintro c st' ⟨⟨g,rfl⟩,res,out,na,nb,mg,rfl,M⟩
  exact wpS_pure (h _ g M)
 case step=>
  rintro x c st' _ hx ⟨⟨g,rfl⟩,out,na,nb,mg,rfl,M,q1,q1',q2,q2',q3⟩
  dsimp only
  refine wpS_bind (wpS_mono (wpS_forRange (I:=λy c st'=>st'=sg st g/\∃out na nb ac bc,c=(none,na,nb,out,ac,bc)/\j5 r a b (1+x+min y 1) none out na nb)
   (Q:=λc st'=>st'=sg st g/\∃o out na nb ac bc,c=(o,na,nb,out,ac,bc)/\j5 r a b (1+(x+1)) o out na nb) ?step1 ?fin1 ⟨rfl,_,_,_,_,_,rfl,M,q1,q1',q2,q2',by lia⟩) ?post1)
  case fin1=>
   rintro c st' ⟨rfl,out,na,nb,ac,bc,rfl,M,q1,q1',q2,q2',q3⟩
   exact⟨rfl,_,_,_,_,_,_,rfl,M,q1,q1',q2,q2',by lia⟩
  case step1=>
   rintro y c st' _ hy ⟨rfl,out,na,nb,ac,bc,rfl,M,q1,q1',q2,q2',q3⟩
   dsimp only
   have ib:nb-1<b.size:=by lia
   have ia:na-1<a.size:=by lia
   refine wpS_bind (cD (bU ib) ?_)
   refine wpS_bind (cD (bU ia) ?_)
   refine wpS_bind (lR C hkd (hS _ (.inr (eC ib))) (hS _ (.inl (eC ia))) ?_)
   dsimp only
   by_cases lt:r (it b (nb-1))<r (it a (na-1))
   ·rw[if_pos (by simpa using lt)]
    refine wpS_bind (cD (bU ia) ?_)
    have M2:=M.pa sa q1 ia λi h1 h2=>by have:=sb i (nb-1) (by lia) ib;lia
    by_cases e3:na-1=0
    ·rw[if_pos (by simpa using e3)]
     exact wpS_pure ⟨rfl,_,_,_,_,_,_,rfl,M2.done sa sb (.inl e3)⟩
    ·rw[if_neg (by simpa using e3)]
     split
     ·exact wpS_pure ⟨rfl,_,_,_,_,_,_,rfl,M2,by lia,by lia,q2,q2',by lia⟩
     ·exact wpS_pure ⟨rfl,_,_,_,_,_,rfl,M2,by lia,by lia,q2,q2',by lia⟩
   ·rw[if_neg (by simpa using lt)]
    refine wpS_bind (cD (bU ib) ?_)
    have M2:=M.pb sb (by lia) ib λi h1 h2=>by have:=sa i (na-1) (by lia) ia;lia
    by_cases e3:nb-1=1
    ·rw[if_pos (by simpa using e3)]
     exact wpS_pure ⟨rfl,_,_,_,_,_,_,rfl,M2.fst sa sb e3 h0⟩
    ·rw[if_neg (by simpa using e3)]
     split
     ·exact wpS_pure ⟨rfl,_,_,_,_,_,_,rfl,M2,q1,q1',by lia,by lia,by lia⟩
     ·exact wpS_pure ⟨rfl,_,_,_,_,_,rfl,M2,q1,q1',by lia,by lia,by lia⟩
  case post1=>
   rintro c st' ⟨rfl,o,out,na,nb,ac,bc,rfl,M⟩
   cases o with
   |some res=>
    dsimp only
    exact wpS_pure ⟨⟨g,rfl⟩,_,_,_,_,_,rfl,M⟩
   | none=>
    obtain⟨M,q1,q1',q2,q2',q3⟩:=M
    dsimp only
    refine wpS_bind (wpS_lift (wpAny_rule ⟨rfl,?_⟩))
    refine wpS_bind (wpS_mono (wpS_forRange (I:=λy c st'=>(∃g,st'=sg st g)/\∃out na nb mg ac bc,c=(none,na,nb,out,mg,ac,bc)/\j5 r a b (1+(x+1)) none out na nb)
     (Q:=λc st'=>(∃g,st'=sg st g)/\∃o out na nb mg ac bc,c=(o,na,nb,out,mg,ac,bc)/\j5 r a b (1+(x+1)) o out na nb) ?step2 ?fin2 ⟨⟨g,rfl⟩,_,_,_,_,_,_,rfl,M,q1,q1',q2,q2',by lia⟩) ?post2)
    case fin2=>
     rintro c st' ⟨hg,out,na,nb,mg,ac,bc,rfl,M⟩
     exact⟨hg,_,_,_,_,_,_,_,rfl,M⟩
    case step2=>
     rintro y c st' _ hy ⟨⟨g,rfl⟩,out,na,nb,mg,ac,bc,rfl,M,q1,q1',q2,q2',q3⟩
     refine wpS_mono (Q:=qT r a b (1+(x+1)) st) ?code λc st' hc=>?_
     case code=>
      dsimp only
      by_cases m1:mg>1
      ·rw[if_pos m1]
       exact AQ (mg:=mg-1) (ac:=ac) (bc:=bc) C hkd hS sa sb h0 M q1 q1' q2 q2' q3
      ·rw[if_neg m1]
       exact AQ (mg:=mg) (ac:=ac) (bc:=bc) C hkd hS sa sb h0 M q1 q1' q2 q2' q3
     ·obtain⟨hg,hc⟩:=hc
      match c,hc with
      | .done (o,na,nb,out,mg,ac,bc),hc=>exact⟨hg,_,_,_,_,_,_,_,rfl,hc⟩
      | .yield (o,na,nb,out,mg,ac,bc),⟨h1,hc⟩=>
       subst h1
       exact⟨hg,_,_,_,_,_,_,rfl,hc⟩
    case post2=>
     rintro c st' ⟨⟨g',rfl⟩,o,out,na,nb,mg',ac,bc,rfl,M⟩
     cases o with
     |some res=>
      dsimp only
      exact wpS_pure ⟨⟨g',rfl⟩,_,_,_,_,_,rfl,M⟩
     |none=>
      dsimp only
      refine wpS_bind (nX ?_)
      exact wpS_pure ⟨⟨_,rfl⟩,_,_,_,_,rfl,M⟩
end
noncomputable def wr(arr:Array Keyed)(sa:Nat)(l:List Keyed):Array Keyed:=l.zipIdx.foldl (λa(p,j)=>a.setIfInBounds (sa+j) p) arr
theorem S3(i:Nat):mergeAt' i=(do
 let s <-get
 let(some (sa,na,power),some (sb,nb,_)):=((pendingOf s)[i]?,(pendingOf s)[i+1]?)|unsupported "internal:list.sort.pending"
 set (setPending s (((pendingOf s).setIfInBounds i (sa,na+nb,power)).eraseIdxIfInBounds (i+1)))
 let some k <-fF false (<-elem' (arrOf s) sb) (arrOf s) sa na 0|return false
 let(sa,na):=(sa+k,na-k)
 if na==0 then return true
 let some nb <-fF true (<-elem' (arrOf s) (sa+na-1)) (arrOf s) sb nb (nb-1)|return false
 if nb==0 then return true
 let x:=(arrOf s).extract sa sb
 let y:=(arrOf s).extract sb (sb+nb)
 let merged <-if na<=nb then vT x y else vU x y
 modify λs=>setArr s (wr (arrOf s) sa merged.toList)
 return (failedOf (<-get)).isNone):=rfl
theorem AI(sa:Nat):∀(l:List Keyed)(k:Nat)(arr:Array Keyed),sa+k+l.length<=arr.size->
  ((l.zipIdx k).foldl (λa(p,j)=>a.setIfInBounds (sa+j) p) arr).toList=arr.toList.take (sa+k)++l++arr.toList.drop (sa+k+l.length)
 |[],k,arr,_=>by simp
 | x::l,k,arr,h=>by
  rw[length_cons]at h
  rw[List.zipIdx_cons,foldl_cons]
  rw[AI sa l (k+1) (arr.setIfInBounds (sa+k) x) (by rw[Array.size_setIfInBounds];lia)]
  rw[Array.toList_setIfInBounds]
  have h1:(arr.toList.set (sa+k) x).take (sa+(k+1))=arr.toList.take (sa+k)++[x]:=by
   rw[show sa+(k+1)=sa+k+1 by lia,List.take_succ,List.take_set_of_le (Nat.le_refl _)]
   simp[show sa+k<arr.size by lia]
  have h2:(arr.toList.set (sa+k) x).drop (sa+(k+1)+l.length)=arr.toList.drop (sa+k+(x::l).length):=by
   rw[List.drop_set_of_lt (by lia),length_cons]
   congr 1
   lia
  rw[h1,h2]
  simp
theorem AH{arr:Array Keyed}{sa:Nat}{l:List Keyed}(h:sa+l.length<=arr.size):(wr arr sa l).toList=arr.toList.take sa++l++arr.toList.drop (sa+l.length):=by
 have:=AI sa l 0 arr (by lia)
 rw[Nat.add_zero]at this
 exact this
theorem wD(a:Array Keyed)(i:Nat):it a i=a.toList.getD i (Value.none,Value.none):=by
 unfold it
 by_cases h:i<a.size
 ·simp[Array.getD,h]
 ·simp[Array.getD,h]
theorem J1{arr:Array Keyed}{sa:Nat}{m:Array Keyed}(h:sa+m.size<=arr.size)(i:Nat):it (wr arr sa m.toList) i=if sa<=i/\i<sa+m.size then it m (i-sa) else it arr i:=by
 rw[wD,AH (by simpa using h),wD,wD]
 simp only[List.getD_eq_getElem?_getD,Array.length_toList]
 by_cases h1:i<sa
 ·rw[if_neg (by lia),append_assoc,List.getElem?_append_left (by simp;lia),List.getElem?_take_of_lt h1]
 ·by_cases h2:i<sa+m.size
  ·rw[if_pos ⟨by lia,h2⟩,append_assoc,List.getElem?_append_right (by simp;lia),List.getElem?_append_left (by simp;lia)]
   congr 2
   simp
   lia
  ·rw[if_neg (by lia),List.getElem?_append_right (by simp;lia),List.getElem?_drop]
   congr 2
   simp
   lia
theorem J0{arr:Array Keyed}{sa:Nat}{m:Array Keyed}{e:Nat}(h:e<=arr.size)(hse:sa<=e)(hm:m.toList.Perm (arr.extract sa e).toList):(wr arr sa m.toList).Perm arr:=by
 have hl:m.toList.length=e-sa:=by rw[hm.length_eq,ext_toList];simp;lia
 rw[Array.perm_iff_toList_perm,AH (by rw[hl];lia)]
 have e1:arr.toList=arr.toList.take sa++(arr.extract sa e).toList++arr.toList.drop (sa+m.toList.length):=by
  rw[hl,ext_toList,show sa+(e-sa)=e by lia]
  conv=>lhs;rw[<-take_append_drop e arr.toList]
  congr 1
  conv=>lhs;rw[<-take_append_drop sa (arr.toList.take e)]
  rw[List.take_take,Nat.min_eq_left hse,drop_take]
 conv=>rhs;rw[e1]
 exact List.Perm.append_right _ (List.Perm.append_left _ hm)
noncomputable def cU(r:Keyed->Nat)(a:Array Keyed)(lo hi:Nat):Prop:=∀i j,lo<=i->i<=j->j<hi->r (it a i)<=r (it a j)
theorem GI{arr:Array Keyed}{u v i:Nat}(h:u+i<v)(hv:v<=arr.size):it (arr.extract u v) i=it arr (u+i):=by
 rw[eI (by simp;lia),eI (by lia)]
 simp
structure Iv (κ:SortKind) (a₀:Array Keyed) (st:SortSt):Prop where
 perm:(arrOf st).Perm a₀
 kind:kindOf st=κ
 ok:failedOf st=none
theorem Iv.size{κ:SortKind}{a₀:Array Keyed}{st:SortSt}(h:Iv κ a₀ st):(arrOf st).size=a₀.size:=h.perm.size_eq
theorem Iv.mem{κ:SortKind}{a₀:Array Keyed}{st:SortSt}(h:Iv κ a₀ st){i:Nat}(hi:i<a₀.size):it (arrOf st) i∈a₀.toList:=
 (Array.perm_iff_toList_perm.mp h.perm).mem_iff.mp (eC (by rw[h.size];exact hi))
section
variable{prog:Program}{w:World}{A:Around}{E:Value->Shared->Prop}{s:Shared}{κ:SortKind}{r:Keyed->Nat}{a₀:Array Keyed}{st:SortSt}
theorem J2{st':SortSt}{Q:PUnit->SortSt->Prop}(h:Q ⟨⟩ st'):wpS (model prog w) A E s (set st':StateT SortSt Sem PUnit) Q st:=by
 unfold wpS;rw[StateT.run_set];exact wpAny_pure ⟨rfl,h⟩
theorem J4(C:cW prog w A s κ r (· ∈a₀.toList))(V:Iv κ a₀ st){i sa na sb nb pw pw':Nat}{Q:Bool->SortSt->Prop}(e1:(pendingOf st)[i]? =some (sa,na,pw))(e2:(pendingOf st)[i+1]? =some (sb,nb,pw'))
  (hs:sb=sa+na) (hn:0<na) (hm:0<nb) (hz:sb+nb<=a₀.size) (s1:cU r (arrOf st) sa sb) (s2:cU r (arrOf st) sb (sb+nb))
  (h:∀st',Iv κ a₀ st'->pendingOf st'=((pendingOf st).setIfInBounds i (sa,na+nb,pw)).eraseIdxIfInBounds (i+1)->cU r (arrOf st') sa (sb+nb)->(∀j,j<sa\/sb+nb<=j->it (arrOf st') j=it (arrOf st) j)->Q true st'):
  wpS (model prog w) A E s (mergeAt' i) Q st:=by
 have hz':sb+nb<=(arrOf st).size:=by rw[V.size];exact hz
 rw[S3]
 refine wpS_bind (wpS_get ?_)
 rw[e1,e2]
 dsimp only
 refine wpS_bind (J2 ?_)
 obtain⟨st1,hst1⟩:∃st1,st1=setPending st (((pendingOf st).setIfInBounds i (sa,na+nb,pw)).eraseIdxIfInBounds (i+1)):=⟨_,rfl⟩
 rw[<-hst1]
 have V1:Iv κ a₀ st1:=by subst hst1;exact⟨V.perm,V.kind,V.ok⟩
 have ea:arrOf st1=arrOf st:=by subst hst1;rfl
 have ep:pendingOf st1=((pendingOf st).setIfInBounds i (sa,na+nb,pw)).eraseIdxIfInBounds (i+1):=by subst hst1;rfl
 refine wpS_bind (cD (bU (by lia:sb<(arrOf st).size)) ?_)
 refine wpS_bind (j6 C V1.kind (V.mem (by lia)) (λi=>it (arrOf st) (sa+i)) (λi hi=>⟨bU (by lia),V.mem (by lia)⟩) (λi j hij hj=>s1 _ _ (by lia) (by lia) (by lia)) (by lia) λk k1 k2 k3=>?_)
 dsimp only
 have c2:∀i,sa<=i->i<sa+k->r (it (arrOf st) i)<=r (it (arrOf st) sb):=λi h1 h2=>by
  have:=k2 (i-sa) (by lia);unfold bC at this
  rw[show sa+(i-sa)=i by lia]at this
  simpa using this
 have c3:∀i,sa+k<=i->i<sb->r (it (arrOf st) sb)<r (it (arrOf st) i):=λi h1 h2=>by
  have:=k3 (i-sa) (by lia) (by lia);unfold bC at this
  rw[show sa+(i-sa)=i by lia]at this
  simpa using this
 by_cases n0:na-k=0
 ·rw[if_pos (by simpa using n0)]
  refine wpS_pure (h st1 V1 ep ?_ λj _=>by rw[ea])
  rw[ea]
  intro i j h1 h2 h3
  by_cases q1:j<sb
  ·exact s1 i j h1 h2 q1
  ·by_cases q2:i<sb
   ·have:=c2 i h1 (by lia)
    have:=s2 sb j (Nat.le_refl _) (by lia) h3
    lia
   ·exact s2 i j (by lia) h2 h3
 rw[if_neg (by simpa using n0)]
 have hl:sa+k+(na-k)-1=sb-1:=by lia
 rw[hl]
 refine wpS_bind (cD (bU (by lia:sb-1<(arrOf st).size)) ?_)
 refine wpS_bind (j6 C V1.kind (V.mem (by lia)) (λi=>it (arrOf st) (sb+i)) (λi hi=>⟨bU (by lia),V.mem (by lia)⟩) (λi j hij hj=>s2 _ _ (by lia) (by lia) (by lia)) (by lia) λm m1 m2 m3=>?_)
 dsimp only
 have d2:∀i,sb<=i->i<sb+m->r (it (arrOf st) i)<r (it (arrOf st) (sb-1)):=λi h1 h2=>by
  have:=m2 (i-sb) (by lia);unfold bC at this
  rw[show sb+(i-sb)=i by lia]at this
  simpa using this
 have d3:∀i,sb+m<=i->i<sb+nb->r (it (arrOf st) (sb-1))<=r (it (arrOf st) i):=λi h1 h2=>by
  have:=m3 (i-sb) (by lia) (by lia);unfold bC at this
  rw[show sb+(i-sb)=i by lia]at this
  simpa using this
 by_cases n1:m=0
 ·rw[if_pos (by simpa using n1)]
  refine wpS_pure (h st1 V1 ep ?_ λj _=>by rw[ea])
  rw[ea]
  intro i j h1 h2 h3
  by_cases q1:j<sb
  ·exact s1 i j h1 h2 q1
  ·by_cases q2:i<sb
   ·have:=d3 j (by lia) h3
    have:=s1 i (sb-1) h1 (by lia) (by lia)
    lia
   ·exact s2 i j (by lia) h2 h3
 rw[if_neg (by simpa using n1)]
 obtain⟨x,hx⟩:∃x,x=(arrOf st).extract (sa+k) sb:=⟨_,rfl⟩
 obtain⟨y,hy⟩:∃y,y=(arrOf st).extract sb (sb+m):=⟨_,rfl⟩
 rw[<-hx,<-hy]
 have xz:x.size=sb-(sa+k):=by rw[hx];simp;lia
 have yz:y.size=m:=by rw[hy];simp;lia
 have xi:∀j,j<x.size->it x j=it (arrOf st) (sa+k+j):=λj hj=>by rw[xz]at hj;rw[hx];exact GI (by lia) (by lia)
 have yi:∀j,j<y.size->it y j=it (arrOf st) (sb+j):=λj hj=>by rw[yz]at hj;rw[hy];exact GI (by lia) (by lia)
 have sx:Srt r x:=λi j hij hj=>by rw[xi i (by lia),xi j hj];rw[xz]at hj;exact s1 _ _ (by lia) (by lia) (by lia)
 have sy:Srt r y:=λi j hij hj=>by rw[yi i (by lia),yi j hj];rw[yz]at hj;exact s2 _ _ (by lia) (by lia) (by lia)
 have hS:∀v,v∈x.toList\/v∈y.toList->v∈a₀.toList:=λv hv=>by
  rcases hv with hv|hv
  ·obtain⟨j,_,h2,rfl⟩:=jV (i:=0) (a:=x) (by simpa using hv)
   rw[xi j h2];exact V.mem (by lia)
  ·obtain⟨j,_,h2,rfl⟩:=jV (i:=0) (a:=y) (by simpa using hv)
   rw[yi j h2];exact V.mem (by lia)
 have g0:r (it y 0)<=r (it x 0):=by
  rw[xi 0 (by lia),yi 0 (by lia)]
  have:=c3 (sa+k) (by lia) (by lia)
  simp only[Nat.add_zero]
  lia
 have gl:∀i,i<y.size->r (it y i)<=r (it x (x.size-1)):=λi hi=>by
  rw[xi _ (by lia),yi i hi,show sa+k+(x.size-1)=sb-1 by lia]
  exact Nat.le_of_lt (d2 _ (by lia) (by lia))
 have fin:∀(out:Array Keyed)(g:Nat),dM r x y out->wpS (model prog w) A E s (do
   modify λs=>setArr s (wr (arrOf s) (sa+k) out.toList)
   return (failedOf (<-get)).isNone) Q (sg st1 g):=λout g M=>by
  refine wpS_bind (wpS_modify ?_)
  refine wpS_bind (wpS_get ?_)
  have oz:out.size=x.size+y.size:=by have:=M.1.length_eq;simpa using this
  have wi:=λi=>J1 (arr:=arrOf st) (sa:=sa+k) (m:=out) (by lia) i
  have from':∀i,sa+k<=i->i<sb+m->∃j,sa+k<=j/\j<sb+m/\it (wr (arrOf st) (sa+k) out.toList) i=it (arrOf st) j:=λi h1 h2=>by
   rw[wi,if_pos ⟨h1,by lia⟩]
   have hmem:=M.1.mem_iff.mp (eC (a:=out) (i:=i-(sa+k)) (by lia))
   rcases mem_append.mp hmem with hv|hv
   ·obtain⟨j,_,h2,e⟩:=jV (i:=0) (a:=x) (by simpa using hv)
    exact⟨sa+k+j,by lia,by lia,by rw[e,xi j h2]⟩
   ·obtain⟨j,_,h2,e⟩:=jV (i:=0) (a:=y) (by simpa using hv)
    exact⟨sb+j,by lia,by lia,by rw[e,yi j h2]⟩
  have so:Srt r out:=Srt.of M.2
  have lowb:∀i j,sa<=i->i<sa+k->sa+k<=j->j<sb+nb->r (it (arrOf st) i)<=r (it (arrOf st) j):=λi j h1 h2 h3 h4=>by
   by_cases q:j<sb
   ·exact s1 i j h1 (by lia) q
   ·have:=c2 i h1 h2
    have:=s2 sb j (Nat.le_refl _) (by lia) h4
    lia
  have hib:∀i j,sa+k<=i->i<sb+m->sb+m<=j->j<sb+nb->r (it (arrOf st) i)<=r (it (arrOf st) j):=λi j h1 h2 h3 h4=>by
   by_cases q:i<sb
   ·have:=s1 i (sb-1) (by lia) (by lia) (by lia)
    have:=d3 j h3 h4
    lia
   ·exact s2 i j (by lia) (by lia) h4
  have S':cU r (wr (arrOf st) (sa+k) out.toList) sa (sb+nb):=by
   intro i j h1 h2 h3
   by_cases qi:i<sa+k
   ·rw[wi i,if_neg (by lia)]
    by_cases qj:j<sa+k
    ·rw[wi j,if_neg (by lia)];exact s1 i j h1 h2 (by lia)
    ·by_cases qm:j<sb+m
     ·obtain⟨j',a1,a2,a3⟩:=from' j (by lia) qm
      rw[a3];exact lowb i j' h1 qi a1 (by lia)
     ·rw[wi j,if_neg (by lia)];exact lowb i j h1 qi (by lia) h3
   ·by_cases qm:i<sb+m
    ·by_cases qj:j<sb+m
     ·rw[wi i,if_pos (by lia),wi j,if_pos (by lia)]
      exact so _ _ (by lia) (by lia)
     ·obtain⟨i',a1,a2,a3⟩:=from' i (by lia) qm
      rw[a3,wi j,if_neg (by lia)]
      exact hib i' j a1 a2 (by lia) h3
    ·rw[wi i,if_neg (by lia),wi j,if_neg (by lia)]
     exact s2 i j (by lia) h2 h3
  have P':(wr (arrOf st) (sa+k) out.toList).Perm (arrOf st):=J0 (e:=sb+m) (by lia) (by lia) (by
   have e:((arrOf st).extract (sa+k) (sb+m)).toList=x.toList++y.toList:=by
    rw[hx,hy,ext_toList,ext_toList,ext_toList]
    rw[show sb+m-(sa+k)=(sb-(sa+k))+m by lia,List.take_add,List.drop_drop,show sa+k+(sb-(sa+k))=sb by lia,show sb+m-sb=m by lia]
   rw[e]
   exact M.1)
  have hf:(failedOf (setArr (sg st1 g) (wr (arrOf (sg st1 g)) (sa+k) out.toList))).isNone=true:=by
   show(failedOf st1).isNone=true
   rw[V1.ok];rfl
  rw[hf]
  have ar:arrOf (setArr (sg st1 g) (wr (arrOf (sg st1 g)) (sa+k) out.toList))=wr (arrOf st) (sa+k) out.toList:=by
   show wr (arrOf st1) (sa+k) out.toList=_
   rw[ea]
  refine wpS_pure (h _ ⟨?_,V1.kind,V1.ok⟩ ep ?_ ?_)
  ·rw[ar];exact P'.trans V.perm
  ·rw[ar];exact S'
  ·intro j hj
   rw[ar,wi j,if_neg (by lia)]
 by_cases le:na-k<=m
 ·rw[if_pos le]
  exact wpS_bind (KA C V1.kind hS sx sy (by lia) (by lia) g0 gl λout g M=>fin out g M)
 ·rw[if_neg le]
  exact wpS_bind (KB C V1.kind hS sx sy (by lia) (by lia) g0 gl λout g M=>fin out g M)
end
theorem mM(a:Array Keyed)(i:Nat):it a i=(a[i]?).getD (Value.none,Value.none):=by
 unfold it
 by_cases h:i<a.size
 ·simp[Array.getD,h]
 ·simp[Array.getD,h]
theorem V9{xs:Array Keyed}{i j:Nat}(hj:j<=xs.size)(k:Nat):it (mirror xs i j ((j-i)/2)) k=if i<=k/\k<j then it xs (i+j-1-k) else it xs k:=by
 rw[mM,getElem?_mirror_all (i:=i) hj k]
 split <;> rw[mM]
theorem WA{xs:Array Keyed}{src d:Nat}(hs:src<xs.size)(hd:d<=src)(k:Nat):it (bubble xs src d) k=if k=src-d then it xs src else if src-d<k/\k<=src then it xs (k-1) else it xs k:=by
 rw[mM,getElem?_bubble hs d hd k]
 split
 ·rw[mM]
 ·split <;> rw[mM]
section
variable{prog:Program}{w:World}{A:Around}{E:Value->Shared->Prop}{s:Shared}{κ:SortKind}{r:Keyed->Nat}{a₀:Array Keyed}{st:SortSt}
theorem Iv.setArr(V:Iv κ a₀ st){xs:Array Keyed}(hp:xs.Perm (arrOf st)):Iv κ a₀ (setArr st xs):=⟨hp.trans V.perm,V.kind,V.ok⟩
theorem Iv.inj(V:Iv κ a₀ st)(hd:(a₀.toList.map r).Nodup){i j:Nat}(hi:i<a₀.size)(hj:j<a₀.size)(e:r (it (arrOf st) i)=r (it (arrOf st) j)):i=j:=by
 have p:((arrOf st).toList.map r).Perm (a₀.toList.map r):=(Array.perm_iff_toList_perm.mp V.perm).map r
 have nd:((arrOf st).toList.map r).Nodup:=p.nodup_iff.mpr hd
 have hz:=V.size
 have a1:((arrOf st).toList.map r)[i]'(by simp;lia)=r (it (arrOf st) i):=by rw[eI (by lia)];simp
 have a2:((arrOf st).toList.map r)[j]'(by simp;lia)=r (it (arrOf st) j):=by rw[eI (by lia)];simp
 exact(getElem_inj nd).mp (a1.trans (e.trans a2.symm))
theorem lQ(C:cW prog w A s κ r (· ∈a₀.toList))(V:Iv κ a₀ st){i j:Nat}{Q:Option Bool->SortSt->Prop}(hi:i<a₀.size)(hj:j<a₀.size)(h:Q (some (decide (r (it (arrOf st) i)<r (it (arrOf st) j)))) st):
  wpS (model prog w) A E s (ltAt' i j) Q st:=by
 rw[ltAt'_eq]
 refine wpS_bind (wpS_get ?_)
 dsimp only
 have hz:=V.size
 refine wpS_bind (cD (bU (by lia)) (wpS_bind (cD (bU (by lia)) ?_)))
 exact lR C V.kind (V.mem hi) (V.mem hj) h
theorem AR(C:cW prog w A s κ r (· ∈a₀.toList))(V:Iv κ a₀ st){lo a nrem:Nat}{Q:Option (Option Nat)×Nat->SortSt->Prop}(hz:lo+nrem<=a₀.size)(h1:1<=a)(h2:a<=nrem)(hs:cU r (arrOf st) lo (lo+a))
  (h:∀n,a<=n->n<=nrem->cU r (arrOf st) lo (lo+n)->(n=nrem\/r (it (arrOf st) (lo+n))<r (it (arrOf st) (lo+n-1)))->Q (none,n) st):
  wpS (model prog w) A E s (forIn [a:nrem] ((none,a):Option (Option Nat)×Nat) λx __s=>do
    let __x <-ltAt' (lo+__s.snd) (lo+__s.snd-1)
    match __x with
     |some smaller=>if smaller=true then pure (ForInStep.done (none,__s.snd)) else pure (ForInStep.yield (none,__s.snd+1))
     |x=>pure (ForInStep.done (some none,__s.snd))) Q st:=by
 refine wpS_forRange (I:=λx c st'=>st'=st/\c=(none,x)/\cU r (arrOf st) lo (lo+x)) ?step ?fin ⟨rfl,rfl,hs⟩
 case fin=>
  rintro c st' ⟨rfl,rfl,hs⟩
  rw[Nat.max_eq_right h2]at hs ⊢
  exact h nrem h2 (Nat.le_refl _) hs (.inl rfl)
 case step=>
  rintro x c st' hx1 hx2 ⟨rfl,rfl,hs⟩
  dsimp only
  refine wpS_bind (lQ C V (by lia) (by lia) ?_)
  dsimp only
  by_cases q:r (it (arrOf st') (lo+x))<r (it (arrOf st') (lo+x-1))
  ·rw[if_pos (by simpa using q)]
   exact wpS_pure (h x hx1 (by lia) hs (.inr q))
  ·rw[if_neg (by simpa using q)]
   refine wpS_pure ⟨rfl,rfl,λi j h3 h4 h5=>?_⟩
   by_cases qj:j<lo+x
   ·exact hs i j h3 h4 qj
   ·obtain rfl:j=lo+x:=by lia
    by_cases qi:i=lo+x
    ·subst qi;exact Nat.le_refl _
    ·have:=hs i (lo+x-1) h3 (by lia) (by lia)
     lia
theorem KC(C:cW prog w A s κ r (· ∈a₀.toList))(hd:(a₀.toList.map r).Nodup)(V:Iv κ a₀ st){lo nrem:Nat}{Q:Option Nat->SortSt->Prop}(hz:lo+nrem<=a₀.size)(h1:1<=nrem)
  (h:∀n st',Iv κ a₀ st'->pendingOf st'=pendingOf st->1<=n->n<=nrem->cU r (arrOf st') lo (lo+n)->(∀j,j<lo->it (arrOf st') j=it (arrOf st) j)->Q (some n) st'):
  wpS (model prog w) A E s (countRun' lo nrem) Q st:=by
 rw[countRun'_eq]
 refine wpS_bind (AR C V hz (Nat.le_refl 1) h1 (λi j h3 h4 h5=>by obtain rfl:i=j:=(by lia);exact Nat.le_refl _) λn n1 n2 n3 n4=>?_)
 dsimp only
 by_cases e1:n=nrem
 ·rw[if_pos (by simpa using e1)]
  exact wpS_pure (h n st V rfl n1 n2 n3 λ_ _=>rfl)
 rw[if_neg (by simpa using e1)]
 by_cases e2:n>1
 ·rw[if_pos e2]
  refine wpS_bind (lQ C V (by lia) (by lia) ?_)
  dsimp only
  have q:r (it (arrOf st) lo)<r (it (arrOf st) (lo+n-1)):=by
   have:=n3 lo (lo+n-1) (Nat.le_refl _) (by lia) (by lia)
   rcases Nat.lt_or_ge (r (it (arrOf st) lo)) (r (it (arrOf st) (lo+n-1))) with q|q
   ·exact q
   ·have:=V.inj hd (i:=lo) (j:=lo+n-1) (by lia) (by lia) (by lia)
    lia
  rw[if_pos (by simpa using q)]
  exact wpS_pure (h n st V rfl n1 n2 n3 λ_ _=>rfl)
 rw[if_neg e2]
 obtain rfl:n=1:=by lia
 have hlt:=n4.resolve_left e1
 refine wpS_bind (wpS_lift (wpAny_rule ⟨rfl,?_⟩))
 refine wpS_bind (wpS_mono (wpS_forRange (I:=λx c st'=>st'=st/\c=(none,x,0)/\∀i j,lo<=i->i<=j->j<lo+x->r (it (arrOf st) j)<=r (it (arrOf st) i))
  (Q:=λc st'=>st'=st/\∃x,c=(none,x,0)/\2<=x/\x<=nrem/\∀i j,lo<=i->i<=j->j<lo+x->r (it (arrOf st) j)<=r (it (arrOf st) i)) ?step ?fin ⟨rfl,rfl,?init⟩) ?post)
 case init=>
  intro i j h3 h4 h5
  by_cases q:i=j
  ·subst q;exact Nat.le_refl _
  ·obtain rfl:i=lo:=by lia
   obtain rfl:j=i+1:=by lia
   rw[show i+1-1=i by lia]at hlt
   lia
 case fin=>
  rintro c st' ⟨rfl,rfl,hs⟩
  exact⟨rfl,_,rfl,by lia,by lia,hs⟩
 case step=>
  rintro x c st' hx1 hx2 ⟨rfl,rfl,hs⟩
  dsimp only
  refine wpS_bind (lQ C V (by lia) (by lia) ?_)
  dsimp only
  by_cases q:r (it (arrOf st') (lo+x))<r (it (arrOf st') (lo+x-1))
  ·rw[if_pos (by simpa using q),if_neg (by lia)]
   refine wpS_pure ⟨rfl,rfl,λi j h3 h4 h5=>?_⟩
   by_cases qj:j<lo+x
   ·exact hs i j h3 h4 qj
   ·obtain rfl:j=lo+x:=by lia
    by_cases qi:i=lo+x
    ·subst qi;exact Nat.le_refl _
    ·have:=hs i (lo+x-1) h3 (by lia) (by lia)
     lia
  ·rw[if_neg (by simpa using q)]
   refine wpS_bind (lQ C V (by lia) (by lia) ?_)
   dsimp only
   have q':r (it (arrOf st') (lo+x-1))<r (it (arrOf st') (lo+x)):=by
    rcases Nat.lt_or_ge (r (it (arrOf st') (lo+x-1))) (r (it (arrOf st') (lo+x))) with q|q
    ·exact q
    ·have:=V.inj hd (i:=lo+x) (j:=lo+x-1) (by lia) (by lia) (by lia)
     lia
   rw[if_pos (by simpa using q')]
   exact wpS_pure ⟨rfl,x,rfl,by lia,by lia,hs⟩
 case post=>
  rintro c st' ⟨rfl,x,rfl,x1,x2,hs⟩
  dsimp only
  rw[if_neg (by lia)]
  have hzz:=V.size
  have mi:=λk=>V9 (xs:=arrOf st') (i:=lo) (j:=lo+x) (by lia) k
  refine wpS_bind (wpS_reverse ?_)
  have V':Iv κ a₀ (PyProof.Rows.setArr st' (mirror (arrOf st') lo (lo+x) ((lo+x-lo)/2))):=V.setArr (mirror_perm _ _ _ _)
  refine wpS_bind (AR C V' hz (by lia) x2 (λi j h3 h4 h5=>?_) λn m1 m2 m3 m4=>?_)
  ·show r (it (mirror (arrOf st') lo (lo+x) ((lo+x-lo)/2)) i)<=r (it (mirror (arrOf st') lo (lo+x) ((lo+x-lo)/2)) j)
   rw[mi i,if_pos (by lia),mi j,if_pos (by lia)]
   exact hs _ _ (by lia) (by lia) (by lia)
  ·refine wpS_pure (h n _ V' rfl (by lia) m2 m3 λj hj=>?_)
   show it (mirror (arrOf st') lo (lo+x) ((lo+x-lo)/2)) j=_
   rw[mi j,if_neg (by lia)]
theorem KD(C:cW prog w A s κ r (· ∈a₀.toList))(V:Iv κ a₀ st){lo n ok:Nat}{Q:Bool->SortSt->Prop}(hz:lo+n<=a₀.size)(hok:ok<=n)(h1:1<=ok)(hs:cU r (arrOf st) lo (lo+ok))
  (h:∀st',Iv κ a₀ st'->pendingOf st'=pendingOf st->cU r (arrOf st') lo (lo+n)->(∀j,j<lo->it (arrOf st') j=it (arrOf st) j)->Q true st'):
  wpS (model prog w) A E s (binarySort' lo n ok) Q st:=by
 rw[binarySort'_eq,Nat.max_eq_left h1]
 refine wpS_bind (wpS_mono (wpS_forRange (I:=λk c st'=>c=(none,())/\Iv κ a₀ st'/\pendingOf st'=pendingOf st/\cU r (arrOf st') lo (lo+k)/\∀j,j<lo->it (arrOf st') j=it (arrOf st) j)
  (Q:=λc st'=>c=(none,())/\Iv κ a₀ st'/\pendingOf st'=pendingOf st/\cU r (arrOf st') lo (lo+n)/\∀j,j<lo->it (arrOf st') j=it (arrOf st) j) ?step ?fin ⟨rfl,V,rfl,hs,λ_ _=>rfl⟩) ?post)
 case post=>
  rintro c st' ⟨rfl,V',e,hs',hj⟩
  exact wpS_pure (h st' V' e hs' hj)
 case fin=>
  rintro c st' hh
  rwa [Nat.max_eq_right hok]at hh
 case step=>
  rintro k c st' hk1 hk2 ⟨rfl,V',ep,hs',hj'⟩
  refine wpS_bind (wpS_mono (wpS_forRange (I:=λx c st''=>st''=st'/\∃l u,c=(none,l,u)/\l<=u/\u<=k/\u-l<=k-x/\
    (∀i,i<l->r (it (arrOf st') (lo+i))<=r (it (arrOf st') (lo+k)))/\(∀i,u<=i->i<k->r (it (arrOf st') (lo+k))<r (it (arrOf st') (lo+i))))
   (Q:=λc st''=>st''=st'/\∃l u,c=(none,l,u)/\l<=k/\
    (∀i,i<l->r (it (arrOf st') (lo+i))<=r (it (arrOf st') (lo+k)))/\(∀i,l<=i->i<k->r (it (arrOf st') (lo+k))<r (it (arrOf st') (lo+i)))) ?istep ?ifin ?iinit) ?ipost)
  case iinit=>exact⟨rfl,0,k,rfl,by lia,by lia,by lia,λi hi=>by lia,λi h1 h2=>by lia⟩
  case ifin=>
   rintro c st'' ⟨rfl,l,u,rfl,hlr,hrk,hm,hlo,hhi⟩
   have:l=u:=by lia
   subst this
   exact⟨rfl,l,l,rfl,hrk,hlo,hhi⟩
  case istep=>
   rintro x c st'' _ hxk ⟨rfl,l,u,rfl,hlr,hrk,hm,hlo,hhi⟩
   dsimp only
   by_cases hge:l>=u
   ·rw[if_pos hge]
    have:l=u:=by lia
    subst this
    exact wpS_pure ⟨rfl,l,l,rfl,hrk,hlo,hhi⟩
   ·rw[if_neg hge]
    refine wpS_bind (lQ C V' (by lia) (by lia) ?_)
    dsimp only
    by_cases q:r (it (arrOf st'') (lo+k))<r (it (arrOf st'') (lo+(l+u)/2))
    ·rw[if_pos (by simpa using q)]
     refine wpS_pure ⟨rfl,l,(l+u)/2,rfl,by lia,by lia,by lia,hlo,λi h1 h2=>?_⟩
     have:=hs' (lo+(l+u)/2) (lo+i) (by lia) (by lia) (by lia)
     lia
    ·rw[if_neg (by simpa using q)]
     refine wpS_pure ⟨rfl,(l+u)/2+1,u,rfl,by lia,by lia,by lia,λi h1=>?_,hhi⟩
     have:=hs' (lo+i) (lo+(l+u)/2) (by lia) (by lia) (by lia)
     lia
  case ipost=>
   rintro c st'' ⟨rfl,l,u,rfl,hlk,hlo,hhi⟩
   dsimp only
   rw[moveDown'_eq]
   have hzz:=V'.size
   have bi:=λi=>WA (xs:=arrOf st'') (src:=lo+k) (d:=lo+k-(lo+l)) (by lia) (by lia) i
   rw[show lo+k-(lo+k-(lo+l))=lo+l by lia]at bi
   refine wpS_bind (wpS_modify (wpS_pure ⟨rfl,V'.setArr (bubble_perm _ _ _),ep,λi j h3 h4 h5=>?_,λj hj=>?_⟩))
   ·show r (it (bubble (arrOf st'') (lo+k) (lo+k-(lo+l))) i)<=r (it (bubble (arrOf st'') (lo+k) (lo+k-(lo+l))) j)
    rw[bi i,bi j]
    have lo':∀i,lo<=i->i<lo+l->r (it (arrOf st'') i)<=r (it (arrOf st'') (lo+k)):=λi h1 h2=>by
     have:=hlo (i-lo) (by lia)
     rwa [show lo+(i-lo)=i by lia]at this
    have hi':∀i,lo+l<=i->i<lo+k->r (it (arrOf st'') (lo+k))<=r (it (arrOf st'') i):=λi h1 h2=>by
     have:=hhi (i-lo) (by lia) (by lia)
     rw[show lo+(i-lo)=i by lia]at this
     lia
    repeat' split
    all_goals first
     |(exfalso;lia)
     |exact Nat.le_refl _
     |exact lo' _ (by lia) (by lia)
     |exact hi' _ (by lia) (by lia)
     |exact hs' _ _ (by lia) (by lia) (by lia)
   ·show it (bubble (arrOf st'') (lo+k) (lo+k-(lo+l))) j=_
    rw[bi j,if_neg (by lia),if_neg (by lia)]
    exact hj' j hj
end
noncomputable def Cov(r:Keyed->Nat)(a:Array Keyed):Nat->List (Nat×Nat)->Nat->Prop
 |s,[],e=>s=e
 |s,(q,n)::l,e=>q=s/\0<n/\cU r a s (s+n)/\Cov r a (s+n) l e
theorem Cov.le{r:Keyed->Nat}{a:Array Keyed}:∀{l:List (Nat×Nat)}{s e:Nat},Cov r a s l e->s+l.length<=e
 |[],_,_,h=>by rw[show _=_ from h];simp
 |(q,n)::l,s,e,⟨_,h2,_,h4⟩=>by
  have:=h4.le
  rw[length_cons]
  lia
theorem Cov.congr{r:Keyed->Nat}{a b:Array Keyed}:∀{l:List (Nat×Nat)}{s e:Nat},Cov r a s l e->(∀j,s<=j->j<e->it b j=it a j)->Cov r b s l e
 |[],_,_,h,_=>h
 |(q,n)::l,s,e,⟨h1,h2,h3,h4⟩,hc=>by
  have hl:=h4.le
  refine⟨h1,h2,λi j a1 a2 a3=>?_,h4.congr λj a1 a2=>hc j (by lia) a2⟩
  rw[hc i (by lia) (by lia),hc j (by lia) (by lia)]
  exact h3 i j a1 a2 a3
theorem Cov.split{r:Keyed->Nat}{a:Array Keyed}:∀{l l':List (Nat×Nat)}{s e:Nat},Cov r a s (l++l') e->∃m,Cov r a s l m/\Cov r a m l' e
 |[],_,s,_,h=>⟨s,rfl,h⟩
 |(q,n)::l,l',s,e,⟨h1,h2,h3,h4⟩=>by
  obtain⟨m,a1,a2⟩:=h4.split
  exact⟨m,⟨h1,h2,h3,a1⟩,a2⟩
theorem Cov.join{r:Keyed->Nat}{a:Array Keyed}:∀{l l':List (Nat×Nat)}{s m e:Nat},Cov r a s l m->Cov r a m l' e->Cov r a s (l++l') e
 |[],_,s,m,_,h,h'=>by cases(show s=m from h);exact h'
 |(q,n)::l,l',s,m,e,⟨h1,h2,h3,h4⟩,h'=>⟨h1,h2,h3,h4.join h'⟩
noncomputable abbrev p2(st:SortSt):List (Nat×Nat):=(pendingOf st).toList.map λt=>(t.1,t.2.1)
theorem EX(st:SortSt):(p2 st).length=(pendingOf st).size:=by simp
section
variable{prog:Program}{w:World}{A:Around}{E:Value->Shared->Prop}{s:Shared}{κ:SortKind}{r:Keyed->Nat}{a₀:Array Keyed}{st:SortSt}
theorem rA(C:cW prog w A s κ r (· ∈a₀.toList))(V:Iv κ a₀ st){i lo:Nat}{Q:Bool->SortSt->Prop}(hi:i+1<(pendingOf st).size)(hc:Cov r (arrOf st) 0 (p2 st) lo)(hz:lo<=a₀.size)
  (h:∀st',Iv κ a₀ st'->(pendingOf st').size+1=(pendingOf st).size->Cov r (arrOf st') 0 (p2 st') lo->(∀j,lo<=j->it (arrOf st') j=it (arrOf st) j)->Q true st'):
  wpS (model prog w) A E s (mergeAt' i) Q st:=by
 obtain⟨⟨sa,na,pw⟩,e1⟩:∃u,(pendingOf st)[i]? =some u:=⟨_,getElem?_pos _ i (by lia)⟩
 obtain⟨⟨sb,nb,pw'⟩,e2⟩:∃u,(pendingOf st)[i+1]? =some u:=⟨_,getElem?_pos _ (i+1) (by lia)⟩
 have sp:(pendingOf st).toList=(pendingOf st).toList.take i++(sa,na,pw)::(sb,nb,pw')::(pendingOf st).toList.drop (i+2):=by
  conv=>lhs;rw[<-take_append_drop i (pendingOf st).toList]
  congr 1
  have f1:(pendingOf st).toList[i]? =some (sa,na,pw):=by rw[Array.getElem?_toList];exact e1
  have f2:(pendingOf st).toList[i+1]? =some (sb,nb,pw'):=by rw[Array.getElem?_toList];exact e2
  obtain⟨g1,g1'⟩:=List.getElem?_eq_some_iff.mp f1
  obtain⟨g2,g2'⟩:=List.getElem?_eq_some_iff.mp f2
  rw[drop_eq_getElem_cons g1,g1',drop_eq_getElem_cons g2,g2']
 obtain⟨pre,hpre⟩:∃pre,pre=(pendingOf st).toList.take i:=⟨_,rfl⟩
 obtain⟨post,hpost⟩:∃post,post=(pendingOf st).toList.drop (i+2):=⟨_,rfl⟩
 have hl:pre.length=i:=by rw[hpre];simp;lia
 rw[<-hpre,<-hpost]at sp
 have hc':=hc
 unfold p2 at hc'
 rw[sp,map_append]at hc'
 obtain⟨m,c1,c2⟩:=hc'.split
 simp only[map_cons]at c2
 obtain⟨q1,q2,q3,q4,q5,q6,q7⟩:=c2
 have q2:0<na:=q2
 have q5:0<nb:=q5
 have q7:Cov r (arrOf st) (m+na+nb) (List.map (λt:Nat×Nat×Nat=>(t.1,t.2.1)) post) lo:=q7
 have l1:=c1.le
 have l2:=q7.le
 subst q1
 have es:sb=sa+na:=q4
 refine J4 C V e1 e2 es q2 q5 (by lia) (by rw[es];exact q3) (by rw[es];exact q6) λst' V' ep S' hj=>?_
 have et:(pendingOf st').toList=pre++(sa,na+nb,pw)::post:=by
  rw[ep]
  rw[Array.toList_eraseIdxIfInBounds,Array.toList_setIfInBounds,sp]
  rw[List.set_append_right _ _ (by lia),hl,Nat.sub_self,List.set_cons_zero,List.eraseIdx_append_of_length_le (by lia),hl,show i+1-i=1 by lia]
  rfl
 refine h st' V' ?_ ?_ λj hj'=>hj j (.inr (by lia))
 ·have a1:=congrArg List.length et
  have a2:=congrArg List.length sp
  simp only[Array.length_toList,length_append,length_cons]at a1 a2
  lia
 ·unfold p2
  rw[et,map_append]
  refine Cov.join (c1.congr λj _ a2=>hj j (.inl a2)) ⟨rfl,(show 0<na+nb by lia),?_,?_⟩
  ·rw[<-Nat.add_assoc,<-es];exact S'
  ·rw[<-Nat.add_assoc]
   exact q7.congr λj a1 _=>hj j (.inr (by lia))
theorem EW(p:Array (Nat×Nat×Nat))(i pw:Nat):(p.modify i λx=>(x.1,x.2.1,pw)).toList.map (λt=>(t.1,t.2.1))=p.toList.map λt=>(t.1,t.2.1):=by
 apply List.ext_getElem
 ·simp
 ·intro j h1 h2
  simp only[getElem_map,Array.getElem_toList,Array.getElem_modify]
  split <;> rfl
theorem oW{st1:SortSt}{lo n:Nat}(h1:1<=n)(c1:Cov r (arrOf st1) 0 (p2 st1) lo)(s1:cU r (arrOf st1) lo (lo+n)):Cov r (arrOf st1) 0 (p2 (setPending st1 ((pendingOf st1).push (lo,n,0)))) (lo+n):=by
 show Cov r (arrOf st1) 0 (((pendingOf st1).push (lo,n,0)).toList.map λt=>(t.1,t.2.1)) (lo+n)
 rw[Array.toList_push,map_append]
 exact Cov.join c1 ⟨rfl,h1,s1,rfl⟩
theorem J3(C:cW prog w A s κ r (· ∈a₀.toList))(hd:(a₀.toList.map r).Nodup)(V:Iv κ a₀ st){Q:Unit->SortSt->Prop}(h1:1<=a₀.size)(hp:pendingOf st=#[])
  (h:∀st',Iv κ a₀ st'->cU r (arrOf st') 0 a₀.size->Q () st'):wpS (model prog w) A E s sortRuns' Q st:=by
 rw[sortRuns'_eq]
 refine wpS_bind (wpS_get ?_)
 dsimp only
 simp only[V.size]
 obtain⟨mr,hmr⟩:∃mr,mr=minRun' a₀.size a₀.size 0:=⟨_,rfl⟩
 rw[<-hmr]
 refine wpS_bind (wpS_mono (wpS_forRange (I:=λx c st'=>∃lo,c=(none,lo)/\Iv κ a₀ st'/\x<=lo/\lo<=a₀.size/\Cov r (arrOf st') 0 (p2 st') lo)
  (Q:=λc st'=>c=(none,a₀.size)/\Iv κ a₀ st'/\Cov r (arrOf st') 0 (p2 st') a₀.size) ?step ?fin ⟨0,rfl,V,by lia,by lia,?init⟩) ?post)
 case init=>
  unfold p2;rw[hp];exact rfl
 case fin=>
  rintro c st' ⟨lo,rfl,V',a1,a2,a3⟩
  obtain rfl:lo=a₀.size:=by lia
  exact⟨rfl,V',a3⟩
 case step=>
  rintro x c st' _ hx ⟨lo,rfl,V',a1,a2,a3⟩
  dsimp only
  by_cases q:lo>=a₀.size
  ·rw[if_pos q]
   obtain rfl:lo=a₀.size:=by lia
   exact wpS_pure ⟨rfl,V',a3⟩
  rw[if_neg q]
  refine wpS_bind (KC C hd V' (by lia) (by lia) λn st1 V1 ep n1 n2 n3 n4=>?_)
  dsimp only
  have cv1:Cov r (arrOf st1) 0 (p2 st1) lo:=by
   unfold p2;rw[ep]
   exact a3.congr λj _ hj=>n4 j hj
  by_cases e1:n<mr
  ·rw [if_pos e1]
   refine wpS_bind (wpS_lift (wpAny_rule ⟨rfl,?_⟩))
   refine wpS_bind (KD C V1 (by lia) (by lia) n1 n3 λst2 V2 ep2 m3 m4=>?_)
   rw[if_neg (by simp)]
   have cv2:Cov r (arrOf st2) 0 (p2 st2) lo:=by
    unfold p2;rw[ep2]
    exact cv1.congr λj _ hj=>m4 j hj
   refine wpS_bind (wpS_get ?_)
   cases eb:(pendingOf st2).back? with
   |none=>
    dsimp only
    exact wpS_bind (wpS_modify (wpS_pure ⟨_,rfl,⟨V2.perm,V2.kind,V2.ok⟩,by lia,by lia,oW (by lia) cv2 m3⟩))
   | some u=>
    obtain⟨s1,n1,pw1⟩:=u
    dsimp only
    refine wpS_bind (wpS_mono (wpS_forRange (I:=λx c st'=>c=(none,())/\Iv κ a₀ st'/\Cov r (arrOf st') 0 (p2 st') lo/\∀j,lo<=j->it (arrOf st') j=it (arrOf st2) j)
     (Q:=λc st'=>c=(none,())/\Iv κ a₀ st'/\Cov r (arrOf st') 0 (p2 st') lo/\∀j,lo<=j->it (arrOf st') j=it (arrOf st2) j) ?stepA (λ_ _ hh=>hh) ⟨rfl,V2,cv2,λ_ _=>rfl⟩) ?postA)
    case stepA=>
     rintro x c st' _ hx ⟨rfl,V',cv',hj⟩
     refine wpS_bind (wpS_get ?_)
     by_cases q:(pendingOf st').size>1
     ·rw[if_pos q]
      obtain⟨⟨u1,u2,older⟩,e1⟩:∃u,(pendingOf st')[(pendingOf st').size-2]? =some u:=⟨_,getElem?_pos _ _ (by lia)⟩
      rw[e1]
      dsimp only
      split
      ·exact wpS_pure ⟨rfl,V',cv',hj⟩
      ·refine wpS_bind (rA C V' (by lia) cv' (by lia) λst3 V3 _ cv3 hj3=>?_)
       rw[if_neg (by simp)]
       exact wpS_pure ⟨rfl,V3,cv3,λj hj'=>by rw[hj3 j hj',hj j hj']⟩
     ·rw[if_neg q]
      dsimp only
      exact wpS_pure ⟨rfl,V',cv',hj⟩
    case postA=>
     rintro c st' ⟨rfl,V',cv',hj⟩
     dsimp only
     refine wpS_bind (wpS_modify (wpS_bind (wpS_modify (wpS_pure ⟨_,rfl,⟨V'.perm,V'.kind,V'.ok⟩,by lia,by lia,oW (st1:=setPending st' ((pendingOf st').modify ((pendingOf st').size-1) λx=>(x.fst,x.2.fst,power' a₀.size (2*s1+n1) (2*s1+n1+n1+min (a₀.size-lo) mr) a₀.size))) (by lia) ?_ λi j h3 h4 h5=>?_⟩))))
     ·show Cov r (arrOf st') 0 (((pendingOf st').modify ((pendingOf st').size-1) λx=>(x.fst,x.2.fst,power' a₀.size (2*s1+n1) (2*s1+n1+n1+min (a₀.size-lo) mr) a₀.size)).toList.map λt=>(t.1,t.2.1)) lo
      rw[EW]
      exact cv'
     ·show r (it (arrOf st') i)<=r (it (arrOf st') j)
      rw[hj i h3,hj j (by lia)]
      exact m3 i j h3 h4 h5
  ·rw [if_neg e1]
   refine wpS_bind (wpS_get ?_)
   cases eb:(pendingOf st1).back? with
   |none=>
    dsimp only
    exact wpS_bind (wpS_modify (wpS_pure ⟨_,rfl,⟨V1.perm,V1.kind,V1.ok⟩,by lia,by lia,oW (by lia) cv1 n3⟩))
   | some u=>
    obtain⟨s1,n1,pw1⟩:=u
    dsimp only
    refine wpS_bind (wpS_mono (wpS_forRange (I:=λx c st'=>c=(none,())/\Iv κ a₀ st'/\Cov r (arrOf st') 0 (p2 st') lo/\∀j,lo<=j->it (arrOf st') j=it (arrOf st1) j)
     (Q:=λc st'=>c=(none,())/\Iv κ a₀ st'/\Cov r (arrOf st') 0 (p2 st') lo/\∀j,lo<=j->it (arrOf st') j=it (arrOf st1) j) ?stepB (λ_ _ hh=>hh) ⟨rfl,V1,cv1,λ_ _=>rfl⟩) ?postB)
    case stepB=>
     rintro x c st' _ hx ⟨rfl,V',cv',hj⟩
     refine wpS_bind (wpS_get ?_)
     by_cases q:(pendingOf st').size>1
     ·rw[if_pos q]
      obtain⟨⟨u1,u2,older⟩,e1⟩:∃u,(pendingOf st')[(pendingOf st').size-2]? =some u:=⟨_,getElem?_pos _ _ (by lia)⟩
      rw[e1]
      dsimp only
      split
      ·exact wpS_pure ⟨rfl,V',cv',hj⟩
      ·refine wpS_bind (rA C V' (by lia) cv' (by lia) λst2 V2 _ cv2 hj2=>?_)
       rw[if_neg (by simp)]
       exact wpS_pure ⟨rfl,V2,cv2,λj hj'=>by rw[hj2 j hj',hj j hj']⟩
     ·rw[if_neg q]
      dsimp only
      exact wpS_pure ⟨rfl,V',cv',hj⟩
    case postB=>
     rintro c st' ⟨rfl,V',cv',hj⟩
     dsimp only
     refine wpS_bind (wpS_modify (wpS_bind (wpS_modify (wpS_pure ⟨_,rfl,⟨V'.perm,V'.kind,V'.ok⟩,by lia,by lia,oW (st1:=setPending st' ((pendingOf st').modify ((pendingOf st').size-1) λx=>(x.fst,x.2.fst,power' a₀.size (2*s1+n1) (2*s1+n1+n1+n) a₀.size))) (by lia) ?_ λi j h3 h4 h5=>?_⟩))))
     ·show Cov r (arrOf st') 0 (((pendingOf st').modify ((pendingOf st').size-1) λx=>(x.fst,x.2.fst,power' a₀.size (2*s1+n1) (2*s1+n1+n1+n) a₀.size)).toList.map λt=>(t.1,t.2.1)) lo
      rw[EW]
      exact cv'
     ·show r (it (arrOf st') i)<=r (it (arrOf st') j)
      rw[hj i h3,hj j (by lia)]
      exact n3 i j h3 h4 h5
 case post=>
  rintro c st' ⟨rfl,V',cv⟩
  dsimp only
  have one:∀st2,Iv κ a₀ st2->Cov r (arrOf st2) 0 (p2 st2) a₀.size->(pendingOf st2).size<=1->cU r (arrOf st2) 0 a₀.size:=λst2 V2 cv2 hle=>by
   have hl:=EX st2
   match hq:p2 st2,cv2 with
   |[],c=>have:(0:Nat)=a₀.size:=c;lia
   |[(q,n)],c=>
    obtain⟨c1,c2,c3,c4⟩:=c
    have c4:0+n=a₀.size:=c4
    rw[<-c4];exact c3
   |_::_::_,c=>rw[hq]at hl;simp at hl;lia
  have hlen:(pendingOf st').size<=a₀.size:=by have:=cv.le;rw[EX]at this;lia
  refine wpS_bind (wpS_mono (wpS_forRange (I:=λx c st2=>c=(none,())/\Iv κ a₀ st2/\Cov r (arrOf st2) 0 (p2 st2) a₀.size/\((pendingOf st2).size<=1\/(pendingOf st2).size+x<=a₀.size))
   (Q:=λc st2=>c=(none,())/\Iv κ a₀ st2/\cU r (arrOf st2) 0 a₀.size) ?step3 ?fin3 ⟨rfl,V',cv,.inr (by lia)⟩) ?post3)
  case fin3=>
   rintro c st2 ⟨rfl,V2,cv2,hh⟩
   exact⟨rfl,V2,one st2 V2 cv2 (by lia)⟩
  case post3=>
   rintro c st2 ⟨rfl,V2,sn⟩
   exact wpS_pure (h st2 V2 sn)
  case step3=>
   rintro x c st2 _ hx ⟨rfl,V2,cv2,hh⟩
   refine wpS_bind (wpS_get ?_)
   by_cases q:(pendingOf st2).size<=1
   ·rw[if_pos q]
    exact wpS_pure ⟨rfl,V2,one st2 V2 cv2 q⟩
   ·rw[if_neg q]
    refine wpS_bind (rA C V2 ?_ cv2 (Nat.le_refl _) λst3 V3 e3 cv3 _=>?_)
    ·repeat' split
     all_goals lia
    ·rw[if_neg (by simp)]
     exact wpS_pure ⟨rfl,V3,cv3,.inr (by lia)⟩
end
end TS
namespace TS
open PySem PySem.Spec PyProof.Rows L2
theorem nG{α:Type}{p q:α->Bool}:∀{l:List α},(∀x∈l,p x=true->q x=true)->(∃x∈l,q x=true/\p x=false)->l.countP p<l.countP q
 |[],_,⟨_,h,_⟩=>nomatch h
 | a::l,h1,⟨x,hx,h2,h3⟩=>by
  have le:l.countP p<=l.countP q:=List.countP_mono_left λy hy hp=>h1 y (mem_cons_of_mem _ hy) hp
  rw[countP_cons,countP_cons]
  rcases mem_cons.mp hx with rfl|hx
  ·rw[h2,h3];simp;lia
  ·have ih:=nG (λy hy=>h1 y (mem_cons_of_mem _ hy)) ⟨x,hx,h2,h3⟩
   have ha:=h1 a mem_cons_self
   cases ep:p a <;> cases eq:q a <;> simp[ep,eq]at ha ⊢ <;> lia
noncomputable def rk(lt:Nat->Nat->Bool)(n i:Nat):Nat:=(range n).countP λj=>lt j i
section
variable{lt:Nat->Nat->Bool}{n:Nat}(S:nO lt n)
include S
theorem lZ{i j:Nat}(hi:i<n)(hj:j<n)(h:lt i j=true):rk lt n i<rk lt n j:=
 nG (λk hk hp=>S.tr k i j (mem_range.mp hk) hi hj hp h) ⟨i,mem_range.mpr hi,h,by
  cases e:lt i i with
  |false=>rfl
  |true=>have:=S.irr i i hi hi e;rw[e]at this;cases this⟩
theorem M9{i j:Nat}(hi:i<n)(hj:j<n):decide (rk lt n i<rk lt n j)=lt i j:=by
 cases e:lt i j with
 |true=>simpa using lZ S hi hj e
 | false=>
  by_cases q:i=j
  ·subst q;simp
  ·have:=lZ S hj hi (S.tot i j hi hj q e)
   simp;lia
theorem M8{i j:Nat}(hi:i<n)(hj:j<n)(h:rk lt n i=rk lt n j):i=j:=by
 by_cases q:i=j
 ·exact q
 ·cases e:lt i j with
  |true=>have:=lZ S hi hj e;lia
  |false=>have:=lZ S hj hi (S.tot i j hi hj q e);lia
end
theorem QQ{α β:Type}{f:α->β}{l₁ m:List β}(h:l₁.Perm m):∀l₂:List α,m=l₂.map f->∃l:List α,l.Perm l₂/\l₁=l.map f:=by
 induction h with
 |nil=>intro l₂ e;exact⟨[],by cases l₂ with|nil=>exact .nil|cons=>simp at e,rfl⟩
 | cons x _ ih=>
  intro l₂ e
  cases l₂ with
  |nil=>simp at e
  |cons a t=>
   rw[map_cons]at e
   obtain⟨rfl,e2⟩:=List.cons.inj e
   obtain⟨l,p,q⟩:=ih t e2
   exact⟨a::l,p.cons a,by rw[q];rfl⟩
 | swap x y t=>
  intro l₂ e
  match l₂,e with
  |a::b::t',e=>
   rw[map_cons,map_cons]at e
   obtain⟨rfl,e2⟩:=List.cons.inj e
   obtain⟨rfl,rfl⟩:=List.cons.inj e2
   exact⟨b::a::t',.swap a b t',rfl⟩
 |trans _ _ ih1 ih2=>
  intro l₂ e
  obtain⟨l,p,q⟩:=ih2 l₂ e
  obtain⟨l',p',q'⟩:=ih1 l q
  exact⟨l',p'.trans p,q'⟩
noncomputable def jJ(lt:Nat->Nat->Bool)(vs:List Value)(x:Keyed):Nat:=
 open Classical in if h:∃i,i<vs.length/\vs.getD i Value.none=x.1 then rk lt vs.length (Classical.choose h) else 0
theorem oM{lt:Nat->Nat->Bool}{vs:List Value}(nd:vs.Nodup){i:Nat}(hi:i<vs.length)(v:Value):jJ lt vs (vs.getD i Value.none,v)=rk lt vs.length i:=by
 have h:∃j,j<vs.length/\vs.getD j Value.none=vs.getD i Value.none:=⟨i,hi,rfl⟩
 unfold jJ
 rw[dif_pos h]
 congr 1
 obtain⟨h1,h2⟩:=Classical.choose_spec h
 generalize Classical.choose h=c at h1 h2 ⊢
 rw[List.getD_eq_getElem?_getD,List.getD_eq_getElem?_getD,List.getElem?_eq_getElem h1,List.getElem?_eq_getElem hi]at h2
 exact(getElem_inj nd).mp h2
theorem uZ(vs:List Value):(pairsOf vs).toList=(range vs.length).map λi=>(vs.getD i Value.none,vs.getD i Value.none):=by
 rw[pairsOf_toList]
 apply List.ext_getElem
 ·simp
 ·intro i h1 h2
  simp at h1 h2 ⊢
  simp[h2]
section
variable{prog:Program}{w:World}{A:Around}{E:Value->Shared->Prop}{s:Shared}{h₀:Heap}{L a:Addr}{m:Str->Option Value}{news:List (Addr×Obj)}{vs:List Value}
structure IW (prog:Program) (w:World) (A:Around) (vs:List Value) (s:Shared) (R:List Nat->Prop):Prop where
 need:∃κ lt,nO lt vs.length/\(∀Q:SortKind->Shared->Prop,Q κ s->wpAny (model prog w) A (keyKind' vs.toArray) Q (λ_ _=>False) s)/\
  (∀i j,i<vs.length->j<vs.length->∀Q:Bool->Shared->Prop,Q (lt i j) s->wpAny (model prog w) A (keyLt' κ (vs.getD i Value.none) (vs.getD j Value.none)) Q (λ_ _=>False) s)/\
  ∀p:List Nat,p.Perm (range vs.length)->p.Pairwise (λi j=>lt i j=true)->R p
theorem Y7{n:Nat}{P:PySem.Fin->Shared->Prop}(F:Fr h₀ L s.heap m)(N:News h₀ L s.heap news)(ho:s.heap.get? a=some (seqObj "list" vs.toArray n))(haL:a≠L)(ha0:h₀.get? a=none)(hna:∀p∈news,p.1≠a)
  (h2:2<=vs.length) (hz:vs.length<=sizeLine) (nd:vs.Nodup)
  (h:∀e1 h',Fr h₀ L h' m->News h₀ L h' ((a,seqObj "list" #[] e1)::news)->
   IW prog w A vs { s with heap:=h' } λp=>PySem.W.KasFin h₀ L m a e1 (p.map λi=>vs.getD i Value.none) (λs3=>P (.done (.ret .none)) s3) { s with heap:=h' }):
  wpAny (model prog w) A (Builtin.«list.sort» ⟨[.ref a],[]⟩) P E s:=by
 have same:=Heap.SameBut.update s.heap a (Obj.mapSeq λ_=>(#[]:Array Value))
 obtain⟨e1,ho1⟩:∃e1,(s.heap.update a (Obj.mapSeq λ_=>(#[]:Array Value))).get? a=some (seqObj "list" #[] e1):=⟨_,get?_update_seq ho λ_=>#[]⟩
 obtain⟨hp,hhp⟩:∃hp,hp=((s.heap.update a (Obj.mapSeq λ_=>(#[]:Array Value))).push (seqObj "tuple" vs.toArray 0)).push (seqObj "list" #[] 0):=⟨_,rfl⟩
 have F3:Fr h₀ L hp m:=by rw[hhp];exact((PySem.W.kas_fr F same haL ha0).push _).push _
 have N3:News h₀ L hp ((a,seqObj "list" #[] e1)::news):=by
  rw[hhp]
  intro p hp
  rcases mem_cons.mp hp with rfl|hp
  ·exact⟨Heap.get?_push_of_some _ (Heap.get?_push_of_some _ ho1),haL,ha0⟩
  ·exact(PySem.W.kas_news N same hna).grown (λb x e=>Heap.get?_push_of_some _ (Heap.get?_push_of_some _ e)) p hp
 obtain⟨κ,lt,S,hκ,hlt,hfin⟩:=(h e1 hp F3 N3).need
 rw[list_sort_plain]
 refine wpAny_bind (listItems_at ho rfl ?_)
 refine wpAny_bind (listUpdate_at ho rfl ?_ (by rw[size_toArray];exact hz) (Nat.zero_le _))
 refine wpAny_bind (seqEpoch_at ho1 rfl ?_)
 refine wpAny_bind (wpAny_newTuple ?_ (by show vs.length<=_;exact hz))
 refine wpAny_bind (wpAny_newList ?_ (Nat.zero_le _))
 refine wpAny_holding ?_
 show wpAny (model prog w) A _ P E { s with heap:=((s.heap.update a (Obj.mapSeq λ_=>(#[]:Array Value))).push (seqObj "tuple" vs.toArray 0)).push (seqObj "list" #[] 0) }
 rw[<-hhp]
 dsimp only
 have hn2:¬vs.toArray.size<2:=by rw[size_toArray];lia
 rw[if_neg hn2,if_neg hn2]
 refine wpAny_bind (wpAny_mono (hκ (λk s'=>k=κ/\s'={ s with heap:=hp }) ⟨rfl,rfl⟩) (λk s0 hk=>?_) λ_ _ x=>x.elim)
 obtain⟨rfl,rfl⟩:=hk
 have pz:(pairsOf vs).size=vs.length:=pairsOf_size vs
 have C:cW prog w A { s with heap:=hp } k (jJ lt vs) (· ∈(pairsOf vs).toList):=λx y hx hy Q q=>by
  rw[uZ]at hx hy
  obtain⟨i,hi,rfl⟩:=mem_map.mp hx
  obtain⟨j,hj,rfl⟩:=mem_map.mp hy
  have hi:=mem_range.mp hi
  have hj:=mem_range.mp hj
  rw[oM nd hi,oM nd hj,M9 S hi hj]at q
  exact hlt i j hi hj Q q
 have rm:(pairsOf vs).toList.map (jJ lt vs)=(range vs.length).map (rk lt vs.length):=by
  rw[uZ,map_map]
  exact map_congr_left λi hi=>oM nd (mem_range.mp hi) _
 have ndr:((pairsOf vs).toList.map (jJ lt vs)).Nodup:=by
  rw[rm,List.Nodup,pairwise_map]
  exact(nodup_range (n:=vs.length)).imp_of_mem λhi hj ne e=>ne (M8 S (mem_range.mp hi) (mem_range.mp hj) e)
 have run:=J3 (E:=E) (a₀:=pairsOf vs) (st:=SortSt.mk' k (pairsOf vs) #[] 7 none) (Q:=λ_ st'=>Iv k (pairsOf vs) st'/\cU (jJ lt vs) (arrOf st') 0 (pairsOf vs).size) C ndr ⟨Array.Perm.refl _,rfl,rfl⟩ (by rw[pz];lia) rfl λst' V sn=>⟨V,sn⟩
 refine wpAny_bind (wpAny_mono run ?_ λ_ _ e=>e)
 rintro⟨⟨⟩,st'⟩ s' ⟨rfl,V,sn⟩
 dsimp only
 obtain⟨p,pp,pe⟩:=QQ (Array.perm_iff_toList_perm.mp V.perm) _ (uZ vs)
 have plt:∀i∈p,i<vs.length:=λi hi=>mem_range.mp (pp.mem_iff.mp hi)
 have pl:p.length=vs.length:=by rw[pp.length_eq,length_range]
 have up:p.Pairwise λi j=>lt i j=true:=by
  rw[pairwise_iff_getElem]
  intro i j hi hj hij
  have ei:∀x(hx:x<p.length),jJ lt vs (it (arrOf st') x)=rk lt vs.length p[x]:=λx hx=>by
   have hx':x<(arrOf st').size:=by rw[V.size,pz,<-pl];exact hx
   rw[eI hx',<-Array.getElem_toList hx']
   have e:(arrOf st').toList[x]'(by simpa using hx')=(vs.getD p[x] Value.none,vs.getD p[x] Value.none):=by
    rw[List.getElem_of_eq pe,getElem_map]
   rw[e,oM nd (plt _ (getElem_mem hx))]
  have:=sn i j (Nat.zero_le _) (by lia) (by rw[pz,<-pl];exact hj)
  rw[ei i hi,ei j hj]at this
  have a1:=plt _ (getElem_mem hi)
  have a2:=plt _ (getElem_mem hj)
  have pn:p.Nodup:=pp.nodup_iff.mpr nodup_range
  have ne:p[i]≠p[j]:=λe=>by have:=(getElem_inj pn).mp e;lia
  cases e:lt p[i] p[j]with
  |true=>rfl
  |false=>have:=lZ S a2 a1 (S.tot _ _ a1 a2 ne e);lia
 obtain⟨news',g,F',N',U,kk⟩:=hfin p pp up
 obtain⟨pre,post,e0,hg,x1,x2⟩:=U.split
 rw[e0]at N'
 have na:=N' (a,seqObj "list" #[] e1) (mem_append_right _ (.head _))
 have hout:(arrOf st').map (·.2)=List.toArray (p.map λi=>vs.getD i Value.none):=by
  apply Array.toList_inj.mp
  rw[Array.toList_map,pe,map_map]
  rfl
 have hsz:(List.toArray (p.map λi=>vs.getD i Value.none)).size=vs.length:=by rw[size_toArray,length_map,pl]
 rw[hout]
 have s2:=Heap.SameBut.update hp a (Obj.mapSeq λ_=>List.toArray (p.map λi=>vs.getD i Value.none))
 obtain⟨c2,hc2⟩:∃c2,(hp.update a (Obj.mapSeq λ_=>List.toArray (p.map λi=>vs.getD i Value.none))).get? a=some (seqObj "list" (List.toArray (p.map λi=>vs.getD i Value.none)) c2):=⟨_,get?_update_seq na.1 λ_=>List.toArray (p.map λi=>vs.getD i Value.none)⟩
 refine wpAny_bind (seqEpoch_at na.1 rfl ?_)
 refine wpAny_bind (listUpdate_at na.1 rfl ?_ (Nat.zero_le _) (Nat.le_trans (Nat.le_of_eq hsz) (Nat.le_succ_of_le hz)))
 rw[V.ok]
 simp only[bne_self_eq_false,Bool.false_eq_true,if_false]
 refine wpAny_pure (kk _ c2 (PySem.W.kas_fr F' s2 na.2.1 na.2.2) ?_)
 rw[hg]
 exact PySem.W.news_set N' x1 x2 s2 hc2
theorem LX{l:Addr}{Q:Value->Shared->Prop}(F:Fr h₀ L s.heap m)(N:News h₀ L s.heap news)(hl:Col prog w s l vs)(h2:2<=vs.length)(hz:vs.length<=sizeLine)(nd:vs.Nodup)
  (h:∀D e1 h',Fr h₀ L h' m->News h₀ L h' ((D,seqObj "list" #[] e1)::news)->(∀q∈news,q.1<D)->
   IW prog w A.in1.in1 vs { s with heap:=h' } λp=>PySem.W.KasFin h₀ L m D e1 (p.map λi=>vs.getD i Value.none) (λs3=>Q (.ref D) s3) { s with heap:=h' }):
  wpAny (model prog w) A (call (.builtin "sorted") [.ref l]) Q E s:=by
 refine Calls.call_function_entry kind_sorted plain_sorted entry_sorted (args_sorted1 _) ?_
 unfold Builtin.«sorted»
 refine wpAny_bind (m:=checkCount "sorted" 1 1 _) (wpAny_pure ?_)
 refine wpAny_bind (hl _ _ _ ?_)
 refine wpAny_bind (wpAny_newList ?_ hz)
 have hsz:((s.heap.push (seqObj "list" #[] 0)).update s.heap.objs.size (Obj.mapSeq (· ++vs.toArray))).objs.size=s.heap.objs.size+1:=by
  rw[Heap.size_update,size_push']
 have hoL:(((s.heap.push (seqObj "list" #[] 0)).update s.heap.objs.size (Obj.mapSeq (· ++vs.toArray))).push (seqObj "list" vs.toArray 0)).get? (s.heap.objs.size+1)=some (seqObj "list" vs.toArray 0):=by
  rw[<-hsz];exact Heap.get?_push_size _ rfl
 have keep:∀b o,s.heap.get? b=some o->(((s.heap.push (seqObj "list" #[] 0)).update s.heap.objs.size (Obj.mapSeq (· ++vs.toArray))).push (seqObj "list" vs.toArray 0)).get? b=some o:=λb o q=>by
  have hlt:b<s.heap.objs.size:=Heap.lt_size q
  rw[Heap.get?_push_ne _ _ _ (by rw[hsz];exact Nat.ne_of_lt (Nat.lt_succ_of_lt hlt)),Heap.get?_update_ne _ _ _ _ (Nat.ne_of_lt hlt),Heap.get?_push_ne _ _ _ (Nat.ne_of_lt hlt)]
  exact q
 have hL:L<s.heap.objs.size:=F.ns.lt
 show wpAny _ _ _ _ _ { s with heap:=((s.heap.push (seqObj "list" #[] 0)).update s.heap.objs.size (Obj.mapSeq (· ++vs.toArray))).push (seqObj "list" vs.toArray 0) }
 rw[hsz]
 refine wpAny_bind (wpAny_holding (wpAny_call_entry slot_list_sort ⟨_,hoL,rfl⟩ entry_list_sort ?body (args_list_sort _)))
 case body=>
  refine Y7 (s:={ s with heap:=((s.heap.push (seqObj "list" #[] 0)).update s.heap.objs.size (Obj.mapSeq (· ++vs.toArray))).push (seqObj "list" vs.toArray 0) })
   (F.kept keep) (N.grown keep) hoL (Nat.ne_of_gt (Nat.lt_succ_of_lt hL)) (Heap.get?_none_of_le (Nat.le_trans F.above (Nat.le_succ_of_le (Nat.le_of_lt hL))))
   (λp hp=>Nat.ne_of_lt (Nat.lt_succ_of_lt (Heap.lt_size (N p hp).1))) h2 hz nd λe1 h' F' N'=>?_
  obtain⟨κ,lt,S,hκ,hlt,hfin⟩:=(h _ e1 h' F' N' λq hq=>Nat.lt_succ_of_lt (Heap.lt_size (N q hq).1)).need
  exact⟨κ,lt,S,hκ,hlt,λp pp up=>(hfin p pp up).mono λs3 hq=>⟨_,rfl,wpAny_pure ⟨_,rfl,hq⟩⟩⟩
end
end TS
namespace L2
open PySem PySem.Spec PyProof.Rows
section
variable{X:Cx}
end
section
variable{H:Hp}{Q:VK}{K:PySem.W.Frag}
end
theorem VC:typeLookup (.type "list") "keys"=pure none:=by rw[typeLookup_type,builtinLookup_eq_fast];kernel_rfl
theorem WV{prog:Program}{w:World}{A:Around}{E:Value->Shared->Prop}{s:Shared}{a:Addr}{o:Obj}{xs:Array Value}{k:Nat}{Q:Option Value->Shared->Prop}
  (hx:s.heap.get? a=some o) (hc:o.cls=.type "list") (hdat:o.data=.seq xs k) (hd:o.dict=none) (hA:A.handled=none)
  (h:∀h' tk,(∀b u,s.heap.get? b=some u->h'.get? b=some u)->Q none { s with heap:=h',toks:=tk }):
  wpAny (model prog w) A (getAttr? (.ref a) "keys") Q E s:=by
 obtain⟨c,dct,dat,sl⟩:=o
 dsimp only at hc hdat hd
 subst hc hdat hd
 obtain⟨hp,g,d,tk,os⟩:=s
 have hT:∀tk',(⟨hp,g,d,tk',os⟩:Shared).TypeIs (.ref a) "list":=λ_=>⟨_,hx,rfl⟩
 have z1:=sub_AttributeError
 have z3:=F.slot_list_getattribute.lookup
 have z4:=F.slot_list_getattribute.bind (.ref a)
 have z5:=am_list_getattr_none
 unfold getAttr? getAttrBy? getAttrBy
 repeat (any_goals (first|assumption|exact hT _|((with_reducible show wpAny _ _ (call (Value.builtin "list.__getattribute__") _ _) _ _ _);refine call_meets F.slot_list_getattribute (hT _) am_entry_list_getattribute (F.args_list_getattribute_2 _ _) (meets_getattribute_miss_list a xs k sl "keys" _ VC rfl (by size_fits)) ⟨hx,hA,λh' tk' e hx'=>?_⟩)|wp_step))
 obtain⟨t1,u1,he⟩:=hx'.there
 show wpAny _ _ (getattributeRaised _ _ _ _ _ _ _) _ _ _
 unfold getattributeRaised
 repeat (any_goals (first|assumption|wp_step))
 exact h _ _ hx'.keeps
theorem HB:entryFor table "dict.update.loop"=some Builtin.«dict.update.loop»:=entryFor_of_tree (by kernel_rfl)
theorem oY:plainId "dict.update.loop"=true:=by decide +kernel
noncomputable def lC(kvs:List (List aG×V))(p:List aG×V):List (List aG×V):=cE kvs p.1 p.2
noncomputable def cC(prs:List (List aG×V)):List (List aG×V):=prs.foldl lC []
noncomputable def j2(H:Hp)(xs:List V)(prs:List (List aG×V)):Prop:=prs.length=xs.length/\∀(j:Nat)(x:V),xs[j]? =some x->∃a b p,x=.ref a/\prs[j]? =some p/\H a=some (.tup [.ref b,p.2])/\H b=some (.tup (p.1.map kV))
theorem XG(kvs:List (List aG×V))(p:List aG×V):(lC kvs p).length<=kvs.length+1:=pM kvs p.1 p.2
theorem HJ:∀(prs kvs:List (List aG×V)),(prs.foldl lC kvs).length<=kvs.length+prs.length
 |[],kvs=>Nat.le_refl _
 |p::prs,kvs=>by
  have:=HJ prs (lC kvs p)
  have:=XG kvs p
  rw[foldl_cons,length_cons]
  lia
theorem XS(prs:List (List aG×V)):(cC prs).length<=prs.length:=by
 have:=HJ prs []
 simpa[cC]using this
theorem XR{prs:List (List aG×V)}{j:Nat}{p:List aG×V}(h:prs[j]? =some p):cC (prs.take (j+1))=cE (cC (prs.take j)) p.1 p.2:=by
 unfold cC
 rw[take_add_one,h,List.foldl_append]
 rfl
section
variable{X:Cx}{pins:List (Addr×Obj)}{σ:St}
theorem XB{D l It:Addr}{H0:Hp}{xs:List V}{prs:List (List aG×V)}{R:Result->Shared->Prop}{A:Around}(hh:A.handled=none)(hu:A.units+1<cLine)(hl:H0 l=some (.lst xs))(hP:j2 H0 xs prs)(hD:H0 D=none)(hz:xs.length<sizeLine)
  (oI:Ow X pins It)
  (hR:∀(s:Shared),Inv X pins σ (upd H0 D (.dT (cC prs))) s->R (.ok (.ret .none)) s):
  ∀(r j:Nat)(s:Shared)(ob:Obj)(i:Int)(t:Tok),xs.length-j=r->j<=xs.length->Inv X ((It,ob)::pins) σ (upd H0 D (.dT (cC (prs.take j)))) s->s.heap.IsListIter It l j->
   codeAny (model X.prog X.w) A (.builtin "dict.update.loop" ⟨[.ref D,.ref It,.int i t,.none],[]⟩) R s:=by
 have hlD:l≠D:=aS hl hD
 intro r
 induction r with
 | zero=>
  intro j s ob i t hr hj I hit
  have hin:j=xs.length:=by lia
  subst hin
  obtain⟨its,rv,pl,_⟩:=I.list (SqL.of (K:=X.K) (show upd H0 D _ l=some (.lst xs) by rw[aE hlD];exact hl))
  have lenI:its.length=xs.length:=rv.length.symm
  have hlI:l≠It:=λz=>by
   have:=(I.pin (It,ob) (mem_append_right _ mem_cons_self)).2.1
   rw[<-z,aE hlD,hl]at this;cases this
  have Wk:=Walks.list (prog:=X.prog) (w:=X.w) (A:=A.in1) hh It l hlI its.toArray
  refine codeAny_builtin HB ?_
  rw[Around.under_plainId oY _]
  show wpAny _ A.in1 (pyNext (.ref It) >>=_) _ _ _
  refine wpAny_bind (Wk.done _ _ _ ⟨by rw[size_toArray,lenI];exact hit,pl.isList⟩ λh' tk' hk'=>?_)
  have hk:∀b u,b≠It->s.heap.get? b=some u->h'.get? b=some u:=λb u hb e=>hk' b u (by simpa using hb) e
  have I1:Inv X pins σ (upd H0 D (.dT (cC (prs.take xs.length)))) s:=I.pins_of λp hp=>I.pin p (mem_append_right _ (mem_cons_of_mem _ hp))
  have I2:=I1.turned (h':=h') (t':=tk') hk (I.pin (It,ob) (mem_append_right _ mem_cons_self)).2.1 oI.loc oI.new oI.cel oI.pin
  rw[<-hP.1,take_length]at I2
  show wpAny _ A.in1 (Builtin.Dict.addKeywords D [] >>=_) _ _ _
  exact wpAny_bind (wpAny_pure (wpAny_pure (hR _ I2)))
 | succ r ih=>
  intro j s ob i t hr hj I hit
  have hlt':j<xs.length:=by lia
  obtain⟨its,rv,pl,_⟩:=I.list (SqL.of (K:=X.K) (show upd H0 D _ l=some (.lst xs) by rw[aE hlD];exact hl))
  have lenI:its.length=xs.length:=rv.length.symm
  have hlI:l≠It:=λz=>by
   have:=(I.pin (It,ob) (mem_append_right _ mem_cons_self)).2.1
   rw[<-z,aE hlD,hl]at this;cases this
  have Wk:=Walks.list (prog:=X.prog) (w:=X.w) (A:=A.in1) hh It l hlI its.toArray
  refine codeAny_builtin HB ?_
  rw[Around.under_plainId oY _]
  show wpAny _ A.in1 (pyNext (.ref It) >>=_) _ _ _
  refine wpAny_bind (Wk.item j _ _ _ (by rw[size_toArray,lenI];exact hlt') ⟨hit,pl.isList⟩ λv h' tk' hP' hst' hk'=>?_)
  have hv:its[j]? =some v:=by simpa using hP'
  obtain⟨x,hx⟩:∃x,xs[j]? =some x:=⟨_,List.getElem?_eq_getElem hlt'⟩
  have rx:RelV x v:=by
   obtain⟨u,hu,ru⟩:=rv.get hx
   rw[hv]at hu;cases hu;exact ru
  obtain⟨oI',hoI',hoc,hod⟩:=id hst'.1
  have hk:∀b u,b≠It->s.heap.get? b=some u->h'.get? b=some u:=λb u hb e=>hk' b u (by simpa using hb) e
  have I1:Inv X ((It,oI')::pins) σ (upd H0 D (.dT (cC (prs.take j)))) { s with heap:=h',toks:=tk' }:=
   Inv.repin (p1:=[]) I oI hk hoI' (λv z=>by rw[hod]at z;cases z)
  obtain⟨a,b,p,rfl,ep,ha,hb⟩:=hP.2 j x hx
  obtain rfl:v=Value.ref a:=rx
  have haD:a≠D:=aS ha hD
  have hbD:b≠D:=aS hb hD
  have ha1:upd H0 D (.dT (cC (prs.take j))) a=some (.tup [.ref b,p.2]):=by rw[aE haD];exact ha
  have hb1:upd H0 D (.dT (cC (prs.take j))) b=some (.tup (p.1.map kV)):=by rw[aE hbD];exact hb
  obtain⟨zs,rz,⟨ot,g1,g2,n,g3⟩,_⟩:=I1.tuple (SqT.of (K:=X.K) ha1)
  obtain⟨u1,u2,rfl,r1,r2⟩:=Vals.two rz
  obtain rfl:u1=Value.ref b:=r1
  refine wpAny_bind (wpAny_holding ?_)
  refine wpAny_bind (wpAny_tryCatch ?_)
  unfold Builtin.Dict.pairItems
  refine wpAny_bind (wpAny_typeOf ⟨ot,g1,g2⟩ ?_)
  rw[if_pos (by decide)]
  refine wpAny_bind (wpAny_seqItems g1 g3 ?_)
  refine wpAny_pure ?_
  show wpAny _ _ (holding [.ref b,u2] (dictSet D (.ref b) u2)) _ _ _
  refine wpAny_holding ?_
  obtain⟨z0,hd,ks,rel,dd⟩:=w6 I1.hok (a:=D) (kvs:=cC (prs.take j)) aC
  have hz2:ks.length<=sizeLine:=by rw[<-Paired.length rel];exact z0
  have hl2:(cC (prs.take j)).length<sizeLine:=by
   have:=XS (prs.take j)
   rw[length_take]at this
   lia
  have hl:(cE (cC (prs.take j)) p.1 p.2).length<=sizeLine:=by have:=pM (cC (prs.take j)) p.1 p.2;lia
  refine wpAny_dictSet_heap (hsz:=hz2) (tupleKind_room_in1 hu) (mJ I1.hok hb1) dd λh2 dd' hs=>?_
  obtain⟨q,es,ep2,hq,e2,e3,e4,_,e5⟩:=dd'
  have I2:=xC (ob:=.dT (cE (cC (prs.take j)) p.1 p.2)) I1 (a:=D) (by rw[aC];exact True.intro) hs ⟨q,hq⟩ ⟨hl,hd,_,(rel.put p.1 hb1 r2).keeps λc ys ec=>by
   rw[aE (gT ec aC (λz=>nomatch z))]
   exact ec,q,es,ep2,hq,e2,e3,e4,e5⟩ (t':=tk'+(tupleKind (dC X.prog X.w)).draws p.1)
  rw[KP,<-XR ep]at I2
  have nI:=(I2.pin (It,oI') (mem_append_right _ mem_cons_self)).1
  exact wpAny_pure ⟨plainId_quiet oY _,ih (j+1) _ oI' (i+1) _ (by lia) hlt' I2 ⟨oI',nI,hoc,hod⟩⟩
end
noncomputable def EB(K:PySem.W.Frag):List V->Hp->VK->Prop:=λxs H Q=>∃(p:Addr)(vs:List V)(prs:List (List aG×V)),xs=[.ref p]/\H p=some (.lst vs)/\j2 H vs prs/\vs.length<sizeLine/\∀d,H d=none->Q (.ref d) (upd H d (.dT (cC prs)))
section
variable{X:Cx}
theorem YN(hc:X.calm=true)(hu:X.A.units+64<cLine):CallR X (.type "dict") (EB X.K):=by
 intro pins s σ H xs us Q I r h
 obtain⟨p,vs,prs,rfl,hl,hP,hz,q⟩:=h
 obtain⟨u,rfl,rx⟩:=Vals.one r
 cases(show u=Value.ref p from rx)
 have hD0:H s.heap.objs.size=none:=I.hok.fresh (Nat.le_refl _)
 have hhd:X.A.handled=none:=I.ok.hd hc
 refine callType_codes (Q₁:=λobj s₁=>obj=.ref s.heap.objs.size/\s₁=({ s with heap:=s.heap.push { cls:=.type "dict",data:=.dict #[] } }:Shared)) PySem.F.kt_called_dict (PySem.F.kt_typeCall_dict_1 _) PySem.F.entry_dict_init (kt_code_dict_new _ ⟨rfl,rfl⟩) ?_
 rintro obj s₁ ⟨rfl,rfl⟩
 have I1:Inv X pins σ (upd H s.heap.objs.size (.dT [])) { s with heap:=s.heap.push { cls:=.type "dict",data:=.dict #[] },toks:=s.toks }:=I.laid (a:=s.heap.objs.size) (o:=.dT []) (t':=s.toks) (λ_ _ z=>Heap.get?_push_of_some _ z) (Nat.le_refl _) (XC s.heap I.big)
 generalize hD:s.heap.objs.size=D at *
 have hlD:p≠D:=aS hl hD0
 obtain⟨_,_,ks,_,dd⟩:=w6 I1.hok (a:=D) (kvs:=[]) aC
 refine⟨dd.typeIs,PySem.F.args_dict_init_2 _ _,?_⟩
 unfold Builtin.«dict.__init__»;refine wpAny_bind ?_;unfold Builtin.Dict.selfAndRest;refine wpAny_bind (wpAny_notOrdered_dict dd.typeIs ?_)
 refine wpAny_pure ?_
 show wpAny _ _ (Builtin.Dict.updateFrom "dict.__init__" D (.ref p) [] .none) _ _ _
 unfold Builtin.Dict.updateFrom;obtain⟨its,rv,pl,_⟩:=I1.list (SqL.of (K:=X.K) (show upd H D _ p=some (.lst vs) by rw[aE hlD];exact hl))
 obtain⟨ol,n,g1,g2,g3,g4⟩:=id pl
 refine wpAny_bind (wpAny_typeOf ⟨ol,g1,g2⟩ ?_)
 rw[if_pos (by decide)]
 refine wpAny_bind (WV g1 g2 g4 g3 hhd λh2 tk2 hk2=>?_)
 rw[if_pos (show(none:Option Value).isNone=true from rfl)]
 refine wpAny_bind (wpAny_rule ?_)
 have I2:Inv X pins σ (upd H D (.dT [])) { s with heap:=h2,toks:=tk2 }:=I1.kept (t':=tk2) hk2
 obtain⟨its2,rv2,pl2,_⟩:=I2.list (SqL.of (K:=X.K) (show upd H D _ p=some (.lst vs) by rw[aE hlD];exact hl))
 refine wpAny_bind (wpAny_pyIter_list pl2.isList ?_)
 refine wpAny_pure ⟨plainId_quiet oY _,?_⟩
 have gI:(h2.push { cls:=.type "list_iterator",data:=.fields #[.ref p,.int 0 0] }).get? h2.objs.size=some { cls:=.type "list_iterator",data:=.fields #[.ref p,.int 0 0] }:=Heap.get?_push_size _ rfl
 have oI0:Ow X pins h2.objs.size:=I2.ow (Nat.le_refl _)
 have I3:Inv X ((h2.objs.size,{ cls:=.type "list_iterator",data:=.fields #[.ref p,.int 0 0] })::pins) σ (upd H D (.dT [])) { s with heap:=h2.push { cls:=.type "list_iterator",data:=.fields #[.ref p,.int 0 0] },toks:=tk2 }:=
  I2.pinNew (I2.kept (t':=tk2) λb o e=>Heap.get?_push_of_some _ e) gI (Nat.le_refl _) (I2.hok.fresh (Nat.le_refl _)) λv z=>by cases z
 exact XB (H0:=H) (prs:=prs) (A:=X.A.in1) hhd (show X.A.units+1+1<cLine by lia) hl hP hD0 hz oI0 (λs' I'=>⟨rfl,.ref D,_,I',rfl,q D hD0⟩) vs.length 0 _ _ 0 0 (by lia) (Nat.zero_le _) I3 ⟨_,gI,rfl,rfl⟩
theorem VW(K:PySem.W.Frag)(hu:X.A.units+64<cLine)(hc:X.calm=true:=by rfl)(h:X.K=K:=by rfl):CallR X (.type "dict") (EB K):=h▸YN hc hu
end
noncomputable def lL(H:Hp)(h:Heap):Prop:=∀a xs,H a=some (.tup xs)->∃its,Vals xs its/\IsTup h a its.toArray
section
variable{H:Hp}{h:Heap}
mutual
theorem Is.readsT(T:lL H h):∀{v:V}{d:PyData}{u:Value},Is H v d->cB d=true->RelV v u->∃as,Reads h u d as
 |_,_,_,.non,_,r=>by cases(show _=Value.none from r);exact⟨_,.none⟩
 |_,_,_,.bl b,_,r=>by cases(show _=Value.bool b from r);exact⟨_,.bool b⟩
 |_,_,_,.int i,_,r=>by obtain⟨t,rfl⟩:=r;exact⟨_,.int i t⟩
 |_,_,_,.str x,_,r=>by obtain⟨t,rfl⟩:=r;exact⟨_,.str x t⟩
 |_,_,_,.tup (a:=a) e hs,hn,r=>by
  cases(show _=Value.ref a from r)
  obtain⟨its,rv,⟨o,h1,h2,n,h3⟩⟩:=T _ _ e
  obtain⟨as,ra⟩:=IsAll.readsT T hs (by simpa[cB]using hn) rv
  exact⟨_,.tuple h1 h2 h3 (by simpa using ra)⟩
 |_,_,_,.lst e hs,hn,r=>by cases hn
theorem IsAll.readsT(T:lL H h):∀{vs:List V}{ds:List PyData}{us:List Value},IsAll H vs ds->bR ds=true->Vals vs us->∃as,ReadsAll h us ds as
 |_,_,_,.nil,_,.nil=>⟨_,.nil⟩
 |_,_,_,.cons h1 t1,hn,.cons r1 q1=>by
  rw[bR,Bool.and_eq_true]at hn
  obtain⟨as,ra⟩:=Is.readsT T h1 hn.1 r1
  obtain⟨bs,rb⟩:=IsAll.readsT T t1 hn.2 q1
  exact⟨_,.cons ra rb⟩
end
mutual
theorem Is.fn:∀{v:V}{d e:PyData},cB d=true->cB e=true->Is H v d->Is H v e->d=e
 |_,_,_,_,_,.non,.non=>rfl
 |_,_,_,_,_,.bl _,.bl _=>rfl
 |_,_,_,_,_,.int _,.int _=>rfl
 |_,_,_,_,_,.str _,.str _=>rfl
 |_,_,_,n1,n2,.tup e1 h1,.tup e2 h2=>by
  rw[e1]at e2
  cases e2
  rw[IsAll.fn (by simpa[cB]using n1) (by simpa[cB]using n2) h1 h2]
 |_,_,_,n1,n2,.tup e1 h1,.lst e2 h2=>by cases n2
 |_,_,_,n1,n2,.lst e1 h1,_=>by cases n1
theorem IsAll.fn:∀{vs:List V}{ds es:List PyData},bR ds=true->bR es=true->IsAll H vs ds->IsAll H vs es->ds=es
 |_,_,_,_,_,.nil,.nil=>rfl
 |_,_,_,n1,n2,.cons h1 t1,.cons h2 t2=>by
  rw[bR,Bool.and_eq_true]at n1 n2
  rw[Is.fn n1.1 n2.1 h1 h2,IsAll.fn n1.2 n2.2 t1 t2]
end
end
section
variable{H:Hp}{s:Shared}
theorem UO(T:lL H s.heap){A:Around}{k:Nat}(hA:A.units+k+3<cLine)(one:∀(d e:PyData)(x y:V)(u v:Value),Is H x d->Is H y e->RelV x u->RelV y v->fW d e=true->d.canLay0=true->e.canLay0=true->cB d=true->cB e=true->d.depth<=k->lN A.in1 s u v (eA d e)):
  ∀(ds es:List PyData)(xs ys:List V)(us vs:List Value),IsAll H xs ds->IsAll H ys es->Vals xs us->Vals ys vs->fG ds es=true->PyData.canLayAll0 ds=true->PyData.canLayAll0 es=true->bR ds=true->bR es=true->PyData.depthAll ds<=k->hV A.in1 s us vs (iH ds es):=by
 intro ds
 induction ds with
 |nil=>
  intro es xs ys us vs h1 h2 r1 r2 hc o1 o2 _ _ hz
  cases h1
  cases r1
  cases es with
  |nil=>cases h2;cases r2;exact .nn
  |cons e es=>cases h2 with|cons _ _=>cases r2 with|cons _ _=>exact .nc
 | cons d ds ih=>
  intro es xs ys us vs h1 h2 r1 r2 hc o1 o2 n1 n2 hz
  cases h1 with
  |cons i1 t1=>
  cases r1 with
  |cons q1 s1=>
  cases es with
  |nil=>cases h2;cases r2;exact .cn
  | cons e es=>
   cases h2 with
   |cons i2 t2=>
   cases r2 with
   |cons q2 s2=>
   rw[PyData.canLayAll0,Bool.and_eq_true]at o1 o2
   rw[bR,Bool.and_eq_true]at n1 n2
   rw[PyData.depthAll]at hz
   have hd1:d.depth<=k:=Nat.le_trans (Nat.le_max_left _ _) hz
   have hd2:PyData.depthAll ds<=k:=Nat.le_trans (Nat.le_max_right _ _) hz
   obtain⟨as,ra⟩:=i1.readsT T n1.1 q1
   obtain⟨bs,rb⟩:=i2.readsT T n2.1 q2
   have he:=SeqAt.eqAt_reads d e A.in1 s _ _ as bs ra rb o1.1 o2.1 (by show A.units+1+_<_;lia)
   rw[fG]at hc
   rw[iH]
   by_cases g:PyData.eqv d e=true
   ·rw[if_pos g]at hc ⊢
    rw[g]at he
    exact .eq he (ih es _ _ _ _ t1 t2 s1 s2 hc o1.2 o2.2 n1.2 n2.2 hd2)
   ·rw[if_neg g]at hc ⊢
    rw[Bool.not_eq_true]at g
    rw[g]at he
    exact .ne he (one d e _ _ _ _ i1 i2 q1 q2 hc o1.1 o2.1 n1.1 n2.1 hd1)
theorem UP(T:lL H s.heap):∀(k:Nat)(d e:PyData)(x y:V)(u v:Value)(A:Around),Is H x d->Is H y e->RelV x u->RelV y v->fW d e=true->d.canLay0=true->e.canLay0=true->cB d=true->cB e=true->d.depth<=k->A.units+k+2<cLine->lN A s u v (eA d e):=by
 intro k
 induction k with
 | zero=>
  intro d e x y u v A hx hy ru rv hc od oe _ _ hk hA
  rcases HL hc with⟨i,j,rfl,rfl⟩|⟨ds,es,rfl,rfl,_⟩
  ·exact FV hx hy ru rv
  ·rw[xB]at hk
   exact absurd hk (Nat.not_succ_le_zero _)
 | succ k ih=>
  intro d e x y u v A hx hy ru rv hc od oe nd ne hk hA
  rcases HL hc with⟨i,j,rfl,rfl⟩|⟨ds,es,rfl,rfl,hcs⟩
  ·exact FV hx hy ru rv
  ·rw[xB]at hk
   cases hx with
   |tup ea ha=>
   cases hy with
   |tup eb hb=>
   obtain rfl:=(show u=Value.ref _ from ru)
   obtain rfl:=(show v=Value.ref _ from rv)
   obtain⟨its,r1,p1⟩:=T _ _ ea
   obtain⟨its2,r2,p2⟩:=T _ _ eb
   rw[eA]
   rw[PyData.canLay0]at od oe
   rw[cB]at nd ne
   refine UM p1 p2 (by lia) (UO (k:=k) T (by lia) (λd e x y u v h1 h2 h3 h4 h5 h6 h7 h9 h10 h8=>ih d e x y u v A.in1 h1 h2 h3 h4 h5 h6 h7 h9 h10 h8 (by show A.units+1+k+2<_;lia)) ds es _ _ _ _ ha hb r1 r2 hcs od oe nd ne (Nat.le_of_succ_le_succ hk))
theorem VM{prog:Program}{w:World}{A:Around}(T:lL H s.heap)(hA:A.units+50<cLine){b:Bool}{Q:Bool->Shared->Prop}:
  ∀(ds es:List PyData)(xs ys:List V)(us vs:List Value)(i:Nat),IsAll H xs ds->IsAll H ys es->Vals xs us->Vals ys vs->fG ds es=true->PyData.canLayAll0 ds=true->PyData.canLayAll0 es=true->bR ds=true->bR es=true->PyData.depthAll ds<=40->
   (i=0->∀d e dr er,ds=d::dr->es=e::er->(∃m n,d=.int m/\e=.int n)\/PyData.eqv d e=true)->Q (iH ds es) s->PySem.W.KatLex prog w A b (decide (ds.length<es.length)) Q (us.zip vs) i s:=by
 intro ds
 induction ds with
 |nil=>
  intro es xs ys us vs i h1 h2 r1 r2 hc o1 o2 _ _ hz hh q
  cases h1
  cases r1
  cases es with
  |nil=>cases h2;cases r2;exact q
  |cons e es=>cases h2 with|cons _ _=>cases r2 with|cons _ _=>exact q
 | cons d ds ih=>
  intro es xs ys us vs i h1 h2 r1 r2 hc o1 o2 n1 n2 hz hh q
  cases h1 with
  |cons i1 t1=>
  cases r1 with
  |cons q1 s1=>
  cases es with
  |nil=>cases h2;cases r2;exact q
  | cons e es=>
   cases h2 with
   |cons i2 t2=>
   cases r2 with
   |cons q2 s2=>
   rw[PyData.canLayAll0,Bool.and_eq_true]at o1 o2
   rw[bR,Bool.and_eq_true]at n1 n2
   rw[PyData.depthAll]at hz
   have hd1:d.depth<=40:=Nat.le_trans (Nat.le_max_left _ _) hz
   have hd2:PyData.depthAll ds<=40:=Nat.le_trans (Nat.le_max_right _ _) hz
   obtain⟨as,ra⟩:=i1.readsT T n1.1 q1
   obtain⟨bs,rb⟩:=i2.readsT T n2.1 q2
   have he:=SeqAt.eqAt_reads d e A s _ _ as bs ra rb o1.1 o2.1 (by lia)
   rw[fG]at hc
   rw[iH]at q
   rw[zip_cons_cons]
   refine PySem.W.kat_cons (he prog w _ _ ?_)
   by_cases g:PyData.eqv d e=true
   ·rw[if_pos g]at hc q
    rw[g]
    have:=ih es _ _ _ _ (i+1) t1 t2 s1 s2 hc o1.2 o2.2 n1.2 n2.2 hd2 (λz=>by lia) q
    rw[show decide ((d::ds).length<(e::es).length)=decide (ds.length<es.length) by simp]
    exact PySem.W.kat_yes this
   ·rw[if_neg g]at hc q
    rw[Bool.not_eq_true]at g
    rw[g]
    refine PySem.W.kat_no ?_
    have lt:=UP T 40 d e _ _ _ _ A i1 i2 q1 q2 hc o1.1 o2.1 n1.1 n2.1 hd1 (by lia)
    cases hb:(b&&i==0) with
    | true=>
     have i0:i=0:=by
      rw[Bool.and_eq_true]at hb
      simpa using hb.2
     rcases hh i0 d e ds es rfl rfl with⟨m,n,rfl,rfl⟩|z
     ·cases i1
      cases i2
      obtain⟨t,rfl⟩:=q1
      obtain⟨t2,rfl⟩:=q2
      rw[eA]at q
      exact oneLt_int q
     ·rw[g]at z;cases z
    |false=>exact PySem.W.kat_one _ _ (lt prog w _ _ (show PySem.W.BoolBack Q (.bool (eA d e)) s from q))
end
noncomputable def IY(ds:List PyData):Prop:=(∀d∈ds,∃n r,d=.tuple (.int n::r))\/∃x,∀d∈ds,∃r,d=.tuple (.str x::r)
noncomputable def oQ(K:PySem.W.Frag):List V->Hp->VK->Prop:=λxs H Q=>∃(p:Addr)(vs:List V)(ds:List PyData)(key:PyData->List Int),xs=[.ref p]/\(SqL K H p vs\/SqT K H p vs)/\IsAll H vs ds/\IY ds/\(∀d∈ds,dQ d/\cB d=true)/\
 (∀d∈ds,∀e∈ds,fW d e=true/\eA d e=HT.lexLt (key d) (key e))/\(ds.map key).Nodup/\
 ∀(l:Addr)(vs':List V)(ds':List PyData),H l=none->IsAll H vs' ds'->ds'.Perm ds->ds'.Pairwise (λa b=>HT.lexLt (key a) (key b)=true)->Q (.ref l) (upd H l (.lst vs'))
section
variable{X:Cx}
theorem YC(hu:X.A.units+64<cLine):CallR X (.builtin "sorted") (oQ X.K):=by
 intro pins s σ H xs us Q I r h
 obtain⟨p,vs,ds,key,rfl,hq,ha,hH,hk,hc,hnd,q⟩:=h
 obtain⟨u,rfl,rx⟩:=Vals.one r
 cases(show u=Value.ref p from rx)
 obtain⟨its,rv,hl,hz⟩:∃its,Vals vs its/\Col X.prog X.w s p its/\vs.length<=sizeLine:=by
  rcases hq with hq|hq
  ·obtain⟨its,rv,pl,hz⟩:=I.list hq
   exact⟨its,rv,Col.list pl.isList (by rw[<-rv.length];exact hz),hz⟩
  ·obtain⟨its,rv,pl,hz⟩:=I.tuple hq
   exact⟨its,rv,Col.tup pl (by rw[<-rv.length];exact hz),hz⟩
 have e1:vs.length=ds.length:=ha.length
 have e2:its.length=ds.length:=by rw[<-rv.length,e1]
 by_cases h2:its.length<2
 ·refine CW hl h2 λD h' n hD hkeep ho=>?_
  refine⟨.ref D,_,I.laid (t':=s.toks) (o:=.lst vs) hkeep hD ⟨hz,its,n,rv,ho⟩,rfl,q D vs ds (I.hok.fresh hD) ha (List.Perm.refl _) ?_⟩
  match ds,e2,h2 with
  |[],_,_=>exact .nil
  |[a],_,_=>exact pairwise_singleton _ _
  |a::b::r,e2,h2=>simp at e2;lia
 ·obtain⟨m,F⟩:=I.fr
  have atD:∀(i:Nat)(hi:i<ds.length),∃v u,vs[i]? =some v/\its[i]? =some u/\Is H v ds[i]/\RelV v u:=λi hi=>by
   obtain⟨v,ev,iv⟩:=ha.get (i:=i) (d:=ds[i]) (List.getElem?_eq_getElem hi)
   obtain⟨u,eu,ru⟩:=rv.get ev
   exact⟨v,u,ev,eu,iv,ru⟩
  have ndi:its.Nodup:=by
   rw[List.Nodup,pairwise_iff_getElem]
   intro i j hi hj hij e
   have hi':i<ds.length:=by lia
   have hj':j<ds.length:=by lia
   obtain⟨v,u,ev,eu,iv,ru⟩:=atD i hi'
   obtain⟨v',u',ev',eu',iv',ru'⟩:=atD j hj'
   rw[List.getElem?_eq_getElem hi]at eu
   rw[List.getElem?_eq_getElem hj]at eu'
   have ee:u=u':=by rw[<-Option.some.inj eu,<-Option.some.inj eu',e]
   have tup:∀(d:PyData)(v:V)(u:Value),d∈ds->Is H v d->RelV v u->∃a,v=.ref a/\u=.ref a:=λd v u hd iv ru=>by
    have:∃r,d=.tuple r:=by
     rcases hH with z|⟨x,z⟩
     ·obtain⟨n,r,e⟩:=z d hd
      exact⟨_,e⟩
     ·obtain⟨r,e⟩:=z d hd
      exact⟨_,e⟩
    obtain⟨r,rfl⟩:=this
    cases iv with
    |tup _ _=>exact⟨_,rfl,ru⟩
   obtain⟨a,rfl,rfl⟩:=tup _ _ _ (getElem_mem hi') iv ru
   obtain⟨a',rfl,rfl⟩:=tup _ _ _ (getElem_mem hj') iv' ru'
   cases ee
   have ed:=Is.fn (hk _ (getElem_mem hi')).2 (hk _ (getElem_mem hj')).2 iv iv'
   have:=pairwise_iff_getElem.mp hnd i j (by simpa using hi') (by simpa using hj') hij
   simp only[getElem_map]at this
   exact this (by rw[ed])
  refine TS.LX F (news:=lI X.base s.heap X.env.locals) FK hl (by lia) (by rw[<-rv.length];exact hz) ndi λD e0 h' F' N' hD=>?_
  have hkeep:∀b o,b≠X.env.locals->s.heap.get? b=some o->h'.get? b=some o:=λb o hb e=>by
   cases qb:X.base.get? b with
   |some u=>
    have:=I.bk b u qb
    rw[e]at this;cases this
    exact F'.keep b _ qb
   |none=>exact(N' (b,o) (mem_cons_of_mem _ (kO hb qb e))).1
  have TT:lL H ({ s with heap:=h' }:Shared).heap:=λa xs ea=>by
   obtain⟨zs,rz,⟨o,h1,h2,n,h3⟩,_⟩:=I.tuple (SqT.of (K:=X.K) ea)
   have hL:a≠X.env.locals:=λz=>by rw[z,I.free]at ea;cases ea
   exact⟨zs,rz,o,hkeep a o hL h1,h2,n,h3⟩
  have item:∀(i:Nat)(hi:i<ds.length),∃(a:Addr)(xs:List V)(es:List PyData)(o:Obj)(zs:List Value)(n:Nat),its.getD i Value.none=.ref a/\ds[i]=.tuple es/\IsAll H xs es/\h'.get? a=some o/\o.cls=.type "tuple"/\o.data=.seq zs.toArray n/\Vals xs zs:=λi hi=>by
   obtain⟨v,u,ev,eu,iv,ru⟩:=atD i hi
   have:∃r,ds[i]=.tuple r:=by
    rcases hH with z|⟨x,z⟩
    ·obtain⟨n,r,e⟩:=z _ (getElem_mem hi)
     exact⟨_,e⟩
    ·obtain⟨r,e⟩:=z _ (getElem_mem hi)
     exact⟨_,e⟩
   obtain⟨es,ee⟩:=this
   rw[ee]at iv
   cases iv with
   |@tup a xs _ ea hxs=>
    obtain⟨zs,rz,o,g1,g2,n,g3⟩:=TT a xs ea
    refine⟨a,xs,es,o,zs,n,?_,ee,hxs,g1,g2,g3,rz⟩
    rw[List.getD_eq_getElem?_getD,eu]
    exact ru
  obtain⟨T,fs,tups,hfl,hT,hTT⟩:∃(T:String)(fs:List Value),PySem.W.KatTups h' its fs/\fs.length=its.length/\(∀v∈fs,typeOf v=pure (Value.type T))/\(Value.type T==Value.type T)=true:=by
   have go:∀T:String,(∀(es:List PyData)(xs:List V)(zs:List Value),.tuple es∈ds->IsAll H xs es->Vals xs zs->∃f,zs.toArray[0]? =some f/\typeOf f=pure (Value.type T))->
     ∃(fs:List Value),PySem.W.KatTups h' its fs/\fs.length=its.length/\(∀v∈fs,typeOf v=pure (Value.type T)):=λT hf=>
    wA its λi u eu=>by
     have hi:i<ds.length:=by rw[<-e2];exact(List.getElem?_eq_some_iff.mp eu).1
     obtain⟨a,xs,es,o,zs,n,g1,ge,gx,g2,g3,g4,g5⟩:=item i hi
     rw[List.getD_eq_getElem?_getD,eu]at g1
     obtain⟨f,f1,f2⟩:=hf es xs zs (by rw[<-ge];exact getElem_mem hi) gx g5
     exact⟨a,o,zs.toArray,n,f,g1,g2,g3,g4,f1,f2⟩
   rcases hH with z|⟨x,z⟩
   ·obtain⟨fs,a,b,c⟩:=go "int" λes xs zs hm ix rz=>by
     obtain⟨n,r,e⟩:=z _ hm
     cases e
     cases ix with
     | cons i1 t1=>
      cases i1
      cases rz with
      |cons r1 _=>
       obtain⟨t,rfl⟩:=r1
       exact⟨_,rfl,rfl⟩
    exact⟨"int",fs,a,b,c,rfl⟩
   ·obtain⟨fs,a,b,c⟩:=go "str" λes xs zs hm ix rz=>by
     obtain⟨r,e⟩:=z _ hm
     cases e
     cases ix with
     | cons i1 t1=>
      cases i1
      cases rz with
      |cons r1 _=>
       obtain⟨t,rfl⟩:=r1
       exact⟨_,rfl,rfl⟩
    exact⟨"str",fs,a,b,c,rfl⟩
  have S:nO (λi j=>HT.lexLt (key (ds.getD i .none)) (key (ds.getD j .none))) its.length:=⟨λi j k _ _ _ a b=>pL a b,λi j hi hj hne a=>vY (λz=>hne ?_) a,λi j _ _ a=>kQ a⟩
  ·refine⟨_,_,S,λQ q=>PySem.W.kat_kind tups (by lia) (λv hv=>PySem.W.Looks.of_pure (hT v hv)) hTT q,λi j hi hj C hC=>?_,λpq pm up=>?_⟩
   rw[e2]at hi hj
   ·show wpAny _ _ (keyLt' _ (its.getD i Value.none) (its.getD j Value.none)) C _ _
    obtain⟨a,xs,es,o,zs,n,g1,ge,gx,g2,g3,g4,g5⟩:=item i hi
    obtain⟨a',xs',es',o',zs',n',g1',ge',gx',g2',g3',g4',g5'⟩:=item j hj
    rw[g1,g1']
    refine PySem.W.kat_lt g2 g4 g2' g4' ?_
    have ez:decide (zs.toArray.size<zs'.toArray.size)=decide (es.length<es'.length):=by
     have l1:=g5.length
     have l2:=g5'.length
     rw[gx.length]at l1
     rw[gx'.length]at l2
     rw[size_toArray,size_toArray,l1,l2]
    rw[ez]
    have mi:=getElem_mem hi
    have mj:=getElem_mem hj
    have cij:=hc _ mi _ mj
    have ki:=hk _ mi
    have kj:=hk _ mj
    rw[ge]at ki
    rw[ge']at kj
    have e1':ds.getD i .none=ds[i]:=by simp[hi]
    have e2':ds.getD j .none=ds[j]:=by simp[hj]
    have hC':C (HT.lexLt (key ds[i]) (key ds[j])) { s with heap:=h' }:=by rw[<-e1',<-e2'];exact hC
    rw[<-cij.2,ge,ge',eA]at hC'
    rw[ge,ge',fW]at cij
    have o1:=ki.1.1
    have o2:=kj.1.1
    have d1:=ki.1.2
    rw[PyData.canLay0]at o1 o2
    rw[xB]at d1
    have n1:=ki.2
    have n2:=kj.2
    rw[cB]at n1 n2
    refine VM (s:={ s with heap:=h' }) TT (show X.A.units+1+1+50<cLine by lia) es es' xs xs' zs zs' 0 gx gx' g5 g5' cij.1 o1 o2 n1 n2 (by lia) (λ_ d e dr er ed ee=>?_) hC'
    rcases hH with z|⟨x,z⟩
    ·obtain⟨m,r,f1⟩:=z _ mi
     obtain⟨m',r',f2⟩:=z _ mj
     rw[ge,ed]at f1
     rw[ge',ee]at f2
     cases f1
     cases f2
     exact .inl ⟨_,_,rfl,rfl⟩
    ·obtain⟨r,f1⟩:=z _ mi
     obtain⟨r',f2⟩:=z _ mj
     rw[ge,ed]at f1
     rw[ge',ee]at f2
     cases f1
     cases f2
     exact .inr (by simp[PyData.eqv])
   ·rw[e2]at pm
    refine PySem.W.KasFin.intro F' N' (.head λx hx=>Nat.ne_of_lt (hD x hx)) λh'' c F'' N''=>?_
    have hnD:s.heap.get? D=none:=by
     cases qd:s.heap.get? D with
     |none=>rfl
     |some o=>
      have hh:=N' (D,_) mem_cons_self
      have hm:=hD (D,o) (kO hh.2.1 hh.2.2 qd)
      exact absurd hm (Nat.lt_irrefl _)
    have hkeep2:∀b o,b≠X.env.locals->s.heap.get? b=some o->h''.get? b=some o:=λb o hb e=>by
     cases qb:X.base.get? b with
     |some u=>
      have:=I.bk b u qb
      rw[e]at this;cases this
      exact F''.keep b _ qb
     |none=>exact(N'' (b,o) (mem_cons_of_mem _ (kO hb qb e))).1
    have hlt:∀x∈pq,x<ds.length:=λx hx=>mem_range.mp (pm.mem_iff.mp hx)
    have rv2:∀l:List Nat,(∀x∈l,x<ds.length)->Vals (l.map λi=>vs.getD i .non) (l.map λi=>its.getD i Value.none)/\IsAll H (l.map λi=>vs.getD i .non) (l.map λi=>ds.getD i .none):=λl=>by
     induction l with
     |nil=>exact λ_=>⟨.nil,.nil⟩
     |cons x l ih=>
      intro hx
      obtain⟨ih1,ih2⟩:=ih λy hy=>hx y (mem_cons_of_mem _ hy)
      have hxn:=hx x mem_cons_self
      obtain⟨v,u,ev,eu,iv,ru⟩:=atD x hxn
      have a1:vs.getD x .non=v:=by rw[List.getD_eq_getElem?_getD,ev];rfl
      have a2:its.getD x Value.none=u:=by rw[List.getD_eq_getElem?_getD,eu];rfl
      have a3:ds.getD x .none=ds[x]:=by simp[hxn]
      simp only[map_cons,a1,a2,a3]
      exact⟨.cons ru ih1,.cons iv ih2⟩
    obtain⟨rv3,ia3⟩:=rv2 pq hlt
    have ho:=(N'' (D,_) mem_cons_self).1
    have hpl:pq.length=ds.length:=by rw[pm.length_eq,length_range]
    refine⟨.ref D,_,I.laidBut (t':=s.toks) hkeep2 F.ns F''.ns hnD rv3 (by rw[length_map,hpl,<-e1];exact hz) ho,rfl,q D _ _ (I.none_of hnD) ia3 ?_ ?_⟩
    ·have:=pm.map λi=>ds.getD i .none
     rw[FQ]at this
     exact this
    ·rw[pairwise_map]
     exact up
  ·rw[e2]at hi hj
   have e1':ds.getD i .none=ds[i]:=by simp[hi]
   have e2':ds.getD j .none=ds[j]:=by simp[hj]
   rw[e1',e2']at z
   have:=(getElem_inj (i:=i) (j:=j) (h₀:=by simpa using hi) (h₁:=by simpa using hj) hnd).mp (by simpa using z)
   exact this
theorem GE(K:PySem.W.Frag)(hu:X.A.units+64<cLine)(h:X.K=K:=by rfl):CallR X (.builtin "sorted") (oQ K):=h▸YC hu
end
section
variable{H:Hp}{Q:VK}{K:PySem.W.Frag}
theorem NO{p:Addr}{vs:List V}{ds:List PyData}(key:PyData->List Int)(e:H p=some (.lst vs))(ha:IsAll H vs ds)(hH:IY ds)(hk:∀d∈ds,dQ d/\cB d=true)(hc:∀d∈ds,∀e∈ds,fW d e=true/\eA d e=HT.lexLt (key d) (key e))(nd:(ds.map key).Nodup)
  (h:∀(l:Addr)(vs':List V)(ds':List PyData),H l=none->IsAll H vs' ds'->ds'.Perm ds->ds'.Pairwise (λa b=>HT.lexLt (key a) (key b)=true)->Q (.ref l) (upd H l (.lst vs'))):oQ K [.ref p] H Q:=⟨p,vs,ds,key,rfl,.inl (SqL.of e),ha,hH,hk,hc,nd,h⟩
end
noncomputable def lO(K:PySem.W.Frag)(a:Addr):It:=
 ⟨λi H=>∃xs x,SqL K H a xs/\xs[i]? =some x,λi H x H'=>∃T y,x=.ref T/\H T=none/\(∀xs,SqL K H a xs->xs[i]? =some y)/\H'=upd H T (.tup [.int i,y]),λi H=>∃xs,SqL K H a xs/\xs.length<=i⟩
theorem K4{P:Program}{w:World}{K:PySem.W.Frag}{elts:List Expr}{k:Nat}{pos:Pos}(a e it:Addr)(hei:e≠it):lK P w K (.Tuple elts k pos) (lO K a) [e,it] e (λi h=>(∃old,IsEnum h e it i old)/\h.IsListIter it a i) where
 mem:=by simp
 obj:=λi h st b hb=>by
  obtain⟨⟨old,he⟩,o,eo,c,d⟩:=st
  rcases mem_cons.mp hb with rfl|hb
  ·exact⟨_,he,λv z=>by cases z⟩
  ·rw[mem_singleton.mp hb]
   exact⟨o,eo,λv z=>by rw[d]at z;cases z⟩
 keep:=λi h h' st kk=>⟨let⟨old,he⟩:=st.1;⟨old,kk e (by simp) _ he⟩,st.2.at λo x=>kk it (by simp) o x⟩
 item:=by
  intro X hP hw hK hc i pins s σ H E I hf st hg
  subst hP hw hK
  obtain⟨xs,x,hq,hx⟩:=hg
  obtain⟨its,rv,p0,hz⟩:=I.list hq;have p:=p0.isList
  obtain⟨u,hu,ru⟩:=rv.get hx
  obtain⟨f0,f1,f2,f3,f4,f5⟩:=hf e (by simp)
  obtain⟨g0,g1,g2,g3,g4,g5⟩:=hf it (by simp)
  have vI:∀b,H b=none->(∃o,s.heap.get? b=some o/\o.cls≠.type "list")->a≠b:=λb hn⟨o,eo,co⟩z=>by
   obtain⟨o2,e2,c2,_⟩:=p
   rw[z,eo]at e2;cases e2;exact co c2
  have hae:a≠e:=vI e f0 (let⟨old,he⟩:=st.1;⟨_,he,λz=>by simp at z⟩)
  have hai:a≠it:=vI it g0 (let⟨o,eo,c,d⟩:=st.2;⟨o,eo,λz=>by rw[c]at z;simp at z⟩)
  have W:=WalksT.enumerateD (Draws.list (prog:=X.prog) (w:=X.w) (A:=X.A.in1) (I.ok.hd hc) it a hai its.toArray) e hei (by simp[hei,Ne.symm hae]) (by simp)
  have hi:i<its.toArray.size:=by
   rw[size_toArray,<-rv.length]
   exact(List.getElem?_eq_some_iff.mp hx).1
  obtain⟨⟨old,he⟩,hit⟩:=st
  have D:=Draws.list (prog:=X.prog) (w:=X.w) (A:=X.A.in1) (I.ok.hd hc) it a hai its.toArray
  have helt:e<s.heap.objs.size:=Heap.lt_size he
  have hilt:it<s.heap.objs.size:=by obtain⟨_,y,_⟩:=hit;exact Heap.lt_size y
  refine wpAny_pyNext_enum_itemD D he ⟨hit,p⟩ hi hei (by simp[hei,Ne.symm hae]) λu' h' t hu' ho hs' hT0 hsz hk0=>?_
  have hT:s.heap.objs.size<=s.heap.objs.size:=Nat.le_refl _
  have eu:u'=u:=by
   have:its[i]? =some u':=by simpa using hu'
   rw[hu]at this;cases this;rfl
  subst eu
  have hM:=(⟨⟨_,ho⟩,hs',Nat.ne_of_gt helt,Nat.ne_of_gt hilt⟩:(∃x,IsEnumOut h' e it ((i:Int)+1) x s.heap.objs.size)/\(h'.IsListIter it a (i+1)/\h'.IsList a its.toArray)/\s.heap.objs.size≠e/\s.heap.objs.size≠it)
  have hk:∀b o,b∉[e,it]->s.heap.get? b=some o->h'.get? b=some o:=λb o hb y=>hk0 b o (λe'=>hb (by simp[e'])) (λe'=>hb (by simp[e'])) y
  generalize hTT:s.heap.objs.size=T at *
  refine⟨_,rfl,W.go elts k pos i T _ _ _ hM λh2 st2 hk2=>?_⟩
  have keep:∀b o,b≠e->b≠it->s.heap.get? b=some o->h2.get? b=some o:=λb o h1 h3 eo=>hk2 b o (by simp[h1,h3]) (hk b o (by simp[h1,h3]) eo)
  have hTn:T∉[e,it]:=W.apart i T h' hM
  have hTe:T≠e:=λz=>hTn (by simp[z])
  have hTi:T≠it:=λz=>hTn (by simp[z])
  have eT2:=hk2 T _ hTn hT0
  have hTH:H T=none:=I.hok.fresh (Nat.le_of_eq hTT)
  have J:Inv X pins σ (upd H T (.tup [.int i,x])) { s with heap:=h2,toks:=t+1 }:=by
   refine I.step (g':=s.gens) (d':=s.drawn) (ch:=[e,it]) (λb hb=>?_) (λb o _ _ hc eo _=>keep b o (λz=>hc (by simp[z])) (λz=>hc (by simp[z])) eo) (λb o _ _ hc eo _=>⟨o.slots,keep b o (λz=>hc (by simp[z])) (λz=>hc (by simp[z])) eo⟩) (λb o _ eo n=>?_)
    (λb o hc eo=>⟨o,keep b o (λz=>hc (by simp[z])) (λz=>hc (by simp[z])) eo⟩) (λb xs q=>?_) (λb o u q=>?_) (λb ps q=>?_) (λm hm=>?_) (λb u q=>?_) I.bare
   ·rcases mem_cons.mp hb with rfl|hb
    ·exact⟨f3,f1,f4,f5⟩
    ·rw[mem_singleton.mp hb]
     exact⟨g3,g1,g4,g5⟩
   ·rw[aE (Nat.ne_of_lt (hTT▸Heap.lt_size eo))];exact n
   ·rw[aE (aS q hTH)];exact q
   ·rw[aE (aS q hTH)];exact q
   ·exact⟨#[],by rw[aE (aS q hTH),q];simp⟩
   ·obtain⟨o,es,ep,eo,r⟩:=hm
    exact⟨o,es,ep,keep _ o (Ne.symm f1) (Ne.symm g1) eo,r⟩
   ·by_cases hb:b=T
    ·subst hb
     rw[aC]at q
     cases q
     exact⟨by show 2<=sizeLine;decide,[.int i t,u'],.cons ⟨t,rfl⟩ (.cons ru .nil),⟨_,eT2,rfl,_,rfl⟩,_,eT2,rfl⟩
    ·rw[aE hb]at q
     refine(I.hok b u q).stay (λc v hc' r=>keep c v (λz=>?_) (λz=>?_) r) (λc r=>by rw[aE (aS r hTH)];exact r) λc xs r=>by rw[aE (aS r hTH)];exact r
     ·subst z
      rcases hc' with rfl|hc'
      ·rw[f0]at q;cases q
      ·rw[f0]at hc';cases hc'
     ·subst z
      rcases hc' with rfl|hc'
      ·rw[g0]at q;cases q
      ·rw[g0]at hc';cases hc'
  refine⟨.ref T,_,J,rfl,⟨T,x,rfl,hTH,λys hy=>by rw[I.list_inj hy hq];exact hx,rfl⟩,⟨st2.1,st2.2.1⟩,λb hb=>?_⟩
  rcases mem_cons.mp hb with rfl|hb
  ·rw[aE (Ne.symm hTe)];exact f0
  ·rw[mem_singleton.mp hb,aE (Ne.symm hTi)];exact g0
 done:=by
  intro X hP hw hK hc i pins s σ H E I hf st hg
  subst hP hw hK
  obtain⟨xs,hq,hx⟩:=hg
  obtain⟨its,rv,p0,hz⟩:=I.list hq;have p:=p0.isList
  obtain⟨g0,g1,g2,g3,g4,g5⟩:=hf it (by simp)
  have hl:=rv.length
  obtain⟨⟨old,he⟩,hit⟩:=st
  refine wpAny_pyNext_enum_end (I.ok.hd hc) he hit p (by simp;lia) λh' eb=>⟨rfl,I.turned (t':=s.toks) (λb o hb e=>eb b o hb e) g0 g1 g3 g4 g5⟩
 self:=λA i s Q E st h=>by
  obtain⟨⟨old,he⟩,_⟩:=st
  exact wpAny_pyIter_enum he h
noncomputable def wH(K:PySem.W.Frag)(ta:TA):TI:=λσ H R=>ta σ H λvs H1=>∃a,vs=[.ref a]/\(∃xs,SqL K H1 a xs)/\R (lO K a) H1
theorem QO{X:Cx}{elts:List Expr}{k:Nat}{tp:Pos}{a:Expr}{ta:TA}{p pos:Pos}(hg:Gl X "enumerate")(hm:X.mg "enumerate"=none)(ha:PA X [a] ta)(hs:starEach [a] X.env=[(false,eval a X.env)]:=by rfl):
  PI X (.Tuple elts k tp) (.Call (.Name "enumerate" p) [a] [] pos) (wH X.K ta):=by
 intro pins s σ H R I h
 refine Call_ (iI I hg hm Y0 (PyProof.Rows.callWith_type1 (aH (ha pos pins s σ H _ I h) λus s1⟨vs,H1,I1,r1,q1⟩=>?_) hs rfl))
 obtain⟨b,e,⟨xs,hq⟩,q⟩:=q1
 subst e
 obtain⟨u,rfl,rx⟩:=Vals.one r1
 obtain rfl:u=Value.ref b:=rx
 obtain⟨its,rv,pl,hz⟩:=I1.list hq
 refine call_enumerate_list pl.isList λh' he hit hsz hk=>?_
 refine wpAny_pyIter_enum he ?_
 have I2:Inv X pins σ H1 { s1 with heap:=h',toks:=s1.toks }:=I1.kept hk
 refine⟨s1.heap.objs.size+1,[s1.heap.objs.size+1,s1.heap.objs.size],_,_,H1,rfl,I2,K4 b _ _ (Nat.succ_ne_self _),⟨⟨_,he⟩,hit⟩,λc hb=>?_,q⟩
 rcases mem_cons.mp hb with rfl|hb
 ·exact I1.fpOk (by lia) (I1.hok.fresh (by lia))
 ·rw[mem_singleton.mp hb]
  exact I1.fpOk (Nat.le_refl _) (I1.hok.fresh (Nat.le_refl _))
section
variable{H:Hp}{K:PySem.W.Frag}
theorem VP(K:PySem.W.Frag){X:Cx}{elts:List Expr}{k:Nat}{tp:Pos}{a:Expr}{ta:TA}{p pos:Pos}(hg:Gl X "enumerate")(hm:X.mg "enumerate"=none)(ha:PA X [a] ta)(hs:starEach [a] X.env=[(false,eval a X.env)]:=by rfl)(h:X.K=K:=by rfl):
  PI X (.Tuple elts k tp) (.Call (.Name "enumerate" p) [a] [] pos) (wH K ta):=h▸QO hg hm ha hs
theorem O7{σ:St}{ta:TA}{R:It->Hp->Prop}(h:ta σ H λvs H1=>∃a,vs=[.ref a]/\(∃xs,SqL K H1 a xs)/\R (lO K a) H1):wH K ta σ H R:=h
theorem W1{σ:St}{a:Addr}{xs:List V}{G:St->Hp->Prop}{B:(St->Hp->Prop)->V->St->Hp->Prop}(Pv:Nat->St->Hp->Prop)(h0:Pv 0 σ H)(hl:∀i σ H,i<=xs.length->Pv i σ H->SqL K H a xs)
  (hs:∀i x σ H T,xs[i]? =some x->Pv i σ H->H T=none->B (Pv (i+1)) (.ref T) σ (upd H T (.tup [.int i,x]))) (hd:∀σ H,Pv xs.length σ H->G σ H):
  ∃W:Nat->Nat->St->Hp->Prop,(∃m,W 0 m σ H)/\∀i m σ H,W i m σ H->((lO K a).stop i H/\G σ H)\/((lO K a).go i H/\
   ∃N:St->Hp->Prop,(∀σ' H',N σ' H'->∃m',m'<m/\W (i+1) m' σ' H')/\∀x H',(lO K a).yld i H x H'->B N x σ H'):=by
 refine⟨λi m σ H=>m=xs.length-i/\i<=xs.length/\Pv i σ H,⟨xs.length,by simp,Nat.zero_le _,h0⟩,?_⟩
 rintro i m σ H ⟨rfl,hi,p⟩
 have q:=hl i σ H hi p
 by_cases hlt:i<xs.length
 ·refine .inr ⟨⟨xs,xs[i],q,by simp[hlt]⟩,Pv (i+1),λσ' H' p'=>⟨xs.length-(i+1),by lia,rfl,hlt,p'⟩,λx H' y=>?_⟩
  obtain⟨T,z,e,hT,hz,e2⟩:=y
  subst e e2
  exact hs i z σ _ T (hz xs q) p hT
 ·have e:i=xs.length:=by lia
  subst e
  exact .inl ⟨⟨xs,q,Nat.le_refl _⟩,hd σ H p⟩
end
noncomputable def hJ(t:SetTable):Prop:=t.place.toList.Pairwise (· < ·)/\t.dummies=#[]
structure JZ (xs:Array Nat) (j k:Nat):Prop where
 le:k<=xs.size
 lo:∀i,i<k->xs.getD i j<j
 hi:∀i,k<=i->i<xs.size->j<=xs.getD i j
theorem n5{xs:Array Nat}(h:xs.toList.Pairwise (· < ·)){i k j:Nat}(hik:i<k)(hk:k<xs.size):xs.getD i j<xs.getD k j:=by
 have:=pairwise_iff_getElem.mp h i k (by simpa using Nat.lt_trans hik hk) (by simpa using hk) hik
 have e1:xs.getD i j=xs[i]'(Nat.lt_trans hik hk):=by simp[Array.getD,Nat.lt_trans hik hk]
 have e2:xs.getD k j=xs[k]'hk:=by simp[Array.getD,hk]
 rw[e1,e2]
 simpa using this
theorem yS{xs:Array Nat}(h:xs.toList.Pairwise (· < ·))(j:Nat):∀(f lo hi:Nat),hi-lo<=f->lo<=hi->hi<=xs.size->(∀i,i<lo->xs.getD i j<j)->(∀i,hi<=i->i<xs.size->j<=xs.getD i j)->JZ xs j (SetTable.below.go xs j f lo hi)
 |0,lo,hi,hf,h1,h2,h3,h4=>by
  have:lo=hi:=by lia
  subst this
  exact⟨h2,h3,h4⟩
 | f + 1,lo,hi,hf,h1,h2,h3,h4=>by
  unfold SetTable.below.go
  by_cases g:lo<hi
  ·rw[if_pos g]
   dsimp only
   have hm:(lo+hi)/2<hi:=by lia
   have hm2:lo<=(lo+hi)/2:=by lia
   split
   ·rename_i g2
    refine yS h j f _ _ (by lia) (by lia) h2 (λi hi'=>?_) h4
    by_cases e:i=(lo+hi)/2
    ·rw[e];exact g2
    ·exact Nat.lt_trans (n5 h (show i<(lo+hi)/2 by lia) (by lia)) g2
   ·rename_i g2
    refine yS h j f _ _ (by lia) (by lia) (by lia) h3 (λi hi' iO=>?_)
    by_cases e:i=(lo+hi)/2
    ·rw[e];lia
    ·have:=n5 (j:=j) h (show(lo+hi)/2<i by lia) iO
     lia
  ·rw[if_neg g]
   have:lo=hi:=by lia
   subst this
   exact⟨h2,h3,h4⟩
theorem HY{xs:Array Nat}(h:xs.toList.Pairwise (· < ·))(j:Nat):JZ xs j (SetTable.below xs j):=
 yS h j xs.size 0 xs.size (by lia) (Nat.zero_le _) (Nat.le_refl _) (λi z=>by lia) (λi z1 z2=>by lia)
theorem WG{xs:Array Nat}(h:xs.toList.Pairwise (· < ·)){j:Nat}(hn:xs[SetTable.below xs j]? ≠some j):(SetTable.insertAt xs (SetTable.below xs j) j).toList.Pairwise (· < ·):=by
 have B:=HY h j
 generalize SetTable.below xs j=k at B hn
 rw[SetTable.toList_insertAt,pairwise_append]
 have len:xs.toList.length=xs.size:=Array.length_toList
 refine⟨h.sublist (take_sublist _ _),?_,?_⟩
 ·rw[pairwise_cons]
  refine⟨λy hy=>?_,h.sublist (List.drop_sublist _ _)⟩
  obtain⟨i,hi,e⟩:=getElem_of_mem hy
  rw[length_drop,len]at hi
  rw[List.getElem_drop]at e
  have h1:=B.hi (k+i) (by lia) (by lia)
  have e1:xs.getD (k+i) j=y:=by
   rw[<-e]
   simp[Array.getD,show k+i<xs.size by lia]
  rw[e1]at h1
  refine Nat.lt_of_le_of_ne h1 λz=>?_
  subst z
  by_cases i0:i=0
  ·subst i0
   apply hn
   rw[Array.getElem?_eq_getElem (show k<xs.size by lia)]
   congr 1
  ·have h2:=B.hi k (Nat.le_refl _) (by lia)
   have h3:=n5 (j:=j) h (show k<k+i by lia) (by lia)
   lia
 ·intro a ha b hb
  obtain⟨i,hi,e⟩:=getElem_of_mem ha
  rw[length_take,len]at hi
  rw[getElem_take]at e
  have h1:=B.lo i (by lia)
  have e1:xs.getD i j=a:=by
   rw[<-e]
   simp[Array.getD,show i<xs.size by lia]
  rw[e1]at h1
  rcases mem_cons.mp hb with rfl|hb
  ·exact h1
  ·obtain⟨i2,iO,e2⟩:=getElem_of_mem hb
   rw[length_drop,len]at iO
   rw[List.getElem_drop]at e2
   have h2:=B.hi (k+i2) (by lia) (by lia)
   have e3:xs.getD (k+i2) j=b:=by
    rw[<-e2]
    simp[Array.getD,show k+i2<xs.size by lia]
   lia
theorem nZ(t:SetTable)(n:Nat):hJ (t.standIn n):=by
 refine⟨?_,rfl⟩
 show(Array.range n).toList.Pairwise (· < ·)
 rw[Array.toList_range]
 exact pairwise_lt_range
theorem KR{t:SetTable}(h:hJ t)(n:Nat):hJ (t.orStandIn n):=by
 unfold SetTable.orStandIn
 split
 ·exact h
 ·exact nZ t n
theorem EK{t:SetTable}(hd:t.dummies=#[]){f:Nat->Int}{h:Int}:∀(n:Nat)(p:SetTable.Probe)(j:Nat)(d:Option Nat),p.dummy=none->SetTable.probe.go t f h n p=some (.empty j d)->d=none/\t.slot j=.empty
 |0,p,j,d,hp,e=>by cases e
 | n + 1,p,j,d,hp,e=>by
  unfold SetTable.probe.go at e
  have nd:t.slot p.j≠.dummy:=by
   unfold SetTable.slot
   dsimp only
   split
   ·exact λz=>nomatch z
   ·have:SetTable.has t.dummies p.j=false:=by
     unfold SetTable.has
     rw[hd]
     simp
    rw[this]
    exact λz=>nomatch z
  have ad:(t.advance p).dummy=none:=by
   unfold SetTable.advance
   split
   ·exact hp
   ·exact hp
  split at e
  ·rename_i g
   cases e
   exact⟨hp,g⟩
  ·rename_i g
   exact absurd g nd
  ·split at e
   ·cases e
   ·exact EK hd n _ j d ad e
theorem L6{t:SetTable}{j:Nat}(h:t.slot j=.empty):t.place[SetTable.below t.place j]? ≠some j:=by
 intro z
 unfold SetTable.slot at h
 dsimp only at h
 rw[z]at h
 simp at h
theorem KU{t:SetTable}(u:hJ t)(es:Array (Int×Value))(h:Int)(x:Value):hJ (layNew t es h x).2.1/\(layNew t es h x).2.1.led=t.led:=by
 unfold layNew
 split
 ·rename_i slot wd e
  dsimp only
  unfold SetTable.freeSlot at e
  split at e
  ·rename_i j d g
   unfold SetTable.probe at g
   obtain⟨rfl,g2⟩:=EK u.2 _ _ j d rfl g
   cases e
   have up:hJ (t.put j).1:=by
    unfold SetTable.put
    refine⟨WG u.1 (L6 g2),?_⟩
    dsimp only
    have:SetTable.has t.dummies j=false:=by
     unfold SetTable.has
     rw[u.2]
     simp
    rw[this]
    exact u.2
   refine⟨KR up _,?_⟩
   show(SetTable.orStandIn (t.put j).1 _).led=t.led
   unfold SetTable.orStandIn
   split <;> rfl
  ·cases e
 ·exact⟨nZ t _,rfl⟩
theorem KQ(t:SetTable)(es:Array (Int×Value))(n:Nat):hJ (relayAll t es n).2.1/\(relayAll t es n).2.1.led=t.led:=by
 unfold relayAll
 split
 ·rename_i t' order e
  dsimp only
  split
  ·unfold SetTable.relaid SetTable.laid at e
   simp only[Option.bind_eq_bind,Option.bind_eq_some_iff]at e
   obtain⟨owner,_,e⟩:=e
   cases e
   refine⟨⟨?_,rfl⟩,rfl⟩
   dsimp only
   have sub:((List.filterMap (λj=>Option.map (λx=>(j,x)) (owner.getD j none)) (range (SetTable.sizeAbove n-1+1))).map (·.1)).Sublist (range (SetTable.sizeAbove n-1+1)):=by
    generalize range (SetTable.sizeAbove n-1+1)=l
    induction l with
    |nil=>exact List.Sublist.refl _
    |cons a l ih=>
     rw[filterMap_cons]
     cases owner.getD a none with
     |none=>exact ih.cons a
     |some y=>exact ih.cons₂ a
   exact pairwise_lt_range.sublist sub
  ·exact⟨nZ t _,rfl⟩
 ·exact⟨nZ t _,rfl⟩
noncomputable def gF(w:World):Bool:=w.params.followText "set-order"
noncomputable def nN(w:World)(t:SetTable):Prop:=hJ t/\t.led= !gF w
noncomputable def SetU(prog:Program)(w:World)(h:Heap)(a:Addr)(S:Int->Bool)(n:Nat):Prop:=
 ∃o es ep t,(h.get? a=some o/\o.ExactSet/\o.data=.set es ep t)/\ElemsOf (intKind prog w) es.toList/\(∀k,S k=true<->∃e∈es.toList,(intKind prog w).is k e.2=true)/\es.size<scanBound/\t.fits es.size=true/\es.size=n/\nN w t
section
variable{prog:Program}{w:World}{A:Around}{E:Value->Shared->Prop}{s:Shared}
theorem SetU.of{h h':Heap}{a:Addr}{S:Int->Bool}{n:Nat}(x:SetU prog w h a S n)(k:∀o,h.get? a=some o->h'.get? a=some o):SetU prog w h' a S n:=by
 obtain⟨o,es,ep,t,⟨h1,h2,h3⟩,r⟩:=x
 exact⟨o,es,ep,t,⟨k o h1,h2,h3⟩,r⟩
theorem SetU.congr{h:Heap}{a:Addr}{S S':Int->Bool}{n n':Nat}(x:SetU prog w h a S n)(e:∀k,S k=S' k)(en:n=n'):SetU prog w h a S' n':=by
 have:S=S':=funext e
 subst this en
 exact x
theorem IP{g:Bool->Sem Unit}(hg:∀(b:Bool)(s₁:Shared)(Q':Unit->Shared->Prop),Q' () s₁->wpAny (model prog w) A (g b) Q' E s₁){a:Addr}{o:Obj}{es:Array (Int×Value)}{ep:Nat}{t:SetTable}(ho:s.heap.get? a=some o/\o.ExactSet/\o.data=.set es ep t)
  {es1:Array (Int×Value)} {t2:SetTable} {S':Int->Bool} (hel1:ElemsOf (intKind prog w) es1.toList) (hm:∀k',S' k'=true<->∃e∈es1.toList,(intKind prog w).is k' e.2=true) (hb1:es1.size<scanBound) (hf2:t2.fits es1.size=true) (hU:nN w t2) {wd:Bool} {R:Option Bool->Shared->Prop}
  (h:∀h',Heap.SameBut a s.heap h'->SetU prog w h' a S' es1.size->R (some true) { s with heap:=h' }):
  wpAny (model prog w) A (do
   storeSet a es1 t2
   if(!wd&&t2.tooFull)=true then do
     g (relayAll t2 es1 (SetTable.grown es1.size)).2.2
     storeSet a (relayAll t2 es1 (SetTable.grown es1.size)).1 (relayAll t2 es1 (SetTable.grown es1.size)).2.1
     pure (some true)
    else pure (some true)) R E s:=by
 refine wpAny_bind (wpAny_storeSet_of ho.1 ho.2.2 ?_ (fits_of_scanBound hb1))
 have st:=SetOf_store (knd:=intKind prog w) ho.1 ho.2.1 ho.2.2 hel1 hm hb1 hf2
 have sb:=Heap.SameBut.update s.heap a (Obj.putSet es1 t2)
 by_cases hc:(!wd&&t2.tooFull)=true
 ·rw[if_pos hc]
  have hp:=relayAll_perm t2 es1 (SetTable.grown es1.size)
  have hfr:=relayAll_fits t2 es1 (SetTable.grown es1.size)
  have hur:=KQ t2 es1 (SetTable.grown es1.size)
  generalize relayAll t2 es1 (SetTable.grown es1.size)=R3 at hp hfr hur ⊢
  obtain⟨es2,t3,gv⟩:=R3
  dsimp only at hp hfr hur ⊢
  have hz:es2.size=es1.size:=by rw[<-Array.length_toList,hp.length_eq,Array.length_toList]
  have hm2:∀k',S' k'=true<->∃e∈es2.toList,(intKind prog w).is k' e.2=true:=λk'=>(hm k').trans ⟨λ⟨e,he,q⟩=>⟨e,hp.mem_iff.mpr he,q⟩,λ⟨e,he,q⟩=>⟨e,hp.mem_iff.mp he,q⟩⟩
  have hb2:es2.size<scanBound:=by lia
  refine wpAny_bind (hg _ _ _ ?_)
  refine wpAny_bind (wpAny_storeSet_of st.1 rfl ?_ (fits_of_scanBound hb2))
  have st2:=SetOf_store (knd:=intKind prog w) (es:=es1) (ep:=ep+1) (t:=t2) st.1 ho.2.1 rfl (hel1.perm hp) hm2 hb2 hfr
  refine wpAny_pure (h _ (sb.trans (Heap.SameBut.update _ a _)) ?_)
  exact⟨_,es2,_,t3,⟨st2.1,ho.2.1,rfl⟩,hel1.perm hp,hm2,hb2,hfr,hz,hur.1,hur.2.trans hU.2⟩
 ·rw[if_neg hc]
  exact wpAny_pure (h _ sb ⟨_,es1,_,t2,⟨st.1,ho.2.1,rfl⟩,hel1,hm,hb1,hf2,rfl,hU⟩)
theorem gave{b:Bool}{Q':Unit->Shared->Prop}(hq:Q' () s):wpAny (model prog w) A (match b with|true=>rule "set.scan.the-table-gave-way"|false=>pure ()) Q' E s:=by
 cases b
 ·exact wpAny_pure hq
 ·exact wpAny_rule hq
theorem add_int{a:Addr}{S:Int->Bool}{n:Nat}{k:Int}{tk:Tok}{Q:Bool->Shared->Prop}(hS:SetU prog w s.heap a S n)(hr:n+1<scanBound)
  (h:∀h',Heap.SameBut a s.heap h'->SetU prog w h' a (λk'=>S k'||decide (k'=k)) (if S k then n else n+1)->Q (!S k) { s with heap:=h' }):
  wpAny (model prog w) A (setAddHashed a (.int k tk) ((intKind prog w).hash k)) Q E s:=by
 obtain⟨o,es,ep,t,ho,hel,hm,hb,hf,hn,hU⟩:=hS
 have hk:(intKind prog w).is k (.int k tk)=true:=intKind_is _ _ _ _
 have hsc:(Value.int k tk).scannable=true:=rfl
 unfold setAddHashed setAddHashedIn;refine wpAny_holding (wpAny_bind (wpAny_setState_of ho.1 ho.2.2 hf ?_))
 dsimp only;rw[byScan_of hsc hb hel];simp only[↓reduceIte]
 unfold setAddByScan;refine wpAny_bind ?_;refine wpAny_bind (wpAny_rule ?_)
 refine wpAny_bind (wpAny_setScan_of hk ho.1 ho.2.2 hf hel ?_)
 cases hi:List.findIdx? (λe=>(intKind prog w).is k e.2) es.toList with
 | some j=>
  dsimp only
  obtain⟨hj,hpj,_⟩:=List.findIdx?_eq_some_iff_getElem.mp hi
  have hSk:S k=true:=(hm k).mpr ⟨es.toList[j],getElem_mem hj,hpj⟩
  refine wpAny_pure (wpAny_pure ?_)
  have e:s={ s with heap:=s.heap }:=by cases s;rfl
  have q:=h s.heap (Heap.SameBut.refl a s.heap) ⟨o,es,ep,t,ho,hel,λk'=>by
   rw[Bool.or_eq_true,decide_eq_true_eq,<-hm k']
   exact⟨λz=>z.elim id (λe=>e▸hSk),.inl⟩,hb,hf,by rw[hSk];exact hn,hU⟩
  rw[hSk]at q;rw[e];exact q
 | none=>
  dsimp only
  have hSk:S k=false:=by
   cases z:S k with
   |false=>rfl
   |true=>
    obtain⟨e,he,hp⟩:=(hm k).mp z
    have:=List.findIdx?_eq_none_iff.mp hi e he
    rw[hp]at this;cases this
  have hp:=layNew_perm t es ((intKind prog w).hash k) (.int k tk)
  have hfit:=layNew_fits t es ((intKind prog w).hash k) (.int k tk)
  have hup:=KU hU.1 es ((intKind prog w).hash k) (.int k tk)
  generalize layNew t es ((intKind prog w).hash k) (.int k tk)=L at hp hfit hup ⊢
  obtain⟨es1,t1,wd,gv⟩:=L
  dsimp only at hp hfit hup ⊢
  rw[Array.toList_push]at hp
  have hel1:ElemsOf (intKind prog w) es1.toList:=(hel.push hk hsc).perm hp
  have hm1:=mem_push_iff hk hm hp
  have hz1:es1.size=n+1:=by rw[<-Array.length_toList,hp.length_eq,length_append,Array.length_toList,hn];rfl
  have hb1:es1.size<scanBound:=by lia
  have hU1:nN w t1:=⟨hup.1,hup.2.trans hU.2⟩
  have fin:∀h',Heap.SameBut a s.heap h'->SetU prog w h' a (λk'=>S k'||decide (k'=k)) es1.size->Q true { s with heap:=h' }:=λh' sb x=>by
   have:=h h' sb
   rw[hSk]at this
   rw[hz1]at x
   exact this x
  refine wpAny_bind (gave ?_)
  ·split
   ·refine wpAny_bind ?_
    rw[hashByValue_scannable 8 hsc]
    refine wpAny_pure ?_
    refine IP (λb s₁ Q' hq=>by cases b <;> first|exact wpAny_pure hq|exact wpAny_rule hq) ho hel1 hm1 hb1 ?_ ?_ λh' sb x=>by(dsimp only;exact wpAny_pure (fin h' sb x))
    ·split
     ·exact hfit
     ·exact SetTable.fits_plain_off hfit
    ·split
     ·exact hU1
     ·exact hU1
   ·refine wpAny_bind (wpAny_pure ?_)
    simp only[↓reduceIte]
    exact IP (λb s₁ Q' hq=>by cases b <;> first|exact wpAny_pure hq|exact wpAny_rule hq) ho hel1 hm1 hb1 hfit hU1 λh' sb x=>by(dsimp only;exact wpAny_pure (fin h' sb x))
end
noncomputable def gK(w:World):Obj:={ cls:=.type "set",dict:=none,data:=.set #[] 0 (.fresh 0 0 (!gF w)) }
section
variable{prog:Program}{w:World}{A:Around}{E:Value->Shared->Prop}{s:Shared}
theorem SQ(a:Value){Q₁:Value->Shared->Prop}(h:Q₁ (.ref s.heap.objs.size) { s with heap:=s.heap.push (gK w) }):
  codeAny (model prog w) A (.call (.builtin "set.__new__") ⟨[.type "set",a],[]⟩) (wants Q₁ E) s:=by
 refine codeAny_of_tree ?_
 show wpAny _ A.in1 (checkBuiltinCall "set.__new__" ⟨[.type "set",a],[]⟩ >>=λ_=>again (.builtin "set.__new__" ⟨[.type "set",a],[]⟩)) _ _ s
 refine wpAny_bind (wpAny_of_eq (PySem.F.newCall_set_1 a) (wpAny_pure ⟨plainId_quiet PySem.F.plain_set_new _,codeAny_builtin PySem.F.entry_set_new ?_⟩))
 rw[Around.under_plainId PySem.F.plain_set_new _]
 unfold Builtin.«set.__new__» Builtin.Frozenset.newClass
 have hsub:=sub_set_self
 obtain⟨hp,g,d,tk,os⟩:=s
 dsimp only
 wp_walk
 refine wpAny_askSetting (wpAny_pure ?_)
 dsimp only
 simp only[newObj]
 refine wpAny_bind (wpAny_alloc (wpAny_pure ?_))
 exact wpAny_pure h
theorem L8{h:Heap}{a:Addr}(e:h.get? a=some (gK w))(val:Nat->Int):SetU prog w h a (λk=>(firstMet val 0).any (· ==k)) (firstMet val 0).length:=by
 obtain⟨o,es,ep,t,ho,h1,h2,h3,h4,h5,h6,h7⟩:=((setObjOf_fresh (knd:=intKind prog w) (!gF w)).setOf e (by unfold scanBound;lia))
 rw[e]at ho
 cases ho
 cases h2
 exact⟨_,_,_,_,⟨e,h1,rfl⟩,h3,h4,h5,h6,h7,⟨List.Pairwise.nil,rfl⟩,rfl⟩
theorem UQ{I l S:Addr}{items:Array Value}{ns:List Int}{R:Result->Shared->Prop}(hh:A.in1.handled=none)(hI:IntsAre items.toList ns)(hb:items.size+1<scanBound)(hl:l≠I)(hSI:S≠I)(hSl:S≠l):
  ∀(k i:Nat)(s:Shared),items.size-i=k->i<=items.size->s.heap.IsListIter I l i->s.heap.IsList l items->SetU prog w s.heap S (λk=>(firstMet (λi=>ns.getD i 0) i).any (· ==k)) (firstMet (λi=>ns.getD i 0) i).length->
   (∀h' tk,(∀b o,b≠I->b≠S->s.heap.get? b=some o->h'.get? b=some o)->SetU prog w h' S (λk=>(firstMet (λi=>ns.getD i 0) items.size).any (· ==k)) (firstMet (λi=>ns.getD i 0) items.size).length->R (.ok (.ret .none)) { s with heap:=h',toks:=tk })->
   codeAny (model prog w) A (.builtin "set.update.loop" ⟨[.ref S,.ref I],[]⟩) R s:=by
 have W:=Walks.list (prog:=prog) (w:=w) (A:=A.in1) hh I l hl items
 intro k
 induction k with
 |zero=>
  intro i s hk hi hit hls hS hR
  obtain rfl:i=items.size:=by lia
  refine codeAny_builtin PyProof.Rows.F.entry_set_update_loop ?_
  rw[Around.under_plainId PyProof.Rows.F.plain_set_update_loop _]
  show wpAny _ A.in1 (pyNext (.ref I) >>=_) _ _ s
  refine wpAny_bind (W.done s _ _ ⟨hit,hls⟩ λh' tk hk=>?_)
  show wpAny _ A.in1 (ret Value.none) _ _ _
  exact wpAny_pure (hR h' tk (λb o h1 _ e=>hk b o (by simpa using h1) e) (hS.of λo e=>hk S o (by simpa using hSI) e))
 | succ k ih=>
  intro i s hk hi hit hls hS hR
  have hlt:i<items.size:=by lia
  refine codeAny_builtin PyProof.Rows.F.entry_set_update_loop ?_
  rw[Around.under_plainId PyProof.Rows.F.plain_set_update_loop _]
  show wpAny _ A.in1 (pyNext (.ref I) >>=_) _ _ s
  refine wpAny_bind (W.item i s _ _ hlt ⟨hit,hls⟩ λv h1 tk1 hP hst k1=>?_)
  obtain⟨t,rfl⟩:=hI.int_at i v (by rw[Array.getElem?_toList];exact hP)
  have hS1:=hS.of λo e=>k1 S o (by simpa using hSI) e
  show wpAny _ A.in1 (holding [Value.int (ns.getD i 0) t] (setAdd S (.int (ns.getD i 0) t)) >>=_) _ _ _
  refine wpAny_bind (wpAny_holding ?_)
  unfold setAdd
  refine wpAny_holding ?_
  refine wpAny_bind ((intKind prog w).pyHash (k:=ns.getD i 0) (intKind_is _ _ _ _) ?_)
  have hroom:(firstMet (λi=>ns.getD i 0) i).length+1<scanBound:=by have:=firstMet_length_le (λi=>ns.getD i 0) i;lia
  refine add_int (s:={ s with heap:=h1,toks:=tk1+1 }) hS1 hroom λh2 sb hS2=>?_
  have hS3:SetU prog w h2 S (λk=>(firstMet (λi=>ns.getD i 0) (i+1)).any (· ==k)) (firstMet (λi=>ns.getD i 0) (i+1)).length:=
   hS2.congr (λk'=>by rw[firstMet_succ,step_any]) (by rw[firstMet_succ,step_length])
  refine wpAny_pure ⟨plainId_quiet PyProof.Rows.F.plain_set_update_loop _,ih (i+1) { s with heap:=h2,toks:=tk1+1 } (by lia) hlt (hst.1.at λo e=>?_) (hst.2.at λo e=>?_) hS3 λh' tk k2 hS'=>hR h' tk (λb o h1 h2 e=>k2 b o h1 h2 ?_) hS'⟩
  ·rw[sb.2 I hSI.symm];exact e
  ·rw[sb.2 l hSl.symm];exact e
  ·show Heap.get? _ b=_
   rw[sb.2 b h2]
   exact k1 b o (by simpa using h1) e
theorem YD{l:Addr}{items:Array Value}{ns:List Int}{Q:Value->Shared->Prop}(hh:A.handled=none)(hl:s.heap.IsList l items)(hi:IntsAre items.toList ns)(hb:items.size+1<scanBound)
  (h:∀(h':Heap)(tk:Nat),SetU prog w h' s.heap.objs.size (λk=>(firstMet (λi=>ns.getD i 0) items.size).any (· ==k)) (firstMet (λi=>ns.getD i 0) items.size).length->
   (∀b o,s.heap.get? b=some o->h'.get? b=some o)->Q (.ref s.heap.objs.size) { s with heap:=h',toks:=tk }):
  wpAny (model prog w) A (call (.type "set") [.ref l]) Q E s:=by
 obtain⟨c,tl,hmro⟩:=PySem.F.called_set.mro
 have hmade:=PySem.F.called_set.made
 have hsub:=PySem.F.called_set.sub
 have h1:=PySem.F.called_set.notType
 have h2:=PySem.F.called_set.canCreate
 have hct:=PySem.F.typeCall_set_1 (.ref l)
 refine wpAny_call (codeAny_of_tree ?_)
 show wpAny _ _ (callAny (.type "set") _) _ _ _
 refine wpAny_pure ⟨Code.quiet_builtin _ (by decide +kernel),codeAny_builtin PySem.F.entry_type_call ?_⟩
 rw[Around.under_plain (weight_type_call_type "set" [.ref l] []) rfl]
 repeat (any_goals (first|assumption|wp_step))
 refine codeAny_mono (SQ (.ref l) (E:=E) (Q₁:=λobj s₁=>obj=.ref s.heap.objs.size/\s₁={ s with heap:=s.heap.push (gK w) }) ⟨rfl,rfl⟩) λr s₁ hr=>?_
 rcases r with e|fl
 ·exact hr
 rcases fl with _|_|_|obj
 all_goals first
  |exact hr.elim
  |skip
 obtain⟨rfl,rfl⟩:=hr
 have hS:(s.heap.push (gK w)).get? s.heap.objs.size=some (gK w):=Heap.get?_push_size _ rfl
 have hT:Shared.TypeIs { s with heap:=s.heap.push (gK w) } (.ref s.heap.objs.size) "set":=⟨_,hS,rfl⟩
 have hli:=PySem.F.called_set.init.lookup
 have hbi:=PySem.F.called_set.init.bind (.ref s.heap.objs.size)
 repeat (any_goals (first|assumption|wp_step))
 refine codeAny_mono (codeAny_call_builtin (R:=wants (λr s₂=>r=.none/\∃h' tk,s₂={ s with heap:=h',toks:=tk }/\
   SetU prog w h' s.heap.objs.size (λk=>(firstMet (λi=>ns.getD i 0) items.size).any (· ==k)) (firstMet (λi=>ns.getD i 0) items.size).length/\
   (∀b o,s.heap.get? b=some o->h'.get? b=some o)) E) PySem.F.called_set.init.plain PySem.F.entry_set_init (check_set_init_1 hT ?_)) λr₂ s₂ hr₂=>?_
 ·obtain⟨ol,hol,hcl,nl,hdl⟩:=hl
  obtain⟨ocls,odict,odata,oslots⟩:=ol
  dsimp only at hcl hdl
  subst hcl hdl
  have hol':(s.heap.push (gK w)).get? l=some { cls:=.type "list",dict:=odict,data:=.seq items nl,slots:=oslots }:=Heap.get?_push_of_some _ hol
  have hl1:(s.heap.push (gK w)).IsList l items:=⟨_,hol',rfl,nl,rfl⟩
  have hsls:=PySem.F.sub_list_set
  have hslf:=PySem.F.sub_list_frozenset
  have hne:(Value.type "list"==Value.type "dict")=false:=by decide
  have hlS:l<s.heap.objs.size:=Heap.lt_size hol
  have hS0:(s.heap.push (gK w)).get? s.heap.objs.size=some { cls:=.type "set",dict:=none,data:=.set #[] 0 (.fresh 0 0 (!gF w)) }:=hS
  have hh3:A.in1.in1.in1.handled=none:=by simp[hh]
  unfold Builtin.«set.__init__» noKeywords Builtin.Frozenset.updateFrom
  generalize hPI:pyIter=PI
  wp_walk
  subst hPI
  refine wpAny_pyIter_list hl1 ?_
  refine wpAny_bind (wpAny_runValue ?_)
  have e1:(s.heap.push (gK w)).objs.size=s.heap.objs.size+1:=Heap.size_push _ _
  refine UQ (l:=l) (items:=items) (ns:=ns) hh3 hi hb (by rw[e1];exact Nat.ne_of_lt (Nat.lt_succ_of_lt hlS)) (by rw[e1];exact Nat.ne_of_lt (Nat.lt_succ_self _)) (Nat.ne_of_gt hlS) (items.size-0) 0 _ (by lia) (Nat.zero_le _) ⟨_,Heap.get?_push_size _ rfl,rfl,rfl⟩ (hl1.push _) (L8 (Heap.get?_push_of_some _ hS) _) λh' tk k2 hS'=>?_
  show wpAny _ _ _ _ _ _
  refine wpAny_pure ?_
  show wpAny _ _ (ret Value.none) _ _ _
  refine wpAny_pure ⟨rfl,h',tk,rfl,hS',λb o e=>?_⟩
  have hb:=Heap.lt_size e
  exact k2 b o (by rw[e1];exact Nat.ne_of_lt (Nat.lt_succ_of_lt hb)) (Nat.ne_of_lt hb) (Heap.get?_push_of_some _ (Heap.get?_push_of_some _ e))
 ·rcases r₂ with e|fl
  ·exact hr₂
  rcases fl with _|_|_|r
  all_goals first
   |exact hr₂.elim
   |skip
  obtain⟨rfl,h',tk,rfl,hS',hk'⟩:=hr₂
  repeat (any_goals (first|assumption|wp_step))
  exact h _ _ hS' hk'
end
theorem slot_sin:Slot "set_iterator" "__next__" "set_iterator.__next__":=
 .of (owner:="set_iterator") (n:="__next__") (by rw[typeLookup_type,builtinLookup_eq_fast];kernel_rfl) (by decide +kernel) (by decide +kernel) (by decide +kernel)
  (by first|exact .inl (by decide +kernel)|exact .inr (by decide +kernel)) (by rw[isSubtype_type];kernel_rfl)
theorem qC:entryFor table "set_iterator.__next__"=some Builtin.«set_iterator.__next__»:=entryFor_of_tree (by kernel_rfl)
theorem qL(a:Value):argsOk "set_iterator.__next__" ⟨[a],[]⟩:=by unfold argsOk;kernel_rfl
noncomputable def slotAt(t:SetTable)(i:Nat):Nat:=match i with
 |0=>0
 |i+1=>t.place.getD i 0+1
theorem Y9{t:SetTable}(u:hJ t){i:Nat}(hi:i<=t.place.size):SetTable.below t.place (slotAt t i)=i:=by
 have B:=HY u.1 (slotAt t i)
 generalize SetTable.below t.place (slotAt t i)=k at B
 have g:∀m d,m<t.place.size->t.place.getD m d=t.place.getD m 0:=λm d hm=>by simp[Array.getD,hm]
 cases i with
 |zero=>
  cases k with
  |zero=>rfl
  |succ k=>have:=B.lo 0 (by lia);exact absurd this (Nat.not_lt_zero _)
 | succ i=>
  rcases Nat.lt_trichotomy k (i+1) with h|h|h
  ·have h1:=B.hi i (by lia) (by lia)
   rw[g _ _ (by lia)]at h1
   show k=i+1
   have:slotAt t (i+1)=t.place.getD i 0+1:=rfl
   lia
  ·exact h
  ·have h1:=B.lo (i+1) h
   have hz:i+1<t.place.size:=Nat.lt_of_lt_of_le h B.le
   rw[g _ _ hz]at h1
   have h2:=n5 (j:=0) u.1 (show i<i+1 by lia) hz
   have:slotAt t (i+1)=t.place.getD i 0+1:=rfl
   lia
noncomputable def SAt(h:Heap)(a:Addr)(es:Array (Int×Value))(ep:Nat)(t:SetTable):Prop:=∃o,h.get? a=some o/\o.data=.set es ep t
noncomputable def nA(es:Array (Int×Value))(t:SetTable):Bool:= !t.plain&&decide (es.size>1)
section
variable{prog:Program}{w:World}{A:Around}{E:Value->Shared->Prop}{s:Shared}{a:Addr}{es:Array (Int×Value)}{ep:Nat}{t:SetTable}
theorem qF{Q:Bool->Shared->Prop}(h:Q (gF w) s):wpAny (model prog w) A setsByText Q E s:=by
 unfold setsByText
 exact wpAny_bind (wpAny_askSetting (wpAny_pure h))
theorem SN{slot i:Nat}{Q:Option (Value×Nat)->Shared->Prop}(hS:SAt s.heap a es ep t)(hf:t.fits es.size=true)(hb:gF w=true)(h:Q (((pickOrder (w.params.setOrder a ep) es)[i]?).map λe=>(e.2,slot)) s):
  wpAny (model prog w) A (setNext a slot i ep) Q E s:=by
 obtain⟨o,ho,hd⟩:=hS
 unfold setNext
 refine wpAny_bind (wpAny_setState_of ho hd hf ?_)
 dsimp only
 refine wpAny_bind (qF ?_)
 rw[hb]
 simp only[↓reduceIte,bne_self_eq_false,Bool.false_eq_true]
 unfold setWalk
 refine wpAny_bind (wpAny_bind (wpAny_setState_of ho hd hf ?_))
 dsimp only
 refine wpAny_bind (qF ?_)
 rw[hb]
 simp only[↓reduceIte]
 exact wpAny_bind (wpAny_askSetting (wpAny_pure (wpAny_pure h)))
theorem SO{slot i:Nat}{Q:Option (Value×Nat)->Shared->Prop}(hS:SAt s.heap a es ep t)(hf:t.fits es.size=true)(hb:gF w=false)(hd:nA es t=false)(hl:t.led=true)
  (h:Q (match es[SetTable.below t.place slot]?,t.place[SetTable.below t.place slot]? with|some (_,x),some j=>some (x,j+1)|_,_=>none) s):
  wpAny (model prog w) A (setNext a slot i ep) Q E s:=by
 obtain⟨o,ho,hdt⟩:=hS
 unfold setNext
 refine wpAny_bind (wpAny_setState_of ho hdt hf ?_)
 dsimp only
 refine wpAny_bind (qF ?_)
 rw[hb]
 simp only[Bool.false_eq_true,↓reduceIte]
 have e2:¬(nA es t=true):=by rw[hd];exact Bool.false_ne_true
 refine wpAny_ite_split (λz=>absurd z e2) (λ_=>?_)
 refine wpAny_bind (wpAny_of_eq (a:=()) ?_ (wpAny_pure h))
 show(if(!t.led&& !es.isEmpty)=true then(unsupported "set:maker-not-led":Sem Unit) else pure ())=pure ()
 rw[hl]
 rfl
noncomputable def SIt(h:Heap)(I a:Addr)(f:Value)(i n ep:Nat):Prop:=∃o,h.get? I=some o/\o.cls=.type "set_iterator"/\o.data=.fields #[f,.int i 0,.ref a,.int n 0,.int ep 0]
theorem SIt.ty{I:Addr}{f:Value}{i n:Nat}(h:SIt s.heap I a f i n ep):s.TypeIs (.ref I) "set_iterator":=let⟨o,ho,hc,_⟩:=h;⟨o,ho,hc⟩
theorem mY{Q:Array (Int×Value)->Shared->Prop}(hS:SAt s.heap a es ep t)(hf:t.fits es.size=true)(h:Q es s):wpAny (model prog w) A (setEntries a) Q E s:=by
 obtain⟨o,ho,hd⟩:=hS
 unfold setEntries
 exact wpAny_bind (wpAny_setState_of ho hd hf (wpAny_pure h))
theorem SF{I:Addr}{slot i n nx:Nat}{x:Value}{Q:Option Value->Shared->Prop}(hit:SIt s.heap I a (.int slot 0) i n ep)(hS:SAt s.heap a es ep t)(hf:t.fits es.size=true)(hn:es.size=n)
  (hN:∀(A':Around)(E':Value->Shared->Prop)(Q':Option (Value×Nat)->Shared->Prop),Q' (some (x,nx)) s->wpAny (model prog w) A' (setNext a slot i ep) Q' E' s)
  (hQ:∀h',SIt h' I a (.int nx 0) (i+1) n ep->Heap.SameBut I s.heap h'->Q (some x) { s with heap:=h' }):
  wpAny (model prog w) A (pyNext (.ref I)) Q E s:=by
 obtain⟨o,ho,hc,hd⟩:=id hit
 unfold pyNext
 refine wpAny_bind (wpAny_attempt (wpAny_callSpecial?_slot (name:=Str.ofString "__next__") hit.ty slot_sin (wpAny_call_entry slot_sin hit.ty qC ?_ (qL _))))
 unfold Builtin.«set_iterator.__next__»
 refine wpAny_bind (wpAny_of_eq (a:=(Value.ref I,([]:List Value))) rfl ?_)
 refine wpAny_bind (wpAny_fieldsOf ho hd ?_)
 dsimp only
 refine wpAny_bind (mY hS hf ?_)
 rw[hn]
 simp only[bne_self_eq_false,Bool.false_eq_true,↓reduceIte,Int.toNat_natCast]
 refine wpAny_bind (hN _ _ _ ?_)
 dsimp only
 refine wpAny_bind (wpAny_setField ho hd (by simp) ?_)
 have ho1:(s.heap.update I (Obj.mapFields (·.setIfInBounds 0 (rawInt nx)))).get? I=some (Obj.mapFields (·.setIfInBounds 0 (rawInt nx)) o):=Heap.get?_update_self _ ho (Obj.isFreed_of_fields (Obj.data_mapFields hd _))
 have hd1:=Obj.data_mapFields hd (·.setIfInBounds 0 (rawInt nx))
 refine wpAny_bind (wpAny_setField ho1 hd1 (by simp) (wpAny_pure ⟨x,rfl,wpAny_pure (hQ _ ?_ ((Heap.SameBut.update ..).trans (Heap.SameBut.update ..)))⟩))
 refine⟨_,Heap.get?_update_self _ ho1 (Obj.isFreed_of_fields (Obj.data_mapFields hd1 _)),(Obj.cls_mapFields ..).trans ((Obj.cls_mapFields ..).trans hc),?_⟩
 rw[Obj.data_mapFields hd1]
 simp[rawInt]
theorem SG{I:Addr}{slot i n:Nat}{Q:Option Value->Shared->Prop}(hh:A.handled=none)(hit:SIt s.heap I a (.int slot 0) i n ep)(hS:SAt s.heap a es ep t)(hf:t.fits es.size=true)(hn:es.size=n)
  (hN:∀(A':Around)(E':Value->Shared->Prop)(Q':Option (Value×Nat)->Shared->Prop),Q' none s->wpAny (model prog w) A' (setNext a slot i ep) Q' E' s)
  (hQ:∀h',Heap.ExtBut I s.heap h'->Q none { s with heap:=h' }):
  wpAny (model prog w) A (pyNext (.ref I)) Q E s:=by
 obtain⟨o,ho,hc,hd⟩:=id hit
 unfold pyNext
 refine wpAny_bind (wpAny_attempt (wpAny_callSpecial?_slot (name:=Str.ofString "__next__") hit.ty slot_sin (wpAny_call_entry slot_sin hit.ty qC ?_ (qL _))))
 unfold Builtin.«set_iterator.__next__»
 refine wpAny_bind (wpAny_of_eq (a:=(Value.ref I,([]:List Value))) rfl ?_)
 refine wpAny_bind (wpAny_fieldsOf ho hd ?_)
 dsimp only
 refine wpAny_bind (mY hS hf ?_)
 rw[hn]
 simp only[bne_self_eq_false,Bool.false_eq_true,↓reduceIte,Int.toNat_natCast]
 refine wpAny_bind (hN _ _ _ ?_)
 dsimp only
 refine wpAny_bind (wpAny_setField ho hd (by simp) ?_)
 show wpAny _ _ (newExc (.type "StopIteration") [] >>=_) _ _ _
 refine wpAny_bind ?_
 simp only[newExc,newTuple]
 refine wpAny_bind (wpAny_newObj_type ?_ (by size_fits))
 refine wpAny_bind (m:=firstArgMember _ _) (wpAny_of_eq (a:=Value.none) (by first|rfl|(simp only[firstArgMember];rfl)) ?_)
 refine wpAny_newObj_type ?_ (by size_fits)
 simp only[raiseNew]
 refine wpAny_bind (wpAny_handled ?_)
 rw[show A.in1.handled=none from hh]
 refine wpAny_bind (wpAny_pure (wpAny_throw ?_))
 refine wpAny_bind (wpAny_isInstance (T:="StopIteration") (b:=true) ⟨_,Heap.get?_push_size _ rfl,rfl⟩ isSubtype_stop ?_)
 exact wpAny_pure (hQ _ (((Heap.SameBut.update ..).extBut.push _).push _))
end
theorem C2:Slot "set_iterator" "__iter__" "set_iterator.__iter__":=
 .of (owner:="set_iterator") (n:="__iter__") (by rw[typeLookup_type,builtinLookup_eq_fast];kernel_rfl) (by decide +kernel) (by decide +kernel) (by decide +kernel)
  (by first|exact .inl (by decide +kernel)|exact .inr (by decide +kernel)) (by rw[isSubtype_type];kernel_rfl)
theorem W9:entryFor table "set_iterator.__iter__"=some Builtin.«dict_keyiterator.__iter__»:=entryFor_alias (id':="dict_keyiterator.__iter__") (by kernel_rfl) rfl (by decide +kernel) (by kernel_rfl)
theorem Z7(a:Value):argsOk "set_iterator.__iter__" ⟨[a],[]⟩:=by unfold argsOk;kernel_rfl
theorem XA:entryFor table "set.__iter__"=some Builtin.«frozenset.__iter__»:=entryFor_alias (id':="frozenset.__iter__") (by kernel_rfl) rfl (by decide +kernel) (by kernel_rfl)
theorem uX{α:Type}:∀{l:List α}{i:Nat}(h:i<l.length),(l[i]::l.eraseIdx i).Perm l
 |x::l,0,_=>List.Perm.refl _
 |x::l,i+1,h=>by
  show(l[i]'(by simpa using h)::x::l.eraseIdx i).Perm (x::l)
  exact(List.Perm.swap _ _ _).trans ((uX (by simpa using h)).cons _)
theorem EN{α:Type}(next:Nat->Nat):∀(f k:Nat)(left:List α)(out:Array α),left.length=f->(pickOrder.go next f k left out).toList.Perm (out.toList++left)
 |0,k,left,out,h=>by
  obtain rfl:left=[]:=eq_nil_of_length_eq_zero h
  unfold pickOrder.go
  simp
 |f+1,k,left,out,h=>by
  unfold pickOrder.go
  have hlt:next k%left.length<left.length:=Nat.mod_lt _ (by lia)
  rw[List.getElem?_eq_getElem hlt]
  dsimp only
  refine(EN next f (k+1) _ _ (by rw[List.length_eraseIdx,if_pos hlt];lia)).trans ?_
  rw[Array.toList_push,append_assoc]
  exact(uX hlt).append_left _
theorem QL{α:Type}(next:Nat->Nat)(xs:Array α):(pickOrder next xs).toList.Perm xs.toList:=by
 unfold pickOrder
 have:=EN next xs.size 0 xs.toList #[] (by simp)
 simpa using this
section
variable{prog:Program}{w:World}{A:Around}{E:Value->Shared->Prop}{s:Shared}{a:Addr}{es:Array (Int×Value)}{ep:Nat}{t:SetTable}
theorem X7{src:Source}{n:Nat}{Q:Nat->Shared->Prop}(h0:n≠0)(h:∀i d,i<n->Q i { s with drawn:=d }):wpAny (model prog w) A (choose src n) Q E s:=by
 intro Γ p hΓ
 unfold choose
 rw[Sem.wp_choose]
 exact⟨h0,h _ _ (Nat.mod_lt _ (Nat.pos_of_ne_zero h0))⟩
theorem HD{α:Type}:∀(n:Nat)(xs:List α)(s:Shared)(Q:List α->Shared->Prop),xs.length=n->(∀ys d,ys.Perm xs->Q ys { s with drawn:=d })->wpAny (model prog w) A (drawOrder n xs) Q E s
 |0,xs,s,Q,hn,h=>by
  obtain rfl:xs=[]:=eq_nil_of_length_eq_zero hn
  unfold drawOrder
  exact wpAny_pure (h [] s.drawn (List.Perm.refl _))
 |n+1,[],s,Q,hn,h=>by cases hn
 |n+1,x::xs,s,Q,hn,h=>by
  unfold drawOrder
  refine wpAny_bind (X7 (by simp) λi d hi=>?_)
  rw[List.getElem?_eq_getElem hi]
  dsimp only
  refine wpAny_bind (HD n _ _ _ (by rw[List.length_eraseIdx,if_pos hi];lia) λys d' hp=>?_)
  refine wpAny_pure (h _ d' ?_)
  exact(hp.cons _).trans (uX hi)
theorem SIt.self{I:Addr}{f:Value}{i n:Nat}{Q:Value->Shared->Prop}(hit:SIt s.heap I a f i n ep)(h:Q (.ref I) s):wpAny (model prog w) A (pyIter (.ref I)) Q E s:=by
 refine wpAny_pyIter_slot hit.ty C2 (wpAny_call_entry C2 hit.ty W9 ?_ (Z7 _))
 show wpAny _ _ (ret (.ref I)) _ _ s
 exact wpAny_pure ⟨_,rfl,"set_iterator",_,hit.ty,slot_sin.lookup,h⟩
theorem SAt.at{h h':Heap}(x:SAt h a es ep t)(k:∀o,h.get? a=some o->h'.get? a=some o):SAt h' a es ep t:=let⟨o,ho,hd⟩:=x;⟨o,k o ho,hd⟩
theorem SIt.at{h h':Heap}{I:Addr}{f:Value}{i n:Nat}(x:SIt h I a f i n ep)(k:∀o,h.get? I=some o->h'.get? I=some o):SIt h' I a f i n ep:=let⟨o,ho,hd⟩:=x;⟨o,k o ho,hd⟩
theorem AT(hh:A.handled=none){I:Addr}(hne:a≠I){n:Nat}(hf:t.fits es.size=true)(hn:es.size=n){sl:Nat->Nat}{out:List Value}(hl:out.length=n)
  (hN:∀(i:Nat)(s:Shared)(A':Around)(E':Value->Shared->Prop)(Q':Option (Value×Nat)->Shared->Prop),i<=n->SAt s.heap a es ep t->Q' ((out[i]?).map λx=>(x,sl (i+1))) s->wpAny (model prog w) A' (setNext a (sl i) i ep) Q' E' s):
  Walks prog w A I [I,a] [I] n (λi v=>out[i]? =some v) (λi h=>SAt h a es ep t/\SIt h I a (.int (sl i) 0) i n ep) where
 sub:=λb hb=>by simp at hb;simp[hb]
 frame:=λ_ _ _ st hk=>⟨st.1.at λo e=>hk a (by simp) o e,st.2.at λo e=>hk I (by simp) o e⟩
 item:=λi s Q E hi st hQ=>by
  have e:out[i]? =some (out[i]'(by lia)):=List.getElem?_eq_getElem (by lia)
  refine SF st.2 st.1 hf hn (x:=out[i]'(by lia)) (nx:=sl (i+1)) (λA' E' Q' q=>hN i s A' E' Q' (by lia) st.1 (by rw[e];exact q)) λh' hit' sb=>?_
  exact hQ _ h' s.toks e ⟨st.1.at λo z=>by rw[sb.2 a hne];exact z,hit'⟩ λb o hb z=>sb.extBut b o (λh=>hb (by simp[h])) z
 done:=λs Q E st hQ=>by
  have e:out[n]? =none:=List.getElem?_eq_none (by lia)
  exact SG hh st.2 st.1 hf hn (λA' E' Q' q=>hN n s A' E' Q' (Nat.le_refl _) st.1 (by rw[e];exact q)) λh' he=>hQ h' s.toks λb o hb z=>he b o (λh=>hb (by simp[h])) z
 self:=λ_ _ _ _ st hQ=>st.2.self hQ
theorem KF{I:Addr}(hne:a≠I){n:Nat}(hf:t.fits es.size=true)(hn:es.size=n)(hb:gF w=true):
  ∃out:List Value,out.Perm (es.toList.map (·.2))/\∀A:Around,A.handled=none->Walks prog w A I [I,a] [I] n (λi v=>out[i]? =some v) (λi h=>SAt h a es ep t/\SIt h I a (.int ((λ_=>0:Nat->Nat) i:Nat) 0) i n ep):=by
 have hp:=QL (w.params.setOrder a ep) es
 refine⟨(pickOrder (w.params.setOrder a ep) es).toList.map (·.2),hp.map _,λA hh=>AT hh hne hf hn (by rw[length_map,hp.length_eq,Array.length_toList,hn]) λi s A' E' Q' hi hS q=>SN hS hf hb ?_⟩
 rw[List.getElem?_map,Array.getElem?_toList,Option.map_map]at q
 exact q
theorem KG(hh:A.handled=none){I:Addr}(hne:a≠I){n:Nat}(hf:t.fits es.size=true)(hn:es.size=n)(hb:gF w=false)(hd:nA es t=false)(hl:t.led=true)(u:hJ t):
  Walks prog w A I [I,a] [I] n (λi v=>(es.toList.map (·.2))[i]? =some v) (λi h=>SAt h a es ep t/\SIt h I a (.int (slotAt t i:Nat) 0) i n ep):=by
 have hz:t.place.size=n:=by
  unfold SetTable.fits at hf
  rw[Bool.and_eq_true,beq_iff_eq]at hf
  lia
 refine AT hh hne hf hn (by rw[length_map,Array.length_toList,hn]) λi s A' E' Q' hi hS q=>SO hS hf hb hd hl ?_
 rw[Y9 u (by lia)]
 rw[List.getElem?_map,Array.getElem?_toList,Option.map_map]at q
 by_cases g:i<n
 ·have e1:es[i]? =some (es[i]'(by lia)):=Array.getElem?_eq_getElem (by lia)
  have e2:t.place[i]? =some (t.place[i]'(by lia)):=Array.getElem?_eq_getElem (by lia)
  rw[e1]at q ⊢
  rw[e2]
  dsimp only
  have e3:slotAt t (i+1)=t.place[i]'(by lia)+1:=by
   show t.place.getD i 0+1=_
   rw[Array.getD,dif_pos (by lia)]
   rfl
  have q':Q' (some ((es[i]'(by lia)).2,slotAt t (i+1))) s:=q
  rw[e3]at q'
  exact q'
 ·have e1:es[i]? =none:=Array.getElem?_eq_none (by lia)
  rw[e1]at q ⊢
  exact q
end
noncomputable def TPl(h:Heap)(T:Addr)(ps:List Nat):Prop:=∃o k,h.get? T=some o/\o.data=.seq (ps.map λ(p:Nat)=>rawInt p).toArray k
noncomputable def l9(es:Array (Int×Value))(ps:List Nat):List Value:=ps.map λp=>(es.getD p (0,.none)).2
theorem Q3(es:Array (Int×Value)):l9 es (range es.size)=es.toList.map (·.2):=by
 refine List.ext_getElem? λi=>?_
 unfold l9
 rw[List.getElem?_map,List.getElem?_map,Array.getElem?_toList (xs:=es)]
 by_cases h:i<es.size
 ·rw[List.getElem?_range h,Array.getElem?_eq_getElem h]
  simp[Array.getD,h]
 ·rw[List.getElem?_eq_none (by simpa using h),Array.getElem?_eq_none (by lia)]
  rfl
section
variable{prog:Program}{w:World}{A:Around}{E:Value->Shared->Prop}{s:Shared}{a:Addr}{es:Array (Int×Value)}{ep:Nat}{t:SetTable}
theorem TPl.at{h h':Heap}{T:Addr}{ps:List Nat}(x:TPl h T ps)(k:∀o,h.get? T=some o->h'.get? T=some o):TPl h' T ps:=let⟨o,n,ho,hd⟩:=x;⟨o,n,k o ho,hd⟩
theorem XD{I T:Addr}{i n p:Nat}{ps:List Nat}{Q:Option Value->Shared->Prop}(hit:SIt s.heap I a (.ref T) i n ep)(hS:SAt s.heap a es ep t)(hT:TPl s.heap T ps)(hf:t.fits es.size=true)(hn:es.size=n)(hp:ps[i]? =some p)(hpn:p<n)
  (hQ:∀h',SIt h' I a (.ref T) (i+1) n ep->Heap.SameBut I s.heap h'->Q (some (es.getD p (0,.none)).2) { s with heap:=h' }):
  wpAny (model prog w) A (pyNext (.ref I)) Q E s:=by
 obtain⟨o,ho,hc,hd⟩:=id hit
 obtain⟨oT,kT,hoT,hdT⟩:=hT
 unfold pyNext
 refine wpAny_bind (wpAny_attempt (wpAny_callSpecial?_slot (name:=Str.ofString "__next__") hit.ty slot_sin (wpAny_call_entry slot_sin hit.ty qC ?_ (qL _))))
 unfold Builtin.«set_iterator.__next__»
 refine wpAny_bind (wpAny_of_eq (a:=(Value.ref I,([]:List Value))) rfl ?_)
 refine wpAny_bind (wpAny_fieldsOf ho hd ?_)
 dsimp only
 refine wpAny_bind (mY hS hf ?_)
 rw[hn]
 simp only[bne_self_eq_false,Bool.false_eq_true,↓reduceIte,Int.toNat_natCast]
 refine wpAny_bind (wpAny_seqItems hoT hdT ?_)
 dsimp only
 have e1:((ps.map λ(p:Nat)=>rawInt p).toArray)[i]? =some (rawInt p):=by
  rw[List.getElem?_toArray,List.getElem?_map,hp]
  rfl
 rw[e1]
 simp only[rawInt,Int.toNat_natCast]
 unfold setNextDrawn
 obtain⟨oS,hoS,hdS⟩:=hS
 refine wpAny_bind (wpAny_bind (wpAny_setState_of hoS hdS hf ?_))
 have e2:es[p]? =some (es.getD p (0,.none)):=by
  rw[Array.getElem?_eq_getElem (by lia)]
  simp[Array.getD,show p<es.size by lia]
 simp only[bne_self_eq_false,Bool.false_eq_true,↓reduceIte,e2]
 refine wpAny_pure ?_
 refine wpAny_bind (wpAny_setField ho hd (by simp) (wpAny_pure ⟨_,rfl,wpAny_pure (hQ _ ?_ (Heap.SameBut.update ..))⟩))
 refine⟨_,Heap.get?_update_self _ ho (Obj.isFreed_of_fields (Obj.data_mapFields hd _)),(Obj.cls_mapFields ..).trans hc,?_⟩
 rw[Obj.data_mapFields hd]
 simp
theorem XE{I T:Addr}{n:Nat}{ps:List Nat}{Q:Option Value->Shared->Prop}(hh:A.handled=none)(hit:SIt s.heap I a (.ref T) n n ep)(hS:SAt s.heap a es ep t)(hT:TPl s.heap T ps)(hf:t.fits es.size=true)(hn:es.size=n)(hp:ps.length=n)
  (hQ:∀h',Heap.ExtBut I s.heap h'->Q none { s with heap:=h' }):
  wpAny (model prog w) A (pyNext (.ref I)) Q E s:=by
 obtain⟨o,ho,hc,hd⟩:=id hit
 obtain⟨oT,kT,hoT,hdT⟩:=hT
 unfold pyNext
 refine wpAny_bind (wpAny_attempt (wpAny_callSpecial?_slot (name:=Str.ofString "__next__") hit.ty slot_sin (wpAny_call_entry slot_sin hit.ty qC ?_ (qL _))))
 unfold Builtin.«set_iterator.__next__»
 refine wpAny_bind (wpAny_of_eq (a:=(Value.ref I,([]:List Value))) rfl ?_)
 refine wpAny_bind (wpAny_fieldsOf ho hd ?_)
 dsimp only
 refine wpAny_bind (mY hS hf ?_)
 rw[hn]
 simp only[bne_self_eq_false,Bool.false_eq_true,↓reduceIte,Int.toNat_natCast]
 refine wpAny_bind (wpAny_seqItems hoT hdT ?_)
 dsimp only
 have e1:((ps.map λ(p:Nat)=>rawInt p).toArray)[n]? =none:=by
  rw[List.getElem?_toArray,List.getElem?_map,List.getElem?_eq_none (by lia)]
  rfl
 rw[e1]
 dsimp only
 refine wpAny_bind (wpAny_setField ho hd (by simp) ?_)
 have ho1:(s.heap.update I (Obj.mapFields (·.setIfInBounds 0 (rawInt 0)))).get? I=some (Obj.mapFields (·.setIfInBounds 0 (rawInt 0)) o):=Heap.get?_update_self _ ho (Obj.isFreed_of_fields (Obj.data_mapFields hd _))
 have hd1:=Obj.data_mapFields hd (·.setIfInBounds 0 (rawInt 0))
 refine wpAny_bind (wpAny_setField ho1 hd1 (by simp) ?_)
 show wpAny _ _ (newExc (.type "StopIteration") [] >>=_) _ _ _
 refine wpAny_bind ?_
 simp only[newExc,newTuple]
 refine wpAny_bind (wpAny_newObj_type ?_ (by size_fits))
 refine wpAny_bind (m:=firstArgMember _ _) (wpAny_of_eq (a:=Value.none) (by first|rfl|(simp only[firstArgMember];rfl)) ?_)
 refine wpAny_newObj_type ?_ (by size_fits)
 simp only[raiseNew]
 refine wpAny_bind (wpAny_handled ?_)
 rw[show A.in1.handled=none from hh]
 refine wpAny_bind (wpAny_pure (wpAny_throw ?_))
 refine wpAny_bind (wpAny_isInstance (T:="StopIteration") (b:=true) ⟨_,Heap.get?_push_size _ rfl,rfl⟩ isSubtype_stop ?_)
 exact wpAny_pure (hQ _ ((((Heap.SameBut.update ..).trans (Heap.SameBut.update ..)).extBut.push _).push _))
theorem KI(hh:A.handled=none){I T:Addr}(hne:a≠I)(hTI:T≠I){n:Nat}(hf:t.fits es.size=true)(hn:es.size=n){ps:List Nat}(hp:ps.Perm (range n)):
  Walks prog w A I [I,a,T] [I] n (λi v=>(l9 es ps)[i]? =some v) (λi h=>SAt h a es ep t/\SIt h I a (.ref T) i n ep/\TPl h T ps) where
 sub:=λb hb=>by simp at hb;simp[hb]
 frame:=λ_ _ _ st hk=>⟨st.1.at λo e=>hk a (by simp) o e,st.2.1.at λo e=>hk I (by simp) o e,st.2.2.at λo e=>hk T (by simp) o e⟩
 item:=λi s Q E hi st hQ=>by
  have hl:ps.length=n:=by rw[hp.length_eq,length_range]
  have e:ps[i]? =some (ps[i]'(by lia)):=List.getElem?_eq_getElem (by lia)
  have hpn:ps[i]'(by lia)<n:=mem_range.mp (hp.mem_iff.mp (getElem_mem (by lia)))
  refine XD st.2.1 st.1 st.2.2 hf hn e hpn λh' hit' sb=>?_
  exact hQ _ h' s.toks (by unfold l9;rw[List.getElem?_map,e];rfl) ⟨st.1.at λo z=>by rw[sb.2 a hne];exact z,hit',st.2.2.at λo z=>by rw[sb.2 T hTI];exact z⟩ λb o hb z=>sb.extBut b o (λh=>hb (by simp[h])) z
 done:=λs Q E st hQ=>XE hh st.2.1 st.1 st.2.2 hf hn (by rw[hp.length_eq,length_range]) λh' he=>hQ h' s.toks λb o hb z=>he b o (λh=>hb (by simp[h])) z
 self:=λ_ _ _ _ st hQ=>st.2.1.self hQ
theorem V6{n:Nat}{Q:Value->Shared->Prop}(hT:s.TypeIs (.ref a) "set")(hS:SAt s.heap a es ep t)(hf:t.fits es.size=true)(hn:es.size=n)(hz:n<=sizeLine)(hU:nN w t)
  (h:∀(h':Heap)d(I:Addr)(fp:List Addr)(out:List Value)(St:Nat->Heap->Prop),(∀b o,s.heap.get? b=some o->h'.get? b=some o)->I∈fp->(∀b∈fp,b=a\/s.heap.objs.size<=b)->s.heap.objs.size<=I->out.Perm (es.toList.map (·.2))->
   (∀A:Around,A.handled=none->Walks prog w A I fp [I] n (λi v=>out[i]? =some v) St)->St 0 h'->Q (.ref I) { s with heap:=h',drawn:=d }):
  wpAny (model prog w) A (pyIter (.ref a)) Q E s:=by
 have haz:a<s.heap.objs.size:=let⟨o,ho,_⟩:=hS;Heap.lt_size ho
 refine wpAny_pyIter_slot hT PySem.F.slot_set_iter (wpAny_call_entry PySem.F.slot_set_iter hT XA ?_ (PySem.F.args_set_iter_1 _))
 unfold Builtin.«frozenset.__iter__»
 refine wpAny_bind (wpAny_of_eq (a:=a) rfl ?_)
 unfold Builtin.Frozenset.sizeOf
 refine wpAny_bind (wpAny_bind (mY hS hf (wpAny_pure ?_)))
 obtain⟨oS,hoS,hdS⟩:=id hS
 unfold setDrawn
 refine wpAny_bind (wpAny_bind (wpAny_setState_of hoS hdS hf ?_))
 dsimp only
 refine wpAny_bind (qF (wpAny_pure ?_))
 by_cases hd:(!gF w&&nA es t)=true
 ·refine wpAny_ite_split (λ_=>?_) (λz=>absurd hd z)
  refine wpAny_bind (HD _ _ _ _ length_range λps d hp=>?_)
  have hl:ps.length=n:=by rw[hp.length_eq,length_range,hn]
  refine wpAny_bind (wpAny_newTuple ?_ (by rw[length_map,hl];exact hz))
  have hS1:SAt (s.heap.push { cls:=.type "tuple",data:=.seq (ps.map λ(i:Nat)=>rawInt i).toArray }) a es ep t:=hS.at λo e=>Heap.get?_push_of_some _ e
  obtain⟨oS1,hoS1,hdS1⟩:=id hS1
  unfold setEpoch
  refine wpAny_bind (wpAny_bind (wpAny_setState_of hoS1 hdS1 hf (wpAny_pure ?_)))
  refine wpAny_bind (wpAny_newObj_type (wpAny_pure ⟨_,rfl,"set_iterator",_,⟨_,Heap.get?_push_size _ rfl,rfl⟩,slot_sin.lookup,?_⟩) (by size_fits))
  have e1:(s.heap.push { cls:=.type "tuple",data:=.seq (ps.map λ(i:Nat)=>rawInt i).toArray }).objs.size=s.heap.objs.size+1:=Heap.size_push _ _
  refine h _ d _ [(s.heap.push { cls:=.type "tuple",data:=.seq (ps.map λ(i:Nat)=>rawInt i).toArray }).objs.size,a,s.heap.objs.size] (l9 es ps) _ (λb o e=>Heap.get?_push_of_some _ (Heap.get?_push_of_some _ e)) (by simp) (λb hb=>?_) (by rw[e1];exact Nat.le_succ _) ?_
   (λA' hA'=>KI hA' (by rw[e1];exact Nat.ne_of_lt (Nat.lt_succ_of_lt haz)) (by rw[e1];exact Nat.ne_of_lt (Nat.lt_succ_self _)) hf hn (hn▸hp)) ⟨hS1.at λo e=>Heap.get?_push_of_some _ e,⟨_,Heap.get?_push_size _ rfl,rfl,?_⟩,⟨_,_,Heap.get?_push_of_some _ (Heap.get?_push_size _ rfl),rfl⟩⟩
  ·rcases mem_cons.mp hb with rfl|hb
   ·exact .inr (by rw[e1];exact Nat.le_succ _)
   rcases mem_cons.mp hb with rfl|hb
   ·exact .inl rfl
   rw[mem_singleton]at hb
   exact .inr (Nat.le_of_eq hb.symm)
  ·rw[<-Q3]
   exact hp.map _
  ·rw[hn]
   rfl
 ·refine wpAny_ite_split (λz=>absurd z hd) (λ_=>wpAny_bind (wpAny_pure ?_))
  unfold setEpoch
  refine wpAny_bind (wpAny_bind (wpAny_setState_of hoS hdS hf (wpAny_pure ?_)))
  refine wpAny_bind (wpAny_newObj_type (wpAny_pure ⟨_,rfl,"set_iterator",_,⟨_,Heap.get?_push_size _ rfl,rfl⟩,slot_sin.lookup,?_⟩) (by size_fits))
  have hne:a≠s.heap.objs.size:=Nat.ne_of_lt haz
  have hfp:∀b∈[s.heap.objs.size,a],b=a\/s.heap.objs.size<=b:=λb hb=>by
   rcases mem_cons.mp hb with rfl|hb
   ·exact .inr (Nat.le_refl _)
   ·exact .inl (mem_singleton.mp hb)
  cases hb:gF w with
  |true=>
   obtain⟨out,hp,hw⟩:=KF (prog:=prog) (w:=w) (ep:=ep) (t:=t) (I:=s.heap.objs.size) hne hf hn hb
   refine h _ s.drawn _ [s.heap.objs.size,a] out _ (λb o e=>Heap.get?_push_of_some _ e) (by simp) hfp (Nat.le_refl _) hp hw ⟨hS.at λo e=>Heap.get?_push_of_some _ e,_,Heap.get?_push_size _ rfl,rfl,?_⟩
   rw[hn]
   rfl
  |false=>
   have hd':nA es t=false:=by rw[hb]at hd;simpa using hd
   have hl:t.led=true:=by rw[hU.2,hb];rfl
   refine h _ s.drawn _ [s.heap.objs.size,a] (es.toList.map (·.2)) _ (λb o e=>Heap.get?_push_of_some _ e) (by simp) hfp (Nat.le_refl _) (List.Perm.refl _) (λA' hA'=>KG hA' hne hf hn hb hd' hl hU.1) ⟨hS.at λo e=>Heap.get?_push_of_some _ e,_,Heap.get?_push_size _ rfl,rfl,?_⟩
   rw[hn]
   rfl
end
section
variable{prog:Program}{w:World}{A:Around}{E:Value->Shared->Prop}{s:Shared}{a:Addr}
theorem WQ{Q:Bool->Shared->Prop}(hT:s.TypeIs (.ref a) "set")(h:Q false s):wpAny (model prog w) A (Builtin.List.listLengthHint (.ref a)) Q E s:=by
 unfold Builtin.List.listLengthHint
 refine wpAny_bind (wpAny_specialOf hT PySem.F.slot_set_len.lookup ?_)
 generalize hid:("set.__len__":String)=id0
 wp_delta
 rw[show splitId id0=some ("set","__len__") from by subst hid;decide +kernel]
 subst hid
 refine wpAny_bind (wpAny_isInstance (T:="set") (b:=true) hT (by rw[isSubtype_type];kernel_rfl) ?_)
 refine wpAny_ite_split (λhab=>absurd hab (by decide)) (λ_=>?_)
 refine wpAny_ite_split (λ_=>?_) (λhab=>absurd (by decide +kernel) hab)
 refine wpAny_bind (wpAny_typeOf hT ?_)
 exact wpAny_pure h
theorem V8{P:List Value}{acc:Array Value}{n:Nat}(hl:P.length=n)(h:ItemsOf (λi v=>P[i]? =some v) acc n):acc.toList=P:=by
 refine List.ext_getElem? λi=>?_
 rw[Array.getElem?_toList]
 by_cases g:i<n
 ·have e:acc[i]? =some (acc[i]'(by have:=h.1;lia)):=Array.getElem?_eq_getElem (by have:=h.1;lia)
  rw[e]
  exact(h.2 i _ e).symm
 ·rw[Array.getElem?_eq_none (by have:=h.1;lia),List.getElem?_eq_none (by lia)]
theorem XY{es:Array (Int×Value)}{ep:Nat}{t:SetTable}{n:Nat}{Q:List Value->Shared->Prop}(hh:A.handled=none)(hT:s.TypeIs (.ref a) "set")(hS:SAt s.heap a es ep t)(hf:t.fits es.size=true)(hn:es.size=n)(hz:n<=sizeLine)(hU:nN w t)
  (h:∀(h':Heap)d tk(out:List Value),(∀b o,s.heap.get? b=some o->h'.get? b=some o)->s.heap.objs.size<=h'.objs.size->out.Perm (es.toList.map (·.2))->Q out { s with heap:=h',drawn:=d,toks:=tk }):
  wpAny (model prog w) A (collect (.ref a)) Q E s:=by
 have haz:a<s.heap.objs.size:=let⟨o,ho,_⟩:=hS;Heap.lt_size ho
 unfold collect
 refine wpAny_bind (wpAny_runValue (codeAny_builtin PySem.F.entry_proto_collect ?_))
 rw[Around.under_plainId PySem.F.plain_proto_collect _]
 show wpAny _ A.in1 (newList [] >>=λl=>again (.builtin "list.__iadd__" ⟨[l,.ref a],[]⟩)) _ _ s
 refine wpAny_bind (wpAny_newObj_type ?_)
 refine wpAny_pure ⟨plainId_quiet PySem.F.plain_list_iadd _,codeAny_builtin PySem.F.entry_list_iadd ?_⟩
 rw[Around.under_plainId PySem.F.plain_list_iadd _]
 have k0:∀b o,s.heap.get? b=some o->(s.heap.push { cls:=.type "list",data:=.seq ([]:List Value).toArray }).get? b=some o:=λb o e=>Heap.get?_push_of_some _ e
 have hS0:(s.heap.push { cls:=.type "list",data:=.seq ([]:List Value).toArray }).get? s.heap.objs.size=some { cls:=.type "list",data:=.seq ([]:List Value).toArray }:=Heap.get?_push_size _ rfl
 have z0:(s.heap.push { cls:=.type "list",data:=.seq ([]:List Value).toArray }).objs.size=s.heap.objs.size+1:=Heap.size_push _ _
 generalize hG:s.heap.push { cls:=.type "list",data:=.seq ([]:List Value).toArray }=G at k0 hS0 z0
 have hSa:s.heap.objs.size≠a:=Nat.ne_of_gt haz
 have hT0:Shared.TypeIs { s with heap:=G } (.ref a) "set":=let⟨o,ho,hc⟩:=hT;⟨o,k0 a o ho,hc⟩
 have h1:Builtin.List.listSameRef (.ref s.heap.objs.size) (.ref a)=false:=by simp[Builtin.List.listSameRef,hSa]
 show wpAny _ A.in1 (Builtin.List.listExtendWith (.ref s.heap.objs.size) (.ref a) (.ref s.heap.objs.size)) _ _ { s with heap:=G }
 unfold Builtin.List.listExtendWith
 refine wpAny_bind (wpAny_typeOf hT0 ?_)
 rw[if_neg (by rw[h1];decide)]
 refine wpAny_bind (V6 (s:={ s with heap:=G }) hT0 (hS.at λo e=>k0 a o e) hf hn hz hU λh1 d I fp out St k1 hI hfp hIz hp hw hst=>?_)
 have hl:out.length=n:=by rw[hp.length_eq,length_map,Array.length_toList,hn]
 have hSf:s.heap.objs.size∉fp:=λhm=>by
  rcases hfp _ hm with e|e
  ·exact hSa e
  ·have e':G.objs.size<=s.heap.objs.size:=e
   rw[z0]at e'
   exact absurd e' (Nat.not_succ_le_self _)
 have hS1:=k1 _ _ hS0
 have hT1:Shared.TypeIs { s with heap:=h1,drawn:=d } (.ref a) "set":=let⟨o,ho,hc⟩:=hT0;⟨o,k1 a o ho,hc⟩
 refine wpAny_bind (wpAny_holding (WQ hT1 ?_))
 refine wpAny_ite_split (λ_=>?_) (λz=>absurd (by decide +kernel) z)
 refine wpAny_bind (wpAny_rule ?_)
 refine wpAny_bind ?_
 show wpAny _ _ (updateSeq s.heap.objs.size (·.push .none) >>=λ_=>updateSeq s.heap.objs.size (·.pop)) _ _ _
 refine wpAny_bind (wpAny_updateSeq hS1 rfl ?_)
 have hS2:=Heap.get?_update_self (Obj.mapSeq (·.push Value.none)) hS1 rfl
 refine wpAny_updateSeq (hz:=by seq_fits) hS2 rfl ?_
 have hS3:=Heap.get?_update_self (Obj.mapSeq (·.pop)) hS2 rfl
 have k3:∀b o,b≠s.heap.objs.size->h1.get? b=some o->((h1.update s.heap.objs.size (Obj.mapSeq (·.push Value.none))).update s.heap.objs.size (Obj.mapSeq (·.pop))).get? b=some o:=λb o hb e=>
  (Heap.get?_update_other _ _ (Ne.symm hb)).trans ((Heap.get?_update_other _ _ (Ne.symm hb)).trans e)
 have hh1:A.in1.handled=none:=hh
 have W:=hw A.in1 hh1
 have hst3:=W.frame 0 _ _ hst λb hb o e=>k3 b o (λz=>hSf (z▸hb)) e
 refine wpAny_pure ⟨plainId_quiet PySem.F.plain_extend_loop _,codeAny_extend_loopS W.toS hz _ hSf _ n 0 _ _ _ rfl (Nat.zero_le _) hst3 hS3 (ItemsOf.nil _) λs' acc' c' hm hS' hacc=>?_⟩
 show wpAny _ A (load s.heap.objs.size >>=_) _ _ s'
 refine wpAny_bind (wpAny_load hS' ?_)
 show wpAny _ A (pure acc'.toList) _ _ s'
 rw[V8 hl hacc,Moved.eq_with hm]
 refine wpAny_pure (h s'.heap d s'.toks out (λb o e=>hm.heap b o (λz=>?_) (k3 b o (Nat.ne_of_lt (Heap.lt_size e)) (k1 b o (k0 b o e)))) (Nat.le_of_lt (Heap.lt_size hS')) hp)
 rcases mem_cons.mp z with z|z
 ·exact absurd z (Nat.ne_of_lt (Heap.lt_size e))
 ·rw[mem_singleton]at z
  have q:G.objs.size<=I:=hIz
  rw[<-z,z0]at q
  exact absurd (Heap.lt_size e) (Nat.not_lt.mpr (Nat.le_of_succ_le q))
theorem LZ{G:Heap}{x:Addr}{vs:List Value}{out:Array Value}{b:Addr}{o:Obj}(hb:b≠x)(e:G.get? b=some o):(sortedHeap G x vs out).get? b=some o:=by
 have hlt:b<G.objs.size:=Heap.lt_size e
 unfold sortedHeap
 rw[Heap.get?_update_ne _ _ _ _ hb,Heap.get?_push_ne _ _ _ (by rw[size_push',Heap.size_update];exact Nat.ne_of_lt (Nat.lt_succ_of_lt hlt)),Heap.get?_push_ne _ _ _ (by rw[Heap.size_update];exact Nat.ne_of_lt hlt),Heap.get?_update_ne _ _ _ _ hb]
 exact e
theorem LY{G:Heap}{x:Addr}{vs:List Value}{out:Array Value}{n:Nat}(e:G.get? x=some (seqObj "list" vs.toArray n)):∃n,(sortedHeap G x vs out).get? x=some (seqObj "list" out n):=by
 have hlt:x<G.objs.size:=Heap.lt_size e
 unfold sortedHeap
 obtain⟨e1,ho1⟩:∃e1,(G.update x (Obj.mapSeq λ_=>(#[]:Array Value))).get? x=some (seqObj "list" #[] e1):=⟨_,get?_update_seq e (λ_=>#[])⟩
 have ho6:(((G.update x (Obj.mapSeq λ_=>(#[]:Array Value))).push (seqObj "tuple" vs.toArray 0)).push (seqObj "list" #[] 0)).get? x=some (seqObj "list" #[] e1):=by
  rw[Heap.get?_push_ne _ _ _ (by rw[size_push',Heap.size_update];exact Nat.ne_of_lt (Nat.lt_succ_of_lt hlt)),Heap.get?_push_ne _ _ _ (by rw[Heap.size_update];exact Nat.ne_of_lt hlt)]
  exact ho1
 exact⟨_,get?_update_seq ho6 λ_=>out⟩
structure dL (ns ms:List Int):Prop where
 up:ms.Pairwise (· < ·)
 mem:∀k,k∈ms<->k∈ns
theorem EO:∀{L ns:List Int},L.Nodup->(∀x∈L,x∈ns)->ns.length=L.length->L.Perm ns
 |[],ns,_,_,h=>by rw[eq_nil_of_length_eq_zero h]
 | x::L,ns,nd,sub,h=>by
  have hx:=sub x mem_cons_self
  rw[nodup_cons]at nd
  have p1:=List.perm_cons_erase hx
  refine((EO nd.2 (λy hy=>?_) ?_).cons x).trans p1.symm
  ·exact(List.mem_erase_of_ne (λz:y=x=>nd.1 (z▸hy))).mpr (sub y (mem_cons_of_mem _ hy))
  ·have:=p1.length_eq
   simp only[length_cons]at this h
   lia
theorem pC(val:Nat->Int):∀i,(firstMet val i).Nodup
 |0=>nodup_nil
 | i+1=>by
  rw[firstMet_succ]
  unfold step_dedup
  split
  ·exact pC val i
  ·rename_i g
   rw[List.nodup_append]
   refine⟨pC val i,by simp,λa ha b hb=>?_⟩
   rw[mem_singleton]at hb
   subst hb
   exact λz=>g (any_eq_true.mpr ⟨a,ha,by rw[z];exact beq_self_eq_true _⟩)
theorem S1{ns:List Int}(k:Int):k∈firstMet (λi=>ns.getD i 0) ns.length<->k∈ns:=by
 have h:=firstMet_any (λi=>ns.getD i 0) ns.length k
 have e:(range ns.length).map (λi=>ns.getD i 0)=ns:=by
  refine List.ext_getElem? λi=>?_
  rw[List.getElem?_map]
  by_cases g:i<ns.length
  ·rw[List.getElem?_range g,List.getElem?_eq_getElem g]
   simp[List.getD_eq_getElem?_getD,g]
  ·rw[List.getElem?_eq_none (by simpa using g),List.getElem?_eq_none (by lia)]
   rfl
 rw[e]at h
 have c:∀l:List Int,l.any (· ==k)=true<->k∈l:=λl=>by simp
 rw[<-c,<-c,h]
theorem pG:∀{l:List Int},l.Pairwise (· <= ·)->l.Nodup->l.Pairwise (· < ·)
 |[],_,_=>.nil
 |x::l,h,n=>by
  rw[pairwise_cons]at h ⊢
  rw[nodup_cons]at n
  exact⟨λy hy=>by have h1:=h.1 y hy;have h2:x≠y:=λz=>n.1 (z▸hy);lia,pG h.2 n.2⟩
theorem WF{es:List (Int×Value)}(h:ElemsOf (intKind prog w) es):∀{out:List Value},out.Perm (es.map (·.2))->∃ns,IntsAre out ns/\∀k,k∈ns<->∃e∈es,(intKind prog w).is k e.2=true:=by
 intro out hp
 have key:∀l:List Value,(∀v∈l,v∈es.map (·.2))->∃ns,IntsAre l ns/\∀k,k∈ns<->∃v∈l,Value.isInt k v=true:=by
  intro l
  induction l with
  |nil=>intro _;exact⟨[],.nil,λk=>by simp⟩
  | cons v l ih=>
   intro hv
   obtain⟨ns,h1,h2⟩:=ih λu hu=>hv u (mem_cons_of_mem _ hu)
   obtain⟨e,he,ee⟩:=mem_map.mp (hv v mem_cons_self)
   obtain⟨⟨k,hk,_⟩,_⟩:=h e he
   obtain⟨t,et⟩:=Value.isInt_shape hk
   obtain rfl:v=.int k t:=ee.symm.trans et
   refine⟨k::ns,.cons k t h1,λj=>?_⟩
   rw[mem_cons,h2 j]
   have:Value.isInt j (.int k t)=true<->j=k:=⟨λq=>by(obtain⟨t',e'⟩:=Value.isInt_shape q;cases e';rfl),λe'=>by(rw[e'];exact intKind_is prog w k t)⟩
   constructor
   ·rintro(rfl|⟨u,hu,q⟩)
    ·exact⟨_,mem_cons_self,this.mpr rfl⟩
    ·exact⟨u,mem_cons_of_mem _ hu,q⟩
   ·rintro⟨u,hu,q⟩
    rcases mem_cons.mp hu with rfl|hu
    ·exact .inl (this.mp q)
    ·exact .inr ⟨u,hu,q⟩
 obtain⟨ns,h1,h2⟩:=key out λv hv=>hp.mem_iff.mp hv
 refine⟨ns,h1,λk=>(h2 k).trans ⟨λ⟨v,hv,q⟩=>?_,λ⟨e,he,q⟩=>⟨e.2,hp.mem_iff.mpr (mem_map.mpr ⟨e,he,rfl⟩),q⟩⟩⟩
 obtain⟨e,he,ee⟩:=mem_map.mp (hp.mem_iff.mp hv)
 exact⟨e,he,by rw[ee];exact q⟩
theorem LU{ns:List Int}{Q:Value->Shared->Prop}(hh:A.handled=none)(hS:SetU prog w s.heap a (λk=>(firstMet (λi=>ns.getD i 0) ns.length).any (· ==k)) (firstMet (λi=>ns.getD i 0) ns.length).length)(h64:ns.length<64)
  (h:∀(h':Heap)d tk(l:Addr)(n:Nat)(out:Array Value)(ms:List Int),(∀b o,s.heap.get? b=some o->h'.get? b=some o)->s.heap.objs.size<=l->h'.get? l=some (seqObj "list" out n)->IntsAre out.toList ms->dL ns ms->ms.length<=ns.length->Q (.ref l) { s with heap:=h',drawn:=d,toks:=tk }):
  wpAny (model prog w) A (call (.builtin "sorted") [.ref a]) Q E s:=by
 obtain⟨o,es,ep,t,ho,hel,hm,hb,hf,hn,hU⟩:=hS
 have hle:=firstMet_length_le (λi=>ns.getD i 0) ns.length
 have hz:(firstMet (λi=>ns.getD i 0) ns.length).length<=sizeLine:=by rw[sizeLine_eq];lia
 refine Calls.call_function_entry kind_sorted plain_sorted entry_sorted (args_sorted1 _) ?_
 unfold Builtin.«sorted»
 refine wpAny_bind (m:=checkCount "sorted" 1 1 _) (wpAny_pure ?_)
 refine wpAny_bind (XY (by simpa using hh) ⟨o,ho.1,ho.2.1.1⟩ ⟨o,ho.1,ho.2.2⟩ hf hn hz hU λh1 d tk vs k1 hz1 hp=>?_)
 obtain⟨ns1,hI,hmem⟩:=WF hel hp
 have hvl:vs.length=(firstMet (λi=>ns.getD i 0) ns.length).length:=by rw[hp.length_eq,length_map,Array.length_toList,hn]
 have hnl:ns1.length=(firstMet (λi=>ns.getD i 0) ns.length).length:=by rw[<-IntsAre.length hI,hvl]
 have pm:(firstMet (λi=>ns.getD i 0) ns.length).Perm ns1:=EO (pC _ _) (λx hx=>(hmem x).mpr ((hm x).mp (any_eq_true.mpr ⟨x,hx,beq_self_eq_true _⟩))) hnl
 refine wpAny_bind (wpAny_newList ?_ (by rw[hvl];exact hz))
 have hk1:(h1.push (seqObj "list" vs.toArray 0)).get? h1.objs.size=some (seqObj "list" vs.toArray 0):=Heap.get?_push_size _ rfl
 show wpAny _ _ _ _ _ { s with heap:=h1.push (seqObj "list" vs.toArray 0),drawn:=d,toks:=tk }
 refine wpAny_bind (wpAny_holding (wpAny_call_entry slot_list_sort ⟨_,hk1,rfl⟩ entry_list_sort (list_sort_tree hk1 hI (by lia) λout ms a1 a2 a3=>⟨_,rfl,?_⟩) (args_list_sort _)))
 have hnew:=LY (out:=out) hk1
 obtain⟨n,hn'⟩:=hnew
 refine wpAny_pure ⟨_,rfl,h _ d tk h1.objs.size n out ms (λb o e=>LZ (Nat.ne_of_lt (Heap.lt_size (k1 b o e))) (Heap.get?_push_of_some _ (k1 b o e))) hz1 hn' a1 ⟨pG a3 ?_,λk=>?_⟩ ?_⟩
 ·exact(a2.trans pm.symm).nodup_iff.mpr (pC _ _)
 ·rw[(a2.trans pm.symm).mem_iff,S1]
 ·rw[(a2.trans pm.symm).length_eq];exact hle
end
section
variable{X:Cx}
theorem Inv.drawn{pins:List (Addr×Obj)}{σ:St}{H:Hp}{s:Shared}(I:Inv X pins σ H s)(d:Drawn):Inv X pins σ H { s with drawn:=d }:=⟨I.ok,I.os,I.bare,I.base,I.loc,I.cell,I.free,I.freeC,I.pin,I.hok,I.len⟩
noncomputable def rL(K:PySem.W.Frag)(ta:TA):TE:=λσ H Q=>ta σ H λvs H1=>∃(p:Addr)(ns:List Int),vs=[.ref p]/\SqL K H1 p (ns.map V.int)/\ns.length<64/\
 ∀(l:Addr)(ms:List Int),H1 l=none->dL ns ms->Q (.ref l) (upd H1 l (.lst (ms.map V.int)))
theorem QS{e:Expr}{ta:TA}{p1 p2 p3 p4:Pos}(hc:X.calm=true)(hg:Gl X "sorted")(hm:X.mg "sorted"=none)(hg2:Gl X "set")(hm2:X.mg "set"=none)(ha:PA X [e] ta)(hs:starEach [e] X.env=[(false,eval e X.env)]:=by rfl)
  (hs2:starEach [Expr.Call (.Name "set" p2) [e] [] p3] X.env=[(false,eval (.Call (.Name "set" p2) [e] [] p3) X.env)]:=by rfl):
  PE X (.Call (.Name "sorted" p1) [.Call (.Name "set" p2) [e] [] p3] [] p4) (rL X.K ta):=by
 intro pins s σ H Q I h
 refine wpAny_Call_Name_kw (iI I hg hm lG (PyProof.Rows.callWith_builtin1 ?_ hs2 rfl) (by decide) (by decide))
 rw[hs2]
 show wpAny _ _ (spliced ((false,eval (.Call (.Name "set" p2) [e] [] p3) X.env)::backTo p4 [])) _ _ s
 refine Calls.spliced_cons (Call_ (iI I hg2 hm2 YY (PyProof.Rows.callWith_type1 (aH (ha p3 pins s σ H _ I h) λus s1⟨vs,H1,I1,r1,q1⟩=>?_) hs rfl)))
 obtain⟨b,ns,e,hq,hz1,q⟩:=q1
 subst e
 obtain⟨u,rfl,rx⟩:=Vals.one r1
 obtain rfl:u=Value.ref b:=rx
 obtain⟨its,rv,pl,hz⟩:=I1.list hq
 have hi:=intsAre_of rv
 have hsz:its.toArray.size=ns.length:=by rw[size_toArray,<-rv.length,length_map]
 have hsc:its.toArray.size+1<scanBound:=Nat.lt_of_le_of_lt (Nat.succ_le_of_lt (by rw[hsz];exact hz1)) (by decide)
 refine YD (I1.ok.hd hc) pl.isList hi hsc λh' tk hS hk=>?_
 have I2:Inv X pins σ H1 { s1 with heap:=h',toks:=tk }:=I1.kept λc o e=>hk c o e
 refine Calls.spliced_nil ?_
 rw[hsz]at hS
 refine LU (s:={ s1 with heap:=h',toks:=tk }) (I1.ok.hd hc) hS hz1 λh2 d tk2 l n out ms k2 hl ho ia nb hle=>?_
 have hv:=AU ia
 refine⟨.ref l,_,(I2.drawn d).laid (t':=tk2) (o:=.lst (ms.map V.int)) k2 hl ⟨?_,out.toList,n,hv,by simpa using ho⟩,rfl,q l ms (I2.hok.fresh hl) nb⟩
 rw[length_map,sizeLine_eq]
 lia
theorem VO(K:PySem.W.Frag){e:Expr}{ta:TA}{p1 p2 p3 p4:Pos}(hg:Gl X "sorted")(hm:X.mg "sorted"=none)(hg2:Gl X "set")(hm2:X.mg "set"=none)(ha:PA X [e] ta)(hc:X.calm=true:=by rfl)(h:X.K=K:=by rfl)(hs:starEach [e] X.env=[(false,eval e X.env)]:=by rfl)
  (hs2:starEach [Expr.Call (.Name "set" p2) [e] [] p3] X.env=[(false,eval (.Call (.Name "set" p2) [e] [] p3) X.env)]:=by rfl):
  PE X (.Call (.Name "sorted" p1) [.Call (.Name "set" p2) [e] [] p3] [] p4) (rL K ta):=h▸QS hc hg hm hg2 hm2 ha hs hs2
theorem NL{K:PySem.W.Frag}{σ:St}{H:Hp}{Q:VK}{ta:TA}(h:ta σ H λvs H1=>∃(p:Addr)(ns:List Int),vs=[.ref p]/\SqL K H1 p (ns.map V.int)/\ns.length<64/\∀(l:Addr)(ms:List Int),H1 l=none->dL ns ms->Q (.ref l) (upd H1 l (.lst (ms.map V.int)))):rL K ta σ H Q:=h
end
theorem EU{α β:Type}{R:α->β->Prop}:∀{xs:List α}{ys:List β},Paired R xs ys->∀{i:Nat}{y:β},ys[i]? =some y->∃x,xs[i]? =some x/\R x y
 |_,_,.nil,i,y,h=>by simp at h
 |_,_,.cons r _,0,y,h=>by simp at h;exact⟨_,rfl,h▸r⟩
 |_,_,.cons r rs,i+1,y,h=>by
  obtain⟨x,hx,rx⟩:=EU rs (i:=i) (by simpa using h)
  exact⟨x,by simpa using hx,rx⟩
section
variable{X:Cx}
noncomputable def rN(td:TE):TE:=λσ H Q=>td σ H λx H1=>∃(a:Addr)(kvs:List (aG×Int)),x=.ref a/\H1 a=some (.dK (kvs.map λp=>(p.1,V.int p.2)))/\kvs≠[]/\∀m:Int,(∃p∈kvs,p.2=m)->(∀p∈kvs,p.2<=m)->Q (.int m) H1
theorem QT{o:Expr}{td:TE}{p1 p4 apos cpos:Pos}(hc:X.calm=true)(hg:Gl X "max")(hm:X.mg "max"=none)(ho:PE X o td)
  (hs2:starEach [Expr.Call (.Attribute o "values" apos) [] [] cpos] X.env=[(false,eval (.Call (.Attribute o "values" apos) [] [] cpos) X.env)]:=by rfl)
  (hbase:attributeBase o "values" X.env (eval o X.env)=eval o X.env:=by rfl) (hline:(apos.endLine==cpos.line)=true:=by rfl):
  PE X (.Call (.Name "max" p1) [.Call (.Attribute o "values" apos) [] [] cpos] [] p4) (rN td):=by
 intro pins s σ H Q I h
 refine wpAny_Call_Name_kw (iI I hg hm (show bootBuiltins "max"=some (.builtin "max") by first|rfl|exact qG) (PyProof.Rows.callWith_builtin1 ?_ hs2 rfl) (by decide) (by decide))
 rw[hs2]
 show wpAny _ _ (spliced ((false,eval (.Call (.Attribute o "values" apos) [] [] cpos) X.env)::backTo p4 [])) _ _ s
 refine Calls.spliced_cons (wpAny_Call_method hbase rfl hline PySem.F.plainAttrs_dict PySem.F.slot_dict_values PySem.F.type_dict_values (aH (ho pins s σ H _ I h) λu s1⟨x,H1,I1,rx,a,kvs,ex,ea,ne,q⟩=>?_))
 subst ex
 obtain rfl:u=Value.ref a:=rx
 obtain⟨t1,t2,lo⟩:=WD I1 (.inl ⟨_,.inl ea⟩)
 refine⟨t1,t2,?_⟩
 obtain⟨_,_,vs,rel,dd⟩:=HI I1.hok ea
 refine Calls.callWith_builtin rfl (PySem.evalArgs_none ?_)
 refine call_meetsIn PySem.F.slot_dict_values dd.typeIs PySem.F.entry_dict_values (PySem.F.args_dict_values_1 _) (meets_dict_values (dC X.prog X.w) a lo) ⟨⟨vs,dd⟩,?_⟩
 refine Calls.spliced_nil ?_
 have hlen:vs.length=kvs.length:=by
  have:=Paired.length rel
  rw[length_map]at this
  exact this.symm
 let val:Nat->Int:=λi=>(kvs[i]?.map (·.2)).getD 0
 have hval:∀(i:Nat)(v:Value),(∃k,vs[i]? =some (k,v))->∃t,v=Value.int (val i) t:=by
  rintro i v ⟨k,e⟩
  obtain⟨x,hx,_,rx⟩:=EU rel e
  rw[List.getElem?_map]at hx
  cases e2:kvs[i]? with
  |none=>rw[e2]at hx;cases hx
  |some p=>
   rw[e2]at hx
   cases hx
   obtain⟨t,et⟩:=rx
   refine⟨t,(show v=Value.int p.2 t from et).trans ?_⟩
   show _=Value.int ((kvs[i]?.map (·.2)).getD 0) t
   rw[e2]
   rfl
 generalize hG:s1.heap.push { cls:=Value.type "dict_values",data:=Data.fields #[Value.ref a] }=G
 have k1:∀b u,s1.heap.get? b=some u->G.get? b=some u:=λb u e=>by rw[<-hG];exact Heap.get?_push_of_some _ e
 have hv:G.IsValuesView s1.heap.objs.size a:=by rw[<-hG];exact⟨_,Heap.get?_push_size _ rfl,rfl,rfl⟩
 obtain⟨ep,dat⟩:=dd.dictAt
 have dat1:G.DictAt (dC X.prog X.w) a vs ep:=dat.at' λu e=>k1 a u e
 refine call_max_walk (wpAny_pyIter_values (s:={ s1 with heap:=G }) hv dat1 ?_)
 refine⟨_,_,_,_,_,_,_,rfl,Walks.dictValues (A:=X.A.in1) (I1.ok.hd hc) _ a (Nat.ne_of_lt dat1.lt_size) vs ep,⟨⟨_,Heap.get?_push_size _ rfl,rfl,rfl⟩,dat1.push _⟩,λb hb=>?_,?_,CmpOf.ints_gt val hval,λv h' tk hP hk=>?_⟩
 ·rw[Heap.size_push]
  rcases mem_cons.mp hb with rfl|hb
  ·exact Nat.lt_succ_self _
  ·rw[mem_singleton.mp hb]
   exact Nat.lt_succ_of_lt dat1.lt_size
 ·rw[hlen]
  exact length_pos_iff.mpr ne
 ·have hp:0<kvs.length:=length_pos_iff.mpr ne
  have B:=argBest_gt val (vs.length-1)
  obtain⟨t,et⟩:=hval _ v hP
  have hin:argBest (λi j=>decide (val i>val j)) (vs.length-1)<kvs.length:=by lia
  have vi:∀i(hi:i<kvs.length),val i=(kvs[i]).2:=λi hi=>by
   show(kvs[i]?.map (·.2)).getD 0=_
   rw[List.getElem?_eq_getElem hi]
   rfl
  refine⟨.int (val (argBest (λi j=>decide (val i>val j)) (vs.length-1))),H1,?_,⟨t,et⟩,q _ ⟨_,getElem_mem hin,(vi _ hin).symm⟩ λp hp'=>?_⟩
  ·refine I1.kept λb u e=>hk b u (λz=>?_) (Heap.get?_push_of_some _ (k1 b u e))
   rw[mem_singleton]at z
   have:=Heap.lt_size (k1 b u e)
   rw[z]at this
   exact Nat.lt_irrefl _ this
  ·obtain⟨i,hi,e⟩:=getElem_of_mem hp'
   have:=B.2 i (by lia)
   rw[vi i hi,e]at this
   exact this
theorem VQ{o:Expr}{td:TE}{p1 p4 apos cpos:Pos}(hg:Gl X "max")(hm:X.mg "max"=none)(ho:PE X o td)(hc:X.calm=true:=by rfl)
  (hs2:starEach [Expr.Call (.Attribute o "values" apos) [] [] cpos] X.env=[(false,eval (.Call (.Attribute o "values" apos) [] [] cpos) X.env)]:=by rfl)
  (hbase:attributeBase o "values" X.env (eval o X.env)=eval o X.env:=by rfl) (hline:(apos.endLine==cpos.line)=true:=by rfl):
  PE X (.Call (.Name "max" p1) [.Call (.Attribute o "values" apos) [] [] cpos] [] p4) (rN td):=QT hc hg hm ho hs2 hbase hline
theorem OF{σ:St}{H:Hp}{Q:VK}{td:TE}(h:td σ H λx H1=>∃(a:Addr)(kvs:List (aG×Int)),x=.ref a/\H1 a=some (.dK (kvs.map λp=>(p.1,V.int p.2)))/\kvs≠[]/\∀m:Int,(∃p∈kvs,p.2=m)->(∀p∈kvs,p.2<=m)->Q (.int m) H1):rN td σ H Q:=h
end
end L2
namespace Nt
section
variable{n:Nat}{R:Nat->Nat->Prop}
noncomputable def gG(n:Nat)(R:Nat->Nat->Prop)(s:Int)(x:Nat->Int):Prop:=∀i j,i<n->j<n->(x j-x i>=s<->R i j)
noncomputable def NN(n:Nat)(x:Nat->Int):Prop:=∀i,i<n->0<=x i
noncomputable def aaD(n:Nat)(R:Nat->Nat->Prop)(s:Int)(x:Nat->Int):Prop:=gG n R s x/\NN n x/\∀y,gG n R s y->NN n y->∀i,i<n->x i<=y i
structure TP (n:Nat) (R:Nat->Nat->Prop) (s:Int) (x:Nat->Int) (N:Nat) (v:Nat->Nat) (k:Nat->Bool):Prop where
 lt:∀t,t<=N->v t<n
 st:x (v 0)=0
 up:∀t,t<N->k t=true->R (v t) (v (t+1))/\x (v (t+1))=x (v t)+s
 dn:∀t,t<N->k t=false->¬R (v (t+1)) (v t)/\x (v (t+1))=x (v t)+1-s
noncomputable def D(k:Nat->Bool):Nat->Int
 |0=>0
 |t+1=>D k t+(if k t=true then 1 else -1)
noncomputable def Mc(k:Nat->Bool):Nat->Int
 |0=>0
 |t+1=>Mc k t+(if k t=true then 0 else 1)
theorem TP.val{s:Int}{x:Nat->Int}{N:Nat}{v:Nat->Nat}{k:Nat->Bool}(p:TP n R s x N v k):∀t,t<=N->x (v t)=D k t*s+Mc k t
 |0,_=>by rw[p.st];simp[D,Mc]
 | t+1,h=>by
  have ih:=p.val t (by lia)
  simp only[D,Mc]
  cases hk:k t with
  |true=>
   rw[(p.up t (by lia) hk).2,ih,if_pos rfl,if_pos rfl,Int.add_mul]
   lia
  |false=>
   rw[(p.dn t (by lia) hk).2,ih,if_neg Bool.false_ne_true,if_neg Bool.false_ne_true,Int.add_mul]
   lia
theorem TP.cut{s:Int}{x:Nat->Int}(hx:gG n R s x){N:Nat}{v:Nat->Nat}{k:Nat->Bool}(p:TP n R s x N v k){a b:Nat}(hab:a<b)(hb:b<=N)(e:x (v a)=x (v b))(hbN:b<N):
  TP n R s x (N-(b-a)) (λt=>if t<=a then v t else v (t+(b-a))) (λt=>if t<a then k t else k (t+(b-a))) where
 lt:=λt ht=>by
  by_cases h:t<=a
  ·rw[if_pos h];exact p.lt t (by lia)
  ·rw[if_neg h];exact p.lt _ (by lia)
 st:=by rw[if_pos (Nat.zero_le _)];exact p.st
 up:=λt ht hk=>by
  by_cases h:t<a
  ·rw[if_pos h]at hk
   rw[if_pos (by lia),if_pos (by lia)]
   exact p.up t (by lia) hk
  ·rw[if_neg h]at hk
   have q:=p.up (t+(b-a)) (by lia) hk
   rw[if_neg (by lia:¬t+1<=a)]
   have e1:t+1+(b-a)=t+(b-a)+1:=by lia
   rw[e1]
   by_cases h2:t<=a
   ·have ta:t=a:=by lia
    subst ta
    rw[if_pos (Nat.le_refl _)]
    have eb:t+(b-t)=b:=by lia
    rw[eb]at q ⊢
    refine⟨?_,by rw[e];exact q.2⟩
    exact(hx _ _ (p.lt t (by lia)) (p.lt _ (by lia))).mp (by rw[q.2,e];lia)
   ·rw[if_neg h2];exact q
 dn:=λt ht hk=>by
  by_cases h:t<a
  ·rw[if_pos h]at hk
   rw[if_pos (by lia),if_pos (by lia)]
   exact p.dn t (by lia) hk
  ·rw[if_neg h]at hk
   have q:=p.dn (t+(b-a)) (by lia) hk
   rw[if_neg (by lia:¬t+1<=a)]
   have e1:t+1+(b-a)=t+(b-a)+1:=by lia
   rw[e1]
   by_cases h2:t<=a
   ·have ta:t=a:=by lia
    subst ta
    rw[if_pos (Nat.le_refl _)]
    have eb:t+(b-t)=b:=by lia
    rw[eb]at q ⊢
    refine⟨λhR=>q.1 ?_,by rw[e];exact q.2⟩
    have:=(hx _ _ (p.lt _ (by lia)) (p.lt t (by lia))).mpr hR
    exact(hx _ _ (p.lt _ (by lia)) (p.lt b (by lia))).mp (by rw[e]at this;exact this)
   ·rw[if_neg h2];exact q
theorem met(f:Nat->Int)(c:Int):∀m:Nat,f 0<c->c<=f m->(∀j,f (j+1)<=f j+1)->∃j,j<=m/\f j=c
 |0,h1,h2,_=>by lia
 | m+1,h1,h2,h3=>by
  by_cases h:c<=f m
  ·obtain⟨j,a,b⟩:=met f c m h1 h h3
   exact⟨j,by lia,b⟩
  ·have:=h3 m
   exact⟨m+1,Nat.le_refl _,by lia⟩
theorem ME{s:Int}(hs:1<=s){x:Nat->Int}(h:gG n R s x)(hn:NN n x):gG n R (s+1) (λi=>x i+x i/s)/\NN n (λi=>x i+x i/s):=by
 constructor
 ·intro i j hi hj
  rw[<-h i j hi hj]
  show x j+x j/s-(x i+x i/s)>=s+1<->x j-x i>=s
  have e:(x i+1*s)/s=x i/s+1:=Int.add_mul_ediv_right _ _ (by lia)
  rw[Int.one_mul]at e
  constructor
  ·intro g
   by_cases c:x j-x i>=s
   ·exact c
   ·have:x j/s<=(x i+s)/s:=Int.ediv_le_ediv (by lia) (by lia)
    lia
  ·intro g
   have:(x i+s)/s<=x j/s:=Int.ediv_le_ediv (by lia) (by lia)
   lia
 ·intro i hi
  have a:=hn i hi
  have b:0<=x i/s:=Int.ediv_nonneg a (by lia)
  show 0<=x i+x i/s
  lia
theorem MD{s B v:Int}(hs:1<=s)(h:v<=B*s):v+v/s<=B*(s+1):=by
 have:v/s<=B:=by
  have a:v/s<=(B*s)/s:=Int.ediv_le_ediv (by lia) h
  rw[Int.mul_ediv_cancel _ (by lia)]at a
  exact a
 rw[Int.mul_add,Int.mul_one]
 lia
theorem C3{s B:Int}(hs:1<=s){x:Nat->Int}(h:gG n R s x)(hn:NN n x)(hB:∀i,i<n->x i<=B*s):∀k:Nat,∃y,gG n R (s+k) y/\NN n y/\∀i,i<n->y i<=B*(s+k)
 |0=>⟨x,by simpa using h,hn,by simpa using hB⟩
 | k+1=>by
  obtain⟨y,a,b,c⟩:=C3 hs h hn hB k
  obtain⟨a',b'⟩:=ME (by lia) a b
  refine⟨_,?_,b',λi hi=>?_⟩
  ·have e:s+((k+1:Nat):Int)=s+(k:Int)+1:=by lia
   rw[e];exact a'
  ·have e:s+((k+1:Nat):Int)=s+(k:Int)+1:=by lia
   rw[e]
   exact MD (by lia) (c i hi)
end
noncomputable def sumTo(x:Nat->Int):Nat->Int
 |0=>0
 |n+1=>sumTo x n+x n
theorem lW{x:Nat->Int}:∀{n:Nat},NN n x->0<=sumTo x n
 |0,_=>Int.le_refl _
 |n+1,h=>by
  have a:=lW (n:=n) λi hi=>h i (by lia)
  have b:=h n (by lia)
  simp only[sumTo]
  lia
theorem BS{x y:Nat->Int}:∀{n:Nat}{v:Nat},(∀i,i<n->y i<=x i)->v<n->y v<x v->sumTo y n<sumTo x n
 |0,v,_,hv,_=>absurd hv (Nat.not_lt_zero _)
 | n + 1,v,h,hv,hl=>by
  simp only[sumTo]
  by_cases e:v=n
  ·subst e
   have le:∀m,m<=v->sumTo y m<=sumTo x m:=λm=>by
    induction m with
    |zero=>intro _;exact Int.le_refl _
    |succ m ih=>
     intro hm
     have a:=ih (by lia)
     have b:=h m (by lia)
     simp only[sumTo]
     lia
   have a:=le v (Nat.le_refl _)
   lia
  ·have a:=BS (n:=n) (v:=v) (λi hi=>h i (by lia)) (by lia) hl
   have b:=h n (by lia)
   lia
theorem U0{n:Nat}{p:(Nat->Int)->Prop}:∀(m:Nat)(x:Nat->Int),p x->NN n x->sumTo x n=(m:Int)->∃y,p y/\NN n y/\∀z,p z->NN n z->sumTo y n<=sumTo z n:=by
 intro m
 induction m using Nat.strongRecOn with
 | ind m ih=>
  intro x px nx ex
  by_cases h:∃z,p z/\NN n z/\sumTo z n<sumTo x n
  ·obtain⟨z,pz,nz,lz⟩:=h
   have s0:=lW nz
   exact ih (sumTo z n).toNat (by lia) z pz nz (by lia)
  ·exact⟨x,px,nx,λz pz nz=>by
    by_cases g:sumTo x n<=sumTo z n
    ·exact g
    ·exact absurd ⟨z,pz,nz,by lia⟩ h⟩
theorem nG{p q:Nat->Bool}:∀{l:List Nat}{v:Nat},(∀i∈l,p i=true->q i=true)->v∈l->p v=false->q v=true->l.countP p<l.countP q
 |[],v,_,hv,_,_=>by cases hv
 | a::l,v,h,hv,h1,h2=>by
  have le:∀m:List Nat,(∀i∈m,p i=true->q i=true)->m.countP p<=m.countP q:=λm=>by
   induction m with
   |nil=>intro _;exact Nat.le_refl _
   |cons b m ih=>
    intro g
    have i1:=ih λi hi=>g i (mem_cons_of_mem _ hi)
    have i2:=g b mem_cons_self
    simp only[countP_cons]
    cases hb:p b with
    |true=>rw[i2 hb];simp;exact i1
    |false=>simp;lia
  simp only[countP_cons]
  by_cases e:v=a
  ·subst e
   have i1:=le l λi hi=>h i (mem_cons_of_mem _ hi)
   rw[h1,h2]
   simp
   lia
  ·have hv':v∈l:=by
    rcases mem_cons.mp hv with g|g
    ·exact absurd g e
    ·exact g
   have ih:=nG (l:=l) (λi hi=>h i (mem_cons_of_mem _ hi)) hv' h1 h2
   have i2:=h a mem_cons_self
   cases ha:p a with
   |true=>rw[i2 ha];simp;exact ih
   |false=>simp;lia
end Nt
namespace Wk
section
variable{n:Nat}{R:Nat->Nat->Prop}
structure Sm (n:Nat) (R:Nat->Nat->Prop):Prop where
 irr:∀a,a<n->¬R a a
 two:∀a b c d,a<n->b<n->c<n->d<n->R a b->R c d->R a d\/R c b
 three:∀a b c d,a<n->b<n->c<n->d<n->R a b->R b c->R a d\/R d c
inductive W (n:Nat) (R:Nat->Nat->Prop):Nat->Nat->List Bool->Prop
 |nil {a:Nat}:a<n->W n R a a []
 |up {a b c:Nat} {l:List Bool}:a<n->R a b->W n R b c l->W n R a c (true::l)
 |fl {a b c:Nat} {l:List Bool}:a<n->¬R b a->W n R b c l->W n R a c (false::l)
theorem W.fst{a b:Nat}{l:List Bool}(h:W n R a b l):a<n:=by cases h <;> assumption
theorem W.snd{a b:Nat}{l:List Bool}(h:W n R a b l):b<n:=by
 induction h with
 |nil h=>exact h
 |up _ _ _ ih=>exact ih
 |fl _ _ _ ih=>exact ih
theorem W.app{a b c:Nat}{l m:List Bool}(h:W n R a b l)(g:W n R b c m):W n R a c (l++m):=by
 induction h with
 |nil _=>exact g
 |up h1 h2 _ ih=>exact .up h1 h2 (ih g)
 |fl h1 h2 _ ih=>exact .fl h1 h2 (ih g)
theorem W.cut{c:Nat}{m:List Bool}:∀{l:List Bool}{a:Nat},W n R a c (l++m)->∃b,W n R a b l/\W n R b c m
 |[],a,h=>⟨a,.nil h.fst,h⟩
 | x::l,a,h=>by
  cases h with
  |up h1 h2 h3=>
   obtain⟨b,g1,g2⟩:=W.cut h3
   exact⟨b,.up h1 h2 g1,g2⟩
  |fl h1 h2 h3=>
   obtain⟨b,g1,g2⟩:=W.cut h3
   exact⟨b,.fl h1 h2 g1,g2⟩
theorem Sm.tr(h:Sm n R){a b c:Nat}(ha:a<n)(hb:b<n)(hc:c<n)(h1:R a b)(h2:R b c):R a c:=
 (h.two a b b c ha hb hb hc h1 h2).resolve_right (h.irr b hb)
theorem rF(h:Sm n R):∀(l:List Bool){a c:Nat},l.all id=true->l≠[]->W n R a c l->R a c
 |[],_,_,_,e,_=>absurd rfl e
 |[x],a,c,e,_,w=>by
  cases w with
  |up h1 h2 h3=>cases h3;exact h2
  |fl h1 h2 h3=>cases e
 |x::y::l,a,c,e,_,w=>by
  cases w with
  |up h1 h2 h3=>exact h.tr h1 h3.fst h3.snd h2 (rF h (y::l) e (by simp) h3)
  |fl h1 h2 h3=>cases e
noncomputable def nt(l:List Bool):Nat:=l.countP id
noncomputable def nf(l:List Bool):Nat:=l.countP (!·)
theorem iF(l m:List Bool):nt (l++m)=nt l+nt m:=List.countP_append
theorem iG(l m:List Bool):nf (l++m)=nf l+nf m:=List.countP_append
noncomputable def Two3(l:List Bool):Prop:=∃u v x y z,l=u++([x,y,z]++v)/\nt [x,y,z]=2
theorem Two3.cons{l:List Bool}(a:Bool)(h:Two3 l):Two3 (a::l):=by
 obtain⟨u,v,x,y,z,rfl,g⟩:=h
 exact⟨a::u,v,x,y,z,rfl,g⟩
theorem IN:∀(l:List Bool),¬Two3 l->(true::true::l).all id=true\/Two3 (true::true::l)
 |[],_=>.inl rfl
 |true::l,h=>by
  have h':¬Two3 l:=λz=>h (z.cons true)
  rcases IN l h' with g|g
  ·exact .inl (by simpa using g)
  ·exact .inr (g.cons true)
 |false::l,h=>.inr ⟨[],l,true,true,false,rfl,rfl⟩
theorem mX:∀(l:List Bool),¬Two3 l->l.all id=true\/3*nt l<=l.length+2
  |[],_=>.inl rfl
  |[x],_=>by cases x <;> simp[nt]
  |[x,y],_=>by cases x <;> cases y <;> simp[nt]
  | x::y::z::l,h=>by
    have hx:∀{m},(Two3 m->Two3 (x::y::z::l))->¬Two3 m:=λf g=>h (f g)
    have h3:nt [x,y,z]≠2:=λe=>h ⟨[],l,x,y,z,rfl,e⟩
    have hl:¬Two3 l:=hx λg=>((g.cons z).cons y).cons x
    cases x <;> cases y <;> cases z <;> first|exact absurd rfl h3|skip
    all_goals first
      | (rcases mX l hl with g|g
         ·
           match l,g,h,hl with
           |[],_,_,_=>exact .inr (by decide)
           |[true],_,_,_=>exact .inr (by decide)
           | true::true::r,g,h,_=>first
             |exact absurd ⟨[_,_],r,_,true,true,rfl,rfl⟩ h
             |exact absurd ⟨[_],true::r,_,_,true,rfl,rfl⟩ h
             |exact .inl (by simpa using g)
           |false::r,g,_,_=>simp at g
           |true::false::r,g,_,_=>simp at g
         · exact .inr (by simp[nt]at g ⊢;lia))
      |skip
    all_goals
      rcases IN (true::l) (hx λg=>(g.cons true).cons true) with g|g
      · exact .inl g
      · exact absurd g h
theorem L7(h:Sm n R){a d:Nat}{x y z:Bool}(e:nt [x,y,z]=2)(w:W n R a d [x,y,z]):R a d:=by
 cases x <;> cases y <;> cases z <;> first|(exfalso;revert e;decide)|skip
 ·cases w with
  | fl h1 h2 w=>cases w with
   | up h3 h4 w=>cases w with
    |up h5 h6 w=>cases w with
     |nil h7=>exact(h.three _ _ _ _ h3 h5 h7 h1 h4 h6).resolve_left h2
 ·cases w with
  | up h1 h2 w=>cases w with
   | fl h3 h4 w=>cases w with
    |up h5 h6 w=>cases w with
     |nil h7=>exact(h.two _ _ _ _ h1 h3 h5 h7 h2 h6).resolve_right h4
 ·cases w with
  | up h1 h2 w=>cases w with
   | up h3 h4 w=>cases w with
    |fl h5 h6 w=>cases w with
     |nil h7=>exact(h.three _ _ _ _ h1 h3 h5 h7 h2 h4).resolve_right h6
theorem rG(h:Sm n R):∀(k:Nat)(l:List Bool){a c:Nat},l.length<=k->nf l<nt l->W n R a c l->R a c
 |0,l,_,_,hk,hn,_=>by
  have:l=[]:=List.length_eq_zero_iff.mp (by lia)
  subst this
  cases hn
 | k + 1,l,a,c,hk,hn,w=>by
  have hne:l≠[]:=by rintro rfl;cases hn
  by_cases z:Two3 l
  ·obtain⟨u,v,x,y,z,rfl,e⟩:=z
   obtain⟨b,w1,w2⟩:=w.cut
   obtain⟨d,w2,w3⟩:=w2.cut
   have r:=L7 h e w2
   have w':=w1.app (W.up w2.fst r w3)
   refine rG h k _ ?_ ?_ w'
   ·simp only[length_append,length_cons,length_nil]at hk ⊢
    lia
   ·have ef:nf [x,y,z]=1:=by
     revert e
     cases x <;> cases y <;> cases z <;> decide
    rw[iG,iG]at hn
    rw[iF,iF]at hn
    rw[iG,iF,show(true::v)=[true]++v from rfl,iG,iF]
    have e1:nf [true]=0:=rfl
    have e2:nt [true]=1:=rfl
    lia
  ·rcases mX l z with g|g
   ·exact rF h l g hne w
   ·apply Classical.byContradiction
    intro z2
    have el:l.length=nt l+nf l:=by
     have:=List.length_eq_countP_add_countP (l:=l) id
     unfold nt nf
     rw[this]
     congr 1
     refine List.countP_congr ?_
     intro x _
     cases x <;> simp
    have e0:nf l=0:=by lia
    have ea:l.all id=true:=List.all_eq_true.mpr λx hx=>by
     have:=List.countP_eq_zero.mp e0 x hx
     cases x
     ·exact absurd rfl this
     ·rfl
    exact z2 (rF h l ea hne w)
end
end Wk
namespace My
open PySem L2
noncomputable def aX(i:Nat):Stmt:=PySem.Challenge.pw_noticed_k05_whole_rows.main.body.getD i (.Pass ⟨0,0,0,0⟩)
noncomputable abbrev sV:Stmt:=aX 14
noncomputable abbrev sW:Stmt:=aX 15
noncomputable abbrev sZ:Stmt:=aX 16
noncomputable abbrev sY:Stmt:=aX 17
noncomputable abbrev tD:Stmt:=aX 18
noncomputable abbrev sX:Stmt:=aX 19
noncomputable abbrev sR:Stmt:=aX 20
noncomputable abbrev sQ:Stmt:=aX 21
noncomputable abbrev sP:Stmt:=aX 22
noncomputable abbrev tI:Stmt:=aX 24
noncomputable abbrev tJ:Stmt:=aX 25
noncomputable abbrev tF:Stmt:=aX 26
noncomputable abbrev tG:Stmt:=aX 27
noncomputable abbrev tK:Stmt:=aX 28
noncomputable abbrev sO:Stmt:=aX 29
noncomputable abbrev tE:Stmt:=aX 31
noncomputable abbrev sF:Stmt:=aX 32
noncomputable abbrev sI:Stmt:=aX 33
noncomputable abbrev sS:Stmt:=aX 34
noncomputable abbrev tH:Stmt:=aX 36
noncomputable abbrev tL:Stmt:=aX 37
noncomputable abbrev sJ:Stmt:=aX 38
noncomputable abbrev sK:Stmt:=aX 39
noncomputable abbrev sT:Stmt:=aX 40
noncomputable abbrev sN:Stmt:=aX 41
noncomputable abbrev sU:Stmt:=aX 42
noncomputable abbrev sL:Stmt:=aX 44
noncomputable abbrev sM:Stmt:=aX 45
noncomputable abbrev tR:Stmt:=aX 47
noncomputable abbrev tP:Stmt:=aX 48
noncomputable abbrev tQ:Stmt:=aX 49
noncomputable abbrev tN:Stmt:=aX 50
noncomputable abbrev tS:Stmt:=aX 51
noncomputable abbrev tO:Stmt:=aX 52
noncomputable abbrev tT:Stmt:=aX 53
noncomputable abbrev tM:Stmt:=aX 54
noncomputable abbrev tU:Stmt:=aX 55
noncomputable abbrev oK:Stmt:=aX 56
theorem ML:aW ["value","low","high"] ["value","low","high"] (aL sV):=⟨rfl,rfl,rfl,by decide +kernel,rfl,by decide +kernel,by decide +kernel⟩
theorem MM:aW ["value","many"] ["value","many"] (aL sW):=⟨rfl,rfl,rfl,by decide +kernel,rfl,by decide +kernel,by decide +kernel⟩
theorem MP:aW ["value","many"] ["value","many"] (aL sZ):=⟨rfl,rfl,rfl,by decide +kernel,rfl,by decide +kernel,by decide +kernel⟩
theorem MO:aW ["pairs"] ["pairs"] (aL sY):=⟨rfl,rfl,rfl,by decide +kernel,rfl,by decide +kernel,by decide +kernel⟩
theorem sc_is_order:aW ["value","many","pairs"] ["value"] (aL tD):=⟨rfl,rfl,rfl,by decide +kernel,rfl,by decide +kernel,by decide +kernel⟩
theorem MN:aW ["value"] ["value"] (aL sX):=⟨rfl,rfl,rfl,by decide +kernel,rfl,by decide +kernel,by decide +kernel⟩
theorem MK:aW ["value"] ["value"] (aL sR):=⟨rfl,rfl,rfl,by decide +kernel,rfl,by decide +kernel,by decide +kernel⟩
theorem MJ:aW ["value"] ["value"] (aL sQ):=⟨rfl,rfl,rfl,by decide +kernel,rfl,by decide +kernel,by decide +kernel⟩
theorem MI:aW ["value","many"] ["value","many"] (aL sP):=⟨rfl,rfl,rfl,by decide +kernel,rfl,by decide +kernel,by decide +kernel⟩
theorem MR:aW ["pairs","a","b","c","d"] ["pairs","a","b","c","d"] (aL tI):=⟨rfl,rfl,rfl,by decide +kernel,rfl,by decide +kernel,by decide +kernel⟩
theorem MS:aW ["pairs","a","b","c","d"] ["pairs","a","b","c","d"] (aL tJ):=⟨rfl,rfl,rfl,by decide +kernel,rfl,by decide +kernel,by decide +kernel⟩
theorem sc_first_two:aW ["pairs","a","b","c","d"] ["pairs"] (aL tF):=⟨rfl,rfl,rfl,by decide +kernel,rfl,by decide +kernel,by decide +kernel⟩
theorem sc_first_three:aW ["many","pairs","a","b","c","d"] ["many","pairs"] (aL tG):=⟨rfl,rfl,rfl,by decide +kernel,rfl,by decide +kernel,by decide +kernel⟩
theorem sc_bar:aW ["order","found"] ["order"] (aL tK):=⟨rfl,rfl,rfl,by decide +kernel,rfl,by decide +kernel,by decide +kernel⟩
theorem C4:aW ["order"] ["order"] (aL sO):=⟨rfl,rfl,rfl,by decide +kernel,rfl,by decide +kernel,by decide +kernel⟩
theorem sc_height:aW ["pairs","thing","less","more"] ["pairs","thing"] (aL tE):=⟨rfl,rfl,rfl,by decide +kernel,rfl,by decide +kernel,by decide +kernel⟩
theorem MF:aW ["heights","level"] ["heights","level"] (aL sF):=⟨rfl,rfl,rfl,by decide +kernel,rfl,by decide +kernel,by decide +kernel⟩
theorem sc_row:aW ["order","heights"] ["order"] (aL sI):=⟨rfl,rfl,rfl,by decide +kernel,rfl,by decide +kernel,by decide +kernel⟩
theorem sc_longest:aW ["order","lengths","things","thing","ahead"] ["order"] (aL sS):=⟨rfl,rfl,rfl,by decide +kernel,rfl,by decide +kernel,by decide +kernel⟩
theorem MQ:aW ["pairs","step","one","other"] ["pairs","step","one","other"] (aL tH):=⟨rfl,rfl,rfl,by decide +kernel,rfl,by decide +kernel,by decide +kernel⟩
theorem sc_all_demands:aW ["order","step","demands","one","other","by"] ["order","step"] (aL tL):=⟨rfl,rfl,rfl,by decide +kernel,rfl,by decide +kernel,by decide +kernel⟩
theorem sc_raise_once:aW ["demands","values","origins","raised","one","other","by"] ["demands","values","origins"] (aL sJ):=⟨rfl,rfl,rfl,by decide +kernel,rfl,by decide +kernel,by decide +kernel⟩
theorem sc_raise_all:aW ["demands","values","origins","raised","turn"] ["demands","values","origins"] (aL sK):=⟨rfl,rfl,rfl,by decide +kernel,rfl,by decide +kernel,by decide +kernel⟩
theorem sc_least_values:aW ["many","demands","values"] ["many","demands"] (aL sT):=⟨rfl,rfl,rfl,by decide +kernel,rfl,by decide +kernel,by decide +kernel⟩
theorem MH:aW ["order","step"] ["order","step"] (aL sN):=⟨rfl,rfl,rfl,by decide +kernel,rfl,by decide +kernel,by decide +kernel⟩
theorem sc_least:aW ["order","step","found"] ["order"] (aL sU):=⟨rfl,rfl,rfl,by decide +kernel,rfl,by decide +kernel,by decide +kernel⟩
theorem MG:aW ["pairs","thing","one","other"] ["pairs","thing","one","other"] (aL sL):=⟨rfl,rfl,rfl,by decide +kernel,rfl,by decide +kernel,by decide +kernel⟩
theorem sc_parted:aW ["order","one","other","thing"] ["order","one","other"] (aL sM):=⟨rfl,rfl,rfl,by decide +kernel,rfl,by decide +kernel,by decide +kernel⟩
theorem MV:aW ["_law_script","_law_k"] ["_law_script","_law_k"] (aL tR):=⟨rfl,rfl,rfl,by decide +kernel,rfl,by decide +kernel,by decide +kernel⟩
theorem sc__law_mixed:aW ["_law_script","_law_k","_law_many","_law_drawn"] ["_law_script","_law_k","_law_many"] (aL tP):=⟨rfl,rfl,rfl,by decide +kernel,rfl,by decide +kernel,by decide +kernel⟩
theorem MU:aW ["_law_script","_law_town","_law_many"] ["_law_script","_law_town","_law_many"] (aL tQ):=⟨rfl,rfl,rfl,by decide +kernel,rfl,by decide +kernel,by decide +kernel⟩
theorem MT:aW ["_law_script","_law_town","_law_some"] ["_law_script","_law_town","_law_some"] (aL tN):=⟨rfl,rfl,rfl,by decide +kernel,rfl,by decide +kernel,by decide +kernel⟩
theorem sc__law_by:aW ["_law_step","_law_longs","_law_pairs","_law_one","_law_other"] ["_law_step","_law_longs"] (aL tS):=⟨rfl,rfl,rfl,by decide +kernel,rfl,by decide +kernel,by decide +kernel⟩
theorem sc__law_order:aW ["_law_script","_law_town","_law_most","_law_many","_law_k","_law_longs","_law_order_here","_law_pairs","_law_one","_law_other"] ["_law_script","_law_town","_law_most"] (aL tO):=⟨rfl,rfl,rfl,by decide +kernel,rfl,by decide +kernel,by decide +kernel⟩
theorem sc__law_bars:aW ["_law_order_here","_law_some","_law_made","_law_a","_law_b","_law_c","_law_d","_law_e","_law_first"] ["_law_order_here"] (aL tT):=⟨rfl,rfl,rfl,by decide +kernel,rfl,by decide +kernel,by decide +kernel⟩
theorem sc__law_which:aW ["_law_e","_law_own"] ["_law_e"] (aL tM):=⟨rfl,rfl,rfl,by decide +kernel,rfl,by decide +kernel,by decide +kernel⟩
theorem sc__law_ask:aW ["_law_what","_law_order_here","_law_e"] ["_law_what","_law_order_here"] (aL tU):=⟨rfl,rfl,rfl,by decide +kernel,rfl,by decide +kernel,by decide +kernel⟩
theorem sc_law:aW ["_law_script","_law_town","_law_order_here","_law_groups","_law_things","_law_group","_law_place","_law_at","_law_thing","_law_longs","_law_one","_law_other","_law_best","_law_turn"] ["_law_script"] (aL oK):=⟨rfl,rfl,rfl,by decide +kernel,rfl,by decide +kernel,by decide +kernel⟩
set_option genSizeOf false
set_option genInjectivity false
structure Ad where
 zE:Addr
 xP:FuncData
 zF:Addr
 xQ:FuncData
 zI:Addr
 xT:FuncData
 zH:Addr
 xS:FuncData
 zJ:Addr
 xU:FuncData
 zG:Addr
 xR:FuncData
 zA:Addr
 xL:FuncData
 y9:Addr
 xK:FuncData
 y8:Addr
 xJ:FuncData
 zO:Addr
 xZ:FuncData
 zP:Addr
 x8:FuncData
 zL:Addr
 xW:FuncData
 zM:Addr
 xX:FuncData
 zQ:Addr
 x9:FuncData
 nM:Addr
 nE:FuncData
 zK:Addr
 xV:FuncData
 yZ:Addr
 xD:FuncData
 g9:Addr
 nC:FuncData
 hE:Addr
 nF:FuncData
 zN:Addr
 xY:FuncData
 zR:Addr
 yA:FuncData
 y0:Addr
 xE:FuncData
 y3:Addr
 xF:FuncData
 zB:Addr
 xM:FuncData
 y7:Addr
 xI:FuncData
 zC:Addr
 xN:FuncData
 y4:Addr
 xG:FuncData
 y6:Addr
 xH:FuncData
 zX:Addr
 yG:FuncData
 zV:Addr
 yE:FuncData
 zW:Addr
 yF:FuncData
 zT:Addr
 yC:FuncData
 zY:Addr
 yH:FuncData
 zU:Addr
 yD:FuncData
 zZ:Addr
 yI:FuncData
 zS:Addr
 yB:FuncData
 z6:Addr
 yJ:FuncData
 zD:Addr
 xO:FuncData
 bN:Addr
 gE:Addr
 gD:Addr
 gC:Addr
 gB:Addr
 gA:Addr
 fZ:Addr
 fY:Addr
 fX:Addr
 gZ:Addr
structure aT (K:PySem.W.Frag) (mg:Str->Option Value) (t:Ad):Prop where
 vR:mg "is_whole"=some (.ref t.zE)
 qX:Fun K "is_whole" "is_whole" sV t.zE t.xP
 yW:Binds K t.xP ["value","low","high"] []
 vS:mg "is_thing"=some (.ref t.zF)
 qY:Fun K "is_thing" "is_thing" sW t.zF t.xQ
 yX:Binds K t.xQ ["value","many"] []
 T3:mg "is_pair"=some (.ref t.zI)
 JK:Fun K "is_pair" "is_pair" sZ t.zI t.xT
 ZN:Binds K t.xT ["value","many"] []
 T2:mg "is_rising"=some (.ref t.zH)
 JJ:Fun K "is_rising" "is_rising" sY t.zH t.xS
 ZM:Binds K t.xS ["pairs"] []
 T4:mg "is_order"=some (.ref t.zJ)
 JL:Fun K "is_order" "is_order" tD t.zJ t.xU
 ZO:Binds K t.xU ["value"] []
 T1:mg "is_step"=some (.ref t.zG)
 JI:Fun K "is_step" "is_step" sX t.zG t.xR
 ZL:Binds K t.xR ["value"] []
 vQ:mg "need_order"=some (.ref t.zA)
 qW:Fun K "need_order" "need_order" sR t.zA t.xL
 yV:Binds K t.xL ["value"] []
 TW:mg "need_step"=some (.ref t.y9)
 JE:Fun K "need_step" "need_step" sQ t.y9 t.xK
 ZH:Binds K t.xK ["value"] []
 FS:mg "need_thing"=some (.ref t.y8)
 AB:Fun K "need_thing" "need_thing" sP t.y8 t.xJ
 IE:Binds K t.xJ ["value","many"] []
 T9:mg "bars_as_two"=some (.ref t.zO)
 JQ:Fun K "bars_as_two" "bars_as_two" tI t.zO t.xZ
 ZT:Binds K t.xZ ["pairs","a","b","c","d"] []
 UA:mg "bars_as_three"=some (.ref t.zP)
 JR:Fun K "bars_as_three" "bars_as_three" tJ t.zP t.x8
 ZU:Binds K t.x8 ["pairs","a","b","c","d"] []
 T6:mg "first_two"=some (.ref t.zL)
 JN:Fun K "first_two" "first_two" tF t.zL t.xW
 ZQ:Binds K t.xW ["pairs"] []
 T7:mg "first_three"=some (.ref t.zM)
 JO:Fun K "first_three" "first_three" tG t.zM t.xX
 ZR:Binds K t.xX ["many","pairs"] []
 FT:mg "bar"=some (.ref t.zQ)
 AD:Fun K "bar" "bar" tK t.zQ t.x9
 IF:Binds K t.x9 ["order"] []
 vP:mg "need_unbarred"=some (.ref t.nM)
 nV:Fun K "need_unbarred" "need_unbarred" sO t.nM t.nE
 yU:Binds K t.nE ["order"] []
 T5:mg "height"=some (.ref t.zK)
 JM:Fun K "height" "height" tE t.zK t.xV
 ZP:Binds K t.xV ["pairs","thing"] []
 TM:mg "things_at"=some (.ref t.yZ)
 IZ:Fun K "things_at" "things_at" sF t.yZ t.xD
 ZC:Binds K t.xD ["heights","level"] []
 vO:mg "row"=some (.ref t.g9)
 nU:Fun K "row" "row" sI t.g9 t.nC
 yT:Binds K t.nC ["order"] []
 TX:mg "longest"=some (.ref t.hE)
 AC:Fun K "longest" "longest" sS t.hE t.nF
 ZI:Binds K t.nF ["order"] []
 T8:mg "demand"=some (.ref t.zN)
 JP:Fun K "demand" "demand" tH t.zN t.xY
 ZS:Binds K t.xY ["pairs","step","one","other"] []
 UB:mg "all_demands"=some (.ref t.zR)
 JS:Fun K "all_demands" "all_demands" tL t.zR t.yA
 ZV:Binds K t.yA ["order","step"] []
 TQ:mg "raise_once"=some (.ref t.y0)
 JA:Fun K "raise_once" "raise_once" sJ t.y0 t.xE
 ZD:Binds K t.xE ["demands","values","origins"] []
 TR:mg "raise_all"=some (.ref t.y3)
 JB:Fun K "raise_all" "raise_all" sK t.y3 t.xF
 ZE:Binds K t.xF ["demands","values","origins"] []
 TY:mg "least_values"=some (.ref t.zB)
 JF:Fun K "least_values" "least_values" sT t.zB t.xM
 ZJ:Binds K t.xM ["many","demands"] []
 FR:mg "numbers"=some (.ref t.y7)
 AA:Fun K "numbers" "numbers" sN t.y7 t.xI
 ID:Binds K t.xI ["order","step"] []
 TZ:mg "least"=some (.ref t.zC)
 JG:Fun K "least" "least" sU t.zC t.xN
 ZK:Binds K t.xN ["order"] []
 TU:mg "parts"=some (.ref t.y4)
 JC:Fun K "parts" "parts" sL t.y4 t.xG
 ZF:Binds K t.xG ["pairs","thing","one","other"] []
 TV:mg "parted"=some (.ref t.y6)
 JD:Fun K "parted" "parted" sM t.y6 t.xH
 ZG:Binds K t.xH ["order","one","other"] []
 UF:mg "_law_cell_at"=some (.ref t.zX)
 JW:Fun K "_law_cell_at" "_law_cell_at" tR t.zX t.yG
 ZZ:Binds K t.yG ["_law_script","_law_k"] []
 UE:mg "_law_mixed"=some (.ref t.zV)
 JV:Fun K "_law_mixed" "_law_mixed" tP t.zV t.yE
 ZY:Binds K t.yE ["_law_script","_law_k","_law_many"] []
 jC:mg "_law_draw"=some (.ref t.zW)
 iW:Fun K "_law_draw" "_law_draw" tQ t.zW t.yF
 jE:Binds K t.yF ["_law_script","_law_town","_law_many"] []
 FU:mg "_law_pick"=some (.ref t.zT)
 AE:Fun K "_law_pick" "_law_pick" tN t.zT t.yC
 IG:Binds K t.yC ["_law_script","_law_town","_law_some"] []
 UG:mg "_law_by"=some (.ref t.zY)
 JX:Fun K "_law_by" "_law_by" tS t.zY t.yH
 Z0:Binds K t.yH ["_law_step","_law_longs"] []
 UD:mg "_law_order"=some (.ref t.zU)
 JU:Fun K "_law_order" "_law_order" tO t.zU t.yD
 ZX:Binds K t.yD ["_law_script","_law_town","_law_most"] []
 UH:mg "_law_bars"=some (.ref t.zZ)
 JY:Fun K "_law_bars" "_law_bars" tT t.zZ t.yI
 Z1:Binds K t.yI ["_law_order_here"] []
 UC:mg "_law_which"=some (.ref t.zS)
 JT:Fun K "_law_which" "_law_which" tM t.zS t.yB
 ZW:Binds K t.yB ["_law_e"] []
 pF:mg "_law_ask"=some (.ref t.z6)
 nW:Fun K "_law_ask" "_law_ask" tU t.z6 t.yJ
 qJ:Binds K t.yJ ["_law_what","_law_order_here"] []
 T0:mg "law"=some (.ref t.zD)
 JH:Fun K "law" "law" oK t.zD t.xO
 aaE:Binds K t.xO ["_law_script"] []
 SW:mg "ValueError"=none
 vL:mg "all"=none
 SV:mg "bool"=none
 SU:mg "dict"=none
 ST:mg "enumerate"=none
 vK:mg "int"=none
 dS:mg "isinstance"=none
 dB:mg "len"=none
 FL:mg "list"=none
 pB:mg "max"=none
 cQ:mg "range"=none
 SS:mg "set"=none
 kM:mg "sorted"=none
 kL:mg "tuple"=none
 pV:mg "Barred"=some (.ref t.bN)
 qM:eU K t.bN
 rE:PySem.W.kitOne K (.ref t.bN) (.type "ValueError")=some true
 qZ:PySem.W.exmOne K (.ref t.bN) (.ref t.gZ)=some true
 uT:PySem.W.kitOne K (.ref t.bN) (.ref t.gE)=some false
 uS:PySem.W.kitOne K (.ref t.bN) (.ref t.gD)=some false
 uR:PySem.W.kitOne K (.ref t.bN) (.ref t.gC)=some false
 uQ:PySem.W.kitOne K (.ref t.bN) (.ref t.gB)=some false
 uP:PySem.W.kitOne K (.ref t.bN) (.ref t.gA)=some false
 uO:PySem.W.kitOne K (.ref t.bN) (.ref t.fZ)=some false
 uN:PySem.W.kitOne K (.ref t.bN) (.ref t.fY)=some false
 uM:PySem.W.kitOne K (.ref t.bN) (.ref t.fX)=some false
 wV:mg "Full"=some (.ref t.gE)
 wU:mg "NoCount"=some (.ref t.gD)
 wT:mg "NoNumbers"=some (.ref t.gC)
 wS:mg "NoOrder"=some (.ref t.gB)
 wR:mg "NoStep"=some (.ref t.gA)
 wQ:mg "NoTelling"=some (.ref t.fZ)
 wP:mg "NoThing"=some (.ref t.fY)
 wO:mg "Nothing"=some (.ref t.fX)
 wN:mg "OrderError"=some (.ref t.gZ)
 YW:∃tk,mg "MOST_STEP"=some (.int 999 tk)
 YV:∃tk,mg "MOST_THINGS"=some (.int 8 tk)
structure XF (K:PySem.W.Frag) (mg:Str->Option Value) (bN gE gD gC gB gA fZ fY fX gZ:Addr):Prop where
 pV:mg "Barred"=some (.ref bN)
 qM:eU K bN
 rE:PySem.W.kitOne K (.ref bN) (.type "ValueError")=some true
 qZ:PySem.W.exmOne K (.ref bN) (.ref gZ)=some true
 uT:PySem.W.kitOne K (.ref bN) (.ref gE)=some false
 uS:PySem.W.kitOne K (.ref bN) (.ref gD)=some false
 uR:PySem.W.kitOne K (.ref bN) (.ref gC)=some false
 uQ:PySem.W.kitOne K (.ref bN) (.ref gB)=some false
 uP:PySem.W.kitOne K (.ref bN) (.ref gA)=some false
 uO:PySem.W.kitOne K (.ref bN) (.ref fZ)=some false
 uN:PySem.W.kitOne K (.ref bN) (.ref fY)=some false
 uM:PySem.W.kitOne K (.ref bN) (.ref fX)=some false
 wV:mg "Full"=some (.ref gE)
 wU:mg "NoCount"=some (.ref gD)
 wT:mg "NoNumbers"=some (.ref gC)
 wS:mg "NoOrder"=some (.ref gB)
 wR:mg "NoStep"=some (.ref gA)
 wQ:mg "NoTelling"=some (.ref fZ)
 wP:mg "NoThing"=some (.ref fY)
 wO:mg "Nothing"=some (.ref fX)
 wN:mg "OrderError"=some (.ref gZ)
end My
local macro_rules | `(tactic| walk_at "rd")=>`(tactic| (repeat (first | with_reducible refine L2.NP ?_ | with_reducible refine L2.OB ?_ | with_reducible refine L2.O1 ?_ | with_reducible refine L2.NR ?_ | with_reducible refine L2.O8 ?_ | with_reducible refine L2.PO ?_ | with_reducible refine L2.DU ?_ | ((with_reducible refine' L2.uB ?qe1 ?_);(case qe1=>exact rfl)) | with_reducible refine L2.PV ?_ | with_reducible refine L2.O4 ?_ | with_reducible refine L2.OP ?_ | with_reducible refine L2.NQ ?_ | with_reducible refine L2.OQ ?_ | with_reducible refine L2.O0 ?_ | with_reducible refine L2.NF ?_ | with_reducible refine L2.O2 ?_ | with_reducible refine L2.NS ?_ | with_reducible refine L2.NG ?_ | with_reducible refine L2.O3 ?_ | with_reducible refine L2.PK ?_ | with_reducible refine L2.DW ?_ | with_reducible refine L2.DT ?_ | with_reducible refine L2.NK ?_ | with_reducible refine L2.PX ?_ | with_reducible refine L2.PN ?_ | with_reducible refine L2.NV ?_ | with_reducible refine L2.NH ?_ | with_reducible refine L2.PU ?_ | with_reducible refine L2.PR ?_ | with_reducible refine L2.NU ?_ | with_reducible refine L2.NY ?_ | with_reducible refine L2.PQ ?_ | with_reducible refine L2.NT ?_ | with_reducible refine L2.NW ?_ | with_reducible refine L2.PM ?_ | with_reducible refine L2.OA ?_ | with_reducible refine L2.PB ?_ | with_reducible refine L2.NJ ?_ | with_reducible refine L2.OM ?_ | with_reducible refine L2.PJ ?_ | with_reducible refine L2.PF ?_ | with_reducible refine L2.PD ?_ | with_reducible refine L2.O5 ?_ | with_reducible refine L2.OC ?_ | with_reducible refine L2.O6 ?_ | with_reducible refine L2.OD ?_ | with_reducible refine L2.OU ?_ | with_reducible refine L2.NX ?_ | with_reducible refine L2.OI ?_ | with_reducible refine L2.OY ?_ | with_reducible refine L2.mK ?_ | with_reducible refine L2.mL ?_ | with_reducible refine L2.WL ?_ | with_reducible refine L2.WJ ?_ | with_reducible refine L2.WN ?_ | with_reducible refine L2.WK ?_ | with_reducible refine L2.WI ?_ | with_reducible refine L2.WM ?_ | with_reducible refine L2.WO ?_ | with_reducible refine L2.WP ?_ | ((with_reducible refine' L2.OX ?qe1 ?_);(case qe1=>assumption)) | ((with_reducible refine' L2.OW ?qe1 ?_);(case qe1=>assumption)) | ((with_reducible refine' L2.OS ?qe1 ?_);(case qe1=>assumption)) | ((with_reducible refine' L2.OV ?qe1 ?_);(case qe1=>assumption)) | ((with_reducible refine' L2.OT ?qe1 ?_);(case qe1=>assumption)) | ((with_reducible refine' L2.uE ?qe1 ?_);(case qe1=>assumption)) | ((with_reducible refine' L2.PP ?qe1 ?_);(case qe1=>assumption)) | ((with_reducible refine' L2.ON ?qe1 ?_);(case qe1=>assumption)) | ((with_reducible refine' L2.OO ?qe1 ?_);(case qe1=>assumption)) | ((with_reducible refine' L2.NI ?qe1 ?_);(case qe1=>assumption)) | ((with_reducible refine' L2.jK ?qe1 ?qf1 ?_);(case qe1=>assumption);(case qf1=>exact rfl)) | ((with_reducible refine' L2.gL ?qe1 ?qf1 ?_);(case qe1=>assumption);(case qf1=>exact rfl)) | ((with_reducible refine L2.kX ?_ ?_);with_reducible rfl) | ((with_reducible refine L2.fD ?_ ?_);with_reducible rfl) | (dsimp only))))
namespace My
open PySem L2
section
variable{P:Program}{w:World}{K:PySem.W.Frag}{mg:Str->Option Value}{base:Heap}{t:Ad}
noncomputable def bY(d:PyData)(lo hi:Int):Bool:=match d with| .int i=>decide (lo<=i)&&decide (i<=hi)|_=>false
inductive CC (vs:List V) (H:Hp) (Q:VK) (zz3:XK):Prop where
 |mk (x lo hi d:_) (zh0:vs=[x,.int lo,.int hi]) (zh1:Is H x d) (zh2:Q (.bl (bY d lo hi)) H):CC vs H Q zz3
theorem u8(T:aT K mg t):FnOk P w K mg base aU 1 t.zE t.xP ["value","low","high"] CC:=by
 refine T.qX.ok ML (λvs H Q E h=>?_) (λcdv A outer s H vs Q E hr h=>?_)
 ·obtain⟨x,lo,hi,d,rfl,_⟩:=h
  rfl
 ·obtain⟨x,lo,hi,d,rfl,hx,q⟩:=h
  refine⟨_,(aF (bL (PW.pt (gP (dA (aZ nH (by rfl) T.dS dW (aA (pv 0) (aA (kH (v:=.ty "bool") rfl T.SV Y2 rfl) pa_nil)))) (gO (eZ (dA (aZ nH (by rfl) T.dS dW (aA (pv 0) (aA (kH (v:=.ty "int") rfl T.vK yN rfl) pa_nil)))))))) (aD (aK pe_bl)) bK)
   (aD (aK (QV E3 E3 (pv 1) (pv 0) (pv 2))))),?_⟩
  walk_at"rd"
  have hx2:=hx
  cases hx with
  |int i=>
   walk_at"rd"
   refine bS (λh=>?_) (λh=>?_) <;> walk_at"rd" <;> simpa[bY,h]using q
  |_=>walk_at"rd" <;> exact q
inductive CD (vs:List V) (H:Hp) (Q:VK) (zz3:XK):Prop where
 |mk (x m d:_) (zh0:vs=[x,.int m]) (zh1:Is H x d) (zh2:Q (.bl (bY d 0 (m-1))) H):CD vs H Q zz3
theorem u9(T:aT K mg t):FnOk P w K mg base aU 2 t.zF t.xQ ["value","many"] CD:=by
 refine T.qY.ok MM (λvs H Q E h=>?_) (λcdv A outer s H vs Q E hr h=>?_)
 ·obtain⟨x,m,d,rfl,_⟩:=h
  rfl
 ·obtain⟨x,m,d,rfl,hx,q⟩:=h
  refine⟨_,(aD (aK (aN (u8 T) (hr.mono (by decide)) rfl T.vR T.qX.kp T.yW .nil aO (aA (pv 0) (aA pe_int (aA (aY kI (pv 1) pe_int) pa_nil)))))),?_⟩
  walk_at"rd"
  exact⟨_,_,_,_,rfl,hx,q⟩
noncomputable def aJ(p:Int×Int):PyData:=.tuple [.int p.1,.int p.2]
noncomputable def c5(d:PyData)(m:Int):Bool:=match d with| .tuple [a,b]=>bY a 0 (m-1)&&bY b 0 (m-1)&& !PyData.eqv a b|_=>false
inductive CH (vs:List V) (H:Hp) (Q:VK) (zz3:XK):Prop where
 |mk (x m d:_) (zh0:vs=[x,.int m]) (zh1:Is H x d) (zh2:Q (.bl (c5 d m)) H):CH vs H Q zz3
theorem EV{d:PyData}{m:Int}(h:∀a b,d≠.tuple [a,b]):c5 d m=false:=by
 unfold c5
 split
 ·rename_i a b
  exact absurd rfl (h a b)
 ·rfl
theorem wE{d:PyData}(h:∀ds,d≠.tuple ds):isTupD d=false:=by
 cases d <;> first|rfl|exact absurd rfl (h _)
theorem lS{d:PyData}{lo hi:Int}(h:bY d lo hi=true):∃i:Int,d=.int i/\lo<=i/\i<=hi:=by
 unfold bY at h
 split at h
 ·rename_i i
  simp at h
  exact⟨i,rfl,h.1,h.2⟩
 ·cases h
theorem RU(T:aT K mg t):FnOk P w K mg base aU 3 t.zI t.xT ["value","many"] CH:=by
 refine T.JK.ok MP (λvs H Q E h=>?_) (λcdv A outer s H vs Q E hr h=>?_)
 ·obtain⟨x,m,d,rfl,_⟩:=h
  rfl
 ·obtain⟨x,m,d,rfl,hx,q⟩:=h
  refine⟨_,(aF (bL (PW.pt (gP (eZ (dA (aZ nH (by rfl) T.dS dW (aA (pv 0) (aA (kH (v:=.ty "tuple") rfl T.kL lF rfl) pa_nil))))) (gO (bE (fQ hr.units) (aZ (dG K) (by rfl) T.dB dJ (aA (pv 0) pa_nil)) pe_int (bA _))))) (aD (aK pe_bl)) bK)
   (aF (bL (PW.pt (gP (eZ (dA (aN (u9 T) (hr.mono (by decide)) rfl T.vS T.qY.kp T.yX .nil aO (aA (aQ (aR K) (pv 0) pe_int (λ_ _=>rfl)) (aA (pv 1) pa_nil))))) (gO (eZ (dA (aN (u9 T) (hr.mono (by decide)) rfl T.vS T.qY.kp T.yX .nil aO (aA (aQ (aR K) (pv 0) pe_int (λ_ _=>rfl)) (aA (pv 1) pa_nil)))))))) (aD (aK pe_bl)) bK)
   (aD (aK (cP (fQ hr.units) (aQ (aR K) (pv 0) pe_int (λ_ _=>rfl)) (aQ (aR K) (pv 0) pe_int (λ_ _=>rfl)) (bA _)))))),?_⟩
  walk_at"rd"
  by_cases hd:∃ds,d=.tuple ds
  ·obtain⟨ds,rfl⟩:=hd
   cases hx with
   |@tup a xs _ e hxs=>
   walk_at"rd"
   have hl:=hxs.length
   refine bS (λh=>?_) (λh=>?_)
   ·walk_at"rd"
    rw[EV]at q
    ·exact q
    ·rintro a b ⟨⟩
     simp at hl
     simp[hl]at h
   ·walk_at"rd"
    match xs,ds,hxs,hl with
    | [x1,x2],[d1,d2],.cons i1 (.cons i2 .nil),_=>
     walk_at"rd"
     refine⟨_,_,_,rfl,i1,?_⟩
     walk_at"rd"
     have qe:c5 (.tuple [d1,d2]) m=(bY d1 0 (m-1)&&bY d2 0 (m-1)&& !PyData.eqv d1 d2):=rfl
     rw[qe]at q
     refine bS (λh1=>?_) (λh1=>?_)
     ·walk_at"rd"
      have h1':bY d1 0 (m-1)=false:=by simpa using h1
      simpa[h1']using q
     ·walk_at"rd"
      refine⟨_,_,_,rfl,i2,?_⟩
      walk_at"rd"
      have h1':bY d1 0 (m-1)=true:=by simpa using h1
      refine bS (λh2=>?_) (λh2=>?_)
      ·walk_at"rd"
       have h2':bY d2 0 (m-1)=false:=by simpa using h2
       simpa[h2']using q
      ·walk_at"rd"
       have h2':bY d2 0 (m-1)=true:=by simpa using h2
       obtain⟨i,rfl,_⟩:=lS h1'
       obtain⟨j,rfl,_⟩:=lS h2'
       refine i6 i1 i2 ⟨rfl,Nat.zero_le _⟩ ⟨rfl,Nat.zero_le _⟩ ?_
       simpa[h1',h2']using q
    |[],_,_,_=>simp at h
    |[_],_,_,_=>simp at h
    |_::_::_::_,_,_,_=>simp at h;lia
  ·have hd':∀ds,d≠.tuple ds:=λds e=>hd ⟨ds,e⟩
   rw[wE hd']
   walk_at"rd"
   rw[EV λa b=>hd' _]at q
   exact q
noncomputable def eF:List (Int×Int)->Bool
 |a::b::r=>HT.lexLt [a.1,a.2] [b.1,b.2]&&eF (b::r)
 |_=>true
theorem DH:∀ps:List (Int×Int),eF ps=((range (ps.length-1)).map λi=>HT.lexLt [(ps.getD i (0,0)).1,(ps.getD i (0,0)).2] [(ps.getD (i+1) (0,0)).1,(ps.getD (i+1) (0,0)).2]).all id
 |[]=>rfl
 |[a]=>rfl
 |a::b::r=>by
  rw[eF,DH (b::r)]
  have e:(a::b::r).length-1=((b::r).length-1)+1:=by simp
  rw[e,List.range_succ_eq_map,map_cons,List.all_cons,map_map]
  rfl
theorem _root_.L2.atI_of{α:Type}{xs:List α}{i:Nat}{k:Int}{v:α}(hk:k=(i:Int))(h:xs[i]? =some v):eP xs k=some v:=by
 subst hk
 exact Z5 h
theorem lU{H:Hp}{xs:List V}{a b:Int}(h:IsAll H xs [.int a,.int b]):xs=[.int a,.int b]:=by
 cases h with
 | cons h1 t=>
  cases t with
  |cons h2 t2=>
   cases h1
   cases h2
   cases t2
   rfl
theorem K0{H:Hp}{xs:List V}{a:Int}{ds:List PyData}(h:IsAll H xs [.int a,.tuple ds]):∃b ys,xs=[.int a,.ref b]/\H b=some (.tup ys)/\IsAll H ys ds:=by
 cases h with
 | cons h1 t=>
  cases t with
  |cons h2 t2=>
   cases h1
   cases t2
   cases h2 with
   |tup eb hb=>exact⟨_,_,rfl,eb,hb⟩
theorem EM{H:Hp}{xs:List V}{ps:List (Int×Int)}{i:Nat}(h:IsAll H xs (ps.map aJ))(hi:i<ps.length):
  ∃r,xs[i]? =some (.ref r)/\H r=some (.tup [.int (ps.getD i (0,0)).1,.int (ps.getD i (0,0)).2]):=by
 obtain⟨v,e,iv⟩:=h.get (i:=i) (d:=aJ (ps.getD i (0,0))) (by rw[List.getElem?_map];simp[hi])
 unfold aJ at iv
 cases iv with
 |@tup a xs _ ea hxs=>
  obtain rfl:=lU hxs
  exact⟨a,e,ea⟩
theorem c9{n:Nat}(h:n<=1000):n<=sizeLine:=Nat.le_of_lt (gJ h)
inductive CG (vs:List V) (H:Hp) (Q:VK) (zz3:XK):Prop where
 |mk (x ps:_) (zh0:vs=[x]) (zh1:Is H x (.tuple (ps.map aJ))) (zh2:ps.length<=1000) (zh3:∀H',Same H H'->Q (.bl (eF ps)) H'):CG vs H Q zz3
theorem RT(T:aT K mg t):FnOk P w K mg base aU 1 t.zH t.xS ["pairs"] CG:=by
 refine T.JJ.ok MO (λvs H Q E h=>?_) (λcdv A outer s H vs Q E hr h=>?_)
 ·obtain⟨x,ps,rfl,_⟩:=h
  rfl
 ·obtain⟨x,ps,rfl,hx,hsz,q⟩:=h
  refine⟨_,(aD (aK (aZ (wC K) (by rfl) T.vL yO (aA (fN rfl ⟨True.intro,True.intro,(.inl rfl),True.intro⟩ (M:=["place","pairs"]) (.own (.free 0 rfl rfl .nil)) (fE rfl) rfl (by decide +kernel) (cS rfl T.cQ (aA (aY kI (aZ (dG K) (by rfl) T.dB dJ (aA (pv 0) pa_nil)) pe_int) pa_nil)) (λC fp s1 H1=>⟨aP (i:=0) (show(["place","pairs"]:List Str).Nodup by decide +kernel) rfl (Or.inl rfl),i9,(cP (VT K hr.units0) (aQ (aR K) (pv 1) (pv 0) (λ_ _=>rfl)) (aQ (aR K) (pv 1) (aY c6 (pv 0) pe_int) (λ_ _=>rfl)) (bA _))⟩)) pa_nil)))),?_⟩
  cases hx with
  |@tup a xs _ e hxs=>
  have hl:xs.length=ps.length:=by rw[hxs.length,length_map]
  walk_at"rd"
  refine⟨_,rfl,by lia,by lia,?_⟩
  have en:((xs.length:Int)-1).toNat=ps.length-1:=by lia
  rw[en]
  refine mH (c9 (by lia)) (λi ys H'=>H'=H/\ys=((range i).map λi=>HT.lexLt [(ps.getD i (0,0)).1,(ps.getD i (0,0)).2] [(ps.getD (i+1) (0,0)).1,(ps.getD (i+1) (0,0)).2]).map V.bl) ⟨rfl,rfl⟩ (by rintro i ys H' ⟨_,rfl⟩;simp) ?_ ?_
  ·rintro i ys H' hi ⟨rfl,rfl⟩
   obtain⟨r1,e1,h1⟩:=EM hxs (i:=i) (by lia)
   obtain⟨r2,e2,h2⟩:=EM hxs (i:=i+1) (by lia)
   walk_at"rd"
   refine jK e (atI_of (i:=i) (by lia) e1) ?_
   walk_at"rd"
   refine jK e (atI_of (i:=i+1) (by lia) e2) ?_
   refine OJ h1 h2 ⟨rfl,?_⟩
   rw[range_succ,map_append,map_append]
   rfl
  ·rintro ys H' ⟨rfl,rfl⟩ p hp
   walk_at"rd"
   refine uE aC ?_
   rw[<-DH]
   exact q _ (Same.upd hp)
noncomputable def iR(d:PyData):Int×Int:=match d with| .tuple [.int a,.int b]=>(a,b)|_=>(0,0)
noncomputable def jA(d:PyData):Bool:=match d with| .tuple [.int n,.tuple ds]=>decide (1<=n)&&decide (n<=8)&&ds.all (λd=>c5 d n)&&eF (ds.map iR)|_=>false
theorem QZ{d:PyData}{m:Int}(h:c5 d m=true):d=aJ (iR d):=by
 unfold c5 at h
 split at h
 ·rename_i a b
  rw[Bool.and_eq_true,Bool.and_eq_true]at h
  obtain⟨i,rfl,_⟩:=lS h.1.1
  obtain⟨j,rfl,_⟩:=lS h.1.2
  rfl
 ·cases h
theorem ET{m:Int}:∀{ds:List PyData},ds.all (λd=>c5 d m)=true->ds=(ds.map iR).map aJ
 |[],_=>rfl
 |d::ds,h=>by
  rw[List.all_cons,Bool.and_eq_true]at h
  rw[map_cons,map_cons,<-ET h.2,<-QZ h.1]
theorem o5{d:PyData}(h:∀n ds,d≠.tuple [.int n,.tuple ds]):jA d=false:=by
 unfold jA
 split
 ·rename_i n ds
  exact absurd rfl (h n ds)
 ·rfl
noncomputable def vA(d:PyData):Prop:=∀m ds,d=.tuple [m,.tuple ds]->ds.length<=1000
inductive CI (vs:List V) (H:Hp) (Q:VK) (zz3:XK):Prop where
 |mk (x d:_) (zh0:vs=[x]) (zh1:Is H x d) (zh2:vA d) (zh3:∀H',Same H H'->Q (.bl (jA d)) H'):CI vs H Q zz3
theorem RV(T:aT K mg t):FnOk P w K mg base aU 4 t.zJ t.xU ["value"] CI:=by
 refine T.JL.ok sc_is_order (λvs H Q E h=>?_) (λcdv A outer s H vs Q E hr h=>?_)
 ·obtain⟨x,d,rfl,_⟩:=h
  rfl
 ·obtain ⟨x,d,rfl,hx,hok,q⟩:=h
  refine⟨_,(aF (bL (PW.pt (gP (eZ (dA (aZ nH (by rfl) T.dS dW (aA (pv 0) (aA (kH (v:=.ty "tuple") rfl T.kL lF rfl) pa_nil))))) (gO (bE (fQ hr.units) (aZ (dG K) (by rfl) T.dB dJ (aA (pv 0) pa_nil)) pe_int (bA _))))) (aD (aK pe_bl)) bK)
   (aF (bG (i:=1) sc_is_order.nd rfl (Or.inr rfl) (aQ (aR K) (pv 0) pe_int (λ_ _=>rfl)))
   (aF (bG (i:=2) sc_is_order.nd rfl (Or.inl rfl) (aQ (aR K) (pv 0) pe_int (λ_ _=>rfl)))
   (aF (bL (PW.pt (gP (eZ (dA (aN (u8 T) (hr.mono (by decide)) rfl T.vR T.qX.kp T.yW .nil aO (aA (pv 1) (aA pe_int (aA (ER rfl T.YV) pa_nil)))))) (gO (eZ (dA (aZ nH (by rfl) T.dS dW (aA (pv 2) (aA (kH (v:=.ty "tuple") rfl T.kL lF rfl) pa_nil)))))))) (aD (aK pe_bl)) bK)
   (aD (aK (o0 (aZ (wC K) (by rfl) T.vL yO (aA (fN rfl ⟨True.intro,True.intro,True.intro,(.inl rfl),True.intro⟩ (M:=["pair","many"]) (.own (.free 1 rfl rfl .nil)) (fE rfl) rfl (by decide +kernel) (fR K (pv 2)) (λC fp s1 H1=>⟨aP (i:=0) (show(["pair","many"]:List Str).Nodup by decide +kernel) rfl (Or.inl rfl),i9,(aN (RU T) (hr.mono (by decide)) rfl T.T3 T.JK.kp T.ZN .nil aO (aA (pv 0) (aA (pv 1) pa_nil)))⟩)) pa_nil)) (oZ (aN (RT T) (hr.mono (by decide)) rfl T.T2 T.JJ.kp T.ZM .nil aO (aA (pv 2) pa_nil)))))))))),?_⟩
  walk_at"rd"
  by_cases hd:∃ds,d=.tuple ds
  ·obtain ⟨ds,rfl⟩:=hd
   cases hx with
   |@tup a xs _ e hxs=>
   walk_at"rd"
   have hl:=hxs.length
   refine bS (λh=>?_) (λh=>?_)
   ·walk_at"rd"
    have q':=q H (Same.refl H)
    rw[o5]at q'
    ·exact q'
    ·rintro n ds ⟨⟩
     simp at hl
     simp[hl]at h
   ·walk_at"rd"
    match xs,ds,hxs,hl with
    | [x1,x2],[d1,d2],.cons i1 (.cons i2 .nil),_=>
     walk_at"rd"
     refine⟨_,_,_,_,rfl,i1,?_⟩
     walk_at"rd"
     refine bS (λh1=>?_) (λh1=>?_)
     ·walk_at"rd"
      have h1':bY d1 1 8=false:=by simpa using h1
      have q':=q H (Same.refl H)
      by_cases h0:∃n ds,d1=.int n/\d2=.tuple ds
      ·obtain⟨n,ds,rfl,rfl⟩:=h0
       have:jA (.tuple [.int n,.tuple ds])=(decide (1<=n)&&decide (n<=8)&&ds.all (λd=>c5 d n)&&eF (ds.map iR)):=rfl
       rw[this,show(decide (1<=n)&&decide (n<=8))=false from h1']at q'
       exact q'
      ·rw[o5 (by rintro n ds ⟨⟩;exact h0 ⟨_,_,rfl,rfl⟩)]at q'
       exact q'
     ·have h1':bY d1 1 8=true:=by simpa using h1
      obtain⟨n,rfl,hn1,hn8⟩:=lS h1'
      walk_at"rd"
      by_cases hd2:∃ds,d2=.tuple ds
      ·obtain⟨ds,rfl⟩:=hd2
       have hlen:=hok _ _ rfl
       cases i1 with
       |int _=>
       cases i2 with
       |@tup b ys _ eb hys=>
       have hlb:=hys.length
       walk_at"rd"
       refine⟨b,rfl,⟨ys,SqT.of eb⟩,?_⟩
       refine mG (K:=K) (xs:=ys) (c9 (by lia)) (λi zs H'=>H'=H/\zs=((ds.take i).map λd=>c5 d n).map V.bl) ⟨rfl,rfl⟩ (by rintro i ys H' ⟨_,rfl⟩;simp;lia) (λi zs H' _ h=>by rw[h.1];exact SqT.of eb) ?_ ?_
       ·rintro i x zs H' hx ⟨rfl,rfl⟩
        obtain⟨d,ed,id⟩:=hys.get' hx
        walk_at"rd"
        refine⟨_,_,_,rfl,id,rfl,?_⟩
        rw[take_add_one,ed,map_append,map_append]
        rfl
       ·rintro zs H' ⟨rfl,rfl⟩ p hp
        walk_at"rd"
        refine uE aC ?_
        rw[hlb,take_length,List.all_map]
        walk_at"rd"
        have qe:jA (.tuple [.int n,.tuple ds])=(decide (1<=n)&&decide (n<=8)&&ds.all (λd=>c5 d n)&&eF (ds.map iR)):=rfl
        rw[qe,decide_eq_true hn1,decide_eq_true hn8]at q
        refine bS (λh3=>?_) (λh3=>?_)
        ·walk_at"rd"
         have h3':ds.all (λd=>c5 d n)=true:=h3
         have ed:=ET h3'
         have hy2:Is (upd H' p (.lst (((ds.take ys.length).map λd=>c5 d n).map V.bl))) (.ref b) (.tuple ((ds.map iR).map aJ)):=by
          rw[<-ed]
          exact Is.same (Same.upd hp) (.tup eb hys)
         rw[hlb,take_length]at hy2
         refine⟨_,_,rfl,hy2,by rw[length_map];exact hlen,λH2 s2=>?_⟩
         have q':=q H2 ((Same.upd hp).trans s2)
         simpa[h3']using q'
        ·walk_at"rd"
         have h3':ds.all (λd=>c5 d n)=false:=h3
         have q':=q _ (Same.upd (o:=.lst ((ds.map λd=>c5 d n).map V.bl)) hp)
         simpa[h3']using q'
      ·have hd2':∀ds,d2≠.tuple ds:=λds e=>hd2 ⟨ds,e⟩
       rw[wE hd2']
       walk_at"rd"
       have q':=q H (Same.refl H)
       rw[o5 (by rintro n ds ⟨⟩;exact hd2' _ rfl)]at q'
       exact q'
    |[],_,_,_=>simp at h
    |[_],_,_,_=>simp at h
    |_::_::_::_,_,_,_=>simp at h;lia
  ·have hd':∀ds,d≠.tuple ds:=λds e=>hd ⟨ds,e⟩
   rw[wE hd']
   walk_at"rd"
   have q':=q H (Same.refl H)
   rw[o5 λn ds=>hd' _]at q'
   exact q'
inductive B8 (vs:List V) (H:Hp) (Q:VK) (zz3:XK):Prop where
 |mk (x d:_) (zh0:vs=[x]) (zh1:Is H x d) (zh2:vA d) (zh3:jA d=true) (zh4:∀H',Same H H'->Q .non H'):B8 vs H Q zz3
theorem u7(T:aT K mg t):FnOk P w K mg base aU 5 t.zA t.xL ["value"] B8:=by
 refine T.qW.ok MK (λvs H Q E h=>?_) (λcdv A outer s H vs Q E hr h=>?_)
 ·obtain⟨x,d,rfl,_⟩:=h
  rfl
 ·obtain⟨x,d,rfl,hx,hok,ho,q⟩:=h
  refine⟨_,(aD (bL (eZ (dA (aN (RV T) (hr.mono (by decide)) rfl T.T4 T.JL.kp T.ZO .nil aO (aA (pv 0) pa_nil)))) (aD i7) bK)),?_⟩
  walk_at"rd"
  refine⟨_,_,rfl,hx,hok,λH' s'=>?_⟩
  rw[ho]
  walk_at"rd"
  exact q H' s'
theorem G9(p q:Int×Int):PyData.eqv (aJ p) (aJ q)=decide (p=q):=by
 obtain⟨a,b⟩:=p
 obtain⟨c,d⟩:=q
 simp only[aJ,PyData.eqv,PyData.eqvAll,Bool.and_true]
 by_cases h:a=c
 ·by_cases h2:b=d
  ·subst h h2;simp
  ·simp[h,h2]
 ·simp[h]
theorem pP(p:Int×Int):∀ps:List (Int×Int),jW (aJ p) (ps.map aJ)=decide (p∈ps)
 |[]=>by simp[jW]
 | q::ps=>by
  have ih:=pP p ps
  unfold jW at ih ⊢
  rw[map_cons,any_cons,ih,G9]
  by_cases h:q=p
  ·subst h;simp
  ·have h':¬p=q:=λe=>h e.symm
   simp[h,h']
theorem kK(p:Int×Int):dQ (aJ p):=⟨rfl,show 1<=40 by decide⟩
theorem o7:∀ps:List (Int×Int),vB (ps.map aJ)
 |[]=>⟨rfl,Nat.zero_le _⟩
 | p::ps=>by
  obtain⟨a,b⟩:=o7 ps
  refine⟨?_,?_⟩
  ·rw[map_cons,PyData.canLayAll0,a];rfl
  ·rw[map_cons,PyData.depthAll]
   exact Nat.max_le.mpr ⟨(kK p).2,b⟩
noncomputable def has(ps:List (Int×Int))(i j:Int):Bool:=decide ((i,j)∈ps)
theorem i5{H:Hp}{Q:VK}{p:Addr}{y:V}{i j:Int}{ps:List (Int×Int)}(e:H p=some (.tup [.int i,.int j]))(hy:Is H y (.tuple (ps.map aJ)))(h:Q (.bl (has ps i j)) H):kE false (.ref p) y H Q:=by
 refine DS (d:=aJ (i,j)) (.tup e (.cons (.int i) (.cons (.int j) .nil))) hy (kK _) (o7 _) ?_
 rw[pP]
 exact h
theorem iZ{H:Hp}{Q:VK}{p:Addr}{y:V}{i j:Int}{ps:List (Int×Int)}(e:H p=some (.tup [.int i,.int j]))(hy:Is H y (.tuple (ps.map aJ)))(h:Q (.bl (!has ps i j)) H):kE true (.ref p) y H Q:=by
 refine DS (d:=aJ (i,j)) (.tup e (.cons (.int i) (.cons (.int j) .nil))) hy (kK _) (o7 _) ?_
 rw[pP]
 exact h
noncomputable def g8(ps:List (Int×Int))(a b c d:Int):Bool:=has ps a b&&has ps c d&&(!has ps a d&& !has ps c b)
noncomputable def g7(ps:List (Int×Int))(a b c d:Int):Bool:=has ps a b&&has ps b c&&(!has ps a d&& !has ps d c)
theorem c8{i j:Int}:[V.int i,V.int j].length<=sizeLine:=by
 show 2<=sizeLine
 decide
noncomputable def bZ(n:Nat)(ps:List (Int×Int)):PyData:=.tuple [.int n,.tuple (ps.map aJ)]
structure Ord (n:Nat) (ps:List (Int×Int)):Prop where
 lo:1<=n
 hi:n<=8
 ix:∀p∈ps,0<=p.1/\p.1<n/\0<=p.2/\p.2<n/\p.1≠p.2
 up:eF ps=true
 sz:ps.length<=1000
theorem XQ(p:Int×Int):iR (aJ p)=p:=rfl
theorem Ord.okd{n:Nat}{ps:List (Int×Int)}(h:Ord n ps):vA (bZ n ps):=by
 rintro m ds e
 unfold bZ at e
 injection e with e
 injection e with _ e
 injection e with e _
 injection e with e
 rw[<-e,length_map]
 exact h.sz
theorem Ord.yes{n:Nat}{ps:List (Int×Int)}(h:Ord n ps):jA (bZ n ps)=true:=by
 have e:jA (bZ n ps)=(decide (1<=(n:Int))&&decide ((n:Int)<=8)&&(ps.map aJ).all (λd=>c5 d n)&&eF ((ps.map aJ).map iR)):=rfl
 have e2:(ps.map aJ).map iR=ps:=by
  rw[map_map]
  exact(map_congr_left λp _=>XQ p).trans (map_id ps)
 have e3:(ps.map aJ).all (λd=>c5 d n)=true:=by
  rw[List.all_map,List.all_eq_true]
  intro p hp
  obtain⟨a,b,c,d,f⟩:=h.ix p hp
  show(bY (.int p.1) 0 (n-1)&&bY (.int p.2) 0 (n-1)&& !PyData.eqv (.int p.1) (.int p.2))=true
  have g1:bY (.int p.1) 0 (n-1)=true:=by
   show(decide (0<=p.1)&&decide (p.1<=(n:Int)-1))=true
   simp;lia
  have g2:bY (.int p.2) 0 (n-1)=true:=by
   show(decide (0<=p.2)&&decide (p.2<=(n:Int)-1))=true
   simp;lia
  have g3:PyData.eqv (.int p.1) (.int p.2)=false:=by
   show(p.1==p.2)=false
   simpa using f
  rw[g1,g2,g3];rfl
 rw[e,e2,e3,h.up,decide_eq_true (by have:=h.lo;lia),decide_eq_true (by have:=h.hi;lia)]
 rfl
theorem iL{H:Hp}{x:V}{n:Nat}{ps:List (Int×Int)}(h:Is H x (bZ n ps)):∃a b xs,x=.ref a/\H a=some (.tup [.int n,.ref b])/\H b=some (.tup xs)/\IsAll H xs (ps.map aJ):=by
 unfold bZ at h
 cases h with
 |@tup a xs _ e hxs=>
  obtain⟨b,ys,rfl,eb,hb⟩:=K0 hxs
  exact⟨a,_,_,rfl,e,eb,hb⟩
inductive rZ (f:List (Int×Int)->Int->Int->Int->Int->Bool) (vs:List V) (H:Hp) (Q:VK) (zz3:XK):Prop where
 |mk (x ps a b c d:_) (zh0:vs=[x,.int a,.int b,.int c,.int d]) (zh1:Is H x (.tuple (ps.map aJ))) (zh2:∀H',Same H H'->Q (.bl (f ps a b c d)) H'):rZ f vs H Q zz3
theorem R0(T:aT K mg t):FnOk P w K mg base aU 1 t.zO t.xZ ["pairs","a","b","c","d"] (rZ g8):=by
 refine T.JQ.ok MR (λvs H Q E h=>?_) (λcdv A outer s H vs Q E hr h=>?_)
 ·obtain⟨x,ps,a,b,c,d,rfl,_⟩:=h
  rfl
 ·obtain⟨x,ps,a,b,c,d,rfl,hx,q⟩:=h
  refine⟨_,(aF (bL (PW.pt (gP (bE (iD hr.units) (bI (aA (pv 1) (aA (pv 2) pa_nil))) (pv 0) (by rfl)) (gO (bE (iD hr.units) (bI (aA (pv 3) (aA (pv 4) pa_nil))) (pv 0) (by rfl))))) (aD (aK pe_bl)) bK)
   (aD (aK (o0 (cP (iD hr.units) (bI (aA (pv 1) (aA (pv 4) pa_nil))) (pv 0) (by rfl)) (oZ (cP (iD hr.units) (bI (aA (pv 3) (aA (pv 2) pa_nil))) (pv 0) (by rfl))))))),?_⟩
  unfold g8 at q
  walk_at"rd"
  refine⟨c8,λp1 hp1=>?_⟩
  have s1:=Same.upd (o:=.tup [.int a,.int b]) hp1
  walk_at"rd"
  refine iZ aC (hx.same s1) ?_
  walk_at"rd"
  refine bS (λh1=>?_) (λh1=>?_)
  ·walk_at"rd"
   have h1':has ps a b=false:=by simpa using h1
   have q':=q _ s1
   rw[h1']at q'
   exact q'
  ·have h1':has ps a b=true:=by simpa using h1
   rw[h1']at q
   walk_at"rd"
   refine⟨c8,λp2 hp2=>?_⟩
   walk_at"rd"
   refine iZ aC (hx.same (s1.trans (Same.upd hp2))) ?_
   walk_at"rd"
   refine bS (λh2=>?_) (λh2=>?_)
   ·walk_at"rd"
    rw[Bool.not_eq_true']at h2
    rw[h2]at q
    exact q _ (s1.trans (Same.upd hp2))
   ·rw[Bool.not_eq_false']at h2
    rw[h2]at q
    walk_at"rd"
    refine⟨c8,λp3 hp3=>?_⟩
    walk_at"rd"
    refine iZ aC (hx.same ((s1.trans (Same.upd hp2)).trans (Same.upd hp3))) ?_
    walk_at"rd"
    refine bS (λh3=>?_) (λh3=>?_)
    ·rw[h3]at q
     walk_at"rd"
     refine⟨c8,λp4 hp4=>?_⟩
     walk_at"rd"
     refine iZ aC (hx.same (((s1.trans (Same.upd hp2)).trans (Same.upd hp3)).trans (Same.upd hp4))) ?_
     exact q _ (((s1.trans (Same.upd hp2)).trans (Same.upd hp3)).trans (Same.upd hp4))
    ·rw[h3]at q
     exact q _ ((s1.trans (Same.upd hp2)).trans (Same.upd hp3))
theorem R1(T:aT K mg t):FnOk P w K mg base aU 1 t.zP t.x8 ["pairs","a","b","c","d"] (rZ g7):=by
 refine T.JR.ok MS (λvs H Q E h=>?_) (λcdv A outer s H vs Q E hr h=>?_)
 ·obtain⟨x,ps,a,b,c,d,rfl,_⟩:=h
  rfl
 ·obtain⟨x,ps,a,b,c,d,rfl,hx,q⟩:=h
  refine⟨_,(aF (bL (PW.pt (gP (bE (iD hr.units) (bI (aA (pv 1) (aA (pv 2) pa_nil))) (pv 0) (by rfl)) (gO (bE (iD hr.units) (bI (aA (pv 2) (aA (pv 3) pa_nil))) (pv 0) (by rfl))))) (aD (aK pe_bl)) bK)
   (aD (aK (o0 (cP (iD hr.units) (bI (aA (pv 1) (aA (pv 4) pa_nil))) (pv 0) (by rfl)) (oZ (cP (iD hr.units) (bI (aA (pv 4) (aA (pv 3) pa_nil))) (pv 0) (by rfl))))))),?_⟩
  unfold g7 at q
  walk_at"rd"
  refine⟨c8,λp1 hp1=>?_⟩
  have s1:=Same.upd (o:=.tup [.int a,.int b]) hp1
  walk_at"rd"
  refine iZ aC (hx.same s1) ?_
  walk_at"rd"
  refine bS (λh1=>?_) (λh1=>?_)
  ·walk_at"rd"
   have h1':has ps a b=false:=by simpa using h1
   have q':=q _ s1
   rw[h1']at q'
   exact q'
  ·have h1':has ps a b=true:=by simpa using h1
   rw[h1']at q
   walk_at"rd"
   refine⟨c8,λp2 hp2=>?_⟩
   walk_at"rd"
   refine iZ aC (hx.same (s1.trans (Same.upd hp2))) ?_
   walk_at"rd"
   refine bS (λh2=>?_) (λh2=>?_)
   ·walk_at"rd"
    rw[Bool.not_eq_true']at h2
    rw[h2]at q
    exact q _ (s1.trans (Same.upd hp2))
   ·rw[Bool.not_eq_false']at h2
    rw[h2]at q
    walk_at"rd"
    refine⟨c8,λp3 hp3=>?_⟩
    walk_at"rd"
    refine iZ aC (hx.same ((s1.trans (Same.upd hp2)).trans (Same.upd hp3))) ?_
    walk_at"rd"
    refine bS (λh3=>?_) (λh3=>?_)
    ·rw[h3]at q
     walk_at"rd"
     refine⟨c8,λp4 hp4=>?_⟩
     walk_at"rd"
     refine iZ aC (hx.same (((s1.trans (Same.upd hp2)).trans (Same.upd hp3)).trans (Same.upd hp4))) ?_
     exact q _ (((s1.trans (Same.upd hp2)).trans (Same.upd hp3)).trans (Same.upd hp4))
    ·rw[h3]at q
     exact q _ ((s1.trans (Same.upd hp2)).trans (Same.upd hp3))
theorem mT{α β:Type}{F:α->Option β}{l:List α}{i:Nat}{x:α}(h:(l.take i).findSome? F=none)(e:l[i]? =some x)(g:F x=none):(l.take (i+1)).findSome? F=none:=by
 rw[take_add_one,e,List.findSome?_append,h]
 simp[g]
theorem mU{α β:Type}{F:α->Option β}{l:List α}{i:Nat}{x:α}{r:β}(h:(l.take i).findSome? F=none)(e:l[i]? =some x)(g:F x=some r):l.findSome? F=some r:=by
 have hl:i<l.length:=(List.getElem?_eq_some_iff.mp e).1
 have e':l[i]=x:=(List.getElem?_eq_some_iff.mp e).2
 have:l=l.take i++x::l.drop (i+1):=by
  rw[<-e',<-drop_eq_getElem_cons hl,take_append_drop]
 rw[this,List.findSome?_append,h]
 simp[g]
theorem wY{α β:Type}{F:α->Option β}{l:List α}(h:(l.take l.length).findSome? F=none):l.findSome? F=none:=by
 rwa [take_length]at h
theorem oN{n i:Nat}(h:i<n):(range n)[i]? =some i:=List.getElem?_range h
theorem DI{β:Type}{F:Nat->Option β}{n:Nat}(h:((range n).take n).findSome? F=none):(range n).findSome? F=none:=by
 rwa [take_of_length_le (by simp)]at h
noncomputable def j8(s:Str):Option (List Int)->PyData
 |none=>.none
 |some l=>.tuple (.str s::l.map .int)
noncomputable def qA(ps:List (Int×Int))(p q:Int×Int):Option (List Int):=if g8 ps p.1 p.2 q.1 q.2=true then some [p.1,p.2,q.1,q.2] else none
noncomputable def f2(ps:List (Int×Int)):Option (List Int):=ps.findSome? λp=>ps.findSome? (qA ps p)
inductive CK (vs:List V) (H:Hp) (Q:VK) (zz3:XK):Prop where
 |mk (x ps:_) (zh0:vs=[x]) (zh1:Is H x (.tuple (ps.map aJ))) (zh2:∀v H',Same H H'->Is H' v (j8 "two" (f2 ps))->Q v H'):CK vs H Q zz3
theorem RX(T:aT K mg t):FnOk P w K mg base aU 2 t.zL t.xW ["pairs"] CK:=by
 refine T.JN.ok sc_first_two (λvs H Q E h=>?_) (λcdv A outer s H vs Q E hr h=>?_)
 ·obtain⟨x,ps,rfl,_⟩:=h
  rfl
 ·obtain⟨x,ps,rfl,hx,q⟩:=h
  refine⟨_,(aF (bW PassesOwn.never rfl (fR K (pv 0)) (fT K rfl (cF (aP (i:=1) sc_first_two.nd rfl (Or.inl rfl)) (cF (aP (i:=2) sc_first_two.nd rfl (Or.inl rfl)) fM))) (aD (bW PassesOwn.never rfl (fR K (pv 0)) (fT K rfl (cF (aP (i:=3) sc_first_two.nd rfl (Or.inl rfl)) (cF (aP (i:=4) sc_first_two.nd rfl (Or.inl rfl)) fM))) (aD (bL (dA (aN (R0 T) (hr.mono (by decide)) rfl T.T9 T.JQ.kp T.ZT .nil aO (aA (pv 0) (aA (pv 1) (aA (pv 2) (aA (pv 3) (aA (pv 4) pa_nil))))))) (aD (aK (bI (aA pe_str (aA (pv 1) (aA (pv 2) (aA (pv 3) (aA (pv 4) pa_nil)))))))) bK)))))
   (aD (aK pe_non))),?_⟩
  cases hx with
  |@tup a xs _ e hxs=>
  have hl:xs.length=ps.length:=by rw[hxs.length,length_map]
  walk_at"rd"
  refine⟨a,rfl,⟨xs,SqT.of e⟩,?_⟩
  refine k9 (K:=K) (xs:=xs) (λi σ H'=>(∃va vb vc vd,σ=[some (.ref a),va,vb,vc,vd])/\Same H H'/\(ps.take i).findSome? (λp=>ps.findSome? (qA ps p))=none) ⟨⟨_,_,_,_,rfl⟩,Same.refl H,rfl⟩ (λi σ H' _ h=>SqT.of (h.2.1 _ _ e)) ?_ ?_
  ·rintro i x σ H1 hx ⟨⟨va,vb,vc,vd,rfl⟩,s1,n1⟩
   obtain⟨p,ep,ip⟩:=(hxs.same s1).get' hx
   rw[List.getElem?_map]at ep
   cases hpi:ps[i]? with
   |none=>rw[hpi]at ep;cases ep
   |some p0=>
   rw[hpi]at ep
   cases ep
   unfold aJ at ip
   cases ip with
   |@tup r ys _ er hys=>
   obtain rfl:=lU hys
   refine fK er rfl ?_
   walk_at"rd"
   refine⟨a,rfl,⟨xs,SqT.of (s1 _ _ e)⟩,?_⟩
   refine k9 (K:=K) (xs:=xs) (λj σ H'=>(∃vc vd,σ=[some (.ref a),some (.int p0.1),some (.int p0.2),vc,vd])/\Same H H'/\(ps.take j).findSome? (qA ps p0)=none) ⟨⟨_,_,rfl⟩,s1,rfl⟩ (λi σ H' _ h=>SqT.of (h.2.1 _ _ e)) ?_ ?_
   ·rintro j y σ H2 hy ⟨⟨vc,vd,rfl⟩,s2,n2⟩
    obtain⟨q2,eq2,iq2⟩:=(hxs.same s2).get' hy
    rw[List.getElem?_map]at eq2
    cases hqj:ps[j]? with
    |none=>rw[hqj]at eq2;cases eq2
    |some q0=>
    rw[hqj]at eq2
    cases eq2
    unfold aJ at iq2
    cases iq2 with
    |@tup r2 ys2 _ er2 hys2=>
    obtain rfl:=lU hys2
    refine fK er2 rfl ?_
    walk_at"rd"
    refine⟨_,ps,_,_,_,_,rfl,Is.same s2 (.tup e hxs),λH3 s3=>?_⟩
    cases hf:g8 ps p0.1 p0.2 q0.1 q0.2 with
    |true=>
     walk_at"rd"
     refine⟨by show 5<=sizeLine;decide,λr3 hr3=>?_⟩
     have ef:f2 ps=some [p0.1,p0.2,q0.1,q0.2]:=mU n1 hpi (mU n2 hqj (if_pos hf))
     refine q _ _ ((s2.trans s3).trans (Same.upd hr3)) ?_
     rw[ef]
     exact .tup aC (.cons (.str _) (.cons (.int _) (.cons (.int _) (.cons (.int _) (.cons (.int _) .nil)))))
    |false=>
     walk_at"rd"
     exact⟨⟨_,_,rfl⟩,s2.trans s3,mT n2 hqj (if_neg (by rw[hf];exact Bool.false_ne_true))⟩
   ·rintro σ H2 ⟨⟨vc,vd,rfl⟩,s2,n2⟩
    rw[hl]at n2
    exact⟨⟨_,_,_,_,rfl⟩,s2,mT n1 hpi (wY n2)⟩
  ·rintro σ H1 ⟨⟨va,vb,vc,vd,rfl⟩,s1,n1⟩
   rw[hl]at n1
   walk_at"rd"
   refine q _ H1 s1 ?_
   rw[show f2 ps=none from wY n1]
   exact .non
noncomputable def pZ(n:Nat)(ps:List (Int×Int))(p:Int×Int)(c:Nat):Option (List Int):=(range n).findSome? λ(d:Nat)=>if g7 ps p.1 p.2 c d=true then some [p.1,p.2,(c:Int),(d:Int)] else none
noncomputable def f3(n:Nat)(ps:List (Int×Int)):Option (List Int):=ps.findSome? λp=>(range n).findSome? (pZ n ps p)
inductive CL (vs:List V) (H:Hp) (Q:VK) (zz3:XK):Prop where
 |mk (x ps n:_) (zh0:vs=[.int (n:Nat),x]) (zh1:n<=8) (zh2:Is H x (.tuple (ps.map aJ))) (zh3:∀v H',Same H H'->Is H' v (j8 "three" (f3 n ps))->Q v H'):CL vs H Q zz3
theorem RY(T:aT K mg t):FnOk P w K mg base aU 2 t.zM t.xX ["many","pairs"] CL:=by
 refine T.JO.ok sc_first_three (λvs H Q E h=>?_) (λcdv A outer s H vs Q E hr h=>?_)
 ·obtain⟨x,ps,n,rfl,_⟩:=h
  rfl
 ·obtain⟨x,ps,n,rfl,hn,hx,q⟩:=h
  refine⟨_,(aF (bW PassesOwn.never rfl (fR K (pv 1)) (fT K rfl (cF (aP (i:=2) sc_first_three.nd rfl (Or.inl rfl)) (cF (aP (i:=3) sc_first_three.nd rfl (Or.inl rfl)) fM))) (aD (bW PassesOwn.never rfl (cS rfl T.cQ (aA (pv 0) pa_nil)) (aP (i:=4) sc_first_three.nd rfl (Or.inl rfl)) (aD (bW PassesOwn.never rfl (cS rfl T.cQ (aA (pv 0) pa_nil)) (aP (i:=5) sc_first_three.nd rfl (Or.inl rfl)) (aD (bL (dA (aN (R1 T) (hr.mono (by decide)) rfl T.UA T.JR.kp T.ZU .nil aO (aA (pv 1) (aA (pv 2) (aA (pv 3) (aA (pv 4) (aA (pv 5) pa_nil))))))) (aD (aK (bI (aA pe_str (aA (pv 2) (aA (pv 3) (aA (pv 4) (aA (pv 5) pa_nil)))))))) bK)))))))
   (aD (aK pe_non))),?_⟩
  cases hx with
  |@tup a xs _ e hxs=>
  have hl:xs.length=ps.length:=by rw[hxs.length,length_map]
  walk_at"rd"
  refine⟨a,rfl,⟨xs,SqT.of e⟩,?_⟩
  refine k9 (K:=K) (xs:=xs) (λi σ H'=>(∃va vb vc vd,σ=[some (.int n),some (.ref a),va,vb,vc,vd])/\Same H H'/\(ps.take i).findSome? (λp=>(range n).findSome? (pZ n ps p))=none) ⟨⟨_,_,_,_,rfl⟩,Same.refl H,rfl⟩ (λi σ H' _ h=>SqT.of (h.2.1 _ _ e)) ?_ ?_
  ·rintro i x σ H1 hx ⟨⟨va,vb,vc,vd,rfl⟩,s1,n1⟩
   obtain⟨p,ep,ip⟩:=(hxs.same s1).get' hx
   rw[List.getElem?_map]at ep
   cases hpi:ps[i]? with
   |none=>rw[hpi]at ep;cases ep
   |some p0=>
   rw[hpi]at ep
   cases ep
   unfold aJ at ip
   cases ip with
   |@tup r ys _ er hys=>
   obtain rfl:=lU hys
   refine fK er rfl ?_
   walk_at"rd"
   refine⟨_,rfl,by lia,by lia,?_⟩
   rw[Int.toNat_natCast]
   refine eN (λc σ H'=>(∃vc vd,σ=[some (.int n),some (.ref a),some (.int p0.1),some (.int p0.2),vc,vd])/\Same H H'/\((range n).take c).findSome? (pZ n ps p0)=none) ⟨⟨_,_,rfl⟩,s1,rfl⟩ ?_ ?_
   ·rintro c σ H2 hc ⟨⟨vc,vd,rfl⟩,s2,n2⟩
    walk_at"rd"
    refine⟨_,rfl,by lia,by lia,?_⟩
    rw[Int.toNat_natCast]
    refine eN (λd σ H'=>(∃vd,σ=[some (.int n),some (.ref a),some (.int p0.1),some (.int p0.2),some (.int (0+c)),vd])/\Same H H'/\((range n).take d).findSome? (λ(d:Nat)=>if g7 ps p0.1 p0.2 c d=true then some [p0.1,p0.2,(c:Int),(d:Int)] else none)=none) ⟨⟨_,rfl⟩,s2,rfl⟩ ?_ ?_
    ·rintro d σ H3 hd ⟨⟨vd,rfl⟩,s3,n3⟩
     walk_at"rd"
     refine⟨_,ps,_,_,_,_,rfl,Is.same s3 (.tup e hxs),λH4 s4=>?_⟩
     rw[Int.zero_add,Int.zero_add]
     cases hf:g7 ps p0.1 p0.2 c d with
     |true=>
      walk_at"rd"
      refine⟨by show 5<=sizeLine;decide,λr3 hr3=>?_⟩
      have ef:f3 n ps=some [p0.1,p0.2,(c:Int),(d:Int)]:=mU n1 hpi (mU n2 (oN hc) (mU n3 (oN hd) (if_pos hf)))
      refine q _ _ ((s3.trans s4).trans (Same.upd hr3)) ?_
      rw[ef]
      exact .tup aC (.cons (.str _) (.cons (.int _) (.cons (.int _) (.cons (.int _) (.cons (.int _) .nil)))))
     |false=>
      walk_at"rd"
      exact⟨⟨_,rfl⟩,s3.trans s4,mT n3 (oN hd) (if_neg (by rw[hf];exact Bool.false_ne_true))⟩
    ·rintro σ H3 ⟨⟨vd,rfl⟩,s3,n3⟩
     exact⟨⟨_,_,rfl⟩,s3,mT n2 (oN hc) (DI n3)⟩
   ·rintro σ H2 ⟨⟨vc,vd,rfl⟩,s2,n2⟩
    exact⟨⟨_,_,_,_,rfl⟩,s2,mT n1 hpi (DI n2)⟩
  ·rintro σ H1 ⟨⟨va,vb,vc,vd,rfl⟩,s1,n1⟩
   rw[hl]at n1
   walk_at"rd"
   refine q _ H1 s1 ?_
   rw[show f3 n ps=none from wY n1]
   exact .non
noncomputable def j0(n:Nat)(ps:List (Int×Int)):PyData:=match f2 ps with
 |some l=>j8 "two" (some l)
 |none=>j8 "three" (f3 n ps)
inductive CS (vs:List V) (H:Hp) (Q:VK) (zz3:XK):Prop where
 |mk (x n ps:_) (zh0:vs=[x]) (zh1:Is H x (bZ n ps)) (zh2:Ord n ps) (zh3:∀v H',Same H H'->Is H' v (j0 n ps)->Q v H'):CS vs H Q zz3
theorem FD(T:aT K mg t):FnOk P w K mg base aU 6 t.zQ t.x9 ["order"] CS:=by
 refine T.AD.ok sc_bar (λvs H Q E h=>?_) (λcdv A outer s H vs Q E hr h=>?_)
 ·obtain⟨x,n,ps,rfl,_⟩:=h
  rfl
 ·obtain⟨x,n,ps,rfl,hx,ho,q⟩:=h
  refine⟨_,(aF (cR (aN (u7 T) (hr.mono (by decide)) rfl T.vQ T.qW.kp T.yV .nil aO (aA (pv 0) pa_nil)))
   (aF (bG (i:=1) sc_bar.nd rfl (Or.inl rfl) (aN (RX T) (hr.mono (by decide)) rfl T.T6 T.JN.kp T.ZQ .nil aO (aA (aQ (aR K) (pv 0) pe_int (λ_ _=>rfl)) pa_nil)))
   (aF (bL (bE mE (pv 1) pe_non (bA _)) (aD (bG (i:=1) sc_bar.nd rfl (Or.inl rfl) (aN (RY T) (hr.mono (by decide)) rfl T.T7 T.JO.kp T.ZR .nil aO (aA (aQ (aR K) (pv 0) pe_int (λ_ _=>rfl)) (aA (aQ (aR K) (pv 0) pe_int (λ_ _=>rfl)) pa_nil))))) bK)
   (aD (aK (pv 1)))))),?_⟩
  walk_at"rd"
  refine⟨_,_,rfl,hx,ho.okd,ho.yes,λH1 s1=>?_⟩
  obtain⟨a,b,xs,rfl,ea,eb,hxs⟩:=iL (hx.same s1)
  walk_at"rd"
  refine⟨_,ps,rfl,.tup eb hxs,λv H2 s2 iv=>?_⟩
  have ea2:=s2 _ _ ea
  have eb2:=s2 _ _ eb
  unfold j0 at q
  cases e2:f2 ps with
  |some l=>
   rw[e2]at iv q
   unfold j8 at iv
   cases iv with
   |@tup r ys _ er hys=>
   walk_at"rd"
   exact q _ H2 (s1.trans s2) (.tup er hys)
  |none=>
   rw[e2]at iv q
   unfold j8 at iv
   cases iv with
   |non=>
   walk_at"rd"
   refine⟨_,ps,n,rfl,ho.hi,.tup eb2 (hxs.same s2),λv H3 s3 iv=>?_⟩
   walk_at"rd"
   exact q v H3 ((s1.trans s2).trans s3) iv
noncomputable def qI(ps:List (Int×Int)):Bool:=ps.any λp=>ps.any λq=>g8 ps p.1 p.2 q.1 q.2
noncomputable def qH(n:Nat)(ps:List (Int×Int)):Bool:=ps.any λp=>(range n).any λc=>(range n).any λd=>g7 ps p.1 p.2 c d
noncomputable def bT(n:Nat)(ps:List (Int×Int)):Bool:=qI ps||qH n ps
theorem f2_none{ps:List (Int×Int)}:f2 ps=none<->qI ps=false:=by
 unfold f2 qI qA
 rw[List.findSome?_eq_none_iff,any_eq_false]
 refine forall_congr' λp=>forall_congr' λhp=>?_
 rw[List.findSome?_eq_none_iff,Bool.not_eq_true,any_eq_false]
 refine forall_congr' λq=>forall_congr' λhq=>?_
 cases g8 ps p.1 p.2 q.1 q.2 <;> simp
theorem f3_none{n:Nat}{ps:List (Int×Int)}:f3 n ps=none<->qH n ps=false:=by
 unfold f3 qH pZ
 rw[List.findSome?_eq_none_iff,any_eq_false]
 refine forall_congr' λp=>forall_congr' λhp=>?_
 rw[List.findSome?_eq_none_iff,Bool.not_eq_true,any_eq_false]
 refine forall_congr' λc=>forall_congr' λhc=>?_
 rw[List.findSome?_eq_none_iff,Bool.not_eq_true,any_eq_false]
 refine forall_congr' λd=>forall_congr' λhd=>?_
 cases g7 ps p.1 p.2 c d <;> simp
theorem IC{n:Nat}{ps:List (Int×Int)}(h:bT n ps=false):j0 n ps=.none:=by
 unfold bT at h
 rw[Bool.or_eq_false_iff]at h
 unfold j0
 rw[f2_none.mpr h.1,f3_none.mpr h.2]
 rfl
theorem ZB{n:Nat}{ps:List (Int×Int)}(h:bT n ps=true):∃ds,j0 n ps=.tuple ds:=by
 unfold bT at h
 unfold j0
 cases e2:f2 ps with
 |some l=>exact⟨_,rfl⟩
 |none=>
  rw[f2_none.mp e2,Bool.false_or]at h
  cases e3:f3 n ps with
  |some l=>exact⟨_,rfl⟩
  |none=>rw[f3_none.mp e3]at h;cases h
inductive rW (vs:List V) (H:Hp) (Q:VK) (zz3:XK):Prop where
 |mk (x n ps:_) (zh0:vs=[x]) (zh1:Is H x (bZ n ps)) (zh2:Ord n ps) (zh3:bT n ps=false) (zh4:∀H',Same H H'->Q .non H'):rW vs H Q zz3
theorem u6(T:aT K mg t):FnOk P w K mg base aU 7 t.nM t.nE ["order"] rW:=by
 refine T.nV.ok C4 (λvs H Q E h=>?_) (λcdv A outer s H vs Q E hr h=>?_)
 ·obtain⟨x,n,ps,rfl,_⟩:=h
  rfl
 ·obtain⟨x,n,ps,rfl,hx,ho,hb,q⟩:=h
  refine⟨_,(aD (bL (bE vD (aN (FD T) (hr.mono (by decide)) rfl T.FT T.AD.kp T.IF .nil aO (aA (pv 0) pa_nil)) pe_non (bA _)) (aD i7) bK)),?_⟩
  walk_at"rd"
  refine⟨x,n,ps,rfl,hx,ho,λv H' s' iv=>?_⟩
  rw[IC hb]at iv
  cases iv with
  |non=>
  walk_at"rd"
  exact q H' s'
inductive CF (vs:List V) (H:Hp) (Q:VK) (zz3:XK):Prop where
 |mk (x d:_) (zh0:vs=[x]) (zh1:Is H x d) (zh2:Q (.bl (bY d 1 999)) H):CF vs H Q zz3
theorem RS(T:aT K mg t):FnOk P w K mg base aU 2 t.zG t.xR ["value"] CF:=by
 refine T.JI.ok MN (λvs H Q E h=>?_) (λcdv A outer s H vs Q E hr h=>?_)
 ·obtain⟨x,d,rfl,_⟩:=h
  rfl
 ·obtain⟨x,d,rfl,hx,q⟩:=h
  refine⟨_,(aD (aK (aN (u8 T) (hr.mono (by decide)) rfl T.vR T.qX.kp T.yW .nil aO (aA (pv 0) (aA pe_int (aA (ER rfl T.YW) pa_nil)))))),?_⟩
  walk_at"rd"
  exact⟨_,_,_,_,rfl,hx,q⟩
noncomputable def FH(d:PyData)(a b:Int):Bool:=match d with| .tuple ds=>decide (a<=ds.length)&&decide ((ds.length:Int)<=b)&&ds.all (λd=>bY d 0 9999)|_=>false
inductive LS (vs:List V) (H:Hp) (Q:VK) (zz3:XK):Prop where
 |mk (x a b d:_) (zh0:vs=[x,.int a,.int b]) (zh1:Is H x d) (zh2:(∀ds,d=.tuple ds->ds.length<=1000)) (zh3:∀H',Same H H'->Q (.bl (FH d a b)) H'):LS vs H Q zz3
inductive B7 (vs:List V) (H:Hp) (Q:VK) (zz3:XK):Prop where
 |mk (x d:_) (zh0:vs=[x]) (zh1:Is H x d) (zh2:bY d 1 999=true) (zh3:Q .non H):B7 vs H Q zz3
theorem RM(T:aT K mg t):FnOk P w K mg base aU 3 t.y9 t.xK ["value"] B7:=by
 refine T.JE.ok MJ (λvs H Q E h=>?_) (λcdv A outer s H vs Q E hr h=>?_)
 ·obtain⟨x,d,rfl,_⟩:=h
  rfl
 ·obtain⟨x,d,rfl,hx,ho,q⟩:=h
  refine⟨_,(aD (bL (eZ (dA (aN (RS T) (hr.mono (by decide)) rfl T.T1 T.JI.kp T.ZL .nil aO (aA (pv 0) pa_nil)))) (aD i7) bK)),?_⟩
  walk_at"rd"
  refine⟨_,_,rfl,hx,?_⟩
  rw[ho]
  walk_at"rd"
  exact q
inductive LQ (vs:List V) (H:Hp) (Q:VK) (zz3:XK):Prop where
 |mk (x a b d:_) (zh0:vs=[x,.int a,.int b]) (zh1:Is H x d) (zh2:(∀ds,d=.tuple ds->ds.length<=1000)) (zh3:FH d a b=true) (zh4:∀H',Same H H'->Q .non H'):LQ vs H Q zz3
noncomputable def dU(ps:List (Int×Int))(st i j:Int):Option Int:=if has ps i j=true then some st else if has ps j i=true then none else some (1-st)
noncomputable def oV:Option Int->V
 |some k=>.int k
 |none=>.non
inductive CN (vs:List V) (H:Hp) (Q:VK) (zz3:XK):Prop where
 |mk (x ps st i j:_) (zh0:vs=[x,.int st,.int i,.int j]) (zh1:Is H x (.tuple (ps.map aJ))) (zh2:∀H',Same H H'->Q (oV (dU ps st i j)) H'):CN vs H Q zz3
theorem RZ(T:aT K mg t):FnOk P w K mg base aU 1 t.zN t.xY ["pairs","step","one","other"] CN:=by
 refine T.JP.ok MQ (λvs H Q E h=>?_) (λcdv A outer s H vs Q E hr h=>?_)
 ·obtain⟨x,ps,st,i,j,rfl,_⟩:=h
  rfl
 ·obtain⟨x,ps,st,i,j,rfl,hx,q⟩:=h
  refine⟨_,(aF (bL (bE (jT hr.units) (bI (aA (pv 2) (aA (pv 3) pa_nil))) (pv 0) (by rfl)) (aD (aK (pv 1))) bK)
   (aF (bL (bE (jT hr.units) (bI (aA (pv 3) (aA (pv 2) pa_nil))) (pv 0) (by rfl)) (aD (aK pe_non)) bK)
   (aD (aK (aY kI pe_int (pv 1)))))),?_⟩
  unfold dU at q
  walk_at"rd"
  refine⟨c8,λp1 hp1=>?_⟩
  have s1:=Same.upd (o:=.tup [.int i,.int j]) hp1
  walk_at"rd"
  refine i5 aC (hx.same s1) ?_
  walk_at"rd"
  refine bS (λh1=>?_) (λh1=>?_)
  ·walk_at"rd"
   have q':=q _ s1
   rw[if_pos h1]at q'
   exact q'
  ·rw[h1]at q
   walk_at"rd"
   refine⟨c8,λp2 hp2=>?_⟩
   walk_at"rd"
   refine i5 aC (hx.same (s1.trans (Same.upd hp2))) ?_
   walk_at"rd"
   refine bS (λh2=>?_) (λh2=>?_)
   ·rw[h2]at q
    walk_at"rd"
    exact q _ (s1.trans (Same.upd hp2))
   ·rw[h2]at q
    walk_at"rd"
    exact q _ (s1.trans (Same.upd hp2))
noncomputable abbrev Dm:=Nat×Nat×Int
noncomputable def hZ(d:Dm):PyData:=.tuple [.int d.1,.int d.2.1,.int d.2.2]
noncomputable def eO(ps:List (Int×Int))(st:Int)(i j:Nat):List Dm:=if i=j then[] else match dU ps st i j with|some k=>[(i,j,k)]|none=>[]
noncomputable def fV(ps:List (Int×Int))(st:Int)(i m:Nat):List Dm:=(range m).flatMap (eO ps st i)
noncomputable def dI(n:Nat)(ps:List (Int×Int))(st:Int)(m:Nat):List Dm:=(range m).flatMap λi=>fV ps st i n
theorem XL(ps:List (Int×Int))(st:Int)(i j:Nat):(eO ps st i j).length<=1:=by
 unfold eO
 split
 ·exact Nat.zero_le _
 ·split
  ·exact Nat.le_refl _
  ·exact Nat.zero_le _
theorem HF(ps:List (Int×Int))(st:Int)(i m:Nat):fV ps st i (m+1)=fV ps st i m++eO ps st i m:=by
 unfold fV
 rw[range_succ,flatMap_append]
 simp
theorem HG(n:Nat)(ps:List (Int×Int))(st:Int)(m:Nat):dI n ps st (m+1)=dI n ps st m++fV ps st m n:=by
 unfold dI
 rw[range_succ,flatMap_append]
 simp
theorem xA(ps:List (Int×Int))(st:Int)(i:Nat):∀m,(fV ps st i m).length<=m
 |0=>Nat.le_refl _
 |m+1=>by
  rw[HF,length_append]
  have:=xA ps st i m
  have:=XL ps st i m
  lia
theorem HH(n:Nat)(ps:List (Int×Int))(st:Int):∀m,(dI n ps st m).length<=m*n
 |0=>Nat.zero_le _
 |m+1=>by
  rw[HG,length_append,Nat.succ_mul]
  have:=HH n ps st m
  have:=xA ps st m n
  lia
theorem vG:∀ds:List Dm,bR (ds.map hZ)=true
 |[]=>rfl
 |d::ds=>by
  rw[map_cons,bR,vG ds]
  rfl
theorem pU{H:Hp}{l p:Addr}{xs ys:List V}{d:PyData}{ds:List PyData}(hn:bR ds=true)(hl:H l=some (.lst xs))(hp:H p=none)(h:IsAll H xs ds)(hd:Is (upd (upd H p (.tup ys)) l (.lst (xs++[.ref p]))) (.ref p) d):
  IsAll (upd (upd H p (.tup ys)) l (.lst (xs++[.ref p]))) (xs++[.ref p]) (ds++[d]):=by
 refine IsAll.snoc (h.tmono (λa zs e=>?_) hn) hd
 have h1:a≠l:=gT e hl (by intro z;cases z)
 have h2:a≠p:=aS e hp
 rw[aE h1,aE h2]
 exact e
inductive CU (vs:List V) (H:Hp) (Q:VK) (zz3:XK):Prop where
 |mk (x n ps st:_) (zh0:vs=[x,.int st]) (zh1:Is H x (bZ n ps)) (zh2:n<=8) (zh3:∀l xs H',Same H H'->H l=none->H' l=some (.lst xs)->IsAll H' xs ((dI n ps st n).map hZ)->Q (.ref l) H'):CU vs H Q zz3
theorem R5(T:aT K mg t):FnOk P w K mg base aU 2 t.zR t.yA ["order","step"] CU:=by
 refine T.JS.ok sc_all_demands (λvs H Q E h=>?_) (λcdv A outer s H vs Q E hr h=>?_)
 ·obtain⟨x,n,ps,st,rfl,_⟩:=h
  rfl
 ·obtain⟨x,n,ps,st,rfl,hx,hn,q⟩:=h
  refine⟨_,(aF (bG (i:=2) sc_all_demands.nd rfl (Or.inl rfl) (cT pa_nil))
   (aF (bW PassesOwn.never rfl (cS rfl T.cQ (aA (aQ (aR K) (pv 0) pe_int (λ_ _=>rfl)) pa_nil)) (aP (i:=3) sc_all_demands.nd rfl (Or.inl rfl)) (aD (bW PassesOwn.never rfl (cS rfl T.cQ (aA (aQ (aR K) (pv 0) pe_int (λ_ _=>rfl)) pa_nil)) (aP (i:=4) sc_all_demands.nd rfl (Or.inl rfl)) (aF (bG (i:=5) sc_all_demands.nd rfl (Or.inl rfl) (aN (RZ T) (hr.mono (by decide)) rfl T.T8 T.JP.kp T.ZS .nil aO (aA (aQ (aR K) (pv 0) pe_int (λ_ _=>rfl)) (aA (pv 1) (aA (pv 3) (aA (pv 4) pa_nil))))))
   (aD (bL (PW.pt (l7 (bE (fQ hr.units) (pv 3) (pv 4) (bA _)) (l6 (bE vD (pv 5) pe_non (bA _))))) (aD (cR (fU K PySem.F.plainAttrs_list PySem.F.slot_list_append PySem.F.type_list_append jU (pv 2) (aA (bI (aA (pv 3) (aA (pv 4) (aA (pv 5) pa_nil)))) pa_nil)))) bK))))))
   (aD (aK (pv 2))))),?_⟩
  obtain⟨a,b,xs,rfl,ea,eb,hxs⟩:=iL hx
  walk_at"rd"
  refine⟨Nat.zero_le _,λl hl=>?_⟩
  have s0:=Same.upd (o:=.lst []) hl
  have ea0:=s0 _ _ ea
  walk_at"rd"
  refine⟨_,rfl,by lia,by lia,?_⟩
  rw[Int.toNat_natCast]
  refine eN (λi σ H'=>(∃va vb vc,σ=[some (.ref a),some (.int st),some (.ref l),va,vb,vc])/\Same H H'/\∃zs,H' l=some (.lst zs)/\IsAll H' zs ((dI n ps st i).map hZ)) ⟨⟨_,_,_,rfl⟩,s0,[],aC,.nil⟩ ?_ ?_
  ·rintro i σ H1 hi ⟨⟨va,vb,vc,rfl⟩,s1,zs,hz,iz⟩
   have ea1:=s1 _ _ ea
   walk_at"rd"
   refine⟨_,rfl,by lia,by lia,?_⟩
   rw[Int.toNat_natCast]
   refine eN (λj σ H'=>(∃vb vc,σ=[some (.ref a),some (.int st),some (.ref l),some (.int (0+i)),vb,vc])/\Same H H'/\∃zs,H' l=some (.lst zs)/\IsAll H' zs ((dI n ps st i++fV ps st i j).map hZ)) ⟨⟨_,_,rfl⟩,s1,zs,hz,by simpa[fV]using iz⟩ ?_ ?_
   ·rintro j σ H2 hj ⟨⟨vb,vc,rfl⟩,s2,zs2,hz2,iz2⟩
    have ea2:=s2 _ _ ea
    have eb2:=s2 _ _ eb
    walk_at"rd"
    refine⟨_,ps,_,_,_,rfl,Is.same s2 (.tup eb hxs),λH3 s3=>?_⟩
    have hz3:=s3 _ _ hz2
    have iz3:=iz2.same s3
    rw[Int.zero_add,Int.zero_add]
    have dE:dI n ps st i++fV ps st i (j+1)=dI n ps st i++fV ps st i j++eO ps st i j:=by rw[HF,append_assoc]
    rw[dE]
    walk_at"rd"
    refine bS (λh1=>?_) (λh1=>?_)
    ·have hij:i≠j:=by intro z;subst z;simp at h1
     walk_at"rd"
     cases hd:dU ps st i j with
     |none=>
      rw[show oV none=V.non from rfl]
      walk_at"rd"
      refine⟨⟨_,_,rfl⟩,s2.trans s3,zs2,hz3,?_⟩
      simpa[eO,hij,hd]using iz3
     | some k=>
      rw[show oV (some k)=V.int k from rfl]
      walk_at"rd"
      refine⟨fJ hz3,?_⟩
      walk_at"rd"
      refine⟨by show 3<=sizeLine;decide,λp hp=>?_⟩
      have hlp:l≠p:=aS hz3 hp
      have hlen:zs2.length<=8*8+8:=by
       rw[iz2.length,length_map,length_append]
       have h1:=HH n ps st i
       have h2:=xA ps st i j
       have h3:i*n<=8*8:=Nat.mul_le_mul (by lia) hn
       lia
      walk_at"rd"
      refine jL (xs:=zs2) ?_ (gJ (by lia)) ?_
      ·rw[aE hlp]
       exact hz3
      walk_at"rd"
      refine⟨⟨_,_,rfl⟩,λc u e=>?_,_,aC,?_⟩
      ·have e3:=(s2.trans s3) c u e
       rw[aE (aS e hl),aE (aS e3 hp)]
       exact e3
      ·have e1:eO ps st i j=[(i,j,k)]:=by simp[eO,hij,hd]
       rw[e1,map_append]
       refine pU (vG _) hz3 hp iz3 (.tup ?_ (.cons (.int _) (.cons (.int _) (.cons (.int _) .nil))))
       rw[aE (Ne.symm hlp),aC]
    ·have hij:i=j:=by
      have h1':((i:Int)==(j:Int))=true:=by simpa using h1
      have:=eq_of_beq h1'
      lia
     walk_at"rd"
     refine⟨⟨_,_,rfl⟩,s2.trans s3,zs2,hz3,?_⟩
     simpa[eO,hij]using iz3
   ·rintro σ H2 ⟨⟨vb,vc,rfl⟩,s2,zs2,hz2,iz2⟩
    exact⟨⟨_,_,_,rfl⟩,s2,zs2,hz2,by rw[HG];exact iz2⟩
  ·rintro σ H1 ⟨⟨va,vb,vc,rfl⟩,s1,zs,hz,iz⟩
   walk_at"rd"
   exact q l zs H1 s1 hl hz iz
noncomputable abbrev Rs:=List Int×List V×V
noncomputable def aM(s:Rs)(d:Dm):Rs:=if s.1.getD d.1 0+d.2.2>s.1.getD d.2.1 0 then(s.1.set d.2.1 (s.1.getD d.1 0+d.2.2),s.2.1.set d.2.1 (.int d.1),.int d.2.1) else s
noncomputable def bH(ds:List Dm)(vals:List Int)(orgs:List V):Rs:=ds.foldl aM (vals,orgs,.non)
theorem oO(s:Rs)(d:Dm):(aM s d).1.length=s.1.length/\(aM s d).2.1.length=s.2.1.length:=by
 unfold aM
 split
 ·simp
 ·exact⟨rfl,rfl⟩
theorem GV:∀(ds:List Dm)(s:Rs),(ds.foldl aM s).1.length=s.1.length/\(ds.foldl aM s).2.1.length=s.2.1.length
 |[],s=>⟨rfl,rfl⟩
 |d::ds,s=>by
  rw[foldl_cons]
  have h:=GV ds (aM s d)
  have g:=oO s d
  exact⟨h.1.trans g.1,h.2.trans g.2⟩
noncomputable def SameB(v o:Addr)(H H':Hp):Prop:=∀b u,H b=some u->b≠v->b≠o->H' b=some u
structure lJ (H:Hp) (v o:Addr) (vals:List Int) (orgs:List V) (n:Nat):Prop where
 hv:H v=some (.lst (vals.map V.int))
 ho:H o=some (.lst orgs)
 lv:vals.length=n
 lo:orgs.length=n
noncomputable def cL(n:Nat)(ds:List Dm):Prop:=∀d∈ds,d.1<n/\d.2.1<n
theorem LB{H:Hp}{xs:List V}{a b c:Int}(h:IsAll H xs [.int a,.int b,.int c]):xs=[.int a,.int b,.int c]:=by
 cases h with
 | cons h1 t=>
  cases h1
  cases t with
  | cons h2 t2=>
   cases h2
   cases t2 with
   |cons h3 t3=>
    cases h3
    cases t3
    rfl
theorem K7{H:Hp}{xs:List V}{ds:List Dm}{i:Nat}{x:V}(h:IsAll H xs (ds.map hZ))(e:xs[i]? =some x):∃d r,ds[i]? =some d/\x=.ref r/\H r=some (.tup [.int d.1,.int d.2.1,.int d.2.2]):=by
 obtain⟨d,ed,id⟩:=h.get' e
 rw[List.getElem?_map]at ed
 cases hd:ds[i]? with
 |none=>rw[hd]at ed;cases ed
 | some d0=>
  rw[hd]at ed
  cases ed
  unfold hZ at id
  cases id with
  |@tup r ys _ er hys=>
   rw[LB hys]at er
   exact⟨d0,r,rfl,rfl,er⟩
theorem SameB.refl{v o:Addr}(H:Hp):SameB v o H H:=λ_ _ h _ _=>h
theorem SameB.trans{v o:Addr}{H H1 H2:Hp}(a:SameB v o H H1)(b:SameB v o H1 H2):SameB v o H H2:=λc u h h1 h2=>b c u (a c u h h1 h2) h1 h2
inductive BW (vs:List V) (H:Hp) (Q:VK) (zz3:XK):Prop where
 |mk (l v o ds vals orgs n xs:_) (zh0:vs=[.ref l,.ref v,.ref o]) (zh1:H l=some (.lst xs)) (zh2:IsAll H xs (ds.map hZ)) (zh3:lJ H v o vals orgs n) (zh4:l≠v) (zh5:l≠o) (zh6:v≠o) (zh7:cL n ds) (zh8:∀H',SameB v o H H'->lJ H' v o (bH ds vals orgs).1 (bH ds vals orgs).2.1 n->Q (bH ds vals orgs).2.2 H'):BW vs H Q zz3
theorem iP{vals:List Int}{i:Nat}(hi:i<vals.length):(vals.map V.int)[i]? =some (.int (vals.getD i 0)):=by
 rw[List.getElem?_map]
 simp[hi]
theorem sC(vals:List Int)(i:Nat)(k:Int):(vals.map V.int).set i (.int k)=(vals.set i k).map V.int:=by
 rw[List.map_set]
theorem RI(T:aT K mg t):FnOk P w K mg base aU 1 t.y0 t.xE ["demands","values","origins"] BW:=by
 refine T.JA.ok sc_raise_once (λvs H Q E h=>?_) (λcdv A outer s H vs Q E hr h=>?_)
 ·obtain⟨l,v,o,ds,vals,orgs,n,xs,rfl,_⟩:=h
  rfl
 ·obtain⟨l,v,o,ds,vals,orgs,n,xs,rfl,hl,hxs,V0,nlv,nlo,nvo,hds,q⟩:=h
  refine⟨_,(aF (bG (i:=3) sc_raise_once.nd rfl (Or.inl rfl) pe_non)
   (aF (bW PassesOwn.never rfl (fS K (pv 0)) (fT K rfl (cF (aP (i:=4) sc_raise_once.nd rfl (Or.inl rfl)) (cF (aP (i:=5) sc_raise_once.nd rfl (Or.inl rfl)) (cF (aP (i:=6) sc_raise_once.nd rfl (Or.inl rfl)) fM)))) (aD (bL (bE (u0) (aY c6 (aQ (aR K) (pv 1) (pv 4) (λ_ _=>rfl)) (pv 6)) (aQ (aR K) (pv 1) (pv 5) (λ_ _=>rfl)) (bA _)) (aF (uU (aY c6 (aQ (aR K) (pv 1) (pv 4) (λ_ _=>rfl)) (pv 6)) (uW (pv 1) (pv 5) sD (λ_=>rfl)))
   (aF (uU (pv 4) (uW (pv 2) (pv 5) sD (λ_=>rfl)))
   (aD (bG (i:=3) sc_raise_once.nd rfl (Or.inl rfl) (pv 5))))) bK)))
   (aD (aK (pv 3))))),?_⟩
  have hlen:xs.length=ds.length:=by rw[hxs.length,length_map]
  walk_at"rd"
  refine⟨l,rfl,⟨xs,SqL.of hl⟩,?_⟩
  refine mV (K:=K) (xs:=xs) (λi σ H'=>(∃va vb vc,σ=[some (.ref l),some (.ref v),some (.ref o),some ((ds.take i).foldl aM (vals,orgs,.non)).2.2,va,vb,vc])/\SameB v o H H'/\lJ H' v o ((ds.take i).foldl aM (vals,orgs,.non)).1 ((ds.take i).foldl aM (vals,orgs,.non)).2.1 n)
   ⟨⟨_,_,_,rfl⟩,SameB.refl H,V0⟩ (λi σ H' _ h=>SqL.of (h.2.1 _ _ hl nlv nlo)) ?_ ?_
  ·rintro i x σ H1 hx ⟨⟨va,vb,vc,rfl⟩,s1,V1⟩
   obtain⟨d,r,ed,rfl,er0⟩:=K7 hxs hx
   have er:H1 r=some (.tup [.int d.1,.int d.2.1,.int d.2.2]):=s1 r _ er0 (gT er0 V0.hv (by intro z;cases z)) (gT er0 V0.ho (by intro z;cases z))
   obtain⟨hd1,hd2⟩:=hds d (List.mem_of_getElem? ed)
   have e1:(ds.take (i+1)).foldl aM (vals,orgs,V.non)=aM ((ds.take i).foldl aM (vals,orgs,V.non)) d:=by
    rw[take_add_one,ed,List.foldl_append]
    rfl
   rw[e1]
   generalize hS:(ds.take i).foldl aM (vals,orgs,V.non)=S at V1 ⊢
   obtain⟨hv1,ho1,lv1,lo1⟩:=id V1
   refine fK er rfl ?_
   walk_at"rd"
   refine gL hv1 (atI_of rfl (iP (by rw[lv1];exact hd1))) ?_
   walk_at"rd"
   refine gL hv1 (atI_of rfl (iP (by rw[lv1];exact hd2))) ?_
   walk_at"rd"
   unfold aM
   refine bS (λh1=>?_) (λh1=>?_)
   ·have h1':=of_decide_eq_true h1
    rw[if_pos h1']
    walk_at"rd"
    refine gL hv1 (atI_of rfl (iP (by rw[lv1];exact hd1))) ?_
    walk_at"rd"
    refine uC hv1 rfl (by rw[length_map,lv1];exact hd2) ?_
    walk_at"rd"
    refine uC (xs:=S.2.1) (by rw[aE (Ne.symm nvo)];exact ho1) rfl (by rw[lo1];exact hd2) ?_
    walk_at"rd"
    refine⟨⟨_,_,_,rfl⟩,λb u e n1 n2=>?_,?_,aC,by rw[length_set];exact lv1,by rw[length_set];exact lo1⟩
    ·rw[aE n2,aE n1]
     exact s1 b u e n1 n2
    ·rw[aE nvo,aC,sC]
   ·have h1':=of_decide_eq_false h1
    rw[if_neg h1']
    walk_at"rd"
    exact⟨⟨_,_,_,rfl⟩,s1,V1⟩
  ·rintro σ H1 ⟨⟨va,vb,vc,rfl⟩,s1,V1⟩
   rw[hlen,take_length]at V1 ⊢
   walk_at"rd"
   exact q H1 s1 V1
theorem tX(ds:List Dm)(vals:List Int)(orgs:List V):(bH ds vals orgs).1.length=vals.length/\(bH ds vals orgs).2.1.length=orgs.length:=GV ds _
noncomputable def bB(ds:List Dm):Nat->List Int->List V->V->Rs
 |0,vals,orgs,r=>(vals,orgs,r)
 |k+1,vals,orgs,_=>if(bH ds vals orgs).2.2=.non then((bH ds vals orgs).1,(bH ds vals orgs).2.1,.non) else bB ds k (bH ds vals orgs).1 (bH ds vals orgs).2.1 (bH ds vals orgs).2.2
theorem ND(s:Rs)(d:Dm)(h:s.2.2=.non\/∃k,s.2.2=.int k):(aM s d).2.2=.non\/∃k,(aM s d).2.2=.int k:=by
 unfold aM
 split
 ·exact .inr ⟨_,rfl⟩
 ·exact h
theorem GT:∀(ds:List Dm)(s:Rs),(s.2.2=.non\/∃k,s.2.2=.int k)->((ds.foldl aM s).2.2=.non\/∃k,(ds.foldl aM s).2.2=.int k)
 |[],s,h=>h
 |d::ds,s,h=>by
  rw[foldl_cons]
  exact GT ds _ (ND s d h)
theorem MZ(ds:List Dm)(vals:List Int)(orgs:List V):(bH ds vals orgs).2.2=.non\/∃k,(bH ds vals orgs).2.2=.int k:=GT ds _ (.inl rfl)
inductive BX (vs:List V) (H:Hp) (Q:VK) (zz3:XK):Prop where
 |mk (l v o ds vals orgs n xs:_) (zh0:vs=[.ref l,.ref v,.ref o]) (zh1:n<=8) (zh2:H l=some (.lst xs)) (zh3:IsAll H xs (ds.map hZ)) (zh4:lJ H v o vals orgs n) (zh5:l≠v) (zh6:l≠o) (zh7:v≠o) (zh8:cL n ds) (zh9:∀H',SameB v o H H'->lJ H' v o (bB ds n vals orgs .non).1 (bB ds n vals orgs .non).2.1 n->Q (bB ds n vals orgs .non).2.2 H'):BX vs H Q zz3
theorem RJ(T:aT K mg t):FnOk P w K mg base aU 2 t.y3 t.xF ["demands","values","origins"] BX:=by
 refine T.JB.ok sc_raise_all (λvs H Q E h=>?_) (λcdv A outer s H vs Q E hr h=>?_)
 ·obtain⟨l,v,o,ds,vals,orgs,n,xs,rfl,_⟩:=h
  rfl
 ·obtain⟨l,v,o,ds,vals,orgs,n,xs,rfl,hn,hl,hxs,V0,nlv,nlo,nvo,hds,q⟩:=h
  refine⟨_,(aF (bG (i:=3) sc_raise_all.nd rfl (Or.inl rfl) pe_non)
   (aF (bW PassesOwn.never rfl (cS rfl T.cQ (aA (aZ (dG K) (by rfl) T.dB dJ (aA (pv 1) pa_nil)) pa_nil)) (aP (i:=4) sc_raise_all.nd rfl (Or.inl rfl)) (aF (bG (i:=3) sc_raise_all.nd rfl (Or.inl rfl) (aN (RI T) (hr.mono (by decide)) rfl T.TQ T.JA.kp T.ZD .nil aO (aA (pv 0) (aA (pv 1) (aA (pv 2) pa_nil)))))
   (aD (bL (bE mE (pv 3) pe_non (bA _)) (aD (aK pe_non)) bK))))
   (aD (aK (pv 3))))),?_⟩
  have hv0:=V0.hv
  have hlv:(vals.map V.int).length=n:=by rw[length_map];exact V0.lv
  walk_at"rd"
  refine⟨_,rfl,by lia,by lia,?_⟩
  rw[hlv,Int.toNat_natCast]
  refine eN (λi σ H'=>i<=n/\SameB v o H H'/\∃vals' orgs' r va,σ=[some (.ref l),some (.ref v),some (.ref o),some r,va]/\lJ H' v o vals' orgs' n/\bB ds (n-i) vals' orgs' r=bB ds n vals orgs .non)
   ⟨Nat.zero_le _,SameB.refl H,vals,orgs,.non,_,rfl,V0,rfl⟩ ?_ ?_
  ·rintro i σ H1 hi ⟨_,s1,vals',orgs',r,va,rfl,V1,hR⟩
   walk_at"rd"
   refine⟨l,v,o,ds,vals',orgs',n,xs,rfl,s1 _ _ hl nlv nlo,?_,V1,nlv,nlo,nvo,hds,λH2 s2 V2=>?_⟩
   ·refine hxs.tmono (λa zs e=>s1 a _ e ?_ ?_) (vG _)
    ·exact gT e V0.hv (by intro z;cases z)
    ·exact gT e V0.ho (by intro z;cases z)
   have ek:n-i=(n-(i+1))+1:=by lia
   rw[ek,bB]at hR
   rcases MZ ds vals' orgs' with hr0|⟨k,hr0⟩
   ·rw[hr0]at hR ⊢
    rw[if_pos rfl]at hR
    rw[<-hR]at q
    walk_at"rd"
    exact q H2 (s1.trans s2) V2
   ·rw[hr0]at hR ⊢
    rw[if_neg (by intro z;cases z)]at hR
    walk_at"rd"
    exact⟨hi,s1.trans s2,_,_,_,_,rfl,V2,hR⟩
  ·rintro σ H1 ⟨_,s1,vals',orgs',r,va,rfl,V1,hR⟩
   rw[Nat.sub_self,bB]at hR
   walk_at"rd"
   rw[<-hR]at q
   exact q H1 s1 V1
noncomputable def lv(n:Nat)(ds:List Dm):Option (List Int):=if(bB ds n (replicate n 0) (replicate n .non) .non).2.2=.non then some (bB ds n (replicate n 0) (replicate n .non) .non).1 else none
noncomputable def AG(Q:VK)(H':Hp):Option (List Int)->Prop
 |none=>Q .non H'
 |some vals=>∀p,H' p=some (.tup (vals.map V.int))->Q (.ref p) H'
inductive CA (vs:List V) (H:Hp) (Q:VK) (zz3:XK):Prop where
 |mk (l ds n xs:_) (zh0:vs=[.int (n:Nat),.ref l]) (zh1:n<=8) (zh2:H l=some (.lst xs)) (zh3:IsAll H xs (ds.map hZ)) (zh4:cL n ds) (zh5:∀H',Same H H'->AG Q H' (lv n ds)):CA vs H Q zz3
theorem NB(n:Nat):replicate n (V.int 0)=(replicate n (0:Int)).map V.int:=by rw[List.map_replicate]
theorem RO(T:aT K mg t):FnOk P w K mg base aU 3 t.zB t.xM ["many","demands"] CA:=by
 refine T.JF.ok sc_least_values (λvs H Q E h=>?_) (λcdv A outer s H vs Q E hr h=>?_)
 ·obtain⟨l,ds,n,xs,rfl,_⟩:=h
  rfl
 ·obtain⟨l,ds,n,xs,rfl,hn,hl,hxs,hds,q⟩:=h
  refine⟨_,(aF (bG (i:=2) sc_least_values.nd rfl (Or.inl rfl) (aY mB (cT (aA pe_int pa_nil)) (pv 0)))
   (aF (bL (bE mE (aN (RJ T) (hr.mono (by decide)) rfl T.TR T.JB.kp T.ZE .nil aO (aA (pv 1) (aA (pv 2) (aA (aY mB (cT (aA pe_non pa_nil)) (pv 0)) pa_nil)))) pe_non (bA _)) (aD (aK (iC (wB K) (by rfl) T.kL lF (aA (pv 2) pa_nil)))) bK)
   (aD (aK pe_non)))),?_⟩
  walk_at"rd"
  refine⟨by show 1<=sizeLine;decide,λp1 hp1=>?_⟩
  have s1:=Same.upd (o:=.lst [V.int 0]) hp1
  walk_at"rd"
  refine kC aC (by lia) λv hv=>?_
  have s2:=s1.trans (Same.upd (o:=.lst (replicate n (V.int 0))) hv)
  walk_at"rd"
  refine⟨by show 1<=sizeLine;decide,λp2 hp2=>?_⟩
  have s3:=s2.trans (Same.upd (o:=.lst [V.non]) hp2)
  walk_at"rd"
  refine kC aC (by lia) λo ho=>?_
  walk_at"rd"
  generalize hG:upd (upd (upd (upd H p1 (.lst [V.int 0])) v (.lst (replicate n (V.int 0)))) p2 (.lst [V.non])) o (.lst (replicate n V.non))=G at *
  have s4:Same H G:=by rw[<-hG];exact s3.trans (Same.upd ho)
  have nvp:v≠p2:=aS aC hp2
  have nvo:v≠o:=by
   refine aS (o:=.lst (replicate n (V.int 0))) ?_ ho
   rw[aE nvp,aC]
  have gv:G v=some (.lst ((replicate n (0:Int)).map V.int)):=by rw[<-hG,aE nvo,aE nvp,aC,NB]
  have go:G o=some (.lst (replicate n V.non)):=by rw[<-hG,aC]
  have nlv:l≠v:=by
   intro z
   subst z
   rw[s1 _ _ hl]at hv
   cases hv
  have nlo:l≠o:=by
   intro z
   subst z
   rw[s3 _ _ hl]at ho
   cases ho
  refine⟨l,v,o,ds,_,_,n,xs,rfl,hn,s4 _ _ hl,hxs.same s4,⟨gv,go,length_replicate,length_replicate⟩,nlv,nlo,nvo,hds,λH' s5 V5=>?_⟩
  have sH:Same H H':=λb u e=>by
   refine s5 b u (s4 b u e) ?_ ?_
   ·intro z;subst z;rw[s1 _ _ e]at hv;cases hv
   ·intro z;subst z;rw[s3 _ _ e]at ho;cases ho
  unfold lv at q
  have hv5:=V5.hv
  rcases(show(bB ds n (replicate n 0) (replicate n .non) .non).2.2=.non\/¬(bB ds n (replicate n 0) (replicate n .non) .non).2.2=.non from Classical.em _) with hz|hz
  ·rw[hz]
   rw[if_pos hz]at q
   walk_at"rd"
   intro p hp
   walk_at"rd"
   have q':=q _ (sH.trans (Same.upd (o:=.tup ((bB ds n (replicate n 0) (replicate n .non) .non).1.map V.int)) hp))
   exact q' p aC
  ·rw[if_neg hz]at q
   walk_at"rd"
   refine fD (decide_eq_false hz) ?_
   walk_at"rd"
   exact q H' sH
theorem XJ{n:Nat}{ps:List (Int×Int)}{st:Int}{i j:Nat}(hi:i<n)(hj:j<n):cL n (eO ps st i j):=by
 intro d hd
 unfold eO at hd
 split at hd
 ·cases hd
 ·split at hd
  ·rcases mem_singleton.mp hd with rfl
   exact⟨hi,hj⟩
  ·cases hd
theorem lD(n:Nat)(ps:List (Int×Int))(st:Int):cL n (dI n ps st n):=by
 intro d hd
 obtain⟨i,hi,hd⟩:=mem_flatMap.mp hd
 obtain⟨j,hj,hd⟩:=mem_flatMap.mp hd
 exact XJ (mem_range.mp hi) (mem_range.mp hj) d hd
noncomputable def cJ(n:Nat)(ps:List (Int×Int))(st:Int):Option (List Int):=lv n (dI n ps st n)
theorem LK{st:Int}(h1:1<=st)(h2:st<=999):bY (.int st) 1 999=true:=by
 show(decide (1<=st)&&decide (st<=999))=true
 simp[h1,h2]
inductive B5 (vs:List V) (H:Hp) (Q:VK) (zz3:XK):Prop where
 |mk (x n ps st:_) (zh0:vs=[x,.int st]) (zh1:Is H x (bZ n ps)) (zh2:Ord n ps) (zh3:1<=st) (zh4:st<=999) (zh5:∀H',Same H H'->AG Q H' (cJ n ps st)):B5 vs H Q zz3
theorem FB(T:aT K mg t):FnOk P w K mg base aU 6 t.y7 t.xI ["order","step"] B5:=by
 refine T.AA.ok MH (λvs H Q E h=>?_) (λcdv A outer s H vs Q E hr h=>?_)
 ·obtain⟨x,n,ps,st,rfl,_⟩:=h
  rfl
 ·obtain⟨x,n,ps,st,rfl,hx,ho,h1,h2,q⟩:=h
  refine⟨_,(aF (cR (aN (u7 T) (hr.mono (by decide)) rfl T.vQ T.qW.kp T.yV .nil aO (aA (pv 0) pa_nil)))
   (aF (cR (aN (RM T) (hr.mono (by decide)) rfl T.TW T.JE.kp T.ZH .nil aO (aA (pv 1) pa_nil)))
   (aD (aK (aN (RO T) (hr.mono (by decide)) rfl T.TY T.JF.kp T.ZJ .nil aO (aA (aQ (aR K) (pv 0) pe_int (λ_ _=>rfl)) (aA (aN (R5 T) (hr.mono (by decide)) rfl T.UB T.JS.kp T.ZV .nil aO (aA (pv 0) (aA (pv 1) pa_nil))) pa_nil))))))),?_⟩
  walk_at"rd"
  refine⟨_,_,rfl,hx,ho.okd,ho.yes,λH1 s1=>?_⟩
  walk_at"rd"
  refine⟨_,_,rfl,.int st,LK h1 h2,?_⟩
  obtain⟨a,b,xs,rfl,ea,eb,hxs⟩:=iL (hx.same s1)
  walk_at"rd"
  refine⟨_,n,ps,st,rfl,hx.same s1,ho.hi,λl ys H2 s2 hl hl2 hys=>?_⟩
  walk_at"rd"
  exact⟨l,_,n,ys,rfl,ho.hi,hl2,hys,lD n ps st,λH3 s3=>q H3 ((s1.trans s2).trans s3)⟩
inductive CB (vs:List V) (H:Hp) (Q:VK) (zz3:XK):Prop where
 |mk (x n ps st vals:_) (zh0:vs=[x]) (zh1:Is H x (bZ n ps)) (zh2:Ord n ps) (zh3:bT n ps=false) (zh4:1<=st) (zh5:st<=999) (zh6:cJ n ps st=some vals) (zh7:(∀s',1<=s'->s'<st->cJ n ps s'=none)) (zh8:∀H' p r,Same H H'->H' p=some (.tup [.int st,.ref r])->H' r=some (.tup (vals.map V.int))->Q (.ref p) H'):CB vs H Q zz3
theorem RP(T:aT K mg t):FnOk P w K mg base aU 8 t.zC t.xN ["order"] CB:=by
 refine T.JG.ok sc_least (λvs H Q E h=>?_) (λcdv A outer s H vs Q E hr h=>?_)
 ·obtain⟨x,n,ps,st,vals,rfl,_⟩:=h
  rfl
 ·obtain⟨x,n,ps,st,vals,rfl,hx,ho,hb,h1,h2,hS,hmin,q⟩:=h
  refine⟨_,(aF (cR (aN (u6 T) (hr.mono (by decide)) rfl T.vP T.nV.kp T.yU .nil aO (aA (pv 0) pa_nil)))
   (aF (bG (i:=1) sc_least.nd rfl (Or.inl rfl) pe_int)
   (aF (bG (i:=2) sc_least.nd rfl (Or.inl rfl) (aN (FB T) (hr.mono (by decide)) rfl T.FR T.AA.kp T.ID .nil aO (aA (pv 0) (aA (pv 1) pa_nil))))
   (aF (P4 PassesOwn.never (bE mE (pv 2) pe_non (bA _)) (aF (bG (i:=1) sc_least.nd rfl (Or.inl rfl) (aY c6 (pv 1) pe_int))
   (aD (bG (i:=2) sc_least.nd rfl (Or.inl rfl) (aN (FB T) (hr.mono (by decide)) rfl T.FR T.AA.kp T.ID .nil aO (aA (pv 0) (aA (pv 1) pa_nil)))))))
   (aD (aK (bI (aA (pv 1) (aA (pv 2) pa_nil))))))))),?_⟩
  walk_at"rd"
  refine⟨x,n,ps,rfl,hx,ho,hb,λH1 s1=>?_⟩
  walk_at"rd"
  refine⟨x,n,ps,1,rfl,hx.same s1,ho,by lia,by lia,λH2 s2=>?_⟩
  have key:∀(sc:Int)(H':Hp)(Q':VK),Same H H'->1<=sc->sc<=st->(∀f,((sc<st/\f=V.non)\/(sc=st/\∃r,f=.ref r/\H' r=some (.tup (vals.map V.int))))->Q' f H')->AG Q' H' (cJ n ps sc):=λsc H' Q' _ g1 g2 k=>by
   by_cases e:sc=st
   ·subst e
    rw[hS]
    exact λp hp=>k _ (.inr ⟨rfl,p,rfl,hp⟩)
   ·rw[hmin sc g1 (by lia)]
    exact k _ (.inl ⟨by lia,rfl⟩)
  refine key 1 H2 _ (s1.trans s2) (by lia) h1 λf hf=>?_
  walk_at"rd"
  refine⟨λm σ H'=>∃sc f,σ=[some x,some (.int sc),some f]/\Same H H'/\1<=sc/\sc<=st/\m=(st-sc).toNat/\((sc<st/\f=V.non)\/(sc=st/\∃r,f=.ref r/\H' r=some (.tup (vals.map V.int)))),⟨_,1,f,rfl,s1.trans s2,by lia,h1,rfl,hf⟩,?_⟩
  rintro m σ H3 ⟨sc,f,rfl,s3,g1,g2,rfl,hf⟩
  rcases hf with⟨g3,rfl⟩|⟨rfl,r,rfl,hr'⟩
  ·walk_at"rd"
   refine⟨λσ' H'=>∃m',m'<(st-sc).toNat/\∃sc' f,σ'=[some x,some (.int sc'),some f]/\Same H H'/\1<=sc'/\sc'<=st/\m'=(st-sc').toNat/\((sc'<st/\f=V.non)\/(sc'=st/\∃r,f=.ref r/\H' r=some (.tup (vals.map V.int)))),λσ' H' h=>h,?_⟩
   walk_at"rd"
   refine⟨x,n,ps,sc+1,rfl,hx.same s3,ho,by lia,by lia,λH4 s4=>?_⟩
   refine key (sc+1) H4 _ (s3.trans s4) (by lia) (by lia) λf hf=>?_
   walk_at"rd"
   exact⟨_,by lia,sc+1,f,rfl,s3.trans s4,by lia,by lia,rfl,hf⟩
  ·walk_at"rd"
   refine⟨by show 2<=sizeLine;decide,λp hp=>?_⟩
   exact q _ p r (s3.trans (Same.upd hp)) aC (by rw[aE (aS hr' hp)];exact hr')
inductive LR (vs:List V) (H:Hp) (Q:VK) (zz3:XK):Prop where
 |mk (x n ps st vals:_) (zh0:vs=[x]) (zh1:Is H x (bZ n ps)) (zh2:Ord n ps) (zh3:bT n ps=false) (zh4:1<=st) (zh5:st<=999) (zh6:cJ n ps st=some vals) (zh7:(∀s',1<=s'->s'<st->cJ n ps s'=none)) (zh8:∀H',Same H H'->Q (.int st) H'):LR vs H Q zz3
noncomputable def eE(st:Int)(vals:List Int)(i j:Nat):List (Int×Int):=if vals.getD j 0-vals.getD i 0>=st then[((i:Int),(j:Int))] else[]
noncomputable def eV(st:Int)(vals:List Int)(i m:Nat):List (Int×Int):=(range m).flatMap (eE st vals i)
noncomputable def eW(st:Int)(vals:List Int)(m:Nat):List (Int×Int):=(range m).flatMap λi=>eV st vals i vals.length
noncomputable def cN(st:Int)(vals:List Int):List (Int×Int):=eW st vals vals.length
theorem oC(st:Int)(vals:List Int)(i m:Nat):eV st vals i (m+1)=eV st vals i m++eE st vals i m:=by
 unfold eV
 rw[range_succ,flatMap_append]
 simp
theorem oF(st:Int)(vals:List Int)(m:Nat):eW st vals (m+1)=eW st vals m++eV st vals m vals.length:=by
 unfold eW
 rw[range_succ,flatMap_append]
 simp
theorem AY(st:Int)(vals:List Int)(i j:Nat):(eE st vals i j).length<=1:=by
 unfold eE
 split
 ·exact Nat.le_refl _
 ·exact Nat.zero_le _
theorem oE(st:Int)(vals:List Int)(i:Nat):∀m,(eV st vals i m).length<=m
 |0=>Nat.le_refl _
 |m+1=>by
  rw[oC,length_append]
  have:=oE st vals i m
  have:=AY st vals i m
  lia
theorem AZ(st:Int)(vals:List Int):∀m,(eW st vals m).length<=m*vals.length
 |0=>Nat.zero_le _
 |m+1=>by
  rw[oF,length_append,Nat.succ_mul]
  have:=AZ st vals m
  have:=oE st vals m vals.length
  lia
theorem gR:∀ds:List (Int×Int),bR (ds.map aJ)=true
 |[]=>rfl
 |d::ds=>by
  rw[map_cons,bR,gR ds]
  rfl
noncomputable abbrev dF(p q:Int×Int):Prop:=HT.lexLt [p.1,p.2] [q.1,q.2]=true
theorem pH{p q:Int×Int}(h:p.1<q.1\/(p.1=q.1/\p.2<q.2)):dF p q:=by
 show HT.lexLt [p.1,p.2] [q.1,q.2]=true
 rw[HT.eB]
 rcases h with h|⟨h1,h2⟩
 ·rw[if_neg (by lia)]
  exact decide_eq_true h
 ·rw[if_pos h1,HT.eB,if_neg (by lia)]
  exact decide_eq_true h2
theorem mem_tlI{st:Int}{vals:List Int}{i j:Nat}{p:Int×Int}:p∈eE st vals i j<->p=((i:Int),(j:Int))/\vals.getD j 0-vals.getD i 0>=st:=by
 unfold eE
 split
 ·rename_i h
  rw[mem_singleton]
  exact⟨λe=>⟨e,h⟩,λe=>e.1⟩
 ·rename_i h
  constructor
  ·intro e;cases e
  ·intro e;exact absurd e.2 h
theorem mem_tlRow{st:Int}{vals:List Int}{i m:Nat}{p:Int×Int}:p∈eV st vals i m<->∃j,j<m/\p=((i:Int),(j:Int))/\vals.getD j 0-vals.getD i 0>=st:=by
 unfold eV
 rw[mem_flatMap]
 constructor
 ·rintro⟨j,hj,h⟩
  exact⟨j,mem_range.mp hj,mem_tlI.mp h⟩
 ·rintro⟨j,hj,h⟩
  exact⟨j,mem_range.mpr hj,mem_tlI.mpr h⟩
theorem mem_tlAll{st:Int}{vals:List Int}{m:Nat}{p:Int×Int}:p∈eW st vals m<->∃i j,i<m/\j<vals.length/\p=((i:Int),(j:Int))/\vals.getD j 0-vals.getD i 0>=st:=by
 unfold eW
 rw[mem_flatMap]
 constructor
 ·rintro⟨i,hi,h⟩
  obtain⟨j,hj,e,g⟩:=mem_tlRow.mp h
  exact⟨i,j,mem_range.mp hi,hj,e,g⟩
 ·rintro⟨i,j,hi,hj,e,g⟩
  exact⟨i,mem_range.mpr hi,mem_tlRow.mpr ⟨j,hj,e,g⟩⟩
theorem GP{st:Int}{vals:List Int}{i j:Nat}(hi:i<vals.length)(hj:j<vals.length):has (cN st vals) i j=decide (vals.getD j 0-vals.getD i 0>=st):=by
 unfold has
 congr 1
 apply propext
 unfold cN
 rw[mem_tlAll]
 constructor
 ·rintro⟨a,b,_,_,e,g⟩
  have e1:(i:Int)=a:=congrArg Prod.fst e
  have e2:(j:Int)=b:=congrArg Prod.snd e
  have:i=a:=by lia
  have:j=b:=by lia
  subst_vars
  exact g
 ·intro g
  exact⟨i,j,hi,hj,rfl,g⟩
theorem DB(st:Int)(vals:List Int)(i:Nat):∀m,(eV st vals i m).Pairwise dF
 |0=>.nil
 | m+1=>by
  rw[oC,pairwise_append]
  refine⟨DB st vals i m,?_,λp hp q hq=>?_⟩
  ·unfold eE
   split
   ·exact pairwise_singleton _ _
   ·exact .nil
  ·obtain⟨j,hj,rfl,_⟩:=mem_tlRow.mp hp
   obtain⟨rfl,_⟩:=mem_tlI.mp hq
   exact pH (.inr ⟨rfl,by show(j:Int)<m;lia⟩)
theorem yY(st:Int)(vals:List Int):∀m,(eW st vals m).Pairwise dF
 |0=>.nil
 |m+1=>by
  rw[oF,pairwise_append]
  refine⟨yY st vals m,DB st vals m _,λp hp q hq=>?_⟩
  obtain⟨i,j,hi,hj,rfl,_⟩:=mem_tlAll.mp hp
  obtain⟨j',_,rfl,_⟩:=mem_tlRow.mp hq
  exact pH (.inl (by show(i:Int)<m;lia))
theorem uA:∀{ps:List (Int×Int)},ps.Pairwise dF->eF ps=true
 |[],_=>rfl
 |[_],_=>rfl
 |a::b::r,h=>by
  rw[eF,uA (pairwise_cons.mp h).2,(pairwise_cons.mp h).1 b mem_cons_self]
  rfl
theorem DC{st:Int}(hs:1<=st){vals:List Int}{i:Nat}:∀m,i<m->(eV st vals i m).length+1<=m
 |0,h=>by lia
 | m+1,h=>by
  rw[oC,length_append]
  by_cases e:i=m
  ·subst e
   have:eE st vals i i=[]:=by
    unfold eE
    rw[if_neg (by lia)]
   rw[this]
   have:=oE st vals i i
   simp only[length_nil]
   lia
  ·have a:=DC (i:=i) hs (vals:=vals) m (by lia)
   have b:=AY st vals i m
   lia
theorem IO{st:Int}(hs:1<=st){vals:List Int}:∀m,m<=vals.length->(eW st vals m).length+m<=m*vals.length
 |0,_=>by simp[eW]
 |m+1,h=>by
  rw[oF,length_append,Nat.succ_mul]
  have a:=IO hs (vals:=vals) m (by lia)
  have b:=DC hs (vals:=vals) (i:=m) vals.length (by lia)
  lia
theorem K9{st:Int}(hs:1<=st){vals:List Int}(h1:1<=vals.length)(h8:vals.length<=8):(cN st vals).length<64:=by
 have a:=IO hs (vals:=vals) vals.length (Nat.le_refl _)
 have b:vals.length*vals.length<=8*8:=Nat.mul_le_mul h8 h8
 unfold cN
 lia
theorem K8{st:Int}(hs:1<=st){vals:List Int}(h1:1<=vals.length)(h8:vals.length<=8):Ord vals.length (cN st vals) where
 lo:=h1
 hi:=h8
 ix:=λp hp=>by
  obtain⟨i,j,hi,hj,rfl,g⟩:=mem_tlAll.mp hp
  refine⟨by show(0:Int)<=i;lia,by show(i:Int)<vals.length;lia,by show(0:Int)<=j;lia,by show(j:Int)<vals.length;lia,?_⟩
  intro e
  have e':(i:Int)=j:=e
  have:i=j:=by lia
  subst this
  lia
 up:=uA (yY st vals _)
 sz:=by
  have:=K9 hs h1 h8
  lia
theorem CV{α:Type}{lt:α->α->Prop}(as:∀a b,lt a b->¬lt b a):∀{l1 l2:List α},l1.Perm l2->l1.Pairwise lt->l2.Pairwise lt->l1=l2
 |[],l2,h,_,_=>(List.nil_perm.mp h).symm
 |a::t1,[],h,_,_=>by
  have:=h.length_eq
  simp at this
 | a::t1,b::t2,h,p1,p2=>by
  have e:a=b:=by
   apply Classical.byContradiction
   intro hne
   have ha:a∈t2:=by
    rcases mem_cons.mp (h.mem_iff.mp mem_cons_self) with g|g
    ·exact absurd g hne
    ·exact g
   have hb:b∈t1:=by
    rcases mem_cons.mp (h.mem_iff.mpr mem_cons_self) with g|g
    ·exact absurd g.symm hne
    ·exact g
   exact as a b ((pairwise_cons.mp p1).1 b hb) ((pairwise_cons.mp p2).1 a ha)
  subst e
  rw[CV as (List.Perm.cons_inv h) (pairwise_cons.mp p1).2 (pairwise_cons.mp p2).2]
inductive LP (vs:List V) (H:Hp) (Q:VK) (zz3:XK):Prop where
 |mk (a st vals:_) (zh0:vs=[.int st,.ref a]) (zh1:H a=some (.tup (vals.map V.int))) (zh2:vals.length<=8) (zh3:∀p H',Same H H'->Is H' (.ref p) (.tuple ((cN st vals).map aJ))->Q (.ref p) H'):LP vs H Q zz3
theorem W3{α:Type}(f:α->Bool)(x:α):[x].filter f=if f x=true then[x] else[]:=by
 cases h:f x <;> simp[h]
theorem vW(p q:Int×Int):dF p q->¬dF q p:=λh1 h2=>by
 have h2':HT.lexLt [q.1,q.2] [p.1,p.2]=true:=h2
 rw[kQ h1]at h2'
 cases h2'
theorem jN:∀{ps:List (Int×Int)},eF ps=true->ps.Pairwise dF
 |[],_=>.nil
 |[_],_=>pairwise_singleton _ _
 |a::b::r,h=>by
  rw[eF,Bool.and_eq_true]at h
  have ih:=jN h.2
  refine pairwise_cons.mpr ⟨λx hx=>?_,ih⟩
  rcases mem_cons.mp hx with rfl|hx
  ·exact h.1
  ·exact pL h.1 ((pairwise_cons.mp ih).1 x hx)
theorem EF:∀{l1 l2:List (Int×Int)},l1.Pairwise dF->l2.Pairwise dF->(∀x,x∈l1<->x∈l2)->l1=l2
 |[],[],_,_,_=>rfl
 |[],b::t,_,_,h=>by cases(h b).mpr mem_cons_self
 |a::t,[],_,_,h=>by cases(h a).mp mem_cons_self
 | a::t1,b::t2,p1,p2,h=>by
  have q1:=pairwise_cons.mp p1
  have q2:=pairwise_cons.mp p2
  have e:a=b:=by
   apply Classical.byContradiction
   intro hne
   have ha:a∈t2:=by
    rcases mem_cons.mp ((h a).mp mem_cons_self) with g|g
    ·exact absurd g hne
    ·exact g
   have hb:b∈t1:=by
    rcases mem_cons.mp ((h b).mpr mem_cons_self) with g|g
    ·exact absurd g.symm hne
    ·exact g
   exact vW a b (q1.1 b hb) (q2.1 a ha)
  subst e
  have irr:∀x,dF a x->x≠a:=λx hx z=>by subst z;exact vW _ _ hx hx
  rw[EF q1.2 q2.2 λx=>⟨λhx=>?_,λhx=>?_⟩]
  ·rcases mem_cons.mp ((h x).mp (mem_cons_of_mem _ hx)) with g|g
   ·exact absurd g (irr x (q1.1 x hx))
   ·exact g
  ·rcases mem_cons.mp ((h x).mpr (mem_cons_of_mem _ hx)) with g|g
   ·exact absurd g (irr x (q2.1 x hx))
   ·exact g
theorem has_iff{ps:List (Int×Int)}{i j:Int}:has ps i j=true<->(i,j)∈ps:=by
 unfold has
 exact decide_eq_true_iff
theorem mF{ps:List (Int×Int)}(h:ps.Pairwise dF):ps.Nodup:=by
 refine List.Pairwise.imp (λ{a b}hab z=>?_) h
 subst z
 exact vW _ _ hab hab
theorem vJ:∀(m:Nat)(l:List Nat),l.Nodup->(∀x∈l,x<m)->l.length<=m
 |0,[],_,_=>Nat.le_refl _
 |0,x::_,_,h=>absurd (h x mem_cons_self) (Nat.not_lt_zero _)
 | m+1,l,nd,h=>by
  by_cases hm:m∈l
  ·have:=vJ m (l.erase m) (nd.erase m) λx hx=>by
    have:=(List.Nodup.mem_erase_iff nd).mp hx
    have:=h x this.2
    lia
   rw[List.length_erase_of_mem hm]at this
   lia
  ·have:=vJ m l nd λx hx=>by
    have h1:=h x hx
    have:x≠m:=λz=>hm (z▸hx)
    lia
   lia
noncomputable def pQ(p:Int×Int):Prop:=0<=p.1/\p.1<8/\0<=p.2/\p.2<8/\p.1≠p.2
theorem lX{ps:List (Int×Int)}(nd:ps.Nodup)(h:∀p∈ps,pQ p):ps.length<64:=by
 have e:=vJ 63 (ps.map λp=>(8*p.1+p.2).toNat) (by
  unfold List.Nodup
  rw[pairwise_map]
  refine List.Pairwise.imp_of_mem (λ{a b}ha hb hab z=>hab ?_) nd
  obtain⟨a1,a2,a3,a4,_⟩:=h a ha
  obtain⟨b1,b2,b3,b4,_⟩:=h b hb
  have:8*a.1+a.2=8*b.1+b.2:=by lia
  exact Prod.ext (by lia) (by lia)) (λx hx=>by
  obtain⟨p,hp,rfl⟩:=mem_map.mp hx
  obtain⟨a1,a2,a3,a4,_⟩:=h p hp
  show(8*p.1+p.2).toNat<63
  lia)
 rw[length_map]at e
 lia
noncomputable def inN(n:Nat)(p:Int×Int):Prop:=0<=p.1/\p.1<n/\0<=p.2/\p.2<n/\p.1≠p.2
theorem inN.box{n:Nat}(h8:n<=8){p:Int×Int}(h:inN n p):pQ p:=by
 obtain⟨a,b,c,d,e⟩:=h
 exact⟨a,by lia,c,by lia,e⟩
theorem Q5{n:Nat}{ps:List (Int×Int)}(lo:1<=n)(hi:n<=8)(ix:∀p∈ps,inN n p)(up:ps.Pairwise dF):Ord n ps:=
 ⟨lo,hi,ix,uA up,Nat.le_of_lt (Nat.lt_of_lt_of_le (lX (mF up) λp hp=>(ix p hp).box hi) (by decide))⟩
theorem Ord.box{n:Nat}{ps:List (Int×Int)}(h:Ord n ps){p:Int×Int}(hp:p∈ps):pQ p:=inN.box h.hi (h.ix p hp)
theorem Ord.small{n:Nat}{ps:List (Int×Int)}(h:Ord n ps):ps.length<64:=lX (mF (jN h.up)) λ_ hp=>h.box hp
theorem NM{H:Hp}{Q:VK}{p:Addr}{vs:List V}{ps:List (Int×Int)}(e:H p=some (.lst vs)\/H p=some (.tup vs))(hv:IsAll H vs (ps.map aJ))(nd:ps.Nodup)(hb:∀p∈ps,pQ p)
  (h:∀(l:Addr)(vs':List V)(ps':List (Int×Int)),H l=none->IsAll H vs' (ps'.map aJ)->ps'.Perm ps->ps'.Pairwise dF->Q (.ref l) (upd H l (.lst vs'))):uG K [.ref p] H Q:=by
 have tn:∀ps:List (Int×Int),(ps.map λp=>[p.1,p.2]).map (jF [])=ps.map aJ:=λps=>by rw[map_map];rfl
 refine⟨p,vs,[],ps.map λp=>[p.1,p.2],2,rfl,e.elim (λe=>.inl (SqL.of e)) (λe=>.inr (SqT.of e)),by rw[tn];exact hv,?_,by decide,?_,by rw[length_map];exact lX nd hb,λl vs' nss' hl ha hp hw=>?_⟩
 ·intro ns hm
  obtain⟨q,_,rfl⟩:=mem_map.mp hm
  rfl
 ·unfold List.Nodup
  rw[pairwise_map]
  refine List.Pairwise.imp (λ{a b}hab z=>hab ?_) nd
  injection z with z1 z2
  injection z2 with z2 _
  exact Prod.ext z1 z2
 ·have key:∀l:List (List Int),(∀ns∈l,∃a b,ns=[a,b])->l=(l.map λns=>(ns.getD 0 0,ns.getD 1 0)).map λp=>[p.1,p.2]:=λl hl=>by
   induction l with
   |nil=>rfl
   |cons x l ih=>
    obtain⟨a,b,rfl⟩:=hl x mem_cons_self
    rw[map_cons,map_cons,<-ih λns hns=>hl ns (mem_cons_of_mem _ hns)]
    rfl
  have e':=key nss' λns hns=>by
   obtain⟨q,_,rfl⟩:=mem_map.mp (hp.mem_iff.mp hns)
   exact⟨_,_,rfl⟩
  generalize nss'.map (λns=>(ns.getD 0 0,ns.getD 1 0))=ps' at e'
  subst e'
  rw[tn]at ha
  have hw':=pairwise_map.mp hw
  refine h l vs' ps' hl ha ?_ hw'
  have h2:=hp.map λns:List Int=>(ns.getD 0 0,ns.getD 1 0)
  rw[map_map,map_map]at h2
  have e1:∀l:List (Int×Int),l.map ((λns:List Int=>(ns.getD 0 0,ns.getD 1 0)) ∘ λp=>[p.1,p.2])=l:=λl=>by
   refine(map_congr_left λp _=>?_).trans (map_id l)
   rfl
  rw[e1,e1]at h2
  exact h2
theorem o8(as:List Int):dQ (.list (as.map .int)):=by
 have h1:PyData.canLayAll0 (as.map PyData.int)=true:=by
  induction as with
  |nil=>rfl
  |cons a as ih=>rw[map_cons,PyData.canLayAll0,ih];rfl
 have h2:PyData.depthAll (as.map PyData.int)<=0:=by
  clear h1
  induction as with
  |nil=>exact Nat.le_refl _
  |cons a as ih=>rw[map_cons,PyData.depthAll];exact Nat.max_le.mpr ⟨Nat.le_refl _,ih⟩
 refine⟨?_,?_⟩
 ·rw[PyData.canLay0];exact h1
 ·rw[PyData.depth];lia
noncomputable def gI(f:Nat->Nat->Bool)(i j:Nat):List (Int×Int):=if f i j=true then[((i:Int),(j:Int))] else[]
inductive CO (K:PySem.W.Frag) (vs:List V) (H:Hp) (Q:VK) (zz3:XK):Prop where
 |mk (a ns k:_) (zh0:vs=[.ref a,.int k]) (zh1:Scr K H a ns) (zh2:0<=k) (zh3:∀c H',Same H H'->Q (.int c) H'):CO K vs H Q zz3
theorem int_at{ns:List Int}{k:Int}(h0:0<=k)(h1:k<ns.length):eP (ns.map V.int) k=some (.int (ns.getD k.toNat 0)):=by
 refine atI_of (i:=k.toNat) (by lia) ?_
 rw[List.getElem?_map]
 have:k.toNat<ns.length:=by lia
 simp[this]
theorem R8(T:aT K mg t):FnOk P w K mg base aU 1 t.zX t.yG ["_law_script","_law_k"] (CO K):=by
 refine T.JW.ok MV (λvs H Q E h=>?_) (λcdv A outer s H vs Q E hr h=>?_)
 ·obtain⟨a,ns,k,rfl,_⟩:=h
  rfl
 ·obtain⟨a,ns,k,rfl,hs,hk,q⟩:=h
  refine⟨_,(aF (bL (bE (E2) (pv 1) (aZ (dG K) (by rfl) T.dB dJ (aA (pv 0) pa_nil)) (bA _)) (aD (aK (aQ (aR K) (pv 0) (pv 1) (λ_ _=>rfl)))) bK)
   (aF (bL (bE (VV K hr.units0) (pv 0) (cT pa_nil) (bA _)) (aD (aK pe_int)) bK)
   (aD (aK (aY c6 (aY kJ (aQ (aR K) (pv 0) (aY mC (pv 1) (aZ (dG K) (by rfl) T.dB dJ (aA (pv 0) pa_nil))) (λ_ _=>rfl)) pe_int) (pv 1)))))),?_⟩
  walk_at"rd"
  refine DQ hs.sq ?_
  walk_at"rd"
  refine bS (λh1=>?_) (λh1=>?_)
  ·have h1':=of_decide_eq_true h1
   rw[length_map]at h1'
   walk_at"rd"
   refine DR hs.sq (int_at hk h1') ?_
   exact q _ H (Same.refl H)
  ·walk_at"rd"
   refine⟨Nat.zero_le _,λp hp=>?_⟩
   have s1:=Same.upd (o:=.lst []) hp
   walk_at"rd"
   refine⟨a,p,ns,rfl,rfl,(hs.same s1).sq,SqL.of aC,?_⟩
   walk_at"rd"
   refine bS (λh2=>?_) (λh2=>?_)
   ·walk_at"rd"
    exact q _ _ s1
   ·have h2':=of_decide_eq_false h2
    have hl:0<ns.length:=length_pos_iff.mpr h2'
    walk_at"rd"
    refine DQ (hs.same s1).sq ?_
    rw[length_map]
    refine gM (by lia) ?_
    refine DR (hs.same s1).sq (int_at (Int.emod_nonneg _ (by lia)) (Int.emod_lt_of_pos _ (by lia))) ?_
    walk_at"rd"
    refine gM (.inr ⟨by decide,by decide⟩) ?_
    walk_at"rd"
    exact q _ _ s1
inductive B9 (K:PySem.W.Frag) (vs:List V) (H:Hp) (Q:VK) (zz3:XK):Prop where
 |mk (a ns k m:_) (zh0:vs=[.ref a,.int k,.int m]) (zh1:Scr K H a ns) (zh2:0<=k) (zh3:0<m) (zh4:∀r H',Same H H'->0<=r->r<m->Q (.int r) H'):B9 K vs H Q zz3
theorem R7(T:aT K mg t):FnOk P w K mg base aU 2 t.zV t.yE ["_law_script","_law_k","_law_many"] (B9 K):=by
 refine T.JV.ok sc__law_mixed (λvs H Q E h=>?_) (λcdv A outer s H vs Q E hr h=>?_)
 ·obtain⟨a,ns,k,m,rfl,_⟩:=h
  rfl
 ·obtain⟨a,ns,k,m,rfl,hs,hk,hm,q⟩:=h
  refine⟨_,(aF (bG (i:=3) sc__law_mixed.nd rfl (Or.inl rfl) (aY mC (aY kJ (aY c6 (aY c6 (aN (R8 T) (hr.mono (by decide)) rfl T.UF T.JW.kp T.ZZ .nil aO (aA (pv 0) (aA (pv 1) pa_nil))) (aY kJ pe_int (pv 1))) pe_int) pe_int) pe_int))
   (aD (aK (aY mC (aY mC (aY c6 (aY c6 (aY kJ (pv 3) (pv 3)) (aY kJ pe_int (pv 3))) (pv 1)) pe_int) (pv 2))))),?_⟩
  walk_at"rd"
  refine⟨a,ns,k,rfl,hs,hk,λc H1 s1=>?_⟩
  walk_at"rd"
  refine gM (.inl ⟨by decide,by decide⟩) ?_
  walk_at"rd"
  refine gM (.inr ⟨by decide,by decide⟩) ?_
  walk_at"rd"
  refine gM (by decide) ?_
  walk_at"rd"
  have d0:=Int.emod_nonneg ((c+7919*k+1)*48271) (show(2147483647:Int)≠0 by decide)
  have d1:=Int.emod_lt_of_pos ((c+7919*k+1)*48271) (show(0:Int)<2147483647 by decide)
  generalize ((c+7919*k+1)*48271)%2147483647=dr at d0 d1
  refine gM (.inl ⟨by lia,by lia⟩) ?_
  walk_at"rd"
  refine gM (.inl ⟨by decide,by decide⟩) ?_
  walk_at"rd"
  refine gM (by decide) ?_
  walk_at"rd"
  refine gM hm ?_
  exact q _ H1 s1 (Int.emod_nonneg _ (by lia)) (Int.emod_lt_of_pos _ hm)
inductive CM (K:PySem.W.Frag) (vs:List V) (H:Hp) (Q:VK) (zz3:XK):Prop where
 |mk (a ns tw ts m:_) (zh0:vs=[.ref a,.ref tw,.int m]) (zh1:Scr K H a ns) (zh2:H tw=some (.lst ts)) (zh3:ts.length<=500) (zh4:0<m) (zh5:∀r H' ts',SameT tw H H'->H' tw=some (.lst ts')->ts'.length=ts.length+1->0<=r->r<m->Q (.int r) H'):CM K vs H Q zz3
theorem jB(T:aT K mg t):FnOk P w K mg base aU 3 t.zW t.yF ["_law_script","_law_town","_law_many"] (CM K):=by
 refine T.iW.ok MU (λvs H Q E h=>?_) (λcdv A outer s H vs Q E hr h=>?_)
 ·obtain⟨a,ns,tw,ts,m,rfl,_⟩:=h
  rfl
 ·obtain⟨a,ns,tw,ts,m,rfl,hs,ht,hl,hm,q⟩:=h
  refine⟨_,(aF (cR (fU K PySem.F.plainAttrs_list PySem.F.slot_list_append PySem.F.type_list_append jU (pv 1) (aA pe_int pa_nil)))
   (aD (aK (aN (R7 T) (hr.mono (by decide)) rfl T.UE T.JV.kp T.ZY .nil aO (aA (pv 0) (aA (aZ (dG K) (by rfl) T.dB dJ (aA (pv 1) pa_nil)) (aA (pv 2) pa_nil))))))),?_⟩
  walk_at"rd"
  refine⟨fJ ht,?_⟩
  walk_at"rd"
  refine jL ht (gJ (by lia)) ?_
  have s1:SameT tw H (upd H tw (.lst (ts++[V.int 0]))):=λb u e g=>by rw[aE g];exact e
  have ht1:upd H tw (.lst (ts++[V.int 0])) tw=some (.lst (ts++[V.int 0])):=aC
  walk_at"rd"
  refine⟨a,ns,_,m,rfl,hs.t ht s1,by lia,hm,λr H2 s2 h0 h1=>?_⟩
  exact q r H2 _ (s1.trans s2.t) (s2 _ _ ht1) (by simp) h0 h1
inductive BY (K:PySem.W.Frag) (vs:List V) (H:Hp) (Q:VK) (zz3:XK):Prop where
 |mk (a ns tw ts l xs:_) (zh0:vs=[.ref a,.ref tw,.ref l]) (zh1:Scr K H a ns) (zh2:H tw=some (.lst ts)) (zh3:ts.length<=500) (zh4:H l=some (.lst xs)) (zh5:l≠tw) (zh6:0<xs.length) (zh7:∀v H' ts',SameT tw H H'->H' tw=some (.lst ts')->ts'.length=ts.length+1->v∈xs->Q v H'):BY K vs H Q zz3
theorem FE(T:aT K mg t):FnOk P w K mg base aU 4 t.zT t.yC ["_law_script","_law_town","_law_some"] (BY K):=by
 refine T.AE.ok MT (λvs H Q E h=>?_) (λcdv A outer s H vs Q E hr h=>?_)
 ·obtain⟨a,ns,tw,ts,l,xs,rfl,_⟩:=h
  rfl
 ·obtain⟨a,ns,tw,ts,l,xs,rfl,hs,ht,hl,el,nl,hx,q⟩:=h
  refine⟨_,(aD (aK (aQ (aR K) (pv 2) (aN (jB T) (hr.mono (by decide)) rfl T.jC T.iW.kp T.jE .nil aO (aA (pv 0) (aA (pv 1) (aA (aZ (dG K) (by rfl) T.dB dJ (aA (pv 2) pa_nil)) pa_nil)))) (λ_ _=>rfl)))),?_⟩
  walk_at"rd"
  refine⟨a,ns,tw,ts,_,rfl,hs,ht,hl,by lia,λr H1 ts' s1 ht1 hl1 h0 h1=>?_⟩
  have hr':r.toNat<xs.length:=by lia
  refine gL (s1 _ _ el nl) (atI_of (i:=r.toNat) (by lia) (List.getElem?_eq_getElem hr')) ?_
  exact q _ H1 ts' s1 ht1 hl1 (getElem_mem hr')
theorem SameT.of{w:Addr}{H:Hp}{l:Addr}{o:HO}(h:H l=none):SameT w H (upd H l o):=(Same.upd h).t
end
noncomputable abbrev gt(l:List Int)(v:Nat):Int:=l.getD v 0
theorem pT{l:List Int}{j v:Nat}{a:Int}(hj:j<l.length):gt (l.set j a) v=if v=j then a else gt l v:=by
 unfold gt
 rw[List.getD_eq_getElem?_getD,List.getD_eq_getElem?_getD,List.getElem?_set]
 by_cases h:v=j
 ·subst h;simp[hj]
 ·rw[if_neg (Ne.symm h),if_neg h]
noncomputable def dX(ds:List Dm)(x:Nat->Int):Prop:=∀d∈ds,x d.1+d.2.2<=x d.2.1
theorem DN{s:Rs}{d:Dm}{n:Nat}(hl:s.1.length=n)(hd:d.2.1<n)(v:Nat):gt s.1 v<=gt (aM s d).1 v:=by
 unfold aM
 split
 ·rename_i h
  show gt s.1 v<=gt (s.1.set d.2.1 (s.1.getD d.1 0+d.2.2)) v
  rw[pT (by lia)]
  split
  ·rename_i e
   subst e
   exact Int.le_of_lt h
  ·exact Int.le_refl _
 ·exact Int.le_refl _
theorem mW{n:Nat}:∀(ds:List Dm)(s:Rs),s.1.length=n->cL n ds->∀v,gt s.1 v<=gt (ds.foldl aM s).1 v
 |[],s,_,_,v=>Int.le_refl _
 |d::ds,s,hl,hd,v=>by
  rw[foldl_cons]
  have a:=DN hl (hd d mem_cons_self).2 v
  have b:=mW ds (aM s d) ((oO s d).1.trans hl) (λe he=>hd e (mem_cons_of_mem _ he)) v
  exact Int.le_trans a b
theorem NE{s:Rs}{d:Dm}{n:Nat}{x:Nat->Int}(hl:s.1.length=n)(hd:d.1<n/\d.2.1<n)(hx:x d.1+d.2.2<=x d.2.1)(h:∀v,v<n->gt s.1 v<=x v):∀v,v<n->gt (aM s d).1 v<=x v:=λv hv=>by
 unfold aM
 split
 ·show gt (s.1.set d.2.1 (s.1.getD d.1 0+d.2.2)) v<=x v
  rw[pT (by lia)]
  split
  ·rename_i e
   subst e
   have:=h d.1 hd.1
   show gt s.1 d.1+d.2.2<=_
   lia
  ·exact h v hv
 ·exact h v hv
theorem pY{n:Nat}{x:Nat->Int}:∀(ds:List Dm)(s:Rs),s.1.length=n->cL n ds->dX ds x->(∀v,v<n->gt s.1 v<=x v)->∀v,v<n->gt (ds.foldl aM s).1 v<=x v
 |[],s,_,_,_,h=>h
 |d::ds,s,hl,hd,hx,h=>by
  rw[foldl_cons]
  exact pY ds (aM s d) ((oO s d).1.trans hl) (λe he=>hd e (mem_cons_of_mem _ he)) (λe he=>hx e (mem_cons_of_mem _ he)) (NE hl (hd d mem_cons_self) (hx d mem_cons_self) h)
theorem GW{n:Nat}:∀(ds:List Dm)(s:Rs),s.1.length=n->cL n ds->∀d∈ds,gt s.1 d.1+d.2.2<=gt (ds.foldl aM s).1 d.2.1
 |[],s,_,_,d,h=>by cases h
 | e::ds,s,hl,hd,d,h=>by
  rw[foldl_cons]
  have hl':=(oO s e).1.trans hl
  have hd':cL n ds:=λe he=>hd e (mem_cons_of_mem _ he)
  have m1:=DN hl (hd e mem_cons_self).2 d.1
  rcases mem_cons.mp h with rfl|h'
  ·have m2:=mW ds (aM s d) hl' hd' d.2.1
   have:gt s.1 d.1+d.2.2<=gt (aM s d).1 d.2.1:=by
    unfold aM
    split
    ·show _<=gt (s.1.set d.2.1 (s.1.getD d.1 0+d.2.2)) d.2.1
     rw[pT (by have:=(hd d mem_cons_self).2;lia),if_pos rfl]
     exact Int.le_refl _
    ·rename_i g
     exact Int.not_lt.mp g
   lia
  ·have:=GW ds (aM s e) hl' hd' d h'
   lia
theorem wZ:∀(ds:List Dm)(s:Rs)(k:Int),s.2.2=.int k->∃k',(ds.foldl aM s).2.2=.int k'
 |[],s,k,h=>⟨k,h⟩
 | d::ds,s,k,h=>by
  rw[foldl_cons]
  by_cases g:s.1.getD d.1 0+d.2.2>s.1.getD d.2.1 0
  ·refine wZ ds (aM s d) d.2.1 ?_
   unfold aM
   rw[if_pos g]
  ·refine wZ ds (aM s d) k ?_
   unfold aM
   rw[if_neg g]
   exact h
theorem GU:∀(ds:List Dm)(s:Rs),(ds.foldl aM s).2.2=.non->ds.foldl aM s=s/\∀d∈ds,gt s.1 d.1+d.2.2<=gt s.1 d.2.1
 |[],s,_=>⟨rfl,λ_ h=>nomatch h⟩
 | d::ds,s,h=>by
  rw[foldl_cons]at h ⊢
  by_cases g:s.1.getD d.1 0+d.2.2>s.1.getD d.2.1 0
  ·obtain⟨k,e⟩:=wZ ds (aM s d) d.2.1 (by unfold aM;rw[if_pos g])
   rw[e]at h
   cases h
  ·have e:aM s d=s:=by unfold aM;rw[if_neg g]
   rw[e]at h ⊢
   obtain⟨a,b⟩:=GU ds s h
   refine⟨a,λc hc=>?_⟩
   rcases mem_cons.mp hc with rfl|hc
   ·exact Int.not_lt.mp g
   ·exact b c hc
theorem GX:∀(ds:List Dm)(s:Rs),(∀d∈ds,gt s.1 d.1+d.2.2<=gt s.1 d.2.1)->ds.foldl aM s=s
 |[],s,_=>rfl
 |d::ds,s,h=>by
  rw[foldl_cons]
  have e:aM s d=s:=by unfold aM;rw[if_neg (Int.not_lt.mpr (h d mem_cons_self))]
  rw[e]
  exact GX ds s λe he=>h e (mem_cons_of_mem _ he)
theorem DD{n:Nat}{ds:List Dm}(hd:cL n ds):∀(k:Nat)(vals:List Int)(orgs:List V)(r:V),vals.length=n->(1<=k\/r≠.non)->(bB ds k vals orgs r).2.2=.non->
  (bB ds k vals orgs r).1.length=n/\(∀v,gt vals v<=gt (bB ds k vals orgs r).1 v)/\(∀d∈ds,gt (bB ds k vals orgs r).1 d.1+d.2.2<=gt (bB ds k vals orgs r).1 d.2.1)/\
  ∀x,dX ds x->(∀v,v<n->gt vals v<=x v)->∀v,v<n->gt (bB ds k vals orgs r).1 v<=x v
 |0,vals,orgs,r,hl,h,e=>by
  rcases h with h|h
  ·lia
  ·exact absurd e h
 | k+1,vals,orgs,r,hl,_,e=>by
  rw[bB]at e ⊢
  by_cases g:(bH ds vals orgs).2.2=.non
  ·rw[if_pos g]
   obtain⟨a,b⟩:=GU ds _ g
   have ea:(bH ds vals orgs).1=vals:=congrArg (λs:Rs=>s.1) a
   show(bH ds vals orgs).1.length=n/\(∀v,gt vals v<=gt (bH ds vals orgs).1 v)/\(∀d∈ds,gt (bH ds vals orgs).1 d.1+d.2.2<=gt (bH ds vals orgs).1 d.2.1)/\∀x,dX ds x->(∀v,v<n->gt vals v<=x v)->∀v,v<n->gt (bH ds vals orgs).1 v<=x v
   rw[ea]
   exact⟨hl,λv=>Int.le_refl _,b,λx _ h=>h⟩
  ·rw[if_neg g]at e ⊢
   have hl':(bH ds vals orgs).1.length=n:=(tX ds vals orgs).1.trans hl
   obtain⟨a,b,c,d⟩:=DD hd k _ _ _ hl' (.inr g) e
   refine⟨a,λv=>Int.le_trans (mW ds (vals,orgs,.non) hl hd v) (b v),c,λx sx hx=>d x sx (pY ds (vals,orgs,.non) hl hd sx hx)⟩
noncomputable def cnt(n:Nat)(x:Nat->Int)(vals:List Int):Nat:=(range n).countP λv=>decide (gt vals v=x v)
theorem X0(n:Nat)(x:Nat->Int)(vals:List Int):cnt n x vals<=n:=by
 have:=List.countP_le_length (l:=range n) (p:=λv=>decide (gt vals v=x v))
 rw[length_range]at this
 exact this
theorem X1{n:Nat}{x:Nat->Int}{vals:List Int}(h:n<=cnt n x vals):∀v,v<n->gt vals v=x v:=by
 have e:(range n).countP (λv=>decide (gt vals v=x v))=(range n).length:=by
  have:=X0 n x vals
  rw[length_range]
  unfold cnt at h this
  lia
 have:=List.countP_eq_length.mp e
 intro v hv
 exact of_decide_eq_true (this v (mem_range.mpr hv))
theorem AX{n:Nat}{ds:List Dm}(hd:cL n ds){x:Nat->Int}(sx:dX ds x)(nx:Nt.NN n x)(mx:∀z,dX ds z->Nt.NN n z->Nt.sumTo x n<=Nt.sumTo z n){F:Nat->Bool}(hF:∃v,v<n/\F v=false)(hp:∀v,v<n->F v=false->0<x v):
  ∃d∈ds,F d.1=true/\F d.2.1=false/\x d.2.1=x d.1+d.2.2:=by
 apply Classical.byContradiction
 intro hno
 obtain⟨v,hv,fv⟩:=hF
 have s2:dX ds (λi=>if F i=true then x i else x i-1):=λd hm=>by
  obtain⟨h1,h2⟩:=hd d hm
  have g:=sx d hm
  show(if F d.1=true then x d.1 else x d.1-1)+d.2.2<=(if F d.2.1=true then x d.2.1 else x d.2.1-1)
  cases f1:F d.1 with
  | true=>
   cases f2:F d.2.1 with
   |true=>simp;exact g
   |false=>
    simp
    by_cases e:x d.2.1=x d.1+d.2.2
    ·exact absurd ⟨d,hm,f1,f2,e⟩ hno
    ·lia
  |false=>
   cases f2:F d.2.1 with
   |true=>simp;lia
   |false=>simp;lia
 have n2:Nt.NN n (λi=>if F i=true then x i else x i-1):=λi hi=>by
  show 0<=(if F i=true then x i else x i-1)
  cases f:F i with
  |true=>simp;exact nx i hi
  |false=>
   simp
   have:=hp i hi f
   lia
 have:=mx _ s2 n2
 have lt:=Nt.BS (x:=x) (y:=λi=>if F i=true then x i else x i-1) (n:=n) (v:=v) (λi _=>by
  show(if F i=true then x i else x i-1)<=x i
  split <;> lia) hv (by
  show(if F v=true then x v else x v-1)<x v
  rw[fv];simp;lia)
 lia
theorem XZ{n:Nat}{ds:List Dm}(hd:cL n ds){x:Nat->Int}(sx:dX ds x)(nx:Nt.NN n x)(mx:∀z,dX ds z->Nt.NN n z->Nt.sumTo x n<=Nt.sumTo z n){vals:List Int}{orgs:List V}(hl:vals.length=n)(h0:∀v,v<n->0<=gt vals v)(hx:∀v,v<n->gt vals v<=x v)
  (hc:cnt n x vals<n):cnt n x vals<cnt n x (bH ds vals orgs).1:=by
 have hF:∃v,v<n/\decide (gt vals v=x v)=false:=by
  apply Classical.byContradiction
  intro hno
  have:(range n).countP (λv=>decide (gt vals v=x v))=(range n).length:=List.countP_eq_length.mpr λv hv=>by
   cases g:decide (gt vals v=x v) with
   |true=>rfl
   |false=>exact absurd ⟨v,mem_range.mp hv,g⟩ hno
  rw[length_range]at this
  unfold cnt at hc
  lia
 obtain⟨d,hm,f1,f2,e⟩:=AX hd sx nx mx (F:=λv=>decide (gt vals v=x v)) hF λv hv g=>by
  have g':=of_decide_eq_false g
  have:=h0 v hv
  have:=hx v hv
  lia
 have f1':gt vals d.1=x d.1:=of_decide_eq_true f1
 have up:∀v,v<n->gt (bH ds vals orgs).1 v<=x v:=pY ds (vals,orgs,.non) hl hd sx hx
 have mo:=mW ds (vals,orgs,V.non) hl hd
 have ge:=GW ds (vals,orgs,V.non) hl hd d hm
 refine Nt.nG (v:=d.2.1) (λi hi g=>?_) (mem_range.mpr (hd d hm).2) f2 ?_
 ·have g':gt vals i=x i:=of_decide_eq_true g
  have a:=up i (mem_range.mp hi)
  have b:=mo i
  refine decide_eq_true ?_
  have b':gt vals i<=gt (bH ds vals orgs).1 i:=b
  lia
 ·refine decide_eq_true ?_
  have a:=up _ (hd d hm).2
  have ge':gt vals d.1+d.2.2<=gt (bH ds vals orgs).1 d.2.1:=ge
  lia
theorem DF{n:Nat}{ds:List Dm}(hd:cL n ds){x:Nat->Int}(sx:dX ds x)(nx:Nt.NN n x)(mx:∀z,dX ds z->Nt.NN n z->Nt.sumTo x n<=Nt.sumTo z n):∀(k:Nat)(vals:List Int)(orgs:List V)(r:V),vals.length=n->(∀v,v<n->0<=gt vals v)->(∀v,v<n->gt vals v<=x v)->
  n<=cnt n x vals+k->(bB ds (k+1) vals orgs r).2.2=.non
 | k,vals,orgs,r,hl,h0,hx,hc=>by
  rw[bB]
  by_cases g:(bH ds vals orgs).2.2=.non
  ·rw[if_pos g]
  ·rw[if_neg g]
   by_cases hall:cnt n x vals<n
   ·match k,hc with
    |0,hc=>lia
    |k+1,hc=>
     have more:=XZ (orgs:=orgs) hd sx nx mx hl h0 hx hall
     refine DF hd sx nx mx k _ _ _ ((tX ds vals orgs).1.trans hl) (λv hv=>?_) (pY ds (vals,orgs,.non) hl hd sx hx) (by lia)
     have:=mW ds (vals,orgs,V.non) hl hd v
     have:=h0 v hv
     show 0<=gt (bH ds vals orgs).1 v
     have e:gt vals v<=gt (bH ds vals orgs).1 v:=by assumption
     lia
   ·exfalso
    apply g
    have ev:=X1 (n:=n) (x:=x) (vals:=vals) (by lia)
    have:bH ds vals orgs=(vals,orgs,.non):=GX ds _ λd hm=>by
     obtain⟨a,b⟩:=hd d hm
     show gt vals d.1+d.2.2<=gt vals d.2.1
     rw[ev _ a,ev _ b]
     exact sx d hm
    rw[this]
theorem mQ(n v:Nat):gt (replicate n (0:Int)) v=0:=by
 unfold gt
 rw[List.getD_eq_getElem?_getD,List.getElem?_replicate]
 split <;> rfl
theorem vV{n:Nat}(hn:1<=n){ds:List Dm}(hd:cL n ds){vals:List Int}(h:lv n ds=some vals):vals.length=n/\(∀v,v<n->0<=gt vals v)/\dX ds (gt vals)/\∀x,dX ds x->Nt.NN n x->∀v,v<n->gt vals v<=x v:=by
 unfold lv at h
 split at h
 ·rename_i e
  cases h
  obtain⟨a,b,c,d⟩:=DD hd n _ _ _ length_replicate (.inl hn) e
  refine⟨a,λv _=>?_,c,λx sx nx=>d x sx λv hv=>?_⟩
  ·have:=b v
   rw[mQ]at this
   exact this
  ·rw[mQ]
   exact nx v hv
 ·cases h
theorem UK{n:Nat}(hn:1<=n){ds:List Dm}(hd:cL n ds){x:Nat->Int}(sx:dX ds x)(nx:Nt.NN n x):∃vals,lv n ds=some vals:=by
 have s0:=Nt.lW nx
 obtain⟨y,sy,ny,my⟩:=Nt.U0 (n:=n) (p:=dX ds) (Nt.sumTo x n).toNat x sx nx (by lia)
 have c1:1<=cnt n y (replicate n 0):=by
  have:∃v,v<n/\y v=0:=by
   apply Classical.byContradiction
   intro hno
   obtain⟨d,hm,f1,_⟩:=AX hd sy ny my (F:=λ_=>false) ⟨0,hn,rfl⟩ λv hv _=>by
    have a:=ny v hv
    by_cases e:y v=0
    ·exact absurd ⟨v,hv,e⟩ hno
    ·lia
   cases f1
  obtain⟨v,hv,e⟩:=this
  unfold cnt
  exact List.countP_pos_iff.mpr ⟨v,mem_range.mpr hv,decide_eq_true (by rw[mQ,e])⟩
 obtain⟨m,rfl⟩:∃m,n=m+1:=⟨n-1,by lia⟩
 have e:=DF hd sy ny my m (replicate (m+1) 0) (replicate (m+1) .non) .non length_replicate (λv _=>by rw[mQ];exact Int.le_refl _) (λv hv=>by rw[mQ];exact ny v hv) (by lia)
 exact⟨_,by unfold lv;rw[if_pos e]⟩
structure z8 (ds:List Dm) (s:Rs) (R T:Nat->Nat) (v u:Nat) (b:Int):Prop where
 at':s.2.1[v]? =some (.int (u:Nat))
 mem:(u,v,b)∈ds
 rr:R v<=R u+1
 le:gt s.1 v<=gt s.1 u+b
 lt:T v<T u->gt s.1 v<gt s.1 u+b
structure Gh (n:Nat) (ds:List Dm) (p c:Nat) (pre suf:List Dm) (s:Rs) (R T:Nat->Nat):Prop where
 lv:s.1.length=n
 lo:s.2.1.length=n
 or:∀v,v<n->(s.2.1[v]? =some .non/\R v=0)\/(1<=T v/\∃u b,z8 ds s R T v u b)
 suf:∀d∈suf,R d.1+1<p->gt s.1 d.1+d.2.2<=gt s.1 d.2.1
 pre:∀d∈pre,R d.1<p->gt s.1 d.1+d.2.2<=gt s.1 d.2.1
 rp:∀v,R v<=p
 tc:∀v,T v<=c
 inj:∀a b,1<=T a->T a=T b->a=b
noncomputable def kB(R:Nat->Nat)(v k:Nat):Nat->Nat:=λi=>if i=v then k else R i
theorem eX(R:Nat->Nat)(v k:Nat):kB R v k v=k:=by unfold kB;rw[if_pos rfl]
theorem cY{R:Nat->Nat}{v k i:Nat}(h:i≠v):kB R v k i=R i:=by unfold kB;rw[if_neg h]
theorem WT{n:Nat}{ds:List Dm}(hd:cL n ds)(hne:∀d∈ds,d.1≠d.2.1){p c:Nat}{pre suf:List Dm}{d:Dm}{s:Rs}{R T:Nat->Nat}(hm:d∈ds)(g:Gh n ds p c pre (d::suf) s R T):
  ∃R' T',Gh n ds p (c+1) (pre++[d]) suf (aM s d) R' T'/\((aM s d).2.2=s.2.2\/∃v:Nat,v<n/\(aM s d).2.2=.int v/\R' v=p)/\∀v,R v=p->R' v=p:=by
 obtain⟨h1,h2⟩:=hd d hm
 have hn:=hne d hm
 by_cases h:s.1.getD d.1 0+d.2.2>s.1.getD d.2.1 0
 ·have e:aM s d=(s.1.set d.2.1 (s.1.getD d.1 0+d.2.2),s.2.1.set d.2.1 (.int d.1),.int d.2.1):=by unfold aM;rw[if_pos h]
  rw[e]
  have hu:p<=R d.1+1:=by
   refine Nat.le_of_not_lt λz=>?_
   have:=g.suf d mem_cons_self z
   show False
   have h':gt s.1 d.1+d.2.2>gt s.1 d.2.1:=h
   lia
  have hlt:d.2.1<s.1.length:=by rw[g.lv];exact h2
  have gs:∀w,gt (s.1.set d.2.1 (s.1.getD d.1 0+d.2.2)) w=if w=d.2.1 then gt s.1 d.1+d.2.2 else gt s.1 w:=λw=>pT hlt
  have up:∀w,gt s.1 w<=gt (s.1.set d.2.1 (s.1.getD d.1 0+d.2.2)) w:=λw=>by
   rw[gs]
   split
   ·rename_i e;subst e;exact Int.le_of_lt h
   ·exact Int.le_refl _
  refine⟨kB R d.2.1 p,kB T d.2.1 (c+1),⟨?_,?_,λv hv=>?_,λx hx hr=>?_,λx hx hr=>?_,λv=>?_,λv=>?_,λa b ha hab=>?_⟩,.inr ⟨d.2.1,h2,rfl,eX _ _ _⟩,λv hv=>?_⟩
  ·show(s.1.set d.2.1 _).length=n
   rw[length_set];exact g.lv
  ·show(s.2.1.set d.2.1 _).length=n
   rw[length_set];exact g.lo
  ·by_cases ev:v=d.2.1
   ·subst ev
    refine .inr ⟨by rw[eX];lia,d.1,d.2.2,?_,hm,?_,?_,?_⟩
    ·show(s.2.1.set d.2.1 (.int d.1))[d.2.1]? =_
     rw[List.getElem?_set_self (by rw[g.lo];exact h2)]
    ·rw[eX,cY hn];exact hu
    ·show gt (s.1.set d.2.1 (s.1.getD d.1 0+d.2.2)) d.2.1<=gt (s.1.set d.2.1 (s.1.getD d.1 0+d.2.2)) d.1+d.2.2
     rw[gs,gs,if_pos rfl,if_neg hn]
     exact Int.le_refl _
    ·rw[eX,cY hn]
     intro z
     have:=g.tc d.1
     lia
   ·rcases g.or v hv with⟨a,b⟩|⟨t1,u,b,o⟩
    ·refine .inl ⟨?_,by rw[cY ev];exact b⟩
     show(s.2.1.set d.2.1 (.int d.1))[v]? =_
     rw[List.getElem?_set_ne (Ne.symm ev)];exact a
    ·refine .inr ⟨by rw[cY ev];exact t1,u,b,?_,o.mem,?_,?_,?_⟩
     ·show(s.2.1.set d.2.1 (.int d.1))[v]? =_
      rw[List.getElem?_set_ne (Ne.symm ev)];exact o.at'
     ·rw[cY ev]
      by_cases eu:u=d.2.1
      ·subst eu;rw[eX];have:=g.rp v;lia
      ·rw[cY eu];exact o.rr
     ·show gt (s.1.set d.2.1 (s.1.getD d.1 0+d.2.2)) v<=gt (s.1.set d.2.1 (s.1.getD d.1 0+d.2.2)) u+b
      rw[gs v,if_neg ev]
      have:=up u
      have:=o.le
      lia
     ·show _->gt (s.1.set d.2.1 (s.1.getD d.1 0+d.2.2)) v<gt (s.1.set d.2.1 (s.1.getD d.1 0+d.2.2)) u+b
      rw[gs v,if_neg ev,cY ev]
      by_cases eu:u=d.2.1
      ·subst eu
       intro _
       rw[gs,if_pos rfl]
       have:=o.le
       have h':gt s.1 d.1+d.2.2>gt s.1 d.2.1:=h
       lia
      ·rw[cY eu,gs u,if_neg eu]
       exact o.lt
  ·have ex:x.1≠d.2.1:=λz=>by rw[z,eX]at hr;lia
   rw[cY ex]at hr
   show gt (s.1.set d.2.1 (s.1.getD d.1 0+d.2.2)) x.1+x.2.2<=gt (s.1.set d.2.1 (s.1.getD d.1 0+d.2.2)) x.2.1
   rw[gs x.1,if_neg ex]
   have:=g.suf x (mem_cons_of_mem _ hx) hr
   have:=up x.2.1
   lia
  ·have ex:x.1≠d.2.1:=λz=>by rw[z,eX]at hr;lia
   rw[cY ex]at hr
   show gt (s.1.set d.2.1 (s.1.getD d.1 0+d.2.2)) x.1+x.2.2<=gt (s.1.set d.2.1 (s.1.getD d.1 0+d.2.2)) x.2.1
   rw[gs x.1,if_neg ex]
   rcases mem_append.mp hx with hx|hx
   ·have:=g.pre x hx hr
    have:=up x.2.1
    lia
   ·rcases mem_singleton.mp hx with rfl
    rw[gs,if_pos rfl]
    exact Int.le_refl _
  ·by_cases ev:v=d.2.1
   ·subst ev;rw[eX];exact Nat.le_refl _
   ·rw[cY ev];exact g.rp v
  ·by_cases ev:v=d.2.1
   ·subst ev;rw[eX];exact Nat.le_refl _
   ·rw[cY ev];have:=g.tc v;lia
  ·by_cases ea:a=d.2.1
   ·by_cases eb:b=d.2.1
    ·rw[ea,eb]
    ·subst ea
     rw[eX,cY eb]at hab
     have:=g.tc b
     lia
   ·by_cases eb:b=d.2.1
    ·subst eb
     rw[eX,cY ea]at hab
     have:=g.tc a
     lia
    ·rw[cY ea]at ha hab
     rw[cY eb]at hab
     exact g.inj a b ha hab
  ·by_cases ev:v=d.2.1
   ·subst ev;rw[eX]
   ·rw[cY ev];exact hv
 ·have e:aM s d=s:=by unfold aM;rw[if_neg h]
  rw[e]
  refine⟨R,T,⟨g.lv,g.lo,g.or,λx hx=>g.suf x (mem_cons_of_mem _ hx),λx hx hr=>?_,g.rp,λv=>Nat.le_succ_of_le (g.tc v),g.inj⟩,.inl rfl,λv h=>h⟩
  rcases mem_append.mp hx with hx|hx
  ·exact g.pre x hx hr
  ·rcases mem_singleton.mp hx with rfl
   exact Int.not_lt.mp h
theorem GR{n:Nat}{ds:List Dm}(hd:cL n ds)(hne:∀d∈ds,d.1≠d.2.1){p:Nat}:∀(suf pre:List Dm)(c:Nat)(s:Rs)(R T:Nat->Nat),(∀d∈suf,d∈ds)->Gh n ds p c pre suf s R T->(s.2.2=.non\/∃v:Nat,v<n/\s.2.2=.int v/\R v=p)->
  ∃c' R' T',Gh n ds p c' (pre++suf) [] (suf.foldl aM s) R' T'/\((suf.foldl aM s).2.2=.non\/∃v:Nat,v<n/\(suf.foldl aM s).2.2=.int v/\R' v=p)
 |[],pre,c,s,R,T,_,g,h=>⟨c,R,T,by rw[append_nil];exact g,h⟩
 | d::suf,pre,c,s,R,T,hs,g,h=>by
  obtain⟨R',T',g',h',k'⟩:=WT hd hne (hs d mem_cons_self) g
  have:=GR hd hne suf (pre++[d]) (c+1) (aM s d) R' T' (λx hx=>hs x (mem_cons_of_mem _ hx)) g' (by
   rcases h' with h'|h'
   ·rw[h']
    rcases h with h|⟨v,hv,a,b⟩
    ·exact .inl h
    ·exact .inr ⟨v,hv,a,k' v b⟩
   ·exact .inr h')
  rw[append_assoc]at this
  exact this
theorem GQ{n:Nat}{ds:List Dm}(hd:cL n ds)(hne:∀d∈ds,d.1≠d.2.1):∀(k:Nat)(p c:Nat)(s:Rs)(R T:Nat->Nat),Gh n ds (p+1) c [] ds s R T->(s.2.2=.non\/∃v:Nat,v<n/\s.2.2=.int v/\R v=p)->(∀v,R v<=p)->
  (bB ds k s.1 s.2.1 s.2.2).2.2≠.non->∃c' R' T',Gh n ds (p+k+1) c' [] ds (bB ds k s.1 s.2.1 s.2.2) R' T'/\∃v:Nat,v<n/\(bB ds k s.1 s.2.1 s.2.2).2.2=.int v/\R' v=p+k
 |0,p,c,s,R,T,g,h,hp,e=>by
  rw[bB]at e ⊢
  rcases h with h|h
  ·exact absurd h e
  ·exact⟨c,R,T,g,h⟩
 | k+1,p,c,s,R,T,g,h,hp,e=>by
  rw[bB]at e ⊢
  obtain⟨c',R',T',g',h'⟩:=GR hd hne ds [] c (s.1,s.2.1,.non) R T (λ_ h=>h) ⟨g.lv,g.lo,λv hv=>(g.or v hv).imp id λ⟨a,u,b,o⟩=>⟨a,u,b,o.at',o.mem,o.rr,o.le,o.lt⟩,g.suf,g.pre,g.rp,g.tc,g.inj⟩ (.inl rfl)
  change Gh n ds (p+1) c' ([]++ds) [] (bH ds s.1 s.2.1) R' T' at g'
  by_cases z:(bH ds s.1 s.2.1).2.2=.non
  ·rw[if_pos z]at e
   exact absurd rfl e
  ·rw[if_neg z]at e ⊢
   have g2:Gh n ds (p+1+1) c' [] ds (bH ds s.1 s.2.1) R' T':=⟨g'.lv,g'.lo,g'.or,λd hd' hr=>g'.pre d (by simpa using hd') (by lia),λ_ h=>(nomatch h),λv=>Nat.le_succ_of_le (g'.rp v),g'.tc,g'.inj⟩
   have:=GQ hd hne k (p+1) c' (bH ds s.1 s.2.1) R' T' g2 h' g'.rp e
   rw[show p+(k+1)=p+1+k by lia]
   exact this
theorem WU{n:Nat}{ds:List Dm}(hd:cL n ds)(hne:∀d∈ds,d.1≠d.2.1)(e:(bB ds n (replicate n 0) (replicate n .non) .non).2.2≠.non):
  ∃c R T,Gh n ds (n+1) c [] ds (bB ds n (replicate n 0) (replicate n .non) .non) R T/\∃v:Nat,v<n/\(bB ds n (replicate n 0) (replicate n .non) .non).2.2=.int v/\R v=n:=by
 have g:Gh n ds (0+1) 0 [] ds (replicate n 0,replicate n .non,.non) (λ_=>0) (λ_=>0):=⟨length_replicate,length_replicate,λv hv=>.inl ⟨by rw[List.getElem?_replicate,if_pos hv],rfl⟩,λ_ _ h=>absurd h (by lia),λ_ h=>(nomatch h),λ_=>Nat.zero_le _,λ_=>Nat.le_refl _,λ_ _ h=>absurd h (by decide)⟩
 have:=GQ hd hne n 0 0 _ _ _ g (.inl rfl) (λ_=>Nat.le_refl _) e
 rw[Nat.zero_add]at this
 exact this
noncomputable def bk(orgs:List V)(v:Nat):Nat:=match orgs[v]? with|some (.int u)=>u.toNat|_=>v
noncomputable def aB(orgs:List V):Nat->Nat->Nat
 |0,v=>v
 |k+1,v=>bk orgs (aB orgs k v)
theorem iT(orgs:List V)(a v:Nat):∀b,aB orgs (a+b) v=aB orgs b (aB orgs a v)
 |0=>rfl
 |b+1=>by show bk orgs (aB orgs (a+b) v)=bk orgs _;rw[iT orgs a v b]
theorem Y6{orgs:List V}{v u:Nat}(h:orgs[v]? =some (.int (u:Nat))):bk orgs v=u:=by
 unfold bk;rw[h];exact Int.toNat_natCast u
theorem QK:∀(n:Nat)(f:Nat->Nat),(∀i,i<=n->f i<n)->∃i j,i<j/\j<=n/\f i=f j:=by
 intro n f h
 by_cases z:∃i j,i<j/\j<=n/\f i=f j
 ·exact z
 ·exfalso
  have nd:((range (n+1)).map f).Nodup:=by
   unfold List.Nodup
   rw[pairwise_map]
   refine List.Pairwise.imp_of_mem ?_ (pairwise_lt_range (n:=n+1))
   intro a b ha hb hab e
   exact z ⟨a,b,hab,by have:=mem_range.mp hb;lia,e⟩
  have sub:((range (n+1)).map f)⊆range n:=λx hx=>by
   obtain⟨i,hi,rfl⟩:=mem_map.mp hx
   exact mem_range.mpr (h i (by have:=mem_range.mp hi;lia))
  have:=nd.length_le_of_subset sub
  rw[length_map,length_range,length_range]at this
  lia
structure IS (n:Nat) (ds:List Dm) (orgs:List V) (s c:Nat):Prop where
 c2:2<=c
 cn:c<=n
 ret:aB orgs c s=s
 first:∀i,1<=i->i<c->aB orgs i s≠s
 org:∀i,∃b,orgs[aB orgs i s]? =some (.int (aB orgs (i+1) s:Nat))/\(aB orgs (i+1) s,aB orgs i s,b)∈ds
 dist:∀i j,i<j->j<c->aB orgs i s≠aB orgs j s
theorem M4{n:Nat}{ds:List Dm}(hd:cL n ds)(hne:∀d∈ds,d.1≠d.2.1)(e:(bB ds n (replicate n 0) (replicate n .non) .non).2.2≠.non){orgs:List V}(ho:orgs=(bB ds n (replicate n 0) (replicate n .non) .non).2.1):
  ∃r:Nat,r<n/\(bB ds n (replicate n 0) (replicate n .non) .non).2.2=.int r/\(∀i,orgs[aB orgs i r]? =some (.int (aB orgs (i+1) r:Nat)))/\(∃c,IS n ds orgs (aB orgs n r) c)/\
   ∃(vals:List Int)(T:Nat->Nat),∀i,∃b,(aB orgs (i+1) r,aB orgs i r,b)∈ds/\gt vals (aB orgs i r)<=gt vals (aB orgs (i+1) r)+b/\(T (aB orgs i r)<T (aB orgs (i+1) r)->gt vals (aB orgs i r)<gt vals (aB orgs (i+1) r)+b)/\(T (aB orgs i r)=T (aB orgs (i+1) r)->aB orgs i r=aB orgs (i+1) r):=by
 obtain⟨c,R,T,g,r,hr,er,eR⟩:=WU hd hne e
 have st:∀v,v<n->1<=R v->∃b,z8 ds (bB ds n (replicate n 0) (replicate n .non) .non) R T v (bk orgs v) b/\1<=T v/\bk orgs v<n:=λv hv h1=>by
  rcases g.or v hv with⟨_,h⟩|⟨t1,u,b,o⟩
  ·lia
  ·have:bk orgs v=u:=Y6 (by rw[ho];exact o.at')
   rw[this]
   exact⟨b,o,t1,(hd _ o.mem).1⟩
 have ch:∀i,i<=n->aB orgs i r<n/\n<=R (aB orgs i r)+i:=by
  intro i
  induction i with
  |zero=>intro _;exact⟨hr,by show n<=R r+0;lia⟩
  |succ i ih=>
   intro hi
   obtain⟨a,b⟩:=ih (by lia)
   obtain⟨w,o,_,l⟩:=st _ a (by lia)
   refine⟨l,?_⟩
   show n<=R (bk orgs (aB orgs i r))+(i+1)
   have:=o.rr
   lia
 obtain⟨i,j,hij,hj,ef⟩:=QK n (λi=>aB orgs i r) λi hi=>(ch i hi).1
 have ef':aB orgs i r=aB orgs j r:=ef
 have back:∀m,∃m',m'<j/\aB orgs m r=aB orgs m' r:=by
  intro m
  induction m with
  |zero=>exact⟨0,by lia,rfl⟩
  | succ m ih=>
   obtain⟨m',h1,h2⟩:=ih
   have e2:aB orgs (m+1) r=aB orgs (m'+1) r:=by show bk orgs _=bk orgs _;rw[h2]
   by_cases z:m'+1<j
   ·exact⟨m'+1,z,e2⟩
   ·have:m'+1=j:=by lia
    exact⟨i,hij,by rw[e2,this,ef']⟩
 have all:∀m,aB orgs m r<n/\∃b,z8 ds (bB ds n (replicate n 0) (replicate n .non) .non) R T (aB orgs m r) (aB orgs (m+1) r) b/\1<=T (aB orgs m r):=λm=>by
  obtain⟨m',h1,h2⟩:=back m
  obtain⟨a,b⟩:=ch m' (by lia)
  have e2:aB orgs (m+1) r=bk orgs (aB orgs m' r):=by show bk orgs _=_;rw[h2]
  rw[e2,h2]
  obtain⟨w,o,t1,_⟩:=st _ a (by lia)
  exact⟨a,w,o,t1⟩
 have at':∀m,orgs[aB orgs m r]? =some (.int (aB orgs (m+1) r:Nat)):=λm=>by
  obtain⟨_,b,o,_⟩:=all m
  have:=o.at'
  rw[<-ho]at this
  exact this
 have per:aB orgs (j-i) (aB orgs n r)=aB orgs n r:=by
  rw[<-iT,show n+(j-i)=j+(n-i) by lia,iT,<-ef',<-iT,show i+(n-i)=n by lia]
 have ex:∃c,1<=c/\c<=n/\aB orgs c (aB orgs n r)=aB orgs n r/\∀k,1<=k->k<c->aB orgs k (aB orgs n r)≠aB orgs n r:=by
  have:∀m,1<=m->m<=n->aB orgs m (aB orgs n r)=aB orgs n r->∃c,1<=c/\c<=n/\aB orgs c (aB orgs n r)=aB orgs n r/\∀k,1<=k->k<c->aB orgs k (aB orgs n r)≠aB orgs n r:=by
   intro m
   induction m using Nat.strongRecOn with
   | _ m ih=>
    intro h1 h2 h3
    by_cases z:∃k,1<=k/\k<m/\aB orgs k (aB orgs n r)=aB orgs n r
    ·obtain⟨k,k1,k2,k3⟩:=z
     exact ih k k2 k1 (by lia) k3
    ·exact⟨m,h1,h2,h3,λk k1 k2 k3=>z ⟨k,k1,k2,k3⟩⟩
  exact this (j-i) (by lia) (by lia) per
 obtain⟨c0,c1,cn,cr,cf⟩:=ex
 refine⟨r,hr,er,at',⟨c0,⟨?_,cn,cr,cf,λm=>?_,λa b hab hb z=>?_⟩⟩,(bB ds n (replicate n 0) (replicate n .non) .non).1,T,λm=>?_⟩
 ·refine Nat.le_of_not_lt λz=>?_
  have e1:c0=1:=by lia
  subst e1
  obtain⟨_,b,o,_⟩:=all n
  have:=hne _ o.mem
  exact this cr
 ·rw[<-iT,<-iT]
  obtain⟨_,b,o,_⟩:=all (n+m)
  exact⟨b,at' (n+m),o.mem⟩
 ·
  have e1:aB orgs (c0-b) (aB orgs a (aB orgs n r))=aB orgs (c0-b) (aB orgs b (aB orgs n r)):=by rw[z]
  have e2:aB orgs (a+(c0-b)) (aB orgs n r)=aB orgs (b+(c0-b)) (aB orgs n r):=by rw[iT,iT];exact e1
  rw[show b+(c0-b)=c0 by lia,cr]at e2
  exact cf (a+(c0-b)) (by lia) (by lia) e2
 ·obtain⟨_,b,o,t1⟩:=all m
  exact⟨b,o.mem,o.le,o.lt,λz=>g.inj _ _ t1 z⟩
theorem mem_dm{n:Nat}{ps:List (Int×Int)}{st:Int}{d:Dm}:d∈dI n ps st n<->d.1<n/\d.2.1<n/\d.1≠d.2.1/\dU ps st d.1 d.2.1=some d.2.2:=by
 unfold dI fV
 rw[mem_flatMap]
 constructor
 ·rintro⟨i,hi,h⟩
  obtain⟨j,hj,h⟩:=mem_flatMap.mp h
  unfold eO at h
  split at h
  ·cases h
  ·rename_i hne
   split at h
   ·rename_i k e
    rcases mem_singleton.mp h with rfl
    exact⟨mem_range.mp hi,mem_range.mp hj,hne,e⟩
   ·cases h
 ·rintro⟨hi,hj,hne,e⟩
  refine⟨d.1,mem_range.mpr hi,mem_flatMap.mpr ⟨d.2.1,mem_range.mpr hj,?_⟩⟩
  unfold eO
  rw[if_neg hne,e]
  exact mem_singleton.mpr rfl
theorem HE{n:Nat}{ps:List (Int×Int)}{st:Int}:∀d∈dI n ps st n,d.1≠d.2.1:=λd h=>(mem_dm.mp h).2.2.1
noncomputable def lY(orgs:List V)(s c:Nat):List Nat:=((range c).map λi=>aB orgs i s).reverse
theorem tZ(orgs:List V)(s c:Nat):(lY orgs s c).length=c:=by simp[lY]
theorem iY{orgs:List V}{s c i:Nat}(h:i<c):(lY orgs s c)[i]? =some (aB orgs (c-1-i) s):=by
 unfold lY
 rw[List.getElem?_reverse (by simpa using h),List.getElem?_map,length_map,length_range,List.getElem?_range (by lia)]
 rfl
structure RB (n:Nat) (ds:List Dm) (orgs:List V) (r c:Nat):Prop where
 lo:orgs.length=n
 rn:r<n
 at':∀i,orgs[aB orgs i r]? =some (.int (aB orgs (i+1) r:Nat))
 rnd:IS n ds orgs (aB orgs n r) c
 val:∃(vals:List Int)(T:Nat->Nat),∀i,∃b,(aB orgs (i+1) r,aB orgs i r,b)∈ds/\gt vals (aB orgs i r)<=gt vals (aB orgs (i+1) r)+b/\(T (aB orgs i r)<T (aB orgs (i+1) r)->gt vals (aB orgs i r)<gt vals (aB orgs (i+1) r)+b)/\(T (aB orgs i r)=T (aB orgs (i+1) r)->aB orgs i r=aB orgs (i+1) r)
noncomputable def nT(n:Nat)(ds:List Dm)(th:List Nat):Prop:=∃orgs r c,RB n ds orgs r c/\th=lY orgs (aB orgs n r) c
theorem GJ{n:Nat}{ds:List Dm}{th:List Nat}(h:nT n ds th):2<=th.length/\th.length<=n:=by
 obtain⟨orgs,r,c,R,rfl⟩:=h
 rw[tZ]
 exact⟨R.rnd.c2,R.rnd.cn⟩
theorem mO{n:Nat}{ds:List Dm}{th:List Nat}(h:nT n ds th){i:Nat}(hi:i<th.length):∃a b k,th[i]? =some a/\th[(i+1)%th.length]? =some b/\(a,b,k)∈ds:=by
 obtain⟨orgs,r,c,R,rfl⟩:=h
 rw[tZ]at hi ⊢
 by_cases z:i+1<c
 ·rw[Nat.mod_eq_of_lt z,iY hi,iY z]
  obtain⟨k,_,m⟩:=R.rnd.org (c-1-(i+1))
  rw[show c-1-(i+1)+1=c-1-i by lia]at m
  exact⟨_,_,k,rfl,rfl,m⟩
 ·have e:i+1=c:=by lia
  rw[e,Nat.mod_self,iY hi,iY (by lia)]
  obtain⟨k,_,m⟩:=R.rnd.org (c-1)
  rw[show c-1+1=c by lia,R.rnd.ret]at m
  rw[show c-1-i=0 by lia]
  exact⟨_,_,k,rfl,rfl,m⟩
noncomputable def nI(th:List Nat):List V:=th.map λ(i:Nat)=>V.int (i:Int)
noncomputable def dP(K:Nat->Int):Nat->Int
 |0=>0
 |m+1=>dP K m+K m
theorem A2{f K:Nat->Int}:∀m,(∀j,j<m->f j<=f (j+1)+K j)->f 0-f m<=dP K m/\((∃j,j<m/\f j<f (j+1)+K j)->f 0-f m<dP K m)
 |0,_=>⟨by simp[dP],λ⟨j,h,_⟩=>absurd h (Nat.not_lt_zero _)⟩
 | m+1,h=>by
  obtain⟨a,b⟩:=A2 m λj hj=>h j (by lia)
  have hm:=h m (by lia)
  refine⟨by rw[dP];lia,?_⟩
  rintro⟨j,hj,hs⟩
  rw[dP]
  by_cases z:j<m
  ·have:=b ⟨j,z,hs⟩
   lia
  ·have e:j=m:=by lia
   subst e
   lia
theorem rT(K:Nat->Int):∀m,((range m).map K).sum=dP K m
 |0=>rfl
 |m+1=>by rw[range_succ,map_append,sum_append,rT K m,dP];simp
theorem BR:∀l:List Int,l.reverse.sum=l.sum
 |[]=>rfl
 |a::l=>by rw[reverse_cons,sum_append,BR l,List.sum_cons];simp;lia
theorem WC{n:Nat}{ds:List Dm}(hne:∀d∈ds,d.1≠d.2.1){th:List Nat}(h:nT n ds th){K:Nat->Int}
  (hK:∀(i a b:Nat)(k:Int),i<th.length->th[i]? =some a->th[(i+1)%th.length]? =some b->(a,b,k)∈ds->k<=K i):0<((range th.length).map K).sum:=by
 obtain⟨orgs,r,c,R,rfl⟩:=h
 rw[tZ]at hK ⊢
 have c2:=R.rnd.c2
 obtain⟨vals,T,hv⟩:=R.val
 have X:∀j,aB orgs j (aB orgs n r)=aB orgs (n+j) r:=λj=>(iT orgs n r j).symm
 let J:Nat->Nat:=λj=>if j+1<c then c-2-j else c-1
 have st:∀j,j<c->∃b,(aB orgs (n+(j+1)) r,aB orgs (n+j) r,b)∈ds/\b<=K (J j)/\gt vals (aB orgs (n+j) r)<=gt vals (aB orgs (n+(j+1)) r)+b/\(T (aB orgs (n+j) r)<T (aB orgs (n+(j+1)) r)->gt vals (aB orgs (n+j) r)<gt vals (aB orgs (n+(j+1)) r)+b):=λj hj=>by
  obtain⟨b,h1,h2,h3,_⟩:=hv (n+j)
  refine⟨b,h1,?_,h2,h3⟩
  by_cases z:j+1<c
  ·have e:J j=c-2-j:=if_pos z
   rw[e]
   refine hK (c-2-j) _ _ b (by lia) (iY (by lia)) ?_ (by
    rw[X,show n+(c-1-(c-2-j))=n+(j+1) by lia]
    exact h1)
   rw[Nat.mod_eq_of_lt (by lia),iY (by lia),X,show n+(c-1-(c-2-j+1))=n+j by lia]
  ·have e:J j=c-1:=if_neg z
   have ej:j=c-1:=by lia
   subst ej
   rw[e]
   have er:aB orgs (n+(c-1+1)) r=aB orgs n r:=by
    rw[show c-1+1=c by lia,<-X]
    exact R.rnd.ret
   refine hK (c-1) (aB orgs n r) _ b (by lia) ?_ ?_ (by rw[<-er];exact h1)
   ·rw[iY (by lia),show c-1-(c-1)=0 by lia]
    rfl
   ·rw[show c-1+1=c by lia,Nat.mod_self,iY (by lia),X,show n+(c-1-0)=n+(c-1) by lia]
 have cyc:aB orgs (n+c) r=aB orgs (n+0) r:=by rw[<-X,R.rnd.ret];rfl
 have key:=A2 (f:=λj=>gt vals (aB orgs (n+j) r)) (K:=λj=>K (J j)) c λj hj=>by
  obtain⟨b,_,h1,h2,_⟩:=st j hj
  show gt vals (aB orgs (n+j) r)<=gt vals (aB orgs (n+(j+1)) r)+K (J j)
  lia
 have strict:∃j,j<c/\gt vals (aB orgs (n+j) r)<gt vals (aB orgs (n+(j+1)) r)+K (J j):=by
  by_cases z:∃j,j<c/\T (aB orgs (n+j) r)<T (aB orgs (n+(j+1)) r)
  ·obtain⟨j,hj,ht⟩:=z
   obtain⟨b,_,h1,_,h3⟩:=st j hj
   have:=h3 ht
   exact⟨j,hj,by lia⟩
  ·exfalso
   have dn:∀j,j<c->T (aB orgs (n+(j+1)) r)<=T (aB orgs (n+j) r):=λj hj=>Nat.le_of_not_lt λy=>z ⟨j,hj,y⟩
   have dn2:∀m,m+1<=c->T (aB orgs (n+(m+1)) r)<=T (aB orgs (n+1) r):=by
    intro m
    induction m with
    |zero=>intro _;exact Nat.le_refl _
    |succ m ih=>intro hm;exact Nat.le_trans (dn (m+1) (by lia)) (ih (by lia))
   have e1:=dn2 (c-1) (by lia)
   rw[show c-1+1=c by lia,cyc]at e1
   have e2:=dn 0 (by lia)
   obtain⟨b,h1,_,_,h4⟩:=hv (n+0)
   have e3:=h4 (Nat.le_antisymm e1 e2)
   exact hne _ h1 e3.symm
 have tot:=key.2 strict
 have e0:gt vals (aB orgs (n+0) r)-gt vals (aB orgs (n+c) r)=0:=by rw[cyc];lia
 have tot':gt vals (aB orgs (n+0) r)-gt vals (aB orgs (n+c) r)<dP (λj=>K (J j)) c:=tot
 rw[e0]at tot'
 have es:((range c).map K).sum=dP (λj=>K (J j)) c:=by
  obtain⟨m,rfl⟩:∃m,c=m+1:=⟨c-1,by lia⟩
  rw[range_succ,map_append,sum_append,dP]
  have eJ:J m=m:=by
   show(if m+1<m+1 then _ else _)=_
   rw[if_neg (Nat.lt_irrefl _)]
   rfl
  have e4:dP (λj=>K (J j)) m=((range m).map K).sum:=by
   rw[<-rT,<-BR]
   congr 1
   refine List.ext_getElem? λi=>?_
   by_cases hi:i<m
   ·rw[List.getElem?_reverse (by simpa using hi),List.getElem?_map,List.getElem?_map,length_map,length_range,List.getElem?_range (by lia),List.getElem?_range hi]
    show some (K (J (m-1-i)))=some (K i)
    have:J (m-1-i)=i:=by
     show(if m-1-i+1<m+1 then m+1-2-(m-1-i) else m+1-1)=i
     rw[if_pos (by lia)]
     lia
    rw[this]
   ·rw[List.getElem?_eq_none (by simp;lia),List.getElem?_eq_none (by simp;lia)]
  rw[e4]
  show _+_=_+K (J m)
  rw[eJ]
  simp
 rw[es]
 exact tot'
noncomputable def Rl(s0:Int)(line:List Int)(i j:Nat):Prop:=gt line j-gt line i>=s0
theorem UU(s0:Int)(line:List Int):Nt.gG line.length (Rl s0 line) s0 (gt line):=λi j _ _=>Iff.rfl
theorem sB{s0 st:Int}(h0:1<=s0)(hs:1<=st){line:List Int}{x:Nat->Int}:dX (dI line.length (cN s0 line) st line.length) x<->Nt.gG line.length (Rl s0 line) st x:=by
 have hasR:∀i j:Nat,i<line.length->j<line.length->(has (cN s0 line) i j=true<->Rl s0 line i j):=λi j hi hj=>by
  rw[GP hi hj]
  exact decide_eq_true_iff
 constructor
 ·intro h i j hi hj
  have up:∀a b:Nat,a<line.length->b<line.length->Rl s0 line a b->x a+st<=x b:=λa b ha hb r=>by
   have hne:a≠b:=by intro e;subst e;unfold Rl at r;lia
   refine h (a,b,st) (mem_dm.mpr ⟨ha,hb,hne,?_⟩)
   unfold dU
   rw[if_pos ((hasR a b ha hb).mpr r)]
  constructor
  ·intro g
   apply Classical.byContradiction
   intro nr
   by_cases hne:i=j
   ·subst hne;lia
   ·by_cases r2:Rl s0 line j i
    ·have:=up j i hj hi r2
     lia
    ·have n1:¬has (cN s0 line) j i=true:=λz=>r2 ((hasR j i hj hi).mp z)
     have n2:¬has (cN s0 line) i j=true:=λz=>nr ((hasR i j hi hj).mp z)
     have:=h (j,i,1-st) (mem_dm.mpr ⟨hj,hi,λe=>hne e.symm,by unfold dU;rw[if_neg n1,if_neg n2]⟩)
     have this':x j+(1-st)<=x i:=this
     lia
  ·intro r
   have:=up i j hi hj r
   lia
 ·intro h d hd
  obtain⟨hi,hj,hne,e⟩:=mem_dm.mp hd
  unfold dU at e
  by_cases r1:has (cN s0 line) d.1 d.2.1=true
  ·rw[if_pos r1]at e
   have:=(h d.1 d.2.1 hi hj).mpr ((hasR _ _ hi hj).mp r1)
   have:st=d.2.2:=Option.some.inj e
   lia
  ·rw[if_neg r1]at e
   by_cases r2:has (cN s0 line) d.2.1 d.1=true
   ·rw[if_pos r2]at e;cases e
   ·rw[if_neg r2]at e
    have g:¬(x d.1-x d.2.1>=st):=λz=>r2 ((hasR _ _ hj hi).mpr ((h d.2.1 d.1 hj hi).mp z))
    have:1-st=d.2.2:=Option.some.inj e
    lia
section
variable{s0:Int}{line:List Int}(h0:1<=s0)(h1:1<=line.length)
include h0 h1
theorem SH{st:Int}(hs:1<=st){vals:List Int}(h:cJ line.length (cN s0 line) st=some vals):vals.length=line.length/\Nt.aaD line.length (Rl s0 line) st (gt vals):=by
 obtain⟨a,b,c,d⟩:=vV h1 (lD _ _ _) h
 exact⟨a,(sB h0 hs).mp c,b,λy hy yn=>d y ((sB h0 hs).mpr hy) yn⟩
theorem SI{st:Int}(hs:1<=st){x:Nat->Int}(hx:Nt.gG line.length (Rl s0 line) st x)(nx:Nt.NN line.length x):∃vals,cJ line.length (cN s0 line) st=some vals:=
 UK h1 (lD _ _ _) ((sB h0 hs).mpr hx) nx
end
theorem EZ{n:Nat}{ps:List (Int×Int)}(ho:Ord n ps)(a:Int):has ps a a=false:=by
 cases h:has ps a a with
 |false=>rfl
 |true=>exact absurd rfl (ho.ix _ (of_decide_eq_true h)).2.2.2.2
theorem fH{α:Type}{l:List α}{p:α->Bool}(h:l.any p=false){x:α}(hx:x∈l):p x=false:=by
 cases e:p x with
 |false=>rfl
 |true=>rw[any_eq_true.mpr ⟨x,hx,e⟩]at h;cases h
theorem CZ{n:Nat}{ps:List (Int×Int)}(ho:Ord n ps)(hb:bT n ps=false):Wk.Sm n (λa b=>has ps a b=true):=by
 unfold bT at hb
 rw[Bool.or_eq_false_iff]at hb
 refine⟨λa _ h=>(by rw[EZ ho]at h;cases h),λa b c d ha hb' hc hd h1 h2=>?_,λa b c d ha hb' hc hd h1 h2=>?_⟩
 ·have:=fH (fH hb.1 (of_decide_eq_true h1)) (of_decide_eq_true h2)
  unfold g8 at this
  dsimp only at this
  rw[h1,h2]at this
  cases e1:has ps a d with
  |true=>exact .inl rfl
  |false=>
   cases e2:has ps c b with
   |true=>exact .inr rfl
   |false=>rw[e1,e2]at this;cases this
 ·have:=fH (fH (fH hb.2 (of_decide_eq_true h1)) (mem_range.mpr hc)) (mem_range.mpr hd)
  unfold g7 at this
  dsimp only at this
  rw[h1,h2]at this
  cases e1:has ps a d with
  |true=>exact .inl rfl
  |false=>
   cases e2:has ps d c with
   |true=>exact .inr rfl
   |false=>rw[e1,e2]at this;cases this
theorem DE(ds:List Dm):∀(k:Nat)(vals:List Int)(orgs:List V)(r:V),(bB ds k vals orgs r).1.length=vals.length/\(bB ds k vals orgs r).2.1.length=orgs.length
 |0,_,_,_=>⟨rfl,rfl⟩
 | k+1,vals,orgs,r=>by
  rw[bB]
  have h:=tX ds vals orgs
  split
  ·exact h
  ·have:=DE ds k (bH ds vals orgs).1 (bH ds vals orgs).2.1 (bH ds vals orgs).2.2
   exact⟨this.1.trans h.1,this.2.trans h.2⟩
theorem M5{n:Nat}{ds:List Dm}(hd:cL n ds)(hne:∀d∈ds,d.1≠d.2.1)(h:lv n ds=none):∃th,nT n ds th:=by
 have e:(bB ds n (replicate n 0) (replicate n .non) .non).2.2≠.non:=λz=>by
  unfold lv at h
  rw[if_pos z]at h
  cases h
 obtain⟨r,hr',er,at',⟨c,R⟩,vals,T',hval⟩:=M4 hd hne e rfl
 exact⟨_,_,r,c,⟨by rw[(DE ds n _ _ _).2,length_replicate],hr',at',R,vals,T',hval⟩,rfl⟩
noncomputable def bM(ps:List (Int×Int))(th:List Nat):Nat->List Bool
 |0=>[]
 |m+1=>bM ps th m++[has ps (th.getD m 0) (th.getD ((m+1)%th.length) 0)]
theorem DA(ps:List (Int×Int))(th:List Nat):∀m,(bM ps th m).length=m
 |0=>rfl
 |m+1=>by rw[bM,length_append,DA ps th m];rfl
theorem C9(ps:List (Int×Int))(th:List Nat)(st:Int):∀m,dP (λi=>if has ps (th.getD i 0) (th.getD ((i+1)%th.length) 0)=true then st else 1-st) m=(Wk.nt (bM ps th m):Int)*st+(Wk.nf (bM ps th m):Int)*(1-st)
 |0=>by simp[dP,bM,Wk.nt,Wk.nf]
 | m+1=>by
  rw[dP,C9 ps th st m,bM,Wk.iF,Wk.iG]
  cases e:has ps (th.getD m 0) (th.getD ((m+1)%th.length) 0) with
  |true=>
   rw[if_pos rfl,show Wk.nt [true]=1 from rfl,show Wk.nf [true]=0 from rfl]
   rw[show((Wk.nt (bM ps th m)+1:Nat):Int)=(Wk.nt (bM ps th m):Int)+1 by lia,Int.add_mul]
   rw[Nat.add_zero]
   lia
  |false=>
   rw[if_neg Bool.false_ne_true,show Wk.nt [false]=0 from rfl,show Wk.nf [false]=1 from rfl]
   rw[show((Wk.nf (bM ps th m)+1:Nat):Int)=(Wk.nf (bM ps th m):Int)+1 by lia,Int.add_mul]
   rw[Nat.add_zero]
   lia
theorem gX{th:List Nat}{i a:Nat}(h:th[i]? =some a):th.getD i 0=a:=by
 rw[List.getD_eq_getElem?_getD,h]
 rfl
theorem tY{n:Nat}{ps:List (Int×Int)}{st:Int}{th:List Nat}(h:nT n (dI n ps st n) th):∀m,m<=th.length->Wk.W n (λa b=>has ps a b=true) (th.getD 0 0) (th.getD (m%th.length) 0) (bM ps th m)
 |0,_=>by
  obtain⟨l2,_⟩:=GJ h
  obtain⟨a,b,k,h1,h2,h3⟩:=mO h (i:=0) (by lia)
  rw[Nat.zero_mod]
  refine .nil ?_
  rw[gX h1]
  exact(mem_dm.mp h3).1
 | m+1,hm=>by
  obtain⟨a,b,k,h1,h2,h3⟩:=mO h (i:=m) (by lia)
  have w:=tY h m (by lia)
  rw[Nat.mod_eq_of_lt (by lia)]at w
  rw[bM]
  refine w.app ?_
  rw[gX h1,gX h2]
  obtain⟨x1,x2,x3,x4⟩:=mem_dm.mp h3
  dsimp only at x1 x2 x3 x4
  cases e:has ps a b with
  |true=>exact .up x1 e (.nil x2)
  |false=>
   refine .fl x1 ?_ (.nil x2)
   intro z
   have z':has ps b a=true:=z
   unfold dU at x4
   rw[e,z']at x4
   cases x4
theorem NC{n:Nat}{ps:List (Int×Int)}(ho:Ord n ps)(hb:bT n ps=false){st:Int}(h4:4<=st):∃vals,cJ n ps st=some vals:=by
 cases e:cJ n ps st with
 |some v=>exact⟨v,rfl⟩
 | none=>
  exfalso
  obtain⟨th,h⟩:=M5 (lD n ps st) HE e
  obtain⟨l2,ln⟩:=GJ h
  have n8:=ho.hi
  have sm:=CZ ho hb
  have w:=tY h th.length (Nat.le_refl _)
  rw[Nat.mod_self]at w
  have hs:=WC HE h (K:=λi=>if has ps (th.getD i 0) (th.getD ((i+1)%th.length) 0)=true then st else 1-st) λi a b k hi h1 h2 h3=>by
   obtain⟨_,_,_,x4⟩:=mem_dm.mp h3
   dsimp only at x4 ⊢
   rw[gX h1,gX h2]
   unfold dU at x4
   cases e:has ps a b with
   |true=>rw[e]at x4;injection x4 with x4;rw[if_pos rfl];exact Int.le_of_eq x4.symm
   |false=>
    rw[e]at x4
    rw[if_neg Bool.false_ne_true]at x4 ⊢
    split at x4
    ·cases x4
    ·injection x4 with x4;exact Int.le_of_eq x4.symm
  rw[rT,C9]at hs
  have hl:=DA ps th th.length
  have mX:Wk.nt (bM ps th th.length)<Wk.nf (bM ps th th.length):=by
   rcases Nat.lt_trichotomy (Wk.nt (bM ps th th.length)) (Wk.nf (bM ps th th.length)) with g|g|g
   ·exact g
   ·exfalso
    have ex:∃m,m<th.length/\has ps (th.getD m 0) (th.getD ((m+1)%th.length) 0)=false:=by
     apply Classical.byContradiction
     intro z
     have all:∀m,m<=th.length->Wk.nf (bM ps th m)=0/\Wk.nt (bM ps th m)=m:=by
      intro m
      induction m with
      |zero=>intro _;exact⟨rfl,rfl⟩
      | succ m ih=>
       intro hm
       obtain⟨i1,i2⟩:=ih (by lia)
       have e:has ps (th.getD m 0) (th.getD ((m+1)%th.length) 0)=true:=by
        cases e:has ps (th.getD m 0) (th.getD ((m+1)%th.length) 0) with
        |true=>rfl
        |false=>exact absurd ⟨m,by lia,e⟩ z
       rw[bM,e,Wk.iG,Wk.iF,i1,i2]
       exact⟨rfl,rfl⟩
     obtain⟨i1,i2⟩:=all th.length (Nat.le_refl _)
     lia
    obtain⟨m,hm,em⟩:=ex
    have w1:=tY h m (by lia)
    rw[Nat.mod_eq_of_lt hm]at w1
    have sp:∀k,m+1+k<=th.length->∃v,bM ps th (m+1+k)=bM ps th m++(false::v)/\Wk.W n (λa b=>has ps a b=true) (th.getD ((m+1)%th.length) 0) (th.getD ((m+1+k)%th.length) 0) v:=by
     intro k
     induction k with
     |zero=>
      intro _
      refine⟨[],by rw[Nat.add_zero,bM,em],?_⟩
      obtain⟨a,b,k,h1,h2,h3⟩:=mO h (i:=m) hm
      rw[Nat.add_zero,gX h2]
      exact .nil (mem_dm.mp h3).2.1
     | succ k ih=>
      intro hk
      obtain⟨v,e1,e2⟩:=ih (by lia)
      obtain⟨a,b,j,h1,h2,h3⟩:=mO h (i:=m+1+k) (by lia)
      obtain⟨x1,x2,x3,x4⟩:=mem_dm.mp h3
      dsimp only at x1 x2 x3 x4
      refine⟨v++[has ps (th.getD (m+1+k) 0) (th.getD ((m+1+k+1)%th.length) 0)],?_,?_⟩
      ·rw[show m+1+(k+1)=m+1+k+1 by lia,bM,e1,append_assoc,List.cons_append]
      ·rw[Nat.mod_eq_of_lt (by lia:m+1+k<th.length)]at e2
       refine e2.app ?_
       rw[show m+1+(k+1)=m+1+k+1 by lia,gX h1,gX h2]
       cases e:has ps a b with
       |true=>exact .up x1 e (.nil x2)
       |false=>
        refine .fl x1 ?_ (.nil x2)
        intro z
        have z':has ps b a=true:=z
        unfold dU at x4
        rw[e,z']at x4
        cases x4
    obtain⟨v,e1,w2⟩:=sp (th.length-(m+1)) (by lia)
    rw[show m+1+(th.length-(m+1))=th.length by lia]at e1 w2
    rw[Nat.mod_self]at w2
    rw[e1,Wk.iF,Wk.iG,show(false::v)=[false]++v from rfl,Wk.iF,Wk.iG,show Wk.nt [false]=0 from rfl,show Wk.nf [false]=1 from rfl]at g
    have up:=Wk.rG sm _ _ (Nat.le_refl _) (by rw[Wk.iF,Wk.iG];lia) (w2.app w1)
    obtain⟨a,b,j,h1,h2,h3⟩:=mO h (i:=m) hm
    obtain⟨x1,x2,x3,x4⟩:=mem_dm.mp h3
    dsimp only at x1 x2 x3 x4
    rw[gX h1,gX h2]at up em
    unfold dU at x4
    rw[em,up]at x4
    cases x4
   ·have:=Wk.rG sm _ _ (Nat.le_refl _) g w
    exact absurd this (sm.irr _ w.fst)
  have tot:(Wk.nt (bM ps th th.length))+(Wk.nf (bM ps th th.length))=th.length:=by
   have h1:=List.length_eq_countP_add_countP (l:=bM ps th th.length) id
   have h2:Wk.nf (bM ps th th.length)=List.countP (λa=>decide ¬id a=true) (bM ps th th.length):=by
    unfold Wk.nf
    refine List.countP_congr ?_
    intro x _
    cases x <;> simp
   have h3:Wk.nt (bM ps th th.length)=List.countP id (bM ps th th.length):=rfl
   lia
  generalize Wk.nt (bM ps th th.length)=p at *
  generalize Wk.nf (bM ps th th.length)=q at *
  have hp:p<=3:=by lia
  have hq:(q:Int)*(1-st)<=((p:Int)+1)*(1-st):=by
   have:((q:Int)-(p+1))*(st-1)>=0:=Int.mul_nonneg (by lia) (by lia)
   have e1:((q:Int)-(p+1))*(st-1)=(p+1)*(1-st)-q*(1-st):=by
    rw[Int.sub_mul,show st-1=-(1-st) by lia,Int.mul_neg,Int.mul_neg]
    lia
   lia
  have e2:((p:Int)+1)*(1-st)=(p:Int)-p*st+1-st:=by
   rw[Int.add_mul,Int.mul_sub]
   lia
  lia
theorem rJ{n:Nat}{ps:List (Int×Int)}(ho:Ord n ps){st:Int}(hs:1<=st){vals:List Int}(h:cJ n ps st=some vals):vals.length=n/\cN st vals=ps/\∀v,v<n->0<=gt vals v:=by
 obtain⟨a,b,c,d⟩:=vV ho.lo (lD _ _ _) h
 refine⟨a,EF (yY _ _ _) (jN ho.up) λp=>?_,b⟩
 have key:∀i j:Nat,i<n->j<n->(vals.getD j 0-vals.getD i 0>=st<->has ps i j=true):=λi j hi hj=>by
  constructor
  ·intro g
   cases e:has ps i j with
   |true=>rfl
   | false=>
    exfalso
    by_cases ij:i=j
    ·subst ij;lia
    ·cases e2:has ps j i with
     |true=>
      have:=c (j,i,st) (mem_dm.mpr ⟨hj,hi,Ne.symm ij,by unfold dU;rw[e2];rfl⟩)
      have this':gt vals j+st<=gt vals i:=this
      unfold gt at this'
      lia
     |false=>
      have:=c (j,i,1-st) (mem_dm.mpr ⟨hj,hi,Ne.symm ij,by unfold dU;dsimp only;rw[e2,e];rfl⟩)
      have this':gt vals j+(1-st)<=gt vals i:=this
      unfold gt at this'
      lia
  ·intro e
   have ij:i≠j:=λz=>by rw[z,EZ ho]at e;cases e
   have:=c (i,j,st) (mem_dm.mpr ⟨hi,hj,ij,by unfold dU;rw[e];rfl⟩)
   have this':gt vals i+st<=gt vals j:=this
   unfold gt at this'
   lia
 constructor
 ·intro hp
  obtain⟨i,j,hi,hj,rfl,g⟩:=mem_tlAll.mp hp
  exact of_decide_eq_true ((key i j (by lia) (by lia)).mp g)
 ·intro hp
  obtain⟨x1,x2,x3,x4,_⟩:=ho.ix p hp
  obtain⟨i,hi⟩:∃i:Nat,p.1=i:=⟨p.1.toNat,by lia⟩
  obtain⟨j,hj⟩:∃j:Nat,p.2=j:=⟨p.2.toNat,by lia⟩
  have ep:p=((i:Int),(j:Int)):=Prod.ext hi hj
  refine mem_tlAll.mpr ⟨i,j,by lia,by lia,ep,(key i j (by lia) (by lia)).mpr ?_⟩
  rw[ep]at hp
  exact decide_eq_true hp
theorem LA{n:Nat}{ps:List (Int×Int)}(ho:Ord n ps)(hb:bT n ps=false):∃st vals,1<=st/\st<=4/\cJ n ps st=some vals/\(∀s',1<=s'->s'<st->cJ n ps s'=none)/\∀s',st<=s'->∃vs,cJ n ps s'=some vs:=by
 have ex:∃st:Int,1<=st/\st<=4/\(∃vals,cJ n ps st=some vals)/\∀s',1<=s'->s'<st->cJ n ps s'=none:=by
  cases e1:cJ n ps 1 with
  |some v=>exact⟨1,by lia,by lia,⟨v,e1⟩,λs' _ _=>by lia⟩
  | none=>
   cases e2:cJ n ps 2 with
   |some v=>exact⟨2,by lia,by lia,⟨v,e2⟩,λs' _ _=>by rw[show s'=1 by lia];exact e1⟩
   | none=>
    cases e3:cJ n ps 3 with
    |some v=>
     refine⟨3,by lia,by lia,⟨v,e3⟩,λs' _ _=>?_⟩
     rcases(by lia:s'=1\/s'=2) with rfl|rfl
     ·exact e1
     ·exact e2
    |none=>
     refine⟨4,by lia,by lia,NC ho hb (by lia),λs' _ _=>?_⟩
     rcases(by lia:s'=1\/s'=2\/s'=3) with rfl|rfl|rfl
     ·exact e1
     ·exact e2
     ·exact e3
 obtain⟨st,a,b,⟨vals,c⟩,d⟩:=ex
 refine⟨st,vals,a,b,c,d,λs' g=>?_⟩
 obtain⟨ln,et,_⟩:=rJ ho a c
 have h1:1<=vals.length:=by rw[ln];exact ho.lo
 obtain⟨k,rfl⟩:∃k:Nat,s'=st+k:=⟨(s'-st).toNat,by lia⟩
 have hc:=UU st vals
 have nl:Nt.NN vals.length (gt vals):=λi hi=>by
  obtain⟨_,h,_⟩:=vV ho.lo (lD _ _ _) c
  exact h i (by lia)
 have nb:∀i,i<vals.length->gt vals i<=Nt.sumTo (gt vals) vals.length*st:=λi hi=>by
  have h:∀n,(∀i,i<n->0<=gt vals i)->∀i,i<n->gt vals i<=Nt.sumTo (gt vals) n:=λn=>by
   induction n with
   |zero=>intro _ i hi;lia
   | succ n ih=>
    intro hn i hi
    simp only[Nt.sumTo]
    have s:=Nt.lW (x:=gt vals) (n:=n) λi hi=>hn i (by lia)
    have z:=hn n (by lia)
    by_cases e:i=n
    ·subst e;lia
    ·have:=ih (λi hi=>hn i (by lia)) i (by lia)
     lia
  have g:=h vals.length nl i hi
  have s:=Nt.lW nl
  have:Nt.sumTo (gt vals) vals.length*1<=Nt.sumTo (gt vals) vals.length*st:=Int.mul_le_mul_of_nonneg_left a s
  lia
 obtain⟨y,y1,y2,_⟩:=Nt.C3 a hc nl nb k
 have:=SI a h1 (by lia) y1 y2
 rw[ln,et]at this
 exact this
section
variable{P:Program}{w:World}{K:PySem.W.Frag}{mg:Str->Option Value}{base:Heap}{t:Ad}
theorem ZA{H:Hp}{v:V}{n:Nat}{ps:List (Int×Int)}(h:Is H v (j0 n ps)):decide (v=V.non)= !bT n ps:=by
 cases e:bT n ps with
 |false=>
  rw[IC e]at h
  cases h
  rfl
 |true=>
  obtain⟨ds,e'⟩:=ZB e
  rw[e']at h
  cases h
  rfl
noncomputable def bJ(p:Bool×List Int):PyData:=.tuple (.str (if p.1=true then "two" else "three")::p.2.map .int)
noncomputable def c7(ps:List (Int×Int))(p q:Int×Int):List (Bool×List Int):=if(!has ps p.1 q.2&& !has ps q.1 p.2)=true then[(true,[p.1,p.2,q.1,q.2])] else[]
noncomputable def dD(ps:List (Int×Int))(p q:Int×Int)(e:Nat):List (Bool×List Int):=if(!has ps p.1 e&& !has ps e q.2)=true then[(false,[p.1,p.2,q.2,(e:Int)])] else[]
noncomputable def fC(ps:List (Int×Int))(p q:Int×Int)(m:Nat):List (Bool×List Int):=(range m).flatMap (dD ps p q)
noncomputable def fA(n:Nat)(ps:List (Int×Int))(p q:Int×Int):List (Bool×List Int):=c7 ps p q++fC ps p q (if p.2=q.1 then n else 0)
noncomputable def fB(n:Nat)(ps:List (Int×Int))(p:Int×Int)(qs:List (Int×Int)):List (Bool×List Int):=qs.flatMap (fA n ps p)
noncomputable def cK(n:Nat)(ps:List (Int×Int))(rs:List (Int×Int)):List (Bool×List Int):=rs.flatMap λp=>fB n ps p ps
theorem vN(ps:List (Int×Int))(p q:Int×Int):∀m,(fC ps p q m).length<=m
 |0=>Nat.le_refl _
 | m+1=>by
  have:=vN ps p q m
  unfold fC at this ⊢
  rw[range_succ,flatMap_append,length_append]
  have e:([m].flatMap (dD ps p q)).length<=1:=by
   simp only[flatMap_cons,List.flatMap_nil,append_nil]
   unfold dD
   split <;> simp
  lia
theorem S7{n:Nat}(n8:n<=8)(ps:List (Int×Int))(p q:Int×Int):(fA n ps p q).length<=9:=by
 unfold fA
 rw[length_append]
 have h1:(c7 ps p q).length<=1:=by unfold c7;split <;> simp
 have h2:=vN ps p q (if p.2=q.1 then n else 0)
 have h3:(if p.2=q.1 then n else 0)<=8:=by split <;> lia
 lia
theorem w5{α β:Type}{f:α->List β}{k:Nat}:∀{l:List α},(∀x∈l,(f x).length<=k)->(l.flatMap f).length<=l.length*k
 |[],_=>by simp
 |x::l,h=>by
  rw[flatMap_cons,length_append,length_cons,Nat.succ_mul]
  have h1:=h x mem_cons_self
  have h2:=w5 (l:=l) λy hy=>h y (mem_cons_of_mem _ hy)
  lia
theorem FO{n:Nat}(n8:n<=8)(ps:List (Int×Int))(p:Int×Int)(qs:List (Int×Int)):(fB n ps p qs).length<=qs.length*9:=w5 λq _=>S7 n8 ps p q
theorem FP{n:Nat}(n8:n<=8)(ps:List (Int×Int))(rs:List (Int×Int)):(cK n ps rs).length<=rs.length*(ps.length*9):=w5 λp _=>FO n8 ps p ps
theorem vH:∀l:List (Bool×List Int),bR (l.map bJ)=true
 |[]=>rfl
 | p::l=>by
  rw[map_cons,bR,vH l]
  have:∀ns:List Int,bR (ns.map .int)=true:=λns=>by
   induction ns with
   |nil=>rfl
   |cons n ns ih=>rw[map_cons,bR,ih];rfl
  unfold bJ
  rw[cB,bR,this]
  rfl
theorem L9{ta tb:TS}{D:dN}{σ:St}{H:Hp}(C:St->Hp->Prop)(cA:∀σ' H',C σ' H'->tb D σ' H')(h:∀D':dN,D'.rt=D.rt->(∀σ' H',C σ' H'->D'.nx σ' H')->ta D' σ H):rM ta tb D σ H:=h { D with nx:=λσ' H'=>tb D σ' H' } rfl cA
noncomputable def fL(p:Int×Int):List aG×V:=([.inl p.1,.inl p.2],.bl true)
theorem rC(k:List aG):∀kvs:List (List aG×V),(bV kvs k).isSome=kvs.any λkv=>decide (kv.1=k)
 |[]=>rfl
 | p::r=>by
  rw[any_cons]
  by_cases h:p.1=k
  ·rw[lT h,decide_eq_true h]
   rfl
  ·rw[j7 h,decide_eq_false h,Bool.false_or]
   exact rC k r
theorem KN(kvs:List (List aG×V))(k k2:List aG)(v:V):(bV (cE kvs k v) k2).isSome=((bV kvs k2).isSome||decide (k=k2)):=by
 rw[rC,rC]
 unfold cE
 split
 ·rename_i h
  have e:((kvs.map λkv=>if kv.1=k then(kv.1,v) else kv).any λkv=>decide (kv.1=k2))=kvs.any λkv=>decide (kv.1=k2):=by
   rw[List.any_map]
   congr 1
   funext kv
   dsimp only[Function.comp]
   split <;> rfl
  rw[e]
  by_cases g:k=k2
  ·subst g
   rw[h]
   rfl
  ·rw[decide_eq_false g,Bool.or_false]
 ·rw[List.any_append]
  simp
theorem XT(ps:List (Int×Int))(i j:Int):(bV (cC (ps.map fL)) [.inl i,.inl j]).isSome=has ps i j:=by
 have go:∀(ps:List (Int×Int))(kvs:List (List aG×V)),(bV ((ps.map fL).foldl lC kvs) [.inl i,.inl j]).isSome=((bV kvs [.inl i,.inl j]).isSome||has ps i j):=by
  intro ps
  induction ps with
  |nil=>intro kvs;simp[has]
  | cons p ps ih=>
   intro kvs
   rw[map_cons,foldl_cons,ih]
   unfold lC
   rw[KN,Bool.or_assoc]
   congr 1
   unfold has fL
   have e:(([Sum.inl p.1,Sum.inl p.2]:List aG)=[Sum.inl i,Sum.inl j])<->(i,j)=p:=by
    constructor
    ·intro h
     injection h with h1 h2
     injection h1 with h1
     injection h2 with h2 _
     injection h2 with h2
     exact Prod.ext h1.symm h2.symm
    ·rintro rfl
     rfl
   rw[Bool.eq_iff_iff]
   simp only[Bool.or_eq_true,decide_eq_true_eq,mem_cons]
   rw[e]
 have:=go ps []
 rw[KO]at this
 simpa[cC]using this
theorem qE{H:Hp}{d b:Addr}{ps:List (Int×Int)}{i j:Int}(e:H d=some (.dT (cC (ps.map fL))))(eb:H b=some (.tup [.int i,.int j])){R:Bool->Prop}(h:R (!has ps i j)):
  ∃a o,V.ref d=V.ref a/\DGet H a (.ref b) o/\∃k,(V.bl !o.isSome)=V.bl k/\R k:=
 ⟨d,_,rfl,WW (S:=[i,j]) e eb rfl,_,rfl,by rw[show([i,j].map Sum.inl:List aG)=[.inl i,.inl j] from rfl,XT];exact h⟩
theorem II{H:Hp}{a:Addr}{b:Bool}{x:Str}{i j k l:Int}(hx:(if b=true then "two" else "three":Str)=x)(e:H a=some (.tup [.str x,.int i,.int j,.int k,.int l])):Is H (.ref a) (bJ (b,[i,j,k,l])):=by
 subst hx
 exact .tup e (.cons (.str _) (.cons (.int _) (.cons (.int _) (.cons (.int _) (.cons (.int _) .nil)))))
theorem P8{H:Hp}{ys:List V}{prs:List (List aG×V)}{a b:Addr}{p:List aG×V}(h:j2 H ys prs)(ha:H a=some (.tup [.ref b,p.2]))(hb:H b=some (.tup (p.1.map kV))):j2 H (ys++[.ref a]) (prs++[p]):=by
 refine⟨by rw[length_append,length_append,h.1];rfl,λj x hx=>?_⟩
 by_cases hj:j<ys.length
 ·rw[List.getElem?_append_left hj]at hx
  obtain⟨a',b',p',e1,e2,e3,e4⟩:=h.2 j x hx
  exact⟨a',b',p',e1,by rw[List.getElem?_append_left (by rw[h.1];exact hj)];exact e2,e3,e4⟩
 ·rw[List.getElem?_append_right (by lia)]at hx
  have:j-ys.length=0:=by
   have:=(List.getElem?_eq_some_iff.mp hx).1
   simp at this
   lia
  rw[this]at hx
  cases hx
  refine⟨a,b,p,rfl,?_,ha,hb⟩
  rw[List.getElem?_append_right (by rw[h.1];lia),h.1,this]
  rfl
theorem EL{H H':Hp}{ys:List V}{prs:List (List aG×V)}(h:j2 H ys prs)(s:Same H H'):j2 H' ys prs:=⟨h.1,λj x hx=>by
 obtain⟨a',b',p',e1,e2,e3,e4⟩:=h.2 j x hx
 exact⟨a',b',p',e1,e2,s _ _ e3,s _ _ e4⟩⟩
theorem S8{n:Nat}{ps:List (Int×Int)}{p q:Int×Int}{qs:List (Int×Int)}{j:Nat}(h:qs[j]? =some q):fB n ps p (qs.take (j+1))=fB n ps p (qs.take j)++fA n ps p q:=by
 unfold fB
 rw[take_add_one,h,flatMap_append]
 simp
theorem TB{n:Nat}{ps:List (Int×Int)}{p:Int×Int}{rs:List (Int×Int)}{j:Nat}(h:rs[j]? =some p):cK n ps (rs.take (j+1))=cK n ps (rs.take j)++fB n ps p ps:=by
 unfold cK
 rw[take_add_one,h,flatMap_append]
 simp
theorem TC(ps:List (Int×Int))(p q:Int×Int)(m:Nat):fC ps p q (m+1)=fC ps p q m++dD ps p q m:=by
 unfold fC
 rw[range_succ,flatMap_append]
 simp
theorem jP{H:Hp}{xs:List V}{ps:List (Int×Int)}{i:Nat}{x:V}(h:IsAll H xs (ps.map aJ))(hx:xs[i]? =some x):∃p r,ps[i]? =some p/\x=.ref r/\H r=some (.tup [.int p.1,.int p.2]):=by
 obtain⟨d,ed,id⟩:=h.get' hx
 rw[List.getElem?_map]at ed
 cases e:ps[i]? with
 |none=>rw[e]at ed;cases ed
 | some p=>
  rw[e]at ed
  cases ed
  unfold aJ at id
  cases id with
  |@tup r ys _ er hys=>
   obtain rfl:=lU hys
   exact⟨p,r,rfl,rfl,er⟩
noncomputable def g6(n:Nat)(ps:List (Int×Int)):List (Bool×List Int):=((cK n ps ps).filter λp=>p.1)++(cK n ps ps).filter λp=> !p.1
noncomputable def rH(x y:Bool×List Int):Prop:=x.1=y.1->HT.lexLt x.2 y.2=true
theorem UY{a b c d a' b' c' d':Int}(h:dF (a,b) (a',b')):HT.lexLt [a,b,c,d] [a',b',c',d']=true:=by
 have h':HT.lexLt [a,b] [a',b']=true:=h
 rw[HT.eB,HT.eB]at h' ⊢
 by_cases e1:a=a'
 ·rw[if_pos e1]at h' ⊢
  by_cases e2:b=b'
  ·rw[if_pos e2]at h'
   cases h'
  ·rw[if_neg e2]at h' ⊢
   exact h'
 ·rw[if_neg e1]at h' ⊢
  exact h'
theorem vZ{a b c d c' d':Int}(h:dF (c,d) (c',d')):HT.lexLt [a,b,c,d] [a,b,c',d']=true:=by
 rw[HT.eB,if_pos rfl,HT.eB,if_pos rfl]
 exact h
theorem kN{n:Nat}{ps:List (Int×Int)}{p q:Int×Int}{x:Bool×List Int}(h:x∈fA n ps p q):(x=(true,[p.1,p.2,q.1,q.2])/\(!has ps p.1 q.2&& !has ps q.1 p.2)=true)\/(p.2=q.1/\∃e:Nat,e<n/\x=(false,[p.1,p.2,q.2,(e:Int)])/\(!has ps p.1 e&& !has ps e q.2)=true):=by
 unfold fA at h
 rcases mem_append.mp h with h|h
 ·unfold c7 at h
  split at h
  ·rename_i g
   exact .inl ⟨mem_singleton.mp h,g⟩
  ·cases h
 ·unfold fC at h
  obtain⟨e,he,h⟩:=mem_flatMap.mp h
  have he:=mem_range.mp he
  unfold dD at h
  split at h
  ·rename_i g
   split at he
   ·rename_i g2
    exact .inr ⟨g2,e,he,mem_singleton.mp h,g⟩
   ·lia
  ·cases h
theorem S6(n:Nat)(ps:List (Int×Int))(p q:Int×Int):(fA n ps p q).Pairwise rH:=by
 unfold fA
 rw[pairwise_append]
 refine⟨?_,?_,λx hx y hy e=>?_⟩
 ·unfold c7
  split
  ·exact pairwise_singleton _ _
  ·exact .nil
 ·unfold fC
  rw[pairwise_flatMap]
  refine⟨λe _=>?_,List.Pairwise.imp ?_ pairwise_lt_range⟩
  ·unfold dD
   split
   ·exact pairwise_singleton _ _
   ·exact .nil
  ·intro e1 e2 he x hx y hy _
   unfold dD at hx hy
   split at hx
   ·split at hy
    ·rcases mem_singleton.mp hx with rfl
     rcases mem_singleton.mp hy with rfl
     exact vZ (pH (.inr ⟨rfl,by show(e1:Int)<e2;lia⟩))
    ·cases hy
   ·cases hx
 ·exfalso
  unfold c7 at hx
  split at hx
  ·rcases mem_singleton.mp hx with rfl
   unfold fC at hy
   obtain⟨k,_,hy⟩:=mem_flatMap.mp hy
   unfold dD at hy
   split at hy
   ·rcases mem_singleton.mp hy with rfl
    cases e
   ·cases hy
  ·cases hx
theorem S9{n:Nat}{ps:List (Int×Int)}(up:ps.Pairwise dF):(cK n ps ps).Pairwise rH:=by
 unfold cK
 rw[pairwise_flatMap]
 refine⟨λp _=>?_,up.imp ?_⟩
 ·unfold fB
  rw[pairwise_flatMap]
  refine⟨λq _=>S6 n ps p q,up.imp ?_⟩
  intro q1 q2 hq x hx y hy e
  rcases kN hx with⟨rfl,_⟩|⟨g1,e1,_,rfl,_⟩
  ·rcases kN hy with⟨rfl,_⟩|⟨g2,e2,_,rfl,_⟩
   ·exact vZ hq
   ·cases e
  ·rcases kN hy with⟨rfl,_⟩|⟨g2,e2,_,rfl,_⟩
   ·cases e
   ·have h':HT.lexLt [q1.1,q1.2] [q2.1,q2.2]=true:=hq
    rw[HT.eB,if_pos (by lia),HT.eB]at h'
    split at h'
    ·cases h'
    ·rename_i ne
     refine vZ (pH (.inl ?_))
     exact of_decide_eq_true h'
 ·intro p1 p2 hp x hx y hy _
  obtain⟨q1,_,hx⟩:=mem_flatMap.mp hx
  obtain⟨q2,_,hy⟩:=mem_flatMap.mp hy
  have e1:∃c d,x.2=[p1.1,p1.2,c,d]:=by
   rcases kN hx with⟨rfl,_⟩|⟨_,e1,_,rfl,_⟩
   ·exact⟨_,_,rfl⟩
   ·exact⟨_,_,rfl⟩
  have e2:∃c d,y.2=[p2.1,p2.2,c,d]:=by
   rcases kN hy with⟨rfl,_⟩|⟨_,e1,_,rfl,_⟩
   ·exact⟨_,_,rfl⟩
   ·exact⟨_,_,rfl⟩
  obtain⟨c,d,e1⟩:=e1
  obtain⟨c',d',e2⟩:=e2
  rw[e1,e2]
  exact UY hp
noncomputable def n9:PyData->Int
 | .int i=>i
 |_=>0
noncomputable def kW:PyData->List Int
 | .tuple (_::ds)=>ds.map n9
 |_=>[]
theorem pN(p:Bool×List Int):kW (bJ p)=p.2:=by
 show(p.2.map PyData.int).map n9=p.2
 rw[map_map]
 exact(map_congr_left λi _=>rfl).trans (map_id _)
theorem FW:∀l m:List Int,iH (l.map .int) (m.map .int)=HT.lexLt l m
 |[],[]=>rfl
 |[],_::_=>rfl
 |_::_,[]=>rfl
 | a::l,b::m=>by
  rw[map_cons,map_cons,iH,FW l m,HT.eB]
  have e:PyData.eqv (.int a) (.int b)=decide (a=b):=by
   rw[PyData.eqv]
   by_cases g:a=b
   ·simp[g]
   ·simp[g]
  rw[e]
  by_cases g:a=b
  ·rw[if_pos (by simpa using g),if_pos g]
  ·rw[if_neg (by simpa using g),if_neg g,eA]
theorem HM:∀l m:List Int,fG (l.map .int) (m.map .int)=true
 |[],_=>by rw[map_nil,fG]
 |_::_,[]=>by rw[map_nil,map_cons,fG]
 |a::l,b::m=>by
  rw[map_cons,map_cons,fG,HM l m,fW]
  split <;> rfl
theorem Z2(b:Bool)(l m:List Int):fW (bJ (b,l)) (bJ (b,m))=true/\eA (bJ (b,l)) (bJ (b,m))=HT.lexLt l m:=by
 unfold bJ
 have e:∀x:Str,PyData.eqv (.str x) (.str x)=true:=λx=>by simp[PyData.eqv]
 constructor
 ·rw[fW,fG,if_pos (e _)]
  exact HM l m
 ·rw[eA,iH,if_pos (e _)]
  exact FW l m
theorem mD(b:Bool):dQ (.str (if b=true then "two" else "three")):=by
 cases b
 ·exact⟨by rw[PyData.canLay0];decide +kernel,Nat.zero_le _⟩
 ·exact⟨by rw[PyData.canLay0];decide +kernel,Nat.zero_le _⟩
theorem IH(p:Bool×List Int):dQ (bJ p)/\cB (bJ p)=true:=by
 have h1:∀ns:List Int,bR (ns.map .int)=true:=λns=>by
  induction ns with
  |nil=>rfl
  |cons n ns ih=>rw[map_cons,bR,ih];rfl
 have h2:∀ns:List Int,PyData.canLayAll0 (ns.map .int)=true/\PyData.depthAll (ns.map .int)<=0:=λns=>by
  induction ns with
  |nil=>exact⟨rfl,Nat.le_refl _⟩
  |cons n ns ih=>
   rw[map_cons,PyData.canLayAll0,PyData.depthAll,ih.1]
   exact⟨rfl,Nat.max_le.mpr ⟨Nat.le_refl _,ih.2⟩⟩
 refine⟨⟨?_,?_⟩,?_⟩
 ·unfold bJ
  rw[PyData.canLay0,PyData.canLayAll0,(h2 p.2).1,Bool.and_true]
  exact(mD p.1).1
 ·unfold bJ
  rw[PyData.depth,PyData.depthAll]
  have:=(h2 p.2).2
  have e0:(PyData.str (if p.1=true then "two" else "three")).depth=0:=rfl
  rw[e0]
  lia
 ·unfold bJ
  rw[cB,bR,h1]
  rfl
theorem IJ{H:Hp}{zs:List V}{l:List (Bool×List Int)}{i:Nat}{x:V}(iz:IsAll H zs (l.map bJ))(hx:zs[i]? =some x):∃p a vs,l[i]? =some p/\x=.ref a/\H a=some (.tup (.str (if p.1=true then "two" else "three")::vs))/\Is H (.ref a) (bJ p):=by
 obtain⟨d,ed,id⟩:=iz.get' hx
 rw[List.getElem?_map]at ed
 cases e:l[i]? with
 |none=>rw[e]at ed;cases ed
 | some p=>
  rw[e]at ed
  cases ed
  have id2:=id
  unfold bJ at id2
  cases id2 with
  | @tup a xs _ ea hxs=>
   cases hxs with
   |cons h1 t1=>
    cases h1
    exact⟨p,a,_,rfl,rfl,ea,id⟩
theorem LC(b:Bool):PyData.eqv (.str (if b=true then "two" else "three")) (.str "two")=b:=by cases b <;> decide
theorem LD(b:Bool):PyData.eqv (.str (if b=true then "two" else "three")) (.str "three")= !b:=by cases b <;> decide
theorem CY{H:Hp}{Q:VK}{p:Addr}{vs:List V}(b:Bool){l:List (Bool×List Int)}(hl:l.Pairwise rH)(hb:∀x∈l,x.1=b)(e:H p=some (.lst vs))(ha:IsAll H vs (l.map bJ))(h:∀r vs',H r=none->IsAll H vs' (l.map bJ)->Q (.ref r) (upd H r (.lst vs'))):oQ K [.ref p] H Q:=by
 have hm:∀d∈l.map bJ,∃m,d=bJ (b,m):=λd hd=>by
  obtain⟨x,hx,rfl⟩:=mem_map.mp hd
  exact⟨x.2,by rw[<-hb x hx]⟩
 have pw:(l.map bJ).Pairwise λa c=>HT.lexLt (kW a) (kW c)=true:=by
  rw[pairwise_map]
  refine List.Pairwise.imp_of_mem ?_ hl
  intro x y hx hy h
  rw[pN,pN]
  exact h (by rw[hb x hx,hb y hy])
 refine NO kW e ha (.inr ⟨if b=true then "two" else "three",λd hd=>?_⟩) (λd hd=>?_) (λd hd e he=>?_) ?_ λr vs' ds' hr ia pm up=>?_
 ·obtain⟨m,rfl⟩:=hm d hd
  exact⟨_,rfl⟩
 ·obtain⟨m,rfl⟩:=hm d hd
  exact IH _
 ·obtain⟨m,rfl⟩:=hm d hd
  obtain⟨m',rfl⟩:=hm e he
  rw[pN,pN]
  exact Z2 b m m'
 ·unfold List.Nodup
  rw[pairwise_map]
  refine pw.imp ?_
  intro a c h z
  rw[z]at h
  have:=kQ h
  rw[h]at this
  cases this
 ·have ee:=CV (lt:=λa c:PyData=>HT.lexLt (kW a) (kW c)=true) (λa c h1 h2=>by have:=kQ h1;rw[h2]at this;cases this) pm up pw
  rw[ee]at ia
  exact h r vs' hr ia
inductive CQ (vs:List V) (H:Hp) (Q:VK) (zz3:XK):Prop where
 |mk (x:V) (n:Nat) (ps:List (Int×Int)) (zh0:vs=[x]) (zh1:Is H x (bZ n ps)) (zh2:Ord n ps) (zh3:∀(l:Addr)(vs':List V)(H':Hp),Same H H'->H l=none->H' l=some (.lst vs')->IsAll H' vs' ((g6 n ps).map bJ)->Q (.ref l) H'):CQ vs H Q zz3
theorem SA(T:aT K mg t):FnOk P w K mg base aU 1 t.zZ t.yI ["_law_order_here"] CQ:=by
 refine T.JY.ok sc__law_bars (λvs H Q E h=>?_) (λcdv A outer s H vs Q E hr h=>?_)
 ·obtain⟨x,n,ps,rfl,_⟩:=h
  rfl
 ·obtain⟨x,n,ps,rfl,hx,ho,q⟩:=h
  refine⟨_,(aF (bG (i:=1) sc__law_bars.nd rfl (Or.inl rfl) (iC (VW K hr.units) (by rfl) T.SU Y1 (aA (fN rfl ⟨True.intro,True.intro,True.intro⟩ (M:=["_law_pair"]) (.own .nil) (fE rfl) rfl (by decide +kernel) (fR K (aQ (aR K) (pv 0) pe_int (λ_ _=>rfl))) (λC fp s1 H1=>⟨aP (i:=0) (show(["_law_pair"]:List Str).Nodup by decide +kernel) rfl (Or.inl rfl),i9,(bI (aA (pv 0) (aA pe_bl pa_nil)))⟩)) pa_nil)))
   (aF (bG (i:=2) sc__law_bars.nd rfl (Or.inl rfl) (cT pa_nil))
   (aF (bW PassesOwn.never rfl (fR K (aQ (aR K) (pv 0) pe_int (λ_ _=>rfl))) (fT K rfl (cF (aP (i:=3) sc__law_bars.nd rfl (Or.inl rfl)) (cF (aP (i:=4) sc__law_bars.nd rfl (Or.inl rfl)) fM))) (aD (bW PassesOwn.never rfl (fR K (aQ (aR K) (pv 0) pe_int (λ_ _=>rfl))) (fT K rfl (cF (aP (i:=5) sc__law_bars.nd rfl (Or.inl rfl)) (cF (aP (i:=6) sc__law_bars.nd rfl (Or.inl rfl)) fM))) (aF (bL (PW.pt (l7 (oU (o4 (eK hr) (bI (aA (pv 3) (aA (pv 6) pa_nil))) (pv 1))) (l6 (oU (o4 (eK hr) (bI (aA (pv 5) (aA (pv 4) pa_nil))) (pv 1)))))) (aD (cR (fU K PySem.F.plainAttrs_list PySem.F.slot_list_append PySem.F.type_list_append jU (pv 2) (aA (bI (aA pe_str (aA (pv 3) (aA (pv 4) (aA (pv 5) (aA (pv 6) pa_nil)))))) pa_nil)))) bK)
   (aD (bW PassesOwn.never rfl (cS rfl T.cQ (aA (aY kJ (aQ (aR K) (pv 0) pe_int (λ_ _=>rfl)) (iC HQ (by rfl) T.vK yN (aA (cP (dY hr.units) (pv 4) (pv 5) (bA _)) pa_nil))) pa_nil)) (aP (i:=7) sc__law_bars.nd rfl (Or.inl rfl)) (aD (bL (PW.pt (l7 (oU (o4 (eK hr) (bI (aA (pv 3) (aA (pv 7) pa_nil))) (pv 1))) (l6 (oU (o4 (eK hr) (bI (aA (pv 7) (aA (pv 6) pa_nil))) (pv 1)))))) (aD (cR (fU K PySem.F.plainAttrs_list PySem.F.slot_list_append PySem.F.type_list_append jU (pv 2) (aA (bI (aA pe_str (aA (pv 3) (aA (pv 4) (aA (pv 6) (aA (pv 7) pa_nil)))))) pa_nil)))) bK))))))))
   (aF (bG (i:=8) sc__law_bars.nd rfl (Or.inl rfl) (aZ (GE K hr.units) (by rfl) T.kM lG (aA (fN rfl ⟨True.intro,True.intro,True.intro⟩ (M:=["_law_line"]) (.own .nil) (fE rfl) rfl (by decide +kernel) (fS K (pv 2)) (λC fp s1 H1=>⟨aP (i:=0) (show(["_law_line"]:List Str).Nodup by decide +kernel) rfl (Or.inl rfl),jR (bE (dY hr.units) (aQ (aR K) (pv 0) pe_int (λ_ _=>rfl)) pe_str (bA _)),(pv 0)⟩)) pa_nil)))
   (aD (aK (aY E5 (pv 8) (aZ (GE K hr.units) (by rfl) T.kM lG (aA (fN rfl ⟨True.intro,True.intro,True.intro⟩ (M:=["_law_line"]) (.own .nil) (fE rfl) rfl (by decide +kernel) (fS K (pv 2)) (λC fp s1 H1=>⟨aP (i:=0) (show(["_law_line"]:List Str).Nodup by decide +kernel) rfl (Or.inl rfl),jR (bE (dY hr.units) (aQ (aR K) (pv 0) pe_int (λ_ _=>rfl)) pe_str (bA _)),(pv 0)⟩)) pa_nil))))))))),?_⟩
  obtain⟨oa,ob,xs,rfl,ea,eb,hxs⟩:=iL hx
  have lxs:xs.length=ps.length:=by rw[hxs.length,length_map]
  have n8:=ho.hi
  have sz:=ho.sz
  have nd:=mF (jN ho.up)
  have lp64:=lX nd λp hp=>inN.box n8 (ho.ix p hp)
  walk_at"rd"
  refine⟨ob,rfl,⟨xs,SqT.of eb⟩,?_⟩
  refine mG (K:=K) (xs:=xs) (c9 (by lia)) (λi ys H'=>Same H H'/\j2 H' ys ((ps.take i).map fL)) ⟨Same.refl _,rfl,λj x hx=>by simp at hx⟩ (by
   rintro i ys H' ⟨_,h⟩
   have:=h.1
   rw[length_map,length_take]at this
   lia) (λi ys H' _ h=>SqT.of (h.1 _ _ eb)) ?_ ?_
  ·rintro i x ys H1 hx ⟨s1,iy⟩
   obtain⟨p0,r,hp0,rfl,er⟩:=jP (hxs.same s1) hx
   walk_at"rd"
   refine⟨by show 2<=sizeLine;decide,λq1 hq1=>?_⟩
   have f1:=Same.upd (o:=.tup [V.ref r,V.bl true]) hq1
   refine⟨s1.trans f1,?_⟩
   rw[take_add_one,hp0,map_append]
   exact P8 (p:=fL p0) (EL iy f1) aC (f1 _ _ er)
  rintro ys H1 ⟨s1,iy⟩ l1 hl1
  rw[lxs,take_length]at iy
  have ly:ys.length<64:=by
   have:=iy.1
   rw[length_map]at this
   lia
  have f1:=Same.upd (o:=.lst ys) hl1
  walk_at"rd"
  refine⟨l1,ys,ps.map fL,rfl,aC,EL iy f1,gJ (by lia),λd hd=>?_⟩
  have f2:=Same.upd (o:=.dT (cC (ps.map fL))) hd
  have s2:=(s1.trans f1).trans f2
  have ed:upd (upd H1 l1 (.lst ys)) d (.dT (cC (ps.map fL))) d=some (.dT (cC (ps.map fL))):=aC
  generalize upd (upd H1 l1 (.lst ys)) d (.dT (cC (ps.map fL)))=H2 at s2 ed
  clear f1 f2 hd hl1 iy ly
  walk_at"rd"
  refine⟨Nat.zero_le _,λm hm=>?_⟩
  have f3:=Same.upd (o:=.lst []) hm
  have s3:=s2.trans f3
  have ed3:=f3 _ _ ed
  have em3:upd H2 m (.lst []) m=some (.lst []):=aC
  have nmH:H m=none:=s2.free hm
  generalize upd H2 m (.lst [])=H3 at s3 ed3 em3
  clear f3 hm
  have fin:∀H',SameT m H3 H'->Same H H':=λH' s b u e=>s b u (s3 b u e) λz=>by rw[z,nmH]at e;cases e
  have ea3:=s3 _ _ ea
  have ndm:d≠m:=λz=>by rw[z,em3]at ed3;cases ed3
  walk_at"rd"
  refine⟨ob,rfl,⟨xs,SqT.of (s3 _ _ eb)⟩,?_⟩
  refine k9 (K:=K) (xs:=xs) (λi σ H'=>(∃va vb vc vd ve vf,σ=[some (.ref oa),some (.ref d),some (.ref m),va,vb,vc,vd,ve,vf])/\SameT m H3 H'/\∃zs,H' m=some (.lst zs)/\IsAll H' zs ((cK n ps (ps.take i)).map bJ)) ⟨⟨_,_,_,_,_,_,rfl⟩,SameT.refl _ _,[],em3,.nil⟩ (λi σ H' _ h=>SqT.of (fin H' h.2.1 _ _ eb)) ?_ ?_
  ·rintro i x σ H4 hx ⟨⟨va,vb,vc,vd,ve,vf,rfl⟩,s4,zs,hz,iz⟩
   obtain⟨p0,r,hp0,rfl,er⟩:=jP (hxs.same (fin H4 s4)) hx
   refine fK er rfl ?_
   have ea4:=fin H4 s4 _ _ ea
   walk_at"rd"
   refine⟨ob,rfl,⟨xs,SqT.of (fin H4 s4 _ _ eb)⟩,?_⟩
   refine k9 (K:=K) (xs:=xs) (λj σ H'=>(∃vc vd ve vf,σ=[some (.ref oa),some (.ref d),some (.ref m),some (.int p0.1),some (.int p0.2),vc,vd,ve,vf])/\SameT m H3 H'/\∃zs,H' m=some (.lst zs)/\IsAll H' zs ((cK n ps (ps.take i)++fB n ps p0 (ps.take j)).map bJ)) ⟨⟨_,_,_,_,rfl⟩,s4,zs,hz,by simpa[fB]using iz⟩ (λi σ H' _ h=>SqT.of (fin H' h.2.1 _ _ eb)) ?_ ?_
   rotate_left
   ·rintro σ H5 ⟨⟨vc,vd,ve,vf,rfl⟩,s5,zs5,hz5,iz5⟩
    rw[lxs,take_length]at iz5
    exact⟨⟨_,_,_,_,_,_,rfl⟩,s5,zs5,hz5,by rw[TB hp0];exact iz5⟩
   rintro j y σ H5 hy ⟨⟨vc,vd,ve,vf,rfl⟩,s5,zs5,hz5,iz5⟩
   obtain⟨q0,r2,hq0,rfl,er2⟩:=jP (hxs.same (fin H5 s5)) hy
   refine fK er2 rfl ?_
   have ea5:=fin H5 s5 _ _ ea
   have ed5:=s5 _ _ ed3 ndm
   (repeat (first|with_reducible refine DW ?_|with_reducible refine DU ?_|with_reducible refine DT ?_|dsimp only))
   have lenz:∀(H':Hp)(zs:List V)(l:List (Bool×List Int)),IsAll H' zs (l.map bJ)->l.length<=64*(64*9)+64*9+9->zs.length<sizeLine:=λH' zs l h1 h2=>by
    rw[h1.length,length_map,sizeLine_eq]
    lia
   have lA:(cK n ps (ps.take i)).length<=64*(64*9):=by
    have h1:=FP n8 ps (ps.take i)
    rw[length_take]at h1
    exact Nat.le_trans h1 (Nat.mul_le_mul (by lia) (Nat.mul_le_mul (by lia) (Nat.le_refl _)))
   have lP:(fB n ps p0 (ps.take j)).length<=64*9:=by
    have h1:=FO n8 ps p0 (ps.take j)
    rw[length_take]at h1
    exact Nat.le_trans h1 (Nat.mul_le_mul (by lia) (Nat.le_refl _))
   refine L9 (λσ' H'=>(∃ve vf,σ'=[some (.ref oa),some (.ref d),some (.ref m),some (.int p0.1),some (.int p0.2),some (.int q0.1),some (.int q0.2),ve,vf])/\SameT m H3 H'/\∃zs,H' m=some (.lst zs)/\IsAll H' zs ((cK n ps (ps.take i)++fB n ps p0 (ps.take j)++c7 ps p0 q0).map bJ)) ?_ (λD' hrt hnx=>?_)
   rotate_left
   ·walk_at"rd"
    refine oP ?_
    walk_at"rd"
    refine⟨by show 2<=sizeLine;decide,λq1 hq1=>?_⟩
    walk_at"rd"
    have g1:=Same.upd (o:=.tup [V.int p0.1,V.int q0.2]) hq1
    have hz6:=g1 _ _ hz5
    have iz6:=iz5.same g1
    have ed6:=g1 _ _ ed5
    have s6:=s5.trans g1.t (w:=m)
    have eq6:upd H5 q1 (.tup [V.int p0.1,V.int q0.2]) q1=some (.tup [V.int p0.1,V.int q0.2]):=aC
    generalize upd H5 q1 (.tup [V.int p0.1,V.int q0.2])=H6 at hz6 iz6 ed6 s6 eq6
    refine qE ed6 eq6 ?_
    cases h1:has ps p0.1 q0.2 with
    |true=>
     walk_at"rd"
     refine hnx _ _ ⟨⟨_,_,rfl⟩,s6,zs5,hz6,?_⟩
     have e0:c7 ps p0 q0=[]:=by unfold c7;rw[h1];rfl
     rw[e0,append_nil]
     exact iz6
    | false=>
     walk_at"rd"
     refine oP ?_
     walk_at"rd"
     refine⟨by show 2<=sizeLine;decide,λq2 hq2=>?_⟩
     walk_at"rd"
     have g2:=Same.upd (o:=.tup [V.int q0.1,V.int p0.2]) hq2
     have hz7:=g2 _ _ hz6
     have iz7:=iz6.same g2
     have ed7:=g2 _ _ ed6
     have s7:=s6.trans g2.t (w:=m)
     have eq7:upd H6 q2 (.tup [V.int q0.1,V.int p0.2]) q2=some (.tup [V.int q0.1,V.int p0.2]):=aC
     generalize upd H6 q2 (.tup [V.int q0.1,V.int p0.2])=H7 at hz7 iz7 ed7 s7 eq7
     refine qE ed7 eq7 ?_
     cases h2:has ps q0.1 p0.2 with
     |true=>
      walk_at"rd"
      refine hnx _ _ ⟨⟨_,_,rfl⟩,s7,zs5,hz7,?_⟩
      have e0:c7 ps p0 q0=[]:=by unfold c7;rw[h1,h2];rfl
      rw[e0,append_nil]
      exact iz7
     | false=>
      have e0:c7 ps p0 q0=[(true,[p0.1,p0.2,q0.1,q0.2])]:=by unfold c7;rw[h1,h2];rfl
      rw[e0]at hnx
      walk_at"rd"
      refine⟨fJ hz7,?_⟩
      walk_at"rd"
      refine⟨by show 5<=sizeLine;decide,λq3 hq3=>?_⟩
      have nm3:m≠q3:=aS hz7 hq3
      walk_at"rd"
      refine jL (xs:=zs5) ?_ (lenz _ _ _ iz7 (by rw[length_append];lia)) ?_
      ·rw[aE nm3]
       exact hz7
      walk_at"rd"
      refine hnx _ _ ⟨⟨_,_,rfl⟩,λc u e z=>?_,_,aC,?_⟩
      ·rw[aE z]
       have e7:=s7 c u e z
       rw[aE (aS e7 hq3)]
       exact e7
      ·rw[map_append]
       refine pU (vH _) hz7 hq3 iz7 (II (x:="two") rfl ?_)
       rw[aE (Ne.symm nm3),aC]
   rintro σ' H6 ⟨⟨ve,vf,rfl⟩,s6,zs6,hz6,iz6⟩
   have ea6:=fin H6 s6 _ _ ea
   have ed6:=s6 _ _ ed3 ndm
   walk_at"rd"
   have eM:∀b:Bool,((n:Int)*(if b=true then 1 else 0))=(((if b=true then n else 0):Nat):Int):=λb=>by cases b <;> simp
   refine gM (.inl ⟨by lia,by lia⟩) ?_
   rw[eM]
   have eb0:(if(p0.2==q0.1)=true then n else 0)=(if p0.2=q0.1 then n else 0):=by
    by_cases z:p0.2=q0.1
    ·rw[if_pos (by simpa using z),if_pos z]
    ·rw[if_neg (by simpa using z),if_neg z]
   rw[eb0]
   have lM:(if p0.2=q0.1 then n else 0)<=8:=by split <;> lia
   walk_at"rd"
   refine⟨_,rfl,by lia,by lia,?_⟩
   rw[Int.toNat_natCast]
   refine eN (λk σ H'=>(∃ve vf,σ=[some (.ref oa),some (.ref d),some (.ref m),some (.int p0.1),some (.int p0.2),some (.int q0.1),some (.int q0.2),ve,vf])/\SameT m H3 H'/\∃zs,H' m=some (.lst zs)/\IsAll H' zs ((cK n ps (ps.take i)++fB n ps p0 (ps.take j)++c7 ps p0 q0++fC ps p0 q0 k).map bJ)) ⟨⟨_,_,rfl⟩,s6,zs6,hz6,by simpa[fC]using iz6⟩ ?_ ?_
   rotate_left
   ·rintro σ H7 ⟨⟨vg,vh,rfl⟩,s7,zs7,hz7,iz7⟩
    refine⟨⟨_,_,_,_,rfl⟩,s7,zs7,hz7,?_⟩
    rw[S8 hq0]
    unfold fA
    simpa only[append_assoc]using iz7
   rintro k σ H7 hk ⟨⟨vg,vh,rfl⟩,s7,zs7,hz7,iz7⟩
   have ed7:=s7 _ _ ed3 ndm
   have l2:(c7 ps p0 q0).length<=1:=by unfold c7;split <;> simp
   have l3:=vN ps p0 q0 k
   rw[TC,<-append_assoc]
   walk_at"rd"
   refine oP ?_
   walk_at"rd"
   rw[Int.zero_add]
   refine⟨by show 2<=sizeLine;decide,λq1 hq1=>?_⟩
   walk_at"rd"
   have g1:=Same.upd (o:=.tup [V.int p0.1,V.int (k:Nat)]) hq1
   have hz8:=g1 _ _ hz7
   have iz8:=iz7.same g1
   have ed8:=g1 _ _ ed7
   have s8:=s7.trans g1.t (w:=m)
   have eq8:upd H7 q1 (.tup [V.int p0.1,V.int (k:Nat)]) q1=some (.tup [V.int p0.1,V.int (k:Nat)]):=aC
   generalize upd H7 q1 (.tup [V.int p0.1,V.int (k:Nat)])=H8 at hz8 iz8 ed8 s8 eq8
   refine qE ed8 eq8 ?_
   cases h1:has ps p0.1 k with
   |true=>
    walk_at"rd"
    refine⟨⟨_,_,rfl⟩,s8,zs7,hz8,?_⟩
    have e0:dD ps p0 q0 k=[]:=by unfold dD;rw[h1];rfl
    rw[e0,append_nil]
    exact iz8
   | false=>
    walk_at"rd"
    refine oP ?_
    walk_at"rd"
    refine⟨by show 2<=sizeLine;decide,λq2 hq2=>?_⟩
    walk_at"rd"
    have g2:=Same.upd (o:=.tup [V.int (k:Nat),V.int q0.2]) hq2
    have hz9:=g2 _ _ hz8
    have iz9:=iz8.same g2
    have ed9:=g2 _ _ ed8
    have s9:=s8.trans g2.t (w:=m)
    have eq9:upd H8 q2 (.tup [V.int (k:Nat),V.int q0.2]) q2=some (.tup [V.int (k:Nat),V.int q0.2]):=aC
    generalize upd H8 q2 (.tup [V.int (k:Nat),V.int q0.2])=H9 at hz9 iz9 ed9 s9 eq9
    refine qE ed9 eq9 ?_
    cases h2:has ps k q0.2 with
    |true=>
     walk_at"rd"
     refine⟨⟨_,_,rfl⟩,s9,zs7,hz9,?_⟩
     have e0:dD ps p0 q0 k=[]:=by unfold dD;rw[h1,h2];rfl
     rw[e0,append_nil]
     exact iz9
    | false=>
     have e0:dD ps p0 q0 k=[(false,[p0.1,p0.2,q0.2,(k:Int)])]:=by unfold dD;rw[h1,h2];rfl
     rw[e0]
     walk_at"rd"
     refine⟨fJ hz9,?_⟩
     walk_at"rd"
     refine⟨by show 5<=sizeLine;decide,λq3 hq3=>?_⟩
     have nm3:m≠q3:=aS hz9 hq3
     walk_at"rd"
     refine jL (xs:=zs7) ?_ (lenz _ _ _ iz9 (by rw[length_append,length_append,length_append];lia)) ?_
     ·rw[aE nm3]
      exact hz9
     walk_at"rd"
     refine⟨⟨_,_,rfl⟩,λc u e z=>?_,_,aC,?_⟩
     ·rw[aE z]
      have e9:=s9 c u e z
      rw[aE (aS e9 hq3)]
      exact e9
     ·rw[map_append]
      refine pU (vH _) hz9 hq3 iz9 (II (x:="three") rfl ?_)
      rw[aE (Ne.symm nm3),aC]
  ·rintro σ H4 ⟨⟨va,vb,vc,vd,ve,vf,rfl⟩,s4,zs,hz,iz⟩
   rw[lxs,take_length]at iz
   have lA:(cK n ps ps).length<=64*(64*9):=by
    have h1:=FP n8 ps ps
    exact Nat.le_trans h1 (Nat.mul_le_mul (by lia) (Nat.mul_le_mul (by lia) (Nat.le_refl _)))
   have lz:zs.length=(cK n ps ps).length:=by rw[iz.length,length_map]
   have sH4:=fin H4 s4
   have up:=S9 (n:=n) (jN ho.up)
   walk_at"rd"
   refine⟨m,rfl,⟨_,SqL.of hz⟩,?_⟩
   refine mI (K:=K) (xs:=zs) (by rw[lz,sizeLine_eq];lia) (λi ys H'=>H'=H4/\IsAll H' ys ((((cK n ps ps).take i).filter λp=>p.1).map bJ)) ⟨rfl,.nil⟩ (by
    rintro i ys H' ⟨_,h⟩
    rw[h.length,length_map]
    have:=length_filter_le (λp:Bool×List Int=>p.1) ((cK n ps ps).take i)
    rw[length_take]at this
    lia) (λi ys H' _ h=>by rw[h.1];exact SqL.of hz) ?_ ?_
   ·rintro i x ys H5 hx ⟨rfl,iy⟩
    obtain⟨p,a,vs,hp,rfl,ea',ip⟩:=IJ iz hx
    walk_at"rd"
    refine jK ea' (atI_of (i:=0) rfl rfl) ?_
    walk_at"rd"
    refine i6 (d:=.str _) (e:=.str "two") (.str _) (.str _) (mD _) (mD true) ?_
    rw[LC]
    rw[take_add_one,hp,show(some p).toList=[p] from rfl,filter_append]
    obtain⟨b,l⟩:=p
    dsimp only
    refine⟨_,rfl,?_⟩
    cases b with
    |true=>
     refine kX (by rfl) ?_
     walk_at"rd"
     refine⟨rfl,?_⟩
     rw[map_append]
     exact iy.append (.cons ip .nil)
    |false=>
     refine fD (by rfl) ?_
     walk_at"rd"
     refine⟨rfl,?_⟩
     simpa using iy
   rintro ys H5 ⟨rfl,iy⟩ l1 hl1
   rw[lz,take_length]at iy
   have f1:=Same.upd (o:=.lst ys) hl1
   walk_at"rd"
   refine CY true (up.filter _) (λx hx=>(mem_filter.mp hx).2) aC (iy.same f1) λr1 w1 hr1 ia1=>?_
   have f2:=Same.upd (o:=.lst w1) hr1
   have sH5:=(sH4.trans f1).trans f2
   have hz5:=f2 _ _ (f1 _ _ hz)
   have iz5:=(iz.same f1).same f2
   have ia5:=ia1.same f2
   have er5:upd (upd H5 l1 (.lst ys)) r1 (.lst w1) r1=some (.lst w1):=aC
   generalize upd (upd H5 l1 (.lst ys)) r1 (.lst w1)=H6 at sH5 hz5 iz5 ia5 er5
   walk_at"rd"
   refine⟨m,rfl,⟨_,SqL.of hz5⟩,?_⟩
   refine mI (K:=K) (xs:=zs) (by rw[lz,sizeLine_eq];lia) (λi ys H'=>H'=H6/\IsAll H' ys ((((cK n ps ps).take i).filter λp=> !p.1).map bJ)) ⟨rfl,.nil⟩ (by
    rintro i ys H' ⟨_,h⟩
    rw[h.length,length_map]
    have:=length_filter_le (λp:Bool×List Int=> !p.1) ((cK n ps ps).take i)
    rw[length_take]at this
    lia) (λi ys H' _ h=>by rw[h.1];exact SqL.of hz5) ?_ ?_
   ·rintro i x ys H7 hx ⟨rfl,iy⟩
    obtain⟨p,a,vs,hp,rfl,ea',ip⟩:=IJ iz5 hx
    walk_at"rd"
    refine jK ea' (atI_of (i:=0) rfl rfl) ?_
    walk_at"rd"
    refine i6 (d:=.str _) (e:=.str "three") (.str _) (.str _) (mD _) (mD false) ?_
    rw[LD]
    rw[take_add_one,hp,show(some p).toList=[p] from rfl,filter_append]
    obtain⟨b,l⟩:=p
    dsimp only
    refine⟨_,rfl,?_⟩
    cases b with
    |false=>
     refine kX (by rfl) ?_
     walk_at"rd"
     refine⟨rfl,?_⟩
     rw[map_append]
     exact iy.append (.cons ip .nil)
    |true=>
     refine fD (by rfl) ?_
     walk_at"rd"
     refine⟨rfl,?_⟩
     simpa using iy
   rintro ys2 H7 ⟨rfl,iy2⟩ l2 hl2
   rw[lz,take_length]at iy2
   have f3:=Same.upd (o:=.lst ys2) hl2
   walk_at"rd"
   refine CY false (up.filter _) (λx hx=>by have:=(mem_filter.mp hx).2;simpa using this) aC (iy2.same f3) λr2 w2 hr2 ia2=>?_
   have f4:=Same.upd (o:=.lst w2) hr2
   have l1':w1.length<=64*(64*9):=by
    rw[ia5.length,length_map]
    exact Nat.le_trans (length_filter_le _ _) lA
   have l2':w2.length<=64*(64*9):=by
    rw[ia2.length,length_map]
    exact Nat.le_trans (length_filter_le _ _) lA
   refine uD (f4 _ _ (f3 _ _ er5)) aC (by rw[sizeLine_eq];lia) λr3 hr3=>?_
   have f5:=Same.upd (o:=.lst (w1++w2)) hr3
   have sE:=((sH5.trans f3).trans f4).trans f5
   refine q r3 _ _ sE (((sH5.trans f3).trans f4).free hr3) aC ?_
   unfold g6
   rw[map_append]
   exact(((ia5.same f3).same f4).same f5).append ((ia2.same f4).same f5)
end
theorem pS{ps:List (Int×Int)}{p:Int×Int}(h:p∈ps):has ps p.1 p.2=true:=decide_eq_true h
theorem IB{n:Nat}{ps:List (Int×Int)}(ho:Ord n ps):g6 n ps=[]<->bT n ps=false:=by
 have e0:g6 n ps=[]<->cK n ps ps=[]:=by
  unfold g6
  constructor
  ·intro h
   have h1:=List.append_eq_nil_iff.mp h
   apply Classical.byContradiction
   intro z
   obtain⟨x,hx⟩:=exists_mem_of_ne_nil _ z
   cases e:x.1 with
   |true=>exact not_mem_nil (h1.1▸mem_filter.mpr ⟨hx,e⟩)
   |false=>exact not_mem_nil (h1.2▸mem_filter.mpr ⟨hx,by rw[e];rfl⟩)
  ·intro h
   rw[h]
   rfl
 rw[e0]
 constructor
 ·intro h
  unfold bT
  rw[Bool.or_eq_false_iff]
  have no:∀p∈ps,∀q∈ps,fA n ps p q=[]:=λp hp q hq=>by
   apply Classical.byContradiction
   intro z
   obtain⟨x,hx⟩:=exists_mem_of_ne_nil _ z
   have:x∈cK n ps ps:=mem_flatMap.mpr ⟨p,hp,mem_flatMap.mpr ⟨q,hq,hx⟩⟩
   rw[h]at this
   exact not_mem_nil this
  constructor
  ·cases e:qI ps with
   |false=>rfl
   |true=>
    exfalso
    obtain⟨p,hp,e⟩:=any_eq_true.mp e
    obtain⟨q,hq,e⟩:=any_eq_true.mp e
    have:=no p hp q hq
    unfold g8 at e
    rw[Bool.and_eq_true]at e
    unfold fA c7 at this
    rw[if_pos e.2]at this
    cases this
  ·cases e:qH n ps with
   |false=>rfl
   | true=>
    exfalso
    obtain⟨p,hp,e⟩:=any_eq_true.mp e
    obtain⟨c,hc,e⟩:=any_eq_true.mp e
    obtain⟨d,hd,e⟩:=any_eq_true.mp e
    unfold g7 at e
    rw[Bool.and_eq_true,Bool.and_eq_true]at e
    have hq:(p.2,(c:Int))∈ps:=of_decide_eq_true e.1.2
    have:=no p hp _ hq
    unfold fA at this
    have h3:=(List.append_eq_nil_iff.mp this).2
    rw[if_pos rfl]at h3
    unfold fC at h3
    have hm:(false,[p.1,p.2,(c:Int),(d:Int)])∈(range n).flatMap (dD ps p (p.2,(c:Int))):=by
     refine mem_flatMap.mpr ⟨d,hd,?_⟩
     unfold dD
     rw[if_pos e.2]
     exact mem_singleton.mpr rfl
    rw[h3]at hm
    exact not_mem_nil hm
 ·intro h
  unfold bT at h
  rw[Bool.or_eq_false_iff]at h
  apply Classical.byContradiction
  intro z
  obtain⟨x,hx⟩:=exists_mem_of_ne_nil _ z
  obtain⟨p,hp,hx⟩:=mem_flatMap.mp hx
  obtain⟨q,hq,hx⟩:=mem_flatMap.mp hx
  rcases kN hx with⟨_,g⟩|⟨g1,e,he,_,g⟩
  ·have:=fH (fH h.1 hp) hq
   unfold g8 at this
   rw[pS hp,pS hq,g]at this
   cases this
  ·obtain⟨_,_,i3,i4,_⟩:=ho.ix q hq
   have:=fH (fH (fH h.2 hp) (mem_range.mpr (show q.2.toNat<n by lia))) (mem_range.mpr he)
   unfold g7 at this
   rw[pS hp,Int.toNat_of_nonneg i3,g1,pS hq,g]at this
   cases this
theorem M3{n a b:Int}(a0:0<=a)(a1:a<n)(b0:0<=b)(b1:b<n-1):0<=(a+1+b)%n/\(a+1+b)%n<n/\a≠(a+1+b)%n:=by
 refine⟨Int.emod_nonneg _ (by lia),Int.emod_lt_of_pos _ (by lia),?_⟩
 by_cases h:a+1+b<n
 ·rw[Int.emod_eq_of_lt (by lia) h]
  lia
 ·have e:a+1+b=(a+1+b-n)+n*1:=by lia
  rw[e,Int.add_mul_emod_self_left,Int.emod_eq_of_lt (by lia) (by lia)]
  lia
noncomputable def fP(q:Int×Int)(ps:List (Int×Int)):List (Int×Int):=ps.filter λp=> !decide (p=q)
theorem Q1(q p:Int×Int)(ps:List (Int×Int)):fP q (ps++[p])=fP q ps++(if(!decide (p=q))=true then[p] else[]):=by
 unfold fP
 rw[filter_append,W3]
theorem EY(q:Int×Int)(ps:List (Int×Int)):(fP q ps).length<=ps.length:=length_filter_le _ _
theorem mem_outP{q p:Int×Int}{ps:List (Int×Int)}:p∈fP q ps<->p∈ps/\p≠q:=by
 unfold fP
 rw[mem_filter]
 simp
theorem Q2{q:Int×Int}{ps:List (Int×Int)}(h:ps.Nodup):(fP q ps).Nodup:=List.Pairwise.filter _ h
theorem SR{q:Int×Int}{ps:List (Int×Int)}(h:ps.Nodup)(hq:q∉ps):(ps++[q]).Nodup:=by
 unfold List.Nodup
 rw[pairwise_append]
 refine⟨h,pairwise_singleton _ _,λa ha b hb z=>?_⟩
 rcases mem_singleton.mp hb with rfl
 exact hq (z▸ha)
theorem P9{H:Hp}{ys:List V}{ps:List (Int×Int)}{i:Nat}{x:V}(h:IsAll H ys (ps.map aJ))(e:ys[i]? =some x):∃p,ps[i]? =some p/\Is H x (aJ p):=by
 obtain⟨d,ed,id⟩:=h.get' e
 rw[List.getElem?_map]at ed
 cases hpi:ps[i]? with
 |none=>rw[hpi]at ed;cases ed
 |some p=>rw[hpi]at ed;cases ed;exact⟨p,rfl,id⟩
theorem NZ{H:Hp}{Q:VK}{p l:Addr}{zs:List V}{i j:Int}{ps:List (Int×Int)}(e:H p=some (.tup [.int i,.int j]))(el:H l=some (.lst zs))(iz:IsAll H zs (ps.map aJ))(h:Q (.bl (!has ps i j)) H):kE true (.ref p) (.ref l) H Q:=by
 refine⟨aJ (i,j),ps.map aJ,.tup e (.cons (.int i) (.cons (.int j) .nil)),.inr (.lst (.inl el) iz),kK _,o7 _,?_⟩
 rw[pP]
 exact h
theorem IK{vals:List Int}{i:Nat}(hi:i<vals.length):eP (vals.map V.int) ((0:Int)+(i:Int))=some (.int (vals.getD i 0)):=by
 refine atI_of (i:=i) (by lia) ?_
 exact iP hi
theorem Q4{H H':Hp}{tw:Addr}{ts:List V}(hw:H tw=some (.lst ts))(s:SameT tw H H'){x:V}{n:Nat}{ps:List (Int×Int)}(h:Is H x (bZ n ps)):Is H' x (bZ n ps):=
 h.tmono (λc us e=>s _ _ e (gT e hw (by intro z;cases z))) (by unfold bZ;rw[cB,bR,bR,bR,cB,cB,gR];rfl)
theorem uV{H H':Hp}{tw:Addr}{ts zs:List V}{prs:List (Int×Int)}(hw:H tw=some (.lst ts))(s:SameT tw H H')(h:IsAll H zs (prs.map aJ)):IsAll H' zs (prs.map aJ):=
 h.tmono (λc us e=>s _ _ e (gT e hw (by intro z;cases z))) (gR _)
section
variable{P:Program}{w:World}{K:PySem.W.Frag}{mg:Str->Option Value}{base:Heap}{t:Ad}
inductive CP (vs:List V) (H:Hp) (Q:VK) (zz3:XK):Prop where
 |mk (p:Addr) (vals:List Int) (st:Int) (zh0:vs=[.int st,.ref p]) (zh1:H p=some (.lst (vals.map V.int))) (zh2:vals.length<=8) (zh3:∀x H',Same H H'->Is H' x (bZ vals.length (cN st vals))->Q x H'):CP vs H Q zz3
theorem R9(T:aT K mg t):FnOk P w K mg base aU 1 t.zY t.yH ["_law_step","_law_longs"] CP:=by
 refine T.JX.ok sc__law_by (λvs H Q E h=>?_) (λcdv A outer s H vs Q E hr h=>?_)
 ·obtain⟨p,vals,st,rfl,_⟩:=h
  rfl
 ·obtain⟨p,vals,st,rfl,ep,l8,q⟩:=h
  refine⟨_,(aF (bG (i:=2) sc__law_by.nd rfl (Or.inl rfl) (cT pa_nil))
   (aF (bW PassesOwn.never rfl (cS rfl T.cQ (aA (aZ (dG K) (by rfl) T.dB dJ (aA (pv 1) pa_nil)) pa_nil)) (aP (i:=3) sc__law_by.nd rfl (Or.inl rfl)) (aD (bW PassesOwn.never rfl (cS rfl T.cQ (aA (aZ (dG K) (by rfl) T.dB dJ (aA (pv 1) pa_nil)) pa_nil)) (aP (i:=4) sc__law_by.nd rfl (Or.inl rfl)) (aD (bL (bE (E4) (aQ (aR K) (pv 1) (pv 4) (λ_ _=>rfl)) (aY c6 (aQ (aR K) (pv 1) (pv 3) (λ_ _=>rfl)) (pv 0)) (bA _)) (aD (cR (fU K PySem.F.plainAttrs_list PySem.F.slot_list_append PySem.F.type_list_append jU (pv 2) (aA (bI (aA (pv 3) (aA (pv 4) pa_nil))) pa_nil)))) bK)))))
   (aD (aK (bI (aA (aZ (dG K) (by rfl) T.dB dJ (aA (pv 1) pa_nil)) (aA (iC (wB K) (by rfl) T.kL lF (aA (pv 2) pa_nil)) pa_nil))))))),?_⟩
  have ln:(vals.map V.int).length=vals.length:=length_map _
  walk_at"rd"
  refine⟨Nat.zero_le _,λr hr'=>?_⟩
  have s0:=Same.upd (o:=.lst []) hr'
  have ep0:=s0 _ _ ep
  walk_at"rd"
  refine⟨_,rfl,by lia,by lia,?_⟩
  rw[ln,Int.toNat_natCast]
  refine eN (λi σ H'=>(∃v3 v4,σ=[some (.int st),some (.ref p),some (.ref r),v3,v4])/\Same H H'/\∃zs,H' r=some (.lst zs)/\IsAll H' zs ((eW st vals i).map aJ)) ⟨⟨_,_,rfl⟩,s0,[],aC,.nil⟩ ?_ ?_
  ·rintro i σ H1 hi ⟨⟨v3,v4,rfl⟩,s1,zs,hz,iz⟩
   have ep1:=s1 _ _ ep
   walk_at"rd"
   refine⟨_,rfl,by lia,by lia,?_⟩
   rw[ln,Int.toNat_natCast]
   refine eN (λj σ H'=>(∃v4,σ=[some (.int st),some (.ref p),some (.ref r),some (.int (0+i)),v4])/\Same H H'/\∃zs,H' r=some (.lst zs)/\IsAll H' zs ((eW st vals i++eV st vals i j).map aJ)) ⟨⟨_,rfl⟩,s1,zs,hz,by simpa[eV]using iz⟩ ?_ ?_
   ·rintro j σ H2 hj ⟨⟨v4,rfl⟩,s2,zs2,hz2,iz2⟩
    have ep2:=s2 _ _ ep
    rw[oC,<-append_assoc,map_append]
    walk_at"rd"
    refine gL ep2 (IK hj) ?_
    walk_at"rd"
    refine gL ep2 (IK hi) ?_
    walk_at"rd"
    refine bS (λg=>?_) (λg=>?_)
    ·have g':=of_decide_eq_true g
     have e1:eE st vals i j=[((i:Int),(j:Int))]:=by unfold eE;rw[if_pos (by lia)]
     rw[e1]
     have lz:zs2.length<=200:=by
      rw[iz2.length,length_map,length_append]
      have h1:=AZ st vals i
      have h2:=oE st vals i j
      have h3:i*vals.length<=8*8:=Nat.mul_le_mul (by lia) l8
      lia
     walk_at"rd"
     refine⟨fJ hz2,?_⟩
     walk_at"rd"
     refine⟨by show 2<=sizeLine;decide,λo ho=>?_⟩
     have hro:r≠o:=aS hz2 ho
     walk_at"rd"
     refine jL (xs:=zs2) (by rw[aE hro];exact hz2) (gJ (by lia)) ?_
     walk_at"rd"
     refine⟨⟨_,rfl⟩,λc u e=>?_,_,aC,?_⟩
     ·have e3:=s2 c u e
      rw[aE (aS e hr'),aE (aS e3 ho)]
      exact e3
     ·rw[Int.zero_add,Int.zero_add]
      refine pU (gR _) hz2 ho iz2 (.tup ?_ (.cons (.int _) (.cons (.int _) .nil)))
      rw[aE (Ne.symm hro),aC]
    ·have g':=of_decide_eq_false g
     have e1:eE st vals i j=[]:=by unfold eE;rw[if_neg (by lia)]
     rw[e1]
     walk_at"rd"
     exact⟨⟨_,rfl⟩,s2,zs2,hz2,by simpa using iz2⟩
   ·rintro σ H2 ⟨⟨v4,rfl⟩,s2,zs2,hz2,iz2⟩
    exact⟨⟨_,_,rfl⟩,s2,zs2,hz2,by rw[oF];exact iz2⟩
  ·rintro σ H1 ⟨⟨v3,v4,rfl⟩,s1,zs,hz,iz⟩
   have ep1:=s1 _ _ ep
   walk_at"rd"
   rw[ln]
   intro tp htp
   have f1:=Same.upd (o:=.tup zs) htp
   walk_at"rd"
   refine⟨by show 2<=sizeLine;decide,λo ho=>?_⟩
   have f2:=Same.upd (o:=.tup [V.int (vals.length:Nat),V.ref tp]) ho
   have nto:tp≠o:=aS aC ho
   refine q _ _ ((s1.trans f1).trans f2) ?_
   exact .tup aC (.cons (.int _) (.cons (.tup (by rw[aE nto,aC]) ((iz.same f1).same f2)) .nil))
inductive B4 (K:PySem.W.Frag) (vs:List V) (H:Hp) (Q:VK) (zz3:XK):Prop where
 |mk (a ns tw ts:_) (zh0:vs=[.ref a,.ref tw,.int 8]) (zh1:Scr K H a ns) (zh2:H tw=some (.lst ts)) (zh3:ts.length<=100) (zh4:∀x H' n ps ts',SameT tw H H'->H' tw=some (.lst ts')->ts'.length<=ts.length+60->Ord n ps->Is H' x (bZ n ps)->Q x H'):B4 K vs H Q zz3
theorem R6(T:aT K mg t):FnOk P w K mg base aU 5 t.zU t.yD ["_law_script","_law_town","_law_most"] (B4 K):=by
 refine T.JU.ok sc__law_order (λvs H Q E h=>?_) (λcdv A outer s H vs Q E hr h=>?_)
 ·obtain⟨a,ns,tw,ts,rfl,_⟩:=h
  rfl
 ·obtain⟨a,ns,tw,ts,rfl,hs,ht,hl,q⟩:=h
  refine⟨_,(aF (bG (i:=3) sc__law_order.nd rfl (Or.inl rfl) (aY c6 pe_int (aN (jB T) (hr.mono (by decide)) rfl T.jC T.iW.kp T.jE .nil aO (aA (pv 0) (aA (pv 1) (aA (pv 2) pa_nil))))))
   (aF (oX (i:=5) sc__law_order.nd rfl rfl rfl rfl ⟨True.intro,True.intro,True.intro,True.intro,(.inl rfl),(.inl rfl),True.intro⟩ (M:=["_law_k","_law_script","_law_town"]) (.own (.free 0 rfl rfl (.free 1 rfl rfl .nil))) (fE rfl) rfl (by decide +kernel) (cS rfl T.cQ (aA (pv 3) pa_nil)) (λC fp s1 H1=>⟨aP (i:=0) (show(["_law_k","_law_script","_law_town"]:List Str).Nodup by decide +kernel) rfl (Or.inl rfl),i9,(aN (jB T) (hr.mono (by decide)) rfl T.jC T.iW.kp T.jE .nil aO (aA (pv 1) (aA (pv 2) (aA (aN (FE T) (hr.mono (by decide)) rfl T.FU T.AE.kp T.IG .nil aO (aA (pv 1) (aA (pv 2) (aA (cT (aA pe_int (aA pe_int (aA pe_int pa_nil)))) pa_nil)))) pa_nil))))⟩))
   (aF (bG (i:=6) sc__law_order.nd rfl (Or.inl rfl) (aN (R9 T) (hr.mono (by decide)) rfl T.UG T.JX.kp T.Z0 .nil aO (aA (aY c6 pe_int (aN (jB T) (hr.mono (by decide)) rfl T.jC T.iW.kp T.jE .nil aO (aA (pv 0) (aA (pv 1) (aA (aN (FE T) (hr.mono (by decide)) rfl T.FU T.AE.kp T.IG .nil aO (aA (pv 0) (aA (pv 1) (aA (cT (aA pe_int (aA pe_int (aA pe_int pa_nil)))) pa_nil)))) pa_nil))))) (aA (pv 5) pa_nil))))
   (aF (bL (PW.pt (gP (bE (dY hr.units) (pv 3) pe_int (bA _)) (gO (bE (dY hr.units) (aN (jB T) (hr.mono (by decide)) rfl T.jC T.iW.kp T.jE .nil aO (aA (pv 0) (aA (pv 1) (aA pe_int pa_nil)))) pe_int (bA _))))) (aD (aK (pv 6))) bK)
   (aF (bG (i:=7) sc__law_order.nd rfl (Or.inl rfl) (iC (VU K) (by rfl) T.FL HR (aA (aQ (aR K) (pv 6) pe_int (λ_ _=>rfl)) pa_nil)))
   (aF (bW PassesOwn.never rfl (cS rfl T.cQ (aA (aY c6 pe_int (aN (jB T) (hr.mono (by decide)) rfl T.jC T.iW.kp T.jE .nil aO (aA (pv 0) (aA (pv 1) (aA pe_int pa_nil))))) pa_nil)) (aP (i:=4) sc__law_order.nd rfl (Or.inl rfl)) (aF (bG (i:=8) sc__law_order.nd rfl (Or.inr rfl) (aN (jB T) (hr.mono (by decide)) rfl T.jC T.iW.kp T.jE .nil aO (aA (pv 0) (aA (pv 1) (aA (pv 3) pa_nil)))))
   (aF (bG (i:=9) sc__law_order.nd rfl (Or.inr rfl) (aY mC (aY c6 (aY c6 (pv 8) pe_int) (aN (jB T) (hr.mono (by decide)) rfl T.jC T.iW.kp T.jE .nil aO (aA (pv 0) (aA (pv 1) (aA (aY kI (pv 3) pe_int) pa_nil))))) (pv 3)))
   (aD (bG (i:=7) sc__law_order.nd rfl (Or.inl rfl) (aY E5 (fN rfl ⟨True.intro,True.intro,(.inl rfl),(.inl rfl),True.intro⟩ (M:=["_law_pair","_law_one","_law_other"]) (.own (.free 8 rfl rfl (.free 9 rfl rfl .nil))) (fE rfl) rfl (by decide +kernel) (fS K (pv 7)) (λC fp s1 H1=>⟨aP (i:=0) (show(["_law_pair","_law_one","_law_other"]:List Str).Nodup by decide +kernel) rfl (Or.inl rfl),jR (bE (fQ hr.units) (pv 0) (bI (aA (pv 1) (aA (pv 2) pa_nil))) (bA _)),(pv 0)⟩)) (aY mB (cT (aA (bI (aA (pv 8) (aA (pv 9) pa_nil))) pa_nil)) (iC HQ (by rfl) T.vK yN (aA (cP (iD hr.units) (bI (aA (pv 8) (aA (pv 9) pa_nil))) (pv 7) (by rfl)) pa_nil)))))))))
   (aD (aK (bI (aA (pv 3) (aA (iC (wB K) (by rfl) T.kL lF (aA (aZ (VN K) (by rfl) T.kM lG (aA (pv 7) pa_nil)) pa_nil)) pa_nil))))))))))),?_⟩
  walk_at"rd"
  refine⟨a,ns,tw,ts,8,rfl,hs,ht,by lia,by decide,λr0 H1 ts1 s1 ht1 hl1 r00 r08=>?_⟩
  obtain⟨n,hn⟩:∃n:Nat,1+r0=(n:Int):=⟨(1+r0).toNat,by lia⟩
  have hs1:=hs.t ht s1
  walk_at"rd"
  rw[hn]
  refine⟨_,rfl,by lia,by lia,?_⟩
  rw[Int.toNat_natCast]
  refine mH (c9 (by lia)) (λi ys H'=>SameT tw H1 H'/\(∃ts',H' tw=some (.lst ts')/\ts'.length<=ts.length+1+2*i)/\∃vals:List Int,ys=vals.map V.int/\vals.length=i) ⟨SameT.refl _ _,⟨ts1,ht1,by lia⟩,[],rfl,rfl⟩ (by
   rintro i ys H' ⟨_,_,vals,rfl,h⟩
   rw[length_map]
   lia) ?_ ?_
  ·rintro i ys H2 hi ⟨s2,⟨ts2,ht2,hl2⟩,vals,rfl,lv⟩
   have hs2:=hs1.t ht1 s2
   walk_at"rd"
   refine⟨by show 3<=sizeLine;decide,λq1 hq1=>?_⟩
   have f1:=Same.upd (o:=.lst [V.int 6,V.int 10,V.int 20]) hq1
   have n1:q1≠tw:=λz=>by rw[z,ht2]at hq1;cases hq1
   walk_at"rd"
   refine⟨a,ns,tw,ts2,q1,_,rfl,hs2.same f1,f1 _ _ ht2,by lia,aC,n1,by show 0<3;decide,λv H3 ts3 s3 ht3 hl3 hv=>?_⟩
   obtain⟨m,rfl,m0⟩:∃m:Int,v=.int m/\0<m:=by
    simp only[mem_cons,not_mem_nil,or_false]at hv
    rcases hv with rfl|rfl|rfl
    ·exact⟨_,rfl,by decide⟩
    ·exact⟨_,rfl,by decide⟩
    ·exact⟨_,rfl,by decide⟩
   have s13:=(s2.trans f1.t).trans s3
   walk_at"rd"
   refine⟨a,ns,tw,ts3,m,rfl,hs1.t ht1 s13,ht3,by lia,m0,λr4 H4 ts4 s4 ht4 hl4 _ _=>?_⟩
   exact⟨s13.trans s4,⟨ts4,ht4,by lia⟩,vals++[r4],by rw[map_append];rfl,by rw[length_append,lv];rfl⟩
  ·rintro ys H2 ⟨s2,⟨ts2,ht2,hl2⟩,vals,rfl,lv⟩ pl hpl
   have f0:=Same.upd (o:=.lst (vals.map V.int)) hpl
   have npl:pl≠tw:=λz=>by rw[z,ht2]at hpl;cases hpl
   have s3:=(s1.trans s2).trans f0.t
   have hs3:=hs.t ht s3
   have ht3:=f0 _ _ ht2
   have el3:upd H2 pl (.lst (vals.map V.int)) pl=some (.lst (vals.map V.int)):=aC
   generalize upd H2 pl (.lst (vals.map V.int))=H3 at s3 hs3 ht3 el3
   clear s2 ht2 f0 hpl hs1 s1 ht1 hl1
   have n8:n<=8:=by lia
   have n1:1<=n:=by lia
   walk_at"rd"
   refine⟨by show 3<=sizeLine;decide,λq1 hq1=>?_⟩
   have f1:=Same.upd (o:=.lst [V.int 3,V.int 6,V.int 12]) hq1
   have nq1:q1≠tw:=λz=>by rw[z,ht3]at hq1;cases hq1
   walk_at"rd"
   refine⟨a,ns,tw,ts2,q1,_,rfl,hs3.same f1,f1 _ _ ht3,by lia,aC,nq1,by show 0<3;decide,λv H4 ts4 s4 ht4 hl4 hv=>?_⟩
   obtain⟨m,rfl,m0⟩:∃m:Int,v=.int m/\0<m:=by
    simp only[mem_cons,not_mem_nil,or_false]at hv
    rcases hv with rfl|rfl|rfl
    ·exact⟨_,rfl,by decide⟩
    ·exact⟨_,rfl,by decide⟩
    ·exact⟨_,rfl,by decide⟩
   have s34:=f1.t.trans s4 (w:=tw)
   have hs4:=hs3.t ht3 s34
   have el4:=s34 _ _ el3 npl
   have sH4:=s3.trans s34
   walk_at"rd"
   refine⟨a,ns,tw,ts4,m,rfl,hs4,ht4,by lia,m0,λr5 H5 ts5 s5 ht5 hl5 r50 r51=>?_⟩
   have el5:=s5 _ _ el4 npl
   have hs5:=hs4.t ht4 s5
   have sH5:=sH4.trans s5
   walk_at"rd"
   refine⟨pl,vals,1+r5,rfl,el5,by lia,λx H6 s6 hx=>?_⟩
   rw[lv]at hx
   have ho:Ord n (cN (1+r5) vals):=lv▸K8 (by lia) (by lia) (by lia)
   have ht6:=s6 _ _ ht5
   have hs6:=hs5.same s6
   have sH6:=sH5.trans s6.t
   generalize cN (1+r5) vals=ps at hx ho
   clear hs3 hs4 hs5 ht3 ht4 ht5 el3 el4 el5 s34 s4 s5 s6 sH4 sH5 f1 s3
   walk_at"rd"
   refine bS (λg=>?_) (λg=>?_)
   ·walk_at"rd"
    exact q x H6 n ps ts5 sH6 ht6 (by lia) ho hx
   have nn1:n≠1:=λz=>by rw[z]at g;exact absurd g (by decide)
   walk_at"rd"
   refine⟨a,ns,tw,ts5,2,rfl,hs6,ht6,by lia,by decide,λr7 H7 ts7 s7 ht7 hl7 _ _=>?_⟩
   have hx7:=Q4 ht6 s7 hx
   have hs7:=hs6.t ht6 s7
   have sH7:=sH6.trans s7
   walk_at"rd"
   refine bS (λg=>?_) (λg=>?_)
   ·walk_at"rd"
    exact q x H7 n ps ts7 sH7 ht7 (by lia) ho hx7
   obtain⟨oa,ob,xs,rfl,ea,eb,hxs⟩:=iL hx7
   have lxs:xs.length=ps.length:=by rw[hxs.length,length_map]
   clear hx hs6 ht6 sH6 s7
   walk_at"rd"
   refine OK eb λl hl'=>?_
   have f8:=Same.upd (o:=.lst xs) hl'
   have nl:l≠tw:=λz=>by rw[z,ht7]at hl';cases hl'
   have ht8:=f8 _ _ ht7
   have hs8:=hs7.same f8
   have ix8:=hxs.same f8
   have el8:upd H7 l (.lst xs) l=some (.lst xs):=aC
   have sH8:=sH7.trans f8.t
   generalize upd H7 l (.lst xs)=H8 at ht8 hs8 ix8 el8 sH8
   clear hs7 ht7 hxs ea eb f8 sH7
   walk_at"rd"
   refine⟨a,ns,tw,ts7,3,rfl,hs8,ht8,by lia,by decide,λr9 H9 ts9 s9 ht9 hl9 r90 r91=>?_⟩
   have hs9:=hs8.t ht8 s9
   have el9:=s9 _ _ el8 nl
   have ix9:=uV ht8 s9 ix8
   have sH9:=sH8.trans s9
   walk_at"rd"
   refine⟨_,rfl,by lia,by lia,?_⟩
   refine eN (λi σ H'=>∃(l:Addr)(zs:List V)(prs:List (Int×Int))(v4 v8 v9:Option V),σ=[some (.ref a),some (.ref tw),some (.int 8),some (.int n),v4,some (.ref pl),some (.ref oa),some (.ref l),v8,v9]/\SameT tw H H'/\Scr K H' a ns/\(∃ts',H' tw=some (.lst ts')/\ts'.length<=ts.length+40+2*i)/\l≠tw/\H' l=some (.lst zs)/\IsAll H' zs (prs.map aJ)/\prs.Nodup/\∀p∈prs,inN n p)
    ⟨l,xs,ps,_,_,_,rfl,sH9,hs9,⟨ts9,ht9,by lia⟩,nl,el9,ix9,mF (jN ho.up),ho.ix⟩ ?_ ?_
   ·rintro i σ G0 hi ⟨l,zs,prs,v4,v8,v9,rfl,sG,hsG,⟨tg,htg,hlg⟩,nl,el,iz,nd,hin⟩
    walk_at"rd"
    refine⟨a,ns,tw,tg,n,rfl,hsG,htg,by lia,by lia,λra G1 tg1 sg1 htg1 hlg1 ra0 ra1=>?_⟩
    have hsG1:=hsG.t htg sg1
    walk_at"rd"
    refine⟨a,ns,tw,tg1,_,rfl,hsG1,htg1,by lia,by lia,λrb G2 tg2 sg2 htg2 hlg2 rb0 rb1=>?_⟩
    obtain⟨o1,o2,o3⟩:=M3 ra0 ra1 rb0 rb1
    have hsG2:=hsG1.t htg1 sg2
    have el2:=sg2 _ _ (sg1 _ _ el nl) nl
    have iz2:=uV htg1 sg2 (uV htg sg1 iz)
    have sG2:=(sG.trans sg1).trans sg2
    walk_at"rd"
    refine⟨_,_,rfl,rfl,by lia,?_⟩
    dsimp only
    generalize (ra+1+rb)%(n:Int)=rc at o1 o2 o3 ⊢
    have lz:zs.length=prs.length:=by rw[iz.length,length_map]
    have lp64:=lX nd λp hp=>(hin p hp).box n8
    walk_at"rd"
    refine⟨l,rfl,⟨_,SqL.of el2⟩,?_⟩
    refine mI (K:=K) (xs:=zs) (c9 (by lia)) (λj ys H'=>Same G2 H'/\IsAll H' ys ((fP (ra,rc) (prs.take j)).map aJ)) ⟨Same.refl _,.nil⟩ (by
     rintro j ys H' ⟨_,h⟩
     rw[h.length,length_map]
     have:=EY (ra,rc) (prs.take j)
     rw[length_take]at this
     lia) (λj ys H' _ h=>SqL.of (h.1 _ _ el2)) ?_ ?_
    ·rintro j x ys G3 hx ⟨s3,iy⟩
     obtain⟨p0,hp0,ip0⟩:=P9 (iz2.same s3) hx
     rw[take_add_one,hp0,show(some p0).toList=[p0] from rfl,Q1,map_append]
     walk_at"rd"
     refine⟨by show 2<=sizeLine;decide,λp hp=>?_⟩
     have s8:=Same.upd (o:=.tup [V.int ra,V.int rc]) hp
     refine i6 (d:=aJ p0) (e:=aJ (ra,rc)) (ip0.same s8) (.tup aC (.cons (.int _) (.cons (.int _) .nil))) (kK _) (kK _) ?_
     rw[G9]
     walk_at"rd"
     refine bS (λg=>?_) (λg=>?_)
     ·walk_at"rd"
      have g':(!decide (p0=(ra,rc)))=true:=g
      rw[if_pos g']
      exact⟨s3.trans s8,(iy.same s8).append (.cons (ip0.same s8) .nil)⟩
     ·have g':(!decide (p0=(ra,rc)))=false:=g
      rw[if_neg (by rw[g'];exact Bool.false_ne_true),map_nil,append_nil]
      exact⟨s3.trans s8,iy.same s8⟩
    ·rintro ys G3 ⟨s3,iy⟩ p4 hp4
     rw[lz,take_length]at iy
     have f4:=Same.upd (o:=.lst ys) hp4
     have s34:=s3.trans f4
     have iy4:=iy.same f4
     have e4:upd G3 p4 (.lst ys) p4=some (.lst ys):=aC
     generalize upd G3 p4 (.lst ys)=G4 at s34 iy4 e4
     have ly:ys.length<=64:=by
      rw[iy.length,length_map]
      have:=EY (ra,rc) prs
      lia
     clear s3 iy f4
     walk_at"rd"
     refine⟨by show 2<=sizeLine;decide,λp5 hp5=>?_⟩
     have f5:=Same.upd (o:=.tup [V.int ra,V.int rc]) hp5
     have e5:upd G4 p5 (.tup [V.int ra,V.int rc]) p5=some (.tup [V.int ra,V.int rc]):=aC
     have e45:=f5 _ _ e4
     have iy5:=iy4.same f5
     have s35:=s34.trans f5
     generalize upd G4 p5 (.tup [V.int ra,V.int rc])=G5 at e5 e45 iy5 s35
     walk_at"rd"
     refine⟨by show 1<=sizeLine;decide,λp6 hp6=>?_⟩
     have f6:=Same.upd (o:=.lst [V.ref p5]) hp6
     have e6:upd G5 p6 (.lst [V.ref p5]) p6=some (.lst [V.ref p5]):=aC
     have e46:=f6 _ _ e45
     have e56:=f6 _ _ e5
     have iy6:=iy5.same f6
     have s36:=s35.trans f6
     generalize upd G5 p6 (.lst [V.ref p5])=G6 at e6 e46 e56 iy6 s36
     walk_at"rd"
     refine⟨by show 2<=sizeLine;decide,λp7 hp7=>?_⟩
     have f7:=Same.upd (o:=.tup [V.int ra,V.int rc]) hp7
     have e7:upd G6 p7 (.tup [V.int ra,V.int rc]) p7=some (.tup [V.int ra,V.int rc]):=aC
     have e47:=f7 _ _ e46
     have e57:=f7 _ _ e56
     have e67:=f7 _ _ e6
     have iy7:=iy6.same f7
     have s37:=s36.trans f7
     generalize upd G6 p7 (.tup [V.int ra,V.int rc])=G7 at e7 e47 e57 e67 iy7 s37
     clear e4 e5 e45 iy4 iy5 s34 s35 f5 f6 f7 e6 e46 e56 iy6 s36
     walk_at"rd"
     refine NZ e7 (s37 _ _ el2) (iz2.same s37) ?_
     have htg7:=s37 _ _ htg2
     have nd1:=Q2 (q:=(ra,rc)) nd
     have in1:∀p∈fP (ra,rc) prs,inN n p:=λp hp=>hin p (mem_outP.mp hp).1
     cases gh:has prs ra rc with
     |true=>
      walk_at"rd"
      refine kC (n:=0) e67 (by decide) λp8 hp8=>?_
      have f8:=Same.upd (o:=.lst (replicate 0 (V.ref p5))) hp8
      refine uD (f8 _ _ e47) aC (c9 (by rw[length_replicate];lia)) λp9 hp9=>?_
      have f9:=f8.trans (Same.upd (o:=.lst (ys++replicate 0 (V.ref p5))) hp9)
      have np9:p9≠tw:=λz=>by rw[z,f8 _ _ htg7]at hp9;cases hp9
      walk_at"rd"
      refine⟨p9,_,fP (ra,rc) prs,_,_,_,rfl,(sG2.trans s37.t).trans f9.t,(hsG2.same s37).same f9,⟨tg2,f9 _ _ htg7,by lia⟩,np9,aC,?_,nd1,in1⟩
      rw[List.replicate_zero,append_nil]
      have:=iy7.same f9
      rw[List.replicate_zero,append_nil]at this
      exact this
     | false=>
      walk_at"rd"
      refine kC (n:=1) e67 (by decide) λp8 hp8=>?_
      have f8:=Same.upd (o:=.lst (replicate 1 (V.ref p5))) hp8
      refine uD (f8 _ _ e47) aC (c9 (by rw[length_replicate];lia)) λp9 hp9=>?_
      have f9:=f8.trans (Same.upd (o:=.lst (ys++replicate 1 (V.ref p5))) hp9)
      have np9:p9≠tw:=λz=>by rw[z,f8 _ _ htg7]at hp9;cases hp9
      walk_at"rd"
      refine⟨p9,_,fP (ra,rc) prs++[(ra,rc)],_,_,_,rfl,(sG2.trans s37.t).trans f9.t,(hsG2.same s37).same f9,⟨tg2,f9 _ _ htg7,by lia⟩,np9,aC,?_,SR nd1 λz=>(mem_outP.mp z).2 rfl,λp hp=>?_⟩
      ·rw[map_append]
       exact(iy7.same f9).append (.cons (.tup (f9 _ _ e57) (.cons (.int _) (.cons (.int _) .nil))) .nil)
      ·rcases mem_append.mp hp with h|h
       ·exact in1 p h
       ·rcases mem_singleton.mp h with rfl
        exact⟨ra0,ra1,o1,o2,o3⟩
   ·rintro σ G0 ⟨l,zs,prs,v4,v8,v9,rfl,sG,hsG,⟨tg,htg,hlg⟩,nl,el,iz,nd,hin⟩
    walk_at"rd"
    refine NM (.inl el) iz nd (λp hp=>(hin p hp).box n8) λl2 vs' qs hl2' ha hperm hpw=>?_
    have s4:=Same.upd (o:=.lst vs') hl2'
    have ev:upd G0 l2 (.lst vs') l2=some (.lst vs'):=aC
    walk_at"rd"
    intro tp htp
    have s5:=Same.upd (o:=.tup vs') htp
    walk_at"rd"
    refine⟨by show 2<=sizeLine;decide,λo ho'=>?_⟩
    have nto:tp≠o:=aS aC ho'
    have s6:=Same.upd (o:=.tup [V.int n,V.ref tp]) ho'
    have sA:=(s4.trans s5).trans s6
    refine q _ _ n qs tg (sG.trans sA.t) (sA _ _ htg) (by lia) (Q5 n1 n8 (λp hp=>hin p (hperm.mem_iff.mp hp)) hpw) ?_
    exact .tup aC (.cons (.int _) (.cons (.tup (by rw[aE nto,aC]) (((ha.same s4).same s5).same s6)) .nil))
noncomputable def cZ(j:Nat):PyData:=.tuple [.str "refused",.int j]
structure IQ (K:PySem.W.Frag) (t:Ad) (C:Addr) (j:Nat):Prop where
 lt:j<9
 Z:eU K C
 v:PySem.W.kitOne K (.ref C) (.type "ValueError")=some true
 x:PySem.W.exmOne K (.ref C) (.ref t.gZ)=some true
 k0:PySem.W.kitOne K (.ref C) (.ref t.gB)=some (j==0)
 k1:PySem.W.kitOne K (.ref C) (.ref t.gC)=some (j==1)
 k2:PySem.W.kitOne K (.ref C) (.ref t.gA)=some (j==2)
 k3:PySem.W.kitOne K (.ref C) (.ref t.fY)=some (j==3)
 k4:PySem.W.kitOne K (.ref C) (.ref t.gD)=some (j==4)
 k5:PySem.W.kitOne K (.ref C) (.ref t.fZ)=some (j==5)
 k6:PySem.W.kitOne K (.ref C) (.ref t.bN)=some (j==6)
 k7:PySem.W.kitOne K (.ref C) (.ref t.gE)=some (j==7)
 k8:PySem.W.kitOne K (.ref C) (.ref t.fX)=some (j==8)
noncomputable def wL(j:Nat):List Bool:=[j==0,j==1,j==2,j==3,j==4,j==5,j==6,j==7,j==8]
theorem KL{j:Nat}(h:j<9):(wL j).countP (· ==true)=1:=by
 have:∀j:Fin 9,(wL j.val).countP (· ==true)=1:=by decide
 exact this ⟨j,h⟩
theorem KM{j:Nat}(h:j<9):(wL j)[j]? =some true:=by
 have:∀j:Fin 9,(wL j.val)[j.val]? =some true:=by decide
 exact this ⟨j,h⟩
theorem KK{j:Nat}(h:j<9):∀m,m<j->(wL j)[m]? ≠some true:=by
 have:∀j m:Fin 9,m.val<j.val->(wL j.val)[m.val]? ≠some true:=by decide
 exact λm hm=>this ⟨j,h⟩ ⟨m,by lia⟩ hm
inductive BU (K:PySem.W.Frag) (t:Ad) (vs:List V) (H:Hp) (Q:VK) (zz3:XK):Prop where
 |mk (e C j:_) (zh0:vs=[.ref e]) (zh1:H e=some (lB e C)) (zh2:IQ K t C j) (zh3:∀v H',Same H H'->Is H' v (cZ j)->Q v H'):BU K t vs H Q zz3
theorem SB(T:aT K mg t):z9 P w K mg base 1 t.zS t.yB ["_law_e"] (BU K t):=by
 refine T.JT.okH sc__law_which (λvs H Q E h=>?_) (λcdv A outer s H vs Q hr h=>?_)
 ·obtain⟨e,C,j,rfl,_⟩:=h
  rfl
 ·obtain⟨e,C,j,rfl,he,W,q⟩:=h
  refine⟨_,(aF (bG (i:=1) sc__law_which.nd rfl (Or.inl rfl) (cT (aA (aZ (gW K) (by rfl) T.dS dW (aA (pv 0) (aA (fO (v:=.ref t.gB) rfl T.wS rfl) pa_nil))) (aA (aZ (gW K) (by rfl) T.dS dW (aA (pv 0) (aA (fO (v:=.ref t.gC) rfl T.wT rfl) pa_nil))) (aA (aZ (gW K) (by rfl) T.dS dW (aA (pv 0) (aA (fO (v:=.ref t.gA) rfl T.wR rfl) pa_nil))) (aA (aZ (gW K) (by rfl) T.dS dW (aA (pv 0) (aA (fO (v:=.ref t.fY) rfl T.wP rfl) pa_nil))) pa_nil))))))
   (aF (cR (fU K PySem.F.plainAttrs_list PySem.F.slot_list_extend PySem.F.type_list_extend FM (pv 1) (aA (cT (aA (aZ (gW K) (by rfl) T.dS dW (aA (pv 0) (aA (fO (v:=.ref t.gD) rfl T.wU rfl) pa_nil))) (aA (aZ (gW K) (by rfl) T.dS dW (aA (pv 0) (aA (fO (v:=.ref t.fZ) rfl T.wQ rfl) pa_nil))) (aA (aZ (gW K) (by rfl) T.dS dW (aA (pv 0) (aA (fO (v:=.ref t.bN) rfl T.pV rfl) pa_nil))) (aA (aZ (gW K) (by rfl) T.dS dW (aA (pv 0) (aA (fO (v:=.ref t.gE) rfl T.wV rfl) pa_nil))) pa_nil))))) pa_nil)))
   (aF (cR (fU K PySem.F.plainAttrs_list PySem.F.slot_list_append PySem.F.type_list_append jU (pv 1) (aA (aZ (gW K) (by rfl) T.dS dW (aA (pv 0) (aA (fO (v:=.ref t.fX) rfl T.wO rfl) pa_nil))) pa_nil)))
   (aF (bL (PW.pt (gP (bE (fQ hr.units) (fU K PySem.F.plainAttrs_list PySem.F.slot_list_count PySem.F.type_list_count SY (pv 1) (aA pe_bl pa_nil)) pe_int (bA _)) (gO (eZ (dA (aZ (gW K) (by rfl) T.dS dW (aA (pv 0) (aA (kH (v:=.ty "ValueError") rfl T.SW Y3 rfl) pa_nil)))))))) (aD (aK (bI (aA pe_str (aA (EQ AW pe_int) pa_nil))))) bK)
   (aD (aK (bI (aA pe_str (aA (fU K PySem.F.plainAttrs_list PySem.F.slot_list_index PySem.F.type_list_index SX (pv 1) (aA pe_bl pa_nil)) pa_nil))))))))),?_⟩
  walk_at"rd"
  refine iA he W.Z W.k0 ?_
  walk_at"rd"
  refine iA he W.Z W.k1 ?_
  walk_at"rd"
  refine iA he W.Z W.k2 ?_
  walk_at"rd"
  refine iA he W.Z W.k3 ?_
  walk_at"rd"
  refine⟨by show 4<=sizeLine;decide,λl hl=>?_⟩
  have nle:e≠l:=aS he hl
  have s1:=Same.upd (o:=.lst [V.bl (j==0),V.bl (j==1),V.bl (j==2),V.bl (j==3)]) hl
  have el1:upd H l (.lst [V.bl (j==0),V.bl (j==1),V.bl (j==2),V.bl (j==3)]) l=some (.lst [V.bl (j==0),V.bl (j==1),V.bl (j==2),V.bl (j==3)]):=aC
  have he1:=s1 _ _ he
  generalize upd H l (.lst [V.bl (j==0),V.bl (j==1),V.bl (j==2),V.bl (j==3)])=H1 at s1 el1 he1
  walk_at"rd"
  refine⟨fJ el1,?_⟩
  walk_at"rd"
  refine iA he1 W.Z W.k4 ?_
  walk_at"rd"
  refine iA he1 W.Z W.k5 ?_
  walk_at"rd"
  refine iA he1 W.Z W.k6 ?_
  walk_at"rd"
  refine iA he1 W.Z W.k7 ?_
  walk_at"rd"
  refine⟨by show 4<=sizeLine;decide,λm hm=>?_⟩
  have s2:=Same.upd (o:=.lst [V.bl (j==4),V.bl (j==5),V.bl (j==6),V.bl (j==7)]) hm
  walk_at"rd"
  refine DX (s2 _ _ el1) aC (by show 8<=sizeLine;decide) ?_
  have s3:∀b u,H b=some u->upd (upd H1 m (.lst [V.bl (j==4),V.bl (j==5),V.bl (j==6),V.bl (j==7)])) l (.lst ([V.bl (j==0),V.bl (j==1),V.bl (j==2),V.bl (j==3)]++[V.bl (j==4),V.bl (j==5),V.bl (j==6),V.bl (j==7)])) b=some u:=λb u eb=>by
   rw[aE (aS eb hl)]
   exact s2 _ _ (s1 _ _ eb)
  have el2:upd (upd H1 m (.lst [V.bl (j==4),V.bl (j==5),V.bl (j==6),V.bl (j==7)])) l (.lst ([V.bl (j==0),V.bl (j==1),V.bl (j==2),V.bl (j==3)]++[V.bl (j==4),V.bl (j==5),V.bl (j==6),V.bl (j==7)])) l=some (.lst ([V.bl (j==0),V.bl (j==1),V.bl (j==2),V.bl (j==3)]++[V.bl (j==4),V.bl (j==5),V.bl (j==6),V.bl (j==7)])):=aC
  generalize upd (upd H1 m (.lst [V.bl (j==4),V.bl (j==5),V.bl (j==6),V.bl (j==7)])) l (.lst ([V.bl (j==0),V.bl (j==1),V.bl (j==2),V.bl (j==3)]++[V.bl (j==4),V.bl (j==5),V.bl (j==6),V.bl (j==7)]))=H2 at s3 el2
  have he2:=s3 _ _ he
  walk_at"rd"
  refine⟨fJ el2,?_⟩
  walk_at"rd"
  refine iA he2 W.Z W.k8 ?_
  walk_at"rd"
  refine jL el2 (by show 8<sizeLine;decide) ?_
  have s6:Same H (upd H2 l (.lst (([V.bl (j==0),V.bl (j==1),V.bl (j==2),V.bl (j==3)]++[V.bl (j==4),V.bl (j==5),V.bl (j==6),V.bl (j==7)])++[V.bl (j==8)]))):=λb u eb=>by
   rw[aE (aS eb hl)]
   exact s3 _ _ eb
  have el4:upd H2 l (.lst (([V.bl (j==0),V.bl (j==1),V.bl (j==2),V.bl (j==3)]++[V.bl (j==4),V.bl (j==5),V.bl (j==6),V.bl (j==7)])++[V.bl (j==8)])) l=some (.lst ((wL j).map V.bl)):=aC
  generalize upd H2 l (.lst (([V.bl (j==0),V.bl (j==1),V.bl (j==2),V.bl (j==3)]++[V.bl (j==4),V.bl (j==5),V.bl (j==6),V.bl (j==7)])++[V.bl (j==8)]))=H4 at s6 el4
  have he4:=s6 _ _ he
  walk_at"rd"
  refine⟨fJ el4,?_⟩
  walk_at"rd"
  refine O9 el4 ?_
  rw[KL W.lt]
  walk_at"rd"
  refine fD rfl ?_
  walk_at"rd"
  refine OR he4 W.Z W.v ?_
  walk_at"rd"
  refine⟨fJ el4,?_⟩
  walk_at"rd"
  refine OZ el4 (KM W.lt) (KK W.lt) ?_
  refine⟨by show 2<=sizeLine;decide,λp hp=>?_⟩
  exact q _ _ (s6.trans (Same.upd hp)) (.tup aC (.cons (.str _) (.cons (.int _) .nil)))
end
noncomputable def SJ:Option (List Int)->PyData
 |none=>.none
 |some v=>.tuple (v.map .int)
noncomputable def NumV(H:Hp)(x:V):Option (List Int)->Prop
 |none=>x=.non
 |some v=>∃p,x=.ref p/\H p=some (.tup (v.map V.int))
theorem NumV.is{H:Hp}{x:V}{o:Option (List Int)}(h:NumV H x o):Is H x (SJ o):=by
 cases o with
 |none=>cases h;exact .non
 |some v=>obtain⟨p,rfl,e⟩:=h;exact .tup e (IsAll.ints _)
theorem NumV.same{H H':Hp}{x:V}{o:Option (List Int)}(h:NumV H x o)(s:Same H H'):NumV H' x o:=by
 cases o with
 |none=>exact h
 |some v=>obtain⟨p,rfl,e⟩:=h;exact⟨p,rfl,s _ _ e⟩
noncomputable def bO(ps:List (Int×Int))(c:Int):List Int:=(ps.filter λp=>p.2==c).map (·.1)
noncomputable def cI(ps:List (Int×Int))(c:Int):List Int:=(ps.filter λp=>p.1==c).map (·.2)
noncomputable def bX(ps:List (Int×Int))(c:Int):Int:=((bO ps c).length:Int)-((cI ps c).length:Int)
noncomputable def aI(n:Nat)(ps:List (Int×Int)):List Int:=(range n).map λ(i:Nat)=>bX ps (i:Int)
noncomputable def bP(hs:List Int)(v:Int):List Int:=((range hs.length).filter λi=>hs.getD i 0==v).map λ(i:Nat)=>(i:Int)
theorem HZ(ps:List (Int×Int))(c:Int)(k:Nat)(p:Int×Int)(h:ps[k]? =some p):bO (ps.take (k+1)) c=bO (ps.take k) c++(if p.2==c then[p.1] else[]):=by
 unfold bO
 rw[take_add_one,h,filter_append,map_append]
 show _++((List.filter _ [p]).map _)=_
 rw[filter_cons]
 split <;> rfl
theorem Z8(ps:List (Int×Int))(c:Int)(k:Nat)(p:Int×Int)(h:ps[k]? =some p):cI (ps.take (k+1)) c=cI (ps.take k) c++(if p.1==c then[p.2] else[]):=by
 unfold cI
 rw[take_add_one,h,filter_append,map_append]
 show _++((List.filter _ [p]).map _)=_
 rw[filter_cons]
 split <;> rfl
theorem IA(ps:List (Int×Int))(c:Int):(bO ps c).length<=ps.length:=by unfold bO;rw[length_map];exact length_filter_le _ _
theorem Z9(ps:List (Int×Int))(c:Int):(cI ps c).length<=ps.length:=by unfold cI;rw[length_map];exact length_filter_le _ _
noncomputable def lH(hs:List Int)(v:Int)(k:Nat):List Int:=((range k).filter λi=>hs.getD i 0==v).map λ(i:Nat)=>(i:Int)
theorem Z3(hs:List Int)(v:Int)(k:Nat):lH hs v (k+1)=lH hs v k++(if hs.getD k 0==v then[(k:Int)] else[]):=by
 unfold lH
 rw[range_succ,filter_append,map_append]
 show _++((List.filter _ [k]).map _)=_
 rw[filter_cons]
 split <;> rfl
theorem IL(hs:List Int)(v:Int)(k:Nat):(lH hs v k).length<=k:=by
 unfold lH
 rw[length_map]
 have:=length_filter_le (λi=>hs.getD i 0==v) (range k)
 rw[length_range]at this
 exact this
theorem len_sub:∀{L ns:List Int},L.Nodup->(∀x∈L,x∈ns)->L.length<=ns.length
 |[],ns,_,_=>Nat.zero_le _
 |x::L,ns,nd,sub=>by
  have hx:=sub x mem_cons_self
  rw[nodup_cons]at nd
  have p1:=(List.perm_cons_erase hx).length_eq
  have:=len_sub (L:=L) (ns:=ns.erase x) nd.2 λy hy=>(List.mem_erase_of_ne (λz:y=x=>nd.1 (z▸hy))).mpr (sub y (mem_cons_of_mem _ hy))
  simp only[length_cons]at p1 ⊢
  lia
theorem SK{ns ms:List Int}(h:dL ns ms):ms.Nodup:=h.up.imp λh=>Int.ne_of_lt h
theorem vE{ns ms:List Int}(h:dL ns ms):ms.length<=ns.length:=len_sub (SK h) λx hx=>(h.mem x).mp hx
section
variable{P:Program}{w:World}{K:PySem.W.Frag}{mg:Str->Option Value}{base:Heap}{t:Ad}
inductive CJ (vs:List V) (H:Hp) (Q:VK) (zz3:XK):Prop where
 |mk (x:V) (ps:List (Int×Int)) (c:Int) (zh0:vs=[x,.int c]) (zh1:Is H x (.tuple (ps.map aJ))) (zh2:ps.length<=1000) (zh3:∀H',Same H H'->Q (.int (bX ps c)) H'):CJ vs H Q zz3
theorem RW(T:aT K mg t):FnOk P w K mg base aU 1 t.zK t.xV ["pairs","thing"] CJ:=by
 refine T.JM.ok sc_height (λvs H Q E h=>?_) (λcdv A outer s H vs Q E hr h=>?_)
 ·obtain⟨x,ps,c,rfl,_⟩:=h
  rfl
 ·obtain⟨x,ps,c,rfl,hx,sz,q⟩:=h
  refine⟨_,(aF (oX (i:=2) sc_height.nd rfl rfl rfl rfl ⟨True.intro,True.intro,True.intro,(.inl rfl),True.intro⟩ (M:=["one","other","thing"]) (.own (.own (.free 1 rfl rfl .nil))) (wM (kZ rfl (kZ rfl wK))) rfl (by decide +kernel) (fR K (pv 0)) (λC fp s1 H1=>⟨fT K (n:=2) rfl (cF (aP (i:=0) (show(["one","other","thing"]:List Str).Nodup by decide +kernel) rfl (Or.inl rfl)) (cF (aP (i:=1) (show(["one","other","thing"]:List Str).Nodup by decide +kernel) rfl (Or.inl rfl)) fM)),jR (bE (dY hr.units) (pv 1) (pv 2) (bA _)),(pv 0)⟩))
   (aF (oX (i:=3) sc_height.nd rfl rfl rfl rfl ⟨True.intro,True.intro,True.intro,(.inl rfl),True.intro⟩ (M:=["one","other","thing"]) (.own (.own (.free 1 rfl rfl .nil))) (wM (kZ rfl (kZ rfl wK))) rfl (by decide +kernel) (fR K (pv 0)) (λC fp s1 H1=>⟨fT K (n:=2) rfl (cF (aP (i:=0) (show(["one","other","thing"]:List Str).Nodup by decide +kernel) rfl (Or.inl rfl)) (cF (aP (i:=1) (show(["one","other","thing"]:List Str).Nodup by decide +kernel) rfl (Or.inl rfl)) fM)),jR (bE (dY hr.units) (pv 0) (pv 2) (bA _)),(pv 1)⟩))
   (aD (aK (aY kI (aZ (dG K) (by rfl) T.dB dJ (aA (pv 2) pa_nil)) (aZ (dG K) (by rfl) T.dB dJ (aA (pv 3) pa_nil))))))),?_⟩
  cases hx with
  |@tup b xs _ eb hxs=>
  have hl:xs.length=ps.length:=by rw[hxs.length,length_map]
  walk_at"rd"
  refine⟨b,rfl,⟨xs,SqT.of eb⟩,?_⟩
  refine mG (K:=K) (xs:=xs) (c9 (by lia)) (λj zs H'=>Same H H'/\zs=(bO (ps.take j) c).map V.int) ⟨Same.refl _,rfl⟩ (by
   rintro j zs H' ⟨_,rfl⟩
   rw[length_map]
   have:=IA (ps.take j) c
   rw[length_take]at this
   lia) (λj zs H' _ h=>SqT.of (h.1 _ _ eb)) ?_ ?_
  ·rintro j x zs H2 hx ⟨s2,rfl⟩
   obtain⟨p0,r,hp0,rfl,er⟩:=jP (hxs.same s2) hx
   walk_at"rd"
   refine fK er rfl ?_
   walk_at"rd"
   rw[HZ _ _ _ _ hp0]
   refine bS (λg=>?_) (λg=>?_)
   ·have g':(p0.2==c)=true:=g
    walk_at"rd"
    rw[if_pos g',map_append]
    exact⟨s2,rfl⟩
   ·have g':(p0.2==c)=false:=g
    rw[if_neg (by rw[g'];exact Bool.false_ne_true),append_nil]
    exact⟨s2,rfl⟩
  ·rintro zs H2 ⟨s2,rfl⟩ l1 hl1
   rw[hl,take_length]
   have s3:=s2.trans (Same.upd (o:=.lst ((bO ps c).map V.int)) hl1)
   have e1:upd H2 l1 (.lst ((bO ps c).map V.int)) l1=some (.lst ((bO ps c).map V.int)):=aC
   generalize upd H2 l1 (.lst ((bO ps c).map V.int))=H3 at s3 e1
   walk_at"rd"
   refine⟨b,rfl,⟨xs,SqT.of (s3 _ _ eb)⟩,?_⟩
   refine mG (K:=K) (xs:=xs) (c9 (by lia)) (λj zs H'=>Same H3 H'/\zs=(cI (ps.take j) c).map V.int) ⟨Same.refl _,rfl⟩ (by
    rintro j zs H' ⟨_,rfl⟩
    rw[length_map]
    have:=Z9 (ps.take j) c
    rw[length_take]at this
    lia) (λj zs H' _ h=>SqT.of (h.1 _ _ (s3 _ _ eb))) ?_ ?_
   ·rintro j x zs H4 hx ⟨s4,rfl⟩
    obtain⟨p0,r,hp0,rfl,er⟩:=jP ((hxs.same s3).same s4) hx
    walk_at"rd"
    refine fK er rfl ?_
    walk_at"rd"
    rw[Z8 _ _ _ _ hp0]
    refine bS (λg=>?_) (λg=>?_)
    ·have g':(p0.1==c)=true:=g
     walk_at"rd"
     rw[if_pos g',map_append]
     exact⟨s4,rfl⟩
    ·have g':(p0.1==c)=false:=g
     rw[if_neg (by rw[g'];exact Bool.false_ne_true),append_nil]
     exact⟨s4,rfl⟩
   ·rintro zs H4 ⟨s4,rfl⟩ l2 hl2
    rw[hl,take_length]
    have s5:=s4.trans (Same.upd (o:=.lst ((cI ps c).map V.int)) hl2)
    have e2:upd H4 l2 (.lst ((cI ps c).map V.int)) l2=some (.lst ((cI ps c).map V.int)):=aC
    generalize upd H4 l2 (.lst ((cI ps c).map V.int))=H5 at s5 e2
    have e1':=s5 _ _ e1
    walk_at"rd"
    have q':=q H5 (s3.trans s5)
    unfold bX at q'
    simpa using q'
inductive BV (vs:List V) (H:Hp) (Q:VK) (zz3:XK):Prop where
 |mk (l:Addr) (hs:List Int) (v:Int) (zh0:vs=[.ref l,.int v]) (zh1:H l=some (.lst (hs.map V.int))) (zh2:hs.length<=8) (zh3:∀r H',Same H H'->H r=none->H' r=some (.lst ((bP hs v).map V.int))->Q (.ref r) H'):BV vs H Q zz3
theorem RG(T:aT K mg t):FnOk P w K mg base aU 1 t.yZ t.xD ["heights","level"] BV:=by
 refine T.IZ.ok MF (λvs H Q E h=>?_) (λcdv A outer s H vs Q E hr h=>?_)
 ·obtain⟨l,hs,v,rfl,_⟩:=h
  rfl
 ·obtain⟨l,hs,v,rfl,el,h8,q⟩:=h
  refine⟨_,(aD (aK (fN rfl ⟨True.intro,True.intro,(.inl rfl),(.inl rfl),True.intro⟩ (M:=["thing","heights","level"]) (.own (.free 0 rfl rfl (.free 1 rfl rfl .nil))) (fE rfl) rfl (by decide +kernel) (cS rfl T.cQ (aA (aZ (dG K) (by rfl) T.dB dJ (aA (pv 0) pa_nil)) pa_nil)) (λC fp s1 H1=>⟨aP (i:=0) (show(["thing","heights","level"]:List Str).Nodup by decide +kernel) rfl (Or.inl rfl),jR (bE (dY hr.units) (aQ (aR K) (pv 1) (pv 0) (λ_ _=>rfl)) (pv 2) (bA _)),(pv 0)⟩)))),?_⟩
  walk_at"rd"
  refine⟨_,rfl,by simp,by simp;lia,?_⟩
  rw[length_map,Int.toNat_natCast]
  refine mH (c9 (by lia)) (λi ys H'=>Same H H'/\ys=(lH hs v i).map V.int) ⟨Same.refl _,rfl⟩ (by
   rintro i ys H' ⟨_,rfl⟩
   rw[length_map]
   exact IL _ _ _) ?_ ?_
  ·rintro k ys H2 hk ⟨s2,rfl⟩
   have el2:=s2 _ _ el
   walk_at"rd"
   rw[Int.zero_add,Z3]
   refine gL el2 (atI_of rfl (iP hk)) ?_
   walk_at"rd"
   refine bS (λg=>?_) (λg=>?_)
   ·have g':(hs.getD k 0==v)=true:=g
    walk_at"rd"
    rw[if_pos g',map_append]
    exact⟨s2,rfl⟩
   ·have g':(hs.getD k 0==v)=false:=g
    rw[if_neg (by rw[g'];exact Bool.false_ne_true),append_nil]
    exact⟨s2,rfl⟩
  ·rintro ys H2 ⟨s2,rfl⟩ r hr'
   walk_at"rd"
   have hn:H r=none:=by
    cases e:H r with
    |none=>rfl
    |some u=>rw[s2 _ _ e]at hr';cases hr'
   exact q r _ (s2.trans (Same.upd hr')) hn aC
noncomputable def Rws(H:Hp)(hs:List Int)(zs:List V)(ms:List Int):Prop:=zs.length=ms.length/\∀(j:Nat)(v:Int),ms[j]? =some v->∃r,zs[j]? =some (.ref r)/\H r=some (.lst ((bP hs v).map V.int))
theorem Rws.is{H:Hp}{hs:List Int}{zs:List V}{ms:List Int}(h:Rws H hs zs ms):IsAll H zs (ms.map λv=>PyData.list ((bP hs v).map PyData.int)):=by
 induction ms generalizing zs with
 |nil=>
  obtain rfl:zs=[]:=eq_nil_of_length_eq_zero h.1
  exact .nil
 | cons v ms ih=>
  obtain⟨r,e1,e2⟩:=h.2 0 v rfl
  cases zs with
  |nil=>cases e1
  |cons z zs=>
   cases e1
   exact .cons (.lst (.inl e2) (IsAll.ints _)) (ih ⟨by simpa using h.1,λj u hu=>by simpa using h.2 (j+1) u (by simpa using hu)⟩)
theorem Rws.same{H H':Hp}{hs:List Int}{zs:List V}{ms:List Int}(h:Rws H hs zs ms)(s:Same H H'):Rws H' hs zs ms:=⟨h.1,λj v e=>let⟨r,e1,e2⟩:=h.2 j v e;⟨r,e1,s _ _ e2⟩⟩
theorem Rws.snoc{H:Hp}{hs:List Int}{zs:List V}{ms:List Int}{v:Int}{r:Addr}(h:Rws H hs zs ms)(e:H r=some (.lst ((bP hs v).map V.int))):Rws H hs (zs++[.ref r]) (ms++[v]):=by
 refine⟨by simp[h.1],λj u hu=>?_⟩
 by_cases g:j<ms.length
 ·rw[List.getElem?_append_left g]at hu
  rw[List.getElem?_append_left (by rw[h.1];exact g)]
  exact h.2 j u hu
 ·have ej:j=ms.length:=by
   have:=(List.getElem?_eq_some_iff.mp hu).1
   simp at this
   lia
  subst ej
  rw[List.getElem?_append_right (Nat.le_refl _)]at hu
  rw[List.getElem?_append_right (by rw[h.1];exact Nat.le_refl _),h.1]
  simp at hu ⊢
  subst hu
  exact e
inductive rX (vs:List V) (H:Hp) (Q:VK) (zz3:XK):Prop where
 |mk (x:V) (n:Nat) (ps:List (Int×Int)) (zh0:vs=[x]) (zh1:Is H x (bZ n ps)) (zh2:Ord n ps) (zh3:bT n ps=false) (zh4:∀r zs ms H',Same H H'->H r=none->dL (aI n ps) ms->H' r=some (.lst zs)->Rws H' (aI n ps) zs ms->Q (.ref r) H'):rX vs H Q zz3
theorem E9(T:aT K mg t):FnOk P w K mg base aU 8 t.g9 t.nC ["order"] rX:=by
 refine T.nU.ok sc_row (λvs H Q E h=>?_) (λcdv A outer s H vs Q E hr h=>?_)
 ·obtain⟨x,n,ps,rfl,_⟩:=h
  rfl
 ·obtain⟨x,n,ps,rfl,hx,ho,hb,q⟩:=h
  refine⟨_,(aF (cR (aN (u6 T) (hr.mono (by decide)) rfl T.vP T.nV.kp T.yU .nil aO (aA (pv 0) pa_nil)))
   (aF (bG (i:=1) sc_row.nd rfl (Or.inr rfl) (fN rfl ⟨True.intro,True.intro,True.intro,(.inl rfl),True.intro⟩ (M:=["thing","order"]) (.own (.free 0 rfl rfl .nil)) (fE rfl) rfl (by decide +kernel) (cS rfl T.cQ (aA (aQ (aR K) (pv 0) pe_int (λ_ _=>rfl)) pa_nil)) (λC fp s1 H1=>⟨aP (i:=0) (show(["thing","order"]:List Str).Nodup by decide +kernel) rfl (Or.inl rfl),i9,(aN (RW T) (hr.mono (by decide)) rfl T.T5 T.JM.kp T.ZP .nil aO (aA (aQ (aR K) (pv 1) pe_int (λ_ _=>rfl)) (aA (pv 0) pa_nil)))⟩)))
   (aD (aK (fN rfl ⟨True.intro,True.intro,True.intro,(.inl rfl),True.intro⟩ (M:=["level","heights"]) (.own (.free 1 rfl rfl .nil)) (fE rfl) rfl (by decide +kernel) (fS K (VO K rfl T.kM rfl T.SS (aA (pv 1) pa_nil))) (λC fp s1 H1=>⟨aP (i:=0) (show(["level","heights"]:List Str).Nodup by decide +kernel) rfl (Or.inl rfl),i9,(aN (RG T) (hr.mono (by decide)) rfl T.TM T.IZ.kp T.ZC .nil aO (aA (pv 1) (aA (pv 0) pa_nil)))⟩)))))),?_⟩
  have n8:=ho.hi
  walk_at"rd"
  refine⟨x,n,ps,rfl,hx,ho,hb,λH1 s1=>?_⟩
  obtain⟨oa,ob,xs,rfl,ea,eb,hxs⟩:=iL (hx.same s1)
  walk_at"rd"
  refine⟨_,rfl,by lia,by lia,?_⟩
  rw[Int.toNat_natCast]
  refine mH (c9 (by lia)) (λi ys H'=>Same H1 H'/\ys=((aI n ps).take i).map V.int) ⟨Same.refl _,rfl⟩ (by
   rintro i ys H' ⟨_,rfl⟩
   rw[length_map,length_take]
   lia) ?_ ?_
  ·rintro k ys H2 hk ⟨s2,rfl⟩
   have ea2:=s2 _ _ ea
   walk_at"rd"
   refine⟨_,ps,_,rfl,.tup (s2 _ _ eb) (hxs.same s2),ho.sz,λH3 s3=>⟨s2.trans s3,?_⟩⟩
   have hu:(aI n ps)[k]? =some (bX ps (k:Int)):=by
    unfold aI
    rw[List.getElem?_map,List.getElem?_range hk]
    rfl
   rw[take_add_one,hu,map_append,Int.zero_add]
   rfl
  ·rintro ys H2 ⟨s2,rfl⟩ l hl
   have hlen:(aI n ps).length=n:=by unfold aI;rw[length_map,length_range]
   rw[take_of_length_le (by lia)]
   have s3:=s2.trans (Same.upd (o:=.lst ((aI n ps).map V.int)) hl)
   have e1:upd H2 l (.lst ((aI n ps).map V.int)) l=some (.lst ((aI n ps).map V.int)):=aC
   generalize upd H2 l (.lst ((aI n ps).map V.int))=H3 at s3 e1
   walk_at"rd"
   refine NL ?_
   walk_at"rd"
   refine⟨l,aI n ps,rfl,SqL.of e1,by lia,λr ms hr' nb=>?_⟩
   have lm:=vE nb
   have s4:=s3.trans (Same.upd (o:=.lst (ms.map V.int)) hr')
   have e2:upd H3 r (.lst (ms.map V.int)) r=some (.lst (ms.map V.int)):=aC
   have e1':upd H3 r (.lst (ms.map V.int)) l=some (.lst ((aI n ps).map V.int)):=(Same.upd hr') _ _ e1
   generalize upd H3 r (.lst (ms.map V.int))=H4 at s4 e2 e1'
   refine⟨r,rfl,⟨_,SqL.of e2⟩,?_⟩
   refine mI (K:=K) (xs:=ms.map V.int) (c9 (by rw[length_map];lia)) (λj zs H'=>Same H4 H'/\Rws H' (aI n ps) zs (ms.take j)) ⟨Same.refl _,rfl,λj v e=>by simp at e⟩ (by
    rintro j zs H' ⟨_,h⟩
    rw[h.1,length_take]
    lia) (λj zs H' _ h=>SqL.of (h.1 _ _ e2)) ?_ ?_
   ·rintro j x zs H5 hx5 ⟨s5,iz⟩
    rw[List.getElem?_map]at hx5
    cases em:ms[j]? with
    |none=>rw[em]at hx5;cases hx5
    |some v=>
    rw[em]at hx5
    cases hx5
    walk_at"rd"
    refine⟨l,aI n ps,v,rfl,s5 _ _ e1',by lia,λr6 H6 s6 hn6 e6=>⟨s5.trans s6,?_⟩⟩
    rw[take_add_one,em]
    exact(iz.same s6).snoc e6
   ·rintro zs H5 ⟨s5,iz⟩ r6 hr6
    rw[take_of_length_le (by rw[length_map];exact Nat.le_refl _)]at iz
    have s6:=Same.upd (o:=.lst zs) hr6
    have hn:H r6=none:=by
     cases e:H r6 with
     |none=>rfl
     |some u=>rw[(((s1.trans s4).trans s5)) _ _ e]at hr6;cases hr6
    exact q r6 zs ms _ (((s1.trans s4).trans s5).trans s6) hn nb aC (iz.same s6)
end
structure hW (ps:List (Int×Int)) (L:Int->Int) (c:Int):Prop where
 lo:1<=L c
 ge:∀a,(a,c)∈ps->L a+1<=L c
 is:L c=1\/∃a,(a,c)∈ps/\L c=L a+1
noncomputable def kS(L:Int->Int)(ds:List Int):List (aG×Int):=ds.map λc=>(Sum.inl c,L c)
noncomputable def cG(L:Int->Int)(ds:List Int):List (aG×V):=(kS L ds).map λp=>(p.1,V.int p.2)
theorem v1{L:Int->Int}{a:Int}:∀{ds:List Int},a∈ds->bV (cG L ds) (Sum.inl a)=some (V.int (L a))
 | d::ds,h=>by
  by_cases e:d=a
  ·subst e
   exact lT rfl
  ·have:a∈ds:=by
    rcases mem_cons.mp h with z|z
    ·exact absurd z.symm e
    ·exact z
   show bV ((Sum.inl d,V.int (L d))::cG L ds) (Sum.inl a)=_
   rw[j7 (by intro z;exact e (Sum.inl.inj z))]
   exact v1 this
theorem v0{L:Int->Int}{a:Int}:∀{ds:List Int},a∉ds->bV (cG L ds) (Sum.inl a)=none
 |[],_=>rfl
 |d::ds,h=>by
  show bV ((Sum.inl d,V.int (L d))::cG L ds) (Sum.inl a)=_
  rw[j7 (by intro z;exact h (by rw[Sum.inl.inj z];exact mem_cons_self))]
  exact v0 λz=>h (mem_cons_of_mem _ z)
theorem U4{L L':Int->Int}{ds:List Int}(h:∀c∈ds,L c=L' c):cG L ds=cG L' ds:=by
 unfold cG kS
 rw[map_map,map_map]
 exact map_congr_left λc hc=>by simp[h c hc]
theorem GA(L:Int->Int)(ds:List Int)(c:Int):cG L (ds++[c])=cG L ds++[(Sum.inl c,V.int (L c))]:=by
 unfold cG kS
 rw[map_append,map_append]
 rfl
theorem GB(L:Int->Int)(ds:List Int):(cG L ds).length=ds.length:=by unfold cG kS;rw[length_map,length_map]
theorem EI{n:Nat}{ps:List (Int×Int)}(ho:Ord n ps):ps.Nodup:=mF (jN ho.up)
theorem pA{α β:Type}{f:α->β}:∀{l:List α},l.Nodup->(∀x∈l,∀y∈l,f x=f y->x=y)->(l.map f).Nodup
 |[],_,_=>nodup_nil
 |x::l,h,inj=>by
  rw[nodup_cons]at h
  rw[map_cons,nodup_cons]
  refine⟨λz=>?_,pA h.2 λa ha b hb=>inj a (mem_cons_of_mem _ ha) b (mem_cons_of_mem _ hb)⟩
  obtain⟨y,hy,e⟩:=mem_map.mp z
  exact h.1 (by rw[<-inj y (mem_cons_of_mem _ hy) x mem_cons_self e];exact hy)
theorem mem_bel{ps:List (Int×Int)}{c a:Int}:a∈bO ps c<->(a,c)∈ps:=by
 unfold bO
 rw[mem_map]
 constructor
 ·rintro⟨p,hp,rfl⟩
  obtain⟨h1,h2⟩:=mem_filter.mp hp
  have:p.2=c:=eq_of_beq h2
  rw[<-this]
  exact h1
 ·exact λh=>⟨(a,c),mem_filter.mpr ⟨h,beq_self_eq_true c⟩,rfl⟩
theorem mem_abv{ps:List (Int×Int)}{c a:Int}:a∈cI ps c<->(c,a)∈ps:=by
 unfold cI
 rw[mem_map]
 constructor
 ·rintro⟨p,hp,rfl⟩
  obtain⟨h1,h2⟩:=mem_filter.mp hp
  have:p.1=c:=eq_of_beq h2
  rw[<-this]
  exact h1
 ·exact λh=>⟨(c,a),mem_filter.mpr ⟨h,beq_self_eq_true c⟩,rfl⟩
theorem jZ{n:Nat}{ps:List (Int×Int)}(ho:Ord n ps)(c:Int):(bO ps c).Nodup:=by
 refine pA ((EI ho).sublist filter_sublist) λx hx y hy e=>?_
 have h1:x.2=c:=eq_of_beq (mem_filter.mp hx).2
 have h2:y.2=c:=eq_of_beq (mem_filter.mp hy).2
 exact Prod.ext e (h1.trans h2.symm)
theorem nK{n:Nat}{ps:List (Int×Int)}(ho:Ord n ps)(c:Int):(cI ps c).Nodup:=by
 refine pA ((EI ho).sublist filter_sublist) λx hx y hy e=>?_
 have h1:x.1=c:=eq_of_beq (mem_filter.mp hx).2
 have h2:y.1=c:=eq_of_beq (mem_filter.mp hy).2
 exact Prod.ext (h1.trans h2.symm) e
structure Sem (ps:List (Int×Int)):Prop where
 irr:∀a,(a,a)∉ps
 two:∀a b c d,(a,b)∈ps->(c,d)∈ps->(a,d)∈ps\/(c,b)∈ps
theorem Sem.tr{ps:List (Int×Int)}(h:Sem ps){a b c:Int}(h1:(a,b)∈ps)(h2:(b,c)∈ps):(a,c)∈ps:=(h.two a b b c h1 h2).resolve_right (h.irr b)
theorem GO{n:Nat}{ps:List (Int×Int)}(ho:Ord n ps)(h:Sem ps){a b:Int}(hab:(a,b)∈ps):bX ps a<bX ps b:=by
 have h1:(a::bO ps a).length<=(bO ps b).length:=len_sub (nodup_cons.mpr ⟨λz=>h.irr a (mem_bel.mp z),jZ ho a⟩) λx hx=>by
  rcases mem_cons.mp hx with rfl|hx
  ·exact mem_bel.mpr hab
  ·exact mem_bel.mpr (h.tr (mem_bel.mp hx) hab)
 have h2:(b::cI ps b).length<=(cI ps a).length:=len_sub (nodup_cons.mpr ⟨λz=>h.irr b (mem_abv.mp z),nK ho b⟩) λx hx=>by
  rcases mem_cons.mp hx with rfl|hx
  ·exact mem_abv.mpr hab
  ·exact mem_abv.mpr (h.tr hab (mem_abv.mp hx))
 rw[length_cons]at h1 h2
 unfold bX
 lia
theorem mem_atL{hs:List Int}{v c:Int}:c∈bP hs v<->∃i:Nat,c=i/\i<hs.length/\hs.getD i 0=v:=by
 unfold bP
 rw[mem_map]
 constructor
 ·rintro⟨i,hi,rfl⟩
  obtain⟨h1,h2⟩:=mem_filter.mp hi
  exact⟨i,rfl,mem_range.mp h1,eq_of_beq h2⟩
 ·rintro⟨i,rfl,h1,h2⟩
  exact⟨i,mem_filter.mpr ⟨mem_range.mpr h1,by rw[h2];exact beq_self_eq_true _⟩,rfl⟩
theorem qK(hs:List Int)(v:Int):(bP hs v).Nodup:=by
 unfold bP
 exact pA (nodup_range.sublist filter_sublist) λx _ y _ e=>Int.ofNat.inj e
theorem kY{n:Nat}{ps:List (Int×Int)}{i:Nat}(h:i<n):(aI n ps).getD i 0=bX ps i:=by
 unfold aI
 rw[List.getD_eq_getElem?_getD,List.getElem?_map,List.getElem?_range h]
 rfl
theorem eL(n:Nat)(ps:List (Int×Int)):(aI n ps).length=n:=by unfold aI;rw[length_map,length_range]
theorem oJ{n:Nat}{ps:List (Int×Int)}(ho:Ord n ps)(hb:bT n ps=false):Sem ps:=by
 unfold bT at hb
 rw[Bool.or_eq_false_iff]at hb
 refine⟨λa h=>(ho.ix _ h).2.2.2.2 rfl,λa b c d h1 h2=>?_⟩
 have:=fH (fH hb.1 h1) h2
 have e1:has ps a b=true:=decide_eq_true h1
 have e2:has ps c d=true:=decide_eq_true h2
 unfold g8 at this
 dsimp only at this
 rw[e1,e2]at this
 cases e3:has ps a d with
 |true=>exact .inl (of_decide_eq_true e3)
 |false=>
  cases e4:has ps c b with
  |true=>exact .inr (of_decide_eq_true e4)
  |false=>rw[e3,e4]at this;cases this
structure DnOk (ps:List (Int×Int)) (L:Int->Int) (ds:List Int):Prop where
 on:∀c∈ds,hW ps L c
 cl:∀c∈ds,∀a,(a,c)∈ps->a∈ds
noncomputable def putL(L:Int->Int)(t v:Int):Int->Int:=λc=>if c=t then v else L c
theorem kF{L:Int->Int}{t v c:Int}(h:c≠t):putL L t v c=L c:=if_neg h
theorem kG{L:Int->Int}{t v:Int}:putL L t v t=v:=if_pos rfl
theorem DnOk.add{ps:List (Int×Int)}{L:Int->Int}{ds:List Int}(h:DnOk ps L ds)(hS:Sem ps){t M:Int}(ht:t∉ds)(hb:∀a,(a,t)∈ps->a∈ds)
  (hM:((∀a,(a,t)∉ps)/\M=0)\/((∃a,(a,t)∈ps/\L a=M)/\∀a,(a,t)∈ps->L a<=M)):
  DnOk ps (putL L t (1+M)) (ds++[t])/\cE (cG L ds) (Sum.inl t) (.int (1+M))=cG (putL L t (1+M)) (ds++[t]):=by
 have ne:∀c∈ds,c≠t:=λc hc e=>ht (e▸hc)
 refine⟨⟨λc hc=>?_,λc hc a ha=>?_⟩,?_⟩
 ·rcases mem_append.mp hc with hc|hc
  ·have o:=h.on c hc
   have ea:∀a,(a,c)∈ps->putL L t (1+M) a=L a:=λa ha=>kF (ne a (h.cl c hc a ha))
   refine⟨by rw[kF (ne c hc)];exact o.lo,λa ha=>by rw[kF (ne c hc),ea a ha];exact o.ge a ha,?_⟩
   rw[kF (ne c hc)]
   rcases o.is with z|⟨a,ha,z⟩
   ·exact .inl z
   ·exact .inr ⟨a,ha,by rw[ea a ha];exact z⟩
  ·rw[mem_singleton]at hc
   subst hc
   have ea:∀a,(a,c)∈ps->putL L c (1+M) a=L a:=λa ha=>kF (λe=>hS.irr c (by rw[e]at ha;exact ha))
   rcases hM with⟨no,rfl⟩|⟨⟨a0,ha0,e0⟩,le⟩
   ·exact⟨by rw[kG];lia,λa ha=>absurd ha (no a),.inl (by rw[kG];rfl)⟩
   ·have:=(h.on a0 (hb a0 ha0)).lo
    exact⟨by rw[kG];lia,λa ha=>by rw[kG,ea a ha];have:=le a ha;lia,.inr ⟨a0,ha0,by rw[kG,ea a0 ha0];lia⟩⟩
 ·rcases mem_append.mp hc with hc|hc
  ·exact mem_append_left _ (h.cl c hc a ha)
  ·rw[mem_singleton]at hc
   subst hc
   exact mem_append_left _ (hb a ha)
 ·rw[EG _ (v0 ht),GA,kG]
  congr 1
  exact U4 λc hc=>(kF (ne c hc)).symm
noncomputable def bQ(hs ms:List Int)(i:Nat):List Int:=(ms.take i).flatMap (bP hs)
theorem qD{hs ms:List Int}{i:Nat}{v:Int}(h:ms[i]? =some v):bQ hs ms (i+1)=bQ hs ms i++bP hs v:=by
 unfold bQ
 rw[take_add_one,h,flatMap_append]
 simp
theorem A3{hs ms:List Int}(nb:dL hs ms){i:Nat}{v u:Int}(h:ms[i]? =some v):u∈ms.take i<->u∈ms/\u<v:=by
 have hi:=(List.getElem?_eq_some_iff.mp h).1
 have ev:ms[i]=v:=(List.getElem?_eq_some_iff.mp h).2
 have pw:=pairwise_iff_getElem.mp nb.up
 constructor
 ·intro hu
  obtain⟨k,hk,e⟩:=getElem_of_mem hu
  rw[length_take]at hk
  rw[getElem_take]at e
  have:=pw k i (by lia) hi (by lia)
  exact⟨mem_of_mem_take hu,by lia⟩
 ·rintro⟨hu,lt⟩
  obtain⟨k,hk,e⟩:=getElem_of_mem hu
  by_cases g:k<i
  ·rw[<-e]
   exact List.mem_take_iff_getElem.mpr ⟨k,by lia,rfl⟩
  ·by_cases z:k=i
   ·subst z;lia
   ·have:=pw i k hi hk (by lia)
    lia
theorem pE{n:Nat}{ps:List (Int×Int)}{ms:List Int}(nb:dL (aI n ps) ms){i:Nat}{v:Int}(h:ms[i]? =some v)(c:Nat)(hc:c<n):(c:Int)∈bQ (aI n ps) ms i<->bX ps c<v:=by
 unfold bQ
 rw[mem_flatMap]
 have hm:bX ps c∈ms:=(nb.mem _).mpr (mem_map.mpr ⟨c,mem_range.mpr hc,rfl⟩)
 constructor
 ·rintro⟨u,hu,hcu⟩
  obtain⟨k,ek,hk,e⟩:=mem_atL.mp hcu
  have:c=k:=Int.ofNat.inj ek
  subst this
  rw[kY hc]at e
  rw[e]
  exact((A3 nb h).mp hu).2
 ·intro lt
  exact⟨bX ps c,(A3 nb h).mpr ⟨hm,lt⟩,mem_atL.mpr ⟨c,rfl,by rw[eL];exact hc,kY hc⟩⟩
theorem kP{n:Nat}{ps:List (Int×Int)}{ms:List Int}(nb:dL (aI n ps) ms)(c:Int):c∈bQ (aI n ps) ms ms.length<->∃k:Nat,c=k/\k<n:=by
 unfold bQ
 rw[take_length,mem_flatMap]
 constructor
 ·rintro⟨u,hu,hcu⟩
  obtain⟨k,ek,hk,e⟩:=mem_atL.mp hcu
  rw[eL]at hk
  exact⟨k,ek,hk⟩
 ·rintro⟨k,rfl,hk⟩
  exact⟨bX ps k,(nb.mem _).mpr (mem_map.mpr ⟨k,mem_range.mpr hk,rfl⟩),mem_atL.mpr ⟨k,rfl,by rw[eL];exact hk,kY hk⟩⟩
theorem w4{f:Int->List Int}{b:Nat}(h:∀x,(f x).length<=b):∀l:List Int,(l.flatMap f).length<=l.length*b
 |[]=>Nat.zero_le _
 |x::l=>by
  rw[flatMap_cons,length_append,length_cons,Nat.succ_mul]
  have:=w4 h l
  have:=h x
  lia
theorem nJ(hs:List Int)(v:Int):(bP hs v).length<=hs.length:=IL hs v hs.length
theorem jH{d:Addr}{H:Hp}{o:HO}:SameT d H (upd H d o):=λb u e g=>by rw[aE g];exact e
section
variable{P:Program}{w:World}{K:PySem.W.Frag}{mg:Str->Option Value}{base:Heap}{t:Ad}
inductive rY (vs:List V) (H:Hp) (Q:VK) (zz3:XK):Prop where
 |mk (x:V) (n:Nat) (ps:List (Int×Int)) (zh0:vs=[x]) (zh1:Is H x (bZ n ps)) (zh2:Ord n ps) (zh3:bT n ps=false) (zh4:∀(L:Int->Int)(m:Int)H',Same H H'->(∀c:Nat,c<n->hW ps L c/\L c<=m)->(∃c:Nat,c<n/\L c=m)->Q (.int m) H'):rY vs H Q zz3
theorem RN(T:aT K mg t):FnOk P w K mg base aU 9 t.hE t.nF ["order"] rY:=by
 refine T.AC.ok sc_longest (λvs H Q E h=>?_) (λcdv A outer s H vs Q E hr h=>?_)
 ·obtain⟨x,n,ps,rfl,_⟩:=h
  rfl
 ·obtain⟨x,n,ps,rfl,hx,ho,hb,q⟩:=h
  refine⟨_,(aF (bG (i:=1) sc_longest.nd rfl (Or.inr rfl) uY)
   (aF (bW PassesOwn.never rfl (fS K (aN (E9 T) (hr.mono (by decide)) rfl T.vO T.nU.kp T.yT .nil aO (aA (pv 0) pa_nil))) (aP (i:=2) sc_longest.nd rfl (Or.inl rfl)) (aD (bW PassesOwn.never rfl (fS K (pv 2)) (aP (i:=3) sc_longest.nd rfl (Or.inr rfl)) (aF (oX (i:=4) sc_longest.nd rfl rfl rfl rfl ⟨True.intro,True.intro,True.intro,(.inl rfl),(.inl rfl),True.intro⟩ (M:=["one","other","lengths","thing"]) (.own (.own (.free 1 rfl rfl (.free 3 rfl rfl .nil)))) (wM (kZ rfl (kZ rfl wK))) rfl (by decide +kernel) (fR K (aQ (aR K) (pv 0) pe_int (λ_ _=>rfl))) (λC fp s1 H1=>⟨fT K (n:=2) rfl (cF (aP (i:=0) (show(["one","other","lengths","thing"]:List Str).Nodup by decide +kernel) rfl (Or.inl rfl)) (cF (aP (i:=1) (show(["one","other","lengths","thing"]:List Str).Nodup by decide +kernel) rfl (Or.inl rfl)) fM)),jR (bE (dY hr.units) (pv 1) (pv 3) (bA _)),(jS (eK hr) (pv 2) (pv 0) (λ_ _=>rfl))⟩))
   (aD (EJ (eK hr) (pv 1) (pv 3) (aY c6 pe_int (VS rfl T.pB (aA (pv 4) pa_nil) pe_int)) rfl))))))
   (aD (aK (VQ rfl T.pB (pv 1)))))),?_⟩
  have n8:=ho.hi
  obtain⟨oa,ob,xs,rfl,ea,eb,hxs⟩:=iL hx
  have hS:=oJ ho hb
  refine λd hd=>?_
  have s0:=Same.upd (o:=.dK []) hd
  have ed:upd H d (.dK []) d=some (.dK (cG (λ_=>0) [])):=aC
  have hx0:=hx.same s0
  have ea0:=s0 _ _ ea
  have eb0:=s0 _ _ eb
  generalize upd H d (.dK [])=H0 at s0 ed hx0 ea0 eb0
  walk_at"rd"
  refine⟨_,n,ps,rfl,hx0,ho,hb,λr zs ms H1 s1 hr1 nb er hz=>?_⟩
  have lm:=vE nb
  rw[eL]at lm
  have hlz:=hz.1
  have ed1:=s1 _ _ ed
  have hdr:∀c u,H c=some u->c≠d:=λc u e=>aS e hd
  refine⟨r,rfl,⟨zs,SqL.of er⟩,?_⟩
  refine mV (K:=K) (xs:=zs) (λi σ H'=>(∃v2 v3 v4,σ=[some (.ref oa),some (.ref d),v2,v3,v4])/\SameT d H1 H'/\∃L,DnOk ps L (bQ (aI n ps) ms i)/\H' d=some (.dK (cG L (bQ (aI n ps) ms i))))
   ⟨⟨_,_,_,rfl⟩,SameT.refl _ _,λ_=>0,⟨λc hc=>(by cases hc),λc hc=>(by cases hc)⟩,ed1⟩ (λi σ H' _ h=>SqL.of (h.2.1 _ _ er (by intro z;rw[z,ed1]at er;cases er))) ?_ ?_
  ·rintro i x σ H2 hx2 ⟨⟨v2,v3,v4,rfl⟩,s2,L,dn,ed2⟩
   have hi:i<ms.length:=by have:=(List.getElem?_eq_some_iff.mp hx2).1;lia
   obtain⟨r2,e1,e2⟩:=hz.2 i ms[i] (List.getElem?_eq_getElem hi)
   rw[hx2]at e1
   cases e1
   have em:ms[i]? =some ms[i]:=List.getElem?_eq_getElem hi
   generalize ms[i]=v at em e2
   walk_at"rd"
   have r2d:r2≠d:=by intro z;rw[z,ed1]at e2;cases e2
   refine⟨r2,rfl,⟨_,SqL.of (s2 _ _ e2 r2d)⟩,?_⟩
   refine mV (K:=K) (xs:=(bP (aI n ps) v).map V.int) (λj σ H'=>(∃v3 v4,σ=[some (.ref oa),some (.ref d),some (.ref r2),v3,v4])/\SameT d H1 H'/\∃L,DnOk ps L (bQ (aI n ps) ms i++(bP (aI n ps) v).take j)/\H' d=some (.dK (cG L (bQ (aI n ps) ms i++(bP (aI n ps) v).take j))))
    ⟨⟨_,_,rfl⟩,s2,L,by simpa using dn,by simpa using ed2⟩ (λj σ H' _ h=>SqL.of (h.2.1 _ _ e2 r2d)) ?_ ?_
   ·rintro j x σ H3 hx3 ⟨⟨v3,v4,rfl⟩,s3,L,dn,ed3⟩
    rw[List.getElem?_map]at hx3
    cases et:(bP (aI n ps) v)[j]? with
    |none=>rw[et]at hx3;cases hx3
    |some c=>
    rw[et]at hx3
    cases hx3
    obtain⟨k,rfl,hk,hv⟩:=mem_atL.mp (List.mem_of_getElem? et)
    rw[eL]at hk
    rw[kY hk]at hv
    have ea3:=s3 _ _ (s1 _ _ ea0) (hdr _ _ ea)
    have eb3:=s3 _ _ (s1 _ _ eb0) (hdr _ _ eb)
    have ix3:IsAll H3 xs (ps.map aJ):=hxs.tmono (λc us e=>s3 _ _ (s1 _ _ (s0 _ _ e)) (hdr _ _ e)) (gR _)
    have hlx:xs.length=ps.length:=by rw[hxs.length,length_map]
    have sz:=ho.small
    have bel:∀a,(a,(k:Int))∈ps->a∈bQ (aI n ps) ms i++(bP (aI n ps) v).take j:=λa ha=>by
     have hh:=GO ho hS ha
     obtain⟨a0,a1,_⟩:=ho.ix _ ha
     have ean:a=((a.toNat:Nat):Int):=by lia
     rw[ean]at hh ⊢
     exact mem_append_left _ ((pE nb em a.toNat (by lia)).mpr (by rw[<-hv];exact hh))
    have new:(k:Int)∉bQ (aI n ps) ms i++(bP (aI n ps) v).take j:=λz=>by
     rcases mem_append.mp z with z|z
     ·have:=(pE nb em k hk).mp z
      lia
     ·obtain⟨j',hj',e'⟩:=getElem_of_mem z
      rw[length_take]at hj'
      rw[getElem_take]at e'
      obtain⟨hj,ej⟩:=List.getElem?_eq_some_iff.mp et
      exact pairwise_iff_getElem.mp (qK (aI n ps) v) j' j (by lia) hj (by lia) (e'.trans ej.symm)
    have lds:(bQ (aI n ps) ms i++(bP (aI n ps) v).take j).length<=1000:=by
     have b0:∀x,(bP (aI n ps) x).length<=8:=λx=>by
      have:=nJ (aI n ps) x
      rw[eL]at this
      lia
     have b1:=w4 b0 (ms.take i)
     have b2:=b0 v
     rw[length_take]at b1
     rw[length_append,length_take]
     unfold bQ
     lia
    walk_at"rd"
    refine⟨ob,rfl,⟨xs,SqT.of eb3⟩,?_⟩
    refine mG (K:=K) (xs:=xs) (c9 (by lia)) (λi' ys H'=>Same H3 H'/\ys=((bO (ps.take i') (k:Int)).map L).map V.int) ⟨Same.refl _,rfl⟩ (by
     rintro j zs H' ⟨_,rfl⟩
     rw[length_map,length_map]
     have:=IA (ps.take j) (k:Int)
     rw[length_take]at this
     lia) (λj zs H' _ h=>SqT.of (h.1 _ _ eb3)) ?_ ?_
    ·rintro j4 x ys H4 hx4 ⟨s4,rfl⟩
     obtain⟨p0,r4,hp0,rfl,er4⟩:=jP (ix3.same s4) hx4
     walk_at"rd"
     refine fK er4 rfl ?_
     walk_at"rd"
     rw[HZ _ _ _ _ hp0]
     refine bS (λg=>?_) (λg=>?_)
     ·have g':(p0.2==(k:Int))=true:=g
      have g2:p0.2=(k:Int):=eq_of_beq g'
      have hin:(p0.1,(k:Int))∈ps:=by rw[<-g2];exact List.mem_of_getElem? hp0
      refine iB ?_
      walk_at"rd"
      refine⟨d,V.int (L p0.1),rfl,?_,s4,?_⟩
      ·rw[<-v1 (L:=L) (bel _ hin)]
       exact DGet.k (k:=Sum.inl p0.1) (s4 _ _ ed3)
      ·rw[if_pos g',map_append,map_append]
       rfl
     ·have g':(p0.2==(k:Int))=false:=g
      rw[if_neg (by rw[g'];exact Bool.false_ne_true),append_nil]
      exact⟨s4,rfl⟩
    ·rintro ys H4 ⟨s4,rfl⟩ l hl
     rw[hlx,take_length]
     have s5:=s4.trans (Same.upd (o:=.lst (((bO ps (k:Int)).map L).map V.int)) hl)
     have e5:upd H4 l (.lst (((bO ps (k:Int)).map L).map V.int)) l=some (.lst (((bO ps (k:Int)).map L).map V.int)):=aC
     generalize upd H4 l (.lst (((bO ps (k:Int)).map L).map V.int))=H5 at s5 e5
     have ed5:=s5 _ _ ed3
     have fin:∀M:Int,(((∀a,(a,(k:Int))∉ps)/\M=0)\/((∃a,(a,(k:Int))∈ps/\L a=M)/\∀a,(a,(k:Int))∈ps->L a<=M))->∃H6,DPut H5 d (.int (k:Int)) (.int (1+M)) H6/\(∃v3 v4,[some (V.ref oa),some (V.ref d),some (V.ref r2),some (V.int (k:Int)),some (V.ref l)]=[some (V.ref oa),some (V.ref d),some (V.ref r2),v3,v4])/\SameT d H1 H6/\∃L,DnOk ps L (bQ (aI n ps) ms i++(bP (aI n ps) v).take (j+1))/\H6 d=some (.dK (cG L (bQ (aI n ps) ms i++(bP (aI n ps) v).take (j+1)))):=λM hM=>by
      obtain⟨d1,d2⟩:=dn.add hS new bel hM
      refine⟨_,DPut.k (k:=Sum.inl (k:Int)) ed5 (by rw[GB];exact gJ lds),⟨_,_,rfl⟩,(s3.trans s5.t).trans jH,putL L (k:Int) (1+M),?_,?_⟩
      ·rw[take_add_one,et,<-append_assoc]
       exact d1
      ·rw[aC,take_add_one,et,<-append_assoc,d2]
       rfl
     walk_at"rd"
     refine DY ?_
     walk_at"rd"
     refine OH ?_
     walk_at"rd"
     refine⟨l,(bO ps (k:Int)).map L,rfl,e5,λz=>?_,λM hM1 hM2=>?_⟩
     ·rw[List.map_eq_nil_iff]at z
      obtain⟨H6,g1,g2⟩:=fin 0 (.inl ⟨λa ha=>(by have:=mem_bel.mpr ha;rw[z]at this;cases this),rfl⟩)
      refine⟨_,_,rfl,rfl,?_⟩
      walk_at"rd"
      exact⟨d,H6,rfl,g1,g2⟩
     ·obtain⟨H6,g1,g2⟩:=fin M (.inr ⟨by
       obtain⟨a,ha,e⟩:=mem_map.mp hM1
       exact⟨a,mem_bel.mp ha,e⟩,λa ha=>hM2 _ (mem_map.mpr ⟨a,mem_bel.mpr ha,rfl⟩)⟩)
      refine⟨_,_,rfl,rfl,?_⟩
      walk_at"rd"
      exact⟨d,H6,rfl,g1,g2⟩
   ·rintro σ H3 ⟨⟨v3,v4,rfl⟩,s3,L,dn,ed3⟩
    rw[length_map,take_length,<-qD em]at dn ed3
    exact⟨⟨_,_,_,rfl⟩,s3,L,dn,ed3⟩
  ·rintro σ H2 ⟨⟨v2,v3,v4,rfl⟩,s2,L,dn,ed2⟩
   rw[hlz]at dn ed2
   walk_at"rd"
   refine OF ?_
   walk_at"rd"
   refine⟨d,kS L (bQ (aI n ps) ms ms.length),rfl,ed2,?_,λm hm hle=>?_⟩
   ·have:(0:Int)∈bQ (aI n ps) ms ms.length:=(kP nb 0).mpr ⟨0,rfl,ho.lo⟩
    intro z
    unfold kS at z
    rw[List.map_eq_nil_iff]at z
    rw[z]at this
    cases this
   ·refine q L m H2 (λc u e=>s2 _ _ (s1 _ _ (s0 _ _ e)) (hdr _ _ e)) (λc hc=>?_) ?_
    ·have hin:=(kP nb (c:Int)).mpr ⟨c,rfl,hc⟩
     exact⟨dn.on _ hin,hle _ (mem_map.mpr ⟨_,hin,rfl⟩)⟩
    ·obtain⟨p,hp,rfl⟩:=hm
     obtain⟨c,hc,rfl⟩:=mem_map.mp hp
     obtain⟨k,rfl,hk⟩:=(kP nb c).mp hc
     exact⟨k,hk,rfl⟩
theorem AS(T:aT K mg t):IQ K t t.bN 6:=⟨by decide,T.qM,T.rE,T.qZ,T.uQ,T.uR,T.uP,T.uN,T.uS,T.uO,U5,T.uT,T.uM⟩
noncomputable def kA(t:Ad):Sp:=λvs H Q E=>∃x n ps,vs=[x]/\Is H x (bZ n ps)/\Ord n ps/\bT n ps=true/\∀H',Same H H'->E (.ref t.bN) none H'
theorem RE(T:aT K mg t):FnOk P w K mg base (cM P w) 7 t.nM t.nE ["order"] (kA t):=by
 refine T.nV.okX C4 (λvs H Q E h=>?_) (λcdv A outer s H vs Q E hr h=>?_)
 ·obtain⟨x,n,ps,rfl,_⟩:=h
  rfl
 ·obtain⟨x,n,ps,rfl,hx,ho,hb,q⟩:=h
  refine⟨_,(aD (bL (bE vD (aN (FD T) (hr.mono (by decide)) rfl T.FT T.AD.kp T.IF .nil aO (aA (pv 0) pa_nil)) pe_non (bA _)) (aD (P6 T.pV T.qM.exc rfl (aA pe_str pa_nil))) bK)),?_⟩
  walk_at"rd"
  refine⟨_,n,ps,rfl,hx,ho,λv H1 s1 iv=>?_⟩
  walk_at"rd"
  rw[ZA iv,hb]
  refine kX rfl ?_
  walk_at"rd"
  exact⟨by show 1<=sizeLine;decide,q H1 s1⟩
noncomputable def LN(t:Ad):Sp:=λvs H Q E=>rW vs H Q E\/kA t vs H Q E
theorem RA(T:aT K mg t):FnOk P w K mg base (cM P w) 7 t.nM t.nE ["order"] (LN t):=(u6 T).lift.or (RE T)
theorem RD(T:aT K mg t):FnOk P w K mg base (cM P w) 8 t.g9 t.nC ["order"] (kA t):=by
 refine T.nU.okX sc_row (λvs H Q E h=>?_) (λcdv A outer s H vs Q E hr h=>?_)
 ·obtain⟨x,n,ps,rfl,_⟩:=h
  rfl
 ·obtain⟨x,n,ps,rfl,hx,ho,hb,q⟩:=h
  refine⟨_,(aF (cR (aN (RA T) (hr.mono (by decide)) rfl T.vP T.nV.kp T.yU .nil ES (aA (pv 0) pa_nil)))
   (aF i7
   (aD i7))),?_⟩
  walk_at"rd"
  exact .inr ⟨x,n,ps,rfl,hx,ho,hb,q⟩
noncomputable def LL(t:Ad):Sp:=λvs H Q E=>rX vs H Q E\/kA t vs H Q E
theorem E8(T:aT K mg t):FnOk P w K mg base (cM P w) 8 t.g9 t.nC ["order"] (LL t):=(E9 T).lift.or (RD T)
theorem RF(T:aT K mg t):FnOk P w K mg base (cM P w) 9 t.hE t.nF ["order"] (kA t):=by
 refine T.AC.okX sc_longest (λvs H Q E h=>?_) (λcdv A outer s H vs Q E hr h=>?_)
 ·obtain⟨x,n,ps,rfl,_⟩:=h
  rfl
 ·obtain⟨x,n,ps,rfl,hx,ho,hb,q⟩:=h
  refine⟨_,(aF (bG (i:=1) sc_longest.nd rfl (Or.inr rfl) uY)
   (aF (bW PassesOwn.leaving rfl (fS K (aN (E8 T) (hr.mono (by decide)) rfl T.vO T.nU.kp T.yT .nil ES (aA (pv 0) pa_nil))) (aP (i:=2) sc_longest.nd rfl (Or.inl rfl)) (aD i7))
   (aD i7))),?_⟩
  walk_at"rd"
  refine λd hd=>?_
  have s0:=Same.upd (o:=.dK []) hd
  walk_at"rd"
  exact .inr ⟨x,n,ps,rfl,hx.same s0,ho,hb,λH1 s1=>q H1 (s0.trans s1)⟩
noncomputable def LO(t:Ad):Sp:=λvs H Q E=>rY vs H Q E\/kA t vs H Q E
theorem RC(T:aT K mg t):FnOk P w K mg base (cM P w) 9 t.hE t.nF ["order"] (LO t):=(RN T).lift.or (RF T)
inductive CT (K:PySem.W.Frag) (t:Ad) (vs:List V) (H:Hp) (Q:VK) (zz3:XK):Prop where
 |mk (k:Int) (x:V) (n:Nat) (ps:List (Int×Int)) (zh0:vs=[.int k,x]) (zh1:(k=0\/k=1)) (zh2:Is H x (bZ n ps)) (zh3:Ord n ps) (zh4:((bT n ps=true/\∀v H',Same H H'->Is H' v (cZ 6)->Q v H')\/(bT n ps=false/\(k=0->∀r zs ms H',Same H H'->H r=none->dL (aI n ps) ms->H' r=some (.lst zs)->Rws H' (aI n ps) zs ms->Q (.ref r) H')/\(k=1->∀(L:Int->Int)(m:Int)H',Same H H'->(∀c:Nat,c<n->hW ps L c/\L c<=m)->(∃c:Nat,c<n/\L c=m)->Q (.int m) H')))):CT K t vs H Q zz3
theorem o9(T:aT K mg t):FnOk P w K mg base aU 10 t.z6 t.yJ ["_law_what","_law_order_here"] (CT K t):=by
 refine T.nW.ok sc__law_ask (λvs H Q E h=>?_) (λcdv A outer s H vs Q E hr h=>?_)
 ·obtain⟨k,x,n,ps,rfl,_⟩:=h
  rfl
 ·obtain⟨k,x,n,ps,rfl,hk,hx,ho,h⟩:=h
  refine⟨_,(aD (P5 (i:=2) rfl sc__law_ask.nd rfl rfl rfl rfl rfl rfl T.wN (λpn E1 Eb hp=>(aD (aK (QW (.cons (E8 T) (hr.mono (by decide)) T.nU.kp T.yT hp (.cons (RC T) (hr.mono (by decide)) T.AC.kp T.ZI hp .nil)) (aQ (aR K) (cT (aA (fO (v:=.ref t.g9) rfl T.vO rfl) (aA (fO (v:=.ref t.hE) rfl T.TX rfl) pa_nil))) (pv 0) (λ_ _=>rfl)) (aA (pv 1) pa_nil))))) (λex=>(aD (aK (QX (SB T) ((hr.mono (by decide)).mark _) rfl T.UC T.JT.kp T.ZW (aA (pv 2) pa_nil))))))),?_⟩
  walk_at"rd"
  refine PH ?_
  walk_at"rd"
  refine⟨by show 2<=sizeLine;decide,λl hl=>?_⟩
  have s0:=Same.upd (o:=.lst [V.ref t.g9,V.ref t.hE]) hl
  have el:upd H l (.lst [V.ref t.g9,V.ref t.hE]) l=some (.lst [V.ref t.g9,V.ref t.hE]):=aC
  generalize upd H l (.lst [V.ref t.g9,V.ref t.hE])=H0 at s0 el
  have hn0:∀r,H0 r=none->H r=none:=λr e=>by
   cases e':H r with
   |none=>rfl
   |some u=>rw[s0 _ _ e']at e;cases e
  rcases hk with rfl|rfl
  ·walk_at"rd"
   refine⟨0,_,_,rfl,rfl,?_⟩
   walk_at"rd"
   rcases h with⟨hb,q⟩|⟨hb,q,_⟩
   ·refine .inr ⟨_,n,ps,rfl,hx.same s0,ho,hb,λH1 s1=>?_⟩
    have W:=AS T
    refine⟨_,rfl,W.x,λex σ hex hi=>?_⟩
    walk_at"rd"
    refine uB (List.getElem?_set_self hi) ?_
    walk_at"rd"
    exact⟨ex,_,_,rfl,aC,W,λv H2 s2 iv=>q v H2 (((s0.trans s1).trans (Same.upd hex)).trans s2) iv⟩
   ·exact .inl ⟨_,n,ps,rfl,hx.same s0,ho,hb,λr zs ms H1 s1 hr1 nb e1 e2=>q rfl r zs ms H1 (s0.trans s1) (hn0 r hr1) nb e1 e2⟩
  ·walk_at"rd"
   refine⟨1,_,_,rfl,rfl,?_⟩
   walk_at"rd"
   rcases h with⟨hb,q⟩|⟨hb,_,q⟩
   ·refine .inr ⟨_,n,ps,rfl,hx.same s0,ho,hb,λH1 s1=>?_⟩
    have W:=AS T
    refine⟨_,rfl,W.x,λex σ hex hi=>?_⟩
    walk_at"rd"
    refine uB (List.getElem?_set_self hi) ?_
    walk_at"rd"
    exact⟨ex,_,_,rfl,aC,W,λv H2 s2 iv=>q v H2 (((s0.trans s1).trans (Same.upd hex)).trans s2) iv⟩
   ·exact .inl ⟨_,n,ps,rfl,hx.same s0,ho,hb,λL m H1 s1 a b=>q rfl L m H1 (s0.trans s1) a b⟩
inductive B6 (vs:List V) (H:Hp) (Q:VK) (zz3:XK):Prop where
 |mk (x:V) (d:PyData) (m:Int) (zh0:vs=[x,.int m]) (zh1:Is H x d) (zh2:bY d 0 (m-1)=true) (zh3:Q .non H):B6 vs H Q zz3
theorem FC(T:aT K mg t):FnOk P w K mg base aU 3 t.y8 t.xJ ["value","many"] B6:=by
 refine T.AB.ok MI (λvs H Q E h=>?_) (λcdv A outer s H vs Q E hr h=>?_)
 ·obtain⟨x,d,m,rfl,_⟩:=h
  rfl
 ·obtain⟨x,d,m,rfl,hx,ho,q⟩:=h
  refine⟨_,(aD (bL (eZ (dA (aN (u9 T) (hr.mono (by decide)) rfl T.vS T.qY.kp T.yX .nil aO (aA (pv 0) (aA (pv 1) pa_nil))))) (aD i7) bK)),?_⟩
  walk_at"rd"
  refine⟨_,_,_,rfl,hx,?_⟩
  rw[ho]
  walk_at"rd"
  exact q
theorem A1{a:Int}{n:Nat}(h0:0<=a)(h1:a<(n:Int)):bY (.int a) 0 ((n:Int)-1)=true:=by
 show(decide (0<=a)&&decide (a<=(n:Int)-1))=true
 rw[decide_eq_true h0,decide_eq_true (show a<=(n:Int)-1 by lia)]
 rfl
noncomputable def gQ(ps:List (Int×Int))(c a b:Int):Bool:= !(has ps c a==has ps c b)|| !(has ps a c==has ps b c)
inductive BZ (vs:List V) (H:Hp) (Q:VK) (zz3:XK):Prop where
 |mk (x:V) (ps:List (Int×Int)) (c:Int) (a:Int) (b:Int) (zh0:vs=[x,.int c,.int a,.int b]) (zh1:Is H x (.tuple (ps.map aJ))) (zh2:∀H',Same H H'->Q (.bl (gQ ps c a b)) H'):BZ vs H Q zz3
theorem RK(T:aT K mg t):FnOk P w K mg base aU 1 t.y4 t.xG ["pairs","thing","one","other"] BZ:=by
 refine T.JC.ok MG (λvs H Q E h=>?_) (λcdv A outer s H vs Q E hr h=>?_)
 ·obtain⟨x,ps,c,a,b,rfl,_⟩:=h
  rfl
 ·obtain⟨x,ps,c,a,b,rfl,hx,q⟩:=h
  refine⟨_,(aF (bL (bE (fQ hr.units) (cP (jT hr.units) (bI (aA (pv 1) (aA (pv 2) pa_nil))) (pv 0) (by rfl)) (cP (jT hr.units) (bI (aA (pv 1) (aA (pv 3) pa_nil))) (pv 0) (by rfl)) (bA _)) (aD (aK pe_bl)) bK)
   (aD (aK (cP (fQ hr.units) (cP (jT hr.units) (bI (aA (pv 2) (aA (pv 1) pa_nil))) (pv 0) (by rfl)) (cP (jT hr.units) (bI (aA (pv 3) (aA (pv 1) pa_nil))) (pv 0) (by rfl)) (bA _))))),?_⟩
  unfold gQ at q
  walk_at"rd"
  refine⟨c8,λp1 hp1=>?_⟩
  have s1:=Same.upd (o:=.tup [V.int c,V.int a]) hp1
  walk_at"rd"
  refine i5 aC (hx.same s1) ?_
  walk_at"rd"
  refine⟨c8,λp2 hp2=>?_⟩
  have s2:=s1.trans (Same.upd (o:=.tup [V.int c,V.int b]) hp2)
  walk_at"rd"
  refine i5 aC (hx.same s2) ?_
  walk_at"rd"
  refine bS (λg=>?_) (λg=>?_)
  ·have q':=q _ s2
   rw[show(!(has ps c a==has ps c b))=true from g]at q'
   walk_at"rd"
   exact q'
  ·rw[show(!(has ps c a==has ps c b))=false from g]at q
   walk_at"rd"
   refine⟨c8,λp3 hp3=>?_⟩
   have s3:=s2.trans (Same.upd (o:=.tup [V.int a,V.int c]) hp3)
   walk_at"rd"
   refine i5 aC (hx.same s3) ?_
   walk_at"rd"
   refine⟨c8,λp4 hp4=>?_⟩
   have s4:=s3.trans (Same.upd (o:=.tup [V.int b,V.int c]) hp4)
   walk_at"rd"
   refine i5 aC (hx.same s4) ?_
   walk_at"rd"
   exact q _ s4
noncomputable def jO(n:Nat)(ps:List (Int×Int))(a b:Int):V:=match (L2.upTo n).find? (λc=>gQ ps c a b) with|some c=>.int c|none=>.non
inductive B0 (vs:List V) (H:Hp) (Q:VK) (zz3:XK):Prop where
 |mk (x:V) (n:Nat) (ps:List (Int×Int)) (a:Int) (b:Int) (zh0:vs=[x,.int a,.int b]) (zh1:Is H x (bZ n ps)) (zh2:Ord n ps) (zh3:0<=a) (zh4:a<(n:Int)) (zh5:0<=b) (zh6:b<(n:Int)) (zh7:∀H',Same H H'->Q (jO n ps a b) H'):B0 vs H Q zz3
theorem GZ{f:Int->Bool}:∀{l:List Int}{i:Nat}{c:Int},l[i]? =some c->f c=true->(∀x∈l.take i,f x=false)->l.find? f=some c
 |[],i,c,h,_,_=>by cases h
 |x::l,0,c,h,hc,_=>by
  cases h
  rw[List.find?_cons,hc]
 |x::l,i+1,c,h,hc,hn=>by
  rw[List.find?_cons,hn x (by simp)]
  exact GZ (i:=i) (by simpa using h) hc λy hy=>hn y (by simp[hy])
theorem RL(T:aT K mg t):FnOk P w K mg base aU 6 t.y6 t.xH ["order","one","other"] B0:=by
 refine T.JD.ok sc_parted (λvs H Q E h=>?_) (λcdv A outer s H vs Q E hr h=>?_)
 ·obtain⟨x,n,ps,a,b,rfl,_⟩:=h
  rfl
 ·obtain⟨x,n,ps,a,b,rfl,hx,ho,a0,a1,b0,b1,q⟩:=h
  refine⟨_,(aF (cR (aN (u7 T) (hr.mono (by decide)) rfl T.vQ T.qW.kp T.yV .nil aO (aA (pv 0) pa_nil)))
   (aF (cR (aN (FC T) (hr.mono (by decide)) rfl T.FS T.AB.kp T.IE .nil aO (aA (pv 1) (aA (aQ (aR K) (pv 0) pe_int (λ_ _=>rfl)) pa_nil))))
   (aF (cR (aN (FC T) (hr.mono (by decide)) rfl T.FS T.AB.kp T.IE .nil aO (aA (pv 2) (aA (aQ (aR K) (pv 0) pe_int (λ_ _=>rfl)) pa_nil))))
   (aF (bW PassesOwn.never rfl (cS rfl T.cQ (aA (aQ (aR K) (pv 0) pe_int (λ_ _=>rfl)) pa_nil)) (aP (i:=3) sc_parted.nd rfl (Or.inl rfl)) (aD (bL (dA (aN (RK T) (hr.mono (by decide)) rfl T.TU T.JC.kp T.ZF .nil aO (aA (aQ (aR K) (pv 0) pe_int (λ_ _=>rfl)) (aA (pv 3) (aA (pv 1) (aA (pv 2) pa_nil)))))) (aD (aK (pv 3))) bK)))
   (aD (aK pe_non)))))),?_⟩
  have n8:=ho.hi
  walk_at"rd"
  refine⟨_,_,rfl,hx,ho.okd,ho.yes,λH1 s1=>?_⟩
  obtain⟨oa,ob,xs,rfl,ea,eb,hxs⟩:=iL (hx.same s1)
  walk_at"rd"
  refine⟨_,_,_,rfl,.int a,A1 a0 a1,?_⟩
  walk_at"rd"
  refine⟨_,_,_,rfl,.int b,A1 b0 b1,?_⟩
  walk_at"rd"
  refine⟨_,rfl,by lia,by lia,?_⟩
  rw[Int.toNat_natCast]
  refine eN (λk σ H'=>(∃v3,σ=[some (.ref oa),some (.int a),some (.int b),v3])/\Same H1 H'/\∀c∈(L2.upTo n).take k,gQ ps c a b=false) ⟨⟨_,rfl⟩,Same.refl _,λc h=>by cases h⟩ ?_ ?_
  ·rintro k σ H2 hk ⟨⟨v3,rfl⟩,s2,hn⟩
   have hu:(L2.upTo n)[k]? =some (k:Int):=by
    unfold L2.upTo
    rw[List.getElem?_map,List.getElem?_range hk]
    rfl
   have ea2:=s2 _ _ ea
   walk_at"rd"
   rw[Int.zero_add]at *
   refine⟨_,ps,_,a,b,rfl,.tup (s2 _ _ eb) (hxs.same s2),λH3 s3=>?_⟩
   walk_at"rd"
   refine bS (λg=>?_) (λg=>?_)
   ·have g':gQ ps (k:Int) a b=true:=g
    have q':=q H3 ((s1.trans s2).trans s3)
    unfold jO at q'
    rw[GZ (f:=λc=>gQ ps c a b) hu g' hn]at q'
    walk_at"rd"
    exact q'
   ·have g':gQ ps (k:Int) a b=false:=g
    walk_at"rd"
    refine⟨⟨_,rfl⟩,s2.trans s3,λc hc=>?_⟩
    rw[take_add_one,hu]at hc
    rcases mem_append.mp hc with hc|hc
    ·exact hn c hc
    ·have:c=(k:Int):=by simpa using hc
     rw[this]
     exact g'
  ·rintro σ H2 ⟨⟨v3,rfl⟩,s2,hn⟩
   rw[show((L2.upTo n).take n)=L2.upTo n from take_of_length_le (by rw[L2.n6];exact Nat.le_refl _)]at hn
   have q':=q H2 (s1.trans s2)
   unfold jO at q'
   rw[List.find?_eq_none.mpr (λc hc=>by rw[hn c hc];exact Bool.false_ne_true)]at q'
   walk_at"rd"
   exact q'
end
theorem A0{n:Nat}{ps:List (Int×Int)}(ho:Ord n ps)(hb:bT n ps=false){a b c:Int}{d:Nat}(hd:d<n)(h1:(a,b)∈ps)(h2:(b,c)∈ps):(a,(d:Int))∈ps\/((d:Int),c)∈ps:=by
 obtain⟨a0,a1,b0,b1,_⟩:=ho.ix _ h1
 obtain⟨_,_,c0,c1,_⟩:=ho.ix _ h2
 have ea:a=((a.toNat:Nat):Int):=by lia
 have eb:b=((b.toNat:Nat):Int):=by lia
 have ec:c=((c.toNat:Nat):Int):=by lia
 rw[ea,eb]at h1
 rw[eb,ec]at h2
 rw[ea,ec]
 rcases(CZ ho hb).three a.toNat b.toNat c.toNat d (by lia) (by lia) (by lia) hd (has_iff.mpr h1) (has_iff.mpr h2) with z|z
 ·exact .inl (has_iff.mp z)
 ·exact .inr (has_iff.mp z)
theorem nest{n:Nat}{ps:List (Int×Int)}(ho:Ord n ps)(hb:bT n ps=false){a b:Nat}(ha:a<n)(hbn:b<n)(h:bX ps a<=bX ps b):(∀c,(c,(a:Int))∈ps->(c,(b:Int))∈ps)/\∀c,((b:Int),c)∈ps->((a:Int),c)∈ps:=by
 have hS:=oJ ho hb
 refine⟨λc hc=>?_,λc hc=>?_⟩
 ·by_cases g:(c,(b:Int))∈ps
  ·exact g
  ·exfalso
   have s1:∀y,(y,(b:Int))∈ps->(y,(a:Int))∈ps:=λy hy=>(hS.two _ _ _ _ hy hc).elim (λz=>z) (λz=>absurd z g)
   have s2:∀z,((a:Int),z)∈ps->((b:Int),z)∈ps:=λz hz=>(A0 ho hb hbn hc hz).elim (λq=>absurd q g) (λq=>q)
   have h1:(c::bO ps b).length<=(bO ps a).length:=len_sub (nodup_cons.mpr ⟨λz=>g (mem_bel.mp z),jZ ho _⟩) λx hx=>by
    rcases mem_cons.mp hx with rfl|hx
    ·exact mem_bel.mpr hc
    ·exact mem_bel.mpr (s1 _ (mem_bel.mp hx))
   have h2:(cI ps a).length<=(cI ps b).length:=len_sub (nK ho _) λx hx=>mem_abv.mpr (s2 _ (mem_abv.mp hx))
   rw[length_cons]at h1
   unfold bX at h
   lia
 ·by_cases g:((a:Int),c)∈ps
  ·exact g
  ·exfalso
   have s1:∀y,((a:Int),y)∈ps->((b:Int),y)∈ps:=λy hy=>(hS.two _ _ _ _ hy hc).elim (λz=>absurd z g) (λz=>z)
   have s2:∀z,(z,(b:Int))∈ps->(z,(a:Int))∈ps:=λz hz=>(A0 ho hb ha hz hc).elim (λq=>q) (λq=>absurd q g)
   have h1:(c::cI ps a).length<=(cI ps b).length:=len_sub (nodup_cons.mpr ⟨λz=>g (mem_abv.mp z),nK ho _⟩) λx hx=>by
    rcases mem_cons.mp hx with rfl|hx
    ·exact mem_abv.mpr hc
    ·exact mem_abv.mpr (s1 _ (mem_abv.mp hx))
   have h2:(bO ps b).length<=(bO ps a).length:=len_sub (jZ ho _) λx hx=>mem_bel.mpr (s2 _ (mem_bel.mp hx))
   rw[length_cons]at h1
   unfold bX at h
   lia
theorem yP{x y:Bool}(h:x=true<->y=true):x=y:=by
 cases x <;> cases y <;> first|rfl|exact absurd (h.mp rfl) Bool.false_ne_true|exact absurd (h.mpr rfl) Bool.false_ne_true
theorem prt_no{ps:List (Int×Int)}{c a b:Int}:gQ ps c a b=false<->((c,a)∈ps<->(c,b)∈ps)/\((a,c)∈ps<->(b,c)∈ps):=by
 unfold gQ
 rw[Bool.or_eq_false_iff,<-has_iff,<-has_iff,<-has_iff,<-has_iff]
 constructor
 ·rintro⟨h1,h2⟩
  have e1:has ps c a=has ps c b:=by simpa using h1
  have e2:has ps a c=has ps b c:=by simpa using h2
  rw[e1,e2]
  exact⟨Iff.rfl,Iff.rfl⟩
 ·rintro⟨h1,h2⟩
  rw[yP h1,yP h2]
  simp
theorem P7{n:Nat}{ps:List (Int×Int)}(ho:Ord n ps)(hb:bT n ps=false){a b:Nat}(ha:a<n)(hbn:b<n):jO n ps a b=.non<->bX ps a=bX ps b:=by
 have key:jO n ps a b=.non<->∀c∈L2.upTo n,gQ ps c a b=false:=by
  unfold jO
  constructor
  ·intro h
   split at h
   ·cases h
   ·rename_i e
    intro c hc
    have:=List.find?_eq_none.mp e c hc
    simpa using this
  ·intro h
   rw[List.find?_eq_none.mpr λc hc=>by rw[h c hc];exact Bool.false_ne_true]
 rw[key]
 have inU:∀c:Int,0<=c->c<n->c∈L2.upTo n:=λc h0 h1=>by
  unfold L2.upTo
  exact mem_map.mpr ⟨c.toNat,mem_range.mpr (by lia),by lia⟩
 constructor
 ·intro h
  have hB:∀c,(c,(a:Int))∈ps<->(c,(b:Int))∈ps:=λc=>by
   constructor
   ·intro hc
    obtain⟨c0,c1,_⟩:=ho.ix _ hc
    exact(prt_no.mp (h c (inU c c0 c1))).1.mp hc
   ·intro hc
    obtain⟨c0,c1,_⟩:=ho.ix _ hc
    exact(prt_no.mp (h c (inU c c0 c1))).1.mpr hc
  have hA:∀c,((a:Int),c)∈ps<->((b:Int),c)∈ps:=λc=>by
   constructor
   ·intro hc
    obtain⟨_,_,c0,c1,_⟩:=ho.ix _ hc
    exact(prt_no.mp (h c (inU c c0 c1))).2.mp hc
   ·intro hc
    obtain⟨_,_,c0,c1,_⟩:=ho.ix _ hc
    exact(prt_no.mp (h c (inU c c0 c1))).2.mpr hc
  have e1:(bO ps a).length=(bO ps b).length:=Nat.le_antisymm (len_sub (jZ ho _) λx hx=>mem_bel.mpr ((hB x).mp (mem_bel.mp hx))) (len_sub (jZ ho _) λx hx=>mem_bel.mpr ((hB x).mpr (mem_bel.mp hx)))
  have e2:(cI ps a).length=(cI ps b).length:=Nat.le_antisymm (len_sub (nK ho _) λx hx=>mem_abv.mpr ((hA x).mp (mem_abv.mp hx))) (len_sub (nK ho _) λx hx=>mem_abv.mpr ((hA x).mpr (mem_abv.mp hx)))
  unfold bX
  rw[e1,e2]
 ·intro h c _
  obtain⟨p1,p2⟩:=nest ho hb ha hbn (Int.le_of_eq h)
  obtain⟨q1,q2⟩:=nest ho hb hbn ha (Int.le_of_eq h.symm)
  exact prt_no.mpr ⟨⟨p1 c,q1 c⟩,⟨q2 c,p2 c⟩⟩
theorem U1{n:Nat}{ps:List (Int×Int)}(ho:Ord n ps)(hb:bT n ps=false){st:Int}(hs:1<=st){vals:List Int}(h:cJ n ps st=some vals){a b:Nat}(ha:a<n)(hbn:b<n)(hh:bX ps a<=bX ps b):vals.getD a 0<=vals.getD b 0:=by
 obtain⟨len,tld,nn⟩:=rJ ho hs h
 obtain⟨p1,p2⟩:=nest ho hb ha hbn hh
 have h':cJ vals.length (cN st vals) st=some vals:=by rw[len,tld];exact h
 obtain⟨_,con,_,lst⟩:=SH hs (by rw[len];exact ho.lo) hs h'
 have R:∀i j:Nat,i<n->j<n->(vals.getD j 0-vals.getD i 0>=st<->((i:Int),(j:Int))∈ps):=λi j hi hj=>by
  have e:has (cN st vals) i j=true<->vals.getD j 0-vals.getD i 0>=st:=by
   rw[GP (by lia) (by lia)]
   exact decide_eq_true_iff
  rw[tld]at e
  rw[<-has_iff,e]
 rw[len]at con lst
 by_cases g:vals.getD a 0<=vals.getD b 0
 ·exact g
 ·exfalso
  have nb:0<=vals.getD b 0:=nn b hbn
  have L:=lst (λi=>if i=a then vals.getD a 0-1 else vals.getD i 0) (λi j hi hj=>?_) (λi hi=>?_) a ha
  ·have L':vals.getD a 0<=(if a=a then vals.getD a 0-1 else vals.getD a 0):=L
   rw[if_pos rfl]at L'
   lia
  ·show((if j=a then vals.getD a 0-1 else vals.getD j 0)-(if i=a then vals.getD a 0-1 else vals.getD i 0)>=st)<->vals.getD j 0-vals.getD i 0>=st
   by_cases ei:i=a
   ·by_cases ej:j=a
    ·subst ei ej
     rw[if_pos rfl]
     lia
    ·subst ei
     rw[if_pos rfl,if_neg ej]
     constructor
     ·intro z
      exact(R _ _ ha hj).mpr (p2 _ ((R _ _ hbn hj).mp (by lia)))
     ·intro z
      lia
   ·by_cases ej:j=a
    ·subst ej
     rw[if_pos rfl,if_neg ei]
     constructor
     ·intro z
      lia
     ·intro z
      have:=(R _ _ hi hbn).mpr (p1 _ ((R _ _ hi ha).mp z))
      lia
    ·rw[if_neg ei,if_neg ej]
  ·show 0<=(if i=a then vals.getD a 0-1 else vals.getD i 0)
   split
   ·lia
   ·exact nn i hi
theorem UT{n:Nat}{ps:List (Int×Int)}(ho:Ord n ps)(hS:Sem ps){L:Int->Int}(hL:∀c:Nat,c<n->hW ps L c):∀(k c:Nat),c<n->(bO ps c).length=k->L c<=k+1:=by
 intro k
 induction k using Nat.strongRecOn with
 | _ k ih=>
  intro c hc ek
  rcases(hL c hc).is with z|⟨a,ha,z⟩
  ·lia
  ·obtain⟨a0,a1,_⟩:=ho.ix _ ha
   have ea:a=((a.toNat:Nat):Int):=by lia
   rw[ea]at ha z
   have h1:(((a.toNat:Nat):Int)::bO ps ((a.toNat:Nat):Int)).length<=(bO ps c).length:=len_sub (nodup_cons.mpr ⟨λq=>hS.irr _ (mem_bel.mp q),jZ ho _⟩) λx hx=>by
    rcases mem_cons.mp hx with rfl|hx
    ·exact mem_bel.mpr ha
    ·exact mem_bel.mpr (hS.tr (mem_bel.mp hx) ha)
   rw[length_cons]at h1
   have:=ih (bO ps ((a.toNat:Nat):Int)).length (by lia) a.toNat (by lia) rfl
   lia
theorem US{n:Nat}{ps:List (Int×Int)}(ho:Ord n ps)(hS:Sem ps){L:Int->Int}(hL:∀c:Nat,c<n->hW ps L c)(c:Nat)(hc:c<n):L c<=n+1:=by
 have h1:=UT ho hS hL _ c hc rfl
 have h2:(bO ps c).length<=(L2.upTo n).length:=len_sub (jZ ho _) λx hx=>by
  obtain⟨x0,x1,_⟩:=ho.ix _ (mem_bel.mp hx)
  unfold L2.upTo
  exact mem_map.mpr ⟨x.toNat,mem_range.mpr (by lia),by lia⟩
 rw[L2.n6]at h2
 lia
structure Tn (n:Nat) (ps:List (Int×Int)) (L:Int->Int) (k:Nat) (bs:List Int):Prop where
 len:bs.length=n
 lo:∀c:Nat,c<n->1<=bs.getD c 0/\bs.getD c 0<=L c
 eq:∀c:Nat,c<n->L c<=k+1->bs.getD c 0=L c
noncomputable def jI(bs:List Int)(p:Int×Int):List Int:=bs.set p.2.toNat (if bs.getD p.2.toNat 0<bs.getD p.1.toNat 0+1 then bs.getD p.1.toNat 0+1 else bs.getD p.2.toNat 0)
theorem WX{bs:List Int}{i c:Nat}{v:Int}(hi:i<bs.length):(bs.set i v).getD c 0=if c=i then v else bs.getD c 0:=by
 rw[List.getD_eq_getElem?_getD,List.getElem?_set]
 by_cases e:i=c
 ·subst e
  rw[if_pos rfl,if_pos rfl,if_pos hi]
  rfl
 ·rw[if_neg e,if_neg (λz=>e z.symm)]
  rfl
theorem Tn.start{n:Nat}{ps:List (Int×Int)}{L:Int->Int}(hL:∀c:Nat,c<n->hW ps L c):Tn n ps L 0 (replicate n 1):=by
 have e:∀c:Nat,c<n->(replicate n (1:Int)).getD c 0=1:=λc hc=>by
  rw[List.getD_eq_getElem?_getD,List.getElem?_replicate,if_pos hc]
  rfl
 refine⟨length_replicate,λc hc=>?_,λc hc h=>?_⟩
 ·rw[e c hc]
  have:=(hL c hc).lo
  lia
 ·rw[e c hc]
  have:=(hL c hc).lo
  lia
structure Tm (n:Nat) (ps qs:List (Int×Int)) (L:Int->Int) (k:Nat) (bs:List Int):Prop where
 tn:Tn n ps L k bs
 up:∀p∈qs,L p.1<=k+1->L p.1+1<=bs.getD p.2.toNat 0
theorem Tm.step{n:Nat}{ps qs:List (Int×Int)}{L:Int->Int}{k:Nat}{bs:List Int}(ho:Ord n ps)(hL:∀c:Nat,c<n->hW ps L c)(h:Tm n ps qs L k bs){p:Int×Int}(hp:p∈ps):Tm n ps (qs++[p]) L k (jI bs p):=by
 obtain⟨a0,a1,b0,b1,_⟩:=ho.ix _ hp
 have len:=h.tn.len
 have ea:p.1=((p.1.toNat:Nat):Int):=by lia
 have eb:p.2=((p.2.toNat:Nat):Int):=by lia
 have la:=h.tn.lo p.1.toNat (by lia)
 have lb:=h.tn.lo p.2.toNat (by lia)
 have ge:=(hL p.2.toNat (by lia)).ge p.1 (by rw[<-eb];exact hp)
 rw[<-ea]at la
 rw[<-eb]at lb ge
 have gv:∀c:Nat,(jI bs p).getD c 0=if c=p.2.toNat then(if bs.getD p.2.toNat 0<bs.getD p.1.toNat 0+1 then bs.getD p.1.toNat 0+1 else bs.getD p.2.toNat 0) else bs.getD c 0:=λc=>WX (by lia)
 have mono:∀c:Nat,bs.getD c 0<=(jI bs p).getD c 0:=λc=>by
  rw[gv]
  split
  ·rename_i e
   subst e
   split <;> lia
  ·exact Int.le_refl _
 have aX:∀c:Nat,c<n->(jI bs p).getD c 0<=L c:=λc hc=>by
  rw[gv]
  split
  ·rename_i e
   rw[e,<-eb]
   split <;> lia
  ·exact(h.tn.lo c hc).2
 refine⟨⟨by unfold jI;rw[length_set];exact len,λc hc=>⟨by have:=mono c;have:=(h.tn.lo c hc).1;lia,aX c hc⟩,λc hc z=>?_⟩,λq hq z=>?_⟩
 ·have:=h.tn.eq c hc z
  have:=mono c
  have:=aX c hc
  lia
 ·rcases mem_append.mp hq with hq|hq
  ·have:=h.up q hq z
   have:=mono q.2.toNat
   lia
  ·rw[mem_singleton]at hq
   subst hq
   have e:=h.tn.eq q.1.toNat (by lia) (by rw[<-ea];exact z)
   rw[<-ea]at e
   rw[gv,if_pos rfl]
   split <;> lia
theorem Tm.next{n:Nat}{ps:List (Int×Int)}{L:Int->Int}{k:Nat}{bs:List Int}(ho:Ord n ps)(hL:∀c:Nat,c<n->hW ps L c)(h:Tm n ps ps L k bs):Tn n ps L (k+1) bs:=by
 refine⟨h.tn.len,h.tn.lo,λc hc z=>?_⟩
 have lo:=h.tn.lo c hc
 rcases(hL c hc).is with q|⟨a,ha,q⟩
 ·lia
 ·have:=h.up _ ha (by show L a<=_;lia)
  have e:((c:Int)).toNat=c:=Int.toNat_natCast c
  dsimp only at this
  rw[e]at this
  lia
theorem W6(i j:Nat):PyData.eqv (cZ i) (cZ j)=decide (i=j):=by
 unfold cZ
 rw[PyData.eqv,PyData.eqvAll,PyData.eqvAll,PyData.eqvAll,PyData.eqv,PyData.eqv]
 by_cases h:i=j
 ·subst h;simp
 ·have:¬(i:Int)=(j:Int):=by lia
  simp[h,this]
theorem RH(i:Nat):dQ (cZ i):=⟨by
 have h:PyData.strOk (Str.ofString "refused")=true:=by decide +kernel
 simp[cZ,PyData.canLay0,PyData.canLayAll0,h],Nat.le_trans (show(cZ i).depth<=10 from by show 1<=10;decide) (by decide)⟩
theorem W5(js:List Nat):PyData.eqv (.list (js.map cZ)) (.list (js.map cZ))=true:=by
 rw[PyData.eqv]
 induction js with
 |nil=>rfl
 |cons j js ih=>rw[map_cons,PyData.eqvAll,W6,ih,decide_eq_true rfl];rfl
theorem FA(js:List Nat):dQ (.list (js.map cZ)):=by
 have k:PyData.canLayAll0 (js.map cZ)=true/\PyData.depthAll (js.map cZ)<=10:=by
  induction js with
  |nil=>exact⟨rfl,Nat.zero_le _⟩
  |cons j js ih=>
   rw[map_cons,PyData.canLayAll0,PyData.depthAll,ih.1,(RH j).1]
   exact⟨rfl,Nat.max_le.mpr ⟨show 1<=10 by decide,ih.2⟩⟩
 refine⟨?_,?_⟩
 ·rw[PyData.canLay0];exact k.1
 ·rw[PyData.depth]
  have:=k.2
  lia
theorem GL{H:Hp}{v:V}{d:PyData}(h:Is H v d):∀m,IsAll H (replicate m v) (replicate m d)
 |0=>.nil
 |m+1=>.cons h (GL h m)
theorem R4(n:Nat)(ps:List (Int×Int)):dQ (.list ((g6 n ps).map bJ)):=by
 have k:∀l:List (Bool×List Int),PyData.canLayAll0 (l.map bJ)=true/\PyData.depthAll (l.map bJ)<=20:=λl=>by
  induction l with
  |nil=>exact⟨rfl,Nat.zero_le _⟩
  | cons p l ih=>
   rw[map_cons,PyData.canLayAll0,PyData.depthAll,ih.1,(IH p).1.1]
   refine⟨rfl,Nat.max_le.mpr ⟨?_,ih.2⟩⟩
   unfold bJ
   rw[PyData.depth,PyData.depthAll]
   have:∀ns:List Int,PyData.depthAll (ns.map .int)<=0:=λns=>by
    induction ns with
    |nil=>exact Nat.le_refl _
    |cons n ns ih=>rw[map_cons,PyData.depthAll];exact Nat.max_le.mpr ⟨Nat.le_refl _,ih⟩
   have:=this p.2
   have e0:(PyData.str (if p.1=true then "two" else "three")).depth=0:=rfl
   rw[e0]
   lia
 refine⟨?_,?_⟩
 ·rw[PyData.canLay0];exact(k _).1
 ·rw[PyData.depth]
  have:=(k (g6 n ps)).2
  lia
theorem W7{n:Nat}{ps:List (Int×Int)}(ho:Ord n ps):PyData.eqv (.list ((g6 n ps).map bJ)) (.list [])= !bT n ps:=by
 rw[PyData.eqv]
 cases e:g6 n ps with
 |nil=>
  rw[(IB ho).mp e]
  rfl
 |cons a l=>
  cases h:bT n ps with
  |true=>rfl
  |false=>rw[(IB ho).mpr h]at e;cases e
theorem HA(p:List Int):PyData.eqv (.list (p.map PyData.int)) (.list (p.map PyData.int))=true:=by
 rw[PyData.eqv]
 induction p with
 |nil=>rfl
 |cons a p ih=>rw[map_cons,PyData.eqvAll,ih,PyData.eqv];simp
theorem qB:∀{l1 l2:List Int},l1.Pairwise (· < ·)->l2.Pairwise (· < ·)->(∀x,x∈l1<->x∈l2)->l1=l2
 |[],[],_,_,_=>rfl
 |[],y::l2,_,_,h=>absurd ((h y).mpr mem_cons_self) (by simp)
 |x::l1,[],_,_,h=>absurd ((h x).mp mem_cons_self) (by simp)
 | x::l1,y::l2,h1,h2,h=>by
  rw[pairwise_cons]at h1 h2
  have e:x=y:=by
   have a:=(h x).mp mem_cons_self
   have b:=(h y).mpr mem_cons_self
   rcases mem_cons.mp a with a|a
   ·exact a
   rcases mem_cons.mp b with b|b
   ·exact b.symm
   have:=h2.1 x a
   have:=h1.1 y b
   lia
  subst e
  rw[qB h1.2 h2.2 λz=>?_]
  constructor
  ·intro hz
   rcases mem_cons.mp ((h z).mp (mem_cons_of_mem _ hz)) with q|q
   ·have:=h1.1 z hz
    lia
   ·exact q
  ·intro hz
   rcases mem_cons.mp ((h z).mpr (mem_cons_of_mem _ hz)) with q|q
   ·have:=h2.1 z hz
    lia
   ·exact q
theorem KW(n:Nat):(L2.upTo n).Pairwise (· < ·):=by
 unfold L2.upTo
 rw[pairwise_map]
 exact pairwise_lt_range.imp λh=>by lia
theorem mem_upTo{n:Nat}{c:Int}:c∈L2.upTo n<->∃k:Nat,c=k/\k<n:=by
 unfold L2.upTo
 rw[mem_map]
 exact⟨λ⟨k,h,e⟩=>⟨k,e.symm,mem_range.mp h⟩,λ⟨k,e,h⟩=>⟨k,mem_range.mpr h,e.symm⟩⟩
theorem Z4(hs:List Int)(v:Int):(bP hs v).Pairwise (· < ·):=by
 unfold bP
 rw[pairwise_map]
 exact(pairwise_lt_range.sublist filter_sublist).imp λh=>by lia
theorem w9{n:Nat}{ps:List (Int×Int)}{ms:List Int}(nb:dL (aI n ps) ms):∀i,i<=ms.length->(bQ (aI n ps) ms i).Nodup
 |0,_=>nodup_nil
 |i+1,h=>by
  have em:ms[i]? =some ms[i]:=List.getElem?_eq_getElem h
  rw[qD em,List.nodup_append]
  refine⟨w9 nb i (by lia),qK _ _,λc hc d hd e=>?_⟩
  subst e
  obtain⟨k,rfl,hk,e⟩:=mem_atL.mp hd
  rw[eL]at hk
  rw[kY hk]at e
  have:=(pE nb em k hk).mp hc
  lia
theorem L5{n:Nat}{ps:List (Int×Int)}{ms ns:List Int}(nb:dL (aI n ps) ms)(hp:ns.Perm (bQ (aI n ps) ms ms.length))(hs:ns.Pairwise (· <= ·)):ns=L2.upTo n:=
 qB (pG hs (hp.nodup_iff.mpr (w9 nb _ (Nat.le_refl _)))) (KW n) λx=>by rw[hp.mem_iff,kP nb,mem_upTo]
theorem L4{hs ns:List Int}{v:Int}(hp:ns.Perm (bP hs v))(h:ns.Pairwise (· <= ·)):ns=bP hs v:=
 qB (pG h (hp.nodup_iff.mpr (qK _ _))) (Z4 hs v) λx=>hp.mem_iff
theorem SL{hs m1 m2:List Int}(h1:dL hs m1)(h2:dL hs m2):m1=m2:=qB h1.up h2.up λx=>(h1.mem x).trans (h2.mem x).symm
theorem GF{hs ms:List Int}(nb:dL hs ms){i j:Nat}{u v:Int}(hi:ms[i]? =some u)(hj:ms[j]? =some v):(i<j<->u<v)/\(i=j<->u=v):=by
 obtain⟨h1,e1⟩:=List.getElem?_eq_some_iff.mp hi
 obtain⟨h2,e2⟩:=List.getElem?_eq_some_iff.mp hj
 have pw:=pairwise_iff_getElem.mp nb.up
 rcases Nat.lt_trichotomy i j with g|g|g
 ·have:=pw i j h1 h2 g
  constructor <;> constructor <;> intro z <;> lia
 ·subst g
  have:u=v:=by rw[<-e1,<-e2]
  constructor <;> constructor <;> intro z <;> lia
 ·have:=pw j i h2 h1 g
  constructor <;> constructor <;> intro z <;> lia
theorem QC{n:Nat}{ps:List (Int×Int)}{ms:List Int}(nb:dL (aI n ps) ms):∃P:Int->Int,∀c:Nat,c<n->∃i:Nat,P c=i/\ms[i]? =some (bX ps c):=by
 classical
 refine⟨λc=>((if h:∃i:Nat,ms[i]? =some (bX ps c) then Classical.choose h else 0:Nat):Int),λc hc=>?_⟩
 have hm:bX ps c∈ms:=(nb.mem _).mpr (mem_map.mpr ⟨c,mem_range.mpr hc,rfl⟩)
 obtain⟨i,hi,e⟩:=getElem_of_mem hm
 have h:∃i:Nat,ms[i]? =some (bX ps c):=⟨i,by rw[List.getElem?_eq_getElem hi,e]⟩
 refine⟨Classical.choose h,?_,Classical.choose_spec h⟩
 show((if h:∃i:Nat,ms[i]? =some (bX ps c) then Classical.choose h else 0:Nat):Int)=_
 rw[dif_pos h]
section
variable{P:Program}{w:World}{K:PySem.W.Frag}{mg:Str->Option Value}{base:Heap}{t:Ad}
inductive oH (K:PySem.W.Frag) (vs:List V) (H:Hp) (Q:VK) (zz3:XK):Prop where
 |mk (a ns:_) (zh0:vs=[.ref a]) (zh1:Scr K H a ns) (zh2:∀H',Q (.bl true) H'):oH K vs H Q zz3
theorem RQ(T:aT K mg t):FnOk P w K mg base aU 11 t.zD t.xO ["_law_script"] (oH K):=by
 refine T.JH.ok sc_law (λvs H Q E h=>?_) (λcdv A outer s H vs Q E hr h=>?_)
 ·obtain⟨a,ns,rfl,_⟩:=h
  rfl
 ·obtain⟨a,ns,rfl,hs,q⟩:=h
  refine⟨_,(aF (bG (i:=1) sc_law.nd rfl (Or.inl rfl) (cT pa_nil))
   (aF (bG (i:=2) sc_law.nd rfl (Or.inr rfl) (aN (R6 T) (hr.mono (by decide)) rfl T.UD T.JU.kp T.ZX .nil aO (aA (pv 0) (aA (pv 1) (aA pe_int pa_nil)))))
   (aF (bL (bE (fQ hr.units) (aN (SA T) (hr.mono (by decide)) rfl T.UH T.JY.kp T.Z1 .nil aO (aA (pv 2) pa_nil)) (cT pa_nil) (bA _)) (aD (aK (cP (dY hr.units) (fN rfl ⟨True.intro,True.intro,True.intro,(.inl rfl),True.intro⟩ (M:=["_law_what","_law_order_here"]) (.own (.free 2 rfl rfl .nil)) (fE rfl) rfl (by decide +kernel) (cS rfl T.cQ (aA pe_int pa_nil)) (λC fp s1 H1=>⟨aP (i:=0) (show(["_law_what","_law_order_here"]:List Str).Nodup by decide +kernel) rfl (Or.inl rfl),i9,(aN (o9 T) (hr.mono (by decide)) rfl T.pF T.nW.kp T.qJ .nil aO (aA (pv 0) (aA (pv 1) pa_nil)))⟩)) (aY mB (cT (aA (bI (aA pe_str (aA pe_int pa_nil))) pa_nil)) pe_int) (bA _)))) bK)
   (aF (bG (i:=3) sc_law.nd rfl (Or.inl rfl) (aN (o9 T) (hr.mono (by decide)) rfl T.pF T.nW.kp T.qJ .nil aO (aA pe_int (aA (pv 2) pa_nil))))
   (aF (bG (i:=4) sc_law.nd rfl (Or.inl rfl) (cT pa_nil))
   (aF (bW PassesOwn.never rfl (fS K (pv 3)) (aP (i:=5) sc_law.nd rfl (Or.inl rfl)) (aD (cR (fU K PySem.F.plainAttrs_list PySem.F.slot_list_extend PySem.F.type_list_extend FM (pv 4) (aA (pv 5) pa_nil)))))
   (aF (bL (PW.pt (gP (bE (fQ hr.units) (aZ (GD K) (by rfl) T.kM lG (aA (pv 4) pa_nil)) (iC (YH rfl) (by rfl) T.FL HR (aA (iC YE (by rfl) T.cQ YZ (aA (aQ (aR K) (pv 2) pe_int (λ_ _=>rfl)) pa_nil)) pa_nil)) (bA _)) (gO (eZ (dA (aZ (wC K) (by rfl) T.vL yO (aA (fN rfl ⟨True.intro,True.intro,True.intro,True.intro⟩ (M:=["_law_group"]) (.own .nil) (fE rfl) rfl (by decide +kernel) (fS K (pv 3)) (λC fp s1 H1=>⟨aP (i:=0) (show(["_law_group"]:List Str).Nodup by decide +kernel) rfl (Or.inl rfl),i9,(cP (dY hr.units) (pv 0) (aZ (GD K) (by rfl) T.kM lG (aA (pv 0) pa_nil)) (bA _))⟩)) pa_nil))))))) (aD (aK pe_bl)) bK)
   (aF (bG (i:=6) sc_law.nd rfl (Or.inl rfl) uY)
   (aF (bW PassesOwn.never rfl (VP K rfl T.ST (aA (pv 3) pa_nil)) (fT K rfl (cF (aP (i:=7) sc_law.nd rfl (Or.inl rfl)) (cF (aP (i:=5) sc_law.nd rfl (Or.inl rfl)) fM))) (aD (bW PassesOwn.never rfl (fS K (pv 5)) (aP (i:=8) sc_law.nd rfl (Or.inl rfl)) (aD (EJ (eK hr) (pv 6) (pv 8) (pv 7) rfl)))))
   (aF (bG (i:=9) sc_law.nd rfl (Or.inl rfl) (aQ (aR K) (aN (RP T) (hr.mono (by decide)) rfl T.TZ T.JG.kp T.ZK .nil aO (aA (pv 2) pa_nil)) pe_int (λ_ _=>rfl)))
   (aF (bW PassesOwn.never rfl (cS rfl T.cQ (aA (aQ (aR K) (pv 2) pe_int (λ_ _=>rfl)) pa_nil)) (aP (i:=10) sc_law.nd rfl (Or.inl rfl)) (aD (bW PassesOwn.never rfl (cS rfl T.cQ (aA (aQ (aR K) (pv 2) pe_int (λ_ _=>rfl)) pa_nil)) (aP (i:=11) sc_law.nd rfl (Or.inl rfl)) (aF (bL (bE (fQ hr.units) (cP (dY hr.units) (jS (eK hr) (pv 6) (pv 10) (λ_ _=>rfl)) (jS (eK hr) (pv 6) (pv 11) (λ_ _=>rfl)) (bA _)) (cP mE (aN (RL T) (hr.mono (by decide)) rfl T.TV T.JD.kp T.ZG .nil aO (aA (pv 2) (aA (pv 10) (aA (pv 11) pa_nil)))) pe_non (bA _)) (bA _)) (aD (aK pe_bl)) bK)
   (aF (bL (PW.pt (l7 (bE (E2) (jS (eK hr) (pv 6) (pv 10) (λ_ _=>rfl)) (jS (eK hr) (pv 6) (pv 11) (λ_ _=>rfl)) (bA _)) (l6 (bE (u0) (aQ (aR K) (pv 9) (pv 10) (λ_ _=>rfl)) (aQ (aR K) (pv 9) (pv 11) (λ_ _=>rfl)) (bA _))))) (aD (aK pe_bl)) bK)
   (aD (bL (PW.pt (l7 (bE (jT hr.units) (bI (aA (pv 10) (aA (pv 11) pa_nil))) (aQ (aR K) (pv 2) pe_int (λ_ _=>rfl)) (by rfl)) (l6 (bE (E4) (jS (eK hr) (pv 6) (pv 10) (λ_ _=>rfl)) (jS (eK hr) (pv 6) (pv 11) (λ_ _=>rfl)) (bA _))))) (aD (aK pe_bl)) bK)))))))
   (aF (bG (i:=12) sc_law.nd rfl (Or.inl rfl) (aY mB (cT (aA pe_int pa_nil)) (aQ (aR K) (pv 2) pe_int (λ_ _=>rfl))))
   (aF (bW PassesOwn.never rfl (cS rfl T.cQ (aA (aQ (aR K) (pv 2) pe_int (λ_ _=>rfl)) pa_nil)) (aP (i:=13) sc_law.nd rfl (Or.inl rfl)) (aD (bW PassesOwn.never rfl (fR K (aQ (aR K) (pv 2) pe_int (λ_ _=>rfl))) (fT K rfl (cF (aP (i:=10) sc_law.nd rfl (Or.inl rfl)) (cF (aP (i:=11) sc_law.nd rfl (Or.inl rfl)) fM))) (aD (uU (aZ (YR rfl) (by rfl) T.pB qG (aA (aQ (aR K) (pv 12) (pv 11) (λ_ _=>rfl)) (aA (aY c6 (aQ (aR K) (pv 12) (pv 10) (λ_ _=>rfl)) pe_int) pa_nil))) (uW (pv 12) (pv 11) sD (λ_=>rfl)))))))
   (aF (cR (fU K PySem.F.plainAttrs_list PySem.F.slot_list_append PySem.F.type_list_append jU (pv 3) (aA pe_non pa_nil)))
   (aD (aK (o0 (cP (dY hr.units) (aN (o9 T) (hr.mono (by decide)) rfl T.pF T.nW.kp T.qJ .nil aO (aA pe_int (aA (pv 2) pa_nil))) (aZ (VR K) (by rfl) T.pB qG (aA (pv 12) pa_nil)) (bA _)) (oZ (cP (dY hr.units) (aZ (dG K) (by rfl) T.dB dJ (aA (aN (o9 T) (hr.mono (by decide)) rfl T.pF T.nW.kp T.qJ .nil aO (aA pe_int (aA (pv 2) pa_nil))) pa_nil)) (aY kI (aZ (dG K) (by rfl) T.dB dJ (aA (pv 3) pa_nil)) pe_int) (bA _)))))))))))))))))))),?_⟩
  walk_at"rd"
  refine⟨Nat.zero_le _,λtw htw=>?_⟩
  have hs0:=hs.same (Same.upd (o:=.lst []) htw)
  have ht0:upd H tw (.lst []) tw=some (.lst []):=aC
  generalize upd H tw (.lst [])=H0 at hs0 ht0
  clear htw hs
  walk_at"rd"
  refine⟨a,ns,tw,[],rfl,hs0,ht0,by decide,λx H1 n ps ts1 s1 ht1 hl1 ho hx=>?_⟩
  clear s1 hs0 ht0 ht1 hl1 ts1 H0
  have n8:=ho.hi
  have n1:=ho.lo
  walk_at"rd"
  refine⟨x,n,ps,rfl,hx,ho,λlb wb H8 s8 _ elb ib=>?_⟩
  have hx8:=hx.same s8
  clear hx s8
  walk_at"rd"
  refine⟨Nat.zero_le _,λq8 hq8=>?_⟩
  have f8:=Same.upd (o:=.lst []) hq8
  have hx9:=hx8.same f8
  refine i6 (d:=.list ((g6 n ps).map bJ)) (e:=.list []) (.lst (Rd.of (f8 _ _ elb)) (ib.same f8)) (.lst (Rd.of aC) .nil) (R4 n ps) ⟨rfl,by show 1<=40;decide⟩ ?_
  rw[W7 ho]
  generalize upd H8 q8 (.lst [])=H9 at hx9
  clear hx8 f8 hq8 elb ib
  cases hb:bT n ps with
  | true=>
   walk_at"rd"
   refine kX rfl ?_
   walk_at"rd"
   refine⟨_,rfl,by decide,by decide,?_⟩
   refine mH (c9 (by decide)) (λi ys H'=>Same H9 H'/\IsAll H' ys (replicate i (cZ 6))) ⟨Same.refl _,.nil⟩ (by rintro j zs H' ⟨_,h⟩;rw[h.length,length_replicate];exact Nat.le_refl _) ?_ ?_
   ·rintro i ys H2 hi ⟨s2,iy⟩
    have hi':i<2:=hi
    walk_at"rd"
    refine⟨_,x,n,ps,rfl,by lia,hx9.same s2,ho,.inl ⟨hb,λv H3 s3 iv=>?_⟩⟩
    refine⟨s2.trans s3,?_⟩
    rw[List.replicate_succ']
    exact(iy.same s3).append (.cons iv .nil)
   rintro ys H2 ⟨s2,iy⟩ pl hpl
   have f3:=Same.upd (o:=.lst ys) hpl
   have e3:upd H2 pl (.lst ys) pl=some (.lst ys):=aC
   have i3:=iy.same f3
   generalize upd H2 pl (.lst ys)=H3 at f3 e3 i3
   clear s2 iy f3 hpl
   walk_at"rd"
   refine⟨by show 2<=sizeLine;decide,λpa1 hpa1=>?_⟩
   have ta1:=Same.upd (o:=.tup [V.str "refused",V.int 6]) hpa1
   walk_at"rd"
   refine⟨by show 1<=sizeLine;decide,λpb1 hpb1=>?_⟩
   have tb1:=Same.upd (o:=.lst [V.ref pa1]) hpb1
   walk_at"rd"
   refine kC (n:=2) aC (by decide) λpc1 hpc1=>?_
   have tc1:=Same.upd (o:=.lst (replicate 2 (V.ref pa1))) hpc1
   have td1:=(ta1.trans tb1).trans tc1
   have ia1:IsAll (upd (upd (upd H3 pa1 (.tup [V.str "refused",V.int 6])) pb1 (.lst [V.ref pa1])) pc1 (.lst (replicate 2 (V.ref pa1)))) (replicate 2 (V.ref pa1)) (replicate 2 (cZ 6)):=GL (.tup (tc1 _ _ (tb1 _ _ aC)) (.cons (.str _) (.cons (.int _) .nil))) _
   refine i6 (d:=.list ([6,6].map cZ)) (e:=.list ([6,6].map cZ)) (.lst (Rd.of (td1 _ _ e3)) (i3.same td1)) (.lst (Rd.of aC) ia1) (FA _) (FA _) ?_
   rw[W5]
   exact q _
  | false=>
   walk_at"rd"
   refine fD rfl ?_
   walk_at"rd"
   refine⟨0,x,n,ps,rfl,.inl rfl,hx9,ho,.inr ⟨hb,λ_ r zs ms H2 s2 hr2 nb er hz=>?_,λz=>by cases z⟩⟩
   have lm:=vE nb
   rw[eL]at lm
   have hlz:=hz.1
   obtain⟨oa,ob,xs,rfl,ea,eb,hxs⟩:=iL (hx9.same s2)
   clear hx9 s2 hr2
   walk_at"rd"
   refine⟨Nat.zero_le _,λp hp=>?_⟩
   have pr:∀c u,H2 c=some u->c≠p:=λc u e=>aS e hp
   walk_at"rd"
   refine⟨r,rfl,⟨zs,SqL.of (by rw[aE (pr _ _ er)];exact er)⟩,?_⟩
   have s3:SameT p H2 (upd H2 p (.lst [])):=jH
   have e3:upd H2 p (.lst []) p=some (.lst ((bQ (aI n ps) ms 0).map V.int)):=aC
   generalize upd H2 p (.lst [])=H3 at s3 e3
   have bnd:∀i,(bQ (aI n ps) ms i).length<=64:=λi=>by
    have b0:∀x,(bP (aI n ps) x).length<=8:=λx=>by
     have:=nJ (aI n ps) x
     rw[eL]at this
     lia
    have b1:=w4 b0 (ms.take i)
    rw[length_take]at b1
    unfold bQ
    lia
   refine mV (K:=K) (xs:=zs) (λi σ H'=>(∃v5 v6 v7 v8 v9 v10 v11 v12 v13,σ=[some (.ref a),some (.ref tw),some (.ref oa),some (.ref r),some (.ref p),v5,v6,v7,v8,v9,v10,v11,v12,v13])/\SameT p H2 H'/\H' p=some (.lst ((bQ (aI n ps) ms i).map V.int)))
    ⟨⟨_,_,_,_,_,_,_,_,_,rfl⟩,s3,e3⟩ (λi σ H' _ h=>SqL.of (h.2.1 _ _ er (pr _ _ er))) ?_ ?_
   ·rintro i x σ H4 hx4 ⟨⟨v5,v6,v7,v8,v9,v10,v11,v12,v13,rfl⟩,s4,e4⟩
    have hi:i<ms.length:=by have:=(List.getElem?_eq_some_iff.mp hx4).1;lia
    have em:ms[i]? =some ms[i]:=List.getElem?_eq_getElem hi
    obtain⟨r2,e1,e2⟩:=hz.2 i ms[i] em
    rw[hx4]at e1
    cases e1
    walk_at"rd"
    refine⟨fJ e4,?_⟩
    walk_at"rd"
    refine DX e4 (s4 _ _ e2 (pr _ _ e2)) ?_ ?_
    ·rw[length_map,length_map]
     have:=bnd i
     have:=nJ (aI n ps) ms[i]
     rw[eL]at this
     exact Nat.le_of_lt (gJ (by lia))
    refine⟨⟨_,_,_,_,_,_,_,_,_,rfl⟩,s4.trans jH,?_⟩
    rw[aC,qD em,map_append]
   rintro σ H4 ⟨⟨v5,v6,v7,v8,v9,v10,v11,v12,v13,rfl⟩,s4,e4⟩
   rw[hlz]at e4
   have ea4:=s4 _ _ ea (pr _ _ ea)
   have eb4:=s4 _ _ eb (pr _ _ eb)
   have er4:=s4 _ _ er (pr _ _ er)
   have hx4:IsAll H4 xs (ps.map aJ):=hxs.tmono (λc us e=>s4 _ _ e (pr _ _ e)) (gR _)
   have hz4:Rws H4 (aI n ps) zs ms:=⟨hz.1,λj v e=>let⟨r,e1,e2⟩:=hz.2 j v e;⟨r,e1,s4 _ _ e2 (pr _ _ e2)⟩⟩
   clear s3 e3 s4 ea eb er hxs hz hp pr
   have hd8:(bQ (aI n ps) ms ms.length).length<=8:=by
    have:=len_sub (ns:=L2.upTo n) (w9 nb _ (Nat.le_refl _)) λx hx=>by rw[mem_upTo];exact(kP nb x).mp hx
    rw[L2.n6]at this
    lia
   walk_at"rd"
   refine DO (.inr e4) (by lia) λl1 ns1 hl1 p1 q1=>?_
   obtain rfl:=L5 nb p1 q1
   have s5:=Same.upd (o:=.lst ((L2.upTo n).map V.int)) hl1
   have e5:upd H4 l1 (.lst ((L2.upTo n).map V.int)) l1=some (.lst ((L2.upTo n).map V.int)):=aC
   generalize upd H4 l1 (.lst ((L2.upTo n).map V.int))=H5 at s5 e5
   have ea5:=s5 _ _ ea4
   walk_at"rd"
   refine OE λl2 hl2=>?_
   have s6:=s5.trans (Same.upd (o:=.rng 0 n) hl2)
   have e6:=(Same.upd (o:=.rng 0 n) hl2) _ _ e5
   have e6':upd H5 l2 (.rng 0 n) l2=some (.rng 0 n):=aC
   generalize upd H5 l2 (.rng 0 n)=H6 at s6 e6 e6'
   walk_at"rd"
   refine OL e6' (by lia) λl3 hl3=>?_
   have s7:=s6.trans (Same.upd (o:=.lst ((L2.upTo n).map V.int)) hl3)
   have e7:=(Same.upd (o:=.lst ((L2.upTo n).map V.int)) hl3) _ _ e6
   have e7':upd H6 l3 (.lst ((L2.upTo n).map V.int)) l3=some (.lst ((L2.upTo n).map V.int)):=aC
   generalize upd H6 l3 (.lst ((L2.upTo n).map V.int))=H7 at s7 e7 e7'
   refine i6 (d:=.list ((L2.upTo n).map .int)) (e:=.list ((L2.upTo n).map .int)) (.lst (.inl e7) (IsAll.ints _)) (.lst (.inl e7') (IsAll.ints _)) (o8 _) (o8 _) ?_
   rw[HA]
   have ea7:=s7 _ _ ea4
   have eb7:=s7 _ _ eb4
   have er7:=s7 _ _ er4
   have hx7:=hx4.same s7
   have hz7:=hz4.same s7
   clear e4 ea4 eb4 er4 hx4 hz4 s5 e5 ea5 s6 e6 e6' s7 e7 e7' hl1 hl2 hl3
   walk_at"rd"
   refine fD rfl ?_
   walk_at"rd"
   refine⟨r,rfl,⟨zs,SqL.of er7⟩,?_⟩
   refine mI (K:=K) (xs:=zs) (c9 (by lia)) (λi ys H'=>Same H7 H'/\ys=(replicate i true).map V.bl) ⟨Same.refl _,rfl⟩ (by rintro i ys H' ⟨_,rfl⟩;rw[length_map,length_replicate];exact Nat.le_refl _) (λi ys H' _ h=>SqL.of (h.1 _ _ er7)) ?_ ?_
   ·rintro i x ys H8 hx8 ⟨s8,rfl⟩
    have hi:i<ms.length:=by have:=(List.getElem?_eq_some_iff.mp hx8).1;lia
    have em:ms[i]? =some ms[i]:=List.getElem?_eq_getElem hi
    obtain⟨r2,e1,e2⟩:=hz7.2 i ms[i] em
    rw[hx8]at e1
    cases e1
    have e8:=s8 _ _ e2
    have b8:=nJ (aI n ps) ms[i]
    rw[eL]at b8
    walk_at"rd"
    refine DO (.inr e8) (by lia) λl1 ns1 hl1 p1 q1=>?_
    obtain rfl:=L4 p1 q1
    have s9:=Same.upd (o:=.lst ((bP (aI n ps) ms[i]).map V.int)) hl1
    refine i6 (d:=.list ((bP (aI n ps) ms[i]).map .int)) (e:=.list ((bP (aI n ps) ms[i]).map .int)) (.lst (.inl (s9 _ _ e8)) (IsAll.ints _)) (.lst (.inl aC) (IsAll.ints _)) (o8 _) (o8 _) ?_
    rw[HA]
    refine⟨s8.trans s9,?_⟩
    rw[List.replicate_succ',map_append]
    rfl
   rintro ys H8 ⟨s8,rfl⟩ l4 hl4
   have s9:=s8.trans (Same.upd (o:=.lst ((replicate zs.length true).map V.bl)) hl4)
   have e9:upd H8 l4 (.lst ((replicate zs.length true).map V.bl)) l4=some (.lst ((replicate zs.length true).map V.bl)):=aC
   generalize upd H8 l4 (.lst ((replicate zs.length true).map V.bl))=H9 at s9 e9
   walk_at"rd"
   refine fD (by simp) ?_
   have ea9:=s9 _ _ ea7
   have eb9:=s9 _ _ eb7
   have er9:=s9 _ _ er7
   have hx9:=hx7.same s9
   have hz9:=hz7.same s9
   clear ea7 eb7 er7 hx7 hz7 s8 s9 e9 hl4
   walk_at"rd"
   refine λd hd=>?_
   have pr:∀c u,H9 c=some u->c≠d:=λc u e=>aS e hd
   obtain⟨PL,hPL⟩:=QC nb
   walk_at"rd"
   refine O7 ?_
   walk_at"rd"
   refine⟨r,rfl,⟨zs,SqL.of (by rw[aE (pr _ _ er9)];exact er9)⟩,?_⟩
   have s10:SameT d H9 (upd H9 d (.dK [])):=jH
   have e10:upd H9 d (.dK []) d=some (.dK (cG PL (bQ (aI n ps) ms 0))):=aC
   generalize upd H9 d (.dK [])=H10 at s10 e10
   refine W1 (K:=K) (xs:=zs) (λi σ H'=>(∃v5 v7 v8 v9 v10 v11 v12 v13,σ=[some (.ref a),some (.ref tw),some (.ref oa),some (.ref r),some (.ref p),v5,some (.ref d),v7,v8,v9,v10,v11,v12,v13])/\SameT d H9 H'/\H' d=some (.dK (cG PL (bQ (aI n ps) ms i))))
    ⟨⟨_,_,_,_,_,_,_,_,rfl⟩,s10,e10⟩ (λi σ H' _ h=>SqL.of (h.2.1 _ _ er9 (pr _ _ er9))) ?_ ?_
   ·rintro i x σ H4 T' hx4 ⟨⟨v5,v7,v8,v9,v10,v11,v12,v13,rfl⟩,s4,e4⟩ hT
    have hi:i<ms.length:=by have:=(List.getElem?_eq_some_iff.mp hx4).1;lia
    have em:ms[i]? =some ms[i]:=List.getElem?_eq_getElem hi
    obtain⟨r2,e1,e2⟩:=hz9.2 i ms[i] em
    rw[hx4]at e1
    cases e1
    have f5:=Same.upd (o:=.tup [V.int i,V.ref r2]) hT
    have eT:upd H4 T' (.tup [V.int i,V.ref r2]) T'=some (.tup [V.int i,V.ref r2]):=aC
    have e5:=f5 _ _ e4
    have s5:SameT d H9 (upd H4 T' (.tup [V.int i,V.ref r2])):=s4.trans f5.t
    generalize upd H4 T' (.tup [V.int i,V.ref r2])=H5 at eT e5 s5
    refine fK eT rfl ?_
    walk_at"rd"
    refine⟨r2,rfl,⟨_,SqL.of (s5 _ _ e2 (pr _ _ e2))⟩,?_⟩
    refine mV (K:=K) (xs:=(bP (aI n ps) ms[i]).map V.int) (λj σ H'=>(∃v8 v9 v10 v11 v12 v13,σ=[some (.ref a),some (.ref tw),some (.ref oa),some (.ref r),some (.ref p),some (.ref r2),some (.ref d),some (.int i),v8,v9,v10,v11,v12,v13])/\SameT d H9 H'/\H' d=some (.dK (cG PL (bQ (aI n ps) ms i++(bP (aI n ps) ms[i]).take j))))
     ⟨⟨_,_,_,_,_,_,rfl⟩,s5,by simpa using e5⟩ (λj σ H' _ h=>SqL.of (h.2.1 _ _ e2 (pr _ _ e2))) ?_ ?_
    ·rintro j x σ H6 hx6 ⟨⟨v8,v9,v10,v11,v12,v13,rfl⟩,s6,e6⟩
     rw[List.getElem?_map]at hx6
     cases et:(bP (aI n ps) ms[i])[j]? with
     |none=>rw[et]at hx6;cases hx6
     |some c=>
     rw[et]at hx6
     cases hx6
     obtain⟨k,rfl,hk,hv⟩:=mem_atL.mp (List.mem_of_getElem? et)
     rw[eL]at hk
     rw[kY hk]at hv
     have new:(k:Int)∉bQ (aI n ps) ms i++(bP (aI n ps) ms[i]).take j:=λz=>by
      rcases mem_append.mp z with z|z
      ·have:=(pE nb em k hk).mp z
       lia
      ·obtain⟨j',hj',e'⟩:=getElem_of_mem z
       rw[length_take]at hj'
       rw[getElem_take]at e'
       obtain⟨hj,ej⟩:=List.getElem?_eq_some_iff.mp et
       exact pairwise_iff_getElem.mp (qK (aI n ps) ms[i]) j' j (by lia) hj (by lia) (e'.trans ej.symm)
     have pk:PL k=i:=by
      obtain⟨i',e',m'⟩:=hPL k hk
      rw[e',(GF nb m' em).2.mpr hv]
     have b8:=nJ (aI n ps) ms[i]
     rw[eL]at b8
     walk_at"rd"
     refine DY ?_
     walk_at"rd"
     refine⟨d,_,rfl,DPut.k (k:=Sum.inl (k:Int)) e6 (by rw[GB,length_append,length_take];have:=bnd i;exact gJ (by lia)),⟨_,_,_,_,_,_,rfl⟩,s6.trans jH,?_⟩
     rw[aC,take_add_one,et,<-append_assoc,EG _ (v0 new),<-pk]
     exact congrArg (λz=>some (HO.dK z)) (GA PL _ _).symm
    ·rintro σ H6 ⟨⟨v8,v9,v10,v11,v12,v13,rfl⟩,s6,e6⟩
     rw[length_map,take_length,<-qD em]at e6
     exact⟨⟨_,_,_,_,_,_,_,_,rfl⟩,s6,e6⟩
   rintro σ H4 ⟨⟨v5,v7,v8,v9,v10,v11,v12,v13,rfl⟩,s4,e4⟩
   rw[hlz]at e4
   have ea4:=s4 _ _ ea9 (pr _ _ ea9)
   have eb4:=s4 _ _ eb9 (pr _ _ eb9)
   have er4:=s4 _ _ er9 (pr _ _ er9)
   have hx4:IsAll H4 xs (ps.map aJ):=hx9.tmono (λc us e=>s4 _ _ e (pr _ _ e)) (gR _)
   have gt4:∀c:Nat,c<n->bV (cG PL (bQ (aI n ps) ms ms.length)) (Sum.inl (c:Int))=some (V.int (PL c)):=λc hc=>v1 ((kP nb c).mpr ⟨c,rfl,hc⟩)
   generalize cG PL (bQ (aI n ps) ms ms.length)=DV at e4 gt4
   clear s10 e10 s4 ea9 eb9 er9 hx9 hz9 hd pr
   walk_at"rd"
   obtain⟨st,vals,t1,t4,t2,t3,t5⟩:=LA ho hb
   obtain⟨lv1,_,_⟩:=rJ ho t1 t2
   refine⟨_,n,ps,st,vals,rfl,.tup ea4 (.cons (.int _) (.cons (.tup eb4 hx4) .nil)),ho,hb,t1,by lia,t2,t3,λH5 pp rr s5 e5 e6=>?_⟩
   have ea5:=s5 _ _ ea4
   have eb5:=s5 _ _ eb4
   have er5:=s5 _ _ er4
   have hx5:=hx4.same s5
   have dg:∀H',Same H5 H'->∀c:Nat,c<n->DGet H' d (.int (c:Int)) (some (.int (PL c))):=λH' s' c hc=>by
    rw[<-gt4 c hc]
    exact DGet.k (k:=Sum.inl (c:Int)) (s' _ _ (s5 _ _ e4))
   clear s5 ea4 eb4 er4 hx4 e4 gt4
   walk_at"rd"
   refine⟨_,rfl,by lia,by lia,?_⟩
   rw[Int.toNat_natCast]
   refine eN (λi σ H'=>(∃v10 v11 v12 v13,σ=[some (.ref a),some (.ref tw),some (.ref oa),some (.ref r),some (.ref p),v5,some (.ref d),v7,v8,some (.ref rr),v10,v11,v12,v13])/\Same H5 H') ⟨⟨_,_,_,_,rfl⟩,Same.refl _⟩ ?_ ?_
   ·rintro i σ H6 hi ⟨⟨v10,v11,v12,v13,rfl⟩,s6⟩
    have ea6:=s6 _ _ ea5
    walk_at"rd"
    refine⟨_,rfl,by lia,by lia,?_⟩
    rw[Int.toNat_natCast]
    rw[Int.zero_add]
    refine eN (λj σ H'=>(∃v11 v12 v13,σ=[some (.ref a),some (.ref tw),some (.ref oa),some (.ref r),some (.ref p),v5,some (.ref d),v7,v8,some (.ref rr),some (.int i),v11,v12,v13])/\Same H5 H') ⟨⟨_,_,_,rfl⟩,s6⟩ ?_ ?_
    ·rintro j σ H7 hj ⟨⟨v11,v12,v13,rfl⟩,s7⟩
     have ea7:=s7 _ _ ea5
     have eb7:=s7 _ _ eb5
     have e67:=s7 _ _ e6
     obtain⟨ki,eki,mki⟩:=hPL i hi
     obtain⟨kj,ekj,mkj⟩:=hPL j hj
     have IX:=GF nb mki mkj
     rw[Int.zero_add]
     walk_at"rd"
     refine iB ?_
     walk_at"rd"
     refine⟨d,_,rfl,dg H7 s7 i hi,?_⟩
     refine iB ?_
     walk_at"rd"
     refine⟨d,_,rfl,dg H7 s7 j hj,?_⟩
     walk_at"rd"
     have is7:Is H7 (.ref oa) (bZ n ps):=.tup ea7 (.cons (.int _) (.cons (.tup eb7 (hx5.same s7)) .nil))
     refine⟨_,n,ps,(i:Int),(j:Int),rfl,is7,ho,by lia,by lia,by lia,by lia,λH8 s8=>?_⟩
     have s78:=s7.trans s8
     have ea8:=s78 _ _ ea5
     have eb8:=s78 _ _ eb5
     have e68:=s78 _ _ e6
     have eqP:(PL i==PL j)=decide (jO n ps i j=.non):=by
      rw[eki,ekj]
      refine yP ?_
      rw[beq_iff_eq,decide_eq_true_iff,P7 ho hb hi hj,<-IX.2]
      lia
     walk_at"rd"
     refine fD (by rw[eqP];simp) ?_
     have mono:PL i<PL j->vals.getD i 0<=vals.getD j 0:=λg=>U1 ho hb t1 t2 hi hj (by rw[eki,ekj]at g;have:=IX.1.mp (by lia);lia)
     have ordr:has ps i j=true->PL i<PL j:=λg=>by
      have:=GO ho (oJ ho hb) (has_iff.mp g)
      rw[eki,ekj]
      have:=IX.1.mpr this
      lia
     walk_at"rd"
     refine iB ?_
     walk_at"rd"
     refine⟨d,_,rfl,dg H8 s78 i hi,?_⟩
     refine iB ?_
     walk_at"rd"
     refine⟨d,_,rfl,dg H8 s78 j hj,?_⟩
     walk_at"rd"
     refine bS (λg1=>?_) (λg1=>?_)
     ·have g1':PL i<PL j:=of_decide_eq_true g1
      walk_at"rd"
      refine jK e68 (atI_of rfl (iP (by lia))) ?_
      walk_at"rd"
      refine jK e68 (atI_of rfl (iP (by lia))) ?_
      walk_at"rd"
      refine fD (by rw[decide_eq_false (by have:=mono g1';lia)]) ?_
      walk_at"rd"
      refine⟨c8,λp1 hp1=>?_⟩
      have s9:=s78.trans (Same.upd (o:=.tup [V.int i,V.int j]) hp1)
      have ea9:=s9 _ _ ea5
      have eb9:=s9 _ _ eb5
      walk_at"rd"
      refine i5 aC (.tup eb9 (hx5.same s9)) ?_
      cases h1:has ps i j with
      |true=>
       have g3:=ordr h1
       walk_at"rd"
       refine iB ?_
       walk_at"rd"
       refine⟨d,_,rfl,dg _ s9 i hi,?_⟩
       refine iB ?_
       walk_at"rd"
       refine⟨d,_,rfl,dg _ s9 j hj,?_⟩
       walk_at"rd"
       refine fD (by rw[decide_eq_false (by lia)]) ?_
       walk_at"rd"
       exact⟨⟨_,_,_,rfl⟩,s9⟩
      |false=>
       walk_at"rd"
       exact⟨⟨_,_,_,rfl⟩,s9⟩
     ·skip
      walk_at"rd"
      refine⟨c8,λp1 hp1=>?_⟩
      have s9:=s78.trans (Same.upd (o:=.tup [V.int i,V.int j]) hp1)
      have ea9:=s9 _ _ ea5
      have eb9:=s9 _ _ eb5
      walk_at"rd"
      refine i5 aC (.tup eb9 (hx5.same s9)) ?_
      cases h1:has ps i j with
      |true=>
       have g3:=ordr h1
       walk_at"rd"
       refine iB ?_
       walk_at"rd"
       refine⟨d,_,rfl,dg _ s9 i hi,?_⟩
       refine iB ?_
       walk_at"rd"
       refine⟨d,_,rfl,dg _ s9 j hj,?_⟩
       walk_at"rd"
       refine fD (by rw[decide_eq_false (by lia)]) ?_
       walk_at"rd"
       exact⟨⟨_,_,_,rfl⟩,s9⟩
      |false=>
       walk_at"rd"
       exact⟨⟨_,_,_,rfl⟩,s9⟩
    ·rintro σ H7 ⟨⟨v11,v12,v13,rfl⟩,s7⟩
     exact⟨⟨_,_,_,_,rfl⟩,s7⟩
   rintro σ H6 ⟨⟨v10,v11,v12,v13,rfl⟩,s6⟩
   have ea6:=s6 _ _ ea5
   have eb6:=s6 _ _ eb5
   have er6:=s6 _ _ er5
   have hx6:=hx5.same s6
   clear s6 ea5 eb5 er5 hx5 e5 e6 dg
   walk_at"rd"
   refine⟨by show 1<=sizeLine;decide,λl1 hl1=>?_⟩
   have s7:=Same.upd (o:=.lst [V.int 1]) hl1
   have e7:upd H6 l1 (.lst [V.int 1]) l1=some (.lst [V.int 1]):=aC
   generalize upd H6 l1 (.lst [V.int 1])=H7 at s7 e7
   have ea7:=s7 _ _ ea6
   walk_at"rd"
   refine kC (n:=n) e7 (by lia) λbst hbst=>?_
   have pr:∀c u,H7 c=some u->c≠bst:=λc u e=>aS e hbst
   have eb7:=s7 _ _ eb6
   have er7:=s7 _ _ er6
   have hx7:=hx6.same s7
   have s8:SameT bst H7 (upd H7 bst (.lst (replicate n (V.int 1)))):=jH
   have e8:upd H7 bst (.lst (replicate n (V.int 1))) bst=some (.lst ((replicate n (1:Int)).map V.int)):=by rw[aC,List.map_replicate]
   generalize upd H7 bst (.lst (replicate n (V.int 1)))=H8 at s8 e8
   have hlx:xs.length=ps.length:=by rw[hx7.length,length_map]
   have ea8:=s8 _ _ ea7 (pr _ _ ea7)
   walk_at"rd"
   refine⟨_,rfl,by lia,by lia,?_⟩
   rw[Int.toNat_natCast]
   refine eN (λi σ H'=>(∃v10 v11 v13,σ=[some (.ref a),some (.ref tw),some (.ref oa),some (.ref r),some (.ref p),v5,some (.ref d),v7,v8,some (.ref rr),v10,v11,some (.ref bst),v13])/\SameT bst H7 H'/\∃bs:List Int,H' bst=some (.lst (bs.map V.int))/\bs.length=n/\∀L:Int->Int,(∀c:Nat,c<n->hW ps L c)->Tn n ps L i bs)
    ⟨⟨_,_,_,rfl⟩,s8,_,e8,length_replicate,λL hL=>Tn.start hL⟩ ?_ ?_
   ·rintro i σ H9 hi ⟨⟨v10,v11,v13,rfl⟩,s9,bs,e9,lb9,tn9⟩
    have ea9:=s9 _ _ ea7 (pr _ _ ea7)
    have eb9:=s9 _ _ eb7 (pr _ _ eb7)
    walk_at"rd"
    refine⟨ob,rfl,⟨xs,SqT.of eb9⟩,?_⟩
    refine k9 (K:=K) (xs:=xs) (λj σ H'=>(∃v10 v11 v13,σ=[some (.ref a),some (.ref tw),some (.ref oa),some (.ref r),some (.ref p),v5,some (.ref d),v7,v8,some (.ref rr),v10,v11,some (.ref bst),v13])/\SameT bst H7 H'/\∃bs:List Int,H' bst=some (.lst (bs.map V.int))/\bs.length=n/\∀L:Int->Int,(∀c:Nat,c<n->hW ps L c)->Tm n ps (ps.take j) L i bs)
     ⟨⟨_,_,_,rfl⟩,s9,bs,e9,lb9,λL hL=>⟨tn9 L hL,λp hp=>by cases hp⟩⟩ (λj σ H' _ h=>SqT.of (h.2.1 _ _ eb7 (pr _ _ eb7))) ?_ ?_
    ·rintro j x σ H10 hx10 ⟨⟨v10,v11,v13,rfl⟩,s10,bs,e10,lb10,tm10⟩
     have ix10:IsAll H10 xs (ps.map aJ):=hx7.tmono (λc us e=>s10 _ _ e (pr _ _ e)) (gR _)
     obtain⟨p0,r4,hp0,rfl,er4⟩:=jP ix10 hx10
     have hin:p0∈ps:=List.mem_of_getElem? hp0
     obtain⟨a0,a1,b0,b1,_⟩:=ho.ix _ hin
     have ka:p0.1=((p0.1.toNat:Nat):Int):=by lia
     have kb:p0.2=((p0.2.toNat:Nat):Int):=by lia
     refine fK er4 rfl ?_
     walk_at"rd"
     refine gL e10 (atI_of kb (iP (by lia))) ?_
     walk_at"rd"
     refine gL e10 (atI_of ka (iP (by lia))) ?_
     walk_at"rd"
     refine uC e10 kb (by rw[length_map];lia) ?_
     refine⟨⟨_,_,_,rfl⟩,s10.trans jH,jI bs p0,?_,by unfold jI;rw[length_set];exact lb10,λL hL=>?_⟩
     ·rw[aC,sC]
      rfl
     ·rw[take_add_one,hp0]
      exact(tm10 L hL).step ho hL hin
    ·rintro σ H10 ⟨⟨v10,v11,v13,rfl⟩,s10,bs,e10,lb10,tm10⟩
     rw[hlx,take_length]at tm10
     exact⟨⟨_,_,_,rfl⟩,s10,bs,e10,lb10,λL hL=>(tm10 L hL).next ho hL⟩
   rintro σ H9 ⟨⟨v10,v11,v13,rfl⟩,s9,bs,e9,lb9,tn9⟩
   have ea9:=s9 _ _ ea7 (pr _ _ ea7)
   have eb9:=s9 _ _ eb7 (pr _ _ eb7)
   have er9:=s9 _ _ er7 (pr _ _ er7)
   have hx9:IsAll H9 xs (ps.map aJ):=hx7.tmono (λc us e=>s9 _ _ e (pr _ _ e)) (gR _)
   have nrb:bst≠r:=λz=>by rw[<-z]at er7;exact(pr _ _ er7) rfl
   clear s8 e8 s9 ea8 ea7 eb7 er7 hx7 pr s7 e7
   walk_at"rd"
   refine⟨fJ er9,?_⟩
   walk_at"rd"
   refine jL er9 (c9 (by lia)) ?_
   have pr:∀c us,H9 c=some (.tup us)->c≠r:=λc us e z=>by rw[z,er9]at e;cases e
   have ea10:upd H9 r (.lst (zs++[V.non])) oa=some (.tup [V.int n,V.ref ob]):=by rw[aE (pr _ _ ea9)];exact ea9
   have eb10:upd H9 r (.lst (zs++[V.non])) ob=some (.tup xs):=by rw[aE (pr _ _ eb9)];exact eb9
   have hx10:IsAll (upd H9 r (.lst (zs++[V.non]))) xs (ps.map aJ):=hx9.tmono (λc us e=>by rw[aE (pr _ _ e)];exact e) (gR _)
   have e10:upd H9 r (.lst (zs++[V.non])) bst=some (.lst (bs.map V.int)):=by rw[aE nrb];exact e9
   have er10:upd H9 r (.lst (zs++[V.non])) r=some (.lst (zs++[V.non])):=aC
   generalize upd H9 r (.lst (zs++[V.non]))=H10 at ea10 eb10 hx10 e10 er10
   have is10:Is H10 (.ref oa) (bZ n ps):=.tup ea10 (.cons (.int _) (.cons (.tup eb10 hx10) .nil))
   walk_at"rd"
   refine⟨1,_,n,ps,rfl,.inr rfl,is10,ho,.inr ⟨hb,(λz=>absurd z (by decide)),λ_ L m H11 s11 hL hm=>?_⟩⟩
   have TN:=tn9 L λc hc=>(hL c hc).1
   have eqL:∀c:Nat,c<n->bs.getD c 0=L c:=λc hc=>TN.eq c hc (US ho (oJ ho hb) (λc hc=>(hL c hc).1) c hc)
   walk_at"rd"
   refine OG (s11 _ _ e10) (by lia) λM hM1 hM2=>?_
   have eM:M=m:=by
    obtain⟨k,hk,ek⟩:=getElem_of_mem hM1
    have h1:M=L k:=by rw[<-eqL k (by lia),<-ek];simp[hk]
    obtain⟨c,hc,ec⟩:=hm
    have h2:=hM2 (L c) (by rw[<-eqL c hc];simp[show c<bs.length by lia])
    have:=(hL k (by lia)).2
    lia
   subst eM
   walk_at"rd"
   refine kX (beq_self_eq_true _) ?_
   have er11:=s11 _ _ er10
   have is11:=is10.same s11
   walk_at"rd"
   refine⟨0,_,n,ps,rfl,.inl rfl,is11,ho,.inr ⟨hb,λ_ r9 zs9 ms9 H12 s12 hr12 nb9 e12 hz12=>?_,(λz=>absurd z (by decide))⟩⟩
   have er12:=s12 _ _ er11
   have ez:zs9.length=zs.length:=by rw[hz12.1,SL nb9 nb,hlz]
   walk_at"rd"
   have q':=q H12
   rw[show((zs9.length:Int)==(((zs++[V.non]).length:Int)-1))=true by rw[ez,length_append];simp]
   exact q'
end
theorem SE{P:List Value->Prop}(h:P [])(us:List Value)(e:us.length=0):P us:=by
 cases us with
 |nil=>exact h
 |cons a us=>cases e
theorem dR{P:List Value->Prop}(h:∀a,P [a])(us:List Value)(e:us.length=1):P us:=by
 cases us with
 |nil=>cases e
 |cons a us=>exact SE (P:=λus=>P (a::us)) (h a) us (Nat.succ.inj e)
theorem eG{P:List Value->Prop}(h:∀a b,P [a,b])(us:List Value)(e:us.length=2):P us:=by
 cases us with
 |nil=>cases e
 |cons a us=>exact dR (P:=λus=>P (a::us)) (h a) us (Nat.succ.inj e)
theorem iE{P:List Value->Prop}(h:∀a b c,P [a,b,c])(us:List Value)(e:us.length=3):P us:=by
 cases us with
 |nil=>cases e
 |cons a us=>exact eG (P:=λus=>P (a::us)) (h a) us (Nat.succ.inj e)
theorem vC{P:List Value->Prop}(h:∀a b c d,P [a,b,c,d])(us:List Value)(e:us.length=4):P us:=by
 cases us with
 |nil=>cases e
 |cons a us=>exact iE (P:=λus=>P (a::us)) (h a) us (Nat.succ.inj e)
theorem FG{P:List Value->Prop}(h:∀a b c d f,P [a,b,c,d,f])(us:List Value)(e:us.length=5):P us:=by
 cases us with
 |nil=>cases e
 |cons a us=>exact vC (P:=λus=>P (a::us)) (h a) us (Nat.succ.inj e)
theorem bF{K:PySem.W.Frag}{h:Heap}{mg:Str->Option Value}(X:K.In h)(G:h.Ns mainGlobals mg){f:Str}{st:Stmt}{ps:List Str}{a:Addr}{od an:Option Addr}{sl:Array (Option Value)}{oc kV dc pm cd ct:Value}
  (hb:∀(kV doc pm:Value)(an:Option Addr)(cdv ct:Value)(us:List Value),us.length=ps.length->bindArgs (PySem.W.fnOf f f (lE st) (iQ st) (aL st) .none kV doc pm an cdv ct) ⟨us,[]⟩=pure (ps.zip us))
  (e:PySem.W.nsIn K mainGlobals f=some (some (.ref a))) (l:K.lookup a=some ⟨oc,od,.func (PySem.W.fnOf f f (lE st) (iQ st) (aL st) .none kV dc pm an cd ct),sl⟩) (c:PySem.W.codeIn K cd f=true) (k:PySem.W.keepIn K (.ref a)=true):
  ∃a d,mg f=some (.ref a)/\Fun K f f st a d/\Binds K d ps []:=by
 have F:=WZ (st:=st) l c k
 exact⟨a,_,PySem.W.mg_of X G e,F,F.binds hb⟩
theorem dZ{K:PySem.W.Frag}{h:Heap}{mg:Str->Option Value}(X:K.In h)(G:h.Ns mainGlobals mg){f:Str}(e:PySem.W.nsIn K mainGlobals f=some none):mg f=none:=PySem.W.mg_none_of X G e
theorem gU{K:PySem.W.Frag}{h:Heap}{mg:Str->Option Value}(X:K.In h)(G:h.Ns mainGlobals mg){f:Str}{C:Addr}(e:PySem.W.nsIn K mainGlobals f=some (some (.ref C))):mg f=some (.ref C):=PySem.W.mg_of X G e
theorem FN{K:PySem.W.Frag}{h:Heap}{mg:Str->Option Value}(X:K.In h)(G:h.Ns mainGlobals mg){f:Str}{n:Int}{tk:Tok}(e:PySem.W.nsIn K mainGlobals f=some (some (.int n tk))):∃tk,mg f=some (.int n tk):=⟨tk,PySem.W.mg_of X G e⟩
theorem mkS{K:PySem.W.Frag}{h:Heap}{mg:Str->Option Value}(X:K.In h)(G:h.Ns mainGlobals mg){f z:Str}{tk:Tok}(e:PySem.W.nsIn K mainGlobals f=some (some (.str z tk))):∃tk,mg f=some (.str z tk):=⟨tk,PySem.W.mg_of X G e⟩
theorem U3{K:PySem.W.Frag}{a:Addr}{fd:FuncData}(F:Fun K "law" "law" oK a fd)(s:Shared)(v:Value):BindsTo s fd ⟨[v],[]⟩ [("_law_script",v)]:=by
 obtain⟨oc,od,kV,doc,pm,an,cdv,ct,osl,rfl,lk,hcd⟩:=F.ex
 exact .of_eq rfl
theorem KJ{l:PySem.W.OpenLaw}{q:Program}{loose:List Str}{XP:(Str->Option Value)->Heap->Prop}{YP:World->Heap->Prop}{d:DefRec}{K:Params->PySem.W.Frag}(hn:l.most=some 63)(hdf:d.params.defaults=[])
  (hY:∀(w:World)(h:Heap),YP w h->(K w.params).In h)
  (F:∀(w:World)(mg:Str->Option Value)(fa:Addr)(h:Heap),(K w.params).In h->h.Ns mainGlobals mg->mg d.name=some (.ref fa)->
   ∃fd:FuncData,(∀(s:Shared)(u:Value),BindsTo s fd ⟨[u],[]⟩ [("_law_script",u)])/\∀base:Heap,(K w.params).In base->base.Ns mainGlobals mg->FnOk l.prog w (K w.params) mg base aU 11 fa fd ["_law_script"] (oH (K w.params))):
  PySem.W.WalkO q loose XP YP l.row.toRowW d [] (λf vs=>PySem.call f vs):=
 L2.KH (n:=63) (k:=11) (x:="_law_script") (CX:=λ_=>aU) (sp:=λw=>oH (K w.params)) hn (by decide) hdf ⟨rfl,by decide,by decide⟩ hY F (λ_ _ a ns _ hO hS=>⟨a,ns,rfl,Scr.of hO hS,λ_=>rfl⟩) λ_ _ _ _ _ z=>z
noncomputable abbrev IR(K:PySem.W.Frag)(mg:Str->Option Value):Prop:=(∃a d,mg "is_whole"=some (PySem.Value.ref a)/\L2.Fun K "is_whole" "is_whole" My.sV a d/\L2.Binds K d ["value","low","high"] [])/\(∃a d,mg "is_thing"=some (PySem.Value.ref a)/\L2.Fun K "is_thing" "is_thing" My.sW a d/\L2.Binds K d ["value","many"] [])/\(∃a d,mg "is_pair"=some (PySem.Value.ref a)/\L2.Fun K "is_pair" "is_pair" My.sZ a d/\L2.Binds K d ["value","many"] [])/\(∃a d,mg "is_rising"=some (PySem.Value.ref a)/\L2.Fun K "is_rising" "is_rising" My.sY a d/\L2.Binds K d ["pairs"] [])/\(∃a d,mg "is_order"=some (PySem.Value.ref a)/\L2.Fun K "is_order" "is_order" My.tD a d/\L2.Binds K d ["value"] [])/\(∃a d,mg "is_step"=some (PySem.Value.ref a)/\L2.Fun K "is_step" "is_step" My.sX a d/\L2.Binds K d ["value"] [])/\(∃a d,mg "need_order"=some (PySem.Value.ref a)/\L2.Fun K "need_order" "need_order" My.sR a d/\L2.Binds K d ["value"] [])/\(∃a d,mg "need_step"=some (PySem.Value.ref a)/\L2.Fun K "need_step" "need_step" My.sQ a d/\L2.Binds K d ["value"] [])/\(∃a d,mg "need_thing"=some (PySem.Value.ref a)/\L2.Fun K "need_thing" "need_thing" My.sP a d/\L2.Binds K d ["value","many"] [])/\(∃a d,mg "bars_as_two"=some (PySem.Value.ref a)/\L2.Fun K "bars_as_two" "bars_as_two" My.tI a d/\L2.Binds K d ["pairs","a","b","c","d"] [])/\(∃a d,mg "bars_as_three"=some (PySem.Value.ref a)/\L2.Fun K "bars_as_three" "bars_as_three" My.tJ a d/\L2.Binds K d ["pairs","a","b","c","d"] [])/\(∃a d,mg "first_two"=some (PySem.Value.ref a)/\L2.Fun K "first_two" "first_two" My.tF a d/\L2.Binds K d ["pairs"] [])/\(∃a d,mg "first_three"=some (PySem.Value.ref a)/\L2.Fun K "first_three" "first_three" My.tG a d/\L2.Binds K d ["many","pairs"] [])/\(∃a d,mg "bar"=some (PySem.Value.ref a)/\L2.Fun K "bar" "bar" My.tK a d/\L2.Binds K d ["order"] [])/\(∃a d,mg "need_unbarred"=some (PySem.Value.ref a)/\L2.Fun K "need_unbarred" "need_unbarred" My.sO a d/\L2.Binds K d ["order"] [])/\(∃a d,mg "height"=some (PySem.Value.ref a)/\L2.Fun K "height" "height" My.tE a d/\L2.Binds K d ["pairs","thing"] [])/\(∃a d,mg "things_at"=some (PySem.Value.ref a)/\L2.Fun K "things_at" "things_at" My.sF a d/\L2.Binds K d ["heights","level"] [])/\(∃a d,mg "row"=some (PySem.Value.ref a)/\L2.Fun K "row" "row" My.sI a d/\L2.Binds K d ["order"] [])/\(∃a d,mg "longest"=some (PySem.Value.ref a)/\L2.Fun K "longest" "longest" My.sS a d/\L2.Binds K d ["order"] [])/\(∃a d,mg "demand"=some (PySem.Value.ref a)/\L2.Fun K "demand" "demand" My.tH a d/\L2.Binds K d ["pairs","step","one","other"] [])/\(∃a d,mg "all_demands"=some (PySem.Value.ref a)/\L2.Fun K "all_demands" "all_demands" My.tL a d/\L2.Binds K d ["order","step"] [])/\(∃a d,mg "raise_once"=some (PySem.Value.ref a)/\L2.Fun K "raise_once" "raise_once" My.sJ a d/\L2.Binds K d ["demands","values","origins"] [])/\(∃a d,mg "raise_all"=some (PySem.Value.ref a)/\L2.Fun K "raise_all" "raise_all" My.sK a d/\L2.Binds K d ["demands","values","origins"] [])/\(∃a d,mg "least_values"=some (PySem.Value.ref a)/\L2.Fun K "least_values" "least_values" My.sT a d/\L2.Binds K d ["many","demands"] [])/\(∃a d,mg "numbers"=some (PySem.Value.ref a)/\L2.Fun K "numbers" "numbers" My.sN a d/\L2.Binds K d ["order","step"] [])/\(∃a d,mg "least"=some (PySem.Value.ref a)/\L2.Fun K "least" "least" My.sU a d/\L2.Binds K d ["order"] [])/\(∃a d,mg "parts"=some (PySem.Value.ref a)/\L2.Fun K "parts" "parts" My.sL a d/\L2.Binds K d ["pairs","thing","one","other"] [])/\(∃a d,mg "parted"=some (PySem.Value.ref a)/\L2.Fun K "parted" "parted" My.sM a d/\L2.Binds K d ["order","one","other"] [])/\(∃a d,mg "_law_cell_at"=some (PySem.Value.ref a)/\L2.Fun K "_law_cell_at" "_law_cell_at" My.tR a d/\L2.Binds K d ["_law_script","_law_k"] [])/\(∃a d,mg "_law_mixed"=some (PySem.Value.ref a)/\L2.Fun K "_law_mixed" "_law_mixed" My.tP a d/\L2.Binds K d ["_law_script","_law_k","_law_many"] [])/\(∃a d,mg "_law_draw"=some (PySem.Value.ref a)/\L2.Fun K "_law_draw" "_law_draw" My.tQ a d/\L2.Binds K d ["_law_script","_law_town","_law_many"] [])/\(∃a d,mg "_law_pick"=some (PySem.Value.ref a)/\L2.Fun K "_law_pick" "_law_pick" My.tN a d/\L2.Binds K d ["_law_script","_law_town","_law_some"] [])/\(∃a d,mg "_law_by"=some (PySem.Value.ref a)/\L2.Fun K "_law_by" "_law_by" My.tS a d/\L2.Binds K d ["_law_step","_law_longs"] [])/\(∃a d,mg "_law_order"=some (PySem.Value.ref a)/\L2.Fun K "_law_order" "_law_order" My.tO a d/\L2.Binds K d ["_law_script","_law_town","_law_most"] [])/\(∃a d,mg "_law_bars"=some (PySem.Value.ref a)/\L2.Fun K "_law_bars" "_law_bars" My.tT a d/\L2.Binds K d ["_law_order_here"] [])/\(∃a d,mg "_law_which"=some (PySem.Value.ref a)/\L2.Fun K "_law_which" "_law_which" My.tM a d/\L2.Binds K d ["_law_e"] [])/\(∃a d,mg "_law_ask"=some (PySem.Value.ref a)/\L2.Fun K "_law_ask" "_law_ask" My.tU a d/\L2.Binds K d ["_law_what","_law_order_here"] [])/\(∃a d,mg "law"=some (PySem.Value.ref a)/\L2.Fun K "law" "law" My.oK a d/\L2.Binds K d ["_law_script"] [])/\(mg "ValueError"=none)/\(mg "all"=none)/\(mg "bool"=none)/\(mg "dict"=none)/\(mg "enumerate"=none)/\(mg "int"=none)/\(mg "isinstance"=none)/\(mg "len"=none)/\(mg "list"=none)/\(mg "max"=none)/\(mg "range"=none)/\(mg "set"=none)/\(mg "sorted"=none)/\(mg "tuple"=none)/\(∃bN gE gD gC gB gA fZ fY fX gZ:PySem.Addr,My.XF K mg bN gE gD gC gB gA fZ fY fX gZ)/\(∃tk,mg "MOST_STEP"=some (PySem.Value.int 999 tk))/\(∃tk,mg "MOST_THINGS"=some (PySem.Value.int 8 tk))
theorem KZ{K:PySem.W.Frag}{mg:Str->Option Value}(TS:IR K mg):∃t:Ad,aT K mg t:=by
 obtain⟨⟨a0,d0,m0,F0,b0⟩,⟨a1,d1,m1,F1,b1⟩,⟨a2,d2,m2,F2,b2⟩,⟨a3,d3,m3,F3,b3⟩,⟨a4,d4,m4,F4,b4⟩,⟨a5,d5,m5,F5,b5⟩,⟨a6,d6,m6,F6,b6⟩,⟨a7,d7,m7,F7,b7⟩,⟨a8,d8,m8,F8,b8⟩,⟨a9,d9,m9,F9,b9⟩,⟨a10,d10,m10,F10,b10⟩,⟨a11,d11,m11,F11,b11⟩,⟨a12,d12,m12,F12,b12⟩,⟨a13,d13,m13,F13,b13⟩,⟨a14,d14,m14,F14,b14⟩,⟨a15,d15,m15,F15,b15⟩,⟨a16,d16,m16,F16,b16⟩,⟨a17,d17,m17,F17,b17⟩,⟨a18,d18,m18,F18,b18⟩,⟨a19,d19,m19,F19,b19⟩,⟨a20,d20,m20,F20,b20⟩,⟨a21,d21,m21,F21,b21⟩,⟨a22,d22,m22,F22,b22⟩,⟨a23,d23,m23,F23,b23⟩,⟨a24,d24,m24,F24,b24⟩,⟨a25,d25,m25,F25,b25⟩,⟨a26,d26,m26,F26,b26⟩,⟨a27,d27,m27,F27,b27⟩,⟨a28,d28,m28,F28,b28⟩,⟨a29,d29,m29,F29,b29⟩,⟨a30,d30,m30,F30,b30⟩,⟨a31,d31,m31,F31,b31⟩,⟨a32,d32,m32,F32,b32⟩,⟨a33,d33,m33,F33,b33⟩,⟨a34,d34,m34,F34,b34⟩,⟨a35,d35,m35,F35,b35⟩,⟨a36,d36,m36,F36,b36⟩,⟨a37,d37,m37,F37,b37⟩,N0,N1,N2,N3,N4,N5,N6,N7,N8,N9,N10,N11,N12,N13,⟨bN,gE,gD,gC,gB,gA,fZ,fY,fX,gZ,X⟩,C0,C1⟩:=TS
 exact⟨⟨a0,d0,a1,d1,a2,d2,a3,d3,a4,d4,a5,d5,a6,d6,a7,d7,a8,d8,a9,d9,a10,d10,a11,d11,a12,d12,a13,d13,a14,d14,a15,d15,a16,d16,a17,d17,a18,d18,a19,d19,a20,d20,a21,d21,a22,d22,a23,d23,a24,d24,a25,d25,a26,d26,a27,d27,a28,d28,a29,d29,a30,d30,a31,d31,a32,d32,a33,d33,a34,d34,a35,d35,a36,d36,a37,d37,bN,gE,gD,gC,gB,gA,fZ,fY,fX,gZ⟩,⟨m0,F0,b0,m1,F1,b1,m2,F2,b2,m3,F3,b3,m4,F4,b4,m5,F5,b5,m6,F6,b6,m7,F7,b7,m8,F8,b8,m9,F9,b9,m10,F10,b10,m11,F11,b11,m12,F12,b12,m13,F13,b13,m14,F14,b14,m15,F15,b15,m16,F16,b16,m17,F17,b17,m18,F18,b18,m19,F19,b19,m20,F20,b20,m21,F21,b21,m22,F22,b22,m23,F23,b23,m24,F24,b24,m25,F25,b25,m26,F26,b26,m27,F27,b27,m28,F28,b28,m29,F29,b29,m30,F30,b30,m31,F31,b31,m32,F32,b32,m33,F33,b33,m34,F34,b34,m35,F35,b35,m36,F36,b36,m37,F37,b37,N0,N1,N2,N3,N4,N5,N6,N7,N8,N9,N10,N11,N12,N13,X.pV,X.qM,X.rE,X.qZ,X.uT,X.uS,X.uR,X.uQ,X.uP,X.uO,X.uN,X.uM,X.wV,X.wU,X.wT,X.wS,X.wR,X.wQ,X.wP,X.wO,X.wN,C0,C1⟩⟩
end My
open PySem PySem.W PyProof.Rows
def PySem.W.Fast.tw5953585728137845633:Nat:=0
def PySem.W.Fast.tw14142215355710524670:Nat:=0
def PySem.W.Fast.tw2856880510604332952:Nat:=0
def PySem.W.Fast.tw10612080196045243447:Nat:=0
def PySem.W.Fast.tw1678856498736866179:Nat:=0
def PySem.W.Fast.tw14335423841528350387:Nat:=0
def PySem.W.Fast.tw5604038450638445405:Nat:=0
def PySem.W.Fast.tw11689451446840511253:Nat:=0
def PySem.W.Fast.tw256761336271790487:Nat:=0
def PySem.W.Fast.tw2247403355174234697:Nat:=0
def PySem.W.Fast.tw11401631428575136989:Nat:=0
def PySem.W.Fast.tw7522027737426596905:Nat:=0
def PySem.W.Fast.tw4481118439701871700:Nat:=0
def PySem.W.Fast.tw15744921431307826186:Nat:=0
def PySem.W.Fast.tw1142930783000699696:Nat:=0
def PySem.W.Fast.tw13452386108575670179:Nat:=0
def PySem.W.Fast.tw3138218164880165216:Nat:=0
def PySem.W.Fast.tw6731126688405127757:Nat:=0
def PySem.W.Fast.tw10561495207686751664:Nat:=0
def PySem.W.Fast.tw3375732840739211226:Nat:=0
def PySem.W.Fast.tw14858326187253762758:Nat:=0
def PySem.W.Fast.tw15011584610093734104:Nat:=0
def PySem.W.Fast.tw17710747379302781628:Nat:=0
def PySem.W.Fast.tw11811774800894027374:Nat:=0
def PySem.W.Fast.tw17620133626921886146:Nat:=0
def PySem.W.Fast.tw12798945891305175478:Nat:=0
def PySem.W.Fast.tw758374654693041607:Nat:=0
def PySem.W.Fast.tw10777716775522607734:Nat:=0
def PySem.W.Fast.tw4752881018325653287:Nat:=0
def PySem.W.Fast.tw16820017243533518783:Nat:=0
def PySem.W.Fast.tw5870141670478113166:Nat:=0
def PySem.W.Fast.tw13511630077578921081:Nat:=0
def PySem.W.Fast.tw3690426261666371610:Nat:=0
def PySem.W.Fast.tw17448614739944141445:Nat:=0
def PySem.W.Fast.tw10460137187913864234:Nat:=0
def PySem.W.Fast.tw7522474849007684384:Nat:=0
def PySem.W.Fast.tw16465809086052522459:Nat:=0
def PySem.W.Fast.tw4132958937723560919:Nat:=0
def PySem.W.Fast.tw11729424337768183009:Nat:=0
def PySem.W.Fast.tw16713124384075792541:Nat:=0
def PySem.W.Fast.tw13700733951356651327:Nat:=0
def PySem.W.Fast.tw10438113798128786620:Nat:=0
def PySem.W.Fast.tw10168581088672517651:Nat:=0
def PySem.W.Fast.tw14735383529577240694:Nat:=0
def PySem.W.Fast.tw3209165278907322495:Nat:=0
def PySem.W.Fast.tw142049593138634332:Nat:=0
def PySem.W.Fast.tw4829474609171195973:Nat:=0
def PySem.W.Fast.tw1325124520238297839:Nat:=0
def PySem.W.Fast.tw14456999955433138533:Nat:=0
def PySem.W.Fast.tw6505150703247719496:Nat:=0
def PySem.W.Fast.tw1224553153667683723:Nat:=0
def PySem.W.Fast.tw9964626950782838565:Nat:=0
def PySem.W.Fast.tw12964350840750123617:Nat:=0
def PySem.W.Fast.tw14535949519887657426:Nat:=0
def PySem.W.Fast.tw12881948997836918677:Nat:=0
def PySem.W.Fast.tw65555450932317910:Nat:=0
def PySem.W.Fast.tw13636364860609594239:Nat:=0
def PySem.W.Fast.tw18028806336972058049:Nat:=0
def PySem.W.Fast.tw17743992795312453563:Nat:=0
def PySem.W.Fast.tw15019335762734486010:Nat:=0
def PySem.W.Fast.tw16848971629445322856:Nat:=0
def PySem.W.Fast.tw6890563797062505994:Nat:=0
def PySem.W.Fast.tw11128874582796153530:Nat:=0
def PySem.W.Fast.tw7233028116141028508:Nat:=0
def PySem.W.Fast.tw8510421904465813682:Nat:=0
def PySem.W.Fast.tw1538241654021724921:Nat:=0
def PySem.W.Fast.tw12382886376088979017:Nat:=0
def PySem.W.Fast.tw17092762338684194213:Nat:=0
def PySem.W.Fast.tw6707730891336715197:Nat:=0
def PySem.W.Fast.tw10117781428666423330:Nat:=0
def PySem.W.Fast.tw16942932363294666178:Nat:=0
def PySem.W.Fast.tw1777226151488773216:Nat:=0
def PySem.W.Fast.tw10276851219160262043:Nat:=0
def PySem.W.Fast.tw5436692996173173797:Nat:=0
def PySem.W.Fast.tw14178345586640439256:Nat:=0
def PySem.W.Fast.tw3774947341312800659:Nat:=0
def PySem.W.Fast.tw3813379349753157715:Nat:=0
def PySem.W.Fast.tw4524093905136242700:Nat:=0
def PySem.W.Fast.tw7360673163058834611:Nat:=0
def PySem.W.Fast.tw10681308145454189683:Nat:=0
def PySem.W.Fast.tw16548040562105953342:Nat:=0
def PySem.W.Fast.tw8429621769911152228:Nat:=0
def PySem.W.Fast.tw11190270755568860446:Nat:=0
def PySem.W.Fast.tw11524966512840121466:Nat:=0
def PySem.W.Fast.tw2034817032531613828:Nat:=0
set_option maxRecDepth 100000 in
set_option maxHeartbeats 0 in
theorem PySem.Challenge.cw_noticed_k05_whole_rows_holds : PySem.Challenge.rw_noticed_k05_whole_rows.Holds := by
 w_on;o_law;k_head;(case hw=>w_witness2)
 k_fill
 refine My.KJ (l:=PySem.Challenge.rw_noticed_k05_whole_rows) rfl rfl (λw h Y=>PySem.W.kIn_of Y) ?F
 case F=>
  intro w mg fa h KX G hmg
  have TS:My.IR (L2.bD KX) mg:=by
   refine'⟨?t0,?t1,?t2,?t3,?t4,?t5,?t6,?t7,?t8,?t9,?t10,?t11,?t12,?t13,?t14,?t15,?t16,?t17,?t18,?t19,?t20,?t21,?t22,?t23,?t24,?t25,?t26,?t27,?t28,?t29,?t30,?t31,?t32,?t33,?t34,?t35,?t36,?t37,?t38,?t39,?t40,?t41,?t42,?t43,?t44,?t45,?t46,?t47,?t48,?t49,?t50,?t51,?t52,?t53,?t54⟩
   case t0=>
    dsimp only[L2.bD]
    refine' My.bF KX G ?hb ?e ?l ?c ?k
    (case hb=>exact λ_ _ _ _ _ _=>My.iE (λ_ _ _=>rfl))
    (case e=>k_is);(case l=>k_is);(case c=>k_is);(case k=>k_is)
   case t1=>
    dsimp only[L2.bD]
    refine' My.bF KX G ?hb ?e ?l ?c ?k
    (case hb=>exact λ_ _ _ _ _ _=>My.eG (λ_ _=>rfl))
    (case e=>k_is);(case l=>k_is);(case c=>k_is);(case k=>k_is)
   case t2=>
    dsimp only[L2.bD]
    refine' My.bF KX G ?hb ?e ?l ?c ?k
    (case hb=>exact λ_ _ _ _ _ _=>My.eG (λ_ _=>rfl))
    (case e=>k_is);(case l=>k_is);(case c=>k_is);(case k=>k_is)
   case t3=>
    dsimp only[L2.bD]
    refine' My.bF KX G ?hb ?e ?l ?c ?k
    (case hb=>exact λ_ _ _ _ _ _=>My.dR (λ_=>rfl))
    (case e=>k_is);(case l=>k_is);(case c=>k_is);(case k=>k_is)
   case t4=>
    dsimp only[L2.bD]
    refine' My.bF KX G ?hb ?e ?l ?c ?k
    (case hb=>exact λ_ _ _ _ _ _=>My.dR (λ_=>rfl))
    (case e=>k_is);(case l=>k_is);(case c=>k_is);(case k=>k_is)
   case t5=>
    dsimp only[L2.bD]
    refine' My.bF KX G ?hb ?e ?l ?c ?k
    (case hb=>exact λ_ _ _ _ _ _=>My.dR (λ_=>rfl))
    (case e=>k_is);(case l=>k_is);(case c=>k_is);(case k=>k_is)
   case t6=>
    dsimp only[L2.bD]
    refine' My.bF KX G ?hb ?e ?l ?c ?k
    (case hb=>exact λ_ _ _ _ _ _=>My.dR (λ_=>rfl))
    (case e=>k_is);(case l=>k_is);(case c=>k_is);(case k=>k_is)
   case t7=>
    dsimp only[L2.bD]
    refine' My.bF KX G ?hb ?e ?l ?c ?k
    (case hb=>exact λ_ _ _ _ _ _=>My.dR (λ_=>rfl))
    (case e=>k_is);(case l=>k_is);(case c=>k_is);(case k=>k_is)
   case t8=>
    dsimp only[L2.bD]
    refine' My.bF KX G ?hb ?e ?l ?c ?k
    (case hb=>exact λ_ _ _ _ _ _=>My.eG (λ_ _=>rfl))
    (case e=>k_is);(case l=>k_is);(case c=>k_is);(case k=>k_is)
   case t9=>
    dsimp only[L2.bD]
    refine' My.bF KX G ?hb ?e ?l ?c ?k
    (case hb=>exact λ_ _ _ _ _ _=>My.FG (λ_ _ _ _ _=>rfl))
    (case e=>k_is);(case l=>k_is);(case c=>k_is);(case k=>k_is)
   case t10=>
    dsimp only[L2.bD]
    refine' My.bF KX G ?hb ?e ?l ?c ?k
    (case hb=>exact λ_ _ _ _ _ _=>My.FG (λ_ _ _ _ _=>rfl))
    (case e=>k_is);(case l=>k_is);(case c=>k_is);(case k=>k_is)
   case t11=>
    dsimp only[L2.bD]
    refine' My.bF KX G ?hb ?e ?l ?c ?k
    (case hb=>exact λ_ _ _ _ _ _=>My.dR (λ_=>rfl))
    (case e=>k_is);(case l=>k_is);(case c=>k_is);(case k=>k_is)
   case t12=>
    dsimp only[L2.bD]
    refine' My.bF KX G ?hb ?e ?l ?c ?k
    (case hb=>exact λ_ _ _ _ _ _=>My.eG (λ_ _=>rfl))
    (case e=>k_is);(case l=>k_is);(case c=>k_is);(case k=>k_is)
   case t13=>
    dsimp only[L2.bD]
    refine' My.bF KX G ?hb ?e ?l ?c ?k
    (case hb=>exact λ_ _ _ _ _ _=>My.dR (λ_=>rfl))
    (case e=>k_is);(case l=>k_is);(case c=>k_is);(case k=>k_is)
   case t14=>
    dsimp only[L2.bD]
    refine' My.bF KX G ?hb ?e ?l ?c ?k
    (case hb=>exact λ_ _ _ _ _ _=>My.dR (λ_=>rfl))
    (case e=>k_is);(case l=>k_is);(case c=>k_is);(case k=>k_is)
   case t15=>
    dsimp only[L2.bD]
    refine' My.bF KX G ?hb ?e ?l ?c ?k
    (case hb=>exact λ_ _ _ _ _ _=>My.eG (λ_ _=>rfl))
    (case e=>k_is);(case l=>k_is);(case c=>k_is);(case k=>k_is)
   case t16=>
    dsimp only[L2.bD]
    refine' My.bF KX G ?hb ?e ?l ?c ?k
    (case hb=>exact λ_ _ _ _ _ _=>My.eG (λ_ _=>rfl))
    (case e=>k_is);(case l=>k_is);(case c=>k_is);(case k=>k_is)
   case t17=>
    dsimp only[L2.bD]
    refine' My.bF KX G ?hb ?e ?l ?c ?k
    (case hb=>exact λ_ _ _ _ _ _=>My.dR (λ_=>rfl))
    (case e=>k_is);(case l=>k_is);(case c=>k_is);(case k=>k_is)
   case t18=>
    dsimp only[L2.bD]
    refine' My.bF KX G ?hb ?e ?l ?c ?k
    (case hb=>exact λ_ _ _ _ _ _=>My.dR (λ_=>rfl))
    (case e=>k_is);(case l=>k_is);(case c=>k_is);(case k=>k_is)
   case t19=>
    dsimp only[L2.bD]
    refine' My.bF KX G ?hb ?e ?l ?c ?k
    (case hb=>exact λ_ _ _ _ _ _=>My.vC (λ_ _ _ _=>rfl))
    (case e=>k_is);(case l=>k_is);(case c=>k_is);(case k=>k_is)
   case t20=>
    dsimp only[L2.bD]
    refine' My.bF KX G ?hb ?e ?l ?c ?k
    (case hb=>exact λ_ _ _ _ _ _=>My.eG (λ_ _=>rfl))
    (case e=>k_is);(case l=>k_is);(case c=>k_is);(case k=>k_is)
   case t21=>
    dsimp only[L2.bD]
    refine' My.bF KX G ?hb ?e ?l ?c ?k
    (case hb=>exact λ_ _ _ _ _ _=>My.iE (λ_ _ _=>rfl))
    (case e=>k_is);(case l=>k_is);(case c=>k_is);(case k=>k_is)
   case t22=>
    dsimp only[L2.bD]
    refine' My.bF KX G ?hb ?e ?l ?c ?k
    (case hb=>exact λ_ _ _ _ _ _=>My.iE (λ_ _ _=>rfl))
    (case e=>k_is);(case l=>k_is);(case c=>k_is);(case k=>k_is)
   case t23=>
    dsimp only[L2.bD]
    refine' My.bF KX G ?hb ?e ?l ?c ?k
    (case hb=>exact λ_ _ _ _ _ _=>My.eG (λ_ _=>rfl))
    (case e=>k_is);(case l=>k_is);(case c=>k_is);(case k=>k_is)
   case t24=>
    dsimp only[L2.bD]
    refine' My.bF KX G ?hb ?e ?l ?c ?k
    (case hb=>exact λ_ _ _ _ _ _=>My.eG (λ_ _=>rfl))
    (case e=>k_is);(case l=>k_is);(case c=>k_is);(case k=>k_is)
   case t25=>
    dsimp only[L2.bD]
    refine' My.bF KX G ?hb ?e ?l ?c ?k
    (case hb=>exact λ_ _ _ _ _ _=>My.dR (λ_=>rfl))
    (case e=>k_is);(case l=>k_is);(case c=>k_is);(case k=>k_is)
   case t26=>
    dsimp only[L2.bD]
    refine' My.bF KX G ?hb ?e ?l ?c ?k
    (case hb=>exact λ_ _ _ _ _ _=>My.vC (λ_ _ _ _=>rfl))
    (case e=>k_is);(case l=>k_is);(case c=>k_is);(case k=>k_is)
   case t27=>
    dsimp only[L2.bD]
    refine' My.bF KX G ?hb ?e ?l ?c ?k
    (case hb=>exact λ_ _ _ _ _ _=>My.iE (λ_ _ _=>rfl))
    (case e=>k_is);(case l=>k_is);(case c=>k_is);(case k=>k_is)
   case t28=>
    dsimp only[L2.bD]
    refine' My.bF KX G ?hb ?e ?l ?c ?k
    (case hb=>exact λ_ _ _ _ _ _=>My.eG (λ_ _=>rfl))
    (case e=>k_is);(case l=>k_is);(case c=>k_is);(case k=>k_is)
   case t29=>
    dsimp only[L2.bD]
    refine' My.bF KX G ?hb ?e ?l ?c ?k
    (case hb=>exact λ_ _ _ _ _ _=>My.iE (λ_ _ _=>rfl))
    (case e=>k_is);(case l=>k_is);(case c=>k_is);(case k=>k_is)
   case t30=>
    dsimp only[L2.bD]
    refine' My.bF KX G ?hb ?e ?l ?c ?k
    (case hb=>exact λ_ _ _ _ _ _=>My.iE (λ_ _ _=>rfl))
    (case e=>k_is);(case l=>k_is);(case c=>k_is);(case k=>k_is)
   case t31=>
    dsimp only[L2.bD]
    refine' My.bF KX G ?hb ?e ?l ?c ?k
    (case hb=>exact λ_ _ _ _ _ _=>My.iE (λ_ _ _=>rfl))
    (case e=>k_is);(case l=>k_is);(case c=>k_is);(case k=>k_is)
   case t32=>
    dsimp only[L2.bD]
    refine' My.bF KX G ?hb ?e ?l ?c ?k
    (case hb=>exact λ_ _ _ _ _ _=>My.eG (λ_ _=>rfl))
    (case e=>k_is);(case l=>k_is);(case c=>k_is);(case k=>k_is)
   case t33=>
    dsimp only[L2.bD]
    refine' My.bF KX G ?hb ?e ?l ?c ?k
    (case hb=>exact λ_ _ _ _ _ _=>My.iE (λ_ _ _=>rfl))
    (case e=>k_is);(case l=>k_is);(case c=>k_is);(case k=>k_is)
   case t34=>
    dsimp only[L2.bD]
    refine' My.bF KX G ?hb ?e ?l ?c ?k
    (case hb=>exact λ_ _ _ _ _ _=>My.dR (λ_=>rfl))
    (case e=>k_is);(case l=>k_is);(case c=>k_is);(case k=>k_is)
   case t35=>
    dsimp only[L2.bD]
    refine' My.bF KX G ?hb ?e ?l ?c ?k
    (case hb=>exact λ_ _ _ _ _ _=>My.dR (λ_=>rfl))
    (case e=>k_is);(case l=>k_is);(case c=>k_is);(case k=>k_is)
   case t36=>
    dsimp only[L2.bD]
    refine' My.bF KX G ?hb ?e ?l ?c ?k
    (case hb=>exact λ_ _ _ _ _ _=>My.eG (λ_ _=>rfl))
    (case e=>k_is);(case l=>k_is);(case c=>k_is);(case k=>k_is)
   case t37=>
    dsimp only[L2.bD]
    refine' My.bF KX G ?hb ?e ?l ?c ?k
    (case hb=>exact λ_ _ _ _ _ _=>My.dR (λ_=>rfl))
    (case e=>k_is);(case l=>k_is);(case c=>k_is);(case k=>k_is)
   case t38=>
    refine' My.dZ KX G ?e
    (case e=>k_is)
   case t39=>
    refine' My.dZ KX G ?e
    (case e=>k_is)
   case t40=>
    refine' My.dZ KX G ?e
    (case e=>k_is)
   case t41=>
    refine' My.dZ KX G ?e
    (case e=>k_is)
   case t42=>
    refine' My.dZ KX G ?e
    (case e=>k_is)
   case t43=>
    refine' My.dZ KX G ?e
    (case e=>k_is)
   case t44=>
    refine' My.dZ KX G ?e
    (case e=>k_is)
   case t45=>
    refine' My.dZ KX G ?e
    (case e=>k_is)
   case t46=>
    refine' My.dZ KX G ?e
    (case e=>k_is)
   case t47=>
    refine' My.dZ KX G ?e
    (case e=>k_is)
   case t48=>
    refine' My.dZ KX G ?e
    (case e=>k_is)
   case t49=>
    refine' My.dZ KX G ?e
    (case e=>k_is)
   case t50=>
    refine' My.dZ KX G ?e
    (case e=>k_is)
   case t51=>
    refine' My.dZ KX G ?e
    (case e=>k_is)
   case t52=>
    dsimp only[L2.bD]
    refine'⟨_,_,_,_,_,_,_,_,_,_,My.XF.mk (My.gU KX G ?kg0) ?kf1 ?kf2 ?kf3 ?kf4 ?kf5 ?kf6 ?kf7 ?kf8 ?kf9 ?kf10 ?kf11 (My.gU KX G ?kg12) (My.gU KX G ?kg13) (My.gU KX G ?kg14) (My.gU KX G ?kg15) (My.gU KX G ?kg16) (My.gU KX G ?kg17) (My.gU KX G ?kg18) (My.gU KX G ?kg19) (My.gU KX G ?kg20)⟩
    (case kg0=>k_is)
    (case kg12=>k_is)
    (case kg13=>k_is)
    (case kg14=>k_is)
    (case kg15=>k_is)
    (case kg16=>k_is)
    (case kg17=>k_is)
    (case kg18=>k_is)
    (case kg19=>k_is)
    (case kg20=>k_is)
    (case kf1=>exact⟨by k_exc,by k_is,by k_is,by k_is,by k_is,by k_is,⟨_,by k_is⟩⟩)
    (case kf2=>exact L2.U6 (by k_is))
    (case kf3=>exact L2.W4 (by k_is) (by k_is) (by k_is) (by k_is))
    (case kf4=>exact L2.jD (by decide) (by k_is) (by k_is) (by k_is))
    (case kf5=>exact L2.jD (by decide) (by k_is) (by k_is) (by k_is))
    (case kf6=>exact L2.jD (by decide) (by k_is) (by k_is) (by k_is))
    (case kf7=>exact L2.jD (by decide) (by k_is) (by k_is) (by k_is))
    (case kf8=>exact L2.jD (by decide) (by k_is) (by k_is) (by k_is))
    (case kf9=>exact L2.jD (by decide) (by k_is) (by k_is) (by k_is))
    (case kf10=>exact L2.jD (by decide) (by k_is) (by k_is) (by k_is))
    (case kf11=>exact L2.jD (by decide) (by k_is) (by k_is) (by k_is))
   case t53=>
    refine' My.FN KX G ?e
    (case e=>k_is)
   case t54=>
    refine' My.FN KX G ?e
    (case e=>k_is)
  obtain⟨t,T⟩:=My.KZ TS
  have e:=hmg.symm.trans T.T0
  cases e
  exact⟨_,My.U3 T.JH,λbase _ _=>My.RQ T⟩
#print axioms PySem.Challenge.cw_noticed_k05_whole_rows_holds
