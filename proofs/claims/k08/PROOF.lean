import PyProof.Rows.All
import Wide.All
import OpenK.AllK
import Wide.FinOn
import Lean
import PyProof.EqAt
import PyProof.EqKinds
import PyProof.TupleCall
import PyProof.P3Eq
import PyProof.P3In
import PyProof.NeData
import KE.KSortTup
import KE.LcSums
import PyProof.Rows.TupAdd
import KE.KTryMore
import OpenK.KOwn
import PyProof.NsDelKeeps
import PyProof.ExcArgsOwn
import KE.KIsAll
import KE.KDictOf
import KE.KLam
import KE.KMinKey
import KE.KNest
import KE.KNestM
import KE.KRevIter
import PyProof.AttrMissHeap
import PyProof.Draws
import PyProof.EnumMake
import PyProof.FactsAll.tuple
import PyProof.ListMulRoad
import PyProof.ListRange
import PyProof.Rows.MinMaxN
import PyProof.Rows.SetFrom
import PyProof.Rows.SumAny
import PyProof.SliceList
import PyProof.TupleOfSeq
import PyProof.WalkInts
import PyProof.WalksMore
import PyProof.ZipIter
import PySem.Challenge.RW_noticed_k08_whole_keepers
open List (all_eq_true all_map any_cons any_eq_false any_eq_true append_assoc append_nil countP_cons drop_eq_getElem_cons drop_of_length_le drop_take exists_mem_of_ne_nil ext_getElem filterMap_cons filter_append flatMap_append flatten_cons foldl_append foldl_cons getElem_inj getElem_map getElem_mem length_append length_cons length_drop length_dropLast length_filter_le length_map length_nil length_range length_replicate length_set length_singleton length_take lookup_cons map_append map_congr_left map_cons map_id map_map map_nil mem_append mem_append_left mem_append_right mem_cons mem_cons_of_mem mem_cons_self mem_filter mem_filterMap mem_flatMap mem_map mem_of_mem_drop mem_of_mem_take mem_range mem_singleton nodup_cons nodup_range not_mem_nil of_mem_zip pairwise_append pairwise_cons pairwise_flatMap pairwise_iff_getElem pairwise_map pairwise_singleton perm_append_comm range range_succ replicate replicate_succ reverse_cons size_toArray sum_append take_add_one take_append_drop take_length take_of_length_le zip_cons_cons)
set_option Elab.async false
set_option linter.all false
set_option maxRecDepth 100000
namespace L2
open PySem PySem.Spec PyProof.Rows
noncomputable abbrev aG:=Sum Int Str
noncomputable def k9:aG->Value->Bool
 | .inl k,v=>Value.isInt k v
 | .inr x,v=>Value.isStrOf x v
noncomputable def XR(w:World):aG->Int
 | .inl k=>hashInt k
 | .inr x=>hashStr w x
theorem i6:∀{k:aG}{v:Value},k9 k v=true->(∃i t,k=Sum.inl i/\v=Value.int i t)\/(∃x t,k=Sum.inr x/\v=Value.str x t)
 | .inl i,v,h=>by
  obtain⟨t,e⟩:=Value.isInt_shape (k:=i) (v:=v) h
  exact .inl ⟨i,t,rfl,e⟩
 | .inr x,v,h=>by
  obtain⟨t,e⟩:=Value.isStrOf_shape (x:=x) (v:=v) h
  exact .inr ⟨x,t,rfl,e⟩
theorem XQ(i:Int)(t:Tok):k9 (.inl i) (.int i t)=true:=by simp[k9,Value.isInt]
theorem XO(x:Str)(t:Tok):k9 (.inr x) (.str x t)=true:=by simp[k9,Value.isStrOf]
theorem XM(a b:Int):decide ((Sum.inl a:aG)=Sum.inl b)=(a==b):=by
 by_cases e:a=b
 ·subst e;simp
 ·have h:¬(Sum.inl a:aG)=Sum.inl b:=λq=>e (Sum.inl.inj q)
  rw[decide_eq_false h]
  exact(beq_eq_false_iff_ne.mpr e).symm
theorem XH(a b:Str):decide ((Sum.inr a:aG)=Sum.inr b)=decide (a=b):=by
 by_cases e:a=b
 ·subst e;simp
 ·have h:¬(Sum.inr a:aG)=Sum.inr b:=λq=>e (Sum.inr.inj q)
  rw[decide_eq_false h,decide_eq_false e]
theorem XL(a:Int)(b:Str):decide ((Sum.inl a:aG)=Sum.inr b)=false:=decide_eq_false (λq=>nomatch q)
theorem XJ(a:Str)(b:Int):decide ((Sum.inr a:aG)=Sum.inl b)=false:=decide_eq_false (λq=>nomatch q)
noncomputable def fW(prog:Program)(w:World):PySem.KeyKind prog w aG where
 is:=k9
 hash:=XR w
 inj:=λv a b ha hb=>by
  rcases i6 ha with⟨i,t,rfl,rfl⟩|⟨x,t,rfl,rfl⟩
  ·rcases i6 hb with⟨j,u,rfl,e⟩|⟨y,u,rfl,e⟩
   ·injection e with e1 _;rw[e1]
   ·exact nomatch e
  ·rcases i6 hb with⟨j,u,rfl,e⟩|⟨y,u,rfl,e⟩
   ·exact nomatch e
   ·injection e with e1 _;rw[e1]
 byValue:=λk v h=>by
  rcases i6 h with⟨i,t,rfl,rfl⟩|⟨x,t,rfl,rfl⟩ <;> rfl
 pyHash:=λhv h=>by
  rcases i6 hv with⟨i,t,rfl,rfl⟩|⟨x,t,rfl,rfl⟩
  ·exact wpAny_pyHash_int h
  ·exact wpAny_pyHash_str h
 eqBool:=λhu hv h=>by
  rcases i6 hu with⟨i,t,rfl,rfl⟩|⟨x,t,rfl,rfl⟩
  ·rcases i6 hv with⟨j,u,rfl,rfl⟩|⟨y,u,rfl,rfl⟩
   ·rw[XM]at h;exact wpAny_eqBool_int h
   ·rw[XL]at h;exact SeqAt.EqAt.int_str i t y u _ _ _ _ h
  ·rcases i6 hv with⟨j,u,rfl,rfl⟩|⟨y,u,rfl,rfl⟩
   ·rw[XJ]at h;exact SeqAt.EqAt.str_int x t j u _ _ _ _ h
   ·rw[XH]at h;exact wpAny_eqBool_str h
 «strs»:=λk x t v h=>by
  rcases i6 h with⟨i,u,rfl,e⟩|⟨y,u,rfl,e⟩
  ·exact nomatch e
  ·injection e with e1 _
   subst e1
   cases v <;> rfl
theorem VC(prog:Program)(w:World)(i:Int)(t:Tok):(fW prog w).is (.inl i) (.int i t)=true:=XQ i t
theorem VB(prog:Program)(w:World)(x:Str)(t:Tok):(fW prog w).is (.inr x) (.str x t)=true:=XO x t
inductive V where
 |non|bl (b:Bool)|int (i:Int)|str (x:Str)|byt (b:Array UInt8)|flt (b:UInt64)|ref (a:Addr)|ty (n:String)
 deriving DecidableEq
noncomputable def RelV:V->Value->Prop
 | .non,u=>u=Value.none
 | .bl b,u=>u=Value.bool b
 | .int i,u=>∃t,u=Value.int i t
 | .str x,u=>∃t,u=Value.str x t
 | .byt b,u=>∃t,u=Value.bytes b t
 | .flt b,u=>∃t,u=Value.float b t
 | .ref a,u=>u=Value.ref a
 | .ty n,u=>u=Value.type n
noncomputable abbrev Vals:List V->List Value->Prop:=Paired RelV
theorem Vals.length{xs:List V}{us:List Value}(r:Vals xs us):xs.length=us.length:=Paired.length r
theorem Vals.get:∀{xs:List V}{us:List Value}{i:Nat}{x:V},Vals xs us->xs[i]? =some x->∃u,us[i]? =some u/\RelV x u
 |_,_,_,_,.nil,e=>by simp at e
 |_,_,0,_,.cons r _,e=>by simp at e;subst e;exact⟨_,rfl,r⟩
 |_,_,i+1,x,.cons _ t,e=>by
  obtain⟨u,h1,h2⟩:=Vals.get (i:=i) (x:=x) t (by simpa using e)
  exact⟨u,by simpa using h1,h2⟩
theorem Vals.set{x:V}{u:Value}(r:RelV x u):∀{xs:List V}{us:List Value}(i:Nat),Vals xs us->Vals (xs.set i x) (us.set i u)
 |_,_,_,.nil=>.nil
 |_,_,0,.cons _ t=>.cons r t
 |_,_,i+1,.cons q t=>.cons q (Vals.set r i t)
theorem Vals.append:∀{xs ys:List V}{us ws:List Value},Vals xs us->Vals ys ws->Vals (xs++ys) (us++ws)
 |_,_,_,_,.nil,s=>s
 |_,_,_,_,.cons r t,s=>.cons r (Vals.append t s)
theorem Vals.take:∀{xs:List V}{us:List Value}(n:Nat),Vals xs us->Vals (xs.take n) (us.take n)
 |_,_,0,_=>.nil
 |_,_,_+1,.nil=>.nil
 |_,_,n+1,.cons r t=>.cons r (Vals.take n t)
theorem Vals.drop:∀{xs:List V}{us:List Value}(n:Nat),Vals xs us->Vals (xs.drop n) (us.drop n)
 |_,_,0,r=>r
 |_,_,_+1,.nil=>.nil
 |_,_,n+1,.cons _ t=>Vals.drop n t
theorem Vals.none_of:∀{xs:List V}{us:List Value}{i:Nat},Vals xs us->xs[i]? =none->us[i]? =none:=λ{xs us i}r e=>by
 have h1:=r.length
 have h2:xs.length<=i:=List.getElem?_eq_none_iff.mp e
 exact List.getElem?_eq_none_iff.mpr (by lia)
noncomputable def RelO:Option V->Option Value->Prop
 |some v,some u=>RelV v u
 |none,none=>True
 |_,_=>False
noncomputable def KV{κ:Type}:List (κ×V)->List (κ×Value)->Prop:=Paired λ(p:κ×V)(q:κ×Value)=>p.1=q.1/\RelV p.2 q.2
noncomputable def kV:aG->V
 | .inl i=>.int i
 | .inr x=>.str x
inductive HO where
 |lst (xs:List V)
 |tup (xs:List V)
 |dK (kvs:List (aG×V))|dT (kvs:List (List aG×V))
 |set (S:Int->Bool) (n:Nat)
 |ins (C dx:Addr) (fs:List (Str×V))
 |own (x:Addr)
 |xd (fs:List (Str×V))
 |met (f x:Addr)
 |rng (lo hi:Int)
 |frz (o:Obj) (u:HO)
 |tbl (ps:Array Value)
 |ext (φ:Heap->Prop)
noncomputable abbrev Hp:=Addr->Option HO
noncomputable def upd(H:Hp)(a:Addr)(o:HO):Hp:=λb=>if b=a then some o else H b
theorem aB{H:Hp}{a:Addr}{o:HO}:upd H a o a=some o:=by unfold upd;rw[if_pos rfl]
theorem aE{H:Hp}{a b:Addr}{o:HO}(h:b≠a):upd H a o b=H b:=by unfold upd;rw[if_neg h]
theorem M7{H:Hp}{a:Addr}{o u:HO}:upd (upd H a o) a u=upd H a u:=by
 funext b;unfold upd;split <;> rfl
theorem dB{H:Hp}{a b:Addr}{o u:HO}(h:H a=some o)(h':H b=some u)(d:o≠u):a≠b:=by
 intro e;subst e;rw[h]at h';exact d (Option.some.inj h')
theorem aI{H:Hp}{a b:Addr}{o:HO}(h:H a=some o)(h':H b=none):a≠b:=by
 intro e;subst e;rw[h]at h';cases h'
noncomputable def IsTupN(h:Heap)(a:Addr)(items:Array Value):Prop:=IsTup h a items/\∃o,h.get? a=some o/\o.dict=none
theorem IsTupN.new(h:Heap)(items:Array Value):IsTupN (h.push { cls:=.type "tuple",data:=.seq items }) h.objs.size items:=⟨IsTup.new h items,_,Heap.get?_push_size _ rfl,rfl⟩
section
variable(P:Program)(w:World)
noncomputable def ObjOk(H:Hp)(h:Heap)(a:Addr):HO->Prop
 | .lst xs=>xs.length<=sizeLine/\∃(its:List Value)(n:Nat),Vals xs its/\h.get? a=some { cls:=.type "list",data:=.seq its.toArray n }
 | .tup xs=>xs.length<=sizeLine/\∃its:List Value,Vals xs its/\IsTupN h a its.toArray
 | .dK kvs=>kvs.length<=sizeLine/\(a==sysModules)=false/\∃vs,KV kvs vs/\h.DictOf (fW P w) a vs
 | .dT kvs=>kvs.length<=sizeLine/\(a==sysModules)=false/\∃xs:List (List aG×Addr×Value),
   Paired (λ(p:List aG×V)(q:List aG×Addr×Value)=>p.1=q.1/\H q.2.1=some (.tup (p.1.map kV))/\RelV p.2 q.2.2) kvs xs/\
   ∃o es ep,h.get? a=some o/\o.ExactDict/\o.data=.dict es ep/\es.toList=xs.map (entryOfKey (tupleKind (fW P w)))/\(xs.map (·.1)).Nodup
 | .set S n=>h.SetOf (intKind P w) a S n
 | .ins C dx fs=>H dx=some (.own a)/\fs.length<=1000/\dx≠a/\h.get? a=some (PySem.W.instObj C dx)/\
   ∃mA,h.Ns1 dx mA/\(∀f,RelO (fs.lookup f) (mA f))/\PySem.Within mA (fs.map (·.1))
 | .own _=>∃o,h.get? a=some o
 | .xd fs=>∃mA,h.Ns1 a mA/\∀f,RelO (fs.lookup f) (mA f)
 | .rng lo hi=>∃t u v,h.get? a=some { cls:=.type "range",data:=.fields #[.int lo t,.int hi u,.int 1 v] }
 | .frz o u=>h.get? a=some o/\ObjOk H h a u
 | .tbl ps=>h.get? a=some { cls:=.none,data:=.fields ps }
 | .met f x=>h.get? a=some (PySem.W.methodObj (.ref f) (.ref x))
 | .ext φ=>φ h/\(∃o,h.get? a=some o)/\∀h1 h2:Heap,φ h1->(∀o,h1.get? a=some o->h2.get? a=some o)->φ h2
noncomputable def HOk(H:Hp)(h:Heap):Prop:=∀a o,H a=some o->ObjOk P w H h a o
end
section
variable{P:Program}{w:World}{H H':Hp}{h h':Heap}{a:Addr}{o:HO}
theorem ObjOk.lt(x:ObjOk P w H h a o):a<h.objs.size:=by
 cases o with
 |lst xs=>obtain⟨_,_,_,_,e⟩:=x;exact Heap.lt_size e
 |tup xs=>obtain⟨_,_,_,p⟩:=x;exact p.1.lt
 |dK kvs=>obtain⟨_,_,_,_,o,_,_,e,_⟩:=x;exact Heap.lt_size e
 |dT kvs=>obtain⟨_,_,_,_,o,_,_,e,_⟩:=x;exact Heap.lt_size e
 |set S n=>obtain⟨o,_,_,_,e,_⟩:=x;exact Heap.lt_size e
 |ins C dx fs=>obtain⟨_,_,_,e,_⟩:=x;exact Heap.lt_size e
 |own y=>obtain⟨_,e⟩:=x;exact Heap.lt_size e
 |xd fs=>obtain⟨_,⟨_,_,_,e,_⟩,_⟩:=x;exact Heap.lt_size e
 |rng lo hi=>obtain⟨_,_,_,e⟩:=x;exact Heap.lt_size e
 |frz ob u=>obtain⟨e,_⟩:=x;exact Heap.lt_size e
 |tbl ps=>exact Heap.lt_size (show h.get? a=some _ from x)
 |met f y=>exact Heap.lt_size (show h.get? a=some _ from x)
 |ext φ=>obtain⟨_,⟨_,e⟩,_⟩:=x;exact Heap.lt_size e
theorem Paired.mapP{α β:Type}{F G:α->β->Prop}:∀{l₁:List α}{l₂:List β},Paired F l₁ l₂->(∀a b,F a b->G a b)->Paired G l₁ l₂
 |_,_,.nil,_=>.nil
 |_,_,.cons r t,f=>.cons (f _ _ r) (Paired.mapP t f)
theorem ObjOk.stay(x:ObjOk P w H h a o)(k:∀b u,(b=a\/H b=some (.own a))->h.get? b=some u->h'.get? b=some u)
  (ho:∀b,H b=some (.own a)->H' b=some (.own a)) (ht:∀b xs,H b=some (.tup xs)->H' b=some (.tup xs)):ObjOk P w H' h' a o:=by
 induction o with
 |lst xs=>obtain⟨z,its,n,r,e⟩:=x;exact⟨z,its,n,r,k _ _ (.inl rfl) e⟩
 |tup xs=>obtain⟨z,its,r,⟨ob,e,c⟩,ob2,e2,c2⟩:=x;exact⟨z,its,r,⟨ob,k _ _ (.inl rfl) e,c⟩,ob2,k _ _ (.inl rfl) e2,c2⟩
 |dK kvs=>obtain⟨z,y,vs,r,ob,es,ep,e,c⟩:=x;exact⟨z,y,vs,r,ob,es,ep,k _ _ (.inl rfl) e,c⟩
 |dT kvs=>
  obtain⟨z,y,xs,r,ob,es,ep,e,c⟩:=x
  exact⟨z,y,xs,Paired.mapP r λp q z=>⟨z.1,ht _ _ z.2.1,z.2.2⟩,ob,es,ep,k _ _ (.inl rfl) e,c⟩
 |set S n=>obtain⟨ob,es,ep,t,e,c⟩:=x;exact⟨ob,es,ep,t,k _ _ (.inl rfl) e,c⟩
 |ins C dx fs=>
  obtain⟨d,z,ne,e,mA,⟨od,es,ep,e2,c⟩,r⟩:=x
  exact⟨ho _ d,z,ne,k _ _ (.inl rfl) e,mA,⟨od,es,ep,k _ _ (.inr d) e2,c⟩,r⟩
 |own y=>obtain⟨ob,e⟩:=x;exact⟨ob,k _ _ (.inl rfl) e⟩
 |xd fs=>obtain⟨mA,⟨od,es,ep,e,c⟩,r⟩:=x;exact⟨mA,⟨od,es,ep,k _ _ (.inl rfl) e,c⟩,r⟩
 |rng lo hi=>obtain⟨t,u,v,e⟩:=x;exact⟨t,u,v,k _ _ (.inl rfl) e⟩
 |frz ob u ih=>obtain⟨e,q⟩:=x;exact⟨k _ _ (.inl rfl) e,ih q⟩
 |tbl ps=>
  have e:h.get? a=some { cls:=.none,data:=.fields ps }:=x
  show h'.get? a=some { cls:=.none,data:=.fields ps }
  exact k a _ (.inl rfl) e
 |met f y=>
  have e:h.get? a=some (PySem.W.methodObj (.ref f) (.ref y)):=x
  show h'.get? a=some (PySem.W.methodObj (.ref f) (.ref y))
  exact k a _ (.inl rfl) e
 |ext φ=>obtain⟨p,⟨o,e⟩,st⟩:=x;exact⟨st _ _ p λo q=>k _ _ (.inl rfl) q,⟨o,k _ _ (.inl rfl) e⟩,st⟩
theorem HOk.lt(x:HOk P w H h)(e:H a=some o):a<h.objs.size:=(x a o e).lt
theorem HOk.fresh(x:HOk P w H h)(e:h.objs.size<=a):H a=none:=by
 cases q:H a with
 |none=>rfl
 |some u=>exact absurd (Nat.lt_of_lt_of_le (x.lt q) e) (Nat.lt_irrefl _)
theorem HOk.kept(x:HOk P w H h)(k:∀b u,h.get? b=some u->h'.get? b=some u):HOk P w H h':=λa o e=>
 (x a o e).stay (λb u _ q=>k b u q) (λ_ q=>q) λ_ _ q=>q
theorem HOk.laid(x:HOk P w H h)(k:∀b u,h.get? b=some u->h'.get? b=some u)(hp:h.objs.size<=a)(new:ObjOk P w (upd H a o) h' a o):HOk P w (upd H a o) h':=λb u e=>by
 have hn:=x.fresh hp
 by_cases hb:b=a
 ·subst hb;rw[aB]at e;cases e;exact new
 ·rw[aE hb]at e
  exact(x b u e).stay (λc v _ q=>k c v q) (λc q=>by rw[aE (aI q hn)];exact q) λc xs q=>by rw[aE (aI q hn)];exact q
end
noncomputable def Rd(H:Hp)(a:Addr)(u:HO):Prop:=H a=some u\/∃o,H a=some (.frz o u)
theorem Rd.of{H:Hp}{a:Addr}{u:HO}(h:H a=some u):Rd H a u:=.inl h
theorem Rd.ok{P:Program}{w:World}{H:Hp}{h:Heap}{a:Addr}{u:HO}(r:Rd H a u)(x:HOk P w H h):ObjOk P w H h a u:=by
 rcases r with r|⟨o,r⟩
 ·exact x a u r
 ·obtain⟨_,q⟩:=x a _ r
  exact q
noncomputable def nQ:Option HO->Prop
 |some (.lst _)=>True
 |some (.dK _)=>True
 |some (.dT _)=>True
 |some (.set _ _)=>True
 |some (.ins _ _ _)=>True
 |some (.ext _)=>True
 |_=>False
section
variable{P:Program}{w:World}{H:Hp}{h h':Heap}{x e:Addr}{o':HO}
theorem HOk.write(ok:HOk P w H h)(mu:nQ (H x))(he:e=x\/H e=some (.own x))(k:∀b u,b≠e->h.get? b=some u->h'.get? b=some u)(heo:∃u,h'.get? e=some u)
  (new:ObjOk P w (upd H x o') h' x o'):HOk P w (upd H x o') h':=λb u q=>by
 have nown:∀c y,H c=some (.own y)->c≠x:=λc y r z=>by subst z;rw[r]at mu;exact mu
 have ntup:∀c xs,H c=some (.tup xs)->c≠x:=λc xs r z=>by subst z;rw[r]at mu;exact mu
 by_cases hb:b=x
 ·subst hb;rw[aB]at q;cases q;exact new
 ·rw[aE hb]at q
  by_cases hbe:b=e
  ·have q':H b=some (.own x):=by
    rcases he with z|z
    ·exact absurd (hbe.trans z) hb
    ·rw[hbe];exact z
   rw[q]at q';cases q'
   obtain⟨v,hv⟩:=heo
   exact⟨v,by rw[hbe];exact hv⟩
  ·refine(ok b u q).stay (λc v hc r=>k c v ?_ r) (λc r=>by rw[aE (nown c b r)];exact r) λc xs r=>by rw[aE (ntup c xs r)];exact r
   rcases hc with rfl|hc
   ·exact hbe
   ·rintro rfl
    rcases he with z|z
    ·exact nown c b hc z
    ·rw[hc]at z;cases z;exact hb rfl
end
structure Un (fs ex:List Addr) (H H':Hp) (h h':Heap):Prop where
 keep:∀b o,h.get? b=some o->H b=none->b∉fs->b∉ex->h'.get? b=some o
 slot:∀b o,h.get? b=some o->H b=none->b∈fs->b∉ex->∃sl,h'.get? b=some { o with slots:=sl }
 free:∀b o,h.get? b=some o->H b=none->b∉ex->H' b=none
 there:∀b o,h.get? b=some o->b∉ex->∃o',h'.get? b=some o'
 tups:∀b xs,H b=some (.tup xs)->H' b=some (.tup xs)
 frzs:∀b o u,H b=some (.frz o u)->H' b=some (.frz o u)
 tbls:∀b ps,H b=some (.tbl ps)->∃more,H' b=some (.tbl (ps++more))
section
variable{fs fs' ex ex':List Addr}{H H1 H2:Hp}{h h1 h2 h':Heap}{a x e:Addr}{o:HO}
theorem Un.any(u:Un fs ex H H1 h h1){b:Addr}{ob:Obj}(q:h.get? b=some ob)(n:H b=none)(hx:b∉ex):∃sl,h1.get? b=some { ob with slots:=sl }:=by
 by_cases hb:b∈fs
 ·exact u.slot b ob q n hb hx
 ·exact⟨ob.slots,u.keep b ob q n hb hx⟩
theorem Un.trans(a:Un fs ex H H1 h h1)(b:Un fs ex H1 H2 h1 h2):Un fs ex H H2 h h2 where
 keep:=λc ob q n hc hx=>b.keep c ob (a.keep c ob q n hc hx) (a.free c ob q n hx) hc hx
 slot:=λc ob q n hc hx=>by
  obtain⟨sl,e1⟩:=a.slot c ob q n hc hx
  obtain⟨sl',e2⟩:=b.slot c _ e1 (a.free c ob q n hx) hc hx
  exact⟨sl',e2⟩
 free:=λc ob q n hx=>by
  obtain⟨o',e1⟩:=a.there c ob q hx
  exact b.free c o' e1 (a.free c ob q n hx) hx
 there:=λc ob q hx=>by
  obtain⟨o',e1⟩:=a.there c ob q hx
  exact b.there c o' e1 hx
 tups:=λc xs q=>b.tups c xs (a.tups c xs q)
 frzs:=λc ob xs q=>b.frzs c ob xs (a.frzs c ob xs q)
 tbls:=λc ps q=>by
  obtain⟨m1,e1⟩:=a.tbls c ps q
  obtain⟨m2,e2⟩:=b.tbls c _ e1
  exact⟨m1++m2,by rw[e2,Array.append_assoc]⟩
theorem Un.kept(k:∀b u,h.get? b=some u->h'.get? b=some u):Un fs ex H H h h':=
 ⟨λb ob q _ _ _=>k b ob q,λb ob q _ _ _=>⟨ob.slots,k b ob q⟩,λ_ _ _ n _=>n,λb ob q _=>⟨ob,k b ob q⟩,λ_ _ q=>q,λ_ _ _ q=>q,λ_ ps q=>⟨#[],by rw[q];simp⟩⟩
theorem Un.refl:Un fs ex H H h h:=Un.kept λ_ _ q=>q
theorem Un.laid(k:∀b u,h.get? b=some u->h'.get? b=some u)(hp:h.objs.size<=a)(hn:H a=none):Un fs ex H (upd H a o) h h' where
 keep:=λb u q _ _ _=>k b u q
 slot:=λb u q _ _ _=>⟨u.slots,k b u q⟩
 free:=λb u q n _=>by rw[aE (Nat.ne_of_lt (Nat.lt_of_lt_of_le (Heap.lt_size q) hp))];exact n
 there:=λb u q _=>⟨u,k b u q⟩
 tups:=λb xs q=>by rw[aE (aI q hn)];exact q
 frzs:=λb u xs q=>by rw[aE (aI q hn)];exact q
 tbls:=λb ps q=>⟨#[],by rw[aE (aI q hn),q];simp⟩
theorem Un.write(mu:nQ (H x))(he:e=x\/H e=some (.own x))(k:∀b u,b≠e->h.get? b=some u->h'.get? b=some u)(heo:∃u,h'.get? e=some u):Un fs ex H (upd H x o) h h':=by
 have hx:∀b,H b=none->b≠x:=λb n z=>by subst z;rw[n]at mu;exact mu
 have hb:∀b,H b=none->b≠e:=λb n z=>by
  subst z
  rcases he with r|r
  ·exact hx b n r
  ·rw[n]at r;cases r
 have hm:∀b u,H b=some u->¬nQ (some u)->b≠x:=λb u q nm z=>by subst z;rw[q]at mu;exact nm mu
 refine⟨λb u q n _ _=>k b u (hb b n) q,λb u q n _ _=>⟨u.slots,k b u (hb b n) q⟩,λb u q n _=>by rw[aE (hx b n)];exact n,λb u q _=>?_,
  λb xs q=>by rw[aE (hm b _ q λz=>z)];exact q,λb u xs q=>by rw[aE (hm b _ q λz=>z)];exact q,λb ps q=>⟨#[],by rw[aE (hm b _ q λz=>z),q];simp⟩⟩
 by_cases hbe:b=e
 ·subst hbe;exact heo
 ·exact⟨u,k b u hbe q⟩
theorem Un.mono(u:Un fs ex H H1 h h1)(hs:∀b∈fs,b∈fs')(hx:∀b∈ex,b∈ex'):Un fs' ex' H H1 h h1:=
 ⟨λb ob q n hb he=>u.keep b ob q n (λz=>hb (hs b z)) λz=>he (hx b z),λ_ _ q n _ he=>u.any q n λz=>he (hx _ z),λb ob q n he=>u.free b ob q n λz=>he (hx b z),λb ob q he=>u.there b ob q λz=>he (hx b z),u.tups,u.frzs,u.tbls⟩
end
noncomputable def n6(h:Heap)(H:Hp):List Addr:=(range h.objs.size).filter λa=>(H a).isSome
noncomputable def jA(h:Heap)(H:Hp):Heap:=PySem.W.hideAll h (n6 h H)
theorem YK(h:Heap)(H:Hp):(jA h H).objs.size=h.objs.size:=PySem.W.hideAll_size _ _
theorem YL{h:Heap}{H:Hp}{b:Addr}{o:Obj}(e:h.get? b=some o)(n:H b=none):(jA h H).get? b=some o:=
 PySem.W.hideAll_get _ e λhm=>by
  have q:(H b).isSome=true:=(mem_filter.mp hm).2
  rw[n]at q;simp at q
theorem UQ{h:Heap}{H:Hp}{b:Addr}{o:Obj}(e:(jA h H).get? b=some o):h.get? b=some o/\H b=none:=by
 have e':h.get? b=some o:=PySem.W.of_hideAll (n6 h H) e
 refine⟨e',?_⟩
 cases q:H b with
 |none=>rfl
 |some x=>
  have hm:b∈n6 h H:=mem_filter.mpr ⟨mem_range.mpr (Heap.lt_size e'),by simp[q]⟩
  have z:(jA h H).get? b=none:=PySem.W.hideAll_none (n6 h H) hm
  rw[z]at e;cases e
noncomputable def kL(g h:Heap)(L:Addr):List (Addr×Obj):=(range h.objs.size).filterMap λa=>if a=L\/(g.get? a).isSome=true then none else(h.get? a).map λo=>(a,o)
theorem iZ{g h:Heap}{L a:Addr}{o:Obj}(h1:a≠L)(h2:g.get? a=none)(h3:h.get? a=some o):(a,o)∈kL g h L:=
 mem_filterMap.mpr ⟨a,mem_range.mpr (Heap.lt_size h3),by simp[h1,h2,h3]⟩
theorem UP{g h:Heap}{L:Addr}{p:Addr×Obj}(hp:p∈kL g h L):p.1≠L/\g.get? p.1=none/\h.get? p.1=some p.2:=by
 obtain⟨b,_,e⟩:=mem_filterMap.mp hp
 split at e
 ·cases e
 ·rename_i hn
  cases q:h.get? b with
  |none=>rw[q]at e;simp at e
  |some u=>
   rw[q]at e
   simp only[Option.map_some,Option.some.injEq]at e
   subst e
   refine⟨λz=>hn (.inl z),?_,q⟩
   show g.get? b=none
   cases r:g.get? b with
   |none=>rfl
   |some v=>exact(hn (.inr (by simp[r]))).elim
noncomputable def cF(g h:Heap)(L d:Addr):List (Addr×Obj):=(kL g h L).filter λp=>decide (p.1≠d)
theorem xB{g h:Heap}{L:Addr}:News g L h (kL g h L):=λp hp=>let⟨a,b,c⟩:=UP hp;⟨c,a,b⟩
structure Mod (K:PySem.W.Frag) (mg:Str->Option Value) (base:Heap):Prop where
 kin:K.In base
 glob:base.Ns mainGlobals mg
 blt:∃mb,base.Ns builtinsNs mb/\∀x:Str,x≠"__name__"->mb x=bootBuiltins x
 nolimit:base.NoLimit
structure Cx where
 prog:Program
 w:World
 K:PySem.W.Frag
 mg:Str->Option Value
 base:Heap
 A:Around
 N:List Str
 s₀:Shared
 H₀:Hp
 env:Env
 outer:List Env
 stack:List Env
 ex:List Addr
 fn:Str->Bool
 calm:Bool
 pn:List (Addr×Obj)
 xe:Value->Shared->Prop
noncomputable def bE(l:List Env):List Addr:=l.filterMap (·.frame)
noncomputable abbrev Cx.fs(X:Cx):List Addr:=bE X.outer
noncomputable def qU(sc:Scope)(x:Str):Prop:=sc.names.lookup x=some .local\/sc.names.lookup x=some .cell\/sc.names.lookup x=some .free
noncomputable def Loc(sc:Scope)(x:Str):Prop:=sc.names.lookup x=some .local\/sc.names.lookup x=some .cell
noncomputable def Look(env:Env)(h:Heap)(m:Str->Option Value)(x:Str)(u:Value):Prop:=
 (env.kindOf x=some .local/\m x=some u)\/((env.kindOf x=some .cell\/env.kindOf x=some .free)/\∃c,env.cells.lookup x=some c/\h.IsCell c (some u))
structure Cx.Ok (X:Cx):Prop where
 mod:Mod X.K X.mg X.base
 kind:X.env.scope.kind=.function
 glob:X.env.globals=mainGlobals
 blt:X.env.builtins=builtinsNs
 above:X.s₀.heap.objs.size<=X.env.locals
 inj:∀x y c,X.env.cells.lookup x=some c->X.env.cells.lookup y=some c->x=y
 has:∀x,(X.env.kindOf x=some .cell\/X.env.kindOf x=some .free)->∃c,X.env.cells.lookup x=some c
 cab:∀x c,X.fn x=true->X.env.cells.lookup x=some c->X.s₀.heap.objs.size<=c
 hd:X.calm=true->X.A.handled=none
 frames:X.A.frames=some X.stack
 stk:X.stack=X.outer\/(X.stack=X.env::X.outer/\X.env.frame=some X.env.locals)
 exf:∀b∈X.ex,b≠X.env.locals/\∀x c,X.env.cells.lookup x=some c->c≠b
 bs:∀b o,X.base.get? b=some o->X.s₀.heap.get? b=some o/\X.H₀ b=none
 bsz:X.base.objs.size<=X.s₀.heap.objs.size
 noex:∀b o,X.base.get? b=some o->b∉X.ex
 exfs:∀b∈X.ex,b∉X.fs
 funs:X.s₀.heap.FunFrames X.base X.outer
 frf:∀b∈X.fs,X.H₀ b=none
structure Inv (X:Cx) (pins:List (Addr×Obj)) (σ:List (Option V)) (H:Hp) (s:Shared):Prop where
 ok:X.Ok
 os:s.os=X.s₀.os
 bare:AllBare s.gens
 base:Un X.fs X.ex X.H₀ H X.s₀.heap s.heap
 loc:∃m,s.heap.Ns X.env.locals m/\∀(i:Nat)(x:Str)(v:V),X.N[i]? =some x->σ[i]? =some (some v)->qU X.env.scope x->∃u,RelV v u/\Look X.env s.heap m x u
 cell:∀x c,X.env.cells.lookup x=some c->∃v,s.heap.IsCell c v
 free:H X.env.locals=none
 freeC:∀x c,X.env.cells.lookup x=some c->H c=none
 pin:∀p∈X.pn++pins,s.heap.get? p.1=some p.2/\H p.1=none/\p.1≠X.env.locals/\p.1∉X.fs/\∀v,p.2.data≠.cell v
 hok:HOk X.prog X.w H s.heap
 len:σ.length=X.N.length
section
variable{X:Cx}{pins:List (Addr×Obj)}{σ:List (Option V)}{H H':Hp}{s:Shared}{h':Heap}
theorem Cx.Ok.nofr(ok:X.Ok){b:Addr}{o:Obj}(e:X.base.get? b=some o):b∉X.fs:=λhb=>by
 have:=(ok.funs.mem hb).1
 rw[e]at this;cases this
theorem Inv.bs(I:Inv X pins σ H s):∀b o,X.base.get? b=some o->s.heap.get? b=some o/\H b=none:=λb o e=>
 ⟨I.base.keep b o (I.ok.bs b o e).1 (I.ok.bs b o e).2 (I.ok.nofr e) (I.ok.noex b o e),I.base.free b o (I.ok.bs b o e).1 (I.ok.bs b o e).2 (I.ok.noex b o e)⟩
theorem Inv.bk(I:Inv X pins σ H s):∀b o,X.base.get? b=some o->s.heap.get? b=some o:=λb o e=>(I.bs b o e).1
theorem Inv.mod(I:Inv X pins σ H s):Mod X.K X.mg X.base:=I.ok.mod
theorem Inv.kIn(I:Inv X pins σ H s):X.K.In s.heap:=I.ok.mod.kin.keeps I.bk
theorem Inv.nolimit(I:Inv X pins σ H s):s.heap.NoLimit:=I.ok.mod.nolimit.keeps I.bk
theorem Inv.fr(I:Inv X pins σ H s):∃m,Fr X.base X.env.locals s.heap m:=
 let⟨m,hn,_⟩:=I.loc
 ⟨m,hn,I.bk,Nat.le_trans I.ok.bsz I.ok.above⟩
theorem Inv.lt(I:Inv X pins σ H s):X.env.locals<s.heap.objs.size:=let⟨_,hn,_⟩:=I.loc;hn.lt
theorem Inv.sz(I:Inv X pins σ H s):X.s₀.heap.objs.size<=s.heap.objs.size:=Nat.le_trans I.ok.above (Nat.le_of_lt I.lt)
theorem Inv.nofs(I:Inv X pins σ H s){a:Addr}(h:s.heap.objs.size<=a):a∉X.fs:=λhb=>by
 obtain⟨_,o,ho,_⟩:=I.ok.funs.mem hb
 exact absurd (Nat.lt_of_lt_of_le (Heap.lt_size ho) (Nat.le_trans I.sz h)) (Nat.lt_irrefl _)
theorem Inv.cne(I:Inv X pins σ H s):∀x c,X.env.cells.lookup x=some c->c≠X.env.locals:=λx c e z=>by
 obtain⟨v,o,ho,hd⟩:=I.cell x c e
 obtain⟨m,⟨o',es,ep,ho',hd',_⟩,_⟩:=I.loc
 rw[z,ho']at ho;cases ho;rw[hd']at hd;cases hd
theorem Inv.funs(I:Inv X pins σ H s):s.heap.FunFrames X.base X.outer:=by
 have all:∀(l:List Env),(∀b∈bE l,b∈X.fs)->X.s₀.heap.FunFrames X.base l->s.heap.FunFrames X.base l:=by
  intro l
  induction l with
  |nil=>intro _ _;trivial
  |cons env r ih=>
   intro hs hl
   obtain⟨hk,⟨L,o,hf,hn,ho,hd⟩,hr⟩:=hl
   have hL:L∈X.fs:=hs L (by unfold bE;rw[filterMap_cons,hf];exact mem_cons_self)
   obtain⟨sl,e⟩:=I.base.slot L o ho (I.ok.frf L hL) hL λz=>I.ok.exfs L z hL
   exact⟨hk,⟨L,_,hf,hn,e,hd⟩,ih (λb hb=>hs b (by unfold bE;rw[filterMap_cons,hf];exact mem_cons_of_mem _ hb)) hr⟩
 exact all X.outer (λ_ hb=>hb) I.ok.funs
theorem Inv.stack(I:Inv X pins σ H s):s.heap.FunFrames X.base X.stack:=by
 rcases I.ok.stk with e|⟨e,hf⟩
 ·rw[e];exact I.funs
 ·rw[e]
  obtain⟨m,hn,_⟩:=I.loc
  refine .cons (by rw[I.ok.kind];decide) hf hn ?_ I.funs
  exact Heap.get?_none_of_le (Nat.le_trans I.ok.bsz I.ok.above)
theorem Inv.stkSub(I:Inv X pins σ H s):∀b∈bE X.stack,b∈X.env.locals::X.fs:=λb hb=>by
 rcases I.ok.stk with e|⟨e,hf⟩
 ·rw[e]at hb;exact mem_cons_of_mem _ hb
 ·rw[e]at hb
  unfold bE at hb
  rw[filterMap_cons,hf]at hb
  exact hb
theorem Inv.stkFree(I:Inv X pins σ H s):∀b∈bE X.stack,H b=none:=λb hb=>by
 rcases mem_cons.mp (I.stkSub b hb) with e|hb
 ·rw[e];exact I.free
 ·obtain⟨_,o,ho,_⟩:=I.ok.funs.mem hb
  exact I.base.free b o ho (I.ok.frf b hb) λz=>I.ok.exfs b z hb
theorem Inv.step{g':Array GenState}{t':Nat}{d':Drawn}{ch:List Addr}(I:Inv X pins σ H s)
  (hch:∀b∈ch,(b∈X.ex\/X.s₀.heap.objs.size<=b)/\b≠X.env.locals/\(∀x c,X.env.cells.lookup x=some c->c≠b)/\∀p∈X.pn++pins,p.1≠b)
  (keep:∀b o,b≠X.env.locals->b∉X.fs->b∉ch->s.heap.get? b=some o->H b=none->h'.get? b=some o)
  (slot:∀b o,b≠X.env.locals->b∈X.fs->b∉ch->s.heap.get? b=some o->H b=none->∃sl,h'.get? b=some { o with slots:=sl }) (free:∀b o,b∉ch->s.heap.get? b=some o->H b=none->H' b=none)
  (there:∀b o,b∉ch->s.heap.get? b=some o->∃o',h'.get? b=some o')
  (tups:∀b xs,H b=some (.tup xs)->H' b=some (.tup xs)) (frzs:∀b o u,H b=some (.frz o u)->H' b=some (.frz o u)) (tbls:∀b ps,H b=some (.tbl ps)->∃more,H' b=some (.tbl (ps++more)))
  (ns:∀m,s.heap.Ns X.env.locals m->h'.Ns X.env.locals m) (hok:HOk X.prog X.w H' h') (hg:AllBare g'):
  Inv X pins σ H' { s with heap:=h',gens:=g',drawn:=d',toks:=t' }:=by
 have neL:∀b o,X.s₀.heap.get? b=some o->b≠X.env.locals:=λb o e=>Nat.ne_of_lt (Nat.lt_of_lt_of_le (Heap.lt_size e) I.ok.above)
 have neC:∀b o,X.s₀.heap.get? b=some o->b∉X.ex->b∉ch:=λb o e hx hb=>by
  rcases(hch b hb).1 with z|z
  ·exact hx z
  ·exact absurd (Nat.lt_of_lt_of_le (Heap.lt_size e) z) (Nat.lt_irrefl _)
 have cellK:∀x c,X.env.cells.lookup x=some c->∀v,s.heap.IsCell c v->h'.IsCell c v:=λx c e v⟨o,ho,hd⟩=>by
  have nch:c∉ch:=λz=>(hch c z).2.2.1 x c e rfl
  by_cases hc:c∈X.fs
  ·obtain⟨sl,q⟩:=slot c o (I.cne x c e) hc nch ho (I.freeC x c e)
   exact⟨_,q,hd⟩
  ·exact⟨o,keep c o (I.cne x c e) hc nch ho (I.freeC x c e),hd⟩
 refine⟨I.ok,I.os,hg,⟨λb o e n hb hx=>?_,λb o e n hb hx=>?_,λb o e n hx=>?_,λb o e hx=>?_,λb xs e=>tups b xs (I.base.tups b xs e),λb o xs e=>frzs b o xs (I.base.frzs b o xs e),λb ps e=>?_⟩,?_,λx c e=>?_,?_,λx c e=>?_,λp hp=>?_,hok,I.len⟩
 ·exact keep b o (neL b o e) hb (neC b o e hx) (I.base.keep b o e n hb hx) (I.base.free b o e n hx)
 ·obtain⟨sl,e1⟩:=I.base.slot b o e n hb hx
  obtain⟨sl',e2⟩:=slot b _ (neL b o e) hb (neC b o e hx) e1 (I.base.free b o e n hx)
  exact⟨sl',e2⟩
 ·obtain⟨o',e1⟩:=I.base.there b o e hx
  exact free b o' (neC b o e hx) e1 (I.base.free b o e n hx)
 ·obtain⟨o',e1⟩:=I.base.there b o e hx
  exact there b o' (neC b o e hx) e1
 ·obtain⟨m1,e1⟩:=I.base.tbls b ps e
  obtain⟨m2,e2⟩:=tbls b _ e1
  exact⟨m1++m2,by rw[e2,Array.append_assoc]⟩
 ·obtain⟨m,hn,hl⟩:=I.loc
  refine⟨m,ns m hn,λi x v e1 e2 e3=>?_⟩
  obtain⟨u,r,l⟩:=hl i x v e1 e2 e3
  refine⟨u,r,?_⟩
  rcases l with l|⟨k,c,e,z⟩
  ·exact .inl l
  ·exact .inr ⟨k,c,e,cellK x c e _ z⟩
 ·obtain⟨v,z⟩:=I.cell x c e
  exact⟨v,cellK x c e v z⟩
 ·obtain⟨m,⟨o,_,_,ho,_⟩,_⟩:=I.loc
  exact free _ o (λz=>(hch _ z).2.1 rfl) ho I.free
 ·obtain⟨v,o,ho,hd⟩:=I.cell x c e
  exact free c o (λz=>(hch c z).2.2.1 x c e rfl) ho (I.freeC x c e)
 ·obtain⟨e,n,ne,nf,d⟩:=I.pin p hp
  have nch:p.1∉ch:=λz=>(hch p.1 z).2.2.2 p hp rfl
  exact⟨keep p.1 p.2 ne nf nch e n,free p.1 p.2 nch e n,ne,nf,d⟩
theorem Inv.un{t':Nat}(I:Inv X pins σ H s)(u:Un X.fs [] H H' s.heap h')(hok:HOk X.prog X.w H' h'):Inv X pins σ H' { s with heap:=h',toks:=t' }:=by
 obtain⟨m,⟨o,es,ep,ho,r⟩,_⟩:=id I.loc
 obtain⟨sl,hL⟩:=u.any ho I.free (by simp)
 exact I.step (g':=s.gens) (d':=s.drawn) (ch:=[]) (λ_ z=>nomatch z) (λb o _ hb _ e n=>u.keep b o e n hb (by simp)) (λb o _ hb _ e n=>u.slot b o e n hb (by simp)) (λb o _ e n=>u.free b o e n (by simp)) (λb o _ e=>u.there b o e (by simp)) u.tups u.frzs u.tbls (λm' hm=>by
  obtain⟨o',es',ep',ho',r'⟩:=hm
  rw[ho]at ho';cases ho'
  exact⟨_,es',ep',hL,r'⟩) hok I.bare
theorem Inv.call{g':Array GenState}{t':Nat}{d':Drawn}{ch:List Addr}(I:Inv X pins σ H s)(u:Un (bE X.stack) ch H H' s.heap h')(hok:HOk X.prog X.w H' h')(hg:AllBare g')
  (hch:∀b∈ch,(b∈X.ex\/X.s₀.heap.objs.size<=b)/\b≠X.env.locals/\(∀x c,X.env.cells.lookup x=some c->c≠b)/\∀p∈X.pn++pins,p.1≠b):
  Inv X pins σ H' { s with heap:=h',gens:=g',drawn:=d',toks:=t' }:=by
 obtain⟨m,⟨o,es,ep,ho,r⟩,_⟩:=id I.loc
 obtain⟨sl,hL⟩:=u.any ho I.free λz=>(hch _ z).2.1 rfl
 exact I.step (ch:=ch) hch (λb o hL hb hc e n=>u.keep b o e n (λz=>(mem_cons.mp (I.stkSub b z)).elim hL hb) hc) (λb o _ _ hc e n=>u.any e n hc) (λb o hc e n=>u.free b o e n hc) (λb o hc e=>u.there b o e hc) u.tups u.frzs u.tbls (λm' hm=>by
  obtain⟨o',es',ep',ho',r'⟩:=hm
  rw[ho]at ho';cases ho'
  exact⟨_,es',ep',hL,r'⟩) hok hg
theorem Inv.turned{t':Nat}{it:Addr}(I:Inv X pins σ H s)(k:∀b o,b≠it->s.heap.get? b=some o->h'.get? b=some o)(hn:H it=none)(hL:it≠X.env.locals)
  (h1:it∈X.ex\/X.s₀.heap.objs.size<=it) (h2:∀x c,X.env.cells.lookup x=some c->c≠it) (h3:∀p∈X.pn++pins,p.1≠it):Inv X pins σ H { s with heap:=h',toks:=t' }:=by
 have nit:∀b u,H b=some u->b≠it:=λb u e z=>by rw[z,hn]at e;cases e
 refine I.step (g':=s.gens) (d':=s.drawn) (ch:=[it]) (λb hb=>?_) (λb o _ _ hc e _=>k b o (λz=>hc (by simp[z])) e) (λb o _ _ hc e _=>⟨o.slots,k b o (λz=>hc (by simp[z])) e⟩) (λ_ _ _ _ n=>n)
  (λb o hc e=>⟨o,k b o (λz=>hc (by simp[z])) e⟩) (λ_ _ e=>e) (λ_ _ _ e=>e) (λb ps e=>⟨#[],by rw[e];simp⟩) (λm hm=>?_) (λb u e=>?_) I.bare
 ·have e:b=it:=by simpa using hb
  subst e
  exact⟨h1,hL,h2,h3⟩
 ·obtain⟨o,es,ep,ho,r⟩:=hm
  exact⟨o,es,ep,k _ o (Ne.symm hL) ho,r⟩
 ·refine(I.hok b u e).stay (λc v hc q=>k c v ?_ q) (λ_ q=>q) λ_ _ q=>q
  rcases hc with z|z
  ·rw[z];exact nit b u e
  ·exact nit c _ z
theorem Inv.tok(I:Inv X pins σ H s)(t:Nat):Inv X pins σ H { s with toks:=t }:=I.un (h':=s.heap) (t':=t) Un.refl I.hok
theorem Inv.kept{t':Nat}(I:Inv X pins σ H s)(k:∀b u,s.heap.get? b=some u->h'.get? b=some u):Inv X pins σ H { s with heap:=h',toks:=t' }:=I.un (Un.kept k) (I.hok.kept k)
theorem Inv.laid{a:Addr}{o:HO}{t':Nat}(I:Inv X pins σ H s)(k:∀b u,s.heap.get? b=some u->h'.get? b=some u)(hp:s.heap.objs.size<=a)(new:ObjOk X.prog X.w (upd H a o) h' a o):
  Inv X pins σ (upd H a o) { s with heap:=h',toks:=t' }:=I.un (Un.laid k hp (I.hok.fresh hp)) (I.hok.laid k hp new)
theorem Inv.write{x e:Addr}{o:HO}{t':Nat}(I:Inv X pins σ H s)(mu:nQ (H x))(he:e=x\/H e=some (.own x))(k:∀b u,b≠e->s.heap.get? b=some u->h'.get? b=some u)(heo:∃u,h'.get? e=some u)
  (new:ObjOk X.prog X.w (upd H x o) h' x o):Inv X pins σ (upd H x o) { s with heap:=h',toks:=t' }:=I.un (Un.write mu he k heo) (I.hok.write mu he k heo new)
theorem Inv.weak{σ':List (Option V)}(I:Inv X pins σ H s)(hl:σ'.length=σ.length)(w:∀(i:Nat)v,σ'[i]? =some (some v)->σ[i]? =some (some v)):Inv X pins σ' H s:=
 ⟨I.ok,I.os,I.bare,I.base,let⟨m,hn,hl'⟩:=I.loc;⟨m,hn,λi x v e1 e2 e3=>hl' i x v e1 (w i v e2) e3⟩,I.cell,I.free,I.freeC,I.pin,I.hok,hl.trans I.len⟩
theorem Inv.pins_of{pins':List (Addr×Obj)}(I:Inv X pins σ H s)(h:∀p∈pins',s.heap.get? p.1=some p.2/\H p.1=none/\p.1≠X.env.locals/\p.1∉X.fs/\∀v,p.2.data≠.cell v):Inv X pins' σ H s:=
 ⟨I.ok,I.os,I.bare,I.base,I.loc,I.cell,I.free,I.freeC,λp hp=>(mem_append.mp hp).elim (λz=>I.pin p (mem_append_left _ z)) (h p),I.hok,I.len⟩
theorem w4{N:List Str}(hN:N.Nodup){i j:Nat}{x:Str}(a:N[i]? =some x)(b:N[j]? =some x):i=j:=by
 obtain⟨h1,e1⟩:=List.getElem?_eq_some_iff.mp a
 obtain⟨h2,e2⟩:=List.getElem?_eq_some_iff.mp b
 exact(getElem_inj hN).mp (e1.trans e2.symm)
theorem DS{M:Model}{A:Around}{E:Value->Shared->Prop}{i:Nat}{x:Str}{v:V}{u:Value}{Q:Unit->Shared->Prop}(I:Inv X pins σ H s)(hN:X.N.Nodup)(hi:X.N[i]? =some x)(hx:Loc X.env.scope x)(r:RelV v u)
  (h:∀s',Inv X pins (σ.set i (some v)) H s'->(∃a,Heap.SameBut a s.heap s'.heap/\(a=X.env.locals\/X.env.cells.lookup x=some a))->Q () s') (hf:X.fn x=true\/X.env.scope.names.lookup x=some .local:=by first|exact .inl rfl|exact .inr rfl|assumption):wpAny M A (storeName X.env x u) Q E s:=by
 obtain⟨m,hn,hl⟩:=id I.loc
 have hcls:(X.env.scope.kind==.class||(X.env.scope.kind==.module&&X.env.locals != X.env.globals))=false:=by rw[I.ok.kind];rfl
 have hiσ:i<σ.length:=by rw[I.len];exact(List.getElem?_eq_some_iff.mp hi).1
 have cne:=I.cne
 have tracked:∀{a:Addr}{h':Heap},(∃o,s.heap.get? a=some o/\H a=none)->Heap.SameBut a s.heap h'->HOk X.prog X.w H h':=λ{a h'}ha hs b ob e=>by
  obtain⟨_,_,hfree⟩:=ha
  refine(I.hok b ob e).stay (λc w' hc q=>(hs.2 c ?_).trans q) (λ_ q=>q) λ_ _ q=>q
  rintro rfl
  rcases hc with rfl|hc
  ·rw[hfree]at e;cases e
  ·rw[hfree]at hc;cases hc
 rcases hx with hk|hk
 ·refine wpAny_storeName_local hk hn (λh' hn' hs=>?_) hcls
  obtain⟨oL,_,_,hoL,_⟩:=id hn
  refine h _ ⟨I.ok,I.os,I.bare,⟨λb o e n hb hx=>?_,λb o e n hb hx=>?_,I.base.free,λb o e hx=>?_,I.base.tups,I.base.frzs,I.base.tbls⟩,⟨_,hn',λj y v' e1 e2 e3=>?_⟩,λy c e=>?_,I.free,I.freeC,λp hp=>?_,tracked ⟨oL,hoL,I.free⟩ hs,by simpa using I.len⟩ ⟨_,hs,.inl rfl⟩
  ·exact(hs.2 b (Nat.ne_of_lt (Nat.lt_of_lt_of_le (Heap.lt_size e) I.ok.above))).trans (I.base.keep b o e n hb hx)
  ·obtain⟨sl,e1⟩:=I.base.slot b o e n hb hx
   exact⟨sl,(hs.2 b (Nat.ne_of_lt (Nat.lt_of_lt_of_le (Heap.lt_size e) I.ok.above))).trans e1⟩
  ·obtain⟨o',e1⟩:=I.base.there b o e hx
   exact⟨o',(hs.2 b (Nat.ne_of_lt (Nat.lt_of_lt_of_le (Heap.lt_size e) I.ok.above))).trans e1⟩
  ·by_cases hj:j=i
   ·subst hj
    rw[hi]at e1;cases e1
    rw[List.getElem?_set_self hiσ]at e2
    cases e2
    exact⟨u,r,.inl ⟨hk,by simp⟩⟩
   ·rw[List.getElem?_set_ne (Ne.symm hj)]at e2
    obtain⟨u',r',q⟩:=hl j y v' e1 e2 e3
    refine⟨u',r',?_⟩
    rcases q with⟨k,e⟩|⟨k,c,e,z⟩
    ·refine .inl ⟨k,?_⟩
     have:y≠x:=λe=>hj (w4 hN e1 (e▸hi))
     simp[this,e]
    ·exact .inr ⟨k,c,e,z.sameBut hs (cne y c e)⟩
  ·obtain⟨w',z⟩:=I.cell y c e
   exact⟨w',z.sameBut hs (cne y c e)⟩
  ·obtain⟨e,n,ne,nf,d⟩:=I.pin p hp
   exact⟨(hs.2 p.1 ne).trans e,n,ne,nf,d⟩
 ·have hfn:X.fn x=true:=by
   rcases hf with z|z
   ·exact z
   ·rw[z]at hk;cases hk
  obtain⟨c,hc⟩:=I.ok.has x (.inl hk)
  obtain⟨w',z⟩:=I.cell x c hc
  refine wpAny_storeName_cell I.ok.kind hk hc z (λh' hc' hs=>?_)
  obtain⟨oc,hoc,hocd⟩:=id z
  refine h { s with heap:=h' } ⟨I.ok,I.os,I.bare,⟨λb o e n hb hx=>?_,λb o e n hb hx=>?_,I.base.free,λb o e hx=>?_,I.base.tups,I.base.frzs,I.base.tbls⟩,⟨m,hn.sameBut hs (Ne.symm (cne x c hc)),λj y v' e1 e2 e3=>?_⟩,λy c' e=>?_,I.free,I.freeC,λp hp=>?_,tracked ⟨oc,hoc,I.freeC x c hc⟩ hs,by simpa using I.len⟩ ⟨c,hs,.inr hc⟩
  ·exact(hs.2 b (Nat.ne_of_lt (Nat.lt_of_lt_of_le (Heap.lt_size e) (I.ok.cab x c hfn hc)))).trans (I.base.keep b o e n hb hx)
  ·obtain⟨sl,e1⟩:=I.base.slot b o e n hb hx
   exact⟨sl,(hs.2 b (Nat.ne_of_lt (Nat.lt_of_lt_of_le (Heap.lt_size e) (I.ok.cab x c hfn hc)))).trans e1⟩
  ·obtain⟨o',e1⟩:=I.base.there b o e hx
   exact⟨o',(hs.2 b (Nat.ne_of_lt (Nat.lt_of_lt_of_le (Heap.lt_size e) (I.ok.cab x c hfn hc)))).trans e1⟩
  ·by_cases hj:j=i
   ·subst hj
    rw[hi]at e1;cases e1
    rw[List.getElem?_set_self hiσ]at e2
    cases e2
    exact⟨u,r,.inr ⟨.inl hk,c,hc,hc'⟩⟩
   ·rw[List.getElem?_set_ne (Ne.symm hj)]at e2
    obtain⟨u',r',q⟩:=hl j y v' e1 e2 e3
    refine⟨u',r',?_⟩
    rcases q with q|⟨k,c',e,z'⟩
    ·exact .inl q
    ·refine .inr ⟨k,c',e,z'.sameBut hs ?_⟩
     rintro rfl
     exact hj (w4 hN e1 (I.ok.inj _ _ _ e hc▸hi))
  ·by_cases hcc:c'=c
   ·subst hcc;exact⟨_,hc'⟩
   ·obtain⟨w2,z2⟩:=I.cell y c' e
    exact⟨w2,z2.sameBut hs hcc⟩
  ·obtain⟨e,n,ne,nf,d⟩:=I.pin p hp
   refine⟨(hs.2 p.1 ?_).trans e,n,ne,nf,d⟩
   intro q
   rw[q,hoc]at e
   have q':oc=p.2:=Option.some.inj e
   exact d w' (by rw[<-q'];exact hocd)
theorem sJ{M:Model}{A:Around}{E:Value->Shared->Prop}{i:Nat}{x:Str}{v:V}{u:Value}{Q:Unit->Shared->Prop}(I:Inv X pins σ H s)(hN:X.N.Nodup)(hi:X.N[i]? =some x)(hx:Loc X.env.scope x)(r:RelV v u)
  (h:∀s',Inv X pins (σ.set i (some v)) H s'->Q () s') (hf:X.fn x=true\/X.env.scope.names.lookup x=some .local:=by first|exact .inl rfl|exact .inr rfl|assumption):wpAny M A (storeName X.env x u) Q E s:=
 DS I hN hi hx r (λs' I' _=>h s' I') hf
theorem Inv.call'{s':Shared}{ch:List Addr}(I:Inv X pins σ H s)(ho:s'.os=s.os)(u:Un (bE X.stack) ch H H' s.heap s'.heap)(hok:HOk X.prog X.w H' s'.heap)(hg:AllBare s'.gens)
  (hch:∀b∈ch,(b∈X.ex\/X.s₀.heap.objs.size<=b)/\b≠X.env.locals/\(∀x c,X.env.cells.lookup x=some c->c≠b)/\∀p∈X.pn++pins,p.1≠b):Inv X pins σ H' s':=by
 obtain⟨h',g',d',t',o'⟩:=s'
 have e:o'=s.os:=ho
 subst e
 exact I.call (g':=g') (t':=t') (d':=d') u hok hg hch
end
noncomputable abbrev XK:=Value->Option Addr->Hp->Prop
noncomputable abbrev St:=List (Option V)
noncomputable abbrev VK:=V->Hp->Prop
noncomputable abbrev TE:=St->Hp->VK->Prop
noncomputable abbrev TT:=St->Hp->(Bool->Hp->Prop)->Prop
noncomputable abbrev TA:=St->Hp->(List V->Hp->Prop)->Prop
structure eP where
 nx:St->Hp->Prop
 rt:VK
 bk:St->Hp->Prop:=λ_ _=>False
 ct:St->Hp->Prop:=λ_ _=>False
noncomputable abbrev TS:=eP->St->Hp->Prop
noncomputable def EP(X:Cx)(pins:List (Addr×Obj))(σ:St)(Q:VK)(u:Value)(s':Shared):Prop:=∃v H',Inv X pins σ H' s'/\RelV v u/\Q v H'
noncomputable def TP(X:Cx)(pins:List (Addr×Obj))(σ:St)(Q:Bool->Hp->Prop)(b:Bool)(s':Shared):Prop:=∃H',Inv X pins σ H' s'/\Q b H'
noncomputable def AP(X:Cx)(pins:List (Addr×Obj))(σ:St)(Q:List V->Hp->Prop)(us:List Value)(s':Shared):Prop:=∃vs H',Inv X pins σ H' s'/\Vals vs us/\Q vs H'
noncomputable def SP(X:Cx)(pins:List (Addr×Obj))(D:eP)(f:Flow)(s':Shared):Prop:=
 match f with
 | .next=>∃σ' H',Inv X pins σ' H' s'/\D.nx σ' H'
 | .brk=>∃σ' H',Inv X pins σ' H' s'/\D.bk σ' H'
 | .cont=>∃σ' H',Inv X pins σ' H' s'/\D.ct σ' H'
 | .ret u=>∃v σ' H',Inv X pins σ' H' s'/\RelV v u/\D.rt v H'
noncomputable def PE(X:Cx)(e:Expr)(t:TE):Prop:=
 ∀(pins:List (Addr×Obj))(s:Shared)(σ:St)(H:Hp)(Q:VK),Inv X pins σ H s->t σ H Q->wpAny (model X.prog X.w) X.A (eval e X.env) (EP X pins σ Q) X.xe s
noncomputable def PT(X:Cx)(e:Expr)(t:TT):Prop:=
 ∀(pins:List (Addr×Obj))(s:Shared)(σ:St)(H:Hp)(Q:Bool->Hp->Prop),Inv X pins σ H s->t σ H Q->wpAny (model X.prog X.w) X.A (isTrue e X.env (eval e X.env)) (TP X pins σ Q) X.xe s
noncomputable def PW(X:Cx)(e:Expr)(t:TT):Prop:=
 ∀(whole:Sem Value)(pins:List (Addr×Obj))(s:Shared)(σ:St)(H:Hp)(Q:Bool->Hp->Prop),Inv X pins σ H s->t σ H Q->wpAny (model X.prog X.w) X.A (isTrue e X.env whole) (TP X pins σ Q) X.xe s
theorem PW.pt{X:Cx}{e:Expr}{t:TT}(h:PW X e t):PT X e t:=h _
noncomputable def PA(X:Cx)(es:List Expr)(t:TA):Prop:=
 ∀(pos:Pos)(pins:List (Addr×Obj))(s:Shared)(σ:St)(H:Hp)(Q:List V->Hp->Prop),Inv X pins σ H s->t σ H Q->wpAny (model X.prog X.w) X.A (spliced (backTo pos (starEach es X.env))) (AP X pins σ Q) X.xe s
noncomputable def PS(X:Cx)(st:Stmt)(t:TS):Prop:=
 ∀(pins:List (Addr×Obj))(s:Shared)(σ:St)(H:Hp)(D:eP),Inv X pins σ H s->t D σ H->wpAny (model X.prog X.w) X.A (exec st X.env) (SP X pins D) X.xe s
noncomputable def PSs(X:Cx)(st:List Stmt)(t:TS):Prop:=
 ∀(pins:List (Addr×Obj))(s:Shared)(σ:St)(H:Hp)(D:eP),Inv X pins σ H s->t D σ H->wpAny (model X.prog X.w) X.A (execs st X.env) (SP X pins D) X.xe s
theorem aH{α:Type}{t:Sem α}{Q Q':α->Shared->Prop}{M:Model}{A:Around}{E:Value->Shared->Prop}{s:Shared}(h:wpAny M A t Q E s)(hQ:∀a s,Q a s->Q' a s):wpAny M A t Q' E s:=wpAny_mono h hQ λ_ _ x=>x
section
variable{X:Cx}
noncomputable def rZ(i:Nat):TE:=λσ H Q=>∃v,σ[i]? =some (some v)/\Q v H
noncomputable def tC(v:V):TE:=λ_ H Q=>Q v H
theorem SU{i:Nat}{x:Str}{pos:Pos}(hN:X.N[i]? =some x)(hv:qU X.env.scope x)(hd:(x==("__debug__":Str))=false:=by decide)(hcd:(x==("__classdict__":Str))=false:=by decide):PE X (.Name x pos) (rZ i):=by
 intro pins s σ H Q I h
 obtain⟨v,e,h⟩:=h
 obtain⟨m,hn,hl⟩:=I.loc
 obtain⟨u,r,l⟩:=hl i x v hN e hv
 have fin:EP X pins σ Q u s:=⟨v,H,I,r,h⟩
 rcases l with⟨hk,hm⟩|⟨hk,c,hc,hcell⟩
 ·exact wpAny_Name (wpAny_loadName_local I.ok.kind hk hn hm fin) hd
 ·rcases hk with hk|hk
  ·exact wpAny_Name (wpAny_loadName_cell I.ok.kind hk hc hcell fin) hd
  ·exact wpAny_Name (wpAny_loadName_free I.ok.kind hk hc hcell fin hcd) hd
theorem pe_int{i j pos}:PE X (.Constant (.int i) j pos) (tC (.int i)):=λ_ _ _ H _ I h=>wpAny_Constant_int ⟨.int i,H,I.tok _,⟨_,rfl⟩,h⟩
theorem pe_bl{b j pos}:PE X (.Constant (.bool b) j pos) (tC (.bl b)):=λ_ _ _ H _ I h=>Constant_bool ⟨.bl b,H,I,rfl,h⟩
theorem pe_non{j pos}:PE X (.Constant .none j pos) (tC .non):=λ_ _ _ H _ I h=>Constant_none ⟨.non,H,I,rfl,h⟩
theorem pe_str{x j pos}:PE X (.Constant (.str x) j pos) (tC (.str x)):=λ_ _ _ H _ I h=>Calls.Constant_str ⟨.str x,H,I.tok _,⟨_,rfl⟩,h⟩
noncomputable def Gl(X:Cx)(x:Str):Prop:=X.env.kindOf x=some .globalImplicit
theorem kC{E:Value->Shared->Prop}{pins:List (Addr×Obj)}{s:Shared}{σ:St}{H:Hp}{x:Str}{u:Value}{pos:Pos}{Q:Value->Shared->Prop}(I:Inv X pins σ H s)(hg:Gl X x)(hm:X.mg x=some u)(h:Q u s)
  (hd:(x==("__debug__":Str))=false:=by decide):wpAny (model X.prog X.w) X.A (eval (.Name x pos) X.env) Q E s:=
 Calls.Name_function_global I.ok.kind hg (Calls.loadGlobal_global (by rw[I.ok.glob];exact I.mod.glob.keeps I.bk) hm h) hd
theorem mK{E:Value->Shared->Prop}{pins:List (Addr×Obj)}{s:Shared}{σ:St}{H:Hp}{x:Str}{u:Value}{pos:Pos}{Q:Value->Shared->Prop}(I:Inv X pins σ H s)(hg:Gl X x)(hm:X.mg x=none)(hv:bootBuiltins x=some u)(h:Q u s)
  (hn:x≠"__name__":=by decide) (hd:(x==("__debug__":Str))=false:=by decide):wpAny (model X.prog X.w) X.A (eval (.Name x pos) X.env) Q E s:=by
 obtain⟨mb,h1,h2⟩:=I.mod.blt
 exact Calls.Name_function_global I.ok.kind hg (Calls.loadGlobal_builtin (by rw[I.ok.glob];exact I.mod.glob.keeps I.bk) hm (by rw[I.ok.blt];exact h1.keeps I.bk) ((h2 x hn).trans hv) h) hd
theorem gW{x:Str}{v:V}{u:Value}{pos:Pos}(hg:Gl X x)(hm:X.mg x=some u)(r:RelV v u)(hd:(x==("__debug__":Str))=false:=by decide):PE X (.Name x pos) (tC v):=
 λ_ _ _ H _ I h=>kC I hg hm ⟨v,H,I,r,h⟩ hd
theorem jP{x:Str}{v:V}{u:Value}{pos:Pos}(hg:Gl X x)(hm:X.mg x=none)(hv:bootBuiltins x=some u)(r:RelV v u)(hn:x≠"__name__":=by decide)(hd:(x==("__debug__":Str))=false:=by decide):PE X (.Name x pos) (tC v):=
 λ_ _ _ H _ I h=>mK I hg hm hv ⟨v,H,I,r,h⟩ hn hd
variable{a b:Expr}{ta tb:TE}{pos:Pos}
noncomputable def PC(X:Cx)(op:CmpOp)(a b:Expr)(t:TE):Prop:=
 ∀(pins:List (Addr×Obj))(s:Shared)(σ:St)(H:Hp)(Q:VK),Inv X pins σ H s->t σ H Q->
  wpAny (model X.prog X.w) X.A (eval a X.env) (λv s₁=>wpAny (model X.prog X.w) X.A (eval b X.env) (λu s₂=>wpAny (model X.prog X.w) X.A (compareOp op v u) (EP X pins σ Q) X.xe s₂) X.xe s₁) X.xe s
theorem UW(b:Expr){op:CmpOp}(h:op≠.In)(h2:op≠.NotIn):behindInMarks op b=false:=by
 have e1:(op==CmpOp.In)=false:=by cases op <;> first|rfl|exact absurd rfl h
 have e2:(op==CmpOp.NotIn)=false:=by cases op <;> first|rfl|exact absurd rfl h2
 cases b <;> simp[behindInMarks,e1,e2]
noncomputable def tB(t:TE):TT:=λσ H Q=>t σ H λx H1=>∃c,x=.bl c/\Q c H1
theorem oQ{op:CmpOp}{t:TE}(h:PC X op a b t)(h1:behindInMarks op b=false:=by first|exact UW _ (by decide) (by decide)|rfl):PT X (.Compare a [op] [b] pos) (tB t):=by
 intro pins s σ H Q I hw
 refine wpAny_isTrue_Compare1 (aH (h pins s σ H _ I hw) λv s1 h1=>aH h1 λu s2 h2=>aH h2 λc s3⟨x,H1,I1,r1,q1⟩=>?_) h1
 obtain⟨d,rfl,q⟩:=q1
 cases r1
 exact wpAny_truthy_bool ⟨H1,I1,q⟩
theorem dL{e:Expr}{t:TE}(h:PE X e t)(he:∀whole,isTrue e X.env whole=(do let v <-whole;standAt e.pos;holding [v] (truthy v)):=by intro _;rfl):PT X e (tB t):=by
 intro pins s σ H Q I hw
 refine isTrue_plain (aH (h pins s σ H _ I hw) λv s1⟨x,H1,I1,r1,q1⟩=>?_) (he _)
 obtain⟨d,rfl,q⟩:=q1
 cases r1
 exact wpAny_truthy_bool ⟨H1,I1,q⟩
variable{tA tB':TT}{cF:List Expr}
noncomputable def DP(t u:TT):TT:=λσ H Q=>t σ H λc H1=>if c=true then u σ H1 Q else Q false H1
noncomputable def DA(t u:TT):TT:=λσ H Q=>t σ H λc H1=>if c=true then Q true H1 else u σ H1 Q
noncomputable def DB(t:TT):TT:=λσ H Q=>t σ H λc H1=>Q (!c) H1
theorem wF(ha:PT X a tA):PW X (.BoolOp .And [a] pos) tA:=by
 intro wh pins s σ H Q I h
 refine isTrue_and (aH (ha pins s σ H Q I h) λc s1 e=>?_)
 cases c with
 |true=>exact isTrue_and_nil e
 |false=>exact e
theorem gT(ha:PT X a tA):PW X (.BoolOp .Or [a] pos) tA:=by
 intro wh pins s σ H Q I h
 refine isTrue_or (aH (ha pins s σ H Q I h) λc s1 e=>?_)
 cases c with
 |false=>exact isTrue_or_nil e
 |true=>exact e
theorem wG(ha:PT X a tA)(hb:PW X (.BoolOp .And (b::cF) pos) tB'):PW X (.BoolOp .And (a::b::cF) pos) (DP tA tB'):=by
 intro wh pins s σ H Q I h
 refine isTrue_and (aH (ha pins s σ H _ I h) λc s1⟨H1,I1,q1⟩=>?_)
 cases c with
 |true=>exact hb wh pins s1 σ H1 Q I1 q1
 |false=>exact⟨H1,I1,q1⟩
theorem gU(ha:PT X a tA)(hb:PW X (.BoolOp .Or (b::cF) pos) tB'):PW X (.BoolOp .Or (a::b::cF) pos) (DA tA tB'):=by
 intro wh pins s σ H Q I h
 refine isTrue_or (aH (ha pins s σ H _ I h) λc s1⟨H1,I1,q1⟩=>?_)
 cases c with
 |true=>exact⟨H1,I1,q1⟩
 |false=>exact hb wh pins s1 σ H1 Q I1 q1
theorem fA(ha:PT X a tA):PT X (.UnaryOp .Not a pos) (DB tA):=by
 intro pins s σ H Q I h
 exact isTrue_not (ha pins s σ H (λc H1=>Q (!c) H1) I h)
noncomputable def DO(ta tb:TE):TE:=λσ H Q=>ta σ H λx H1=>∃c,x=.bl c/\if c=true then tb σ H1 Q else Q (.bl false) H1
noncomputable def NR(ta tb:TE):TE:=λσ H Q=>ta σ H λx H1=>∃c,x=.bl c/\if c=true then Q (.bl true) H1 else tb σ H1 Q
noncomputable def NS(ta:TE):TE:=λσ H Q=>ta σ H λx H1=>∃c,x=.bl c/\Q (.bl (!c)) H1
theorem mF{op}{t:TE}(h:PE X a t):PE X (.BoolOp op [a] pos) t:=λpins s σ H Q I hw=>BoolOp_one (h pins s σ H Q I hw)
theorem mG(ha:PE X a ta)(hb:PE X (.BoolOp .And (b::cF) pos) tb):PE X (.BoolOp .And (a::b::cF) pos) (DO ta tb):=by
 intro pins s σ H Q I h
 refine BoolOp_and (aH (ha pins s σ H _ I h) λv s1⟨x,H1,I1,r1,q1⟩=>?_)
 obtain⟨c,rfl,q1⟩:=q1
 cases r1
 refine wpAny_truthy_bool ?_
 cases c with
 |true=>exact hb pins s1 σ H1 Q I1 q1
 |false=>exact⟨.bl false,H1,I1,rfl,q1⟩
noncomputable def DG(t:TT)(ta tb:TE):TE:=λσ H Q=>t σ H λc H1=>if c=true then ta σ H1 Q else tb σ H1 Q
theorem wM{c:Expr}(hc:PT X c tA)(ha:PE X a ta)(hb:PE X b tb):PE X (.IfExp c a b pos) (DG tA ta tb):=by
 intro pins s σ H Q I h
 refine wpAny_IfExp (aH (hc pins s σ H _ I h) λd s1⟨H1,I1,q1⟩=>?_)
 cases d with
 |true=>exact ha pins s1 σ H1 Q I1 q1
 |false=>exact hb pins s1 σ H1 Q I1 q1
end
noncomputable def SqL(K:PySem.W.Frag)(H:Hp)(a:Addr)(xs:List V):Prop:=
 Rd H a (.lst xs)\/
  ∃(o:Obj)(its:Array Value)(n:Nat),K.lookup a=some o/\o.cls=.type "list"/\o.dict=none/\o.data=.seq its n/\its.size<=sizeLine/\Vals xs its.toList
noncomputable def SqT(K:PySem.W.Frag)(H:Hp)(a:Addr)(xs:List V):Prop:=
 Rd H a (.tup xs)\/
  ∃(o:Obj)(its:Array Value)(n:Nat),K.lookup a=some o/\o.cls=.type "tuple"/\o.data=.seq its n/\its.size<=sizeLine/\Vals xs its.toList
noncomputable def abZ:Value->Option V
 | .none=>some .non
 | .bool b=>some (.bl b)
 | .int i _=>some (.int i)
 | .str x _=>some (.str x)
 | .bytes b _=>some (.byt b)
 | .float b _=>some (.flt b)
 | .ref a=>some (.ref a)
 | .type n=>some (.ty n)
 |_=>none
theorem RelV.abs{x:V}{u:Value}(r:RelV x u):abZ u=some x:=by
 cases x with
 |non=>cases r;rfl
 |bl _=>cases r;rfl
 |int _=>obtain⟨t,rfl⟩:=r;rfl
 |str _=>obtain⟨t,rfl⟩:=r;rfl
 |byt _=>obtain⟨t,rfl⟩:=r;rfl
 |flt _=>obtain⟨t,rfl⟩:=r;rfl
 |ref _=>cases r;rfl
 |ty _=>cases r;rfl
theorem RelV.inj{x y:V}{u:Value}(r:RelV x u)(q:RelV y u):x=y:=Option.some.inj (r.abs.symm.trans q.abs)
theorem Vals.inj:∀{xs ys:List V}{us:List Value},Vals xs us->Vals ys us->xs=ys
 |_,_,_,.nil,.nil=>rfl
 |_,_,_,.cons r t,.cons r' t'=>by rw[r.inj r',Vals.inj t t']
section
variable{X:Cx}{pins:List (Addr×Obj)}{σ:St}{H:Hp}{s:Shared}{a:Addr}{xs ys:List V}
theorem SqL.of{K:PySem.W.Frag}(h:H a=some (.lst xs)):SqL K H a xs:=.inl (.inl h)
theorem SqT.of{K:PySem.W.Frag}(h:H a=some (.tup xs)):SqT K H a xs:=.inl (.inl h)
theorem Inv.list(I:Inv X pins σ H s)(h:SqL X.K H a xs):∃its:List Value,Vals xs its/\PlainL s.heap a its.toArray/\xs.length<=sizeLine:=by
 rcases h with h|⟨o,its,n,hk,hc,hd,hs,hz,r⟩
 ·obtain⟨z,its,n,r,e⟩:=h.ok I.hok
  exact⟨its,r,⟨_,n,e,rfl,rfl,rfl⟩,z⟩
 ·refine⟨its.toList,r,⟨o,n,I.kIn a o hk,hc,hd,by simpa using hs⟩,?_⟩
  have e:=r.length
  simp only[Array.length_toList]at e
  lia
theorem Inv.tuple(I:Inv X pins σ H s)(h:SqT X.K H a xs):∃its:List Value,Vals xs its/\IsTup s.heap a its.toArray/\xs.length<=sizeLine:=by
 rcases h with h|⟨o,its,n,hk,hc,hs,hz,r⟩
 ·obtain⟨z,its,r,p⟩:=h.ok I.hok
  exact⟨its,r,p.1,z⟩
 ·refine⟨its.toList,r,⟨o,I.kIn a o hk,hc,n,by simpa using hs⟩,?_⟩
  have e:=r.length
  simp only[Array.length_toList]at e
  lia
theorem Inv.list_inj(I:Inv X pins σ H s)(h:SqL X.K H a xs)(h':SqL X.K H a ys):xs=ys:=by
 obtain⟨its,r,⟨o,n,e,_,_,d⟩,_⟩:=I.list h
 obtain⟨its',r',⟨o',n',e',_,_,d'⟩,_⟩:=I.list h'
 rw[e]at e';cases e'
 rw[d]at d'
 injection d' with d1 _
 have:its=its':=by simpa using congrArg Array.toList d1
 subst this
 exact r.inj r'
theorem Inv.tuple_inj(I:Inv X pins σ H s)(h:SqT X.K H a xs)(h':SqT X.K H a ys):xs=ys:=by
 obtain⟨its,r,⟨o,e,_,n,d⟩,_⟩:=I.tuple h
 obtain⟨its',r',⟨o',e',_,n',d'⟩,_⟩:=I.tuple h'
 rw[e]at e';cases e'
 rw[d]at d'
 injection d' with d1 _
 have:its=its':=by simpa using congrArg Array.toList d1
 subst this
 exact r.inj r'
end
noncomputable abbrev Cx.wish(X:Cx)(E:Value->Shared->Prop):Cx:={ X with xe:=E }
noncomputable abbrev Cx.nox(X:Cx):Cx:=X.wish λ_ _=>False
theorem Cx.Ok.wish{X:Cx}(ok:X.Ok)(E:Value->Shared->Prop):(X.wish E).Ok:=
 ⟨ok.mod,ok.kind,ok.glob,ok.blt,ok.above,ok.inj,ok.has,ok.cab,ok.hd,ok.frames,ok.stk,ok.exf,ok.bs,ok.bsz,ok.noex,ok.exfs,ok.funs,ok.frf⟩
theorem Cx.Ok.unwish{X:Cx}{E:Value->Shared->Prop}(ok:(X.wish E).Ok):X.Ok:=
 ⟨ok.mod,ok.kind,ok.glob,ok.blt,ok.above,ok.inj,ok.has,ok.cab,ok.hd,ok.frames,ok.stk,ok.exf,ok.bs,ok.bsz,ok.noex,ok.exfs,ok.funs,ok.frf⟩
section
variable{X:Cx}{pins:List (Addr×Obj)}{σ:St}{H:Hp}{s:Shared}{E:Value->Shared->Prop}
theorem Inv.wish(I:Inv X pins σ H s)(E:Value->Shared->Prop):Inv (X.wish E) pins σ H s:=⟨I.ok.wish E,I.os,I.bare,I.base,I.loc,I.cell,I.free,I.freeC,I.pin,I.hok,I.len⟩
theorem Inv.unwish(I:Inv (X.wish E) pins σ H s):Inv X pins σ H s:=⟨I.ok.unwish,I.os,I.bare,I.base,I.loc,I.cell,I.free,I.freeC,I.pin,I.hok,I.len⟩
theorem SP.unwish{D:eP}{f:Flow}{s':Shared}(h:SP (X.wish E) pins D f s'):SP X pins D f s':=by
 cases f with
 |next=>obtain⟨σ',H',I,q⟩:=h;exact⟨σ',H',I.unwish,q⟩
 |brk=>obtain⟨σ',H',I,q⟩:=h;exact⟨σ',H',I.unwish,q⟩
 |cont=>obtain⟨σ',H',I,q⟩:=h;exact⟨σ',H',I.unwish,q⟩
 |ret u=>obtain⟨v,σ',H',I,r,q⟩:=h;exact⟨v,σ',H',I.unwish,r,q⟩
theorem PE.nox{e:Expr}{t:TE}(h:PE X.nox e t):PE X e t:=λpins s σ H Q I hw=>
 wpAny_mono (h pins s σ H Q (I.wish _) hw) (λ_ _⟨v,H',I',r,q⟩=>⟨v,H',I'.unwish,r,q⟩) λ_ _ z=>False.elim z
theorem PT.nox{e:Expr}{t:TT}(h:PT X.nox e t):PT X e t:=λpins s σ H Q I hw=>
 wpAny_mono (h pins s σ H Q (I.wish _) hw) (λ_ _⟨H',I',q⟩=>⟨H',I'.unwish,q⟩) λ_ _ z=>False.elim z
theorem PSs.nox{st:List Stmt}{t:TS}(h:PSs X.nox st t):PSs X st t:=λpins s σ H D I hw=>
 wpAny_mono (h pins s σ H D (I.wish _) hw) (λ_ _ q=>q.unwish) λ_ _ z=>False.elim z
end
section
variable{X:Cx}{st:Stmt}{cF:List Stmt}{t u:TS}{e:Expr}{te:TE}{pos:Pos}
noncomputable def DD:TS:=λD σ H=>D.nx σ H
noncomputable def r6(t u:TS):TS:=λD σ H=>t { D with nx:=u D } σ H
theorem bB:PSs X [] DD:=λ_ _ σ H _ I h=>wpAny_execs_nil ⟨σ,H,I,h⟩
theorem aF(h1:PS X st t)(h2:PSs X cF u):PSs X (st::cF) (r6 t u):=by
 intro pins s σ H D I h
 refine wpAny_execs_cons (aH (h1 pins s σ H { D with nx:=u D } I h) λf s1 q=>?_)
 cases f with
 |next=>
  obtain⟨σ',H',I',q⟩:=q
  exact h2 pins s1 σ' H' D I' q
 |ret v=>exact q
 |brk=>exact q
 |cont=>exact q
theorem aD(h1:PS X st t):PSs X [st] t:=by
 intro pins s σ H D I h
 refine wpAny_execs_cons (aH (h1 pins s σ H D I h) λf s1 q=>?_)
 cases f with
 |next=>exact wpAny_execs_nil q
 |ret v=>exact q
 |brk=>exact q
 |cont=>exact q
theorem Inv.quiet{pins:List (Addr×Obj)}{σ:St}{H:Hp}{s:Shared}(I:Inv X pins σ H s):interactive X.env=false:=by simp[interactive,I.ok.kind]
noncomputable def DK(te:TE):TS:=λD σ H=>te σ H λ_ H1=>D.nx σ H1
theorem cK(he:PE X e te)(hs:swapsWith e none pos.line X.env=pure false:=by rfl):PS X (.Expr e pos) (DK te):=by
 intro pins s σ H D I h
 exact wpAny_Expr_any (aH (he pins s σ H _ I h) λv s1⟨x,H1,I1,r1,q1⟩=>⟨σ,H1,I1,q1⟩) I.quiet hs
noncomputable def C7(te:TE):TS:=λD σ H=>te σ H D.rt
theorem aP(he:PE X e te):PS X (.Return (some e) pos) (C7 te):=by
 intro pins s σ H D I h
 exact wpAny_Return_some (aH (he pins s σ H _ I h) λv s1⟨x,H1,I1,r1,q1⟩=>⟨x,σ,H1,I1,r1,q1⟩)
noncomputable def DF(c:TT)(t u:TS):TS:=λD σ H=>c σ H λb H1=>if b=true then t D σ H1 else u D σ H1
theorem aW{c:Expr}{a b:List Stmt}{tc:TT}(hc:PT X c tc)(ha:PSs X a t)(hb:PSs X b u):PS X (.If c a b pos) (DF tc t u):=by
 intro pins s σ H D I h
 refine wpAny_If (aH (hc pins s σ H _ I h) λd s1⟨H1,I1,q1⟩=>?_)
 cases d with
 |true=>exact ha pins s1 σ H1 D I1 q1
 |false=>exact hb pins s1 σ H1 D I1 q1
noncomputable def NT:TS:=λ_ _ _=>False
theorem iS:PS X st NT:=λ_ _ _ _ _ _ h=>h.elim
end
noncomputable abbrev TG:=V->St->Hp->(St->Hp->Prop)->Prop
noncomputable abbrev fP:=List V->St->Hp->(St->Hp->Prop)->Prop
noncomputable def PG(X:Cx)(target:Expr)(t:TG):Prop:=
 ∀(pins:List (Addr×Obj))(s:Shared)(σ:St)(H:Hp)(v:V)(u:Value)(Q:St->Hp->Prop),Inv X pins σ H s->RelV v u->t v σ H Q->
  wpAny (model X.prog X.w) X.A (assign target X.env u) (λ_ s'=>∃σ' H',Inv X pins σ' H' s'/\Q σ' H') X.xe s
noncomputable def nP(X:Cx)(ts:List Expr)(t:fP):Prop:=
 ∀(pins:List (Addr×Obj))(s:Shared)(σ:St)(H:Hp)(vs:List V)(us:List Value)(Q:St->Hp->Prop),Inv X pins σ H s->Vals vs us->t vs σ H Q->
  wpAny (model X.prog X.w) X.A (assignInOrder ((assignEach ts X.env).map (·.2)) us) (λ_ s'=>∃σ' H',Inv X pins σ' H' s'/\Q σ' H') X.xe s
noncomputable abbrev qV:=V->V->V->Hp->(Hp->Prop)->Prop
noncomputable def LE(X:Cx)(t:qV):Prop:=
 ∀(pins:List (Addr×Obj))(s:Shared)(σ:St)(H:Hp)(o i v:V)(ov iv u:Value)(Q:Hp->Prop),Inv X pins σ H s->RelV o ov->RelV i iv->RelV v u->t o i v H Q->
  wpAny (model X.prog X.w) X.A (setItem ov iv u) (λ_ s'=>∃H',Inv X pins σ H' s'/\Q H') X.xe s
section
variable{X:Cx}{pos:Pos}
noncomputable def kF(i:Nat):TG:=λv σ H Q=>Q (σ.set i (some v)) H
theorem bH{i:Nat}{x:Str}(hN:X.N.Nodup)(hi:X.N[i]? =some x)(hx:Loc X.env.scope x)(hf:X.fn x=true\/X.env.scope.names.lookup x=some .local:=by first|exact .inl rfl|exact .inr rfl|assumption):PG X (.Name x pos) (kF i):=by
 intro pins s σ H v u Q I r h
 exact wpAny_assign_Name (sJ I hN hi hx r (λs' I'=>⟨_,H,I',h⟩) hf)
noncomputable def yQ:fP:=λvs σ H Q=>vs=[]/\Q σ H
noncomputable def yR(t:TG)(u:fP):fP:=λvs σ H Q=>∃v r,vs=v::r/\t v σ H λσ' H'=>u r σ' H' Q
theorem iT:nP X [] yQ:=by
 intro pins s σ H vs us Q I r h
 obtain⟨e,h⟩:=h
 subst e
 cases r
 exact assignInOrder_nil ⟨σ,H,I,h⟩
theorem cU{e:Expr}{es:List Expr}{t:TG}{u:fP}(h1:PG X e t)(h2:nP X es u)
  (hs:(assignEach (e::es) X.env).map (·.2)=assign e X.env::(assignEach es X.env).map (·.2):=by rfl):nP X (e::es) (yR t u):=by
 intro pins s σ H vs us Q I r h
 obtain⟨v,vr,e1,h⟩:=h
 subst e1
 cases r with
 |cons r rr=>
  rw[hs]
  refine assignInOrder_cons (aH (h1 pins s σ H _ _ _ I r h) λ_ s1⟨σ1,H1,I1,q1⟩=>?_)
  exact h2 pins s1 σ1 H1 _ _ Q I1 rr q1
noncomputable def qC(K:PySem.W.Frag)(n:Nat)(t:fP):TG:=λv σ H Q=>∃a xs,v=.ref a/\SqT K H a xs/\xs.length=n/\t xs σ H Q
theorem SS{es:List Expr}{k:Nat}{t:fP}{n:Nat}(hc:X.calm=true)(h:nP X es t)
  (hn:(assignEach es X.env).length=n:=by rfl) (hst:(assignEach es X.env).findIdx? (·.1)=none:=by rfl):PG X (.Tuple es k pos) (qC X.K n t):=by
 intro pins s σ H v u Q I r hw
 obtain⟨a,xs,e1,hq,hl,hw⟩:=hw
 subst e1
 cases r
 obtain⟨its,rv,ht,hz⟩:=I.tuple hq
 refine assign_Tuple_tuple (I.ok.hd hc) ht (by simp[hn,<-hl,rv.length]) hst λh' hx=>?_
 have I1:Inv X pins σ H { s with heap:=h' }:=I.kept (t':=s.toks) λb o e=>hx b o (Nat.ne_of_lt (Heap.lt_size e)) e
 exact h pins _ σ H xs _ Q I1 (by simpa using rv) hw
noncomputable def JM(to ti:TE)(t:qV):TG:=λv σ H Q=>to σ H λo H1=>ti σ H1 λi H2=>t o i v H2 λH3=>Q σ H3
theorem oY{o i:Expr}{to ti:TE}{t:qV}(ho:PE X o to)(hi:PE X i ti)(hs:LE X t)
  (ha:∀v,assign (.Subscript o i pos) X.env v=(do
   let ov <-holding [v] (eval o X.env)
   let iv <-holding [v,ov] (eval i X.env)
   standAt pos
   holding [v,ov,iv] (setItem ov iv v)
   release [v,ov,iv] []):=by intro _;rfl):PG X (.Subscript o i pos) (JM to ti t):=by
 intro pins s σ H v u Q I r h
 rw[ha]
 refine wpAny_bind (wpAny_holding (aH (ho pins s σ H _ I h) λov s1⟨x,H1,I1,r1,q1⟩=>?_))
 refine wpAny_bind (wpAny_holding (aH (hi pins s1 σ H1 _ I1 q1) λiv s2⟨y,H2,I2,r2,q2⟩=>?_))
 refine wpAny_bind (wpAny_standAt (wpAny_bind (wpAny_holding (aH (hs pins s2 σ H2 x y v ov iv u _ I2 r1 r2 r q2) λ_ s3⟨H3,I3,q3⟩=>?_))))
 exact wpAny_release ⟨σ,H3,I3,q3⟩
noncomputable def oA(te:TE)(g:TG):TS:=λD σ H=>te σ H λx H1=>g x σ H1 D.nx
theorem mD{tg e:Expr}{te:TE}{g:TG}(he:PE X e te)(hg:PG X tg g)(hs:swapsWithSole [tg] e pos.line X.env=pure false:=by rfl)(hw:swappedStores [tg] e X.env=pure none:=by rfl)
  (h1:(assignEach [tg] X.env).map (·.2)=[assign tg X.env]:=by rfl):PS X (.Assign [tg] e pos) (oA te g):=by
 intro pins s σ H D I h
 refine wpAny_Assign_stores (aH (he pins s σ H _ I h) λv s1⟨x,H1,I1,r1,q1⟩=>?_) hs hw
 rw[h1]
 exact aH (hg pins s1 σ H1 x v _ I1 r1 q1) λ_ s2 q=>q
theorem aS{i:Nat}{x:Str}{e:Expr}{te:TE}{pos':Pos}(hN:X.N.Nodup)(hi:X.N[i]? =some x)(hx:Loc X.env.scope x)(he:PE X e te)(hs:swapsWith e (some (.Name x pos')) pos.line X.env=pure false:=by rfl)(hf:X.fn x=true\/X.env.scope.names.lookup x=some .local:=by first|exact .inl rfl|exact .inr rfl|assumption):
  PS X (.Assign [.Name x pos'] e pos) (oA te (kF i)):=by
 intro pins s σ H D I h
 refine wpAny_Assign_Name (aH (he pins s σ H _ I h) λv s1⟨y,H1,I1,r1,q1⟩=>?_) hs
 exact sJ I1 hN hi hx r1 (λs2 I2=>⟨_,H1,I2,q1⟩) hf
noncomputable def C2(c:TT)(tb:TS):TS:=λD σ H=>∃W:Nat->St->Hp->Prop,(∃m,W m σ H)/\∀m σ H,W m σ H->
 c σ H λb H1=>if b=true then ∃N:St->Hp->Prop,(∀σ' H',N σ' H'->∃m',m'<m/\W m' σ' H')/\tb { D with nx:=N,ct:=N,bk:=D.nx } σ H1 else D.nx σ H1
theorem GV{c:Expr}{body:List Stmt}{tc:TT}{tb:TS}(hp:PassesOwn (model X.prog X.w) X.A X.env X.xe)(hc:PT X c tc)(hb:PSs X body tb):PS X (.While c body [] pos) (C2 tc tb):=by
 intro pins s σ H D I h
 obtain⟨W,⟨m0,w0⟩,turn⟩:=h
 refine wpAny_While (codeAny_whileLoop (λn s'=>∃σ' H',Inv X pins σ' H' s'/\W n σ' H') ?_ m0 ⟨σ,H,I,w0⟩)
 rintro n s1 ⟨σ1,H1,I1,w1⟩
 refine wpAny_passesOwn hp (aH (hc pins s1 σ1 H1 _ I1 (turn n σ1 H1 w1)) λb s2⟨H2,I2,q2⟩=>?_)
 cases b with
 | true=>
  obtain⟨N,hN,q2⟩:=q2
  rw[if_pos rfl]
  refine wpAny_passesOwn hp (aH (hb pins s2 σ1 H2 _ I2 q2) λf s3 q3=>?_)
  cases f with
  |next=>
   obtain⟨σ3,H3,I3,n3⟩:=q3
   obtain⟨m',hm,w3⟩:=hN σ3 H3 n3
   exact⟨m',hm,σ3,H3,I3,w3⟩
  |cont=>
   obtain⟨σ3,H3,I3,n3⟩:=q3
   obtain⟨m',hm,w3⟩:=hN σ3 H3 n3
   exact⟨m',hm,σ3,H3,I3,w3⟩
  |brk=>exact q3
  |ret v=>exact q3
 |false=>
  rw[if_neg Bool.false_ne_true]
  exact wpAny_execs_nil ⟨σ1,H2,I2,q2⟩
end
structure It where
 go:Nat->Hp->Prop
 yld:Nat->Hp->V->Hp->Prop
 stop:Nat->Hp->Prop
noncomputable def gF(X:Cx)(pins:List (Addr×Obj))(H:Hp)(b:Addr):Prop:=
 H b=none/\b≠X.env.locals/\b∉X.fs/\(b∈X.ex\/X.s₀.heap.objs.size<=b)/\(∀x c,X.env.cells.lookup x=some c->c≠b)/\∀p∈X.pn++pins,p.1≠b
theorem Inv.fpOk{X:Cx}{pins:List (Addr×Obj)}{σ:St}{H H':Hp}{s:Shared}{b:Addr}(I:Inv X pins σ H s)(hb:s.heap.objs.size<=b)(hn:H' b=none):gF X pins H' b:=by
 refine⟨hn,Nat.ne_of_gt (Nat.lt_of_lt_of_le I.lt hb),I.nofs hb,.inr (Nat.le_trans I.sz hb),λx c e z=>?_,λp hp z=>?_⟩
 ·obtain⟨v,q⟩:=I.cell x c e
  exact absurd (Nat.lt_of_lt_of_le q.lt (by rw[z];exact hb)) (Nat.lt_irrefl _)
 ·exact absurd (Nat.lt_of_lt_of_le (Heap.lt_size (I.pin p hp).1) (by rw[z];exact hb)) (Nat.lt_irrefl _)
structure lJ (P:Program) (w:World) (K:PySem.W.Frag) (tg:Expr) (J:It) (fp:List Addr) (it:Addr) (tn:Nat->Heap->Prop):Prop where
 mem:it∈fp
 obj:∀i h,tn i h->∀b∈fp,∃o,h.get? b=some o/\∀v,o.data≠.cell v
 keep:∀i h h',tn i h->(∀b∈fp,∀o,h.get? b=some o->h'.get? b=some o)->tn i h'
 item:∀(X:Cx),X.prog=P->X.w=w->X.K=K->X.calm=true->∀(i:Nat)(pins:List (Addr×Obj))(s:Shared)(σ:St)(H:Hp)(E:Value->Shared->Prop),Inv X pins σ H s->(∀b∈fp,gF X pins H b)->tn i s.heap->J.go i H->
  wpAny (model P w) X.A (pyNext (.ref it)) (λr s1=>∃u,r=some u/\
   wpAny (model P w) X.A (letOwnedTupleGo tg (.ref it) u) (λ_ s2=>∃x H',Inv X pins σ H' s2/\RelV x u/\J.yld i H x H'/\tn (i+1) s2.heap/\∀b∈fp,H' b=none) E s1) E s
 done:∀(X:Cx),X.prog=P->X.w=w->X.K=K->X.calm=true->∀(i:Nat)(pins:List (Addr×Obj))(s:Shared)(σ:St)(H:Hp)(E:Value->Shared->Prop),Inv X pins σ H s->(∀b∈fp,gF X pins H b)->tn i s.heap->J.stop i H->
  wpAny (model P w) X.A (pyNext (.ref it)) (λr s1=>r=none/\Inv X pins σ H s1) E s
 self:∀(A:Around)(i:Nat)(s:Shared)(Q:Value->Shared->Prop)(E:Value->Shared->Prop),tn i s.heap->Q (.ref it) s->wpAny (model P w) A (pyIter (.ref it)) Q E s
noncomputable abbrev TI:=St->Hp->(It->Hp->Prop)->Prop
noncomputable def LF(X:Cx)(pins:List (Addr×Obj))(σ:St)(tg:Expr)(R:It->Hp->Prop)(itv:Value)(s2:Shared):Prop:=
 ∃(it:Addr)(fp:List Addr)(tn:Nat->Heap->Prop)(J:It)(H':Hp),itv=.ref it/\Inv X pins σ H' s2/\lJ X.prog X.w X.K tg J fp it tn/\tn 0 s2.heap/\(∀b∈fp,gF X pins H' b)/\R J H'
noncomputable def PI(X:Cx)(tg iter:Expr)(wi:TI):Prop:=
 ∀(pins:List (Addr×Obj))(s:Shared)(σ:St)(H:Hp)(R:It->Hp->Prop),Inv X pins σ H s->wi σ H R->
  wpAny (model X.prog X.w) X.A (eval iter X.env) (λv s1=>wpAny (model X.prog X.w) X.A (pyIter v) (LF X pins σ tg R) X.xe s1) X.xe s
theorem yI{M:Model}{A:Around}{E:Value->Shared->Prop}{s:Shared}{tg:Expr}{it:Addr}{u:Value}{o:Obj}{n:String}{vs:Array Value}{Q:Unit->Shared->Prop}(ho:s.heap.get? it=some o)(hc:o.cls=.type n)(hd:o.data=.fields vs)
    (hn:["enumerate","zip","dict_itemiterator","dict_reverseitemiterator","odict_iterator","itertools.zip_longest","itertools.pairwise"].contains n=false) (hQ:Q () s):wpAny M A (letOwnedTupleGo tg (.ref it) u) Q E s:=by
  unfold letOwnedTupleGo
  cases tg <;> first
    |exact wpAny_pure hQ
    |(cases u <;> first
        |exact wpAny_pure hQ
        | (refine wpAny_bind (wpAny_load ho ?_)
           rw[hc,hd]
           show wpAny M A (if(["enumerate","zip","dict_itemiterator","dict_reverseitemiterator","odict_iterator","itertools.zip_longest","itertools.pairwise"].contains n&&vs[0]? ==some (rawInt _))=true then _ else _) Q E s
           rw[if_neg (by intro h;rw[hn,Bool.false_and]at h;cases h)]
           exact wpAny_pure hQ))
noncomputable def jI(K:PySem.W.Frag)(a:Addr):It:=
 ⟨λi H=>∃xs x,SqL K H a xs/\xs[i]? =some x,λi H x H'=>H'=H/\∀xs,SqL K H a xs->xs[i]? =some x,λi H=>∃xs,SqL K H a xs/\xs.length<=i⟩
noncomputable def jH(K:PySem.W.Frag)(a:Addr):It:=
 ⟨λi H=>∃xs x,SqT K H a xs/\xs[i]? =some x,λi H x H'=>H'=H/\∀xs,SqT K H a xs->xs[i]? =some x,λi H=>∃xs,SqT K H a xs/\xs.length<=i⟩
noncomputable def iK(lo:Int)(n:Nat):It:=⟨λi _=>i<n,λi H x H'=>H'=H/\x=.int (lo+i),λi _=>n<=i⟩
theorem ND{P:Program}{w:World}{K:PySem.W.Frag}{tg:Expr}(a it:Addr):lJ P w K tg (jI K a) [it] it (λi h=>h.IsListIter it a i) where
 mem:=by simp
 obj:=λi h st b hb=>by
  have e:b=it:=by simpa using hb
  subst e
  obtain⟨o,e,c,d⟩:=st
  exact⟨o,e,λv z=>by rw[d]at z;cases z⟩
 keep:=λi h h' st k=>st.at λo e=>k it (by simp) o e
 item:=by
  intro X hP hw hK hc i pins s σ H E I hf st hg
  subst hP hw hK
  obtain⟨xs,x,hq,hx⟩:=hg
  obtain⟨its,rv,p,hz⟩:=I.list hq
  obtain⟨u,hu,ru⟩:=rv.get hx
  obtain⟨f0,f1,f2,f3,f4,f5⟩:=hf it (by simp)
  refine wpAny_pyNext_list_item st p.isList (x:=u) (by simpa using hu) λh' st' sb=>?_
  have I1:Inv X pins σ H { s with heap:=h' }:=I.turned (t':=s.toks) (λb o hb e=>(sb.2 b hb).trans e) f0 f1 f3 f4 f5
  obtain⟨o,e,c,d⟩:=id st'
  exact⟨u,rfl,yI (s:={ s with heap:=h' }) e c d (by decide) ⟨x,H,I1,ru,⟨rfl,λys hy=>by rw[I.list_inj hy hq];exact hx⟩,st',λb hb=>(hf b hb).1⟩⟩
 done:=by
  intro X hP hw hK hc i pins s σ H E I hf st hg
  subst hP hw hK
  obtain⟨xs,hq,hx⟩:=hg
  obtain⟨its,rv,p,hz⟩:=I.list hq
  obtain⟨f0,f1,f2,f3,f4,f5⟩:=hf it (by simp)
  have hl:=rv.length
  exact wpAny_pyNext_list_end (I.ok.hd hc) st p.isList (by simp;lia) λh' eb=>⟨rfl,I.turned (t':=s.toks) (λb o hb e=>eb b o hb e) f0 f1 f3 f4 f5⟩
 self:=λ_ _ _ _ _ st h=>wpAny_pyIter_listiter st h
theorem NB{P:Program}{w:World}{K:PySem.W.Frag}{tg:Expr}(a it:Addr):lJ P w K tg (jH K a) [it] it (λi h=>h.IsTupleIter it a i) where
 mem:=by simp
 obj:=λi h st b hb=>by
  have e:b=it:=by simpa using hb
  subst e
  obtain⟨o,e,c,d⟩:=st
  exact⟨o,e,λv z=>by rw[d]at z;cases z⟩
 keep:=λi h h' st k=>st.at λo e=>k it (by simp) o e
 item:=by
  intro X hP hw hK hc i pins s σ H E I hf st hg
  subst hP hw hK
  obtain⟨xs,x,hq,hx⟩:=hg
  obtain⟨its,rv,p,hz⟩:=I.tuple hq
  obtain⟨u,hu,ru⟩:=rv.get hx
  obtain⟨f0,f1,f2,f3,f4,f5⟩:=hf it (by simp)
  refine wpAny_pyNext_tuple_item st (show s.heap.IsTuple a its.toArray from p) (x:=u) (by simpa using hu) λh' st' sb=>?_
  have I1:Inv X pins σ H { s with heap:=h' }:=I.turned (t':=s.toks) (λb o hb e=>(sb.2 b hb).trans e) f0 f1 f3 f4 f5
  obtain⟨o,e,c,d⟩:=id st'
  exact⟨u,rfl,yI (s:={ s with heap:=h' }) e c d (by decide) ⟨x,H,I1,ru,⟨rfl,λys hy=>by rw[I.tuple_inj hy hq];exact hx⟩,st',λb hb=>(hf b hb).1⟩⟩
 done:=by
  intro X hP hw hK hc i pins s σ H E I hf st hg
  subst hP hw hK
  obtain⟨xs,hq,hx⟩:=hg
  obtain⟨its,rv,p,hz⟩:=I.tuple hq
  obtain⟨f0,f1,f2,f3,f4,f5⟩:=hf it (by simp)
  have hl:=rv.length
  exact wpAny_pyNext_tuple_end (I.ok.hd hc) st (show s.heap.IsTuple a its.toArray from p) (by simp;lia) λh' eb=>⟨rfl,I.turned (t':=s.toks) (λb o hb e=>eb b o hb e) f0 f1 f3 f4 f5⟩
 self:=λ_ _ _ _ _ st h=>wpAny_pyIter_tupleiter st h
theorem NC{P:Program}{w:World}{K:PySem.W.Frag}{tg:Expr}(it:Addr)(lo:Int)(n:Nat):lJ P w K tg (iK lo n) [it] it (λi h=>IsRangeIter h it (lo+(i:Nat)*1) ((n:Int)-(i:Nat)) 1) where
 mem:=by simp
 obj:=λi h st b hb=>by
  have e:b=it:=by simpa using hb
  subst e
  exact⟨_,st,λv z=>by
   have z':Data.fields _=Data.cell v:=z
   cases z'⟩
 keep:=λi h h' st k=>k it (by simp) _ st
 item:=by
  intro X hP hw hK hc i pins s σ H E I hf st hg
  subst hP hw hK
  obtain⟨f0,f1,f2,f3,f4,f5⟩:=hf it (by simp)
  have W:=Walks.range (prog:=X.prog) (w:=X.w) (I.ok.hd hc) it lo 1 n
  refine W.item i s _ _ hg st λv h' tk hv st' kk=>?_
  obtain⟨t,rfl⟩:=hv
  have I1:Inv X pins σ H { s with heap:=h',toks:=tk }:=I.turned (λb o hb e=>kk b o (by simpa using hb) e) f0 f1 f3 f4 f5
  refine⟨_,rfl,yI (s:={ s with heap:=h',toks:=tk }) (n:="range_iterator") st' rfl rfl (by decide) ⟨.int (lo+i),H,I1,⟨t,?_⟩,⟨rfl,rfl⟩,st',λb hb=>(hf b hb).1⟩⟩
  rw[Int.mul_one]
 done:=by
  intro X hP hw hK hc i pins s σ H E I hf st hg
  subst hP hw hK
  obtain⟨f0,f1,f2,f3,f4,f5⟩:=hf it (by simp)
  exact wpAny_pyNext_range_end (I.ok.hd hc) st (by have:n<=i:=hg;lia) λh' eb=>⟨rfl,I.turned (t':=s.toks) (λb o hb e=>eb b o hb e) f0 f1 f3 f4 f5⟩
 self:=λ_ _ _ _ _ st h=>wpAny_pyIter_rangeiter st h
section
variable{X:Cx}{tg:Expr}
noncomputable def yC(K:PySem.W.Frag)(tl:TE):TI:=λσ H R=>tl σ H λx H1=>∃a,x=.ref a/\(∃xs,SqL K H1 a xs)/\R (jI K a) H1
noncomputable def yB(K:PySem.W.Frag)(tl:TE):TI:=λσ H R=>tl σ H λx H1=>∃a,x=.ref a/\(∃xs,SqT K H1 a xs)/\R (jH K a) H1
theorem SQ{l:Expr}{tl:TE}(hl:PE X l tl):PI X tg l (yC X.K tl):=by
 intro pins s σ H R I h
 refine aH (hl pins s σ H _ I h) λv s1⟨x,H1,I1,r1,q1⟩=>?_
 obtain⟨a,e,⟨xs,hq⟩,q⟩:=q1
 subst e
 cases r1
 obtain⟨its,rv,p,hz⟩:=I1.list hq
 refine wpAny_pyIter_list p.isList ?_
 refine⟨s1.heap.objs.size,[s1.heap.objs.size],_,_,H1,rfl,I1.kept (t':=s1.toks) λb o e=>Heap.get?_push_of_some _ e,ND a _,⟨_,Heap.get?_push_size _ rfl,rfl,rfl⟩,λb hb=>?_,q⟩
 have e:b=s1.heap.objs.size:=by simpa using hb
 subst e
 exact I1.fpOk (Nat.le_refl _) (I1.hok.fresh (Nat.le_refl _))
theorem SO{l:Expr}{tl:TE}(hl:PE X l tl):PI X tg l (yB X.K tl):=by
 intro pins s σ H R I h
 refine aH (hl pins s σ H _ I h) λv s1⟨x,H1,I1,r1,q1⟩=>?_
 obtain⟨a,e,⟨xs,hq⟩,q⟩:=q1
 subst e
 cases r1
 obtain⟨its,rv,p,hz⟩:=I1.tuple hq
 refine wpAny_pyIter_tuple (show s1.heap.IsTuple a its.toArray from p) ?_
 refine⟨s1.heap.objs.size,[s1.heap.objs.size],_,_,H1,rfl,I1.kept (t':=s1.toks) λb o e=>Heap.get?_push_of_some _ e,NB a _,⟨_,Heap.get?_push_size _ rfl,rfl,rfl⟩,λb hb=>?_,q⟩
 have e:b=s1.heap.objs.size:=by simpa using hb
 subst e
 exact I1.fpOk (Nat.le_refl _) (I1.hok.fresh (Nat.le_refl _))
theorem R3{pins:List (Addr×Obj)}{σ:St}{H:Hp}{s:Shared}{R:It->Hp->Prop}{E:Value->Shared->Prop}{lo hi:Int}{t u v:Tok}{tk:Nat}(I:Inv X pins σ H s)(h1:-(2^62)<=lo)(h2:lo<2^62)(h3:-(2^62)<=hi)(h4:hi<2^62)
  (q:R (iK lo (hi-lo).toNat) H):wpAny (model X.prog X.w) X.A (pyIter (.ref s.heap.objs.size)) (LF X pins σ tg R) E { s with heap:=s.heap.push { cls:=.type "range",data:=.fields #[.int lo t,.int hi u,.int 1 v] },toks:=tk }:=by
 refine wpAny_pyIter_range (IsRange.new ..) (small_one h1 h2 h3 h4) ?_
 have I1:Inv X pins σ H { s with heap:=s.heap.push { cls:=.type "range",data:=.fields #[.int lo t,.int hi u,.int 1 v] },toks:=tk }:=I.kept λb o e=>Heap.get?_push_of_some _ e
 refine⟨(s.heap.push { cls:=.type "range",data:=.fields #[.int lo t,.int hi u,.int 1 v] }).objs.size,[(s.heap.push { cls:=.type "range",data:=.fields #[.int lo t,.int hi u,.int 1 v] }).objs.size],_,_,H,rfl,
  I1.kept (t':=tk) λb o e=>Heap.get?_push_of_some _ e,NC _ lo (hi-lo).toNat,?_,λb hb=>?_,q⟩
 ·have e1:lo+((0:Nat):Int)*1=lo:=by simp
  have e2:(((hi-lo).toNat:Nat):Int)-((0:Nat):Int)=Builtin.Range.rangeSize lo hi 1:=by rw[rangeSize_one];split <;> lia
  show IsRangeIter _ _ (lo+((0:Nat):Int)*1) ((((hi-lo).toNat:Nat):Int)-((0:Nat):Int)) 1
  rw[e1,e2]
  exact Heap.get?_push_size _ rfl
 ·have e:b=(s.heap.push { cls:=.type "range",data:=.fields #[.int lo t,.int hi u,.int 1 v] }).objs.size:=by simpa using hb
  subst e
  exact I1.fpOk (Nat.le_refl _) (I1.hok.fresh (Nat.le_refl _))
noncomputable def JE(ta:TA):TI:=λσ H R=>ta σ H λvs H1=>∃j:Int,vs=[.int j]/\-(2^62)<=j/\j<2^62/\R (iK 0 j.toNat) H1
theorem eT{a:Expr}{ta:TA}{p pos:Pos}(hg:Gl X "range")(hm:X.mg "range"=none)(ha:PA X [a] ta)(hs:starEach [a] X.env=[(false,eval a X.env)]:=by rfl):PI X tg (.Call (.Name "range" p) [a] [] pos) (JE ta):=by
 intro pins s σ H R I h
 refine Call_ (mK I hg hm boot_range (PyProof.Rows.callWith_type1 (aH (ha pos pins s σ H _ I h) λus s1⟨vs,H1,I1,r1,q1⟩=>?_) hs rfl))
 obtain⟨j,e,q1,q2,q⟩:=q1
 subst e
 cases r1 with
 |cons r rr=>
  cases rr
  obtain⟨t,rfl⟩:=r
  exact call_range_1 (R3 I1 (by lia) (by lia) q1 q2 (by simpa using q))
noncomputable def DI(wi:TI)(g:TG)(tb:TS):TS:=λD σ H=>wi σ H λJ H1=>∃W:Nat->Nat->St->Hp->Prop,(∃m,W 0 m σ H1)/\∀i m σ H,W i m σ H->
 (J.stop i H/\D.nx σ H)\/(J.go i H/\∃N:St->Hp->Prop,(∀σ' H',N σ' H'->∃m',m'<m/\W (i+1) m' σ' H')/\∀x H',J.yld i H x H'->g x σ H' λσ2 H2=>tb { D with nx:=N,ct:=N,bk:=D.nx } σ2 H2)
noncomputable def jO(fp:List Addr)(h:Heap):List (Addr×Obj):=fp.filterMap λb=>(h.get? b).map λo=>(b,o)
theorem pI{fp:List Addr}{h:Heap}{b:Addr}{o:Obj}(hb:b∈fp)(e:h.get? b=some o):(b,o)∈jO fp h:=mem_filterMap.mpr ⟨b,hb,by rw[e];rfl⟩
theorem HQ{fp:List Addr}{h:Heap}{p:Addr×Obj}(hp:p∈jO fp h):p.1∈fp/\h.get? p.1=some p.2:=by
 obtain⟨b,hb,e⟩:=mem_filterMap.mp hp
 cases q:h.get? b with
 |none=>rw[q]at e;cases e
 |some o=>
  rw[q]at e
  have e':(b,o)=p:=Option.some.inj e
  subst e'
  exact⟨hb,q⟩
theorem Inv.pinned{pins:List (Addr×Obj)}{σ:St}{H:Hp}{s:Shared}{fp:List Addr}(I:Inv X pins σ H s)(hf:∀b∈fp,gF X pins H b)(ho:∀b∈fp,∃o,s.heap.get? b=some o/\∀v,o.data≠.cell v):Inv X (pins++jO fp s.heap) σ H s:=
 I.pins_of λp hp=>(mem_append.mp hp).elim (λz=>I.pin p (mem_append_right _ z)) λz=>by
  obtain⟨hb,e⟩:=HQ z
  obtain⟨f0,f1,f2,_⟩:=hf p.1 hb
  obtain⟨o,e',d⟩:=ho p.1 hb
  rw[e]at e';cases e'
  exact⟨e,f0,f1,f2,d⟩
theorem Inv.unpinned{pins pl:List (Addr×Obj)}{σ:St}{H:Hp}{s:Shared}(I:Inv X (pins++pl) σ H s):Inv X pins σ H s:=I.pins_of λp hp=>I.pin p (mem_append_right _ (mem_append_left _ hp))
theorem c5{iter:Expr}{body:List Stmt}{wi:TI}{g:TG}{tb:TS}{pos:Pos}(hp:PassesOwn (model X.prog X.w) X.A X.env X.xe)(hc:X.calm=true)(hi:PI X tg iter wi)(hg:PG X tg g)(hb:PSs X body tb)
  (hs:∀x,foldedSetIterable iter X.env x=pure x:=by intro _;rfl):PS X (.For tg iter body [] pos) (DI wi g tb):=by
 intro pins s σ H D I h
 refine wpAny_For (aH (hi pins s σ H _ I h) λv s1 h1=>aH h1 λitv s2 h2=>?_) hs
 obtain⟨it,fp,tn,J,H2,e,I2,T,st2,f2,W,⟨m0,w0⟩,turn⟩:=h2
 subst e
 have stat:∀{H':Hp},(∀b∈fp,H' b=none)->∀b∈fp,gF X pins H' b:=λhn b hb=>⟨hn b hb,(f2 b hb).2⟩
 refine codeAny_forLoop_any (λn s'=>∃i σ' H',Inv X pins σ' H' s'/\tn i s'.heap/\(∀b∈fp,H' b=none)/\W i n σ' H') ?_ m0 ⟨0,σ,H2,I2,st2,λb hb=>(f2 b hb).1,w0⟩
 rintro n s3 ⟨i,σ3,H3,I3,st3,fr3,w3⟩
 rcases turn i n σ3 H3 w3 with⟨stop,qn⟩|⟨go,N,hN,step⟩
 ·refine wpAny_passesOwn hp (aH (T.done X rfl rfl rfl hc i pins s3 σ3 H3 X.xe I3 (stat fr3) st3 stop) λr s4⟨hr,I4⟩=>?_)
  subst hr
  exact wpAny_execs_nil ⟨σ3,H3,I4,qn⟩
 ·refine wpAny_passesOwn hp (aH (T.item X rfl rfl rfl hc i pins s3 σ3 H3 X.xe I3 (stat fr3) st3 go) λr s4⟨u,hr,h4⟩=>?_)
  subst hr
  refine wpAny_passesOwn hp (aH h4 λ_ s5⟨x,H5,I5,r5,y5,st5,fr5⟩=>?_)
  have I5':=I5.pinned (stat fr5) (T.obj _ _ st5)
  refine wpAny_passesOwn hp (aH (hg _ s5 σ3 H5 x u _ I5' r5 (step x H5 y5)) λ_ s6⟨σ6,H6,I6,q6⟩=>?_)
  refine wpAny_passesOwn hp (aH (hb _ s6 σ6 H6 _ I6 q6) λf s7 q7=>?_)
  have again:∀{σ7:St}{H7:Hp},Inv X (pins++jO fp s5.heap) σ7 H7 s7->N σ7 H7->∃m,m<n/\∃i σ' H',Inv X pins σ' H' s7/\tn i s7.heap/\(∀b∈fp,H' b=none)/\W i m σ' H':=λ{σ7 H7}I7 n7=>by
   obtain⟨m',hm,w7⟩:=hN σ7 H7 n7
   refine⟨m',hm,i+1,σ7,H7,I7.unpinned,T.keep _ _ _ st5 λb hb o e=>(I7.pin (b,o) (mem_append_right _ (mem_append_right _ (pI hb e)))).1,λb hb=>?_,w7⟩
   obtain⟨o,e,d⟩:=T.obj _ _ st5 b hb
   exact(I7.pin (b,o) (mem_append_right _ (mem_append_right _ (pI hb e)))).2.1
  cases f with
  |next=>obtain⟨σ7,H7,I7,n7⟩:=q7;exact again I7 n7
  |cont=>obtain⟨σ7,H7,I7,n7⟩:=q7;exact again I7 n7
  |brk=>obtain⟨σ7,H7,I7,q7⟩:=q7;exact⟨σ7,H7,I7.unpinned,q7⟩
  |ret v=>obtain⟨x7,σ7,H7,I7,r7,q7⟩:=q7;exact⟨x7,σ7,H7,I7.unpinned,r7,q7⟩
end
noncomputable abbrev R2:=V->V->Hp->VK->Prop
noncomputable def OpR(X:Cx)(f:Value->Value->Sem Value)(r:R2):Prop:=
 ∀(pins:List (Addr×Obj))(s:Shared)(σ:St)(H:Hp)(x y:V)(v u:Value)(Q:VK),Inv X pins σ H s->RelV x v->RelV y u->r x y H Q->
  wpAny (model X.prog X.w) X.A (f v u) (EP X pins σ Q) X.xe s
noncomputable def BZ(X:Cx)(f:Value->Sem Value)(r:V->Hp->VK->Prop):Prop:=
 ∀(pins:List (Addr×Obj))(s:Shared)(σ:St)(H:Hp)(x:V)(v:Value)(Q:VK),Inv X pins σ H s->RelV x v->r x H Q->
  wpAny (model X.prog X.w) X.A (f v) (EP X pins σ Q) X.xe s
noncomputable def CallR(X:Cx)(f:Value)(r:List V->Hp->VK->Prop):Prop:=
 ∀(pins:List (Addr×Obj))(s:Shared)(σ:St)(H:Hp)(xs:List V)(us:List Value)(Q:VK),Inv X pins σ H s->Vals xs us->r xs H Q->
  wpAny (model X.prog X.w) X.A (call f us) (EP X pins σ Q) X.xe s
noncomputable def lU(r:R2)(ta tb:TE):TE:=λσ H Q=>ta σ H λx H1=>tb σ H1 λy H2=>r x y H2 Q
noncomputable def C3(r:V->Hp->VK->Prop)(ta:TE):TE:=λσ H Q=>ta σ H λx H1=>r x H1 Q
noncomputable def rI(C:Int->Int->Prop)(g:Int->Int->V):R2:=λx y H Q=>∃i j,x=.int i/\y=.int j/\C i j/\Q (g i j) H
noncomputable def iQ(g:Int->Int->V):R2:=λx y H Q=>∃i j,x=.int i/\y=.int j/\Q (g i j) H
noncomputable def rU(g:Int->V):V->Hp->VK->Prop:=λx H Q=>∃i,x=.int i/\Q (g i) H
section
variable{X:Cx}{a b c:Expr}{ta tb tc:TE}{pos:Pos}
theorem AQ(ha:PE X a ta)(hb:PE X b tb){pins:List (Addr×Obj)}{s:Shared}{σ:St}{H:Hp}{R:V->V->Hp->Prop}(I:Inv X pins σ H s)
  (h:ta σ H λx H1=>tb σ H1 λy H2=>R x y H2) {Q:Value->Shared->Prop} {f:Value->Value->Sem Value}
  (hf:∀v u s2 x y H2,Inv X pins σ H2 s2->RelV x v->RelV y u->R x y H2->wpAny (model X.prog X.w) X.A (f v u) Q X.xe s2):
  wpAny (model X.prog X.w) X.A (eval a X.env) (λv s₁=>wpAny (model X.prog X.w) X.A (eval b X.env) (λu s₂=>wpAny (model X.prog X.w) X.A (f v u) Q X.xe s₂) X.xe s₁) X.xe s:=by
 refine aH (ha pins s σ H _ I h) λv s1⟨x,H1,I1,r1,q1⟩=>?_
 refine aH (hb pins s1 σ H1 _ I1 q1) λu s2⟨y,H2,I2,r2,q2⟩=>?_
 exact hf v u s2 x y H2 I2 r1 r2 q2
theorem bF{op:Operator}{r:R2}(ho:OpR X (binaryOp op) r)(ha:PE X a ta)(hb:PE X b tb):PE X (.BinOp a op b pos) (lU r ta tb):=by
 intro pins s σ H Q I h
 exact wpAny_BinOp (AQ ha hb I h λv u s2 x y H2 I2 rx ry q=>ho pins s2 σ H2 x y v u Q I2 rx ry q)
theorem iU{op:UnaryOp}{r:V->Hp->VK->Prop}(ho:BZ X (unaryOp op) r)(ha:PE X a ta):PE X (.UnaryOp op a pos) (C3 r ta):=by
 intro pins s σ H Q I h
 exact UnaryOp_ (aH (ha pins s σ H _ I h) λv s1⟨x,H1,I1,r1,q1⟩=>ho pins s1 σ H1 x v Q I1 r1 q1)
theorem HB{f:Value->Value->Sem Value}{C:Int->Int->Prop}{g:Int->Int->Int}
  (rule:∀(i j:Int)(t u:Tok)(s:Shared)(Q:Value->Shared->Prop)(E:Value->Shared->Prop),C i j->Q (.int (g i j) s.toks) { s with toks:=s.toks+1 }->wpAny (model X.prog X.w) X.A (f (.int i t) (.int j u)) Q E s):
  OpR X f (rI C λi j=>.int (g i j)):=by
 intro pins s σ H x y v u Q I rx ry h
 obtain⟨i,j,rfl,rfl,hc,q⟩:=h
 obtain⟨t,rfl⟩:=rx
 obtain⟨t',rfl⟩:=ry
 exact rule i j t t' s _ _ hc ⟨.int (g i j),H,I.tok _,⟨_,rfl⟩,q⟩
theorem HA{f:Value->Value->Sem Value}{g:Int->Int->Int}
  (rule:∀(i j:Int)(t u:Tok)(s:Shared)(Q:Value->Shared->Prop)(E:Value->Shared->Prop),Q (.int (g i j) s.toks) { s with toks:=s.toks+1 }->wpAny (model X.prog X.w) X.A (f (.int i t) (.int j u)) Q E s):
  OpR X f (iQ λi j=>.int (g i j)):=by
 intro pins s σ H x y v u Q I rx ry h
 obtain⟨i,j,rfl,rfl,q⟩:=h
 obtain⟨t,rfl⟩:=rx
 obtain⟨t',rfl⟩:=ry
 exact rule i j t t' s _ _ ⟨.int (g i j),H,I.tok _,⟨_,rfl⟩,q⟩
theorem pA{f:Value->Value->Sem Value}{g:Int->Int->Bool}
  (rule:∀(i j:Int)(t u:Tok)(s:Shared)(Q:Value->Shared->Prop)(E:Value->Shared->Prop),Q (.bool (g i j)) s->wpAny (model X.prog X.w) X.A (f (.int i t) (.int j u)) Q E s):
  OpR X f (iQ λi j=>.bl (g i j)):=by
 intro pins s σ H x y v u Q I rx ry h
 obtain⟨i,j,rfl,rfl,q⟩:=h
 obtain⟨t,rfl⟩:=rx
 obtain⟨t',rfl⟩:=ry
 exact rule i j t t' s _ _ ⟨.bl (g i j),H,I,rfl,q⟩
noncomputable def CMul(i j:Int):Prop:=(-(2^64)<i/\i<2^64)\/(-(2^64)<j/\j<2^64)
theorem CMul.ok{i j:Int}(h:CMul i j):IntMulOk i j:=by
 rcases h with⟨h1,h2⟩|⟨h1,h2⟩
 ·exact .of_left (intBits_le_64 h1 h2)
 ·exact .of_right (intBits_le_64 h1 h2)
theorem eU:OpR X (binaryOp .Add) (iQ λi j=>.int (i+j)):=HA λ_ _ _ _ _ _ _ q=>add_int q
theorem jR:OpR X (binaryOp .Sub) (iQ λi j=>.int (i-j)):=HA λ_ _ _ _ _ _ _ q=>sub_int q
theorem j5:OpR X (binaryOp .Mult) (rI CMul λi j=>.int (i*j)):=HB λ_ _ _ _ _ _ _ hc q=>mul_int q hc.ok
theorem o7:OpR X (binaryOp .Mod) (rI (λ_ j=>0<j) λi j=>.int (i%j)):=HB λi j _ _ _ _ _ hc q=>by
 have h1:(0:Int)<j:=hc
 exact mod_int' (by lia) (by rw[Int.fmod_eq_emod_of_nonneg i (by lia)];exact q)
theorem n5{f:Value->Sem Value}{g:Int->Int}
  (rule:∀(i:Int)(t:Tok)(s:Shared)(Q:Value->Shared->Prop)(E:Value->Shared->Prop),Q (.int (g i) s.toks) { s with toks:=s.toks+1 }->wpAny (model X.prog X.w) X.A (f (.int i t)) Q E s):
  BZ X f (rU λi=>.int (g i)):=by
 intro pins s σ H x v Q I rx h
 obtain⟨i,rfl,q⟩:=h
 obtain⟨t,rfl⟩:=rx
 exact rule i t s _ _ ⟨.int (g i),H,I.tok _,⟨_,rfl⟩,q⟩
theorem iL:BZ X (unaryOp .USub) (rU λi=>.int (-i)):=n5 λ_ _ _ _ _ q=>neg_int q
theorem JS{pins:List (Addr×Obj)}{σ:St}{H:Hp}{s:Shared}{Q:VK}{k k':Bool}(I:Inv X pins σ H s)(q:Q (.bl k) H)(e:k=k'):EP X pins σ Q (.bool k') s:=by
 subst e
 exact⟨.bl k,H,I,rfl,q⟩
theorem S5:OpR X (compareOp .Lt) (iQ λi j=>.bl (decide (i<j))):=pA λ_ _ _ _ _ _ _ q=>lt_int q
theorem G8:OpR X (compareOp .LtE) (iQ λi j=>.bl (decide (i<=j))):=pA λ_ _ _ _ _ _ _ q=>le_int q
theorem o9:OpR X (compareOp .Gt) (iQ λi j=>.bl (decide (j<i))):=pA λ_ _ _ _ _ _ _ q=>gt_int q
theorem S8:OpR X (compareOp .GtE) (iQ λi j=>.bl (decide (j<=i))):=pA λ_ _ _ _ _ _ _ q=>ge_int q
theorem S6:OpR X (compareOp .Is) (λx y H Q=>y=.non/\Q (.bl (decide (x=.non))) H):=by
 intro pins s σ H x y v u Q I rx ry h
 obtain⟨rfl,q⟩:=h
 cases ry
 refine is_none_gen (JS I q ?_)
 cases x <;> first
  |(cases rx;rfl)
  |(obtain⟨t,rfl⟩:=rx;rfl)
theorem S3:OpR X (compareOp .IsNot) (λx y H Q=>y=.non/\Q (.bl (!decide (x=.non))) H):=by
 intro pins s σ H x y v u Q I rx ry h
 obtain⟨rfl,q⟩:=h
 cases ry
 refine isnot_none_gen (JS I q ?_)
 cases x <;> first
  |(cases rx;rfl)
  |(obtain⟨t,rfl⟩:=rx;rfl)
theorem OpR.or{f:Value->Value->Sem Value}{r r':R2}(h:OpR X f r)(h':OpR X f r'):OpR X f (λx y H Q=>r x y H Q\/r' x y H Q):=by
 intro pins s σ H x y v u Q I rx ry q
 rcases q with q|q
 ·exact h pins s σ H x y v u Q I rx ry q
 ·exact h' pins s σ H x y v u Q I rx ry q
theorem aY(b:Expr){op:CmpOp}(h:op≠.In:=by decide)(h2:op≠.NotIn:=by decide):behindInMarks op b=false:=by
 have e1:(op==CmpOp.In)=false:=by cases op <;> first|rfl|exact absurd rfl h
 have e2:(op==CmpOp.NotIn)=false:=by cases op <;> first|rfl|exact absurd rfl h2
 cases b <;> simp[behindInMarks,e1,e2]
theorem fU{op:CmpOp}{r:R2}(ho:OpR X (compareOp op) r)(ha:PE X a ta)(hb:PE X b tb)(hm:behindInMarks op b=false):PE X (.Compare a [op] [b] pos) (lU r ta tb):=by
 intro pins s σ H Q I h
 exact wpAny_Compare1 (AQ ha hb I h λv u s2 x y H2 I2 rx ry q=>ho pins s2 σ H2 x y v u Q I2 rx ry q) hm
noncomputable def C5(t:TE):TT:=λσ H Q=>t σ H λx H'=>∃k,x=.bl k/\Q k H'
theorem aT{op:CmpOp}{r:R2}(ho:OpR X (compareOp op) r)(ha:PE X a ta)(hb:PE X b tb)(hm:behindInMarks op b=false):PT X (.Compare a [op] [b] pos) (C5 (lU r ta tb)):=by
 intro pins s σ H Q I h
 refine wpAny_isTrue_Compare1 (aH (ha pins s σ H _ I h) λv s1⟨x,H1,I1,r1,q1⟩=>aH (hb pins s1 σ H1 _ I1 q1) λu s2⟨y,H2,I2,r2,q2⟩=>
  aH (ho pins s2 σ H2 x y v u _ I2 r1 r2 q2) λc s3⟨z,H3,I3,r3,k,e,q3⟩=>?_) hm
 subst e
 cases r3
 exact wpAny_truthy_bool ⟨H3,I3,q3⟩
noncomputable def DN(r r':R2)(ta tb tc:TE):TE:=λσ H Q=>ta σ H λx H1=>tb σ H1 λy H2=>r x y H2 λz H3=>∃k,z=.bl k/\
 (if k=true then tc σ H3 λw' H4=>r' y w' H4 Q else Q (.bl false) H3)
theorem SW{op op':CmpOp}{r r':R2}(ho:OpR X (compareOp op) r)(ho':OpR X (compareOp op') r')(ha:PE X a ta)(hb:PE X b tb)(hc:PE X c tc)
  (hm:lastMarks [op,op'] [b,c]=false:=by with_unfolding_all rfl):PE X (.Compare a [op,op'] [b,c] pos) (DN r r' ta tb tc):=by
 intro pins s σ H Q I h
 refine Compare_chain (aH (ha pins s σ H _ I h) λv s1⟨x,H1,I1,r1,q1⟩=>chain_link (aH (hb pins s1 σ H1 _ I1 q1) λu s2⟨y,H2,I2,r2,q2⟩=>
  aH (ho pins s2 σ H2 x y v u _ I2 r1 r2 q2) λd s3⟨z,H3,I3,r3,k,e,q3⟩=>?_)) hm
 subst e
 cases r3
 refine wpAny_truthy_bool ?_
 cases k with
 |false=>exact ite_ff ⟨.bl false,H3,I3,rfl,q3⟩
 |true=>exact ite_tt (chain_last (aH (hc pins s3 σ H3 _ I3 q3) λw' s4⟨z',H4,I4,r4,q4⟩=>ho' pins s4 σ H4 y z' u w' Q I4 r2 r4 q4))
theorem pN:(sizeLine:Nat)<2^63:=by rw[sizeLine_eq];decide
theorem vals1{x:V}{us:List Value}(r:Vals [x] us):∃u,us=[u]/\RelV x u:=by
 cases r with
 |cons r1 r2=>cases r2;exact⟨_,rfl,r1⟩
theorem vals2{x y:V}{us:List Value}(r:Vals [x,y] us):∃u w',us=[u,w']/\RelV x u/\RelV y w':=by
 cases r with
 |cons r1 r2=>
  cases r2 with
  |cons r3 r4=>cases r4;exact⟨_,_,rfl,r1,r3⟩
theorem aaJ:CallR X (.builtin "abs") (λxs H Q=>∃i,xs=[.int i]/\Q (.int (if i<0 then -i else i)) H):=by
 intro pins s σ H xs us Q I r h
 obtain⟨i,rfl,q⟩:=h
 obtain⟨u,rfl,t,rfl⟩:=vals1 r
 exact call_abs_int λu tk=>⟨.int (if i<0 then -i else i),H,I.tok _,⟨_,rfl⟩,q⟩
theorem aaA(hc:X.calm=true):CallR X (.builtin "max") (λxs H Q=>∃i j,xs=[.int i,.int j]/\Q (.int (if j>i then j else i)) H):=by
 intro pins s σ H xs us Q I r h
 obtain⟨i,j,rfl,q⟩:=h
 obtain⟨u,w',rfl,⟨t,rfl⟩,⟨t',rfl⟩⟩:=vals2 r
 refine max_two_ints (I.ok.hd hc) λh' tk k=>⟨_,H,I.kept k,?_,q⟩
 by_cases hj:j>i
 ·rw[if_pos hj,if_pos hj];exact⟨_,rfl⟩
 ·rw[if_neg hj,if_neg hj];exact⟨_,rfl⟩
theorem aaF:CallR X (.type "int") (λxs H Q=>(∃i,xs=[.int i]/\Q (.int i) H)\/∃k,xs=[.bl k]/\Q (.int (if k then 1 else 0)) H):=by
 intro pins s σ H xs us Q I r h
 rcases h with⟨i,rfl,q⟩|⟨k,rfl,q⟩
 ·obtain⟨u,rfl,t,rfl⟩:=vals1 r
  exact call_int_int ⟨.int i,H,I,⟨_,rfl⟩,q⟩
 ·obtain⟨u,rfl,r1⟩:=vals1 r
  cases r1
  exact call_int_bool ⟨.int (if k then 1 else 0),H,I.tok _,⟨_,rfl⟩,q⟩
end
structure ObjM (h:Heap) (x dx C:Addr) (mA:Str->Option Value):Prop where
 obj:h.get? x=some (PySem.W.instObj C dx)
 ns:h.Ns1 dx mA
 ne:dx≠x
theorem WZ{h:Heap}{dx:Addr}{mA:Str->Option Value}(n:h.Ns1 dx mA):∃od,h.get? dx=some od/\∀name,PySem.W.lookIn name od=some (mA name):=by
 obtain⟨o,es,ep,ho,hd,hk,_,hm⟩:=n
 refine⟨o,ho,λname=>?_⟩
 have e:=hm name
 unfold nsFind findBy at e
 rw[<-Array.find?_toList]at e
 unfold PySem.W.lookIn
 rw[hd]
 dsimp only
 split
 ·rename_i y q
  rw[q]at e
  exact congrArg some e
 ·rename_i q
  rw[q]at e
  have a:es.toList.any (·.refKey)=false:=by
   rw[any_eq_false]
   intro y hy
   obtain⟨z,t,hkey⟩:=hk y (Array.mem_toList_iff.mp hy)
   simp[DictEntry.refKey,hkey]
  have a':¬es.toList.any (·.refKey)=true:=by rw[a];exact Bool.false_ne_true
  rw[if_neg a']
  exact congrArg some e
theorem ObjM.look{h:Heap}{x dx C:Addr}{mA:Str->Option Value}(I:ObjM h x dx C mA):∃od,PySem.W.InstAt h x (PySem.W.instObj C dx) C (some od)/\∀name,PySem.W.lookIn name od=some (mA name):=
 let⟨od,ho,hl⟩:=WZ I.ns
 ⟨od,⟨I.obj,rfl,rfl,ho⟩,hl⟩
section
variable{prog:Program}{w:World}{A:Around}{E:Value->Shared->Prop}{s:Shared}{K:PySem.W.Frag}{x dx C f:Addr}{mA:Str->Option Value}{name:Str}{v:Value}
theorem YZ{expr:Bool}{Q:Value->Shared->Prop}(X:K.In s.heap)(I:ObjM s.heap x dx C mA)(hg:PySem.W.plainGet K C name=true)(hh:PySem.W.hasDictIn K C=true)
  (ha:PySem.W.findIn K (.ref C) name=some none) (hv:mA name=some v) (hv':PySem.W.handedIn v=true) (h:Q v { s with toks:=s.toks+1 }):
  wpAny (model prog w) A (getAttr (.ref x) name expr) Q E s:=by
 obtain⟨od,J,hl⟩:=I.look
 exact PySem.W.get_value X J (PySem.W.plainGet_of hg).1 (PySem.W.findObj_own hh ha rfl (by rw[hl,hv])) hv' h
theorem YY{pl:Sem Bool}{Q:Value×List Value->Shared->Prop}(X:K.In s.heap)(I:ObjM s.heap x dx C mA)(hg:PySem.W.plainGet K C name=true)
  (hf:PySem.W.findIn K (.ref C) name=some (some (.ref f))) (ht:PySem.W.isFn K (.ref f)=true) (hv:mA name=none) (h:Q (.ref f,[.ref x]) s):
  wpAny (model prog w) A (getMethod (.ref x) name pl) Q E s:=by
 obtain⟨od,J,hl⟩:=I.look
 exact PySem.W.method_fn X J (PySem.W.plainGet_of hg).1 (PySem.W.plainGet_of hg).2 hf (beq_iff_eq.mp ht) (by show(PySem.W.lookIn name od).map (·.isSome)=some false;rw[hl,hv];rfl) h
theorem jZ{ns:List Str}{Q:Unit->Shared->Prop}(X:K.In s.heap)(I:ObjM s.heap x dx C mA)
  (hs:PySem.W.findIn K (.ref C) "__setattr__"=some (some (.builtin "object.__setattr__"))) (hp:PySem.W.plainOver K C=true) (ht:PySem.W.takerIn K C name=some none) (hh:PySem.W.hasDictIn K C=true)
  (hw:PySem.Within mA ns) (hsz:ns.length<=sizeLine)
  (h:∀h',ObjM h' x dx C (λy=>if y=name then some v else mA y)->Heap.SameBut dx s.heap h'->Q () { s with heap:=h',toks:=s.toks+2 }):
  wpAny (model prog w) A (setAttr (.ref x) name v) Q E s:=by
 obtain⟨od,J,hl⟩:=I.look
 refine PySem.W.set_plain X J hs (PySem.W.osa_open (s:={ s with toks:=s.toks+1 }) (r:=none) X J hp ht λb=>?_)
 obtain⟨cd,hc,hd'⟩:=PySem.W.any_some hh
 have hx:s.heap.get? x=some ⟨.ref C,some dx,.plain,#[]⟩:=I.obj
 refine wpAny_bind (wpAny_pure (wpAny_bind (wpAny_bind (wpAny_loadPart hx (wpAny_bind (PySem.W.Looks.here (s:={ s with toks:=s.toks+1 }) (PySem.W.looks_clsIn X hc) ?_))))))
 rw[hd']
 refine wpAny_pure (a:=some dx) (wpAny_bind (wpAny_pure (wpAny_bind ?_)))
 refine wpAny_nsSet1 (s:={ s with toks:=s.toks+1 }) I.ns λh' hn2 hs2=>?_
 obtain⟨oD,esD,epD,hoD,hdD,hcD⟩:=hn2.count (PySem.Within.cons name v hw)
 refine wpAny_bind (wpAny_lookBehind hoD (by rw[hdD];exact pastItsLine_dict (Nat.le_trans hcD (by rw[length_cons];lia))) ?_)
 exact wpAny_pure (h _ ⟨(hs2.2 _ (Ne.symm I.ne)).trans I.obj,hn2,I.ne⟩ hs2)
theorem VR{R:Result->Shared->Prop}{vs:List Value}{kw:List (Str×Value)}(X:K.In s.heap)(hm:PySem.W.makesIn K C=true)
  (hi:PySem.W.findIn K (.ref C) "__init__"=some (some (.ref f))) (hf:PySem.W.typeIn K (.ref f)=some (.type "function"))
  (h:codeAny (model prog w) (A.under (.builtin "type.__call__" ⟨.ref C::vs,kw⟩)) (.call (.ref f) ⟨.ref (s.heap.objs.size+1)::vs,kw⟩) (PySem.W.InitBack (s.heap.objs.size+1) R)
   { s with heap:=(s.heap.push PySem.W.emptyDict).push (PySem.W.instObj C s.heap.objs.size) }):
  codeAny (model prog w) A (.call (.ref C) ⟨vs,kw⟩) R s:=by
 obtain⟨hh,g,d,t,os⟩:=s
 exact PySem.W.make_core (PySem.W.makes_of X hm) (PySem.W.looks_findIn X hi) (λself=>PySem.W.bind_fn X self hf) (.inl rfl) h
end
noncomputable def cR(f:Str)(v:V):List (Str×V)->List (Str×V)
 |[]=>[(f,v)]
 |(g,x)::r=>if g=f then(g,v)::r else(g,x)::cR f v r
theorem IO(f g:Str)(v:V):∀fs:List (Str×V),(cR f v fs).lookup g=if g=f then some v else fs.lookup g
 | []=>by
  show List.lookup g [(f,v)]=_
  by_cases h:g=f
  ·have hb:(g==f)=true:=beq_iff_eq.mpr h
   simp only[List.lookup,hb,if_pos h]
  ·have hb:(g==f)=false:=beq_eq_false_iff_ne.mpr h
   simp only[List.lookup,hb,if_neg h]
 | (k,x)::r=>by
  have ih:=IO f g v r
  rw[show cR f v ((k,x)::r)=(if k=f then(k,v)::r else(k,x)::cR f v r) from rfl]
  by_cases hk:k=f
  ·rw[if_pos hk]
   by_cases h:g=k
   ·have hb:(g==k)=true:=beq_iff_eq.mpr h
    simp only[List.lookup,hb,if_pos (h.trans hk)]
   ·have hb:(g==k)=false:=beq_eq_false_iff_ne.mpr h
    simp only[List.lookup,hb,if_neg (λe:g=f=>h (e.trans hk.symm))]
  ·rw[if_neg hk]
   by_cases h:g=k
   ·have hb:(g==k)=true:=beq_iff_eq.mpr h
    simp only[List.lookup,hb,if_neg (λe:g=f=>hk (h.symm.trans e))]
   ·have hb:(g==k)=false:=beq_eq_false_iff_ne.mpr h
    simp only[List.lookup,hb]
    exact ih
theorem xW(f:Str)(v:V):∀fs:List (Str×V),f∈(cR f v fs).map (·.1)/\∀g,g∈fs.map (·.1)->g∈(cR f v fs).map (·.1)
 |[]=>⟨by simp[cR],λg h=>by simp at h⟩
 | (k,x)::r=>by
  obtain⟨i1,i2⟩:=xW f v r
  rw[show cR f v ((k,x)::r)=(if k=f then(k,v)::r else(k,x)::cR f v r) from rfl]
  by_cases hk:k=f
  ·rw[if_pos hk]
   subst hk
   exact⟨by simp,λg h=>by simpa using h⟩
  ·rw[if_neg hk]
   refine⟨?_,λg h=>?_⟩
   ·rw[map_cons]
    exact mem_cons_of_mem _ i1
   ·rw[map_cons]at h ⊢
    rcases mem_cons.mp h with e|e
    ·exact mem_cons.mpr (.inl e)
    ·exact mem_cons_of_mem _ (i2 g e)
theorem IU(f:Str)(v:V):∀fs:List (Str×V),(cR f v fs).length<=fs.length+1
 |[]=>by simp[cR]
 |(k,x)::r=>by
  have ih:=IU f v r
  rw[show cR f v ((k,x)::r)=(if k=f then(k,v)::r else(k,x)::cR f v r) from rfl]
  by_cases hk:k=f
  ·rw[if_pos hk,length_cons,length_cons];lia
  ·rw[if_neg hk,length_cons,length_cons];lia
theorem RelO.some_of{v:V}{o:Option Value}(r:RelO (some v) o):∃u,o=some u/\RelV v u:=by
 cases o with
 |none=>exact(show False from r).elim
 |some u=>exact⟨u,rfl,r⟩
theorem RelO.none_of{o:Option Value}(r:RelO none o):o=none:=by
 cases o with
 |none=>rfl
 |some u=>exact(show False from r).elim
theorem YQ{v:V}{u:Value}(r:RelV v u):PySem.W.handedIn u=true:=by
 cases v with
 |non=>cases(show u=Value.none from r);rfl
 |bl b=>cases(show u=Value.bool b from r);rfl
 |int i=>obtain⟨t,e⟩:=(show ∃t,u=Value.int i t from r);cases e;rfl
 |str x=>obtain⟨t,e⟩:=(show ∃t,u=Value.str x t from r);cases e;rfl
 |byt b=>obtain⟨t,e⟩:=(show ∃t,u=Value.bytes b t from r);cases e;rfl
 |flt b=>obtain⟨t,e⟩:=(show ∃t,u=Value.float b t from r);cases e;rfl
 |ref a=>cases(show u=Value.ref a from r);rfl
 |ty n=>cases(show u=Value.type n from r);rfl
section
variable{P:Program}{w:World}{H H':Hp}{h h':Heap}{a C dx:Addr}{fs fs':List (Str×V)}
theorem pV(hok:HOk P w H h)(e:H a=some (.ins C dx fs)):∃mA,ObjM h a dx C mA/\(∀f,RelO (fs.lookup f) (mA f))/\PySem.Within mA (fs.map (·.1))/\fs.length<=1000/\H dx=some (.own a):=by
 obtain⟨d,z,ne,ob,mA,n,r,q⟩:=(show ObjOk P w H h a (.ins C dx fs) from hok a _ e)
 exact⟨mA,⟨ob,n,ne⟩,r,q,z,d⟩
end
structure Cls (K:PySem.W.Frag) (C:Addr):Prop where
 pg:PySem.W.plainGet K C Str.empty=true
 hd:PySem.W.hasDictIn K C=true
 po:PySem.W.plainOver K C=true
 sa:PySem.W.findIn K (.ref C) "__setattr__"=some (some (.builtin "object.__setattr__"))
theorem Cls.get{K:PySem.W.Frag}{C:Addr}(c:Cls K C)(f:Str):PySem.W.plainGet K C f=true:=c.pg
noncomputable def NoAttr(K:PySem.W.Frag)(C:Addr)(f:Str):Prop:=PySem.W.findIn K (.ref C) f=some none
theorem NoAttr.taker{K:PySem.W.Frag}{C:Addr}{f:Str}(n:NoAttr K C f):PySem.W.takerIn K C f=some none:=by
 unfold PySem.W.takerIn
 rw[show PySem.W.findIn K (.ref C) f=some none from n]
 rfl
structure jJ (K:PySem.W.Frag) (C:Addr) (f:Str) (v:V) (u:Value):Prop where
 at_:PySem.W.findIn K (.ref C) f=some (some u)
 rel:RelV v u
 get:PySem.W.specialIn K u "__get__"=some none
 cp:PySem.W.copiedNames.contains f=false
structure gE (K:PySem.W.Frag) (C:Addr) (m:Str) (f:Addr):Prop where
 at_:PySem.W.findIn K (.ref C) m=some (some (.ref f))
 fn:PySem.W.isFn K (.ref f)=true
 kp:PySem.W.keepIn K (.ref f)=true
section
variable{X:Cx}{pins:List (Addr×Obj)}{σ:St}{H:Hp}{s:Shared}{a C dx:Addr}{fs:List (Str×V)}{f:Str}{v:V}{A:Around}{E:Value->Shared->Prop}
theorem YX{b:Bool}{Q:Value->Shared->Prop}(I:Inv X pins σ H s)(e:H a=some (.ins C dx fs))(c:Cls X.K C)(n:NoAttr X.K C f)(l:fs.lookup f=some v)
  (h:∀u s',Inv X pins σ H s'->RelV v u->Q u s'):wpAny (model X.prog X.w) A (getAttr (.ref a) f b) Q E s:=by
 obtain⟨mA,O,r,_,_,_⟩:=pV I.hok e
 obtain⟨u,hu,ru⟩:=RelO.some_of (v:=v) (o:=mA f) (by rw[<-l];exact r f)
 exact YZ I.kIn O (c.get f) c.hd n hu (YQ ru) (h u _ (I.tok _) ru)
theorem JK{m:Str}{g:Addr}{pl:Sem Bool}{Q:Value×List Value->Shared->Prop}(I:Inv X pins σ H s)(e:H a=some (.ins C dx fs))(c:Cls X.K C)(k:gE X.K C m g)(l:fs.lookup m=none)
  (h:Q (.ref g,[.ref a]) s):wpAny (model X.prog X.w) A (getMethod (.ref a) m pl) Q E s:=by
 obtain⟨mA,O,r,_,_,_⟩:=pV I.hok e
 have hn:mA m=none:=RelO.none_of (by rw[<-l];exact r m)
 exact YY I.kIn O (c.get m) k.at_ k.fn hn h
theorem OJ{y:V}{u:Value}{Q:Unit->Shared->Prop}(I:Inv X pins σ H s)(e:H a=some (.ins C dx fs))(c:Cls X.K C)(n:NoAttr X.K C f)(hl:fs.length<1000)(ry:RelV y u)
  (h:∀s',Inv X pins σ (upd H a (.ins C dx (cR f y fs))) s'->Q () s'):wpAny (model X.prog X.w) A (setAttr (.ref a) f u) Q E s:=by
 obtain⟨mA,O,r,wi,_,ho⟩:=pV I.hok e
 have hz:(fs.map (·.1)).length<=sizeLine:=by rw[length_map,sizeLine_eq];lia
 refine jZ I.kIn O c.sa c.po n.taker c.hd wi hz λh' O' sb=>h _ ?_
 have hd:∃o,h'.get? dx=some o:=let⟨o,_,_,e',_⟩:=O'.ns;⟨o,e'⟩
 refine I.write (x:=a) (e:=dx) (by rw[e];exact True.intro) (.inr ho) (λb q hb z=>(sb.2 b hb).trans z) hd ?_
 refine⟨by rw[aE O.ne];exact ho,?_,O.ne,O'.obj,_,O'.ns,λg=>?_,λg hg=>?_⟩
 ·have:=IU f y fs;lia
 ·show RelO ((cR f y fs).lookup g) (if g=f then some u else mA g)
  rw[IO]
  by_cases q:g=f
  ·rw[if_pos q,if_pos q];exact ry
  ·rw[if_neg q,if_neg q];exact r g
 ·by_cases q:g=f
  ·rw[q];exact(xW f y fs).1
  ·refine(xW f y fs).2 g (wi g λz=>hg ?_)
   show(if g=f then some u else mA g)=none
   rw[if_neg q];exact z
theorem Inv.made(I:Inv X pins σ H s):Inv X pins σ (upd (upd H s.heap.objs.size (.own (s.heap.objs.size+1))) (s.heap.objs.size+1) (.ins C s.heap.objs.size []))
  { s with heap:=(s.heap.push PySem.W.emptyDict).push (PySem.W.instObj C s.heap.objs.size) }:=by
 have e1:(s.heap.push PySem.W.emptyDict).get? s.heap.objs.size=some PySem.W.emptyDict:=Heap.get?_push_size s.heap rfl
 have e2:((s.heap.push PySem.W.emptyDict).push (PySem.W.instObj C s.heap.objs.size)).get? (s.heap.objs.size+1)=some (PySem.W.instObj C s.heap.objs.size):=by
  have:=Heap.get?_push_size (s.heap.push PySem.W.emptyDict) (o:=PySem.W.instObj C s.heap.objs.size) rfl
  rwa [Heap.size_push]at this
 have e3:(s.heap.push PySem.W.emptyDict).Ns s.heap.objs.size (λ_=>none):=⟨PySem.W.emptyDict,#[],_,e1,rfl,(λe he=>absurd he (by simp)),λ_=>rfl⟩
 have I1:=I.laid (a:=s.heap.objs.size) (o:=.own (s.heap.objs.size+1)) (h':=s.heap.push PySem.W.emptyDict) (t':=s.toks) (λb u q=>Heap.get?_push_of_some _ q) (Nat.le_refl _) ⟨_,e1⟩
 refine I1.laid (a:=s.heap.objs.size+1) (o:=.ins C s.heap.objs.size []) (t':=s.toks) (λb u q=>Heap.get?_push_of_some _ q) (Nat.le_of_eq (Heap.size_push _ _)) ?_
 have ne:s.heap.objs.size≠s.heap.objs.size+1:=Nat.ne_of_lt (Nat.lt_succ_self _)
 refine⟨by rw[aE ne,aB],Nat.zero_le _,ne,e2,λ_=>none,(Heap.Ns1.of_empty e3).at λo q=>Heap.get?_push_of_some _ q,λ_=>True.intro,λy hy=>absurd rfl hy⟩
theorem abW{prog:Program}{w:World}{env:Env}{e:Expr}{f:Str}{pos:Pos}{s:Shared}{Q:Value->Shared->Prop}(hb:attributeBase e f env (eval e env)=eval e env)
  (h:wpAny (model prog w) A (eval e env) (λo s₁=>wpAny (model prog w) A (getAttr o f true) Q E s₁) E s):wpAny (model prog w) A (eval (.Attribute e f pos) env) Q E s:=
 Attribute_any_ h (by rw[arm_eval_Attribute,hb])
end
noncomputable def DJ(K:PySem.W.Frag)(ta:TE)(f:Str):TE:=λσ H Q=>ta σ H λx H1=>∃a C dx fs v,x=.ref a/\H1 a=some (.ins C dx fs)/\Cls K C/\NoAttr K C f/\fs.lookup f=some v/\Q v H1
noncomputable def E9(K:PySem.W.Frag)(ta tv:TE)(f:Str):TS:=λD σ H=>tv σ H λy H1=>ta σ H1 λx H2=>∃a C dx fs,x=.ref a/\H2 a=some (.ins C dx fs)/\Cls K C/\NoAttr K C f/\fs.length<1000/\
 D.nx σ (upd H2 a (.ins C dx (cR f y fs)))
section
variable{X:Cx}{o e value:Expr}{f:Str}{pos pos' tpos:Pos}{ta tv:TE}
theorem gX(he:PE X e ta)(hb:attributeBase e f X.env (eval e X.env)=eval e X.env):PE X (.Attribute e f pos) (DJ X.K ta f):=by
 intro pins s σ H Q I h
 refine abW hb (aH (he pins s σ H _ I h) λu s1⟨x,H1,I1,rx,a,C,dx,fs,v,ex,ea,c,n,l,q⟩=>?_)
 subst ex
 obtain rfl:u=Value.ref a:=rx
 exact YX I1 ea c n l λu' s2 I2 ru=>⟨v,H1,I2,ru,q⟩
theorem oW(ha:PE X o ta)(hv:PE X value tv)(hs:swapsWith value (some (.Attribute o f pos')) pos.line X.env=pure false):PS X (.Assign [.Attribute o f pos'] value pos) (E9 X.K ta tv f):=by
 intro pins s σ H D I h
 refine plainObj_wpAny_Assign_Attribute (aH (hv pins s σ H _ I h) λu s1⟨y,H1,I1,ry,q⟩=>aH (ha pins s1 σ H1 _ I1 q) λov s2⟨x,H2,I2,rx,a,C,dx,fs,ex,ea,c,n,l,q2⟩=>?_) hs
 subst ex
 obtain rfl:ov=Value.ref a:=rx
 exact OJ I2 ea c n l ry λs3 I3=>⟨σ,_,I3,q2⟩
end
section
variable{X:Cx}{pins:List (Addr×Obj)}{σ:St}{H:Hp}{s:Shared}{A:Around}{E:Value->Shared->Prop}{Q:Value->Shared->Prop}{c:Value}{b:Bool}
inductive fO (K:PySem.W.Frag) (H:Hp):V->Value->Prop where
 |non:fO K H .non (.type "NoneType")
 |bl (x:Bool):fO K H (.bl x) (.type "bool")
 |int (i:Int):fO K H (.int i) (.type "int")
 |str (x:Str):fO K H (.str x) (.type "str")
 |flt (x:UInt64):fO K H (.flt x) (.type "float")
 |lst {a:Addr} {xs:List V} (e:H a=some (.lst xs)):fO K H (.ref a) (.type "list")
 |frz {a:Addr} {o:Obj} {xs:List V} (e:H a=some (.frz o (.lst xs))):fO K H (.ref a) (.type "list")
 |tup {a:Addr} {xs:List V} (e:H a=some (.tup xs)):fO K H (.ref a) (.type "tuple")
 |dK {a:Addr} {kvs:List (aG×V)} (e:H a=some (.dK kvs)):fO K H (.ref a) (.type "dict")
 |dT {a:Addr} {kvs:List (List aG×V)} (e:H a=some (.dT kvs)):fO K H (.ref a) (.type "dict")
 | ins {a C dx:Addr} {fs:List (Str×V)} (e:H a=some (.ins C dx fs)) (cl:Cls K C) (ha:PySem.W.findIn K (.ref C) "__class__"=some (some (.builtin "object.__class__")))
   (hn:PySem.W.specialIn K (.builtin "object.__class__") "__get__"=some (some (.builtin "getset_descriptor.__get__"))) (htk:PySem.W.takesIn K (.builtin "object.__class__")=some true)
   (hm:PySem.W.mroIn K C (.type "object")=some true):fO K H (.ref a) (.ref C)
theorem X7{x:V}{u t:Value}(I:Inv X pins σ H s)(rx:RelV x u)(ty:fO X.K H x t)(e:PySem.W.kitOne X.K t c=some b)(h:∀tk,Q (.bool b) { s with toks:=tk }):
  wpAny (model X.prog X.w) A (call (.builtin "isinstance") [u,c]) Q E s:=by
 cases ty with
 |non=>cases(show u=Value.none from rx);exact PySem.W.kia_one PySem.W.kitx_none I.kIn True.intro e (λz=>nomatch z) h
 |bl y=>cases(show u=Value.bool y from rx);exact PySem.W.kia_one PySem.W.kitx_bool I.kIn True.intro e (λz=>nomatch z) h
 |int i=>obtain⟨t,q⟩:=(show ∃t,u=Value.int i t from rx);cases q;exact PySem.W.kia_one PySem.W.kitx_int I.kIn True.intro e (λz=>nomatch z) h
 |str y=>obtain⟨t,q⟩:=(show ∃t,u=Value.str y t from rx);cases q;exact PySem.W.kia_one PySem.W.kitx_str I.kIn True.intro e (λz=>nomatch z) h
 |flt y=>obtain⟨t,q⟩:=(show ∃t,u=Value.float y t from rx);cases q;exact PySem.W.kia_one PySem.W.kitx_float I.kIn True.intro e (λz=>nomatch z) h
 |@lst a xs ea=>
  cases(show u=Value.ref a from rx)
  obtain⟨_,_,n,_,h1⟩:=(show ObjOk X.prog X.w H s.heap a (.lst xs) from I.hok a _ ea)
  exact PySem.W.kia_one PySem.W.kitx_list I.kIn ⟨_,h1,rfl⟩ e (λz=>nomatch z) h
 |@frz a ob xs ea=>
  cases(show u=Value.ref a from rx)
  obtain⟨_,_,_,n,_,h1⟩:=(show ObjOk X.prog X.w H s.heap a (.frz ob (.lst xs)) from I.hok a _ ea)
  exact PySem.W.kia_one PySem.W.kitx_list I.kIn ⟨_,h1,rfl⟩ e (λz=>nomatch z) h
 |@tup a xs ea=>
  cases(show u=Value.ref a from rx)
  obtain⟨_,_,_,p⟩:=(show ObjOk X.prog X.w H s.heap a (.tup xs) from I.hok a _ ea)
  obtain⟨o,h1,h2,_⟩:=p.1
  exact PySem.W.kia_one PySem.W.kitx_tuple I.kIn ⟨o,h1,h2⟩ e (λz=>nomatch z) h
 |@dK a kvs ea=>
  cases(show u=Value.ref a from rx)
  obtain⟨_,_,vs,_,p⟩:=(show ObjOk X.prog X.w H s.heap a (.dK kvs) from I.hok a _ ea)
  obtain⟨o,es,ep,h1,h2,_⟩:=p
  exact PySem.W.kia_one PySem.W.kitx_dict I.kIn ⟨o,h1,h2.1⟩ e (λz=>nomatch z) h
 |@dT a kvs ea=>
  cases(show u=Value.ref a from rx)
  obtain⟨_,_,xs,_,o,es,ep,h1,h2,_⟩:=(show ObjOk X.prog X.w H s.heap a (.dT kvs) from I.hok a _ ea)
  exact PySem.W.kia_one PySem.W.kitx_dict I.kIn ⟨o,h1,h2.1⟩ e (λz=>nomatch z) h
 |@ins a C dx fs ea cl ha hn htk hm=>
  cases(show u=Value.ref a from rx)
  obtain⟨mA,O,_⟩:=pV I.hok ea
  obtain⟨od,J,_⟩:=O.look
  exact PySem.W.kia_one (PySem.W.kitx_own (cl.get _) cl.hd ha hn htk hm) I.kIn J e (λz=>nomatch z) h
end
structure Room (k:Nat) (A:Around):Prop where
 hd:A.handled=none
 dp:A.depth+3*k+5<recursionLimit
 un:A.units+16*k+200<cLine
theorem Room.mono{j k:Nat}{A:Around}(r:Room k A)(h:j<=k):Room j A:=⟨r.hd,by have:=r.dp;lia,by have:=r.un;lia⟩
theorem Room.deeper{k:Nat}{A:Around}(r:Room (k+1) A)(env:Env):Room k (A.deeper env):=
 ⟨r.hd,by have:=r.dp;show A.depth+1+3*k+5<_;lia,by have:=r.un;show A.units+3+16*k+200<_;lia⟩
theorem Room.in1{k:Nat}{A:Around}(r:Room (k+1) A):Room k A.in1:=
 ⟨r.hd,by have:=r.dp;show A.depth+3*k+5<_;lia,by have:=r.un;show A.units+1+16*k+200<_;lia⟩
theorem VS{A:Around}{C:Addr}{us:List Value}{kw:List (Str×Value)}:(A.under (.builtin "type.__call__" ⟨.ref C::us,kw⟩)).depth=A.depth+1:=by
 first |rfl|simp[Around.under,Code.weight,Code.isCreation,Code.isGuard,Code.isCaller,Code.frames,Code.isFrame,guardIds]
theorem VQ{A:Around}{C:Addr}{us:List Value}{kw:List (Str×Value)}:(A.under (.builtin "type.__call__" ⟨.ref C::us,kw⟩)).units=A.units+1:=by
 first |rfl|simp[Around.under,Code.cUnits,Code.frames,Code.isFrame]
theorem Room.make{k:Nat}{A:Around}(r:Room (k+1) A)(C:Addr)(us:List Value)(kw:List (Str×Value)):Room k (A.under (.builtin "type.__call__" ⟨.ref C::us,kw⟩)):=
 ⟨r.hd,by have:=r.dp;rw[VS];lia,by have:=r.un;rw[VQ];lia⟩
theorem Room.depth{k:Nat}{A:Around}(r:Room k A):A.depth<recursionLimit:=by have:=r.dp;lia
theorem Room.units{k:Nat}{A:Around}(r:Room k A):A.units+64<cLine:=by have:=r.un;lia
theorem Room.units0{k:Nat}{A:Around}(r:Room k A):A.units<cLine:=by have:=r.un;lia
noncomputable def n9:TA:=λ_ H Q=>Q [] H
noncomputable def DM(ta:TE)(tr:TA):TA:=λσ H Q=>ta σ H λx H1=>tr σ H1 λxs H2=>Q (x::xs) H2
section
variable{X:Cx}{e:Expr}{es:List Expr}{te:TE}{t:TA}{pos:Pos}
theorem pa_nil:PA X [] n9:=λ_ _ _ _ H Q I h=>Calls.spliced_nil ⟨[],H,I,.nil,h⟩
theorem aA(ha:PE X e te)(hr:PA X es t)(hs:starEach (e::es) X.env=(false,eval e X.env)::starEach es X.env:=by rfl):PA X (e::es) (DM te t):=by
 intro pos pins s σ H Q I h
 rw[hs]
 show wpAny _ _ (spliced ((false,eval e X.env)::backTo pos (starEach es X.env))) _ _ s
 refine Calls.spliced_cons (aH (ha pins s σ H _ I h) λu s1⟨x,H1,I1,r1,q1⟩=>?_)
 exact aH (hr pos pins s1 σ H1 _ I1 q1) λus s2⟨xs,H2,I2,r2,q2⟩=>⟨x::xs,H2,I2,.cons r1 r2,q2⟩
noncomputable def C4(t:TA):TE:=λσ H Q=>t σ H λxs H1=>xs.length<=sizeLine/\∀p,H1 p=none->Q (.ref p) (upd H1 p (.tup xs))
noncomputable def DE(t:TA):TE:=λσ H Q=>t σ H λxs H1=>xs.length<=sizeLine/\∀p,H1 p=none->Q (.ref p) (upd H1 p (.lst xs))
theorem aV{x1}(h:PA X es t):PE X (.Tuple es x1 pos) (C4 t):=by
 intro pins s σ H Q I hq
 refine wpAny_Tuple_spliced (aH (h pos pins s σ H _ I hq) λus s1⟨xs,H1,I1,r,z,q⟩=>⟨by rw[<-r.length];exact z,?_⟩)
 have hf:H1 s1.heap.objs.size=none:=I1.hok.fresh (Nat.le_refl _)
 refine⟨.ref s1.heap.objs.size,upd H1 s1.heap.objs.size (.tup xs),I1.laid (t':=s1.toks) (λb u e=>Heap.get?_push_of_some _ e) (Nat.le_refl _) ?_,rfl,q _ hf⟩
 exact⟨z,us,r,⟨_,Heap.get?_push_size _ rfl,rfl,_,rfl⟩,_,Heap.get?_push_size _ rfl,rfl⟩
theorem eF(h:PA X es t):PE X (.List es pos) (DE t):=by
 intro pins s σ H Q I hq
 refine wpAny_List_spliced (aH (h pos pins s σ H _ I hq) λus s1⟨xs,H1,I1,r,z,q⟩=>⟨by rw[<-r.length];exact z,?_⟩)
 have hf:H1 s1.heap.objs.size=none:=I1.hok.fresh (Nat.le_refl _)
 refine⟨.ref s1.heap.objs.size,upd H1 s1.heap.objs.size (.lst xs),I1.laid (t':=s1.toks) (λb u e=>Heap.get?_push_of_some _ e) (Nat.le_refl _) ?_,rfl,q _ hf⟩
 exact⟨z,us,0,r,Heap.get?_push_size _ rfl⟩
end
noncomputable abbrev Sp:=List V->Hp->VK->XK->Prop
noncomputable abbrev dH:=List Env->Hp->Shared->XK->Value->Shared->Prop
structure Env0 (P:Program) (w:World) (K:PySem.W.Frag) (mg:Str->Option Value) (base:Heap) (A:Around) (outer:List Env) (s:Shared) (H:Hp):Prop where
 frames:A.frames=some outer
 mod:Mod K mg base
 bs:∀b o,base.get? b=some o->s.heap.get? b=some o/\H b=none
 bsz:base.objs.size<=s.heap.objs.size
 funs:s.heap.FunFrames base outer
 frf:∀b∈bE outer,H b=none
 hok:HOk P w H s.heap
 bare:AllBare s.gens
noncomputable def CE(outer:List Env)(P:Program)(w:World)(H:Hp)(s:Shared)(Q:VK)(u:Value)(s':Shared):Prop:=
 ∃v H',s'.os=s.os/\AllBare s'.gens/\Un (bE outer) [] H H' s.heap s'.heap/\HOk P w H' s'.heap/\RelV v u/\Q v H'
noncomputable def CR(CX:dH)(outer:List Env)(P:Program)(w:World)(H:Hp)(s:Shared)(Q:VK)(E:XK)(r:Result)(s':Shared):Prop:=
 match r with
 | .ok (.ret u)=>CE outer P w H s Q u s'
 | .ok _=>False
 | .error e=>CX outer H s E e s'
structure FnOk (P:Program) (w:World) (K:PySem.W.Frag) (mg:Str->Option Value) (base:Heap) (CX:dH) (k:Nat) (f:Addr) (fd:FuncData) (ps:List Str) (sp:Sp):Prop where
 len:∀vs H Q E,sp vs H Q E->vs.length=ps.length
 run:∀(A:Around)(outer:List Env)(s:Shared)(H:Hp)(args:Args)(us:List Value)(vs:List V)(Q:VK)(E:XK),Room k A->Env0 P w K mg base A outer s H->BindsTo s fd args (ps.zip us)->Vals vs us->sp vs H Q E->
  codeAny (model P w) A (.call (.ref f) args) (CR CX outer P w H s Q E) s
theorem FnOk.mono{P:Program}{w:World}{K:PySem.W.Frag}{mg:Str->Option Value}{base:Heap}{CX:dH}{j k:Nat}{f:Addr}{fd:FuncData}{ps:List Str}{sp:Sp}(F:FnOk P w K mg base CX j f fd ps sp)(h:j<=k):
  FnOk P w K mg base CX k f fd ps sp:=⟨F.len,λA outer s H args us vs Q E hr=>F.run A outer s H args us vs Q E (hr.mono h)⟩
theorem FnOk.imp{P:Program}{w:World}{K:PySem.W.Frag}{mg:Str->Option Value}{base:Heap}{CX:dH}{k:Nat}{f:Addr}{fd:FuncData}{ps:List Str}{sp sp':Sp}(F:FnOk P w K mg base CX k f fd ps sp)
  (h:∀vs H Q E,sp' vs H Q E->sp vs H Q E):FnOk P w K mg base CX k f fd ps sp':=
 ⟨λvs H Q E q=>F.len vs H Q E (h _ _ _ _ q),λA outer s H args us vs Q E hr he hb hv hs=>F.run A outer s H args us vs Q E hr he hb hv (h _ _ _ _ hs)⟩
theorem Env0.make{P:Program}{w:World}{K:PySem.W.Frag}{mg:Str->Option Value}{base:Heap}{A:Around}{outer:List Env}{s:Shared}{H:Hp}(e:Env0 P w K mg base A outer s H)(C:Addr)(us:List Value)(kw:List (Str×Value)):
  Env0 P w K mg base (A.under (.builtin "type.__call__" ⟨.ref C::us,kw⟩)) outer s H:=⟨by first|exact e.frames|(simpa[Around.under,Code.envs,Code.isFrame,pushEnvs]using e.frames),e.mod,e.bs,e.bsz,e.funs,e.frf,e.hok,e.bare⟩
theorem Env0.in1{P:Program}{w:World}{K:PySem.W.Frag}{mg:Str->Option Value}{base:Heap}{A:Around}{outer:List Env}{s:Shared}{H:Hp}(e:Env0 P w K mg base A outer s H):
  Env0 P w K mg base A.in1 outer s H:=⟨e.frames,e.mod,e.bs,e.bsz,e.funs,e.frf,e.hok,e.bare⟩
section
variable{X:Cx}{pins:List (Addr×Obj)}{σ:St}{H:Hp}{s s':Shared}
theorem Inv.env0(I:Inv X pins σ H s):Env0 X.prog X.w X.K X.mg X.base X.A X.stack s H:=
 ⟨I.ok.frames,I.ok.mod,I.bs,Nat.le_trans I.ok.bsz I.sz,I.stack,I.stkFree,I.hok,I.bare⟩
theorem Inv.after{Q:VK}{u:Value}(I:Inv X pins σ H s)(h:CE X.stack X.prog X.w H s Q u s'):EP X pins σ Q u s':=by
 obtain⟨v,H',os,bare,un,hok,r,q⟩:=h
 obtain⟨hh,g,d,t,os'⟩:=s'
 obtain rfl:os'=s.os:=os
 exact⟨v,H',I.call (h':=hh) (g':=g) (d':=d) (t':=t) (ch:=[]) un hok bare (λb z=>absurd z (by simp)),r,q⟩
end
noncomputable def sC(sp:Sp)(dvs:List V)(E:XK)(t:TA):TE:=λσ H Q=>t σ H λvs H1=>sp (vs++dvs) H1 Q E
noncomputable def sA(C:Addr)(m:Str)(sp:Sp)(dvs:List V)(E:XK)(ta:TE)(t:TA):TE:=λσ H Q=>ta σ H λx H1=>∃a dx fs,x=.ref a/\H1 a=some (.ins C dx fs)/\fs.lookup m=none/\
 t σ H1 λvs H2=>sp (x::(vs++dvs)) H2 Q E
noncomputable def NU(C:Addr)(sp:Sp)(dvs:List V)(E:XK)(t:TA):TE:=λσ H Q=>t σ H λvs H1=>∀x dx,H1 x=none->H1 dx=none->dx≠x->
 sp (.ref x::(vs++dvs)) (upd (upd H1 dx (.own x)) x (.ins C dx [])) (λv H2=>v=.non/\Q (.ref x) H2) E
noncomputable def Binds(K:PySem.W.Frag)(fd:FuncData)(ps:List Str)(ds:List Value):Prop:=
 ∀(s:Shared)(us:List Value),K.In s.heap->(us++ds).length=ps.length->BindsTo s fd ⟨us,[]⟩ (ps.zip (us++ds))
theorem Binds.all{K:PySem.W.Frag}{fd:FuncData}{ps:List Str}(h:∀us:List Value,us.length=ps.length->bindArgs fd ⟨us,[]⟩=pure (ps.zip us)):Binds K fd ps []:=λs us _ hl=>by
 rw[append_nil]at hl ⊢
 exact .of_eq (h us hl)
noncomputable def gQ(CX:dH)(X:Cx)(E:XK):Prop:=∀(pins:List (Addr×Obj))(σ:St)(H:Hp)(s:Shared)(e:Value)(s':Shared),Inv X pins σ H s->CX X.stack H s E e s'->X.xe e s'
section
variable{X:Cx}{CX:dH}{k:Nat}{f C:Addr}{fd:FuncData}{ps:List Str}{sp:Sp}{dvs:List V}{ds:List Value}{E:XK}{x m:Str}{p pos apos:Pos}{e o:Expr}{es:List Expr}{ta:TE}{t:TA}
theorem uM{pins:List (Addr×Obj)}{σ:St}{H:Hp}{s:Shared}{Q:VK}{us:List Value}{vs:List V}(F:FnOk X.prog X.w X.K X.mg X.base CX k f fd ps sp)(hr:Room k X.A)(hb:Binds X.K fd ps ds)(hd:Vals dvs ds)(hx:gQ CX X E)
  (I:Inv X pins σ H s) (r:Vals vs us) (h:sp (vs++dvs) H Q E):wpAny (model X.prog X.w) X.A (call (.ref f) us) (EP X pins σ Q) X.xe s:=by
 have r2:Vals (vs++dvs) (us++ds):=r.append hd
 have hl:(us++ds).length=ps.length:=by rw[<-r2.length];exact F.len _ _ _ _ h
 refine wpAny_call (codeAny_mono (F.run X.A X.stack s H ⟨us,[]⟩ (us++ds) (vs++dvs) Q E hr I.env0 (hb s us I.kIn hl) r2 h) λr s' hq=>?_)
 cases r with
 |error e=>exact hx pins σ H s e s' I hq
 |ok fl=>
  cases fl with
  |ret u=>exact I.after hq
  |next=>exact False.elim hq
  |brk=>exact False.elim hq
  |cont=>exact False.elim hq
theorem aQ(F:FnOk X.prog X.w X.K X.mg X.base CX k f fd ps sp)(hr:Room k X.A)(hg:Gl X x)(hm:X.mg x=some (.ref f))(hk:PySem.W.keepIn X.K (.ref f)=true)(hb:Binds X.K fd ps ds)(hd:Vals dvs ds)(hx:gQ CX X E)
  (ha:PA X (e::es) t) (hdb:(x==("__debug__":Str))=false:=by decide) (he:starEach (e::es) X.env=(false,eval e X.env)::starEach es X.env:=by rfl) (hpl:(backTo pos (starEach es X.env)).any (·.1)=false:=by rfl):
  PE X (.Call (.Name x p) (e::es) [] pos) (sC sp dvs E t):=by
 intro pins s σ H Q I h
 refine wpAny_Call_Name_kw (kC I hg hm ?_ hdb)
 refine PySem.W.callWith_K (h₀:=X.base) I.ok.mod.kin hk (aH (ha pos pins s σ H _ I h) λus s1⟨vs,H1,I1,r,q⟩=>⟨I1.kIn,?_⟩) he hpl
 exact uM F hr hb hd hx I1 r q
theorem SV{pl:Sem Bool}(he:PE X o ta)(c:Cls X.K C)(hm:gE X.K C m f)(F:FnOk X.prog X.w X.K X.mg X.base CX k f fd ps sp)(hr:Room k X.A)(hb:Binds X.K fd ps ds)(hd:Vals dvs ds)(hx:gQ CX X E)(ha:PA X (e::es) t)
  (hst:starEach (e::es) X.env=(false,eval e X.env)::starEach es X.env:=by rfl) (hpl:(backTo pos (starEach es X.env)).any (·.1)=false:=by rfl)
  (ht:eval (.Call (.Attribute o m apos) (e::es) [] pos) X.env=(do
   let ov <-eval o X.env
   standAt apos.atName
   let(f,first) <-holding [ov] (getMethod ov m pl)
   callWith pos f first (backTo pos (starEach (e::es) X.env)) (backToKw pos (keywordEach [] X.env))):=by rfl):
  PE X (.Call (.Attribute o m apos) (e::es) [] pos) (sA C m sp dvs E ta t):=by
 intro pins s σ H Q I h
 refine PySem.W.methodCall_KW (pl:=pl) (aH (he pins s σ H _ I h) λu s1⟨x,H1,I1,rx,a,dx,fs,ex,ea,l,q⟩=>?_) ht
 subst ex
 obtain rfl:u=Value.ref a:=rx
 refine JK I1 ea c hm l ?_
 refine PySem.W.callWith_K (first:=[.ref a]) (h₀:=X.base) I.ok.mod.kin hm.kp (aH (ha pos pins s1 σ H1 _ I1 q) λus s2⟨vs,H2,I2,r,q2⟩=>⟨I2.kIn,?_⟩) hst hpl
 exact uM (us:=.ref a::us) (vs:=.ref a::vs) F hr hb hd hx I2 (.cons rfl r) q2
theorem oZ{pl:Sem Bool}(he:PE X o ta)(c:Cls X.K C)(hm:gE X.K C m f)(F:FnOk X.prog X.w X.K X.mg X.base CX k f fd ps sp)(hr:Room k X.A)(hb:Binds X.K fd ps ds)(hd:Vals dvs ds)(hx:gQ CX X E)
  (ht:eval (.Call (.Attribute o m apos) [] [] pos) X.env=(do
   let ov <-eval o X.env
   standAt apos.atName
   let(f,first) <-holding [ov] (getMethod ov m pl)
   callWith pos f first (backTo pos (starEach [] X.env)) (backToKw pos (keywordEach [] X.env))):=by rfl):
  PE X (.Call (.Attribute o m apos) [] [] pos) (sA C m sp dvs E ta n9):=by
 intro pins s σ H Q I h
 refine PySem.W.methodCall_KW (pl:=pl) (aH (he pins s σ H _ I h) λu s1⟨x,H1,I1,rx,a,dx,fs,ex,ea,l,q⟩=>?_) ht
 subst ex
 obtain rfl:u=Value.ref a:=rx
 refine JK I1 ea c hm l ?_
 exact PySem.W.callWith_K0 (first:=[.ref a]) I1.kIn hm.kp (uM (us:=[.ref a]) (vs:=[.ref a]) F hr hb hd hx I1 (.cons rfl .nil) q)
structure Mk (K:PySem.W.Frag) (C f:Addr):Prop where
 makes:PySem.W.makesIn K C=true
 init:PySem.W.findIn K (.ref C) "__init__"=some (some (.ref f))
 fn:PySem.W.isFn K (.ref f)=true
 kp:PySem.W.keepIn K (.ref C)=true
theorem PH{pins:List (Addr×Obj)}{σ:St}{H:Hp}{s:Shared}{Q:VK}{us:List Value}{vs:List V}(M:Mk X.K C f)(F:FnOk X.prog X.w X.K X.mg X.base CX k f fd ps sp)(hr:Room (k+1) X.A)(hb:Binds X.K fd ps ds)(hd:Vals dvs ds)
  (hx:gQ CX X E) (I:Inv X pins σ H s) (r:Vals vs us)
  (h:∀x dx,H x=none->H dx=none->dx≠x->sp (.ref x::(vs++dvs)) (upd (upd H dx (.own x)) x (.ins C dx [])) (λv H2=>v=.non/\Q (.ref x) H2) E):
  wpAny (model X.prog X.w) X.A (call (.ref C) us) (EP X pins σ Q) X.xe s:=by
 have hq:=h (s.heap.objs.size+1) s.heap.objs.size (I.hok.fresh (Nat.le_succ _)) (I.hok.fresh (Nat.le_refl _)) (Nat.ne_of_lt (Nat.lt_succ_self _))
 have I2:=Inv.made (C:=C) I
 have r2:Vals (V.ref (s.heap.objs.size+1)::(vs++dvs)) (Value.ref (s.heap.objs.size+1)::(us++ds)):=.cons rfl (r.append hd)
 have hl:(Value.ref (s.heap.objs.size+1)::us++ds).length=ps.length:=by
  have e:=r2.length
  rw[F.len _ _ _ _ hq]at e
  exact e.symm
 refine wpAny_call (VR (f:=f) I.kIn M.makes M.init (beq_iff_eq.mp M.fn) (codeAny_mono (F.run _ X.stack _ _ ⟨Value.ref (s.heap.objs.size+1)::us,[]⟩ (Value.ref (s.heap.objs.size+1)::(us++ds)) _ _ E (hr.make C us [])
  (I2.env0.make C us []) (hb _ (Value.ref (s.heap.objs.size+1)::us) I2.kIn hl) r2 hq) λr s' hq'=>?_))
 cases r with
 |error e=>exact hx pins σ _ _ e s' I2 hq'
 | ok fl=>
  cases fl with
  |ret u=>
   obtain⟨v,H',I3,rv,ev,q3⟩:=I2.after hq'
   subst ev
   exact⟨rv,⟨V.ref (s.heap.objs.size+1),H',I3,rfl,q3⟩⟩
  |next=>exact False.elim hq'
  |brk=>exact False.elim hq'
  |cont=>exact False.elim hq'
theorem G0(M:Mk X.K C f)(F:FnOk X.prog X.w X.K X.mg X.base CX k f fd ps sp)(hr:Room (k+1) X.A)(hg:Gl X x)(hm:X.mg x=some (.ref C))(hb:Binds X.K fd ps ds)(hd:Vals dvs ds)(hx:gQ CX X E)
  (hdb:(x==("__debug__":Str))=false:=by decide):PE X (.Call (.Name x p) [] [] pos) (NU C sp dvs E n9):=by
 intro pins s σ H Q I h
 refine wpAny_Call_Name_kw (kC I hg hm ?_ hdb)
 exact PySem.W.callWith_K0 I.kIn M.kp (PH (us:=[]) M F hr hb hd hx I .nil h)
end
section
variable{X:Cx}{CX:dH}{k:Nat}{f C:Addr}{fd:FuncData}{ps ks:List Str}{sp:Sp}{E:XK}{x m:Str}{p pos apos kpos:Pos}{e o:Expr}{es:List Expr}{kws:List Keyword}{te ta:TE}{t tk:TA}{nm:Option Str}
structure ab9 (K:PySem.W.Frag) (fd:FuncData) (ps ks:List Str) (g:List Value->List Value->List Value) (gV:List V->List V->List V):Prop where
 to:∀(s:Shared)(us ws:List Value),K.In s.heap->(g us ws).length=ps.length->BindsTo s fd ⟨us,ks.zip ws⟩ (ps.zip (g us ws))
 rel:∀{vs:List V}{us:List Value}{zs:List V}{ws:List Value},Vals vs us->Vals zs ws->Vals (gV vs zs) (g us ws)
variable{g:List Value->List Value->List Value}{gV:List V->List V->List V}
end
structure aZ (N P:List Str) (sc:Scope):Prop where
 kind:sc.kind=.function
 co:sc.isCoroutine=false
 gen:sc.isGenerator=false
 nd:N.Nodup
 pre:N.take P.length=P
 par:∀x∈P,sc.names.lookup x=some .local\/sc.names.lookup x=some .cell
 nofree:∀y∈sc.names,y.2≠.free
theorem KL{kindOf:Str->Option NameKind}{x:Str}:∀{binds:List (Str×Value)}{m:Str->Option Value},(∀v,(x,v)∉binds)->bindL kindOf binds m x=m x
 |[],_,_=>rfl
 | (n,v)::r,m,h=>by
  unfold bindL
  rw[KL λw hw=>h w (mem_cons_of_mem _ hw)]
  split
  ·have:x≠n:=by rintro rfl;exact h v mem_cons_self
   simp[this]
  ·rfl
theorem KN{kindOf:Str->Option NameKind}{x:Str}:∀{binds:List (Str×Value)}{m:Str->Option Value},(∀v,(x,v)∉binds)->bindC kindOf binds m x=m x
 |[],_,_=>rfl
 | (n,v)::r,m,h=>by
  unfold bindC
  rw[KN λw hw=>h w (mem_cons_of_mem _ hw)]
  split
  ·rfl
  ·have:x≠n:=by rintro rfl;exact h v mem_cons_self
   simp[this]
theorem KM{kindOf:Str->Option NameKind}{x:Str}{v:Value}:∀{P:List Str}{vs:List Value}{i:Nat}{m:Str->Option Value},P.Nodup->P[i]? =some x->vs[i]? =some v->kindOf x=some .local->
  bindL kindOf (P.zip vs) m x=some v
 |[],_,_,_,_,h,_,_=>by simp at h
 |_::_,[],_,_,_,_,h,_=>by simp at h
 |p::P,w::vs,0,m,nd,h1,h2,hk=>by
  simp at h1 h2;subst h1;subst h2
  show bindL kindOf ((p,w)::P.zip vs) m p=_
  unfold bindL
  rw[KL λv hv=>(nodup_cons.mp nd).1 (of_mem_zip hv).1,if_pos hk]
  simp
 |p::P,w::vs,i+1,m,nd,h1,h2,hk=>by
  show bindL kindOf ((p,w)::P.zip vs) m x=_
  unfold bindL
  exact KM (i:=i) (nodup_cons.mp nd).2 (by simpa using h1) (by simpa using h2) hk
theorem KO{kindOf:Str->Option NameKind}{x:Str}{v:Value}:∀{P:List Str}{vs:List Value}{i:Nat}{m:Str->Option Value},P.Nodup->P[i]? =some x->vs[i]? =some v->kindOf x≠some .local->
  bindC kindOf (P.zip vs) m x=some v
 |[],_,_,_,_,h,_,_=>by simp at h
 |_::_,[],_,_,_,_,h,_=>by simp at h
 |p::P,w::vs,0,m,nd,h1,h2,hk=>by
  simp at h1 h2;subst h1;subst h2
  show bindC kindOf ((p,w)::P.zip vs) m p=_
  unfold bindC
  rw[KN λv hv=>(nodup_cons.mp nd).1 (of_mem_zip hv).1,if_neg hk]
  simp
 |p::P,w::vs,i+1,m,nd,h1,h2,hk=>by
  show bindC kindOf ((p,w)::P.zip vs) m x=_
  unfold bindC
  exact KO (i:=i) (nodup_cons.mp nd).2 (by simpa using h1) (by simpa using h2) hk
noncomputable def start(N:List Str)(vs:List V):St:=vs.map some++replicate (N.length-vs.length) none
noncomputable def cS(CX:dH)(P:Program)(w:World)(K:PySem.W.Frag)(mg:Str->Option Value)(base:Heap)(N:List Str)(qual:Str)(scope:Scope)(f:Addr)(cd:Value)(A:Around)(outer:List Env)(s:Shared)(H:Hp)(E:XK):Cx where
 prog:=P
 w:=w
 K:=K
 mg:=mg
 base:=base
 A:=A.deeper (envOfC qual scope s.heap.objs.size f cd)
 N:=N
 s₀:=s
 H₀:=H
 env:=envOfC qual scope s.heap.objs.size f cd
 outer:=outer
 stack:=envOfC qual scope s.heap.objs.size f cd::outer
 ex:=[]
 calm:=true
 fn:=λ_=>true
 pn:=[]
 xe:=λe s'=>wpAny (model P w) (A.deeper (envOfC qual scope s.heap.objs.size f cd)) (leaving (envOfC qual scope s.heap.objs.size f cd) e) (λ_ s''=>CX outer H s E e s'') (λe' s''=>CX outer H s E e' s'') s'
theorem KJ{sc:Scope}{n:Nat}{x:Str}(h:sc.names.lookup x=some .cell):∃c,(cellsFrom n sc.names []).lookup x=some c:=by
 have q:=PySem.W.cellsFrom_some sc.names n [] (.inl h)
 exact Option.isSome_iff_exists.mp q
theorem JD{CX:dH}{P:Program}{w:World}{K:PySem.W.Frag}{mg:Str->Option Value}{base:Heap}{N ps:List Str}{qual:Str}{scope:Scope}{f:Addr}{cd:Value}{A:Around}{outer:List Env}{s s1:Shared}{H:Hp}{E:XK}{us:List Value}{vs:List V}
  (S:aZ N ps scope) (hd:A.handled=none) (e0:Env0 P w K mg base A outer s H) (hl:vs.length=ps.length) (r:Vals vs us)
  (x:InCallC s s.heap.objs.size (bindL (envOfC qual scope s.heap.objs.size f cd).kindOf (ps.zip us) λ_=>none) (cellsFrom (s.heap.objs.size+1) scope.names []) (bindC (envOfC qual scope s.heap.objs.size f cd).kindOf (ps.zip us) λ_=>none) s1):
  Inv (cS CX P w K mg base N qual scope f cd A outer s H E) [] (start N vs) H s1:=by
 have hpl:ps.length<=N.length:=by have:=congrArg List.length S.pre;rw[length_take]at this;lia
 obtain⟨h1,tk,rfl,hk⟩:=x.done
 have noA:∀b:Addr,b∉(cS CX P w K mg base N qual scope f cd A outer s H E).ex:=λb z=>absurd (show b∈([]:List Addr) from z) (by simp)
 refine⟨⟨e0.mod,S.kind,rfl,rfl,Nat.le_refl _,λy z c h1 h2=>?_,λy hy=>?_,λy c _ h=>?_,λ_=>hd,Around.frames_deeper e0.frames,.inr ⟨rfl,rfl⟩,λb z=>absurd z (noA b),e0.bs,e0.bsz,λb _ _=>noA b,λb z=>absurd z (noA b),e0.funs,e0.frf⟩,
  rfl,e0.bare,Un.kept hk,⟨_,x.toInCall.ns,λi y v h1 h2 h3=>?_⟩,λy c h=>⟨_,x.cell y c h⟩,e0.hok.fresh (Nat.le_refl _),λy c h=>?_,λp hp=>absurd (show p∈([]:List (Addr×Obj)) from hp) (by simp),e0.hok.kept hk,?_⟩
 ·exact name_of_addr x.apart (PySem.mem_of_lookup h1) (PySem.mem_of_lookup h2)
 ·have hy:scope.names.lookup y=some .cell\/scope.names.lookup y=some .free:=hy
  rcases hy with hy|hy
  ·exact KJ hy
  ·exact absurd rfl (S.nofree _ (PySem.mem_of_lookup hy))
 ·exact Nat.le_of_lt (x.above y c (PySem.mem_of_lookup h))
 ·have hi:i<vs.length:=by
   unfold start at h2
   by_cases hi:i<vs.length
   ·exact hi
   ·rw[List.getElem?_append_right (by simpa using hi)]at h2
    rw[List.getElem?_replicate]at h2
    split at h2 <;> cases h2
  have ha:vs[i]? =some v:=by
   unfold start at h2
   rw[List.getElem?_append_left (by simpa using hi),List.getElem?_map]at h2
   cases e:vs[i]? with
   |none=>rw[e]at h2;cases h2
   |some a=>rw[e]at h2;cases h2;rfl
  obtain⟨u,hu,rv⟩:=r.get ha
  have hp:ps[i]? =some y:=by
   rw[<-S.pre,List.getElem?_take_of_lt (by lia)];exact h1
  have ndP:ps.Nodup:=by rw[<-S.pre];exact S.nd.sublist (List.take_sublist _ _)
  refine⟨u,rv,?_⟩
  rcases S.par y (List.mem_of_getElem? hp) with k|k
  ·exact .inl ⟨k,KM ndP hp hu k⟩
  ·obtain⟨c,e⟩:=KJ (n:=s.heap.objs.size+1) k
   refine .inr ⟨.inl k,c,e,?_⟩
   have q:=x.cell y c e
   rw[KO ndP hp hu (by show scope.names.lookup y≠_;rw[k];decide)]at q
   exact q
 ·exact e0.hok.fresh (Nat.le_of_lt (x.above y c (PySem.mem_of_lookup h)))
 ·unfold start
  show _=N.length
  rw[length_append,length_map,length_replicate]
  lia
theorem JR{CX:dH}{P:Program}{w:World}{K:PySem.W.Frag}{mg:Str->Option Value}{base:Heap}{k:Nat}{f:Addr}{name qual:Str}{params:Arguments}{body:List Stmt}{scope:Scope}{dV kV doc pm cdv ct oc:Value}{an od:Option Addr}
  {osl:Array (Option Value)} {N ps:List Str} {sp:Sp} (lk:K.lookup f=some ⟨oc,od,.func (PySem.W.fnOf name qual params body scope dV kV doc pm an cdv ct),osl⟩) (hcd:PySem.W.codeIn K cdv qual=true) (S:aZ N ps scope)
  (len:∀vs H Q E,sp vs H Q E->vs.length=ps.length)
  (hbody:∀(A:Around)(outer:List Env)(s:Shared)(H:Hp)(vs:List V)(Q:VK)(E:XK),Room k (A.deeper (envOfC qual scope s.heap.objs.size f cdv))->sp vs H Q E->
   ∃t,PSs (cS CX P w K mg base N qual scope f cdv A outer s H E) body t/\t { nx:=λ_ H'=>Q .non H',rt:=Q } (start N vs) H):
  FnOk P w K mg base CX (k+1) f (PySem.W.fnOf name qual params body scope dV kV doc pm an cdv ct) ps sp:=by
 refine⟨len,λA outer s H args us vs Q E hr e0 hb r hsp=>?_⟩
 have hl:=len _ _ _ _ hsp
 have KX:K.In s.heap:=e0.mod.kin.keeps λb o e=>(e0.bs b o e).1
 have lim:s.heap.NoLimit:=e0.mod.nolimit.keeps λb o e=>(e0.bs b o e).1
 have hkind:∀y∈ps.zip us,scope.names.lookup y.1=some .local\/(scope.names.lookup y.1=some .cell/\((cellsFrom (s.heap.objs.size+1) scope.names []).lookup y.1).isSome=true):=λ⟨n,v⟩hy=>by
  rcases S.par n (of_mem_zip hy).1 with q|q
  ·exact .inl q
  ·exact .inr ⟨q,PySem.W.cellsFrom_some _ _ _ (.inl q)⟩
 refine codeAny_call_function hr.depth (KX _ _ lk) rfl S.co S.gen rfl (PySem.W.codeRec_of KX hcd) (hb _ _ _ _ ?_)
 refine wpAny_newFunctionEnv_cells S.kind hkind λenv he s1 x=>?_
 subst he
 refine⟨lim.keeps x.toInCall.keep,codeAny_func ?_⟩
 obtain⟨t,ht,hq⟩:=hbody A outer s H vs Q E (hr.deeper _) hsp
 have I:Inv (cS CX P w K mg base N qual scope f cdv A outer s H E) [] (start N vs) H s1:=JD S hr.hd e0 hl r x
 refine wpAny_mono (ht [] s1 (start N vs) H _ I hq) (λfl s' hs=>?_) λe s' hs=>hs
 have fin:∀{σ':St}{H':Hp}{v:V}{u:Value},Inv (cS CX P w K mg base N qual scope f cdv A outer s H E) [] σ' H' s'->RelV v u->Q v H'->CE outer P w H s Q u s':=
  λ{σ' H' v u}J rv q=>⟨v,H',J.os,J.bare,J.base,J.hok,rv,q⟩
 cases fl with
 |ret u=>
  obtain⟨v,σ',H',J,rv,q⟩:=hs
  exact fin J rv q
 |next=>
  obtain⟨σ',H',J,q⟩:=hs
  exact fin (v:=V.non) (u:=Value.none) J rfl q
 |brk=>
  obtain⟨_,_,_,q⟩:=hs
  exact False.elim q
 |cont=>
  obtain⟨_,_,_,q⟩:=hs
  exact False.elim q
section
variable{X:Cx}{x:Str}{p pos:Pos}{e:Expr}{es:List Expr}{t:TA}{id T:String}{r:List V->Hp->VK->Prop}
noncomputable def sD(r:List V->Hp->VK->Prop)(t:TA):TE:=λσ H Q=>t σ H λvs H1=>r vs H1 Q
theorem bP(hc:CallR X (.builtin id) r)(hg:Gl X x)(hm:X.mg x=none)(hv:bootBuiltins x=some (.builtin id))(ha:PA X (e::es) t)(hn:x≠"__name__":=by decide)(hdb:(x==("__debug__":Str))=false:=by decide)
  (he:starEach (e::es) X.env=(false,eval e X.env)::starEach es X.env:=by rfl) (hpl:(backTo pos (starEach es X.env)).any (·.1)=false:=by rfl):PE X (.Call (.Name x p) (e::es) [] pos) (sD r t):=by
 intro pins s σ H Q I h
 refine wpAny_Call_Name_kw (mK I hg hm hv ?_ hn hdb)
 exact PyProof.Rows.callWith_builtin1 (aH (ha pos pins s σ H _ I h) λus s1⟨vs,H1,I1,r1,q1⟩=>hc pins s1 σ H1 vs us Q I1 r1 q1) he hpl
theorem fG(hc:CallR X (.type T) r)(hg:Gl X x)(hm:X.mg x=none)(hv:bootBuiltins x=some (.type T))(ha:PA X (e::es) t)(hn:x≠"__name__":=by decide)(hdb:(x==("__debug__":Str))=false:=by decide)
  (he:starEach (e::es) X.env=(false,eval e X.env)::starEach es X.env:=by rfl) (hpl:(backTo pos (starEach es X.env)).any (·.1)=false:=by rfl):PE X (.Call (.Name x p) (e::es) [] pos) (sD r t):=by
 intro pins s σ H Q I h
 refine wpAny_Call_Name_kw (mK I hg hm hv ?_ hn hdb)
 exact PyProof.Rows.callWith_type1 (aH (ha pos pins s σ H _ I h) λus s1⟨vs,H1,I1,r1,q1⟩=>hc pins s1 σ H1 vs us Q I1 r1 q1) he hpl
end
end L2
namespace HT
open PySem PyProof.Rows
noncomputable def lexLt:List Int->List Int->Bool
 |[],[]=>false
 |[],_::_=>true
 |_::_,[]=>false
 |x::xs,y::ys=>if x=y then lexLt xs ys else decide (x<y)
theorem dR(x y:Int)(xs ys:List Int):lexLt (x::xs) (y::ys)=if x=y then lexLt xs ys else decide (x<y):=rfl
theorem W2:lexLt [] []=false:=rfl
theorem W3(y:Int)(ys:List Int):lexLt [] (y::ys)=true:=rfl
theorem W4(x:Int)(xs:List Int):lexLt (x::xs) []=false:=rfl
theorem ZE(A:Around)(s:Shared)(a:Int)(t:Tok)(c:Int)(u:Tok):∃e,SeqAt.EqAt A s (.int a t) (.int c u) e/\(e=true<->a=c):=
 ⟨(a==c),SeqAt.EqAt.int_int a t c u,by simp⟩
theorem GC(A:Around)(s:Shared)(a:Int)(t:Tok)(c:Int)(u:Tok)(prog:Program)(w:World)(E:Value->Shared->Prop)(Q:Value->Shared->Prop)(h:Q (.bool (decide (a<c))) s):
  wpAny (model prog w) A (richCompare .Lt (.int a t) (.int c u)) Q E s:=
 (PyProof.Rows.lt_int h:wpAny (model prog w) A (compareOp .Lt (.int a t) (.int c u)) Q E s)
section
open PySem.SeqAt
open PySem.AutoSeq1 (wpAny_loadPart')
open PySem.MeetsSeq PySem.MeetsSeq2 PySem.MeetsSeq3
theorem NF(l b:Addr)(items items2:Array Value)(n n2:Nat)(dd dd2:Option Addr)(sl sl2:Array (Option Value))(ns ms:List Int)(hi:IntsAre items.toList ns)(hj:IntsAre items2.toList ms):
  Meets (Builtin.«tuple.__lt__» ⟨[.ref l,.ref b],[]⟩)
   (λ_ R s=>s.heap.get? l=some { cls:=.type "tuple",dict:=dd,data:=.seq items n,slots:=sl }/\s.heap.get? b=some { cls:=.type "tuple",dict:=dd2,data:=.seq items2 n2,slots:=sl2 }/\
    R (.ok (.ret (.bool (lexLt ns ms)))) s):=
 .of_wp λprog w A R s h=>by
  obtain⟨hp,g,d,tk,os⟩:=s;obtain⟨hl,hb,h⟩:=h
  have f2:=AutoSeq1.sub_tuple_tuple
  have z1:items.size=ns.length:=by rw[<-hi.length];simp
  have z2:items2.size=ms.length:=by rw[<-hj.length];simp
  wp_walk using wpAny_loadPart' hl,wpAny_loadPart' hb,wpAny_forIn_list _ (λcF b s'=>b.1=none/\s'=⟨hp,g,d,tk,os⟩/\∃(vs ws:List Value)(ns' ms':List Int),cF=vs.zip ws/\
   IntsAre vs ns'/\IntsAre ws ms'/\ns'.length+items2.size=ms'.length+items.size/\R (.ok (.ret (.bool (lexLt ns' ms')))) ⟨hp,g,d,tk,os⟩) _
  case turn=>
   rintro⟨y,x⟩ cF b s' ⟨hb',rfl,vs,ws,ns',ms',hz,hvi,hwi,hlen,hR⟩
   cases hvi with
   |nil=>rw[List.zip_nil_left]at hz;cases hz
   | cons a t hvi'=>
    cases hwi with
    |nil=>rw[List.zip_nil_right]at hz;cases hz
    | cons c u hwi'=>
     rw[zip_cons_cons]at hz
     injection hz with hyx hrest
     injection hyx with hy hx
     subst hy hx
     rw[dR]at hR
     simp only[length_cons]at hlen
     obtain⟨e,he,hiff⟩:=ZE A.in1 ⟨hp,g,d,tk,os⟩ a t c u
     refine wpAny_bind (he prog w _ _ ?_)
     cases e with
     |true=>
      rw[if_pos (hiff.mp rfl)]at hR
      wp_walk
      exact⟨rfl,rfl,_,_,_,_,hrest,hvi',hwi',by lia,hR⟩
     |false=>
      rw[if_neg (λq=>absurd (hiff.mpr q) Bool.false_ne_true)]at hR
      have hri:=GC A.in1 ⟨hp,g,d,tk,os⟩ a t c u prog w
      wp_walk using hri
      exact⟨_,rfl,by simpa using hR⟩
  case fin=>
   rintro⟨b1,b2⟩ s' ⟨hb',rfl,vs,ws,ns',ms',hz,hvi,hwi,hlen,hR⟩
   simp only at hb'
   subst hb'
   have hv:lexLt ns' ms'=decide (items.size<items2.size):=by
    cases hvi with
    | nil=>
     cases hwi with
     |nil=>
      simp only[length_nil]at hlen
      rw[W2]
      exact(decide_eq_false (by lia)).symm
     |cons c u hw=>
      simp only[length_nil,length_cons]at hlen
      rw[W3]
      exact(decide_eq_true (by lia)).symm
    | cons a t hv=>
     cases hwi with
     |nil=>
      simp only[length_nil,length_cons]at hlen
      rw[W4]
      exact(decide_eq_false (by lia)).symm
     |cons c u hw=>
      rw[zip_cons_cons]at hz
      cases hz
   rw[hv]at hR
   wp_walk
   exact⟨_,rfl,by simpa[Builtin.Tuple.tupleCompareSizes]using hR⟩
  case h=>
   exact⟨rfl,rfl,items.toList,items2.toList,ns,ms,rfl,hi,hj,by lia,h⟩
end
section
variable{prog:Program}{w:World}{A:Around}{E:Value->Shared->Prop}{s:Shared}
theorem WR{l b:Addr}{items items2:Array Value}{ns ms:List Int}{Q:Value->Shared->Prop}(hl:IsTup s.heap l items)(hb:IsTup s.heap b items2)(hi:IntsAre items.toList ns)(hj:IntsAre items2.toList ms)
  (hu:A.units<cLine) (h:Q (.bool (lexLt ns ms)) s):wpAny (model prog w) A (compareOp .Lt (.ref l) (.ref b)) Q E s:=by
 obtain⟨⟨cls,dd,data,sl⟩,ho,hc,n,hd⟩:=id hl
 obtain⟨⟨cls2,dd2,data2,sl2⟩,ho2,hc2,n2,hd2⟩:=id hb
 simp only at hc hd hc2 hd2
 subst hc hd hc2 hd2
 exact richCompare_meets_room (op:=.Lt) ⟨_,ho,rfl⟩ ⟨_,ho2,rfl⟩ PySem.F.slot_tuple_lt PySem.F.entry_tuple_lt (PySem.F.args_tuple_lt_2 _ _) (NF l b items items2 n n2 dd dd2 sl sl2 ns ms hi hj)
  ⟨ho,ho2,show Value.bool (lexLt ns ms)≠Value.notImplemented/\Q (.bool (lexLt ns ms)) s from⟨(λx=>nomatch x),h⟩⟩ hu
theorem Z5{t b:Addr}{vs ws:List Value}{Q:Value->Shared->Prop}(ht:IsTup s.heap t vs.toArray)(hb:IsTup s.heap b ws.toArray)(hv:vs≠[])
  (h1:ws=[]->Q (.ref t) s) (h2:ws≠[]->Q (.ref s.heap.objs.size) { s with heap:=s.heap.push { cls:=.type "tuple",data:=.seq (vs++ws).toArray } })
  (hsz:vs.length+ws.length<=sizeLine):wpAny (model prog w) A (binaryOp .Add (.ref t) (.ref b)) Q E s:=by
 obtain⟨⟨cls,dd,data,sl⟩,ho,hc,n,hd⟩:=id ht
 obtain⟨⟨cls2,dd2,data2,sl2⟩,ho2,hc2,n2,hd2⟩:=id hb
 simp only at hc hd hc2 hd2
 subst hc hd hc2 hd2
 have e:vs.toArray++ws.toArray=(vs++ws).toArray:=by simp
 by_cases hw:ws=[]
 ·exact concat_meets ⟨_,ho,rfl⟩ ⟨_,ho2,rfl⟩ noFill_tuple_add seq_tuple_add PySem.F.slot_tuple_add PySem.F.entry_tuple_add (PySem.F.args_tuple_add_2 _ _)
   (tuple_addW1 t b vs.toArray ws.toArray n n2 dd dd2 sl sl2 (by simpa using hv) (by simp[hw])) ⟨ho,ho2,h1 hw⟩
 ·refine concat_meets ⟨_,ho,rfl⟩ ⟨_,ho2,rfl⟩ noFill_tuple_add seq_tuple_add PySem.F.slot_tuple_add PySem.F.entry_tuple_add (PySem.F.args_tuple_add_2 _ _)
   (tuple_addW2 t b vs.toArray ws.toArray n n2 dd dd2 sl sl2 (by simpa using hv) (by simpa using hw) (by rw[size_toArray,size_toArray];exact hsz)) ⟨ho,ho2,?_⟩
  rw[e]
  exact h2 hw
noncomputable def bA(n d:Nat):Option Int->Nat
 |none=>d
 |some v=>if v<0 then(v+(n:Int)).toNat else min v.toNat n
theorem E8(n d:Nat):bA n d none=d:=rfl
theorem O9(n d k:Nat):bA n d (some (k:Int))=min k n:=by
 show(if(k:Int)<0 then((k:Int)+(n:Int)).toNat else min (k:Int).toNat n)=min k n
 rw[if_neg (by lia),Int.toNat_natCast]
theorem PB(n d:Nat)(hd:d<=n)(o:Option Int):bA n d o<=n:=by
 cases o with
 |none=>exact hd
 |some v=>
  show(if v<0 then(v+(n:Int)).toNat else min v.toNat n)<=n
  by_cases hv:v<0
  ·rw[if_pos hv];lia
  ·rw[if_neg hv];exact Nat.min_le_right _ _
theorem KI(v:Int)(n d:Nat):(if v<0 then max (v+(n:Int)) 0 else min v (n:Int))=((bA n d (some v):Nat):Int):=by
 show(if v<0 then max (v+(n:Int)) 0 else min v (n:Int))=(((if v<0 then(v+(n:Int)).toNat else min v.toNat n):Nat):Int)
 by_cases hv:v<0
 ·simp only[if_pos hv];lia
 ·simp only[if_neg hv];lia
theorem abY(lo hi:Option Int)(n:Nat):Builtin.Slice.sliceAdjust lo hi 1 (n:Int)=(((bA n 0 lo:Nat):Int),((bA n n hi:Nat):Int)):=by
 have h1:¬((1:Int)<0):=by lia
 unfold Builtin.Slice.sliceAdjust
 simp only[h1,if_false]
 refine Prod.ext ?_ ?_
 ·cases lo with
  |none=>rfl
  |some v=>exact KI v n 0
 ·cases hi with
  |none=>rfl
  |some v=>exact KI v n n
theorem SE(i j:Nat):Builtin.Slice.slicePlaces (i:Int) (j:Int) 1=j-i:=by
 unfold Builtin.Slice.slicePlaces
 have h1:(1:Int)>0:=by lia
 simp only[h1,if_true,Int.ediv_one]
 split <;> lia
theorem E3{v:Value}{o:Option Int}{Q:Option Int->Shared->Prop}(p:IsPart v o)(h:Q o s):wpAny (model prog w) A (Builtin.Slice.slicePartIndex v) Q E s:=by
 cases p with
 |none=>exact slicePart_none h
 |int i t=>exact slicePart_int h
theorem OG{sl:Addr}{vl vu:Value}{lo hi:Option Int}{n:Nat}{Q:Int×Int×Nat->Shared->Prop}(hs:s.heap.IsSliceOf sl vl vu .none)(pl:IsPart vl lo)(pu:IsPart vu hi)
  (h:Q (((bA n 0 lo:Nat):Int),1,bA n n hi-bA n 0 lo) s):wpAny (model prog w) A (Builtin.Slice.sliceApplied (.ref sl) (pure (n:Int))) Q E s:=by
 obtain⟨os,hos,hcs,hds⟩:=id hs
 unfold Builtin.Slice.sliceApplied Builtin.Slice.sliceFields
 refine wpAny_bind (wpAny_bind (wpAny_field hos hds (x:=vl) rfl (wpAny_bind (wpAny_field hos hds (x:=vu) rfl (wpAny_bind (wpAny_field hos hds (x:=.none) rfl (wpAny_pure ?_)))))))
 refine wpAny_bind (slicePart_none ?_)
 show wpAny _ _ (if((1:Int)==0)=true then _ else _) _ _ s
 rw[if_neg (by decide)]
 refine wpAny_bind (E3 pl (wpAny_bind (E3 pu (wpAny_bind (wpAny_pure ?_)))))
 show wpAny _ _ (match Builtin.Slice.sliceAdjust lo hi 1 (n:Int) with|(lo,hi)=>pure (lo,(1:Int),Builtin.Slice.slicePlaces lo hi 1)) _ _ s
 rw[abY lo hi n]
 show wpAny _ _ (pure (((bA n 0 lo:Nat):Int),(1:Int),Builtin.Slice.slicePlaces ((bA n 0 lo:Nat):Int) ((bA n n hi:Nat):Int) 1)) _ _ s
 rw[SE]
 exact wpAny_pure h
theorem SN(xs:Array Value)(i k:Nat):((range k).filterMap λ(m:Nat)=>xs[((i:Int)+(m:Int)*1).toNat]?).toArray=((xs.toList.drop i).take k).toArray:=by
 have e:(λ(m:Nat)=>xs[((i:Int)+(m:Int)*1).toNat]?)=λm=>xs[i+m]? :=by
  funext m
  have:((i:Int)+(m:Int)*1).toNat=i+m:=by lia
  rw[this]
 rw[e]
 have:=pick_run xs i k
 rw[List.filterMap_map]at this
 have e2:((λx=>xs[x]?) ∘ λx=>i+x)=λm=>xs[i+m]? :=rfl
 rw[e2]at this
 rw[this]
theorem Y2{t sl:Addr}{items:Array Value}{vl vu:Value}{lo hi:Option Int}{Q:Value->Shared->Prop}(ht:IsTup s.heap t items)(hs:s.heap.IsSliceOf sl vl vu .none)(pl:IsPart vl lo)(pu:IsPart vu hi)
  (hw:¬(bA items.size 0 lo=0/\bA items.size items.size hi=items.size))
  (h:Q (.ref s.heap.objs.size) { s with heap:=s.heap.push { cls:=.type "tuple",data:=.seq ((items.toList.drop (bA items.size 0 lo)).take (bA items.size items.size hi-bA items.size 0 lo)).toArray } })
  (hsz:items.size<=sizeLine):wpAny (model prog w) A (getItem (.ref t) (.ref sl)) Q E s:=by
 have htake:sizeOk (.seq ((items.toList.drop (bA items.size 0 lo)).take (bA items.size items.size hi-bA items.size 0 lo)).toArray):=by
  show((items.toList.drop (bA items.size 0 lo)).take (bA items.size items.size hi-bA items.size 0 lo)).toArray.size<=sizeLine
  rw[size_toArray,length_take,length_drop,Array.length_toList]
  lia
 have hj:bA items.size items.size hi<=items.size:=PB _ _ (Nat.le_refl _) hi
 obtain⟨os,hos,hcs,hds⟩:=id hs
 have hTs:s.TypeIs (.ref sl) "slice":=⟨os,hos,hcs⟩
 unfold getItem
 try with_reducible refine wpAny_holding ?_
 first |refine wpAny_bind (wpAny_pure ?_)|skip
 refine wpAny_bind (wpAny_sequenceKey ht.typeIs (by decide) ?_)
 refine wpAny_bind (wpAny_callSpecial?_slot (name:=Str.ofString "__getitem__") ht.typeIs PyProof.Rows.slot_tuple_getitem
  (wpAny_call_entry PyProof.Rows.slot_tuple_getitem ht.typeIs entry_tuple_getitem ?_ (args_tuple_getitem _ _)))
 show wpAny _ _ (Builtin.Tuple.tupleItemsOf (.ref t) >>=_) _ _ s
 refine wpAny_bind (tupleItemsOf_ ht ?_)
 refine wpAny_bind (wpAny_typeOf hTs ?_)
 rw[if_pos (by decide)]
 refine wpAny_bind (OG hs pl pu ?_)
 have hno:¬((((bA items.size 0 lo:Nat):Int)==0&&(1:Int)==1&&(bA items.size items.size hi-bA items.size 0 lo)==items.size)=true):=by
  intro q
  rw[Bool.and_eq_true,Bool.and_eq_true]at q
  have q1:((bA items.size 0 lo:Nat):Int)=0:=eq_of_beq q.1.1
  have q2:bA items.size items.size hi-bA items.size 0 lo=items.size:=eq_of_beq q.2
  exact hw ⟨by lia,by lia⟩
 show wpAny _ _ (if(((bA items.size 0 lo:Nat):Int)==0&&(1:Int)==1&&(bA items.size items.size hi-bA items.size 0 lo)==items.size)=true then _ else _) _ _ s
 rw[if_neg hno,SN]
 first
  |exact wpAny_bind (m:=Builtin.Tuple.tupleExact _) (wpAny_newObj_type (wpAny_pure ⟨_,rfl,wpAny_pure h⟩) htake)
  |exact wpAny_bind (m:=Builtin.Tuple.tupleExact _) (wpAny_newObj_type (wpAny_bind (wpAny_pure (wpAny_pure ⟨_,rfl,wpAny_pure h⟩))) htake)
  |exact wpAny_bind (wpAny_bind (m:=Builtin.Tuple.tupleExact _) (wpAny_newObj_type (wpAny_pure (wpAny_pure ⟨_,rfl,wpAny_pure h⟩)) htake))
  |exact wpAny_bind (wpAny_bind (m:=Builtin.Tuple.tupleExact _) (wpAny_newObj_type (wpAny_pure ⟨_,rfl,wpAny_pure h⟩) htake))
end
end HT
namespace L2
open PySem PySem.Spec PyProof.Rows
noncomputable abbrev TO:=St->Hp->(Option Int->Hp->Prop)->Prop
noncomputable def PO(X:Cx)(e:Option Expr)(t:TO):Prop:=
 ∀(pins:List (Addr×Obj))(s:Shared)(σ:St)(H:Hp)(Q:Option Int->Hp->Prop),Inv X pins σ H s->t σ H Q->
  wpAny (model X.prog X.w) X.A (evalPart e X.env) (λu s'=>∃o H',Inv X pins σ H' s'/\IsPart u o/\Q o H') X.xe s
noncomputable def DC:TO:=λ_ H Q=>Q none H
noncomputable def C9(t:TE):TO:=λσ H Q=>t σ H λx H1=>∃i,x=.int i/\Q (some i) H1
theorem intsAre_of{ns:List Int}:∀{us:List Value},Vals (ns.map V.int) us->IntsAre us ns:=by
 induction ns with
 |nil=>intro us r;rw[map_nil]at r;cases r;exact .nil
 | cons n ns ih=>
  intro us r
  rw[map_cons]at r
  cases r with
  |cons r1 r2=>
   obtain⟨t,e⟩:=r1
   subst e
   exact .cons n t (ih r2)
section
variable{X:Cx}{e:Expr}{te:TE}{lo hi:Option Expr}{tl th:TO}{pos p2:Pos}
theorem wJ:PO X none DC:=by
 intro pins s σ H Q I h
 rw[evalPart_none]
 exact wpAny_pure ⟨none,H,I,.none,h⟩
theorem wI(h:PE X e te):PO X (some e) (C9 te):=by
 intro pins s σ H Q I hw
 rw[evalPart_some]
 refine aH (h pins s σ H _ I hw) λu s1⟨x,H1,I1,r1,q1⟩=>?_
 obtain⟨i,rfl,q⟩:=q1
 obtain⟨t,rfl⟩:=r1
 exact⟨some i,H1,I1,.int i t,q⟩
noncomputable def SlR(X:Cx)(r:V->Option Int->Option Int->Hp->VK->Prop):Prop:=
 ∀(pins:List (Addr×Obj))(s:Shared)(σ:St)(H:Hp)(x:V)(v vl vu:Value)(lo hi:Option Int)(sl:Addr)(Q:VK),Inv X pins σ H s->RelV x v->s.heap.IsSliceOf sl vl vu .none->IsPart vl lo->IsPart vu hi->r x lo hi H Q->
  ∃T id,typeLookup (.type T) "__getitem__"=pure (some (.builtin id))/\s.TypeIs v T/\wpAny (model X.prog X.w) X.A (getItem v (.ref sl)) (EP X pins σ Q) X.xe s
theorem SlR.or{r r':V->Option Int->Option Int->Hp->VK->Prop}(h:SlR X r)(h':SlR X r'):SlR X (λx lo hi H Q=>r x lo hi H Q\/r' x lo hi H Q):=by
 intro pins s σ H x v vl vu lo hi sl Q I rx hs pl pu q
 rcases q with q|q
 ·exact h pins s σ H x v vl vu lo hi sl Q I rx hs pl pu q
 ·exact h' pins s σ H x v vl vu lo hi sl Q I rx hs pl pu q
noncomputable def C6(r:V->Option Int->Option Int->Hp->VK->Prop)(te:TE)(tl th:TO):TE:=λσ H Q=>te σ H λx H1=>tl σ H1 λl H2=>th σ H2 λu H3=>r x l u H3 Q
theorem wK{r:V->Option Int->Option Int->Hp->VK->Prop}(hr:SlR X r)(he:PE X e te)(hl:PO X lo tl)(hu:PO X hi th):PE X (.Subscript e (.Slice lo hi none p2) pos) (C6 r te tl th):=by
 intro pins s σ H Q I h
 refine Subscript_ (aH (he pins s σ H _ I h) λv s1⟨x,H1,I1,r1,q1⟩=>?_)
 refine wpAny_Slice (aH (hl pins s1 σ H1 _ I1 q1) λvl s2⟨l,H2,I2,pl,q2⟩=>aH (hu pins s2 σ H2 _ I2 q2) λvu s3⟨u,H3,I3,pu,q3⟩=>?_)
 rw[evalPart_none]
 refine wpAny_pure ?_
 have I4:Inv X pins σ H3 { s3 with heap:=s3.heap.push { cls:=.type "slice",data:=.fields #[vl,vu,.none] } }:=I3.kept (t':=s3.toks) λb ob q=>Heap.get?_push_of_some _ q
 obtain⟨T,id,hT,ht,hg⟩:=hr pins { s3 with heap:=s3.heap.push { cls:=.type "slice",data:=.fields #[vl,vu,.none] } } σ H3 x v vl vu l u s3.heap.objs.size Q I4 r1 (Heap.IsSliceOf.new ..) pl pu q3
 show wpAny (model X.prog X.w) X.A (subscriptTail e (.Slice lo hi none p2) v (.ref s3.heap.objs.size)) (EP X pins σ Q) X.xe { s3 with heap:=s3.heap.push { cls:=.type "slice",data:=.fields #[vl,vu,.none] } }
 exact tail_any (ops:=[.ref s3.heap.objs.size,v]) ht hT hg (by with_unfolding_all rfl)
noncomputable def jC(xs:List V)(lo hi:Option Int):List V:=(xs.drop (HT.bA xs.length 0 lo)).take (HT.bA xs.length xs.length hi-HT.bA xs.length 0 lo)
theorem ZT(xs:List V)(lo hi:Option Int):(jC xs lo hi).length<=xs.length:=by
 unfold jC
 rw[length_take,length_drop]
 lia
noncomputable def l7(K:PySem.W.Frag):V->Option Int->Option Int->Hp->VK->Prop:=λx lo hi H Q=>∃a xs,x=.ref a/\SqT K H a xs/\
 ¬(HT.bA xs.length 0 lo=0/\HT.bA xs.length xs.length hi=xs.length)/\∀p,H p=none->Q (.ref p) (upd H p (.tup (jC xs lo hi)))
theorem OH:SlR X (l7 X.K):=by
 intro pins s σ H x v vl vu lo hi sl Q I rx hs pl pu h
 obtain⟨a,xs,rfl,hx,hw,q⟩:=h
 cases rx
 obtain⟨its,r,ht,hz⟩:=I.tuple hx
 have hlen:its.toArray.size=xs.length:=by rw[size_toArray];exact r.length.symm
 refine⟨"tuple",_,PyProof.Rows.slot_tuple_getitem.lookup,ht.typeIs,?_⟩
 refine HT.Y2 ht hs pl pu (by rw[hlen];exact hw) ?_ (by rw[hlen];exact hz)
 rw[hlen]
 refine⟨.ref s.heap.objs.size,_,I.laid (t':=s.toks) (o:=.tup (jC xs lo hi)) (λb ob q=>Heap.get?_push_of_some _ q) (Nat.le_refl _) ?_,rfl,q _ (I.hok.fresh (Nat.le_refl _))⟩
 exact⟨Nat.le_trans (ZT xs lo hi) hz,_,(r.drop (HT.bA xs.length 0 lo)).take (HT.bA xs.length xs.length hi-HT.bA xs.length 0 lo),IsTupN.new _ _⟩
noncomputable def uZ(K:PySem.W.Frag):R2:=λx y H Q=>∃a b ns ms,x=.ref a/\y=.ref b/\SqT K H a (ns.map V.int)/\SqT K H b (ms.map V.int)/\Q (.bl (HT.lexLt ns ms)) H
theorem S4(hu:X.A.units<cLine):OpR X (compareOp .Lt) (uZ X.K):=by
 intro pins s σ H x y v u Q I rx ry h
 obtain⟨a,b,ns,ms,rfl,rfl,ha,hb,q⟩:=h
 cases rx
 cases ry
 obtain⟨its,r1,p1,_⟩:=I.tuple ha
 obtain⟨its2,r2,p2,_⟩:=I.tuple hb
 have i1:IntsAre its.toArray.toList ns:=intsAre_of r1
 have i2:IntsAre its2.toArray.toList ms:=intsAre_of r2
 exact HT.WR p1 p2 i1 i2 hu ⟨.bl (HT.lexLt ns ms),H,I,rfl,q⟩
noncomputable def R7(K:PySem.W.Frag):R2:=λx y H Q=>∃a b xs ys,x=.ref a/\y=.ref b/\SqT K H a xs/\SqT K H b ys/\xs≠[]/\xs.length+ys.length<=sizeLine/\
 (ys=[]->Q (.ref a) H)/\(ys≠[]->∀p,H p=none->Q (.ref p) (upd H p (.tup (xs++ys))))
theorem Vals.nil_iff{xs:List V}{us:List Value}(r:Vals xs us):us=[]<->xs=[]:=by
 cases r with
 |nil=>simp
 |cons _ _=>simp
theorem TB:OpR X (binaryOp .Add) (R7 X.K):=by
 intro pins s σ H x y v u Q I rx ry h
 obtain⟨a,b,xs,ys,rfl,rfl,ha,hb,hx,hz,q1,q2⟩:=h
 cases rx
 cases ry
 obtain⟨its,r1,p1,_⟩:=I.tuple ha
 obtain⟨its2,r2,p2,_⟩:=I.tuple hb
 refine HT.Z5 p1 p2 (λz=>hx (r1.nil_iff.mp z)) (λz=>⟨.ref a,H,I,rfl,q1 (r2.nil_iff.mp z)⟩) (λz=>?_) (by rw[<-r1.length,<-r2.length];exact hz)
 refine⟨.ref s.heap.objs.size,_,I.laid (t':=s.toks) (o:=.tup (xs++ys)) (λb ob q=>Heap.get?_push_of_some _ q) (Nat.le_refl _) ?_,rfl,q2 (λw=>z (r2.nil_iff.mpr w)) _ (I.hok.fresh (Nat.le_refl _))⟩
 exact⟨by rw[length_append];exact hz,_,r1.append r2,IsTupN.new _ _⟩
end
noncomputable def gM(n:Nat)(i:Int):Option Nat:=if 0<=i then(if i<n then some i.toNat else none) else if -(n:Int)<=i then some (i+n).toNat else none
noncomputable def eN{α:Type}(xs:List α)(i:Int):Option α:=(gM xs.length i).bind λj=>xs[j]?
theorem IY{n:Nat}{i:Int}{j:Nat}(h:gM n i=some j):seqIndex? i n=some j/\j<n/\-(n:Int)<=i/\i<n:=by
 unfold gM at h
 by_cases h0:0<=i
 ·rw[if_pos h0]at h
  by_cases h1:i<n
  ·rw[if_pos h1]at h
   have e:i.toNat=j:=Option.some.inj h
   exact⟨by rw[seqIndex_of h0 h1,e],by lia,by lia,h1⟩
  ·rw[if_neg h1]at h;cases h
 ·rw[if_neg h0]at h
  by_cases h1:-(n:Int)<=i
  ·rw[if_pos h1]at h
   have e:(i+n).toNat=j:=Option.some.inj h
   exact⟨by rw[seqIndex_neg (by lia) h1,e],by lia,h1,by lia⟩
  ·rw[if_neg h1]at h;cases h
theorem K7{α:Type}{xs:List α}{i:Int}{v:α}(h:eN xs i=some v):∃j,seqIndex? i xs.length=some j/\xs[j]? =some v/\j<xs.length/\-(xs.length:Int)<=i/\i<xs.length:=by
 unfold eN at h
 cases e:gM xs.length i with
 |none=>rw[e]at h;cases h
 |some j=>
  rw[e]at h
  obtain⟨h1,h2,h3,h4⟩:=IY e
  exact⟨j,h1,h,h2,h3,h4⟩
theorem abX{α:Type}{xs:List α}{j:Nat}{v:α}(h:xs[j]? =some v):eN xs (j:Int)=some v:=by
 have hj:j<xs.length:=(List.getElem?_eq_some_iff.mp h).1
 have e:gM xs.length (j:Int)=some j:=by
  unfold gM
  rw[if_pos (by lia),if_pos (by lia)];simp
 unfold eN;rw[e];exact h
theorem iH{α:Type}(xs:List α)(v:α):eN (xs++[v]) (-1)=some v:=by
 have hl:(xs++[v]).length=xs.length+1:=by simp
 have e:gM (xs++[v]).length (-1)=some xs.length:=by
  unfold gM
  rw[hl,if_neg (by decide),if_pos (by lia)]
  congr 1
  lia
 unfold eN
 rw[e]
 show(xs++[v])[xs.length]? =some v
 simp
noncomputable def ab1(b:Expr):Prop:=∀o i,subscripted b false o i=operate [o,i] (getItem o i)
noncomputable def IxR(X:Cx)(r:R2):Prop:=
 ∀(value slice:Expr)(pins:List (Addr×Obj))(s:Shared)(σ:St)(H:Hp)(x y:V)(v u:Value)(Q:VK),Inv X pins σ H s->RelV x v->RelV y u->r x y H Q->
  subscripted slice false v u=operate [v,u] (getItem v u)->wpAny (model X.prog X.w) X.A (subscriptTail value slice v u) (EP X pins σ Q) X.xe s
noncomputable def MtR(X:Cx)(id:String)(r:V->List V->Hp->VK->Prop):Prop:=
 ∀(pins:List (Addr×Obj))(s:Shared)(σ:St)(H:Hp)(x:V)(xs:List V)(v:Value)(us:List Value)(Q:VK),Inv X pins σ H s->RelV x v->Vals xs us->r x xs H Q->
  wpAny (model X.prog X.w) X.A (call (.builtin id) (v::us)) (EP X pins σ Q) X.xe s
section
variable{X:Cx}{a b:Expr}{ta tb:TE}{pos:Pos}
theorem IxR.or{r r':R2}(h:IxR X r)(h':IxR X r'):IxR X (λx y H Q=>r x y H Q\/r' x y H Q):=by
 intro value slice pins s σ H x y v u Q I rx ry q hs
 rcases q with q|q
 ·exact h value slice pins s σ H x y v u Q I rx ry q hs
 ·exact h' value slice pins s σ H x y v u Q I rx ry q hs
theorem MtR.or{id:String}{r r':V->List V->Hp->VK->Prop}(h:MtR X id r)(h':MtR X id r'):MtR X id (λx xs H Q=>r x xs H Q\/r' x xs H Q):=by
 intro pins s σ H x xs v us Q I rx rs q
 rcases q with q|q
 ·exact h pins s σ H x xs v us Q I rx rs q
 ·exact h' pins s σ H x xs v us Q I rx rs q
theorem aN{r:R2}(hr:IxR X r)(ha:PE X a ta)(hb:PE X b tb)(hs:ab1 b):PE X (.Subscript a b pos) (lU r ta tb):=by
 intro pins s σ H Q I h
 exact Subscript_ (AQ ha hb I h λv u s2 x y H2 I2 rx ry q=>hr a b pins s2 σ H2 x y v u Q I2 rx ry q (hs _ _))
noncomputable def R6(K:PySem.W.Frag):R2:=λx y H Q=>∃p xs i v,x=.ref p/\y=.int i/\SqL K H p xs/\eN xs i=some v/\Q v H
noncomputable def R5(K:PySem.W.Frag):R2:=λx y H Q=>∃p xs i v,x=.ref p/\y=.int i/\SqT K H p xs/\eN xs i=some v/\Q v H
theorem X2:IxR X (R6 X.K):=by
 intro value slice pins s σ H x y v u Q I rx ry h hs
 obtain⟨p,xs,i,z,rfl,rfl,hq,he,q⟩:=h
 cases rx
 obtain⟨t,rfl⟩:=ry
 obtain⟨its,r,pl,hz⟩:=I.list hq
 obtain⟨j,h1,h2,h3,h4,h5⟩:=K7 he
 obtain⟨w,ew,rw'⟩:=r.get h2
 have hl:=r.length
 have hn:=pN
 have fin:EP X pins σ Q w s:=⟨z,H,I,rw',q⟩
 by_cases h0:0<=i
 ·have hj:i.toNat=j:=by
   rw[seqIndex_of h0 h5]at h1
   exact Option.some.inj h1
  exact item_listR pl.isList h0 (by lia) (by rw[hj];simpa using ew) fin hs
 ·have hj:(i+(its.toArray.size:Int)).toNat=j:=by
   rw[seqIndex_neg (by lia) h4]at h1
   rw[size_toArray,<-hl]
   exact Option.some.inj h1
  exact subscriptTail_builtinR (x:=w) pl.isList.typeIs slot_list_getitem.lookup
   (wpAny_getItem_list_neg (Q:=λr s'=>r=w/\EP X pins σ Q r s') pl.isList (by lia) (by rw[size_toArray] <;> lia) (by lia) (by rw[hj];simpa using ew) ⟨rfl,fin⟩) hs
theorem X1:IxR X (R5 X.K):=by
 intro value slice pins s σ H x y v u Q I rx ry h hs
 obtain⟨p,xs,i,z,rfl,rfl,hq,he,q⟩:=h
 cases rx
 obtain⟨t,rfl⟩:=ry
 obtain⟨its,r,pl,hz⟩:=I.tuple hq
 obtain⟨j,h1,h2,h3,h4,h5⟩:=K7 he
 obtain⟨w,ew,rw'⟩:=r.get h2
 have hl:=r.length
 have hn:=pN
 have fin:EP X pins σ Q w s:=⟨z,H,I,rw',q⟩
 exact subscriptTail_builtinR (x:=w) pl.typeIs slot_tuple_getitem.lookup
  (getItem_tuple (j:=j) (Q:=λr s'=>r=w/\EP X pins σ Q r s') pl (by lia) (by lia) (by rw[size_toArray,<-hl];exact h1) (by simpa using ew) ⟨rfl,fin⟩) hs
theorem VP(its:List Value)(n j:Nat)(u:Value):Obj.mapSeq (·.setIfInBounds j u) { cls:=.type "list",data:=.seq its.toArray n }={ cls:=.type "list",data:=.seq (its.set j u).toArray n }:=by
 simp[Obj.mapSeq]
theorem Inv.lst{pins:List (Addr×Obj)}{σ:St}{H:Hp}{s:Shared}{p:Addr}{xs:List V}(I:Inv X pins σ H s)(h:H p=some (.lst xs)):
  ∃(its:List Value)(n:Nat),Vals xs its/\s.heap.get? p=some { cls:=.type "list",data:=.seq its.toArray n }/\xs.length<=sizeLine:=by
 obtain⟨z,its,n,r,e⟩:=I.hok p _ h
 exact⟨its,n,r,e,z⟩
theorem Inv.lstUpd{pins:List (Addr×Obj)}{σ:St}{H:Hp}{s:Shared}{p:Addr}{xs ys:List V}{its its':List Value}{n n':Nat}{f:Obj->Obj}(I:Inv X pins σ H s)(h:H p=some (.lst xs))
  (ho:s.heap.get? p=some { cls:=.type "list",data:=.seq its.toArray n }) (hf:f { cls:=.type "list",data:=.seq its.toArray n }={ cls:=.type "list",data:=.seq its'.toArray n' }) (r:Vals ys its') (hz:ys.length<=sizeLine) (t:Nat):
  Inv X pins σ (upd H p (.lst ys)) { s with heap:=s.heap.update p f,toks:=t }:=by
 have e:(s.heap.update p f).get? p=some { cls:=.type "list",data:=.seq its'.toArray n' }:=by
  rw[Heap.get?_update_self f ho (by rw[hf] <;> rfl),hf]
 refine I.write (x:=p) (e:=p) (by rw[h];trivial) (.inl rfl) (λb u hb q=>(Heap.get?_update_other _ _ (Ne.symm hb)).trans q) ⟨_,e⟩ ?_
 exact⟨hz,its',n',r,e⟩
noncomputable def GD:V->V->V->Hp->(Hp->Prop)->Prop:=λo i v H Q=>∃p xs k j,o=.ref p/\i=.int k/\H p=some (.lst xs)/\gM xs.length k=some j/\Q (upd H p (.lst (xs.set j v)))
theorem oC:LE X GD:=by
 intro pins s σ H o i v ov iv u Q I ro ri rv h
 obtain⟨p,xs,k,j,rfl,rfl,hp,hj,q⟩:=h
 cases ro
 obtain⟨t,rfl⟩:=ri
 obtain⟨its,n,r,ho,hz⟩:=I.lst hp
 obtain⟨h1,h2,h3,h4⟩:=IY hj
 have hl:=r.length
 have hn:=pN
 have I':Inv X pins σ (upd H p (.lst (xs.set j v))) { s with heap:=s.heap.update p (Obj.mapSeq (·.setIfInBounds j u)) }:=
  I.lstUpd hp ho (VP its n j u) (r.set rv j) (by rw[length_set];exact hz) s.toks
 by_cases h0:0<=k
 ·have hk:k.toNat=j:=by
   rw[seqIndex_of h0 h4]at h1
   exact Option.some.inj h1
  exact PySem.W.ki_setAt ho h0 (by lia) (by rw[size_toArray,<-hl];exact h4) (by rw[hk];exact⟨_,I',q⟩)
 ·have hk:(k+(its.toArray.size:Int)).toNat=j:=by
   rw[seqIndex_neg (by lia) h3]at h1
   rw[size_toArray,<-hl]
   exact Option.some.inj h1
  exact PySem.W.ki_setBack ho (by lia) (by rw[size_toArray,<-hl];exact h3) (by lia) (by rw[hk];exact⟨_,I',q⟩)
theorem aaC:CallR X (.builtin "len") (λxs H Q=>∃p ys,xs=[.ref p]/\(SqL X.K H p ys\/SqT X.K H p ys)/\Q (.int ys.length) H):=by
 intro pins s σ H xs us Q I r h
 obtain⟨p,ys,rfl,hq,q⟩:=h
 obtain⟨u,rfl,rx⟩:=vals1 r
 cases rx
 have hn:=pN
 rcases hq with hq|hq
 ·obtain⟨its,r',pl,hz⟩:=I.list hq
  have hlen:=r'.length
  exact Calls.call_len_list pl.isList (by simp only[size_toArray] <;> lia) ⟨.int ys.length,H,I.tok _,⟨s.toks+1,by rw[size_toArray,hlen]⟩,q⟩
 ·obtain⟨its,r',pl,hz⟩:=I.tuple hq
  have hlen:=r'.length
  exact len_tuple pl (by simp only[size_toArray] <;> lia) ⟨.int ys.length,H,I.tok _,⟨s.toks+1,by rw[size_toArray,hlen]⟩,q⟩
theorem CallR.or{f:Value}{r r':List V->Hp->VK->Prop}(h:CallR X f r)(h':CallR X f r'):CallR X f (λxs H Q=>r xs H Q\/r' xs H Q):=by
 intro pins s σ H xs us Q I rs q
 rcases q with q|q
 ·exact h pins s σ H xs us Q I rs q
 ·exact h' pins s σ H xs us Q I rs q
theorem aaB:CallR X (.type "list") (λxs H Q=>∃p ys,xs=[.ref p]/\(SqL X.K H p ys\/SqT X.K H p ys)/\∀l,H l=none->Q (.ref l) (upd H l (.lst ys))):=by
 intro pins s σ H xs us Q I r h
 obtain⟨p,ys,rfl,hq,q⟩:=h
 obtain⟨u,rfl,rx⟩:=vals1 r
 cases rx
 have fin:∀(its:List Value),Vals ys its->ys.length<=sizeLine->∀(h':Heap)(c':Nat),(∀b o',s.heap.get? b=some o'->h'.get? b=some o')->
   h'.get? s.heap.objs.size=some { cls:=.type "list",dict:=none,data:=.seq its.toArray c',slots:=#[] }->EP X pins σ Q (.ref s.heap.objs.size) { s with heap:=h' }:=λits r' hz h' c' kp e=>
  ⟨.ref s.heap.objs.size,_,I.laid (t':=s.toks) kp (Nat.le_refl _) (show ObjOk X.prog X.w _ h' _ (.lst ys) from⟨hz,its,c',r',e⟩),rfl,q _ (I.hok.fresh (Nat.le_refl _))⟩
 rcases hq with hq|hq
 ·obtain⟨its,r',pl,hz⟩:=I.list hq
  have hlen:=r'.length
  obtain⟨o,ho,hc,n,hd⟩:=pl.isList
  exact call_list_seq p (.inl rfl) ho hc hd (λh' c' kp e=>fin its r' hz h' c' kp e) (by simp only[size_toArray] <;> lia)
 ·obtain⟨its,r',pl,hz⟩:=I.tuple hq
  have hlen:=r'.length
  obtain⟨o,ho,hc,n,hd⟩:=pl
  exact call_list_seq p (.inr rfl) ho hc hd (λh' c' kp e=>fin its r' hz h' c' kp e) (by simp only[size_toArray] <;> lia)
theorem Z6:CallR X (.type "tuple") (λxs H Q=>∃p ys,xs=[.ref p]/\((SqL X.K H p ys/\∀l,H l=none->Q (.ref l) (upd H l (.tup ys)))\/(SqT X.K H p ys/\Q (.ref p) H))):=by
 intro pins s σ H xs us Q I r h
 obtain⟨p,ys,rfl,h⟩:=h
 obtain⟨u,rfl,rx⟩:=vals1 r
 cases rx
 rcases h with⟨hq,q⟩|⟨hq,q⟩
 ·obtain⟨its,r',pl,hz⟩:=I.list hq
  have hlen:=r'.length
  refine call_tuple_list pl.isList (λh' kp=>?_) (by simp only[size_toArray] <;> lia)
  have I1:Inv X pins σ H { s with heap:=h' }:=I.kept (t':=s.toks) kp
  have I2:Inv X pins σ (upd H h'.objs.size (.tup ys)) { s with heap:=h'.push { cls:=.type "tuple",data:=.seq its.toArray } }:=
   I1.laid (t':=s.toks) (λb o e=>Heap.get?_push_of_some _ e) (Nat.le_refl _) (show ObjOk X.prog X.w _ _ _ (.tup ys) from⟨hz,its,r',IsTupN.new _ _⟩)
  exact⟨.ref h'.objs.size,_,I2,rfl,q _ (I1.hok.fresh (Nat.le_refl _))⟩
 ·obtain⟨its,r',pl,hz⟩:=I.tuple hq
  exact call_tuple_same pl ⟨.ref p,H,I,rfl,q⟩
noncomputable def kQ(K:PySem.W.Frag)(T:String)(x:V)(H:Hp):Prop:=match x with
 | .str _=>T="str"
 | .int _=>T="int"
 | .ref p=>(T="list"/\∃xs,SqL K H p xs)\/(T="tuple"/\∃o,K.lookup p=some o/\o.cls=.type "tuple"/\o.dict=none)\/
   (T="dict"/\((∃kvs,H p=some (.dK kvs))\/∃kvs,H p=some (.dT kvs)))\/(T="set"/\∃S n,H p=some (.set S n))
 |_=>False
theorem CU{pins:List (Addr×Obj)}{σ:St}{H:Hp}{s:Shared}{T:String}{x:V}{v:Value}(I:Inv X pins σ H s)(r:RelV x v)(ty:kQ X.K T x H):
  s.TypeIs v T/\∀a,v=.ref a->∃ob,s.heap.get? a=some ob/\ob.dict=none:=by
 cases x with
 |str z=>
  obtain⟨t,rfl⟩:=r
  cases(show T="str" from ty)
  exact⟨typeIs_str s z t,λ_ e=>nomatch e⟩
 |int i=>
  obtain⟨t,rfl⟩:=r
  cases(show T="int" from ty)
  exact⟨typeIs_int s i t,λ_ e=>nomatch e⟩
 | ref p=>
  cases r
  rcases ty with⟨rfl,xs,hq⟩|⟨rfl,o,hk,hc,hd⟩|⟨rfl,hk⟩|⟨rfl,S,n,hk⟩
  ·obtain⟨its,_,pl,_⟩:=I.list hq
   refine⟨pl.isList.typeIs,λa e=>?_⟩
   cases e
   obtain⟨o,n,e,c,hd,_⟩:=pl
   exact⟨o,e,hd⟩
  ·refine⟨⟨o,I.kIn p o hk,hc⟩,λa e=>?_⟩
   cases e
   exact⟨o,I.kIn _ o hk,hd⟩
  ·have z:∃o,s.heap.get? p=some o/\o.ExactDict:=by
    rcases hk with⟨kvs,hk⟩|⟨kvs,hk⟩
    ·obtain⟨_,_,_,_,o,_,_,e,ex,_⟩:=I.hok p _ hk
     exact⟨o,e,ex⟩
    ·obtain⟨_,_,_,_,o,_,_,e,ex,_⟩:=I.hok p _ hk
     exact⟨o,e,ex⟩
   obtain⟨o,e,ex⟩:=z
   refine⟨⟨o,e,ex.1⟩,λa e2=>?_⟩
   cases e2
   exact⟨o,e,ex.2.1⟩
  ·obtain⟨o,_,_,_,e,ex,_⟩:=I.hok p _ hk
   refine⟨⟨o,e,ex.1⟩,λa e2=>?_⟩
   cases e2
   exact⟨o,e,ex.2.1⟩
 |_=>exact False.elim ty
noncomputable def sF(K:PySem.W.Frag)(T:String)(r:V->List V->Hp->VK->Prop)(to:TE):TE:=λσ H Q=>to σ H λx H1=>kQ K T x H1/\r x [] H1 Q
noncomputable def sG(K:PySem.W.Frag)(T:String)(r:V->List V->Hp->VK->Prop)(to:TE)(t:TA):TE:=λσ H Q=>to σ H λx H1=>kQ K T x H1/\t σ H1 λxs H2=>r x xs H2 Q
variable{o e:Expr}{es:List Expr}{to:TE}{t:TA}{name:Str}{apos cpos:Pos}{T id:String}{r:V->List V->Hp->VK->Prop}
theorem SY(pa:PlainAttrs T)(slot:Slot T name id)(hty:typeOf (.builtin id)=pure (.type "method_descriptor"))(hm:MtR X id r)(ho:PE X o to)
  (hbase:attributeBase o name X.env (eval o X.env)=eval o X.env:=by rfl) (hline:(apos.endLine==cpos.line)=true:=by rfl):PE X (.Call (.Attribute o name apos) [] [] cpos) (sF X.K T r to):=by
 intro pins s σ H Q I h
 refine wpAny_Call_method0_late hbase hline (aH (ho pins s σ H _ I h) λv s1⟨x,H1,I1,r1,ty,q1⟩=>?_)
 obtain⟨h1,h2⟩:=CU I1 r1 ty
 exact⟨T,id,pa,slot,hty,h1,h2,Calls.callWith_builtin rfl (PySem.evalArgs_none (hm pins s1 σ H1 x [] v [] Q I1 r1 .nil q1))⟩
theorem SZ(pa:PlainAttrs T)(slot:Slot T name id)(hty:typeOf (.builtin id)=pure (.type "method_descriptor"))(hm:MtR X id r)(ho:PE X o to)(ha:PA X (e::es) t)
  (hbase:attributeBase o name X.env (eval o X.env)=eval o X.env:=by rfl)
  (hfew:((backTo cpos (starEach (e::es) X.env)).all (λx=> !x.1)&&(backToKw cpos (keywordEach [] X.env)).all (λx=>x.1.isSome)
   &&decide ((e::es).length+([]:List Keyword).length+(if([]:List Keyword).isEmpty then 0 else 1)<30))=true:=by rfl)
  (hline:(apos.endLine==cpos.line)=true:=by rfl) (hs:starEach (e::es) X.env=(false,eval e X.env)::starEach es X.env:=by rfl) (hplain:(backTo cpos (starEach es X.env)).any (·.1)=false:=by rfl):
  PE X (.Call (.Attribute o name apos) (e::es) [] cpos) (sG X.K T r to t):=by
 intro pins s σ H Q I h
 refine wpAny_Call_method_late hbase hfew hline rfl (aH (ho pins s σ H _ I h) λv s1⟨x,H1,I1,r1,ty,q1⟩=>?_)
 obtain⟨h1,h2⟩:=CU I1 r1 ty
 refine⟨T,id,pa,slot,hty,h1,h2,?_⟩
 have hA:=ha cpos pins s1 σ H1 _ I1 q1
 rw[hs]at hA ⊢
 refine Calls.callWith_builtin (by show(false||(backTo cpos (starEach es X.env)).any (·.1))=false;rw[hplain] <;> rfl) (Calls.evalArgs_plain ?_)
 exact aH hA λus s2⟨vs,H2,I2,r2,q2⟩=>hm pins s2 σ H2 x vs v us Q I2 r1 r2 q2
end
noncomputable def nR(X:Cx)(id:String)(r:V->List V->Hp->VK->Prop):Prop:=
 ∀(pins:List (Addr×Obj))(s:Shared)(σ:St)(H:Hp)(x:V)(xs:List V)(v:Value)(us:List Value)(Q:VK),Inv X pins σ H s->RelV x v->Vals xs us->r x xs H Q->
  wpAny (model X.prog X.w) X.A (call (.builtin id) (v::us)) (EP X pins σ Q) X.xe s
theorem Vals.one:∀{x:V}{us:List Value},Vals [x] us->∃u,us=[u]/\RelV x u
 |_,_,.cons r .nil=>⟨_,rfl,r⟩
theorem Vals.two{x y:V}{us:List Value}(h:Vals [x,y] us):∃u v,us=[u,v]/\RelV x u/\RelV y v:=by
 cases h with
 |cons r t=>
 cases t with
 |cons q t=>
 cases t
 exact⟨_,_,rfl,r,q⟩
theorem Vals.zero:∀{us:List Value},Vals [] us->us=[]
 |_,.nil=>rfl
theorem Vals.dropLast{xs:List V}{us:List Value}(h:Vals xs us):Vals xs.dropLast us.dropLast:=by
 induction h with
 |nil=>exact .nil
 |cons r t ih=>
  cases t with
  |nil=>exact .nil
  |cons q t'=>exact .cons r ih
theorem Vals.eraseIdx:∀{xs:List V}{us:List Value}(i:Nat),Vals xs us->Vals (xs.eraseIdx i) (us.eraseIdx i)
 |_,_,_,.nil=>.nil
 |_,_,0,.cons _ t=>t
 |_,_,i+1,.cons r t=>.cons r (Vals.eraseIdx i t)
theorem Vals.reverse{xs:List V}{us:List Value}(h:Vals xs us):Vals xs.reverse us.reverse:=by
 induction h with
 |nil=>exact .nil
 |cons r t ih=>rw[reverse_cons,reverse_cons];exact Vals.append ih (.cons r .nil)
theorem Vals.rep{xs:List V}{us:List Value}(h:Vals xs us):∀k:Nat,Vals (replicate k xs).flatten (replicate k us).flatten
 |0=>.nil
 |k+1=>by
  rw[replicate_succ,replicate_succ,flatten_cons,flatten_cons]
  exact Vals.append h (Vals.rep h k)
theorem ZB{α:Type}(l:List α):l.eraseIdx (l.length-1)=l.dropLast:=by
 induction l with
 |nil=>rfl
 | cons a r ih=>
  cases r with
  |nil=>rfl
  | cons b r=>
   have e:(a::b::r).length-1=((b::r).length-1)+1:=by
    have h1:(a::b::r).length=r.length+2:=rfl
    have h2:(b::r).length=r.length+1:=rfl
    lia
   rw[e,List.eraseIdx_cons_succ,ih]
   all_goals rfl
theorem foldl_rep(its:List Value):∀(k:Nat)(acc:List Value),
  List.foldl (λx1 x2=>x1++x2) acc.toArray (replicate k its.toArray)=(acc++(replicate k its).flatten).toArray
 |0,acc=>by simp
 | k+1,acc=>by
  have e:acc.toArray++its.toArray=(acc++its).toArray:=by simp
  have e2:(acc++its)++(replicate k its).flatten=acc++(replicate (k+1) its).flatten:=by
   rw[replicate_succ,flatten_cons,append_assoc]
  rw[<-e2,<-foldl_rep its k (acc++its),<-e,replicate_succ,foldl_cons]
section
variable{X:Cx}{pins:List (Addr×Obj)}{σ:St}{H:Hp}{s:Shared}{l b:Addr}{xs ys zs:List V}
theorem Inv.lset{its its':List Value}{n:Nat}{f:Array Value->Array Value}{t':Nat}(I:Inv X pins σ H s)(hH:H l=some (.lst xs))
  (e:s.heap.get? l=some { cls:=.type "list",data:=.seq its.toArray n }) (hf:f its.toArray=its'.toArray) (hv:Vals ys its') (hz:ys.length<=sizeLine):
  Inv X pins σ (upd H l (.lst ys)) { s with heap:=s.heap.update l (Obj.mapSeq f),toks:=t' }:=by
 have q:=PySem.IsL.update e f
 rw[hf]at q
 refine I.write (x:=l) (e:=l) (by rw[hH];exact trivial) (.inl rfl) (λb' u hb hu=>(Heap.get?_update_other s.heap (Obj.mapSeq f) (Ne.symm hb)).trans hu) ⟨_,q⟩ ?_
 exact⟨hz,its',_,hv,q⟩
theorem Inv.lnew{its:List Value}{t':Nat}(I:Inv X pins σ H s)(hv:Vals ys its)(hz:ys.length<=sizeLine):
  Inv X pins σ (upd H s.heap.objs.size (.lst ys)) { s with heap:=s.heap.push { cls:=.type "list",data:=.seq its.toArray },toks:=t' }:=
 I.laid (λ_ _ q=>Heap.get?_push_of_some _ q) (Nat.le_refl _) ⟨hz,its,0,hv,Heap.get?_push_size _ rfl⟩
theorem Inv.fresh(I:Inv X pins σ H s):H s.heap.objs.size=none:=I.hok.fresh (Nat.le_refl _)
theorem Inv.lstM(I:Inv X pins σ H s)(hH:H l=some (.lst xs)):xs.length<=sizeLine/\∃(its:List Value)(n:Nat),Vals xs its/\xs.length=its.length/\s.heap.get? l=some { cls:=.type "list",data:=.seq its.toArray n }:=by
 obtain⟨z,its,n,r,e⟩:=I.hok l _ hH
 exact⟨z,its,n,r,r.length,e⟩
theorem HW{n:Nat}(h:n<=sizeLine):Builtin.List.listTooLong n=false:=by
 unfold Builtin.List.listTooLong
 exact decide_eq_false (by lia)
end
section
variable{X:Cx}
noncomputable def GS:V->List V->Hp->VK->Prop:=λx vs H Q=>∃l xs y,x=.ref l/\vs=[y]/\H l=some (.lst xs)/\xs.length<sizeLine/\Q .non (upd H l (.lst (xs++[y])))
theorem iY:nR X "list.append" GS:=by
 intro pins s σ H x vs v us Q I rx rv h
 obtain⟨l,xs,y,rfl,rfl,hH,hz,q⟩:=h
 cases rx
 obtain⟨u,rfl,ru⟩:=rv.one
 obtain⟨z,its,n,r,hl,e⟩:=I.lstM hH
 refine call_meets F.slot_list_append ⟨_,e,rfl⟩ F.entry_list_append (F.args_list_append_2 _ _) (PySem.list_append l its.toArray n u (by rw[size_toArray];lia)) ⟨e,?_⟩
 refine⟨.non,_,I.lset (its':=its++[u]) hH e (by simp) (r.append (.cons ru .nil)) ?_,rfl,q⟩
 rw[length_append,length_singleton]
 lia
noncomputable def GM:V->List V->Hp->VK->Prop:=λx vs H Q=>∃l b xs zs,x=.ref l/\vs=[.ref b]/\H l=some (.lst xs)/\H b=some (.lst zs)/\xs.length+zs.length<=sizeLine/\Q .non (upd H l (.lst (xs++zs)))
theorem HZ:nR X "list.extend" GM:=by
 intro pins s σ H x vs v us Q I rx rv h
 obtain⟨l,b,xs,zs,rfl,rfl,hH,hB,hz,q⟩:=h
 cases rx
 obtain⟨u,rfl,ru⟩:=rv.one
 cases ru
 obtain⟨z,its,n,r,hl,e⟩:=I.lstM hH
 obtain⟨z2,its2,n2,r2,hl2,e2⟩:=I.lstM hB
 have hsz:its.toArray.size+its2.toArray.size<=sizeLine:=by rw[size_toArray,size_toArray];lia
 have hlong:¬(!its.toArray.isEmpty&&Builtin.List.listTooLong (its.toArray.size+its2.toArray.size))=true:=by
  rw[HW hsz,Bool.and_false]
  exact Bool.false_ne_true
 refine call_meets F.slot_list_extend ⟨_,e,rfl⟩ F.entry_list_extend (F.args_list_extend_2 _ _)
  (AutoSeq1.list_extend_list_list_0 l its.toArray n b its2.toArray n2 hlong (by rw[size_toArray];lia) (by lia)) ⟨e,e2,?_⟩
 refine⟨.non,_,I.lset (its':=its++its2) hH e (by simp) (r.append r2) ?_,rfl,q⟩
 rw[length_append]
 lia
noncomputable def R4:V->List V->Hp->VK->Prop:=λx vs H Q=>∃l xs y,x=.ref l/\vs=[]/\H l=some (.lst xs)/\xs[xs.length-1]? =some y/\Q y (upd H l (.lst xs.dropLast))
theorem U6:nR X "list.pop" R4:=by
 intro pins s σ H x vs v us Q I rx rv h
 obtain⟨l,xs,y,rfl,rfl,hH,hy,q⟩:=h
 cases rx
 have hus:=rv.zero
 subst hus
 obtain⟨z,its,n,r,hl,e⟩:=I.lstM hH
 obtain⟨u,hu,ru⟩:=r.get hy
 have hy':its.toArray[its.toArray.size-1]? =some u:=by
  show its.toArray[its.length-1]? =some u
  rw[<-Array.getElem?_toList,<-hl]
  exact hu
 refine call_meets F.slot_list_pop ⟨_,e,rfl⟩ F.entry_list_pop (F.args_list_pop_1 _) (MeetsSeq.list_pop_last l its.toArray n u hy' (by rw[size_toArray];lia)) ⟨e,?_⟩
 refine⟨y,_,I.lset (its':=its.dropLast) hH e ?_ r.dropLast ?_,ru,q⟩
 ·show its.toArray.eraseIdxIfInBounds (its.toArray.size-1)=its.dropLast.toArray
  rw[size_toArray,List.eraseIdxIfInBounds_toArray,ZB]
 ·rw[length_dropLast]
  lia
noncomputable def GR:R2:=λx y H Q=>∃l b xs zs,x=.ref l/\y=.ref b/\H l=some (.lst xs)/\H b=some (.lst zs)/\xs.length+zs.length<=sizeLine/\∀p,H p=none->Q (.ref p) (upd H p (.lst (xs++zs)))
theorem G9:OpR X (binaryOp .Add) GR:=by
 intro pins s σ H x y v u Q I rx ry h
 obtain⟨l,b,xs,zs,rfl,rfl,hH,hB,hz,q⟩:=h
 cases rx
 cases ry
 obtain⟨z,its,n,r,hl,e⟩:=I.lstM hH
 obtain⟨z2,its2,n2,r2,hl2,e2⟩:=I.lstM hB
 refine PySem.P.add_list e e2 ?_ (by rw[size_toArray,size_toArray];lia)
 have ea:its.toArray++its2.toArray=(its++its2).toArray:=by simp
 rw[ea]
 exact⟨.ref _,_,I.lnew (t':=s.toks) (r.append r2) (by rw[length_append];lia),rfl,q _ I.fresh⟩
noncomputable def GE:R2:=λx y H Q=>∃l k xs,x=.ref l/\y=.int k/\H l=some (.lst xs)/\-(2^63)<=k/\k<2^63/\xs.length*k.toNat<=sizeLine/\
 ∀p,H p=none->Q (.ref p) (upd H p (.lst (replicate k.toNat xs).flatten))
theorem W6{α:Type}(xs:List α)(k:Nat):(replicate k xs).flatten.length=k*xs.length:=by
 induction k with
 |zero=>simp
 |succ k ih=>rw[replicate_succ,flatten_cons,length_append,ih,Nat.succ_mul,Nat.add_comm]
theorem wP:OpR X (binaryOp .Mult) GE:=by
 intro pins s σ H x y v u Q I rx ry h
 obtain⟨l,k,xs,rfl,rfl,hH,h1,h2,hz,q⟩:=h
 cases rx
 obtain⟨t,rfl⟩:=ry
 obtain⟨z,its,n,r,hl,e⟩:=I.lstM hH
 have hlen:its.toArray.size*k.toNat<=sizeLine:=by rw[size_toArray,<-hl];exact hz
 have hcap:¬its.toArray.size*k.toNat>(2^63-1)/8:=by
  have:(sizeLine:Nat)<=(2^63-1)/8:=by decide
  lia
 have hfit:¬(!Builtin.List.listFitsIndex k)=true:=by
  rw[fitsIndex_both h1 h2]
  exact Bool.false_ne_true
 have hlong:¬Builtin.List.listTooLong (its.toArray.size*k.toNat)=true:=by
  rw[HW hlen]
  exact Bool.false_ne_true
 have hnew:List.foldl (λx1 x2=>x1++x2) #[] (replicate (if its.toArray.isEmpty=true then 0 else k.toNat) its.toArray)=(replicate k.toNat its).flatten.toArray:=by
  have f0:∀m:Nat,List.foldl (λx1 x2=>x1++x2) #[] (replicate m its.toArray)=(replicate m its).flatten.toArray:=λm=>by
   have:=foldl_rep its m []
   rw[List.nil_append]at this
   exact this
  rw[f0]
  cases its with
  |nil=>simp
  |cons a r'=>rw[if_neg (by simp)]
 refine wpAny_binaryOp_repeat_ref (T:="list") (U:="int") (by decide) ⟨_,e,rfl⟩ (λs'=>typeIs_int s' k t) noFill_list_mul F.fills_int_mul F.slot_int_rmul repeat_list F.slot_int_index.lookup
  (call_meets F.slot_int_rmul (typeIs_int s k t) F.entry_int_rmul (F.args_int_rmul_2 _ _) (int___rmul___int_list k t l its.toArray n)
   ⟨e,rfl,⟨_,e,rfl⟩,call_meets F.slot_list_mul ⟨_,e,rfl⟩ F.entry_list_mul (F.args_list_mul_2 _ _) (AutoListH.list___mul___list_int_3 l its.toArray n k t hfit hcap hlong) ⟨e,?_⟩⟩)
 rw[hnew]
 exact⟨.ref _,_,I.lnew (t':=s.toks) (r.rep k.toNat) (by rw[W6,Nat.mul_comm];exact hz),rfl,q _ I.fresh⟩
end
section
variable{prog:Program}{w:World}{A:Around}{E:Value->Shared->Prop}{s:Shared}
end
section
variable{X:Cx}
end
end L2
namespace Att
open PySem PySem.W PySem.Calls PyProof.Rows
theorem X9{P:Params}{h:Heap}:∀(ns:List Int)(vs:List Value),WellAll P h vs (ns.map WData.int)->IntsAre vs ns:=by
 intro ns
 induction ns with
 |nil=>
  intro vs w
  rw[map_nil]at w
  cases w
  exact .nil
 | cons n ns ih=>
  intro vs w
  rw[map_cons]at w
  cases w with
  |cons a b=>
   cases a
   exact .cons _ _ (ih _ b)
theorem OL{l:OpenLaw}{n:Nat}(hn:l.most=some n){P:Params}{h:Heap}{args:List WData}{vals:List Value}
  (hpre:l.row.toRowW.claim.pre args=true) (hwl:WellAll P h vals args):
  ∃a vs ns,vals=[Value.ref a]/\args=[WData.list (ns.map WData.int)]/\h.get? a=some { cls:=.type "list",data:=.seq vs.toArray }/\IntsAre vs ns/\ns.length<=n:=by
 have hsh:WShape.hasAll [] args [.list .int]=true:=(pre_splitW hpre).1
 have hc:l.pre.holds [] { args:=args }=true:=(pre_splitW hpre).2
 obtain⟨d,r,rfl,h1,h2⟩:=hasAllW_cons hsh
 obtain rfl:=hasAllW_nil h2
 obtain⟨xs,rfl,h3⟩:=hasW_list h1
 obtain⟨ns,rfl⟩:=items_int h3
 have hlen:ns.length<=n:=by
  unfold OpenLaw.pre at hc
  have h4:(WTm.not (.lt (.lit (.int (n:Int))) (.len (.arg 0)))).holds [] { args:=[.list (ns.map .int)] }=true:=by
   have h4:=(holds_andW hc).1
   rw[hn]at h4
   exact h4
  have h5:=condW_of h4 (w_not (w_lt w_lit (w_len_list (w_arg rfl))))
  rw[length_map]at h5
  refine Nat.le_of_not_lt λq=>?_
  have q':(n:Int)<((ns.length:Nat):Int):=by lia
  first
   |(rw[decide_eq_true q']at h5;exact absurd h5 (by decide))
   |(simp at h5;lia)
 cases hwl with
 |cons w1 w2=>
  cases w2
  cases w1 with
  |list ho hall=>exact⟨_,_,ns,rfl,rfl,ho,X9 ns _ hall,hlen⟩
theorem SC(l:OpenLaw)(args:List WData):l.row.toRowW.claim.post args (.bool true) args=true:=
 postW_of (r:=l.row.toRowW) (X:=(true==true))
  (show WShape.has [] (.bool true) .bool=true by first|rfl|decide|simp[WShape.has,WShape.arms,WShape.armsAll])
  (show(WTm.eq .res (.lit (.bool true))).value [] { args:=args,res:=some (.bool true),after:=args }=some (.bool (true==true)) from w_eq_bool (w_res rfl) w_lit) rfl
theorem attach_call{l:OpenLaw}{n:Nat}{q:Program}{loose:List Str}{XP:(Str->Option Value)->Heap->Prop}{YP:World->Heap->Prop}{d:DefRec}
  (hn:l.most=some n) (hdf:d.params.defaults=[])
  (call:∀(w:World)(s₀ s₁:Shared)(mg mb:Str->Option Value)(fa:Addr)(o:Obj)(pm cd doc:Value)(a:Addr)(vs:List Value)(ns:List Int),
   Ground q loose [] XP w s₀ mg mb s₁.heap->YP w s₁.heap->
   s₁.heap.get? fa=some o->o.data=.func (docDef d.name d.params d.body d.scope pm cd doc)->s₁.heap.CodeRec cd d.name->mg d.name=some (.ref fa)->
   s₁.heap.get? a=some { cls:=.type "list",data:=.seq vs.toArray }->IntsAre vs ns->ns.length<=n->s₁.gens=#[]->
   codeAny (model l.prog w) callerA (.call (.ref fa) ⟨[.ref a],[]⟩) (λr s'=>r=.ok (.ret (.bool true))/\OldK s₁.heap s'.heap/\s'.os=s₁.os/\AllBare s'.gens) s₁):
  WalkO q loose XP YP l.row.toRowW d [] (λf vs=>PySem.call f vs):=by
 intro w s₀ s₁ mg mb G Y fa o pm cd doc dV kV ho hd hcd hD hmg hg args vals as hpre hlay hrd hwl hlo
 obtain rfl:dV=.none:=Dflts.none hD hdf
 obtain rfl:kV=.none:=Dflts.noKw hD
 obtain⟨a,vs,ns,rfl,rfl,hobj,hints,hlen⟩:=OL hn hpre hwl
 refine enter_call (codeAny_mono (call w s₀ s₁ mg mb fa o pm cd doc a vs ns G Y ho (fd_plain hd) hcd hmg hobj hints hlen hg) λr s' hq=>?_)
 obtain⟨rfl,h2,h3,h4⟩:=hq
 exact⟨.inl ⟨.bool true,.bool true,[],rfl,λ_=>rfl,.bool true,SC l _,λ_=>⟨List.Pairwise.nil,λ_ hm=>(nomatch hm)⟩⟩,h2,h3,h4⟩
section
variable{prog:Program}{w:World}{A:Around}{E:Value->Shared->Prop}{s:Shared}{K:Frag}
end
end Att
namespace L2
open PySem PySem.Spec PyProof.Rows
theorem CQ:∀{vs:List Value}{ns:List Int},IntsAre vs ns->Vals (ns.map V.int) vs
 |_,_,.nil=>.nil
 |_,_,.cons n t h=>.cons ⟨t,rfl⟩ (CQ h)
noncomputable def qX(H:Hp):Prop:=∀b,H b=none\/∃o xs,H b=some (.frz o (.lst xs))
theorem W8{P:Program}{w:World}{K:PySem.W.Frag}{mg mb:Str->Option Value}{CX:dH}{k:Nat}{fa a:Addr}{fd:FuncData}{x:Str}{sp:Sp}{s₁:Shared}{vs:List Value}{ns:List Int}
  (KX:K.In s₁.heap) (hns:s₁.heap.Ns mainGlobals mg) (hb:s₁.heap.Ns builtinsNs mb) (hbb:∀x:Str,x≠"__name__"->mb x=bootBuiltins x) (hlim:s₁.heap.NoLimit) (hg:s₁.gens=#[])
  (ha:s₁.heap.get? a=some { cls:=.type "list",data:=.seq vs.toArray }) (hi:IntsAre vs ns) (hl:ns.length<=sizeLine) (hr:Room k callerA)
  (F:∀base:Heap,K.In base->base.Ns mainGlobals mg->FnOk P w K mg base CX k fa fd [x] sp) (hbind:∀(s:Shared)(u:Value),BindsTo s fd ⟨[u],[]⟩ [(x,u)])
  (hsp:∀H:Hp,qX H->SqL K H a (ns.map V.int)->sp [.ref a] H (λv _=>v=.bl true) λ_ _ _=>False)
  (hCX:∀H e s',CX [] H s₁ (λ_ _ _=>False) e s'->False):
  codeAny (model P w) callerA (.call (.ref fa) ⟨[.ref a],[]⟩) (λr s'=>r=.ok (.ret (.bool true))/\OldK s₁.heap s'.heap/\s'.os=s₁.os/\AllBare s'.gens) s₁:=by
 have rv:=CQ hi
 have lenV:=hi.length
 have core:∀H:Hp,qX H->SqL K H a (ns.map V.int)->HOk P w H s₁.heap->(∀b,H b≠none->b=a)->(H a≠none->K.lookup a=none)->
   codeAny (model P w) callerA (.call (.ref fa) ⟨[.ref a],[]⟩) (λr s'=>r=.ok (.ret (.bool true))/\OldK s₁.heap s'.heap/\s'.os=s₁.os/\AllBare s'.gens) s₁:=by
  intro H hO hS hok hA hK
  have base_of:∀{b:Addr}{o:Obj},s₁.heap.get? b=some o->H b=none->(jA s₁.heap H).get? b=some o:=λe n=>YL e n
  have noA:∀{b:Addr}{o:Obj}{es:Array DictEntry}{ep:Nat},s₁.heap.get? b=some o->o.data=.dict es ep->H b=none:=λ{b o es ep}e d=>by
   cases q:H b with
   |none=>rfl
   |some u=>
    have e':b=a:=hA b (by rw[q];simp)
    subst e'
    rw[ha]at e;cases e
    have d':Data.seq vs.toArray _=Data.dict es ep:=d
    cases d'
  have nsK:∀{b:Addr}{m:Str->Option Value},s₁.heap.Ns b m->(jA s₁.heap H).Ns b m:=λ{b m}⟨o,es,ep,e,d,r⟩=>⟨o,es,ep,base_of e (noA e d),d,r⟩
  have hKb:K.In (jA s₁.heap H):=λb o e=>base_of (KX b o e) (by
   cases q:H b with
   |none=>rfl
   |some u=>
    have e':b=a:=hA b (by rw[q];simp)
    subst e'
    rw[hK (by rw[q];simp)]at e;cases e)
  have hM:Mod K mg (jA s₁.heap H):=⟨hKb,nsK hns,⟨mb,nsK hb,hbb⟩,let⟨mc,h1,h2⟩:=hlim;⟨mc,nsK h1,h2⟩⟩
  have e0:Env0 P w K mg (jA s₁.heap H) callerA [] s₁ H:=⟨rfl,hM,λb o e=>UQ e,Nat.le_of_eq (YK _ _),trivial,λb hb=>absurd (show b∈([]:List Addr) from hb) (by simp),hok,.of_eq hg⟩
  refine codeAny_mono ((F _ hKb (nsK hns)).run callerA [] s₁ H ⟨[.ref a],[]⟩ [.ref a] [.ref a] _ _ hr e0 (hbind s₁ (.ref a)) (.cons rfl .nil) (hsp H hO hS)) λr s' h=>?_
  cases r with
  |error e=>exact(hCX H e s' h).elim
  | ok fl=>
   cases fl with
   |next=>exact False.elim h
   |brk=>exact False.elim h
   |cont=>exact False.elim h
   | ret u=>
    obtain⟨v,H',os,bare,un,hok',r',q⟩:=h
    have q':v=.bl true:=q
    subst q'
    obtain rfl:u=Value.bool true:=r'
    refine⟨rfl,OldK.of_keep λb o e=>?_,os,bare⟩
    cases q:H b with
    |none=>exact un.keep b o e q (by intro z;exact absurd (show b∈([]:List Addr) from z) (by simp)) (by simp)
    | some u=>
     rcases hO b with z|⟨ob,xs,z⟩
     ·rw[q]at z;cases z
     ·have z2:=un.frzs b ob _ z
      obtain⟨e1,_⟩:=hok b _ z
      obtain⟨e2,_⟩:=hok' b _ z2
      rw[e]at e1;cases e1
      exact e2
 cases hk:K.lookup a with
 |some o=>
  have e:=KX a o hk
  rw[ha]at e
  cases e
  refine core (λ_=>none) (λ_=>.inl rfl) (.inr ⟨_,vs.toArray,_,hk,rfl,rfl,rfl,by rw[size_toArray,lenV];exact hl,by simpa using rv⟩) (λb u z=>by have z':(none:Option HO)=some u:=z;cases z') (λb z=>absurd rfl z) λz=>absurd rfl z
 | none=>
  refine core (λb=>if b=a then some (.frz { cls:=.type "list",data:=.seq vs.toArray } (.lst (ns.map V.int))) else none) (λb=>?_) (.inl (.inr ⟨{ cls:=.type "list",data:=.seq vs.toArray },if_pos rfl⟩)) (λb u z=>?_) (λb z=>?_) λ_=>hk
  ·by_cases hb:b=a
   ·exact .inr ⟨_,_,if_pos hb⟩
   ·exact .inl (if_neg hb)
  ·by_cases hb:b=a
   ·have z':=(if_pos hb).symm.trans z
    cases z'
    subst hb
    exact⟨ha,by rw[length_map];exact hl,vs,_,rv,ha⟩
   ·have z':=(if_neg hb).symm.trans z
    cases z'
  ·by_cases hb:b=a
   ·exact hb
   ·exact absurd (if_neg hb) z
noncomputable abbrev bG{K:PySem.W.Frag}{h:Heap}(_:K.In h):PySem.W.Frag:=K
theorem MX{l:PySem.W.OpenLaw}{n k:Nat}{q:Program}{loose:List Str}{XP:(Str->Option Value)->Heap->Prop}{YP:World->Heap->Prop}{d:DefRec}{K:Params->PySem.W.Frag}{CX:World->dH}{sp:World->Sp}{x:Str}
  (hn:l.most=some n) (hn2:n<=sizeLine) (hdf:d.params.defaults=[]) (hr:Room k callerA)
  (hY:∀(w:World)(h:Heap),YP w h->(K w.params).In h)
  (F:∀(w:World)(mg:Str->Option Value)(fa:Addr)(h:Heap),(K w.params).In h->h.Ns mainGlobals mg->mg d.name=some (.ref fa)->
   ∃fd:FuncData,(∀(s:Shared)(u:Value),BindsTo s fd ⟨[u],[]⟩ [(x,u)])/\
    ∀base:Heap,(K w.params).In base->base.Ns mainGlobals mg->FnOk l.prog w (K w.params) mg base (CX w) k fa fd [x] (sp w))
  (hsp:∀(w:World)(H:Hp)(a:Addr)(ns:List Int),ns.length<=n->qX H->SqL (K w.params) H a (ns.map V.int)->sp w [.ref a] H (λv _=>v=.bl true) λ_ _ _=>False)
  (hCX:∀(w:World)(H:Hp)(s:Shared)(e:Value)(s':Shared),CX w [] H s (λ_ _ _=>False) e s'->False):
  PySem.W.WalkO q loose XP YP l.row.toRowW d [] (λf vs=>PySem.call f vs):=by
 refine Att.attach_call hn hdf λw s₀ s₁ mg mb fa o pm cd doc a vs ns G Y ho hd hcd hmg hobj hints hlen hg=>?_
 have KX:=hY w _ Y
 obtain⟨fd,hb,hF⟩:=F w mg fa _ KX G.T.g hmg
 exact W8 KX G.T.g G.T.b G.T.builtins G.T.nolimit hg hobj hints (Nat.le_trans hlen hn2) hr hF hb (λH hO hS=>hsp w H a ns hlen hO hS) λH e s'=>hCX w H s₁ e s'
noncomputable def mR(s:Stmt)(j:Nat):Stmt:=match s with
 | .ClassDef _ _ _ body _ _ _ _ _ _ _=>body.getD j (.Pass ⟨0,0,0,0⟩)
 |_=>.Pass ⟨0,0,0,0⟩
noncomputable def iC(s:Stmt):Arguments:=match s with
 | .FunctionDef _ a _ _ _ _ _ _ _ _=>a
 |_=>{ posonlyargs:=[],args:=[],vararg:=none,kwonlyargs:=[],kw_defaults:=[],kwarg:=none,defaults:=[] }
noncomputable def fN(s:Stmt):List Stmt:=match s with
 | .FunctionDef _ _ b _ _ _ _ _ _ _=>b
 |_=>[]
noncomputable def aJ(s:Stmt):Scope:=match s with
 | .FunctionDef _ _ _ _ _ _ sc _ _ _=>sc
 |_=>{ kind:=.function,names:=[],isGenerator:=false,isCoroutine:=false }
noncomputable abbrev aU:dH:=λ_ _ _ _ _ _=>False
noncomputable abbrev E0:XK:=λ_ _ _=>False
theorem aM{X:Cx}:gQ aU X E0:=λ_ _ _ _ _ _ _ h=>h.elim
structure Fun (K:PySem.W.Frag) (x qual:Str) (st:Stmt) (f:Addr) (fd:FuncData):Prop where
 ex:∃(oc:Value)(od:Option Addr)(kV doc pm:Value)(an:Option Addr)(cdv ct:Value)(osl:Array (Option Value)),
  fd=PySem.W.fnOf x qual (iC st) (fN st) (aJ st) .none kV doc pm an cdv ct/\K.lookup f=some ⟨oc,od,.func fd,osl⟩/\PySem.W.codeIn K cdv qual=true
 kp:PySem.W.keepIn K (.ref f)=true
section
variable{P:Program}{w:World}{K:PySem.W.Frag}{mg:Str->Option Value}{base:Heap}
theorem Fun.ok{x qual:Str}{st:Stmt}{f:Addr}{fd:FuncData}{N ps:List Str}{k:Nat}{sp:Sp}(F:Fun K x qual st f fd)(S:aZ N ps (aJ st))(len:∀vs H Q E,sp vs H Q E->vs.length=ps.length)
  (hbody:∀(cdv:Value)(A:Around)(outer:List Env)(s:Shared)(H:Hp)(vs:List V)(Q:VK)(E:XK),Room k (A.deeper (envOfC qual (aJ st) s.heap.objs.size f cdv))->sp vs H Q E->
   ∃t,PSs (cS aU P w K mg base N qual (aJ st) f cdv A outer s H E).nox (fN st) t/\t { nx:=λ_ H'=>Q .non H',rt:=Q } (start N vs) H):FnOk P w K mg base aU (k+1) f fd ps sp:=by
 obtain⟨oc,od,kV,doc,pm,an,cdv,ct,osl,rfl,lk,hcd⟩:=F.ex
 refine JR lk hcd S len λA outer s H vs Q E hr hsp=>?_
 obtain⟨t,h,q⟩:=hbody cdv A outer s H vs Q E hr hsp
 exact⟨t,h.nox,q⟩
theorem Fun.binds{x qual:Str}{st:Stmt}{f:Addr}{fd:FuncData}{ps:List Str}(F:Fun K x qual st f fd)
  (h:∀(kV doc pm:Value)(an:Option Addr)(cdv ct:Value)(us:List Value),us.length=ps.length->bindArgs (PySem.W.fnOf x qual (iC st) (fN st) (aJ st) .none kV doc pm an cdv ct) ⟨us,[]⟩=pure (ps.zip us)):Binds K fd ps []:=by
 obtain⟨oc,od,kV,doc,pm,an,cdv,ct,osl,rfl,lk,hcd⟩:=F.ex
 exact .all (h kV doc pm an cdv ct)
theorem yS{x qual:Str}{st:Stmt}{f:Addr}{oc:Value}{od an:Option Addr}{osl:Array (Option Value)}{kV doc pm cdv ct:Value}(l:K.lookup f=some ⟨oc,od,.func (PySem.W.fnOf x qual (iC st) (fN st) (aJ st) .none kV doc pm an cdv ct),osl⟩)
  (c:PySem.W.codeIn K cdv qual=true) (k:PySem.W.keepIn K (.ref f)=true):Fun K x qual st f (PySem.W.fnOf x qual (iC st) (fN st) (aJ st) .none kV doc pm an cdv ct):=⟨⟨oc,od,kV,doc,pm,an,cdv,ct,osl,rfl,l,c⟩,k⟩
end
theorem pX{A:Around}{k:Nat}(hr:Room k A):A.units+1<cLine:=Nat.lt_of_le_of_lt (Nat.add_le_add_left (by decide:1<=64) _) hr.units
theorem gH{n:Nat}(h:n<=1000):n<sizeLine:=Nat.lt_of_le_of_lt h (by decide)
section
variable{X:Cx}
theorem pv(i:Nat){x:Str}{pos:Pos}(hN:X.N[i]? =some x:=by rfl)(hv:qU X.env.scope x:=by first|exact Or.inl rfl|exact Or.inr (Or.inl rfl)|exact Or.inr (Or.inr rfl))(hd:(x==("__debug__":Str))=false:=by decide)
  (hcd:(x==("__classdict__":Str))=false:=by decide):PE X (.Name x pos) (rZ i):=SU hN hv hd hcd
end
theorem mM{A B:Prop}(h:B):if false=true then A else B:=by
 rw[if_neg Bool.false_ne_true]
 exact h
theorem mL{A B:Prop}(h:A):if true=true then A else B:=by
 rw[if_pos rfl]
 exact h
noncomputable def Same(H H':Hp):Prop:=∀b o,H b=some o->H' b=some o
theorem Same.refl(H:Hp):Same H H:=λ_ _ h=>h
theorem Same.trans{H H1 H2:Hp}(a:Same H H1)(b:Same H1 H2):Same H H2:=λc o h=>b c o (a c o h)
theorem Same.free{H H':Hp}(e:Same H H'){l:Addr}(h:H' l=Option.none):H l=Option.none:=by
 cases q:H l with
 |none=>rfl
 |some o=>
  rw[e l o q]at h
  cases h
theorem Same.seq{K:PySem.W.Frag}{H H':Hp}{a:Addr}{xs:List V}(e:Same H H')(h:SqL K H a xs):SqL K H' a xs:=by
 rcases h with(h|⟨o,h⟩)|h
 ·exact .inl (.inl (e _ _ h))
 ·exact .inl (.inr ⟨o,e _ _ h⟩)
 ·exact .inr h
noncomputable def iD(env:Env):List (Str×NameKind)->List (Str×Addr)->List (Str×Addr)
 |[],cs=>cs
 |(n,k)::r,cs=>iD env r (if k==.free then(match env.cells.lookup n with|some a=>(n,a)::cs|none=>cs) else cs)
noncomputable def FrOk(env:Env):List (Str×NameKind)->Prop
 |[]=>True
 |(n,k)::r=>(match k with| .free=>(env.kindOf n=some .cell\/env.kindOf n=some .free)| .cell=>False|_=>True)/\FrOk env r
theorem FrOk.free{env:Env}:∀{ns:List (Str×NameKind)}{n:Str},FrOk env ns->(n,NameKind.free)∈ns->env.kindOf n=some .cell\/env.kindOf n=some .free
 |[],_,_,h=>by cases h
 |(m,k)::r,n,f,h=>by
  obtain⟨a,b⟩:=f
  rcases mem_cons.mp h with e|e
  ·cases e;exact a
  ·exact b.free e
theorem FrOk.nocell{env:Env}:∀{ns:List (Str×NameKind)},FrOk env ns->∀y∈ns,y.2≠.cell
 |[],_,_,h=>by cases h
 | (m,k)::r,f,y,h=>by
  obtain⟨a,b⟩:=f
  rcases mem_cons.mp h with e|e
  ·subst e
   intro e
   have e':k=.cell:=e
   subst e'
   exact a
  ·exact b.nocell y e
theorem AI{env:Env}:∀(ns:List (Str×NameKind))(cs:List (Str×Addr)),(∀n,(n,NameKind.free)∈ns->∃a,env.cells.lookup n=some a)->
  (forIn (m:=Sem) ns cs λx r=>match x with|(name,kind)=>(if(kind==NameKind.free)=true then(do let a <-cellOf env name;pure (ForInStep.yield ((name,a)::r))) else pure (ForInStep.yield r)))=pure (iD env ns cs)
 |[],cs,_=>rfl
 | (n,k)::r,cs,h=>by
  rw[List.forIn_cons]
  cases hk:(k==NameKind.free) with
  |false=>
   simp only[hk,Bool.false_eq_true,if_false]
   rw[pure_bind]
   show forIn (m:=Sem) r cs _=pure (iD env r (if(k==NameKind.free)=true then _ else cs))
   rw[hk]
   exact AI r cs λn hn=>h n (mem_cons_of_mem _ hn)
  |true=>
   have ek:k=.free:=by simpa using hk
   subst ek
   obtain⟨a,ha⟩:=h n mem_cons_self
   simp only[hk,if_true]
   unfold cellOf
   rw[ha]
   simp only[pure_bind]
   show forIn (m:=Sem) r ((n,a)::cs) _=pure (iD env r (if(NameKind.free==NameKind.free)=true then(match env.cells.lookup n with|some a=>(n,a)::cs|none=>cs) else cs))
   rw[hk,if_pos rfl,ha]
   exact AI r _ λn hn=>h n (mem_cons_of_mem _ hn)
theorem KH{env:Env}{sc:Scope}(h:∀n,(n,NameKind.free)∈sc.names->∃a,env.cells.lookup n=some a):closureFor sc env=pure (iD env sc.names []):=by
 unfold closureFor
 exact(congrArg (λz=>z >>=λr=>pure r) (AI sc.names [] h)).trans (by simp)
theorem jD{env:Env}:∀{ns:List (Str×NameKind)}{cs:List (Str×Addr)},(∀x c,cs.lookup x=some c->env.cells.lookup x=some c)->∀x c,(iD env ns cs).lookup x=some c->env.cells.lookup x=some c
 |[],_,h,x,c,e=>h x c e
 | (n,k)::r,cs,h,x,c,e=>by
  refine jD (ns:=r) (λy d q=>?_) x c e
  by_cases hk:(k==NameKind.free)=true
  ·rw[if_pos hk]at q
   cases hn:env.cells.lookup n with
   |none=>rw[hn]at q;exact h y d q
   | some a=>
    rw[hn]at q
    simp only[lookup_cons]at q
    cases hy:(y==n) with
    |true=>
     rw[hy]at q
     have:y=n:=by simpa using hy
     subst this
     rw[hn];exact q
    |false=>rw[hy]at q;exact h y d q
  ·rw[if_neg hk]at q;exact h y d q
theorem AJ{env:Env}:∀{ns:List (Str×NameKind)}{cs:List (Str×Addr)}{x:Str},((∃c,cs.lookup x=some c)\/((x,NameKind.free)∈ns/\∃a,env.cells.lookup x=some a))->∃c,(iD env ns cs).lookup x=some c
 |[],cs,x,h=>by
  rcases h with h|⟨h,_⟩
  ·exact h
  ·cases h
 | (n,k)::r,cs,x,h=>by
  refine AJ (ns:=r) ?_
  rcases h with⟨c,h⟩|⟨h,a,ha⟩
  ·left
   by_cases hk:(k==NameKind.free)=true
   ·rw[if_pos hk]
    cases hn:env.cells.lookup n with
    |none=>exact⟨c,h⟩
    |some a=>
     simp only[lookup_cons]
     cases hy:(x==n) with
     |true=>exact⟨a,rfl⟩
     |false=>exact⟨c,h⟩
   ·rw[if_neg hk];exact⟨c,h⟩
  ·rcases mem_cons.mp h with e|e
   ·left
    cases e
    rw[if_pos (by rfl),ha]
    exact⟨a,by simp⟩
   ·exact .inr ⟨e,a,ha⟩
theorem IP{α:Type}:∀{ns:List (Str×α)}{x:Str}{k:α},ns.lookup x=some k->(x,k)∈ns
 |[],_,_,h=>by cases h
 | (n,j)::r,x,k,h=>by
  simp only[lookup_cons]at h
  cases hx:(x==n) with
  |true=>
   rw[hx]at h
   cases h
   have:x=n:=by simpa using hx
   subst this
   exact mem_cons_self
  |false=>rw[hx]at h;exact mem_cons_of_mem _ (IP h)
noncomputable def fT(env:Env)(p:Str×NameKind):Str×NameKind:=if(p.2==NameKind.free&&env.scope.kind==.function&&env.kindOf p.1==some .cell) then(p.1,NameKind.cell) else(p.1,p.2)
theorem FI(env:Env)(p:Str×NameKind):(fT env p).1=p.1:=by
 unfold fT
 split <;> rfl
theorem PN(env:Env)(n:Str):(fT env (n,.free)).2=.cell\/(fT env (n,.free)).2=.free:=by
 unfold fT
 split
 ·exact .inl rfl
 ·exact .inr rfl
theorem PP(env:Env)(p:Str×NameKind)(hn:p.2≠.cell)(h:(fT env p).2=.cell\/(fT env p).2=.free):p.2=.free:=by
 unfold fT at h
 split at h
 ·rename_i hc
  have h1:=(Bool.and_eq_true _ _).mp hc
  have h2:=(Bool.and_eq_true _ _).mp h1.1
  simpa using h2.1
 ·rcases h with h|h
  ·exact absurd h hn
  ·exact h
theorem xT{α:Type}(x:Str)(p:Str×α)(r:List (Str×α)):(p::r).lookup x=if(x==p.1)=true then some p.2 else r.lookup x:=by
 obtain⟨n,k⟩:=p
 rw[lookup_cons]
 cases(x==n) <;> rfl
theorem FO{env:Env}:∀{names:List (Str×NameKind)}{x:Str},names.lookup x=some .free->(names.map (fT env)).lookup x=some .cell\/(names.map (fT env)).lookup x=some .free
 |[],_,h=>by cases h
 | (n,k)::r,x,h=>by
  have ih:=@FO env r x
  rw[map_cons,xT,FI]
  rw[xT]at h
  by_cases hx:(x==n)=true
  ·rw[if_pos hx]at h ⊢
   cases h
   rcases PN env n with e|e
   ·exact .inl (congrArg some e)
   ·exact .inr (congrArg some e)
  ·rw[if_neg hx]at h ⊢
   exact ih h
theorem FP{env:Env}:∀{names:List (Str×NameKind)}{x:Str},(∀y∈names,y.2≠.cell)->((names.map (fT env)).lookup x=some .cell\/(names.map (fT env)).lookup x=some .free)->(x,NameKind.free)∈names
 |[],_,_,h=>by rcases h with h|h <;> cases h
 | (n,k)::r,x,hn,h=>by
  have ih:=@FP env r x (λy hy=>hn y (mem_cons_of_mem _ hy))
  rw[map_cons,xT,FI]at h
  by_cases hx:(x==n)=true
  ·rw[if_pos hx]at h
   have ex:x=n:=by simpa using hx
   subst ex
   have e:=PP env (x,k) (hn _ mem_cons_self) (h.imp Option.some.inj Option.some.inj)
   have e':k=.free:=e
   subst e'
   exact mem_cons_self
  ·rw[if_neg hx]at h
   exact mem_cons_of_mem _ (ih h)
noncomputable def cI(X:Cx)(sc:Scope)(M:List Str)(C:Addr)(fp:List Addr)(s:Shared)(H:Hp):Cx:=
 { X with N:=M,s₀:=s,H₀:=H,env:=compEnvC sc (iD X.env sc.names []) C X.env,outer:=X.stack,stack:=X.stack,ex:=fp,fn:=λ_=>false,pn:=[],xe:=λ_ _=>False }
inductive FmOk (N:List Str) (sc:Scope):List Str->List (Option Nat)->Prop
 |nil:FmOk N sc [] []
 |own {x M fm}:FmOk N sc M fm->FmOk N sc (x::M) (none::fm)
 |free {x M fm} (j:Nat):N[j]? =some x->sc.names.lookup x=some .free->FmOk N sc M fm->FmOk N sc (x::M) (some j::fm)
noncomputable def eK(fm:List (Option Nat))(σ:St):St:=fm.map λo=>match o with|none=>none|some j=>(σ[j]?).join
theorem FmOk.len{N:List Str}{sc:Scope}:∀{M:List Str}{fm:List (Option Nat)},FmOk N sc M fm->fm.length=M.length
 |_,_,.nil=>rfl
 |_,_,.own h=>by simp[h.len]
 |_,_,.free _ _ _ h=>by simp[h.len]
theorem FmOk.get{N:List Str}{sc:Scope}{σ:St}:∀{M:List Str}{fm:List (Option Nat)}{i:Nat}{x:Str}{v:V},FmOk N sc M fm->M[i]? =some x->(eK fm σ)[i]? =some (some v)->∃(j:Nat),N[j]? =some x/\sc.names.lookup x=some .free/\σ[j]? =some (some v)
 |_,_,i,x,v,.nil,e,_=>by simp at e
 |_,_,0,x,v,.own h,e,q=>by simp[eK]at q
 | _,_,0,x,v,.free j a b h,e,q=>by
  simp at e
  subst e
  refine⟨j,a,b,?_⟩
  have q':(σ[j]?).join=some v:=by simpa[eK]using q
  cases hs:σ[j]? with
  |none=>rw[hs]at q';cases q'
  |some o=>
   rw[hs]at q'
   have:o=some v:=q'
   rw[this]
 |_,_,i+1,x,v,.own h,e,q=>h.get (i:=i) (by simpa using e) (by simpa[eK]using q)
 |_,_,i+1,x,v,.free j a b h,e,q=>h.get (i:=i) (by simpa using e) (by simpa[eK]using q)
section
variable{X:Cx}{pins:List (Addr×Obj)}{σ:St}{H:Hp}{s:Shared}{sc:Scope}{M:List Str}{C:Addr}{fp:List Addr}
theorem aaY(I:Inv X pins σ H s)(hf:∀b∈fp,gF X pins H b)(hl:∀b∈fp,b<s.heap.objs.size)(hC:s.heap.objs.size<=C)(fr:FrOk X.env sc.names)(hk:sc.kind=.function):(cI X sc M C fp s H).Ok where
 mod:=I.ok.mod
 kind:=hk
 glob:=I.ok.glob
 blt:=I.ok.blt
 above:=hC
 inj:=λx y c e1 e2=>I.ok.inj x y c (jD (λ_ _ z=>by cases z) x c e1) (jD (λ_ _ z=>by cases z) y c e2)
 has:=λx h=>by
  have hm:(x,NameKind.free)∈sc.names:=FP (env:=X.env) fr.nocell h
  exact AJ (.inr ⟨hm,I.ok.has x (fr.free hm)⟩)
 cab:=λx c h _=>by cases h
 hd:=I.ok.hd
 frames:=I.ok.frames
 stk:=.inl rfl
 exf:=λb hb=>⟨Nat.ne_of_lt (Nat.lt_of_lt_of_le (hl b hb) hC),λx c e=>(hf b hb).2.2.2.2.1 x c (jD (λ_ _ z=>by cases z) x c e)⟩
 bs:=I.bs
 bsz:=Nat.le_trans I.ok.bsz I.sz
 noex:=λb o e hb=>by
  rcases(hf b hb).2.2.2.1 with z|z
  ·exact I.ok.noex b o e z
  ·exact absurd (Nat.lt_of_lt_of_le (Heap.lt_size (I.ok.bs b o e).1) z) (Nat.lt_irrefl _)
 exfs:=λb hb hs=>by
  rcases mem_cons.mp (I.stkSub b hs) with e|e
  ·exact(hf b hb).2.1 e
  ·exact(hf b hb).2.2.1 e
 funs:=I.stack
 frf:=I.stkFree
theorem aaZ{h₁:Heap}{t:Nat}{pl:List (Addr×Obj)}{m:Str->Option Value}{fm:List (Option Nat)}(I:Inv X pins σ H s)(hf:∀b∈fp,gF X pins H b)(hl:∀b∈fp,b<s.heap.objs.size)(hC:s.heap.objs.size<=C)(fr:FrOk X.env sc.names)(hk:sc.kind=.function)
  (hfm:FmOk X.N sc M fm) (k:∀b o,s.heap.get? b=some o->h₁.get? b=some o) (hn:h₁.Ns C m)
  (hp:∀p∈pl,h₁.get? p.1=some p.2/\H p.1=none/\p.1≠C/\p.1∉bE X.stack/\∀v,p.2.data≠.cell v):Inv (cI X sc M C fp s H) pl (eK fm σ) H { s with heap:=h₁,toks:=t } where
 ok:=aaY I hf hl hC fr hk
 os:=rfl
 bare:=I.bare
 base:=Un.kept k
 loc:=⟨m,hn,λi x v e1 e2 e3=>by
  obtain⟨j,a,b,c⟩:=hfm.get e1 e2
  obtain⟨m',hn',hl'⟩:=I.loc
  have hm:=IP b
  have hk':=fr.free hm
  have vis:qU X.env.scope x:=by
   rcases hk' with z|z
   ·exact .inr (.inl z)
   ·exact .inr (.inr z)
  obtain⟨u,r,l⟩:=hl' j x v a c vis
  refine⟨u,r,.inr ⟨FO b,?_⟩⟩
  rcases l with⟨z,_⟩|⟨_,cc,hcc,hcell⟩
  ·rcases hk' with y|y <;> (rw[z]at y;cases y)
  ·obtain⟨c2,e2⟩:=AJ (env:=X.env) (ns:=sc.names) (cs:=[]) (x:=x) (.inr ⟨hm,cc,hcc⟩)
   have e3:=jD (λ_ _ z=>by cases z) x c2 e2
   rw[hcc]at e3
   cases e3
   refine⟨cc,e2,?_⟩
   obtain⟨o,ho,hd⟩:=hcell
   exact⟨o,k _ _ ho,hd⟩⟩
 cell:=λx c e=>by
  obtain⟨v,o,ho,hd⟩:=I.cell x c (jD (λ_ _ z=>by cases z) x c e)
  exact⟨v,o,k _ _ ho,hd⟩
 free:=I.hok.fresh hC
 freeC:=λx c e=>I.freeC x c (jD (λ_ _ z=>by cases z) x c e)
 pin:=λp hp'=>by
  have hp':p∈pl:=by simpa[cI]using hp'
  exact hp p hp'
 hok:=I.hok.kept k
 len:=by simp[eK,hfm.len,cI]
end
theorem ZU{prog:Program}{w:World}{A:Around}{R:Result->Shared->Prop}{s:Shared}{elt target iter:Expr}{ifs:List Expr}{scope:Scope}{pos:Pos}{it acc:Value}{env:Env}(I:Nat->Shared->Prop)
  (turn:∀n s,I n s->wpAny (model prog w) A (pyNext it) (λr s₁=>match r with
   |none=>R (.ok .next) s₁
   | some v=>wpAny (model prog w) A (letOwnedTupleGo target it v) (λ_ s₁'=>wpAny (model prog w) A (assign target env v) (λ_ s₂=>
     wpAny (model prog w) A (forIn ifs true λc r=>if r=true then do let ok <-isTrue c env (eval c env);pure (ForInStep.yield ok) else pure (ForInStep.yield r)) (λok s₃=>
      if ok=true then wpAny (model prog w) A (eval elt env) (λx s₄=>
       wpAny (model prog w) A (call (.builtin "list.append") [acc,x]) (λ_ s₅=>∃m,m<n/\I m s₅) (λ_ _=>False) s₄) (λ_ _=>False) s₃
      else ∃m,m<n/\I m s₃) (λ_ _=>False) s₂) (λ_ _=>False) s₁') (λ_ _=>False) s₁) (λ_ _=>False) s)
  (n:Nat) (h:I n s):
  codeAny (model prog w) A (.compLoop (.ListComp elt [⟨target,iter,ifs,0⟩] scope pos) 0 it acc env) R s:=by
 refine codeAny_loop rfl I (λn s hI=>?_) n h
 show wpAny _ A ((compTurn (.ListComp elt [⟨target,iter,ifs,0⟩] scope pos) 0 it acc env).onRaise (λx=>do noteFrame x env;theTreesLotGoes x)) _ _ s
 refine wpAny_noted ?_
 rw[compTurn_list]
 refine wpAny_bind (wpAny_standAt (wpAny_bind (wpAny_mono (turn n s hI) (λr s₁ h₁=>?_) λ_ _ h'=>h'.elim)))
 cases r with
 |none=>exact wpAny_pure h₁
 | some v=>
  refine wpAny_bind (wpAny_mono h₁ (λ_ s₁' h₁'=>?_) λ_ _ h'=>h'.elim)
  refine wpAny_bind (wpAny_mono h₁' (λ_ s₂ h₂=>wpAny_bind (wpAny_mono h₂ (λok s₃ h₃=>?_) λ_ _ h'=>h'.elim)) λ_ _ h'=>h'.elim)
  cases ok with
  |false=>exact wpAny_pure ⟨rfl,h₃⟩
  |true=>
   exact wpAny_bind (wpAny_bind (wpAny_mono h₃ (λx s₄ h₄=>wpAny_bind (wpAny_mono h₄ (λ_ s₅ h₅=>wpAny_pure (wpAny_pure ⟨rfl,h₅⟩)) λ_ _ h'=>h'.elim)) λ_ _ h'=>h'.elim))
noncomputable def nO(X:Cx)(ifs:List Expr)(t:TT):Prop:=
 ∀(pins:List (Addr×Obj))(s:Shared)(σ:St)(H:Hp)(Q:Bool->Hp->Prop),Inv X pins σ H s->t σ H Q->
  wpAny (model X.prog X.w) X.A (forIn ifs true λc r=>if r=true then do let ok <-isTrue c X.env (eval c X.env);pure (ForInStep.yield ok) else pure (ForInStep.yield r)) (TP X pins σ Q) X.xe s
noncomputable def CZ:TT:=λ_ H Q=>Q true H
theorem kX{X:Cx}:nO X [] CZ:=λpins s σ H Q I h=>wpAny_tests_nil ⟨H,I,h⟩
theorem mE{X:Cx}{c:Expr}{t:TT}(h:PT X c t):nO X [c] t:=λpins s σ H Q I hw=>wpAny_tests_one (h pins s σ H Q I hw)
noncomputable def GK(fm:List (Option Nat))(g:TG):Prop:=∀(x:V)(σ:St)(H:Hp)(Q:St->Hp->Prop),g x σ H Q->g x σ H λσ' H'=>Q σ' H'/\∀(i j:Nat),fm[i]? =some (some j)->σ'[i]? =σ[i]?
noncomputable def rB(fm:List (Option Nat))(g:fP):Prop:=∀(xs:List V)(σ:St)(H:Hp)(Q:St->Hp->Prop),g xs σ H Q->g xs σ H λσ' H'=>Q σ' H'/\∀(i j:Nat),fm[i]? =some (some j)->σ'[i]? =σ[i]?
theorem iA{fm:List (Option Nat)}{i:Nat}(h:fm[i]? =some none):GK fm (kF i):=λx σ H Q q=>⟨q,λi' j e=>by
 by_cases hi:i=i'
 ·subst hi;rw[h]at e;cases e
 ·exact List.getElem?_set_ne hi⟩
theorem YT{fm:List (Option Nat)}:rB fm yQ:=λxs σ H Q⟨e,q⟩=>⟨e,q,λ_ _ _=>rfl⟩
theorem JH{fm:List (Option Nat)}{i:Nat}{u:fP}(h:fm[i]? =some none)(h2:rB fm u):rB fm (yR (kF i) u):=λxs σ H Q⟨v,r,e,q⟩=>⟨v,r,e,by
 have q2:=h2 r (σ.set i (some v)) H Q q
 have mono:∀(σ0 σ1:St),σ1=σ0.set i (some v)->(u r σ1 H λσ' H'=>Q σ' H'/\∀(i j:Nat),fm[i]? =some (some j)->σ'[i]? =σ1[i]?)=(u r σ1 H λσ' H'=>Q σ' H'/\∀(i j:Nat),fm[i]? =some (some j)->σ'[i]? =σ0[i]?):=λσ0 σ1 e1=>by
  subst e1
  congr 1
  funext σ' H'
  apply propext
  constructor
  ·rintro⟨a,b⟩
   refine⟨a,λi' j e=>(b i' j e).trans ?_⟩
   by_cases hi:i=i'
   ·subst hi;rw[h]at e;cases e
   ·exact List.getElem?_set_ne hi
  ·rintro⟨a,b⟩
   refine⟨a,λi' j e=>(b i' j e).trans ?_⟩
   by_cases hi:i=i'
   ·subst hi;rw[h]at e;cases e
   ·exact(List.getElem?_set_ne hi).symm
 show u r (σ.set i (some v)) H _
 rw[<-mono σ _ rfl]
 exact q2⟩
theorem YU{K:PySem.W.Frag}{fm:List (Option Nat)}{n:Nat}{t:fP}(h:rB fm t):GK fm (qC K n t):=λx σ H Q⟨a,xs,e,q,l,r⟩=>⟨a,xs,e,q,l,h xs σ H Q r⟩
theorem ZA{fm:List (Option Nat)}{σ:St}{i:Nat}{v:V}(e:(eK fm σ)[i]? =some (some v)):∃j,fm[i]? =some (some j):=by
 unfold eK at e
 rw[List.getElem?_map]at e
 cases h:fm[i]? with
 |none=>rw[h]at e;cases e
 |some o=>
  cases o with
  |none=>rw[h]at e;cases e
  |some j=>exact⟨j,rfl⟩
noncomputable def sB(wi:TI)(fm:List (Option Nat))(g:TG)(tt:TT)(te:TE):TE:=λσ H Q=>wi σ H λJ H1=>∃W:Nat->Nat->List V->Hp->Prop,(∃m,W 0 m [] H1)/\∀i m ys H,W i m ys H->
 (J.stop i H/\∀p,H p=none->Q (.ref p) (upd H p (.lst ys)))\/
 (J.go i H/\ys.length<sizeLine/\∃N:List V->Hp->Prop,(∀ys' H',N ys' H'->∃m',m'<m/\W (i+1) m' ys' H')/\
  ∀x H',J.yld i H x H'->g x (eK fm σ) H' λσ2 H2=>tt σ2 H2 λok H3=>if ok=true then te σ2 H3 λv H4=>N (ys++[v]) H4 else N ys H3)
section
variable{X:Cx}{pins:List (Addr×Obj)}{σ:St}{sc:Scope}{M:List Str}{fm:List (Option Nat)}{tg iter elt:Expr}{ifs:List Expr}{pos:Pos}{g:TG}{tt:TT}{te:TE}
theorem KD{it:Addr}{fp:List Addr}{tn:Nat->Heap->Prop}{J:It}{H2:Hp}{s2:Shared}{E:Value->Shared->Prop}{RR:Value->Addr->Result->Shared->Prop}{Q:VK}(hc:X.calm=true)
  (I2:Inv X pins σ H2 s2) (T:lJ X.prog X.w X.K tg J fp it tn) (st:tn 0 s2.heap) (hf:∀b∈fp,gF X pins H2 b) (fr:FrOk X.env sc.names) (hk:sc.kind=.function) (hfm:FmOk X.N sc M fm) (hgk:GK fm g)
  (hB:∀C fp s H,PG (cI X sc M C fp s H) tg g/\nO (cI X sc M C fp s H) ifs tt/\PE (cI X sc M C fp s H) elt te)
  (W:Nat->Nat->List V->Hp->Prop) (hw:∃m,W 0 m [] H2)
  (turn:∀i m ys H,W i m ys H->(J.stop i H/\∀p,H p=none->Q (.ref p) (upd H p (.lst ys)))\/
   (J.go i H/\ys.length<sizeLine/\∃N:List V->Hp->Prop,(∀ys' H',N ys' H'->∃m',m'<m/\W (i+1) m' ys' H')/\
    ∀x H',J.yld i H x H'->g x (eK fm σ) H' λσ2 H2=>tt σ2 H2 λok H3=>if ok=true then te σ2 H3 λv H4=>N (ys++[v]) H4 else N ys H3))
  (hRR:∀D C H' m s',s'.heap.Ns C m->Inv X pins σ H' s'->gF X pins H' C->Q (.ref D) H'->RR (.ref D) C (.ok .next) s'):
  wpAny (model X.prog X.w) X.A (newList []) (λacc s₃=>wpAny (model X.prog X.w) X.A (newFunctionEnv sc X.env.globals (iD X.env sc.names []) [] X.env.qual none .none (some X.env)) (λcenv s₄=>
   codeAny (model X.prog X.w) X.A (.compStart (.ListComp elt [⟨tg,iter,ifs,0⟩] sc pos) 0 (.ref it) acc { cenv with scope:=relabel sc X.env }) (RR acc cenv.locals) s₄) E s₃) E s2:=by
 have hl:∀b∈fp,b<s2.heap.objs.size:=λb hb=>by
  obtain⟨o,e,_⟩:=T.obj _ _ st b hb
  exact Heap.lt_size e
 refine wpAny_newObj_type (wpAny_newFunctionEnv fr.nocell (by intro y hy;simp at hy) (λh₁ hns₁ hsb₁=>?_) hk)
 dsimp only at hns₁ hsb₁ ⊢
 generalize hH2:s2.heap.push { cls:=.type "list",dict:=none,data:=.seq ([]:List Value).toArray }=G2 at hns₁ hsb₁ ⊢
 have hC:G2.objs.size=s2.heap.objs.size+1:=by rw[<-hH2,Heap.size_push]
 have hCle:s2.heap.objs.size<=G2.objs.size:=by rw[hC];exact Nat.le_succ _
 have hDC:s2.heap.objs.size≠G2.objs.size:=by rw[hC];exact Nat.ne_of_lt (Nat.lt_succ_self _)
 have below:∀b,b<s2.heap.objs.size->b≠G2.objs.size:=λb hb=>Nat.ne_of_lt (Nat.lt_of_lt_of_le hb hCle)
 have old:∀b o,s2.heap.get? b=some o->h₁.get? b=some o:=λb o e=>hsb₁.extBut b o (below b (Heap.lt_size e)) (Heap.get?_push_of_some _ (hH2▸Heap.get?_push_of_some _ e))
 have hacc:h₁.PlainList s2.heap.objs.size #[]:=⟨_,hsb₁.extBut _ _ hDC (Heap.get?_push_of_some _ (hH2▸Heap.get?_push_size _ rfl))⟩
 have hst₁:tn 0 h₁:=T.keep _ _ _ st λb _ o e=>old b o e
 obtain⟨B1,B2,B3⟩:=hB G2.objs.size fp s2 H2
 have hDfs:s2.heap.objs.size∉bE X.stack:=λhb=>by
  rcases mem_cons.mp (I2.stkSub _ hb) with e|e
  ·exact absurd I2.lt (by rw[<-e];exact Nat.lt_irrefl _)
  ·exact I2.nofs (Nat.le_refl _) e
 have hDf:s2.heap.objs.size∉fp:=λhb=>Nat.lt_irrefl _ (hl _ hb)
 have fpB:∀{pl:List (Addr×Obj)}{H':Hp},(∀b∈fp,H' b=none)->(∀p∈pl,p.1∉fp)->∀b∈fp,gF (cI X sc M G2.objs.size fp s2 H2) pl H' b:=λ{pl H'}hn hp b hb=>by
  refine⟨hn b hb,below b (hl b hb),λz=>?_,.inl hb,λx c e=>(hf b hb).2.2.2.2.1 x c (jD (λ_ _ z=>by cases z) x c e),λp hp' z=>?_⟩
  ·rcases mem_cons.mp (I2.stkSub b z) with e|e
   ·exact(hf b hb).2.1 e
   ·exact(hf b hb).2.2.1 e
  ·have hp'':p∈pl:=by simpa[cI]using hp'
   exact hp p hp'' (z▸hb)
 have loop:∀s₃:Shared,s₃={ s2 with heap:=h₁,toks:=s2.toks+([]:List (Str×Value)).length }->
   codeAny (model X.prog X.w) X.A (.compLoop (.ListComp elt [⟨tg,iter,ifs,0⟩] sc pos) 0 (.ref it) (.ref s2.heap.objs.size) (compEnvC sc (iD X.env sc.names []) G2.objs.size X.env)) (RR (.ref s2.heap.objs.size) G2.objs.size) s₃:=by
  rintro s₃ rfl
  obtain⟨m0,w0⟩:=hw
  refine ZU (λn s'=>∃(i:Nat)(ys:List V)(its:List Value)(k:Nat)(H':Hp),Inv (cI X sc M G2.objs.size fp s2 H2) [(s2.heap.objs.size,{ cls:=.type "list",data:=.seq its.toArray k })] (eK fm σ) H' s'/\Vals ys its/\ys.length<=sizeLine/\
   tn i s'.heap/\(∀b∈fp,H' b=none)/\W i n ys H') ?_ m0 ?_
  ·rintro n s' ⟨i,ys,its,k,H',I',rv,hz,st',fn',w'⟩
   have np:∀p∈[((s2.heap.objs.size,{ cls:=.type "list",data:=.seq its.toArray k }):Addr×Obj)],p.1∉fp:=λp hp=>by
    rcases mem_singleton.mp hp with rfl
    exact hDf
   rcases turn i n ys H' w' with⟨stop,qn⟩|⟨go,hz',N,hN,step⟩
   ·refine aH (T.done (cI X sc M G2.objs.size fp s2 H2) rfl rfl rfl hc i _ s' _ H' _ I' (fpB fn' np) st' stop) λr s4⟨hr,I4⟩=>?_
    subst hr
    obtain⟨eD,nD,_,_,_⟩:=I4.pin _ (mem_append_right _ mem_cons_self)
    obtain⟨m4,hn4,_⟩:=I4.loc
    have u4:Un (bE X.stack) fp H2 H' s2.heap s4.heap:=I4.base
    have eD':s4.heap.get? s2.heap.objs.size=some { cls:=.type "list",data:=.seq its.toArray k }:=eD
    have nD':H' s2.heap.objs.size=none:=nD
    have ne:∀b,b<s2.heap.objs.size->b≠s2.heap.objs.size:=λb hb=>Nat.ne_of_lt hb
    have hok:HOk X.prog X.w (upd H' s2.heap.objs.size (.lst ys)) s4.heap:=λb ob e=>by
     by_cases hb:b=s2.heap.objs.size
     ·subst hb
      rw[aB]at e
      cases e
      exact⟨hz,its,k,rv,eD'⟩
     ·rw[aE hb]at e
      exact(I4.hok b ob e).stay (λ_ _ _ q=>q) (λc q=>by rw[aE (aI q nD')];exact q) λc xs q=>by rw[aE (aI q nD')];exact q
    have u5:Un (bE X.stack) fp H2 (upd H' s2.heap.objs.size (.lst ys)) s2.heap s4.heap:=
     ⟨u4.keep,u4.slot,λb o e n hx=>by rw[aE (ne b (Heap.lt_size e))];exact u4.free b o e n hx,u4.there,
      λb xs e=>by have:=u4.tups b xs e;rw[aE (aI this nD')];exact this,
      λb o u e=>by have:=u4.frzs b o u e;rw[aE (aI this nD')];exact this,
      λb ps e=>by obtain⟨mo,this⟩:=u4.tbls b ps e;exact⟨mo,by rw[aE (aI this nD')];exact this⟩⟩
    have I5:Inv X pins σ (upd H' s2.heap.objs.size (.lst ys)) s4:=
     I2.call' I4.os u5 hok I4.bare λb hb=>⟨(hf b hb).2.2.2.1,(hf b hb).2.1,(hf b hb).2.2.2.2.1,(hf b hb).2.2.2.2.2⟩
    refine hRR _ _ _ m4 s4 hn4 I5 (I2.fpOk hCle ?_) (qn _ nD')
    rw[aE (Ne.symm hDC)]
    exact I4.free
   ·refine aH (T.item (cI X sc M G2.objs.size fp s2 H2) rfl rfl rfl hc i _ s' _ H' _ I' (fpB fn' np) st' go) λr s4⟨u,hr,h4⟩=>?_
    subst hr
    refine aH h4 λ_ s5⟨x,H5,I5,r5,y5,st5,fr5⟩=>?_
    have I5':=I5.pinned (fpB fr5 np) (T.obj _ _ st5)
    refine aH (B1 _ s5 _ H5 x u _ I5' r5 (hgk _ _ _ _ (step x H5 y5))) λ_ s6⟨σ6,H6,I6,q6,k6⟩=>?_
    refine aH (B2 _ s6 σ6 H6 _ I6 q6) λok s7⟨H7,I7,q7⟩=>?_
    have len6:(eK fm σ).length=σ6.length:=I'.len.trans I6.len.symm
    have wk:∀(j:Nat)(v:V),(eK fm σ)[j]? =some (some v)->σ6[j]? =some (some v):=λj v e=>by
     obtain⟨j',e'⟩:=ZA e
     rw[k6 j j' e']
     exact e
    have back:∀{σ8:St}{H8:Hp}{s8:Shared},Inv (cI X sc M G2.objs.size fp s2 H2) ([(s2.heap.objs.size,{ cls:=.type "list",data:=.seq its.toArray k })]++jO fp s5.heap) σ8 H8 s8->tn (i+1) s8.heap/\∀b∈fp,H8 b=none:=λ{σ8 H8 s8}I8=>by
     refine⟨T.keep _ _ _ st5 λb hb o e=>(I8.pin (b,o) (mem_append_right _ (mem_append_right _ (pI hb e)))).1,λb hb=>?_⟩
     obtain⟨o,e,d⟩:=T.obj _ _ st5 b hb
     exact(I8.pin (b,o) (mem_append_right _ (mem_append_right _ (pI hb e)))).2.1
    cases ok with
    |false=>
     rw[if_neg Bool.false_ne_true]at q7
     rw[if_neg Bool.false_ne_true]
     obtain⟨m',hm,w7⟩:=hN ys H7 q7
     exact⟨m',hm,i+1,ys,its,k,H7,(I7.weak len6 wk).unpinned,rv,hz,(back I7).1,(back I7).2,w7⟩
    | true=>
     rw[if_pos rfl]at q7
     rw[if_pos rfl]
     refine aH (B3 _ s7 σ6 H7 _ I7 q7) λy s8⟨v,H8,I8,r8,q8⟩=>?_
     obtain⟨st8,fr8⟩:=back I8
     obtain⟨m',hm,w8⟩:=hN _ H8 q8
     obtain⟨eD,nD,_,_,_⟩:=I8.pin _ (mem_append_right _ (mem_append_left _ mem_cons_self))
     have hits:its.toArray.size=ys.length:=by simp[rv.length]
     refine wpAny_list_append_plain (items:=its.toArray) ⟨k,eD⟩ (λh' hpl hsb=>?_) (by rw[hits];exact hz)
     obtain⟨k',ek⟩:=hpl
     have ek':h'.get? s2.heap.objs.size=some { cls:=.type "list",data:=.seq (its++[y]).toArray k' }:=by simpa using ek
     have np8:∀p∈jO fp s5.heap,p.1≠s2.heap.objs.size:=λp hp z=>hDf (z▸(HQ hp).1)
     have I9:Inv (cI X sc M G2.objs.size fp s2 H2) (jO fp s5.heap) σ6 H8 s8:=I8.pins_of λp hp=>I8.pin p (mem_append_right _ (mem_append_right _ hp))
     have I10:Inv (cI X sc M G2.objs.size fp s2 H2) (jO fp s5.heap) σ6 H8 { s8 with heap:=h',toks:=s8.toks }:=
      I9.turned (it:=s2.heap.objs.size) (λb o hb e=>hsb.extBut b o hb e) nD hDC (.inr (Nat.le_refl _)) (λx c e z=>by
       obtain⟨v',q⟩:=I2.cell x c (jD (λ_ _ z=>by cases z) x c e)
       exact absurd (show c<s2.heap.objs.size from q.lt) (by rw[z];exact Nat.lt_irrefl _)) λp hp=>np8 p (by simpa[cI]using hp)
     have I11:Inv (cI X sc M G2.objs.size fp s2 H2) [(s2.heap.objs.size,{ cls:=.type "list",data:=.seq (its++[y]).toArray k' })] (eK fm σ) H8 { s8 with heap:=h',toks:=s8.toks }:=
      (I10.weak len6 wk).pins_of λp hp=>by
       rcases mem_singleton.mp hp with rfl
       exact⟨ek',nD,hDC,hDfs,λ_ z=>nomatch z⟩
     refine⟨m',hm,i+1,ys++[v],its++[y],k',H8,I11,rv.append (.cons r8 .nil),?_,?_,fr8,w8⟩
     ·rw[length_append];exact hz'
     ·exact T.keep _ _ _ st8 λb hb o e=>hsb.extBut b o (λz=>hDf (z▸hb)) e
  ·obtain⟨k0,e0⟩:=hacc
   refine⟨0,[],[],k0,H2,aaZ I2 hf hl hCle fr hk hfm old hns₁ λp hp=>?_,.nil,Nat.zero_le _,hst₁,λb hb=>(hf b hb).1,w0⟩
   rcases mem_singleton.mp hp with rfl
   exact⟨e0,I2.hok.fresh (Nat.le_refl _),hDC,hDfs,λ_ z=>nomatch z⟩
 exact codeAny_compStart_list (loop _ rfl) (T.self _ 0 _ _ _ hst₁ (loop _ rfl))
end
section
variable{X:Cx}{sc:Scope}{M:List Str}{fm:List (Option Nat)}{tg iter elt:Expr}{ifs:List Expr}{pos:Pos}{g:TG}{tt:TT}{te:TE}{wi:TI}
theorem Inv.letGo{pins:List (Addr×Obj)}{σ:St}{H:Hp}{s:Shared}{C:Addr}{h':Heap}(I:Inv X pins σ H s)(f:gF X pins H C)(hs:Heap.SameBut C s.heap h'):Inv X pins σ H { s with heap:=h' }:=
 I.turned (t':=s.toks) (it:=C) (λb o hb e=>hs.extBut b o hb e) f.1 f.2.1 f.2.2.2.1 f.2.2.2.2.1 f.2.2.2.2.2
theorem j4(hc:X.calm=true)(fr:FrOk X.env sc.names)(hfm:FmOk X.N sc M fm)(hgk:GK fm g)(hk:sc.kind=.function)(hnm:∀y∈sc.names,y.2=.local->sc.names.lookup y.1=some .local)(hi:PI X tg iter wi)
  (hB:∀C fp s H,PG (cI X sc M C fp s H) tg g/\nO (cI X sc M C fp s H) ifs tt/\PE (cI X sc M C fp s H) elt te) (hs:∀x,foldedSetIterable iter X.env x=pure x:=by intro _;rfl):
  PE X (.ListComp elt [⟨tg,iter,ifs,0⟩] sc pos) (sB wi fm g tt te):=by
 intro pins s σ H Q I h
 rw[eval_ListComp]
 have hclos:=KH (env:=X.env) (sc:=sc) λn hn=>I.ok.has n (fr.free hn)
 refine wpAny_comprehension_free (use:=none) rfl hs hclos hk hnm (aH (hi pins s σ H _ I h) λv s1 h1=>aH h1 λitv s2 h2=>?_)
 obtain⟨it,fp,tn,J,H2,e,I2,T,st2,f2,W,w0,turn⟩:=h2
 subst e
 refine KD (Q:=Q) (RR:=λacc C=>compPost (model X.prog X.w) X.A X.xe none (EP X pins σ Q) acc C) hc I2 T st2 f2 fr hk hfm hgk hB W w0 turn ?_
 intro D C H' m s' hn I' f' q
 exact⟨m,hn,λh' hs'=>⟨.ref D,H',I'.letGo f' hs',rfl,q⟩⟩
theorem oS{i:Nat}{x:Str}{px pst:Pos}(hN:X.N.Nodup)(hix:X.N[i]? =some x)(hx:X.env.kindOf x=some .local)(hsw:swapsWith (.ListComp elt [⟨tg,iter,ifs,0⟩] sc pos) (some (.Name x px)) pst.line X.env=pure true)
  (hc:X.calm=true) (fr:FrOk X.env sc.names) (hfm:FmOk X.N sc M fm) (hgk:GK fm g) (hk:sc.kind=.function) (hnm:∀y∈sc.names,y.2=.local->sc.names.lookup y.1=some .local) (hi:PI X tg iter wi)
  (hB:∀C fp s H,PG (cI X sc M C fp s H) tg g/\nO (cI X sc M C fp s H) ifs tt/\PE (cI X sc M C fp s H) elt te) (hs:∀x,foldedSetIterable iter X.env x=pure x:=by intro _;rfl):
  PS X (.Assign [.Name x px] (.ListComp elt [⟨tg,iter,ifs,0⟩] sc pos) pst) (oA (sB wi fm g tt te) (kF i)):=by
 intro pins s σ H D I h
 rw[exec_Assign_Name_used _ _ _ _ hsw]
 refine wpAny_bind (wpAny_standAt (wpAny_bind ?_))
 show wpAny _ _ (do let _ <-comprehension (.ListComp elt [⟨tg,iter,ifs,0⟩] sc pos) sc X.env _ (newList []) false (eval iter X.env) (some (assign (.Name x px) X.env))) _ _ s
 have hclos:=KH (env:=X.env) (sc:=sc) λn hn=>I.ok.has n (fr.free hn)
 refine wpAny_bind (wpAny_mono (wpAny_comprehension_free (use:=some (assign (.Name x px) X.env)) (Q:=λ_ s'=>SP X pins D .next s') rfl hs hclos hk hnm (aH (hi pins s σ H _ I h) λv s1 h1=>aH h1 λitv s2 h2=>?_))
  (λ_ s' hq=>wpAny_pure (wpAny_pure hq)) λ_ _ e=>e)
 obtain⟨it,fp,tn,J,H2,e,I2,T,st2,f2,W,w0,turn⟩:=h2
 subst e
 refine KD (Q:=λv H'=>kF i v σ H' D.nx) (RR:=λacc C=>compPost (model X.prog X.w) X.A X.xe (some (assign (.Name x px) X.env)) (λ_ s'=>SP X pins D .next s') acc C) hc I2 T st2 f2 fr hk hfm hgk hB W w0 turn ?_
 intro Da C H' m s' hn I' f' q
 show wpAny _ _ (assign (.Name x px) X.env (.ref Da)) _ _ s'
 refine wpAny_assign_Name (DS (v:=.ref Da) I' hN hix (.inl hx) rfl (λs2 I2' hs2=>?_) (.inr hx))
 obtain⟨a,hsb,ha⟩:=hs2
 have hCa:C≠a:=by
  rcases ha with rfl|ha
  ·exact f'.2.1
  ·exact(f'.2.2.2.2.1 x a ha).symm
 exact⟨m,hn.sameBut hsb hCa,λh' hs'=>⟨_,H',I2'.letGo f' hs',q⟩⟩
end
mutual
inductive Is (H:Hp):V->PyData->Prop
 |non:Is H .non .none
 |bl (b:Bool):Is H (.bl b) (.bool b)
 |int (i:Int):Is H (.int i) (.int i)
 |str (x:Str):Is H (.str x) (.str x)
 |tup {a:Addr} {xs:List V} {ds:List PyData}:H a=some (.tup xs)->IsAll H xs ds->Is H (.ref a) (.tuple ds)
 |lst {a:Addr} {xs:List V} {ds:List PyData}:Rd H a (.lst xs)->IsAll H xs ds->Is H (.ref a) (.list ds)
inductive IsAll (H:Hp):List V->List PyData->Prop
 |nil:IsAll H [] []
 |cons {v:V} {d:PyData} {vs:List V} {ds:List PyData}:Is H v d->IsAll H vs ds->IsAll H (v::vs) (d::ds)
end
theorem IsAll.length{H:Hp}:∀{vs:List V}{ds:List PyData},IsAll H vs ds->vs.length=ds.length
 |_,_,.nil=>rfl
 |_,_,.cons _ t=>by simp[t.length]
theorem IsAll.get{H:Hp}:∀{vs:List V}{ds:List PyData}{i:Nat}{d:PyData},IsAll H vs ds->ds[i]? =some d->∃v,vs[i]? =some v/\Is H v d
 |_,_,_,_,.nil,e=>by simp at e
 |_,_,0,_,.cons h t,e=>by simp at e;subst e;exact⟨_,rfl,h⟩
 |_,_,i+1,d,.cons h t,e=>by
  obtain⟨v,a,b⟩:=t.get (i:=i) (d:=d) (by simpa using e)
  exact⟨v,by simpa using a,b⟩
theorem IsAll.get'{H:Hp}:∀{vs:List V}{ds:List PyData}{i:Nat}{v:V},IsAll H vs ds->vs[i]? =some v->∃d,ds[i]? =some d/\Is H v d
 |_,_,_,_,.nil,e=>by simp at e
 |_,_,0,_,.cons h t,e=>by simp at e;subst e;exact⟨_,rfl,h⟩
 |_,_,i+1,d,.cons h t,e=>by
  obtain⟨v,a,b⟩:=t.get' (i:=i) (v:=d) (by simpa using e)
  exact⟨v,by simpa using a,b⟩
theorem IsAll.append{H:Hp}:∀{vs:List V}{ds:List PyData}{us:List V}{es:List PyData},IsAll H vs ds->IsAll H us es->IsAll H (vs++us) (ds++es)
 |_,_,_,_,.nil,s=>s
 |_,_,_,_,.cons h t,s=>.cons h (t.append s)
theorem IsAll.snoc{H:Hp}{vs:List V}{ds:List PyData}{v:V}{d:PyData}(h:IsAll H vs ds)(q:Is H v d):IsAll H (vs++[v]) (ds++[d]):=h.append (.cons q .nil)
theorem IsAll.take{H:Hp}:∀{vs:List V}{ds:List PyData}(n:Nat),IsAll H vs ds->IsAll H (vs.take n) (ds.take n)
 |_,_,0,_=>.nil
 |_,_,_+1,.nil=>.nil
 |_,_,n+1,.cons h t=>.cons h (t.take n)
theorem IsAll.drop{H:Hp}:∀{vs:List V}{ds:List PyData}(n:Nat),IsAll H vs ds->IsAll H (vs.drop n) (ds.drop n)
 |_,_,0,h=>h
 |_,_,_+1,.nil=>.nil
 |_,_,n+1,.cons h t=>t.drop n
theorem IsAll.ints{H:Hp}:∀ns:List Int,IsAll H (ns.map V.int) (ns.map PyData.int)
 |[]=>.nil
 |n::ns=>.cons (.int n) (IsAll.ints ns)
theorem IsAll.of_ints{H:Hp}:∀{vs:List V}{ns:List Int},IsAll H vs (ns.map PyData.int)->vs=ns.map V.int
 |_,[],h=>by cases h;rfl
 |_,n::ns,h=>by
  rw[map_cons]at h
  cases h with
  |cons h1 t=>
  cases h1
  rw[map_cons,t.of_ints]
mutual
theorem Is.mono{H H':Hp}(ht:∀a xs,H a=some (.tup xs)->H' a=some (.tup xs))(hl:∀a xs,Rd H a (.lst xs)->Rd H' a (.lst xs)):∀{v:V}{d:PyData},Is H v d->Is H' v d
 |_,_,.non=>.non
 |_,_,.bl b=>.bl b
 |_,_,.int i=>.int i
 |_,_,.str x=>.str x
 |_,_,.tup e h=>.tup (ht _ _ e) (IsAll.mono ht hl h)
 |_,_,.lst e h=>.lst (hl _ _ e) (IsAll.mono ht hl h)
theorem IsAll.mono{H H':Hp}(ht:∀a xs,H a=some (.tup xs)->H' a=some (.tup xs))(hl:∀a xs,Rd H a (.lst xs)->Rd H' a (.lst xs)):∀{vs:List V}{ds:List PyData},IsAll H vs ds->IsAll H' vs ds
 |_,_,.nil=>.nil
 |_,_,.cons h t=>.cons (Is.mono ht hl h) (IsAll.mono ht hl t)
end
mutual
noncomputable def cC:PyData->Bool
 | .none| .bool _| .int _| .str _=>true
 | .tuple xs=>bT xs
 | .list _| .dict _=>false
noncomputable def bT:List PyData->Bool
 |[]=>true
 |x::xs=>cC x&&bT xs
end
mutual
theorem Is.tmono{H H':Hp}(ht:∀a xs,H a=some (.tup xs)->H' a=some (.tup xs)):∀{v:V}{d:PyData},cC d=true->Is H v d->Is H' v d
 |_,_,_,.non=>.non
 |_,_,_,.bl b=>.bl b
 |_,_,_,.int i=>.int i
 |_,_,_,.str x=>.str x
 |_,_,n,.tup e h=>.tup (ht _ _ e) (IsAll.tmono ht (by simpa[cC]using n) h)
 |_,_,n,.lst e h=>by simp[cC]at n
theorem IsAll.tmono{H H':Hp}(ht:∀a xs,H a=some (.tup xs)->H' a=some (.tup xs)):∀{vs:List V}{ds:List PyData},bT ds=true->IsAll H vs ds->IsAll H' vs ds
 |_,_,_,.nil=>.nil
 |_,_,n,.cons h t=>by
  rw[bT,Bool.and_eq_true]at n
  exact .cons (Is.tmono ht n.1 h) (IsAll.tmono ht n.2 t)
end
theorem Same.rd{H H':Hp}(e:Same H H'){a:Addr}{u:HO}(h:Rd H a u):Rd H' a u:=by
 rcases h with h|⟨o,h⟩
 ·exact .inl (e _ _ h)
 ·exact .inr ⟨o,e _ _ h⟩
theorem Is.same{H H':Hp}(e:Same H H'){v:V}{d:PyData}(h:Is H v d):Is H' v d:=h.mono (λ_ _ q=>e _ _ q) λ_ _ q=>e.rd q
theorem IsAll.same{H H':Hp}(e:Same H H'){v:List V}{d:List PyData}(h:IsAll H v d):IsAll H' v d:=h.mono (λ_ _ q=>e _ _ q) λ_ _ q=>e.rd q
section
variable{X:Cx}{pins:List (Addr×Obj)}{σ:St}{H:Hp}{s:Shared}
mutual
theorem Is.reads(I:Inv X pins σ H s):∀{v:V}{d:PyData}{u:Value},Is H v d->RelV v u->∃as,Reads s.heap u d as
 |_,_,_,.non,r=>by cases(show _=Value.none from r);exact⟨_,.none⟩
 |_,_,_,.bl b,r=>by cases(show _=Value.bool b from r);exact⟨_,.bool b⟩
 |_,_,_,.int i,r=>by obtain⟨t,rfl⟩:=r;exact⟨_,.int i t⟩
 |_,_,_,.str x,r=>by obtain⟨t,rfl⟩:=r;exact⟨_,.str x t⟩
 |_,_,_,.tup (a:=a) e h,r=>by
  cases(show _=Value.ref a from r)
  obtain⟨its,rv,⟨o,h1,h2,n,h3⟩,_⟩:=I.tuple (SqT.of e)
  obtain⟨as,ra⟩:=IsAll.reads I h rv
  exact⟨_,.tuple h1 h2 h3 (by simpa using ra)⟩
 |_,_,_,.lst (a:=a) e h,r=>by
  cases(show _=Value.ref a from r)
  obtain⟨its,rv,⟨o,n,h1,h2,_,h3⟩,_⟩:=I.list (.inl e)
  obtain⟨as,ra⟩:=IsAll.reads I h rv
  exact⟨_,.list h1 h2 h3 (by simpa using ra)⟩
theorem IsAll.reads(I:Inv X pins σ H s):∀{vs:List V}{ds:List PyData}{us:List Value},IsAll H vs ds->Vals vs us->∃as,ReadsAll s.heap us ds as
 |_,_,_,.nil,.nil=>⟨_,.nil⟩
 |_,_,_,.cons h t,.cons r q=>by
  obtain⟨as,ra⟩:=Is.reads I h r
  obtain⟨bs,rb⟩:=IsAll.reads I t q
  exact⟨_,.cons ra rb⟩
end
end
noncomputable def bY(d:PyData):Prop:=d.canLay0=true/\d.depth<=40
noncomputable def pC(ds:List PyData):Prop:=PyData.canLayAll0 ds=true/\PyData.depthAll ds<=40
section
variable{X:Cx}
noncomputable def jN(neg:Bool):R2:=λx y H Q=>∃d e,Is H x d/\Is H y e/\bY d/\bY e/\Q (.bl (if neg then !PyData.eqv d e else PyData.eqv d e)) H
theorem cM(hu:X.A.units+64<cLine):OpR X (compareOp .Eq) (jN false):=by
 intro pins s σ H x y v u Q I rx ry h
 obtain⟨d,e,hx,hy,od,oe,q⟩:=h
 obtain⟨as,ra⟩:=hx.reads I rx
 obtain⟨bs,rb⟩:=hy.reads I ry
 exact SeqAt.compareEq_reads ra rb od.1 oe.1 (by have:=od.2;lia) ⟨.bl _,H,I,rfl,q⟩
theorem gZ(hu:X.A.units+64<cLine):OpR X (compareOp .NotEq) (jN true):=by
 intro pins s σ H x y v u Q I rx ry h
 obtain⟨d,e,hx,hy,od,oe,q⟩:=h
 obtain⟨as,ra⟩:=hx.reads I rx
 obtain⟨bs,rb⟩:=hy.reads I ry
 exact SeqAt.compareNe_reads ra rb od.1 oe.1 (by have:=od.2;lia) ⟨.bl _,H,I,rfl,q⟩
noncomputable def gA(d:PyData)(ds:List PyData):Bool:=ds.any λy=>PyData.eqv y d
noncomputable def mC(neg:Bool):R2:=λx y H Q=>∃d ds,Is H x d/\(Is H y (.tuple ds)\/Is H y (.list ds))/\bY d/\pC ds/\Q (.bl (if neg then !gA d ds else gA d ds)) H
theorem o8(hu:X.A.units+64<cLine):OpR X (compareOp .In) (mC false):=by
 intro pins s σ H x y v u Q I rx ry h
 obtain⟨d,ds,hx,hy,od,oe,q⟩:=h
 obtain⟨as,ra⟩:=hx.reads I rx
 rcases hy with hy|hy
 ·obtain⟨bs,rb⟩:=hy.reads I ry
  exact SeqAt.in_tuple_reads rb ra oe.1 od.1 (by have:=od.2;lia) ⟨.bl _,H,I,rfl,q⟩
 ·obtain⟨bs,rb⟩:=hy.reads I ry
  exact SeqAt.in_list_reads rb ra oe.1 od.1 (by have:=od.2;lia) ⟨.bl _,H,I,rfl,q⟩
theorem gY(hu:X.A.units+64<cLine):OpR X (compareOp .NotIn) (mC true):=by
 intro pins s σ H x y v u Q I rx ry h
 obtain⟨d,ds,hx,hy,od,oe,q⟩:=h
 obtain⟨as,ra⟩:=hx.reads I rx
 rcases hy with hy|hy
 ·obtain⟨bs,rb⟩:=hy.reads I ry
  exact SeqAt.notIn_tuple_reads rb ra oe.1 od.1 (by have:=od.2;lia) ⟨.bl _,H,I,rfl,q⟩
 ·obtain⟨bs,rb⟩:=hy.reads I ry
  exact SeqAt.notIn_list_reads rb ra oe.1 od.1 (by have:=od.2;lia) ⟨.bl _,H,I,rfl,q⟩
end
noncomputable def gR:PyData->String
 | .none=>"NoneType"
 | .bool _=>"bool"
 | .int _=>"int"
 | .str _=>"str"
 | .list _=>"list"
 | .tuple _=>"tuple"
 | .dict _=>"dict"
theorem Is.ty{K:PySem.W.Frag}{H:Hp}{v:V}{d:PyData}(h:Is H v d):fO K H v (.type (gR d)):=by
 cases h with
 |non=>exact .non
 |bl b=>exact .bl b
 |int i=>exact .int i
 |str x=>exact .str x
 |tup e _=>exact .tup e
 |lst e _=>
  rcases e with e|⟨o,e⟩
  ·exact .lst e
  ·exact .frz e
noncomputable def i9(T:String)(d:PyData):Bool:=gR d==T||(T=="int"&&gR d=="bool")
theorem XE{K:PySem.W.Frag}(d:PyData):PySem.W.kitOne K (.type (gR d)) (.type "bool")=some (i9 "bool" d):=by cases d <;> with_unfolding_all rfl
theorem XC{K:PySem.W.Frag}(d:PyData):PySem.W.kitOne K (.type (gR d)) (.type "int")=some (i9 "int" d):=by cases d <;> with_unfolding_all rfl
theorem kit_tuple{K:PySem.W.Frag}(d:PyData):PySem.W.kitOne K (.type (gR d)) (.type "tuple")=some (i9 "tuple" d):=by cases d <;> with_unfolding_all rfl
theorem XB{K:PySem.W.Frag}(d:PyData):PySem.W.kitOne K (.type (gR d)) (.type "list")=some (i9 "list" d):=by cases d <;> with_unfolding_all rfl
theorem XA{K:PySem.W.Frag}(d:PyData):PySem.W.kitOne K (.type (gR d)) (.type "str")=some (i9 "str" d):=by cases d <;> with_unfolding_all rfl
theorem XD{K:PySem.W.Frag}(d:PyData):PySem.W.kitOne K (.type (gR d)) (.type "dict")=some (i9 "dict" d):=by cases d <;> with_unfolding_all rfl
section
variable{X:Cx}
theorem aaD:CallR X (.builtin "isinstance") (λxs H Q=>∃x T d,xs=[x,.ty T]/\T∈(["bool","int","tuple","list","str","dict"]:List String)/\Is H x d/\Q (.bl (i9 T d)) H):=by
 intro pins s σ H xs us Q I r h
 obtain⟨x,T,d,rfl,hT,hx,q⟩:=h
 obtain⟨u,v,rfl,rx,ry⟩:=Vals.two r
 cases(show v=Value.type T from ry)
 have fin:∀{b:Bool},PySem.W.kitOne X.K (.type (gR d)) (.type T)=some b->b=i9 T d->wpAny (model X.prog X.w) X.A (call (.builtin "isinstance") [u,.type T]) (EP X pins σ Q) X.xe s:=λ{b}e eb=>by
  subst eb
  exact X7 I rx hx.ty e λtk=>⟨.bl _,H,I.tok tk,rfl,q⟩
 simp only[mem_cons,not_mem_nil,or_false]at hT
 rcases hT with rfl|rfl|rfl|rfl|rfl|rfl
 ·exact fin (XE d) rfl
 ·exact fin (XC d) rfl
 ·exact fin (kit_tuple d) rfl
 ·exact fin (XB d) rfl
 ·exact fin (XA d) rfl
 ·exact fin (XD d) rfl
end
end L2
set_option maxHeartbeats 8000000
namespace L2
open PySem PySem.Spec PyProof.Rows
noncomputable def Run{α:Type}(lt:Nat->Nat->Bool)(n:Nat):PySem.W.KasT α->(α->Prop)->Prop
 | .ret a,Q=>Q a
 | .ask i j k,Q=>i<n/\j<n/\Run lt n (k (lt i j)) Q
section
variable{lt:Nat->Nat->Bool}{n:Nat}
theorem Run.mono{α:Type}{Q Q':α->Prop}(h:∀a,Q a->Q' a):∀{t:PySem.W.KasT α},Run lt n t Q->Run lt n t Q'
 | .ret a,q=>h a q
 | .ask i j k,⟨a,b,q⟩=>⟨a,b,Run.mono h q⟩
theorem Run.bind{α β:Type}{f:α->PySem.W.KasT β}{Q:β->Prop}:∀{t:PySem.W.KasT α},Run lt n t (λa=>Run lt n (f a) Q)->Run lt n (t.bind f) Q
 | .ret a,q=>q
 | .ask i j k,⟨a,b,q⟩=>⟨a,b,Run.bind q⟩
theorem Run.wp{α:Type}{cmp:Nat->Nat->(Bool->Shared->Prop)->Shared->Prop}{Q:α->Prop}{R:α->Shared->Prop}{s:Shared}(hc:∀i j C,i<n->j<n->C (lt i j) s->cmp i j C s)(hR:∀a,Q a->R a s):
  ∀{t:PySem.W.KasT α},Run lt n t Q->t.kasWp cmp R s
 | .ret a,q=>hR a q
 | .ask i j k,⟨a,b,q⟩=>hc i j _ a b (Run.wp hc hR q)
structure lL (lt:Nat->Nat->Bool) (n:Nat):Prop where
 tr:∀i j k,i<n->j<n->k<n->lt i j=true->lt j k=true->lt i k=true
 tot:∀i j,i<n->j<n->i≠j->lt i j=false->lt j i=true
 irr:∀i j,i<n->j<n->lt i j=true->lt j i=false
structure dF (n:Nat) (p:Array Nat):Prop where
 sz:p.size=n
 lt:∀i,i<n->p.getD i 0<n
 ne:∀i j,i<n->j<n->i≠j->p.getD i 0≠p.getD j 0
 pm:p.toList.Perm (range n)
noncomputable def Up(lt:Nat->Nat->Bool)(p:Array Nat)(k:Nat):Prop:=∀i j,i<j->j<k->lt (p.getD i 0) (p.getD j 0)=true
noncomputable def Dn(lt:Nat->Nat->Bool)(p:Array Nat)(k:Nat):Prop:=∀i j,i<j->j<k->lt (p.getD j 0) (p.getD i 0)=true
variable(S:lL lt n)
include S
theorem M8{p:Array Nat}{k:Nat}(P:dF n p)(h1:1<=k)(hk:k<n)(u:Up lt p k)(h:lt (p.getD (k-1) 0) (p.getD k 0)=true):Up lt p (k+1):=λi j hij hj=>by
 by_cases e:j=k
 ·subst e
  by_cases e2:i=j-1
  ·subst e2;exact h
  ·exact S.tr _ _ _ (P.lt _ (by lia)) (P.lt _ (by lia)) (P.lt _ (by lia)) (u i (j-1) (by lia) (by lia)) h
 ·exact u i j hij (by lia)
theorem ZJ{p:Array Nat}{k:Nat}(P:dF n p)(h1:1<=k)(hk:k<n)(u:Dn lt p k)(h:lt (p.getD k 0) (p.getD (k-1) 0)=true):Dn lt p (k+1):=λi j hij hj=>by
 by_cases e:j=k
 ·subst e
  by_cases e2:i=j-1
  ·subst e2;exact h
  ·exact S.tr _ _ _ (P.lt _ (by lia)) (P.lt _ (by lia)) (P.lt _ (by lia)) h (u i (j-1) (by lia) (by lia))
 ·exact u i j hij (by lia)
theorem uN{p:Array Nat}(P:dF n p):∀(f k:Nat),1<=k->k+f<=n->Up lt p k->Run lt n (PySem.W.kas_asc p f k) λr=>k<=r/\r<=k+f/\Up lt p r/\(r<k+f->lt (p.getD r 0) (p.getD (r-1) 0)=true)
 |0,k,_,_,u=>⟨Nat.le_refl _,Nat.le_refl _,u,λh=>absurd h (Nat.lt_irrefl _)⟩
 | f+1,k,h1,hn,u=>by
  refine⟨P.lt _ (by lia),P.lt _ (by lia),?_⟩
  cases c:lt (p.getD k 0) (p.getD (k-1) 0) with
  |true=>exact⟨Nat.le_refl _,by lia,u,λ_=>c⟩
  |false=>
   have c':=S.tot _ _ (P.lt _ (by lia)) (P.lt _ (by lia)) (P.ne k (k-1) (by lia) (by lia) (by lia)) c
   exact(uN P f (k+1) (by lia) (by lia) (M8 S P h1 (by lia) u c')).mono λr⟨a,b,c,d⟩=>⟨by lia,by lia,c,λh=>d (by lia)⟩
theorem FA{p:Array Nat}(P:dF n p):∀(f k:Nat),1<=k->k+f<=n->Dn lt p k->Run lt n (PySem.W.kas_desc f p k 0) λr=>r.1=p/\r.2.2=0/\k<=r.2.1/\r.2.1<=k+f/\Dn lt p r.2.1
 |0,k,_,_,u=>⟨rfl,rfl,Nat.le_refl _,Nat.le_refl _,u⟩
 | f+1,k,h1,hn,u=>by
  refine⟨P.lt _ (by lia),P.lt _ (by lia),?_⟩
  cases c:lt (p.getD k 0) (p.getD (k-1) 0) with
  |true=>
   show Run lt n (if(0:Nat)>0 then PySem.W.kas_desc f (PySem.W.kas_rev p (k-(0+1)) k) (k+1) 0 else PySem.W.kas_desc f p (k+1) 0) _
   rw[if_neg (Nat.lt_irrefl 0)]
   exact(FA P f (k+1) (by lia) (by lia) (ZJ S P h1 (by lia) u c)).mono λr⟨a,b,c,d,e⟩=>⟨a,b,by lia,by lia,e⟩
  |false=>
   have c':=S.tot _ _ (P.lt _ (by lia)) (P.lt _ (by lia)) (P.ne k (k-1) (by lia) (by lia) (by lia)) c
   refine⟨P.lt _ (by lia),P.lt _ (by lia),?_⟩
   rw[c']
   exact⟨rfl,rfl,Nat.le_refl _,Nat.le_add_right _ _,u⟩
omit S in
theorem mT{p:Array Nat}{k:Nat}(hk:k<=p.size)(i:Nat):(PySem.W.kas_rev p 0 k).getD i 0=if i<k then p.getD (k-1-i) 0 else p.getD i 0:=by
 have e:∀(q:Array Nat)(i:Nat),q.getD i 0=(q[i]?).getD 0:=λq i=>by
  by_cases h:i<q.size
  ·simp[Array.getD,h]
  ·simp[Array.getD,h]
 rw[e,e,e]
 unfold PySem.W.kas_rev
 rw[getElem?_mirror hk _ (by lia)]
 by_cases h:i<k
 ·rw[if_pos h]
  by_cases h2:(0<=i/\i<0+(k-0)/2)\/(k-(k-0)/2<=i/\i<k)
  ·rw[if_pos h2]
   congr 2
   lia
  ·rw[if_neg h2]
   have:k-1-i=i:=by lia
   rw[this]
 ·rw[if_neg h,if_neg (by lia)]
omit S in
theorem FM{p:Array Nat}(P:dF n p){k:Nat}(hk:k<=n):dF n (PySem.W.kas_rev p 0 k) where
 sz:=(mirror_size _ _ _ _).trans P.sz
 lt:=λi hi=>by
  rw[mT (by rw[P.sz];exact hk)]
  split
  ·exact P.lt _ (by lia)
  ·exact P.lt _ hi
 ne:=λi j hi hj hne=>by
  rw[mT (by rw[P.sz];exact hk),mT (by rw[P.sz];exact hk)]
  split <;> split <;> exact P.ne _ _ (by lia) (by lia) (by lia)
 pm:=(Array.perm_iff_toList_perm.mp (mirror_perm _ _ _ _)).trans P.pm
omit S in
theorem PU{p:Array Nat}(P:dF n p){k:Nat}(hk:k<=n)(d:Dn lt p k):Up lt (PySem.W.kas_rev p 0 k) k:=λi j hij hj=>by
 rw[mT (by rw[P.sz];exact hk),mT (by rw[P.sz];exact hk),if_pos (by lia),if_pos hj]
 exact d _ _ (by lia) (by lia)
theorem PD{p:Array Nat}(P:dF n p){k:Nat}(h1:1<=k)(hk:k<=n)(d:Dn lt p k):Run lt n (PySem.W.kas_tail3 k n p) λr=>1<=r.1/\r.1<=n/\dF n r.2/\Up lt r.2 r.1:=by
 unfold PySem.W.kas_tail3
 refine Run.bind ((uN S (FM P hk) (n-k) k h1 (by lia) (PU P hk d)).mono λr⟨a,b,c,_⟩=>?_)
 exact⟨by lia,by lia,FM P hk,c⟩
theorem PJ{p:Array Nat}(P:dF n p)(h1:1<=n):Run lt n (PySem.W.kas_count n p) λr=>1<=r.1/\r.1<=n/\dF n r.2/\Up lt r.2 r.1:=by
 unfold PySem.W.kas_count
 refine Run.bind ((uN S P (n-1) 1 (Nat.le_refl _) (by lia) (λi j hij hj=>by lia)).mono λr⟨a,b,u,c⟩=>?_)
 by_cases hr:(r==n)=true
 ·rw[if_pos hr]
  exact⟨a,by lia,P,u⟩
 ·rw[if_neg hr]
  have hr':r≠n:=by simpa using hr
  by_cases h2:r>1
  ·rw[if_pos h2]
   refine⟨P.lt _ (by lia),P.lt _ (by lia),?_⟩
   rw[u 0 (r-1) (by lia) (by lia)]
   exact⟨a,by lia,P,u⟩
  ·rw[if_neg h2]
   have er:r=1:=by lia
   subst er
   unfold PySem.W.kas_descPart
   have c0:=c (by lia)
   have d2:Dn lt p 2:=λi j hij hj=>by
    have ei:i=0:=by lia
    have ej:j=1:=by lia
    subst ei ej
    exact c0
   refine Run.bind ((FA S P (n-(1+1)) (1+1) (by lia) (by lia) d2).mono λq⟨e1,e2,e3,e4,e5⟩=>?_)
   rw[e2,if_neg (Nat.lt_irrefl 0),e1]
   exact PD S P (by lia) (by lia) e5
theorem uL{p:Array Nat}(P:dF n p){k:Nat}(hk:k<n):∀(f l r:Nat),r<=l+f->l<=r->r<=k->(∀i,i<l->lt (p.getD i 0) (p.getD k 0)=true)->(∀i,r<=i->i<k->lt (p.getD k 0) (p.getD i 0)=true)->Up lt p k->
  Run lt n (PySem.W.kas_place p k f l r) λx=>x<=k/\(∀i,i<x->lt (p.getD i 0) (p.getD k 0)=true)/\(∀i,x<=i->i<k->lt (p.getD k 0) (p.getD i 0)=true)
 |0,l,r,h1,h2,h3,hl,hr,_=>by
  have e:l=r:=by lia
  subst e
  exact⟨h3,hl,hr⟩
 | f+1,l,r,h1,h2,h3,hl,hr,u=>by
  unfold PySem.W.kas_place
  by_cases h:l>=r
  ·rw[if_pos h]
   have e:l=r:=by lia
   subst e
   exact⟨h3,hl,hr⟩
  ·rw[if_neg h]
   refine⟨P.lt _ (by lia),P.lt _ (by lia),?_⟩
   cases c:lt (p.getD k 0) (p.getD ((l+r)/2) 0) with
   |true=>
    refine uL P hk f l ((l+r)/2) (by lia) (by lia) (by lia) hl (λi yE mS=>?_) u
    by_cases e:i=(l+r)/2
    ·subst e;exact c
    ·exact S.tr _ _ _ (P.lt _ (by lia)) (P.lt _ (by lia)) (P.lt _ (by lia)) c (u _ _ (by lia) (by lia))
   |false=>
    have c':=S.tot _ _ (P.lt _ (by lia)) (P.lt _ (by lia)) (P.ne k ((l+r)/2) (by lia) (by lia) (by lia)) c
    refine uL P hk f ((l+r)/2+1) r (by lia) (by lia) h3 (λi hi=>?_) hr u
    by_cases e:i=(l+r)/2
    ·subst e;exact c'
    ·exact S.tr _ _ _ (P.lt _ (by lia)) (P.lt _ (by lia)) (P.lt _ (by lia)) (u _ _ (by lia) (by lia)) c'
omit S in
theorem mU{p:Array Nat}{k d:Nat}(hk:k<p.size)(hd:d<=k)(i:Nat):(bubble p k d).getD i 0=if i=k-d then p.getD k 0 else if k-d<i/\i<=k then p.getD (i-1) 0 else p.getD i 0:=by
 have e:∀(q:Array Nat)(i:Nat),q.getD i 0=(q[i]?).getD 0:=λq i=>by
  by_cases h:i<q.size
  ·simp[Array.getD,h]
  ·simp[Array.getD,h]
 rw[e,e,e,e,getElem?_bubble hk d hd]
 split
 ·rfl
 ·split <;> rfl
omit S in
theorem aaQ{p:Array Nat}(P:dF n p){k d:Nat}(hk:k<n)(hd:d<=k):dF n (bubble p k d) where
 sz:=(bubble_size _ _ _).trans P.sz
 lt:=λi hi=>by
  rw[mU (by rw[P.sz];exact hk) hd]
  split
  ·exact P.lt _ hk
  ·split
   ·exact P.lt _ (by lia)
   ·exact P.lt _ hi
 ne:=λi j hi hj hne=>by
  rw[mU (by rw[P.sz];exact hk) hd,mU (by rw[P.sz];exact hk) hd]
  split <;> split <;> first|(split <;> first|exact P.ne _ _ (by lia) (by lia) (by lia)|(split <;> exact P.ne _ _ (by lia) (by lia) (by lia)))|exact P.ne _ _ (by lia) (by lia) (by lia)|lia
 pm:=(Array.perm_iff_toList_perm.mp (bubble_perm _ _ _)).trans P.pm
theorem FB:∀(f:Nat)(p:Array Nat)(k:Nat),dF n p->k+f=n->1<=k->Up lt p k->Run lt n (PySem.W.kas_bin f p k) λq=>dF n q/\Up lt q n
 |0,p,k,P,e,_,u=>by
  have e':k=n:=by lia
  subst e'
  exact⟨P,u⟩
 | f + 1,p,k,P,e,h1,u=>by
  unfold PySem.W.kas_bin
  refine Run.bind ((uL S P (by lia:k<n) k 0 k (by lia) (by lia) (Nat.le_refl _) (λi hi=>by lia) (λi h1 h2=>by lia) u).mono λl⟨hl,ha,hb⟩=>?_)
  have hp:k<p.size:=by rw[P.sz];lia
  refine FB f _ (k+1) (aaQ P (by lia) (by lia)) (by lia) (by lia) λi j hij hj=>?_
  rw[mU hp (by lia),mU hp (by lia)]
  have el:k-(k-l)=l:=by lia
  rw[el]
  by_cases hi:i=l
  ·rw[if_pos hi]
   rw[if_neg (by lia:¬j=l),if_pos (by lia)]
   exact hb _ (by lia) (by lia)
  ·rw [if_neg hi]
   by_cases hj':j=l
   ·rw[if_pos hj',if_neg (by lia)]
    exact ha _ (by lia)
   ·rw[if_neg hj']
    by_cases c1:l<i/\i<=k
    ·rw[if_pos c1,if_pos (by lia)]
     exact u _ _ (by lia) (by lia)
    ·rw[if_neg c1]
     by_cases c2:l<j/\j<=k
     ·rw[if_pos c2]
      exact u _ _ (by lia) (by lia)
     ·rw[if_neg c2]
      exact u _ _ (by lia) (by lia)
theorem PF(h1:1<=n):Run lt n (PySem.W.kas_sort n) λq=>dF n q/\Up lt q n:=by
 unfold PySem.W.kas_sort
 have P0:dF n (List.toArray (range n)):=by
  have e:∀i,i<n->(List.toArray (range n)).getD i 0=i:=λi hi=>by simp[Array.getD,hi]
  exact⟨by simp,λi hi=>by rw[e i hi];exact hi,λi j hi hj hne=>by rw[e i hi,e j hj];exact hne,List.Perm.refl _⟩
 refine Run.bind ((PJ S P0 h1).mono λr⟨a,b,P,u⟩=>?_)
 by_cases h:r.1<n
 ·rw[if_pos h]
  have em:max r.1 1=r.1:=by lia
  rw[em]
  exact FB S _ _ _ P (by lia) a u
 ·rw[if_neg h]
  have e:r.1=n:=by lia
  rw[e]at u
  exact⟨P,u⟩
end
theorem HV{h:Heap}{a:Addr}{m m':Str->Option Value}(x:h.Ns a m)(y:h.Ns a m'):m=m':=by
 obtain⟨o,es,ep,e,d,_,f⟩:=x
 obtain⟨o',es',ep',e',d',_,f'⟩:=y
 rw[e]at e';cases e'
 rw[d]at d';cases d'
 funext z
 rw[<-f z,<-f' z]
theorem ObjOk.there{P:Program}{w:World}{H:Hp}{h:Heap}{a:Addr}{o:HO}(x:ObjOk P w H h a o):∃u,h.get? a=some u:=by
 cases o with
 |lst xs=>obtain⟨_,_,_,_,e⟩:=x;exact⟨_,e⟩
 |tup xs=>obtain⟨_,_,_,_,o,e,_⟩:=x;exact⟨_,e⟩
 |dK kvs=>obtain⟨_,_,_,_,o,_,_,e,_⟩:=x;exact⟨_,e⟩
 |dT kvs=>obtain⟨_,_,_,_,o,_,_,e,_⟩:=x;exact⟨_,e⟩
 |set S n=>obtain⟨o,_,_,_,e,_⟩:=x;exact⟨_,e⟩
 |ins C dx fs=>obtain⟨_,_,_,e,_⟩:=x;exact⟨_,e⟩
 |own y=>obtain⟨_,e⟩:=x;exact⟨_,e⟩
 |xd fs=>obtain⟨_,⟨_,_,_,e,_⟩,_⟩:=x;exact⟨_,e⟩
 |rng lo hi=>obtain⟨_,_,_,e⟩:=x;exact⟨_,e⟩
 |frz ob u=>obtain⟨e,_⟩:=x;exact⟨_,e⟩
 |tbl ps=>exact⟨_,show h.get? a=some _ from x⟩
 |met f y=>exact⟨_,show h.get? a=some _ from x⟩
 |ext φ=>obtain⟨_,⟨_,e⟩,_⟩:=x;exact⟨_,e⟩
section
variable{X:Cx}{pins:List (Addr×Obj)}{σ:St}{H:Hp}{s:Shared}
theorem Inv.none_of(I:Inv X pins σ H s){a:Addr}(h:s.heap.get? a=none):H a=none:=by
 cases q:H a with
 |none=>rfl
 |some o=>
  obtain⟨u,e⟩:=(I.hok a o q).there
  rw[h]at e;cases e
theorem Inv.laidBut{a:Addr}{xs:List V}{its:List Value}{n t':Nat}{h':Heap}{m:Str->Option Value}(I:Inv X pins σ H s)(k:∀b u,b≠X.env.locals->s.heap.get? b=some u->h'.get? b=some u)(hm:s.heap.Ns X.env.locals m)(hm':h'.Ns X.env.locals m)
  (hp:s.heap.get? a=none) (rv:Vals xs its) (hz:xs.length<=sizeLine) (ho:h'.get? a=some { cls:=.type "list",data:=.seq its.toArray n }):Inv X pins σ (upd H a (.lst xs)) { s with heap:=h',toks:=t' }:=by
 have hn:H a=none:=I.none_of hp
 have neL:∀b u,H b=some u->b≠X.env.locals:=λb u e z=>by rw[z,I.free]at e;cases e
 refine I.step (g':=s.gens) (d':=s.drawn) (ch:=[]) (λ_ z=>nomatch z) (λb o h1 _ _ e _=>k b o h1 e) (λb o h1 _ _ e _=>⟨o.slots,k b o h1 e⟩)
  (λb o _ e q=>by rw[aE (λz=>by rw[z,hp]at e;cases e)];exact q) (λb o _ e=>?_)
  (λb xs q=>by rw[aE (aI q hn)];exact q) (λb o u q=>by rw[aE (aI q hn)];exact q) (λb ps q=>⟨#[],by rw[aE (aI q hn),q];simp⟩) (λm2 h2=>?_) (λb u e=>?_) I.bare
 ·by_cases hb:b=X.env.locals
  ·subst hb
   obtain⟨o',_,_,e',_⟩:=hm'
   exact⟨o',e'⟩
  ·exact⟨o,k b o hb e⟩
 ·rw[HV h2 hm];exact hm'
 ·by_cases hb:b=a
  ·subst hb
   rw[aB]at e
   cases e
   exact⟨hz,its,n,rv,ho⟩
  ·rw[aE hb]at e
   refine(I.hok b u e).stay (λc v hc q=>k c v ?_ q) (λc q=>by rw[aE (aI q hn)];exact q) λc xs q=>by rw[aE (aI q hn)];exact q
   rcases hc with rfl|hc
   ·exact neL _ _ e
   ·exact neL _ _ hc
end
section
variable{X:Cx}
theorem KK:∀{bs:List Bool}{vs:List Value},Vals (bs.map V.bl) vs->LSm.BoolsAre vs bs
 |[],_,.nil=>.nil
 |b::bs,_,.cons r t=>by
  cases(show _=Value.bool b from r)
  exact .cons b (KK t)
theorem aaI(hc:X.calm=true):CallR X (.builtin "all") (λxs H Q=>∃(p:Addr)(bs:List Bool),xs=[.ref p]/\SqL X.K H p (bs.map V.bl)/\Q (.bl (bs.all id)) H):=by
 intro pins s σ H xs us Q I r h
 obtain⟨p,bs,rfl,hq,q⟩:=h
 obtain⟨u,rfl,rx⟩:=Vals.one r
 cases(show u=Value.ref p from rx)
 obtain⟨its,rv,pl,hz⟩:=I.list hq
 obtain⟨m,F⟩:=I.fr
 have hb:=KK rv
 have hl:s.heap.IsList p its.toArray:=pl.isList
 have hlt:p<s.heap.objs.size:=by obtain⟨_,e,_⟩:=hl;exact Heap.lt_size e
 refine call_all_walk (wpAny_pyIter_list hl ?_)
 refine⟨s.heap.objs.size,[s.heap.objs.size,p],[s.heap.objs.size],its.toArray.size,_,_,λi=>(bs[i]?).getD true,rfl,Walks.list (A:=X.A.in1) (I.ok.hd hc) _ p (Nat.ne_of_lt hlt) its.toArray,
  ⟨⟨_,Heap.get?_push_size _ rfl,rfl,rfl⟩,hl.push _⟩,λi v s' Q' E' hP hQ=>?_,λh' tk hk=>?_⟩
 ·obtain⟨b,e,rfl⟩:=hb.get i v (by simpa using hP)
  simp only[e,Option.getD_some]at hQ
  exact wpAny_truthy_bool hQ
 ·have e:((range its.toArray.size).all λi=>(bs[i]?).getD true)=bs.all id:=by
   rw[size_toArray,hb.length];exact LSm.range_all bs
  rw[e]
  exact⟨.bl _,H,I.kept (LSm.kept_iter hk),rfl,q⟩
end
section
variable{prog:Program}{w:World}{A:Around}{E:Value->Shared->Prop}{s:Shared}
noncomputable def Col(prog:Program)(w:World)(s:Shared)(l:Addr)(vs:List Value):Prop:=∀(A:Around)(E:Value->Shared->Prop)(Q:List Value->Shared->Prop),
 Q vs { s with heap:=(s.heap.push (seqObj "list" #[] 0)).update s.heap.objs.size (Obj.mapSeq (· ++vs.toArray)) }->wpAny (model prog w) A (collect (.ref l)) Q E s
theorem Col.list{l:Addr}{vs:List Value}(hl:s.heap.IsList l vs.toArray)(hz:vs.length<=sizeLine):Col prog w s l vs:=λ_ _ _ h=>collect_list hl h hz
theorem Col.tup{l:Addr}{vs:List Value}(hl:IsTup s.heap l vs.toArray)(hz:vs.length<=sizeLine):Col prog w s l vs:=by
 intro A E Q h
 obtain⟨o,ho,hc,n,hd⟩:=hl
 have ho':(s.heap.push (seqObj "list" #[] 0)).get? l=some o:=Heap.get?_push_of_some _ ho
 have e0:((#[]:Array Value)++vs.toArray).toList=vs:=by simp
 unfold collect
 refine wpAny_bind (wpAny_runValue (codeAny_builtin entry_proto_collect' ?_))
 show wpAny _ _ (do again (.builtin "list.__iadd__" ⟨[<-newList [],.ref l],[]⟩)) _ _ s
 refine wpAny_bind (wpAny_newList (wpAny_pure ⟨Code.quiet_builtin _ (by decide +kernel),codeAny_builtin entry_list_iadd' ?_⟩))
 show wpAny _ _ (Builtin.List.listExtendWith (.ref s.heap.objs.size) (.ref l) (.ref s.heap.objs.size)) _ _ { s with heap:=s.heap.push (seqObj "list" #[] 0) }
 unfold Builtin.List.listExtendWith
 refine wpAny_bind (wpAny_typeOf (T:="tuple") ⟨o,ho',hc⟩ ?_)
 have ht2:(Value.type "tuple"==Value.type "tuple")=true:=by rfl
 rw[if_pos (by rw[ht2];simp)]
 refine wpAny_bind (listItems_at ho' hd ?_)
 refine wpAny_bind (listItems_at (xs:=#[]) (n:=0) (Heap.get?_push_size _ rfl) rfl ?_)
 rw[if_neg (by simp)]
 refine wpAny_bind (listUpdate_at (xs:=#[]) (n:=0) (Heap.get?_push_size _ rfl) rfl ?_ (Nat.zero_le _) (Nat.le_trans (Nat.le_of_eq (by rw[<-Array.length_toList,e0])) (Nat.le_succ_of_le hz)))
 refine wpAny_pure ?_
 show wpAny (model prog w) A (do
   let ob <-load s.heap.objs.size
   match ob.data with
   | .seq xs _=>pure xs.toList
   |_=>unsupported "internal:collect") Q E { s with heap:=(s.heap.push (seqObj "list" #[] 0)).update s.heap.objs.size (Obj.mapSeq (· ++vs.toArray)) }
 refine wpAny_bind (wpAny_load (get?_update_seq (Heap.get?_push_size _ rfl) _) ?_)
 show wpAny _ _ (pure ((#[]:Array Value)++vs.toArray).toList) Q E _
 rw[e0]
 exact wpAny_pure h
theorem OC{l:Addr}{vs:List Value}{Q:Value->Shared->Prop}{h₀:Heap}{L:Addr}{m:Str->Option Value}{news:List (Addr×Obj)}(F:Fr h₀ L s.heap m)(N:News h₀ L s.heap news)(hl:Col prog w s l vs)(h2:2<=vs.length)(h64:vs.length<64)
  (h:∀D e1 h',Fr h₀ L h' m->News h₀ L h' ((D,seqObj "list" #[] e1)::news)->(∀q∈news,q.1<D)->
   wpAny (model prog w) A.in1.in1 (keyKind' vs.toArray) (λκ s'=>(PySem.W.kas_sort vs.length).kasWp (PySem.W.kas_ask prog w A.in1.in1 κ vs) (λp s''=>PySem.W.KasFin h₀ L m D e1 (p.toList.map λi=>vs.getD i Value.none) (λs3=>Q (.ref D) s3) s'') s') (λ_ _=>False) { s with heap:=h' }):
  wpAny (model prog w) A (call (.builtin "sorted") [.ref l]) Q E s:=by
 have hsl:vs.length<=sizeLine:=by rw[sizeLine_eq];lia
 refine Calls.call_function_entry kind_sorted plain_sorted entry_sorted (args_sorted1 _) ?_
 unfold Builtin.«sorted»
 refine wpAny_bind (m:=checkCount "sorted" 1 1 _) (wpAny_pure ?_)
 refine wpAny_bind (hl _ _ _ ?_)
 refine wpAny_bind (wpAny_newList ?_ hsl)
 have hsz:((s.heap.push (seqObj "list" #[] 0)).update s.heap.objs.size (Obj.mapSeq (· ++vs.toArray))).objs.size=s.heap.objs.size+1:=by
  rw[Heap.size_update,size_push']
 have hoL:(((s.heap.push (seqObj "list" #[] 0)).update s.heap.objs.size (Obj.mapSeq (· ++vs.toArray))).push (seqObj "list" vs.toArray 0)).get? (s.heap.objs.size+1)=some (seqObj "list" vs.toArray 0):=by
  rw[<-hsz];exact Heap.get?_push_size _ rfl
 have keep:∀b o,s.heap.get? b=some o->(((s.heap.push (seqObj "list" #[] 0)).update s.heap.objs.size (Obj.mapSeq (· ++vs.toArray))).push (seqObj "list" vs.toArray 0)).get? b=some o:=λb o q=>by
  have hlt:b<s.heap.objs.size:=Heap.lt_size q
  rw[Heap.get?_push_ne _ _ _ (by rw[hsz];exact Nat.ne_of_lt (Nat.lt_succ_of_lt hlt)),Heap.get?_update_ne _ _ _ _ (Nat.ne_of_lt hlt),Heap.get?_push_ne _ _ _ (Nat.ne_of_lt hlt)]
  exact q
 have hL:L<s.heap.objs.size:=F.ns.lt
 show wpAny _ _ _ _ _ { s with heap:=((s.heap.push (seqObj "list" #[] 0)).update s.heap.objs.size (Obj.mapSeq (· ++vs.toArray))).push (seqObj "list" vs.toArray 0) }
 rw[hsz]
 refine wpAny_bind (wpAny_holding (wpAny_call_entry slot_list_sort ⟨_,hoL,rfl⟩ entry_list_sort ?body (args_list_sort _)))
 case body=>
  refine PySem.W.kat_list_sort (s:={ s with heap:=((s.heap.push (seqObj "list" #[] 0)).update s.heap.objs.size (Obj.mapSeq (· ++vs.toArray))).push (seqObj "list" vs.toArray 0) })
   (F.kept keep) (N.grown keep) hoL (Nat.ne_of_gt (Nat.lt_succ_of_lt hL)) (Heap.get?_none_of_le (Nat.le_trans F.above (Nat.le_succ_of_le (Nat.le_of_lt hL))))
   (λp hp=>Nat.ne_of_lt (Nat.lt_succ_of_lt (Heap.lt_size (N p hp).1))) h2 h64 λe1 h' F' N'=>?_
  refine wpAny_mono (h _ e1 h' F' N' λq hq=>Nat.lt_succ_of_lt (Heap.lt_size (N q hq).1)) (λκ s' hk=>?_) λ_ _ x=>x
  rw[PySem.W.kat_ask_eq rfl]at hk ⊢
  exact PySem.W.kas_wp_mono hk λp s'' hk'=>hk'.mono λs3 hq=>⟨_,rfl,wpAny_pure ⟨_,rfl,hq⟩⟩
theorem sP{l:Addr}{vs:List Value}{Q:Value->Shared->Prop}(hl:Col prog w s l vs)(h2:vs.length<2)
  (h:∀D h' n,s.heap.objs.size<=D->(∀b o,s.heap.get? b=some o->h'.get? b=some o)->h'.get? D=some { cls:=.type "list",data:=.seq vs.toArray n }->Q (.ref D) { s with heap:=h' }):
  wpAny (model prog w) A (call (.builtin "sorted") [.ref l]) Q E s:=by
 have hsl:vs.length<=sizeLine:=by rw[sizeLine_eq];lia
 refine Calls.call_function_entry kind_sorted plain_sorted entry_sorted (args_sorted1 _) ?_
 unfold Builtin.«sorted»
 refine wpAny_bind (m:=checkCount "sorted" 1 1 _) (wpAny_pure ?_)
 refine wpAny_bind (hl _ _ _ ?_)
 refine wpAny_bind (wpAny_newList ?_ hsl)
 have hsz:((s.heap.push (seqObj "list" #[] 0)).update s.heap.objs.size (Obj.mapSeq (· ++vs.toArray))).objs.size=s.heap.objs.size+1:=by
  rw[Heap.size_update,size_push']
 have hoL:(((s.heap.push (seqObj "list" #[] 0)).update s.heap.objs.size (Obj.mapSeq (· ++vs.toArray))).push (seqObj "list" vs.toArray 0)).get? (s.heap.objs.size+1)=some (seqObj "list" vs.toArray 0):=by
  rw[<-hsz];exact Heap.get?_push_size _ rfl
 have keep:∀b o,s.heap.get? b=some o->(((s.heap.push (seqObj "list" #[] 0)).update s.heap.objs.size (Obj.mapSeq (· ++vs.toArray))).push (seqObj "list" vs.toArray 0)).get? b=some o:=λb o q=>by
  have hlt:b<s.heap.objs.size:=Heap.lt_size q
  rw[Heap.get?_push_ne _ _ _ (by rw[hsz];exact Nat.ne_of_lt (Nat.lt_succ_of_lt hlt)),Heap.get?_update_ne _ _ _ _ (Nat.ne_of_lt hlt),Heap.get?_push_ne _ _ _ (Nat.ne_of_lt hlt)]
  exact q
 show wpAny _ _ _ _ _ { s with heap:=((s.heap.push (seqObj "list" #[] 0)).update s.heap.objs.size (Obj.mapSeq (· ++vs.toArray))).push (seqObj "list" vs.toArray 0) }
 rw[hsz]
 generalize ((s.heap.push (seqObj "list" #[] 0)).update s.heap.objs.size (Obj.mapSeq (· ++vs.toArray))).push (seqObj "list" vs.toArray 0)=g at hoL keep ⊢
 refine wpAny_bind (wpAny_holding (wpAny_call_entry slot_list_sort ⟨_,hoL,rfl⟩ entry_list_sort ?body (args_list_sort _)))
 case body=>
  rw[list_sort_plain]
  have ha:s.heap.objs.size+1<g.objs.size:=Heap.lt_size hoL
  refine wpAny_bind (listItems_at hoL rfl ?_)
  refine wpAny_bind (listUpdate_at hoL rfl ?_ (by rw[size_toArray];exact hsl) (Nat.zero_le _))
  obtain⟨e1,ho1⟩:∃e1,(g.update (s.heap.objs.size+1) (Obj.mapSeq λ_=>(#[]:Array Value))).get? (s.heap.objs.size+1)=some (seqObj "list" #[] e1):=⟨_,get?_update_seq hoL (λ_=>#[])⟩
  refine wpAny_bind (seqEpoch_at ho1 rfl ?_)
  refine wpAny_bind (wpAny_newTuple ?_ hsl)
  refine wpAny_bind (wpAny_newList ?_ (Nat.zero_le _))
  refine wpAny_holding ?_
  have ho6:(((g.update (s.heap.objs.size+1) (Obj.mapSeq λ_=>(#[]:Array Value))).push (seqObj "tuple" vs.toArray 0)).push (seqObj "list" #[] 0)).get? (s.heap.objs.size+1)=some (seqObj "list" #[] e1):=by
   rw[Heap.get?_push_ne _ _ _ (by rw[size_push',Heap.size_update];exact Nat.ne_of_lt (Nat.lt_succ_of_lt ha)),Heap.get?_push_ne _ _ _ (by rw[Heap.size_update];exact Nat.ne_of_lt ha)]
   exact ho1
  show wpAny (model prog w) _ _ _ _ { s with heap:=((g.update (s.heap.objs.size+1) (Obj.mapSeq λ_=>(#[]:Array Value))).push (seqObj "tuple" vs.toArray 0)).push (seqObj "list" #[] 0) }
  dsimp only
  have h2':vs.toArray.size<2:=by simpa using h2
  rw[if_pos h2',if_pos h2']
  refine wpAny_bind (wpAny_pure ?_)
  rw[StateT.run_pure]
  refine wpAny_bind (wpAny_pure ?_)
  dsimp only
  refine wpAny_bind (seqEpoch_at ho6 rfl ?_)
  have earr:(arrOf (SortSt.mk' general' (vs.toArray.zip vs.toArray) #[] 7 none)).map (·.2)=vs.toArray:=by
   show(pairsOf vs).map (·.2)=vs.toArray
   apply Array.toList_inj.mp
   rw[Array.toList_map,pairsOf_toList]
   have e:∀l:List Value,(l.zip l).map (·.2)=l:=λl=>by
    induction l with
    |nil=>rfl
    |cons a r ih=>rw[zip_cons_cons,map_cons,ih]
   rw[e]
  refine wpAny_bind (listUpdate_at ho6 rfl ?_ (Nat.zero_le _) (hsz2:=by rw[earr,size_toArray];exact Nat.le_succ_of_le hsl))
  simp only[bne_self_eq_false,Bool.false_eq_true,if_false]
  refine wpAny_pure ⟨_,rfl,wpAny_pure ⟨_,rfl,?_⟩⟩
  have s2:=get?_update_seq ho6 λ_=>vs.toArray
  rw[earr]
  refine h _ _ _ (Nat.le_succ _) (λb o q=>?_) s2
  have hlt:b<s.heap.objs.size:=Heap.lt_size q
  have hlt2:b<g.objs.size:=Heap.lt_size (keep b o q)
  rw[Heap.get?_update_ne _ _ _ _ (Nat.ne_of_lt (Nat.lt_succ_of_lt hlt)),Heap.get?_push_ne _ _ _ (by rw[size_push',Heap.size_update];exact Nat.ne_of_lt (Nat.lt_succ_of_lt hlt2)),Heap.get?_push_ne _ _ _ (by rw[Heap.size_update];exact Nat.ne_of_lt hlt2),
   Heap.get?_update_ne _ _ _ _ (Nat.ne_of_lt (Nat.lt_succ_of_lt hlt))]
  exact keep b o q
end
theorem kB:∀{a b:List Int},HT.lexLt a b=true->HT.lexLt b a=false
 |[],[],h=>by cases h
 |[],_::_,_=>rfl
 |_::_,[],h=>by cases h
 | x::a,y::b,h=>by
  rw[HT.dR]at h ⊢
  by_cases e:x=y
  ·rw[if_pos e]at h
   rw[if_pos e.symm]
   exact kB h
  ·rw[if_neg e]at h
   rw[if_neg (Ne.symm e)]
   have:=of_decide_eq_true h
   exact decide_eq_false (by lia)
theorem pO:∀{a b:List Int},a≠b->HT.lexLt a b=false->HT.lexLt b a=true
 |[],[],h,_=>(h rfl).elim
 |[],_::_,_,h=>by cases h
 |_::_,[],_,_=>rfl
 | x::a,y::b,hne,h=>by
  rw[HT.dR]at h ⊢
  by_cases e:x=y
  ·rw[if_pos e]at h
   rw[if_pos e.symm]
   exact pO (λz=>hne (by rw[e,z])) h
  ·rw[if_neg e]at h
   rw[if_neg (Ne.symm e)]
   have:=of_decide_eq_false h
   exact decide_eq_true (by lia)
theorem mJ:∀{a b c:List Int},HT.lexLt a b=true->HT.lexLt b c=true->HT.lexLt a c=true
 |[],_,[],h1,h2=>by
  rename_i b
  cases b
  ·exact h1
  ·cases h2
 |[],_,_::_,_,_=>rfl
 |_::_,[],_,h,_=>by cases h
 |_::_,_::_,[],_,h=>by cases h
 | x::a,y::b,z::c,h1,h2=>by
  rw[HT.dR]at h1 h2 ⊢
  by_cases e1:x=y
  ·rw[if_pos e1]at h1
   by_cases e2:y=z
   ·rw[if_pos e2]at h2
    rw[if_pos (e1.trans e2)]
    exact mJ h1 h2
   ·rw[if_neg e2]at h2
    rw[if_neg (by rw[e1];exact e2),e1]
    exact h2
  ·rw[if_neg e1]at h1
   by_cases e2:y=z
   ·rw[if_pos e2]at h2
    rw[if_neg (by rw[<-e2];exact e1),<-e2]
    exact h1
   ·rw[if_neg e2]at h2
    have p:=of_decide_eq_true h1
    have q:=of_decide_eq_true h2
    rw[if_neg (by lia)]
    exact decide_eq_true (by lia)
section
variable{prog:Program}{w:World}{A:Around}{E:Value->Shared->Prop}{s:Shared}
theorem IR{b:Bool}{Q:Bool->Shared->Prop}:∀{ns ms:List Int}{vs us:List Value}(i:Nat),Vals (ns.map V.int) vs->Vals (ms.map V.int) us->ns.length=ms.length->Q (HT.lexLt ns ms) s->
  PySem.W.KatLex prog w A b false Q (vs.zip us) i s
 |[],[],_,_,_,.nil,.nil,_,q=>q
 |[],_::_,_,_,_,_,_,h,_=>by simp at h
 |_::_,[],_,_,_,_,_,h,_=>by simp at h
 | n::ns,m::ms,_,_,i,.cons r1 t1,.cons r2 t2,h,q=>by
  obtain⟨t,rfl⟩:=r1
  obtain⟨u,rfl⟩:=r2
  rw[zip_cons_cons]
  refine PySem.W.kat_cons (SeqAt.EqAt.int_int n t m u prog w _ _ ?_)
  rw[HT.dR]at q
  by_cases e:n=m
  ·rw[if_pos e]at q
   rw[show(n==m)=true by simpa using e]
   exact PySem.W.kat_yes (IR (i+1) t1 t2 (by simpa using h) q)
  ·rw[if_neg e]at q
   rw[show(n==m)=false by simpa using e]
   refine PySem.W.kat_no ?_
   cases hb:(b&&i==0) with
   |true=>exact oneLt_int q
   |false=>exact PySem.W.kat_one _ _ (lt_int (show PySem.W.BoolBack Q (.bool (decide (n<m))) s from q))
theorem IQ{b:Bool}{Q:Bool->Shared->Prop}{ns ms:List Int}:∀{ps:List Str}{vs us:List Value}(i:Nat),Vals (ps.map V.str++ns.map V.int) vs->Vals (ps.map V.str++ms.map V.int) us->ns.length=ms.length->Q (HT.lexLt ns ms) s->
  PySem.W.KatLex prog w A b false Q (vs.zip us) i s
 |[],_,_,i,h1,h2,h,q=>IR i h1 h2 h q
 |p::ps,_,_,i,.cons r1 t1,.cons r2 t2,h,q=>by
  obtain⟨t,rfl⟩:=r1
  obtain⟨u,rfl⟩:=r2
  rw[zip_cons_cons]
  refine PySem.W.kat_cons (SeqAt.EqAt.str_str p t p u prog w _ _ ?_)
  rw[beq_self_eq_true]
  exact PySem.W.kat_yes (IQ (i+1) t1 t2 h q)
end
noncomputable def cT(ps:List Str)(ns:List Int):PyData:=.tuple (ps.map .str++ns.map .int)
theorem IsAll.preInts{H:Hp}{ns:List Int}:∀{ps:List Str}{vs:List V},IsAll H vs (ps.map PyData.str++ns.map PyData.int)->vs=ps.map V.str++ns.map V.int
 |[],_,h=>h.of_ints
 |p::ps,_,h=>by
  rw[map_cons,List.cons_append]at h
  cases h with
  |cons h1 t=>
  cases h1
  have:=IsAll.preInts (ps:=ps) t
  rw[this]
  rfl
theorem pS{h:Heap}{G:Value->Prop}:∀(its:List Value),(∀(i:Nat)u,its[i]? =some u->∃(a:Addr)(o:Obj)(zs:Array Value)(n:Nat)(f:Value),u=.ref a/\h.get? a=some o/\o.cls=.type "tuple"/\o.data=.seq zs n/\zs[0]? =some f/\G f)->
  ∃fs,PySem.W.KatTups h its fs/\fs.length=its.length/\∀v∈fs,G v
 |[],_=>⟨[],PySem.W.KatTups.nil,rfl,λ_ h=>nomatch h⟩
 |u::its,hi=>by
  obtain⟨fs,t,l,g⟩:=pS its λi u e=>hi (i+1) u (by simpa using e)
  obtain⟨a,o,zs,n,f,rfl,h1,h2,h3,h4,h5⟩:=hi 0 u rfl
  refine⟨f::fs,PySem.W.KatTups.cons h1 h2 h3 h4 t,by simp[l],λv hv=>?_⟩
  rcases mem_cons.mp hv with rfl|hv
  ·exact h5
  ·exact g v hv
theorem xI{α:Type}(d:α)(l:List α):(range l.length).map (λi=>l.getD i d)=l:=by
 apply List.ext_getElem?
 intro i
 rw[List.getElem?_map]
 by_cases h:i<l.length
 ·rw[List.getElem?_range h]
  simp[h]
 ·rw[List.getElem?_eq_none (by simpa using h),List.getElem?_eq_none (by simpa using h)]
  rfl
section
variable{X:Cx}
noncomputable def uY(K:PySem.W.Frag):List V->Hp->VK->Prop:=λxs H Q=>∃(p:Addr)(vs:List V)(ps:List Str)(nss:List (List Int))(k:Nat),xs=[.ref p]/\(SqL K H p vs\/SqT K H p vs)/\IsAll H vs (nss.map (cT ps))/\(∀ns∈nss,ns.length=k)/\0<ps.length+k/\nss.Nodup/\nss.length<64/\
 ∀(l:Addr)(vs':List V)(nss':List (List Int)),H l=none->IsAll H vs' (nss'.map (cT ps))->nss'.Perm nss->nss'.Pairwise (λa b=>HT.lexLt a b=true)->Q (.ref l) (upd H l (.lst vs'))
theorem Z7:CallR X (.builtin "sorted") (uY X.K):=by
 intro pins s σ H xs us Q I r h
 obtain⟨p,vs,ps,nss,k,rfl,hq,ha,hk,hpos,hnd,h64,q⟩:=h
 obtain⟨u,rfl,rx⟩:=Vals.one r
 cases(show u=Value.ref p from rx)
 obtain⟨its,rv,hl,hz⟩:∃its,Vals vs its/\Col X.prog X.w s p its/\vs.length<=sizeLine:=by
  rcases hq with hq|hq
  ·obtain⟨its,rv,pl,hz⟩:=I.list hq
   exact⟨its,rv,Col.list pl.isList (by rw[<-rv.length];exact hz),hz⟩
  ·obtain⟨its,rv,pl,hz⟩:=I.tuple hq
   exact⟨its,rv,Col.tup pl (by rw[<-rv.length];exact hz),hz⟩
 have e1:vs.length=nss.length:=by rw[ha.length,length_map]
 have e2:its.length=nss.length:=by rw[<-rv.length,e1]
 by_cases h2:its.length<2
 ·refine sP hl h2 λD h' n hD hkeep ho=>?_
  refine⟨.ref D,_,I.laid (t':=s.toks) (o:=.lst vs) hkeep hD ⟨hz,its,n,rv,ho⟩,rfl,q D vs nss (I.hok.fresh hD) ha (List.Perm.refl _) ?_⟩
  match nss,e2,h2 with
  |[],_,_=>exact .nil
  |[a],_,_=>exact pairwise_singleton _ _
  |a::b::r,e2,h2=>simp at e2;lia
 ·obtain⟨m,F⟩:=I.fr
  refine OC F (news:=kL X.base s.heap X.env.locals) xB hl (by lia) (by lia) λD e0 h' F' N' hD=>?_
  have hkeep:∀b o,b≠X.env.locals->s.heap.get? b=some o->h'.get? b=some o:=λb o hb e=>by
   cases qb:X.base.get? b with
   |some u=>
    have:=I.bk b u qb
    rw[e]at this;cases this
    exact F'.keep b _ qb
   |none=>exact(N' (b,o) (mem_cons_of_mem _ (iZ hb qb e))).1
  have item:∀(i:Nat)(ns:List Int),nss[i]? =some ns->∃(a:Addr)(o:Obj)(zs:List Value)(n:Nat),its.getD i Value.none=.ref a/\h'.get? a=some o/\o.cls=.type "tuple"/\o.data=.seq zs.toArray n/\Vals (ps.map V.str++ns.map V.int) zs:=λi ns e=>by
   obtain⟨v,ev,iv⟩:=ha.get (i:=i) (d:=cT ps ns) (by rw[List.getElem?_map,e];rfl)
   obtain⟨u,eu,ru⟩:=rv.get ev
   unfold cT at iv
   cases iv with
   |@tup a xs _ ea hxs=>
    obtain rfl:=hxs.preInts
    obtain⟨zs,rz,⟨o,h1,h2,n,h3⟩,_⟩:=I.tuple (SqT.of ea)
    have hL:a≠X.env.locals:=λz=>by rw[z,I.free]at ea;cases ea
    refine⟨a,o,zs,n,?_,hkeep a o hL h1,h2,h3,rz⟩
    rw[List.getD_eq_getElem?_getD,eu]
    exact ru
  obtain⟨T,fs,tups,hfl,hT,hTT⟩:∃(T:String)(fs:List Value),PySem.W.KatTups h' its fs/\fs.length=its.length/\(∀v∈fs,typeOf v=pure (Value.type T))/\(Value.type T==Value.type T)=true:=by
   have go:∀T:String,(∀(ns:List Int)(zs:List Value),ns.length=k->Vals (ps.map V.str++ns.map V.int) zs->∃f,zs.toArray[0]? =some f/\typeOf f=pure (Value.type T))->
     ∃(fs:List Value),PySem.W.KatTups h' its fs/\fs.length=its.length/\(∀v∈fs,typeOf v=pure (Value.type T)):=λT hf=>
    pS its λi u eu=>by
     have hi:i<nss.length:=by rw[<-e2];exact(List.getElem?_eq_some_iff.mp eu).1
     obtain⟨a,o,zs,n,g1,g2,g3,g4,g5⟩:=item i nss[i] (List.getElem?_eq_getElem hi)
     rw[List.getD_eq_getElem?_getD,eu]at g1
     obtain⟨f,f1,f2⟩:=hf _ zs (hk _ (getElem_mem hi)) g5
     exact⟨a,o,zs.toArray,n,f,g1,g2,g3,g4,f1,f2⟩
   cases hps:ps with
   | nil=>
    obtain⟨fs,a,b,c⟩:=go "int" λns zs hn rz=>by
     subst hps
     match ns,zs,rz,hn with
     |[],_,_,hn=>simp at hpos;subst hn;simp at hpos
     |n::ns,_,.cons r _,_=>
      obtain⟨t,rfl⟩:=r
      exact⟨_,rfl,rfl⟩
    exact⟨"int",fs,a,b,c,rfl⟩
   | cons p1 pr=>
    obtain⟨fs,a,b,c⟩:=go "str" λns zs hn rz=>by
     subst hps
     match zs,rz with
     |_,.cons r _=>
      obtain⟨t,rfl⟩:=r
      exact⟨_,rfl,rfl⟩
    exact⟨"str",fs,a,b,c,rfl⟩
  refine PySem.W.kat_kind tups (by lia) (λv hv=>PySem.W.Looks.of_pure (hT v hv)) hTT ?_
  have S:lL (λi j=>HT.lexLt (nss.getD i []) (nss.getD j [])) its.length:=⟨λi j k _ _ _ a b=>mJ a b,λi j hi hj hne a=>pO (λz=>hne ?_) a,λi j _ _ a=>kB a⟩
  ·rw [e2]
   rw[e2]at S
   refine Run.wp (λi j C hi hj hC=>?_) (λpq hpq=>?_) (PF S (by lia))
   ·show wpAny _ _ (keyLt' _ (its.getD i Value.none) (its.getD j Value.none)) C _ _
    obtain⟨a,o,zs,n,g1,g2,g3,g4,g5⟩:=item i nss[i] (List.getElem?_eq_getElem hi)
    obtain⟨a',o',zs',n',g1',g2',g3',g4',g5'⟩:=item j nss[j] (List.getElem?_eq_getElem hj)
    rw[g1,g1']
    refine PySem.W.kat_lt g2 g4 g2' g4' ?_
    have hn1:=hk _ (getElem_mem hi)
    have hn2:=hk _ (getElem_mem hj)
    have ez:decide (zs.toArray.size<zs'.toArray.size)=false:=by
     have l1:=g5.length
     have l2:=g5'.length
     simp only[length_append,length_map]at l1 l2
     simp only[size_toArray]
     exact decide_eq_false (by lia)
    rw[ez]
    refine IQ 0 (by simpa using g5) (by simpa using g5') (by lia) ?_
    have e1':nss.getD i []=nss[i]:=by simp[hi]
    have e2':nss.getD j []=nss[j]:=by simp[hj]
    rw[<-e1',<-e2']
    exact hC
   ·obtain⟨P,up⟩:=hpq
    refine PySem.W.KasFin.intro F' N' (.head λx hx=>Nat.ne_of_lt (hD x hx)) λh'' c F'' N''=>?_
    have hnD:s.heap.get? D=none:=by
     cases qd:s.heap.get? D with
     |none=>rfl
     |some o=>
      have hh:=N' (D,_) mem_cons_self
      have hm:=hD (D,o) (iZ hh.2.1 hh.2.2 qd)
      exact absurd hm (Nat.lt_irrefl _)
    have hkeep2:∀b o,b≠X.env.locals->s.heap.get? b=some o->h''.get? b=some o:=λb o hb e=>by
     cases qb:X.base.get? b with
     |some u=>
      have:=I.bk b u qb
      rw[e]at this;cases this
      exact F''.keep b _ qb
     |none=>exact(N'' (b,o) (mem_cons_of_mem _ (iZ hb qb e))).1
    have hlt:∀x∈pq.toList,x<nss.length:=λx hx=>mem_range.mp (P.pm.mem_iff.mp hx)
    have rv2:∀l:List Nat,(∀x∈l,x<nss.length)->Vals (l.map λi=>vs.getD i .non) (l.map λi=>its.getD i Value.none)/\IsAll H (l.map λi=>vs.getD i .non) ((l.map λi=>nss.getD i []).map (cT ps)):=λl=>by
     induction l with
     |nil=>exact λ_=>⟨.nil,.nil⟩
     |cons x l ih=>
      intro hx
      obtain⟨ih1,ih2⟩:=ih λy hy=>hx y (mem_cons_of_mem _ hy)
      have hxn:=hx x mem_cons_self
      obtain⟨v,ev,iv⟩:=ha.get (i:=x) (d:=cT ps nss[x]) (by rw[List.getElem?_map,List.getElem?_eq_getElem hxn];rfl)
      obtain⟨u,eu,ru⟩:=rv.get ev
      have a1:vs.getD x .non=v:=by rw[List.getD_eq_getElem?_getD,ev];rfl
      have a2:its.getD x Value.none=u:=by rw[List.getD_eq_getElem?_getD,eu];rfl
      have a3:nss.getD x []=nss[x]:=by simp[hxn]
      simp only[map_cons,a1,a2,a3]
      exact⟨.cons ru ih1,.cons iv ih2⟩
    obtain⟨rv3,ia3⟩:=rv2 pq.toList hlt
    have ho:=(N'' (D,_) mem_cons_self).1
    have hpl:pq.toList.length=nss.length:=by rw[Array.length_toList];exact P.sz
    refine⟨.ref D,_,I.laidBut (t':=s.toks) hkeep2 F.ns F''.ns hnD rv3 (by rw[length_map,hpl,sizeLine_eq];lia) ho,rfl,q D _ _ (I.none_of hnD) ia3 ?_ ?_⟩
    ·have:=P.pm.map λi=>nss.getD i []
     rw[xI]at this
     exact this
    ·rw[pairwise_iff_getElem]
     intro i j hi hj hij
     simp only[length_map]at hi hj
     have:=up i j hij (by rw[<-hpl];exact hj)
     have z:∀x(hx:x<pq.toList.length),pq.getD x 0=pq.toList[x]:=λx hx=>by
      have hx':x<pq.size:=by simpa using hx
      simp[Array.getD,hx']
     rw[z i hi,z j hj]at this
     simpa using this
  ·rw[e2]at hi hj
   have e1':nss.getD i []=nss[i]:=by simp[hi]
   have e2':nss.getD j []=nss[j]:=by simp[hj]
   rw[e1',e2']at z
   exact(getElem_inj hnd).mp z
end
theorem iF:bootBuiltins "len"=some (.builtin "len"):=by decide +kernel
theorem eA:bootBuiltins "isinstance"=some (.builtin "isinstance"):=by decide +kernel
theorem AN:bootBuiltins "all"=some (.builtin "all"):=by decide +kernel
theorem qM:bootBuiltins "sorted"=some (.builtin "sorted"):=by decide +kernel
theorem aaS:bootBuiltins "max"=some (.builtin "max"):=by decide +kernel
theorem aaW:bootBuiltins "abs"=some (.builtin "abs"):=by decide +kernel
theorem aaT:bootBuiltins "enumerate"=some (.type "enumerate"):=by decide +kernel
theorem iE:bootBuiltins "tuple"=some (.type "tuple"):=by decide +kernel
theorem AM:bootBuiltins "list"=some (.type "list"):=by decide +kernel
theorem qN:bootBuiltins "int"=some (.type "int"):=by decide +kernel
theorem aaV:bootBuiltins "bool"=some (.type "bool"):=by decide +kernel
theorem aaR:bootBuiltins "str"=some (.type "str"):=by decide +kernel
theorem aaU:bootBuiltins "dict"=some (.type "dict"):=by decide +kernel
theorem o0{X:Cx}{x:Str}{n:Int}{pos:Pos}(hg:Gl X x)(hm:∃tk,X.mg x=some (.int n tk))(hd:(x==("__debug__":Str))=false:=by decide):PE X (.Name x pos) (tC (.int n)):=
 λ_ _ _ H _ I h=>let⟨tk,e⟩:=hm;kC I hg e ⟨.int n,H,I,⟨tk,rfl⟩,h⟩ hd
noncomputable def mB(K:PySem.W.Frag):R2:=λx y H Q=>∃p xs i v,x=.ref p/\y=.int i/\(SqL K H p xs\/SqT K H p xs)/\eN xs i=some v/\Q v H
theorem X3{X:Cx}:IxR X (mB X.K):=by
 intro value slice pins s σ H x y v u Q I rx ry h hs
 obtain⟨p,xs,i,w,e1,e2,hq,ha,q⟩:=h
 rcases hq with hq|hq
 ·exact X2 value slice pins s σ H x y v u Q I rx ry ⟨p,xs,i,w,e1,e2,hq,ha,q⟩ hs
 ·exact X1 value slice pins s σ H x y v u Q I rx ry ⟨p,xs,i,w,e1,e2,hq,ha,q⟩ hs
noncomputable def kW:List V->Hp->VK->Prop:=λxs H Q=>∃x T d,xs=[x,.ty T]/\T∈(["bool","int","tuple","list","str","dict"]:List String)/\Is H x d/\Q (.bl (i9 T d)) H
noncomputable def l9(K:PySem.W.Frag):List V->Hp->VK->Prop:=λxs H Q=>∃p ys,xs=[.ref p]/\(SqL K H p ys\/SqT K H p ys)/\Q (.int ys.length) H
noncomputable def u0(K:PySem.W.Frag):List V->Hp->VK->Prop:=λxs H Q=>∃(p:Addr)(bs:List Bool),xs=[.ref p]/\SqL K H p (bs.map V.bl)/\Q (.bl (bs.all id)) H
noncomputable def R8(K:PySem.W.Frag):List V->Hp->VK->Prop:=λxs H Q=>∃(p:Addr)(bs:List Bool),xs=[.ref p]/\SqL K H p (bs.map V.bl)/\Q (.bl (bs.any id)) H
noncomputable def GH:R2:=λx y H Q=>y=.non/\Q (.bl (decide (x=.non))) H
noncomputable def GF:R2:=λx y H Q=>y=.non/\Q (.bl (!decide (x=.non))) H
section
variable{X:Cx}
theorem kH:CallR X (.builtin "isinstance") kW:=aaD
theorem aaN:CallR X (.builtin "len") (l9 X.K):=aaC
theorem aaO(hc:X.calm=true):CallR X (.builtin "all") (u0 X.K):=aaI hc
theorem kY:OpR X (compareOp .Is) GH:=S6
theorem wZ:OpR X (compareOp .IsNot) GF:=S3
noncomputable def uX(K:PySem.W.Frag):List V->Hp->VK->Prop:=λxs H Q=>∃p ys,xs=[.ref p]/\((SqL K H p ys/\∀l,H l=none->Q (.ref l) (upd H l (.tup ys)))\/(SqT K H p ys/\Q (.ref p) H))
noncomputable def oO(K:PySem.W.Frag):List V->Hp->VK->Prop:=λxs H Q=>∃p ys,xs=[.ref p]/\(SqL K H p ys\/SqT K H p ys)/\∀l,H l=none->Q (.ref l) (upd H l (.lst ys))
theorem aaM:CallR X (.type "list") (oO X.K):=aaB
theorem aaK:CallR X (.type "tuple") (uX X.K):=Z6
noncomputable def GG:List V->Hp->VK->Prop:=λxs H Q=>∃i j:Int,xs=[.int i,.int j]/\Q (.int (if j>i then j else i)) H
theorem aaL(hc:X.calm=true):CallR X (.builtin "max") GG:=aaA hc
noncomputable def GI:List V->Hp->VK->Prop:=λxs H Q=>(∃i,xs=[.int i]/\Q (.int i) H)\/∃k,xs=[.bl k]/\Q (.int (if k then 1 else 0)) H
theorem AK:CallR X (.type "int") GI:=aaF
end
@[reducible] def isBoolD:PyData->Bool| .bool _=>true|_=>false
@[reducible] def isIntD:PyData->Bool| .bool _=>true| .int _=>true|_=>false
@[reducible] def isTupD:PyData->Bool| .tuple _=>true|_=>false
@[reducible] def isLstD:PyData->Bool| .list _=>true|_=>false
@[reducible] def isStrD:PyData->Bool| .str _=>true|_=>false
section
variable{σ:St}{H:Hp}{Q:VK}{D:eP}{K:PySem.W.Frag}
theorem QD{t u:TS}(h:t { D with nx:=u D } σ H):r6 t u D σ H:=h
theorem QO(h:D.nx σ H):DD D σ H:=h
theorem RA{c:TT}{t u:TS}(h:c σ H λb H1=>if b=true then t D σ H1 else u D σ H1):DF c t u D σ H:=h
theorem QF{te:TE}(h:te σ H D.rt):C7 te D σ H:=h
theorem RK{te:TE}(h:te σ H λ_ H1=>D.nx σ H1):DK te D σ H:=h
theorem RV{te:TE}{g:TG}(h:te σ H λx H1=>g x σ H1 D.nx):oA te g D σ H:=h
theorem FY{i:Nat}{v:V}{P:St->Hp->Prop}(h:P (σ.set i (some v)) H):kF i v σ H P:=h
theorem lZ{i:Nat}{v:V}(e:σ[i]? =some (some v))(h:Q v H):rZ i σ H Q:=⟨v,e,h⟩
theorem R0{v:V}(h:Q v H):tC v σ H Q:=h
theorem P6{te:TE}{P:Bool->Hp->Prop}(h:te σ H λx H'=>∃k,x=.bl k/\P k H'):C5 te σ H P:=h
theorem R1{te:TE}{P:Bool->Hp->Prop}(h:te σ H λx H'=>∃k,x=.bl k/\P k H'):tB te σ H P:=h
theorem RU{b:Bool}{P:Bool->Hp->Prop}(h:P b H):∃k,V.bl b=.bl k/\P k H:=⟨b,rfl,h⟩
theorem QJ{r:R2}{ta tb:TE}(h:ta σ H λx H1=>tb σ H1 λy H2=>r x y H2 Q):lU r ta tb σ H Q:=h
theorem P3{r:V->Hp->VK->Prop}{ta:TE}(h:ta σ H λx H1=>r x H1 Q):C3 r ta σ H Q:=h
theorem RZ{g:Int->Int->V}{i j:Int}(h:Q (g i j) H):iQ g (.int i) (.int j) H Q:=⟨i,j,rfl,rfl,h⟩
theorem e6{C:Int->Int->Prop}{g:Int->Int->V}{i j:Int}(hc:C i j)(h:Q (g i j) H):rI C g (.int i) (.int j) H Q:=⟨i,j,rfl,rfl,hc,h⟩
theorem RY{t u:TT}{P:Bool->Hp->Prop}(h:t σ H λc H1=>if c=true then u σ H1 P else P false H1):DP t u σ H P:=h
theorem QI{t u:TT}{P:Bool->Hp->Prop}(h:t σ H λc H1=>if c=true then P true H1 else u σ H1 P):DA t u σ H P:=h
theorem QM{t:TT}{P:Bool->Hp->Prop}(h:t σ H λc H1=>P (!c) H1):DB t σ H P:=h
theorem RX{ta tb:TE}(h:ta σ H λx H1=>∃c,x=.bl c/\if c=true then tb σ H1 Q else Q (.bl false) H1):DO ta tb σ H Q:=h
theorem QH{ta tb:TE}(h:ta σ H λx H1=>∃c,x=.bl c/\if c=true then Q (.bl true) H1 else tb σ H1 Q):NR ta tb σ H Q:=h
theorem QK{ta:TE}(h:ta σ H λx H1=>∃c,x=.bl c/\Q (.bl (!c)) H1):NS ta σ H Q:=h
theorem RT{b:Bool}{P:Bool->Prop}(h:P b):∃c,V.bl b=.bl c/\P c:=⟨b,rfl,h⟩
theorem QN{P:List V->Hp->Prop}(h:P [] H):n9 σ H P:=h
theorem RM{ta:TE}{tr:TA}{P:List V->Hp->Prop}(h:ta σ H λx H1=>tr σ H1 λxs H2=>P (x::xs) H2):DM ta tr σ H P:=h
theorem P5{t:TA}(h:t σ H λxs H1=>xs.length<=sizeLine/\∀p,H1 p=none->Q (.ref p) (upd H1 p (.tup xs))):C4 t σ H Q:=h
theorem QV{t:TA}(h:t σ H λxs H1=>xs.length<=sizeLine/\∀p,H1 p=none->Q (.ref p) (upd H1 p (.lst xs))):DE t σ H Q:=h
theorem RP{sp:Sp}{dvs:List V}{E:XK}{t:TA}(h:t σ H λvs H1=>sp (vs++dvs) H1 Q E):sC sp dvs E t σ H Q:=h
theorem RO{r:List V->Hp->VK->Prop}{t:TA}(h:t σ H λvs H1=>r vs H1 Q):sD r t σ H Q:=h
theorem l0{p:Addr}{xs:List V}{i:Int}{v:V}(e:H p=some (.tup xs))(a:eN xs i=some v)(h:Q v H):mB K (.ref p) (.int i) H Q:=⟨p,xs,i,v,rfl,rfl,.inr (SqT.of e),a,h⟩
theorem cA{p:Addr}{xs:List V}{i:Int}{v:V}(e:H p=some (.lst xs))(a:eN xs i=some v)(h:Q v H):mB K (.ref p) (.int i) H Q:=⟨p,xs,i,v,rfl,rfl,.inl (SqL.of e),a,h⟩
theorem RN{r r':R2}{ta tb tc:TE}(h:ta σ H λx H1=>tb σ H1 λy H2=>r x y H2 λz H3=>∃k,z=.bl k/\(if k=true then tc σ H3 λw' H4=>r' y w' H4 Q else Q (.bl false) H3)):DN r r' ta tb tc σ H Q:=h
theorem fK{b:Bool}{A B:Prop}(h:b=true)(x:A):if b=true then A else B:=by rw[if_pos h];exact x
theorem bQ{b:Bool}{A B:Prop}(h:b=false)(x:B):if b=true then A else B:=by rw[if_neg (by rw[h];exact Bool.false_ne_true)];exact x
theorem bW{b:Bool}{A B:Prop}(h1:b=true->A)(h0:b=false->B):if b=true then A else B:=by
 cases b with
 |true=>rw[if_pos rfl];exact h1 rfl
 |false=>rw[if_neg Bool.false_ne_true];exact h0 rfl
theorem Q3{x:V}(h:Q (.bl (decide (x=.non))) H):GH x .non H Q:=⟨rfl,h⟩
theorem QL{x:V}(h:Q (.bl (!decide (x=.non))) H):GF x .non H Q:=⟨rfl,h⟩
theorem Q6{x:V}{d:PyData}(hx:Is H x d)(h:Q (.bl (isBoolD d)) H):kW [x,.ty "bool"] H Q:=⟨x,"bool",d,rfl,by decide,hx,by cases d <;> exact h⟩
theorem Q5{x:V}{d:PyData}(hx:Is H x d)(h:Q (.bl (isIntD d)) H):kW [x,.ty "int"] H Q:=⟨x,"int",d,rfl,by decide,hx,by cases d <;> exact h⟩
theorem Q1{x:V}{d:PyData}(hx:Is H x d)(h:Q (.bl (isTupD d)) H):kW [x,.ty "tuple"] H Q:=⟨x,"tuple",d,rfl,by decide,hx,by cases d <;> exact h⟩
theorem Q4{x:V}{d:PyData}(hx:Is H x d)(h:Q (.bl (isLstD d)) H):kW [x,.ty "list"] H Q:=⟨x,"list",d,rfl,by decide,hx,by cases d <;> exact h⟩
theorem Q2{x:V}{d:PyData}(hx:Is H x d)(h:Q (.bl (isStrD d)) H):kW [x,.ty "str"] H Q:=⟨x,"str",d,rfl,by decide,hx,by cases d <;> exact h⟩
theorem YI{A B:Prop}(h:B):if(!true)=true then A else B:=mM h
theorem YJ{A B:Prop}(h:A):if(!false)=true then A else B:=mL h
theorem oK{p:Addr}{bs:List Bool}(e:H p=some (.lst (bs.map V.bl)))(h:Q (.bl (bs.all id)) H):u0 K [.ref p] H Q:=⟨p,bs,rfl,SqL.of e,h⟩
theorem RW{p:Addr}{bs:List Bool}(e:H p=some (.lst (bs.map V.bl)))(h:Q (.bl (bs.any id)) H):R8 K [.ref p] H Q:=⟨p,bs,rfl,SqL.of e,h⟩
theorem QS{i j:Int}(h:Q (.int (if j>i then j else i)) H):GG [.int i,.int j] H Q:=⟨i,j,rfl,h⟩
theorem Q7{k:Bool}(h:Q (.int (if k then 1 else 0)) H):GI [.bl k] H Q:=.inr ⟨k,rfl,h⟩
theorem P4{p:Addr}{ys:List V}(e:H p=some (.lst ys))(h:∀l,H l=none->Q (.ref l) (upd H l (.tup ys))):uX K [.ref p] H Q:=⟨p,ys,rfl,.inl ⟨SqL.of e,h⟩⟩
theorem bV{neg:Bool}{x y:V}{d e:PyData}(hx:Is H x d)(hy:Is H y e)(od:bY d)(oe:bY e)(h:Q (.bl (if neg then !PyData.eqv d e else PyData.eqv d e)) H):jN neg x y H Q:=⟨d,e,hx,hy,od,oe,h⟩
theorem RH{x y:Int}(h:Q (.bl (x==y)) H):jN false (.int x) (.int y) H Q:=⟨.int x,.int y,.int x,.int y,⟨rfl,Nat.zero_le _⟩,⟨rfl,Nat.zero_le _⟩,h⟩
theorem QP{x y:Int}(h:Q (.bl (!(x==y))) H):jN true (.int x) (.int y) H Q:=⟨.int x,.int y,.int x,.int y,⟨rfl,Nat.zero_le _⟩,⟨rfl,Nat.zero_le _⟩,h⟩
theorem RI{x y:Bool}(h:Q (.bl (x==y)) H):jN false (.bl x) (.bl y) H Q:=⟨.bool x,.bool y,.bl x,.bl y,⟨rfl,Nat.zero_le _⟩,⟨rfl,Nat.zero_le _⟩,h⟩
theorem QQ{x y:Bool}(h:Q (.bl (!(x==y))) H):jN true (.bl x) (.bl y) H Q:=⟨.bool x,.bool y,.bl x,.bl y,⟨rfl,Nat.zero_le _⟩,⟨rfl,Nat.zero_le _⟩,h⟩
theorem uV{neg:Bool}{x y:V}{d:PyData}{ds:List PyData}(hx:Is H x d)(hy:Is H y (.tuple ds))(od:bY d)(oe:pC ds)(h:Q (.bl (if neg then !gA d ds else gA d ds)) H):mC neg x y H Q:=⟨d,ds,hx,.inl hy,od,oe,h⟩
theorem QW{p:Addr}{xs:List V}(e:H p=some (.tup xs))(h:Q (.int xs.length) H):l9 K [.ref p] H Q:=⟨p,xs,rfl,.inr (SqT.of e),h⟩
theorem QX{p:Addr}{xs:List V}(e:H p=some (.lst xs))(h:Q (.int xs.length) H):l9 K [.ref p] H Q:=⟨p,xs,rfl,.inl (SqL.of e),h⟩
end
section
variable{σ:St}{H:Hp}{Q:VK}{D:eP}{K:PySem.W.Frag}{R:It->Hp->Prop}
theorem RE{wi:TI}{g:TG}{tb:TS}(h:wi σ H λJ H1=>∃W:Nat->Nat->St->Hp->Prop,(∃m,W 0 m σ H1)/\∀i m σ H,W i m σ H->
 (J.stop i H/\D.nx σ H)\/(J.go i H/\∃N:St->Hp->Prop,(∀σ' H',N σ' H'->∃m',m'<m/\W (i+1) m' σ' H')/\∀x H',J.yld i H x H'->g x σ H' λσ2 H2=>tb { D with nx:=N,ct:=N,bk:=D.nx } σ2 H2)):DI wi g tb D σ H:=h
theorem QY{wi:TI}{fm:List (Option Nat)}{g:TG}{tt:TT}{te:TE}(h:wi σ H λJ H1=>∃W:Nat->Nat->List V->Hp->Prop,(∃m,W 0 m [] H1)/\∀i m ys H,W i m ys H->
 (J.stop i H/\∀p,H p=none->Q (.ref p) (upd H p (.lst ys)))\/
 (J.go i H/\ys.length<sizeLine/\∃N:List V->Hp->Prop,(∀ys' H',N ys' H'->∃m',m'<m/\W (i+1) m' ys' H')/\
  ∀x H',J.yld i H x H'->g x (eK fm σ) H' λσ2 H2=>tt σ2 H2 λok H3=>if ok=true then te σ2 H3 λv H4=>N (ys++[v]) H4 else N ys H3)):sB wi fm g tt te σ H Q:=h
theorem QE{ta:TA}(h:ta σ H λvs H1=>∃j:Int,vs=[.int j]/\-(2^62)<=j/\j<2^62/\R (iK 0 j.toNat) H1):JE ta σ H R:=h
theorem QZ{tl:TE}(h:tl σ H λx H1=>∃a,x=.ref a/\(∃xs,SqT K H1 a xs)/\R (jH K a) H1):yB K tl σ H R:=h
theorem Q9{tl:TE}(h:tl σ H λx H1=>∃a,x=.ref a/\(∃xs,SqL K H1 a xs)/\R (jI K a) H1):yC K tl σ H R:=h
theorem P1{P:Bool->Hp->Prop}(h:P true H):CZ σ H P:=h
theorem iP{n:Nat}{t:fP}{a:Addr}{xs:List V}{P:St->Hp->Prop}(e:H a=some (.tup xs))(l:xs.length=n)(h:t xs σ H P):qC K n t (.ref a) σ H P:=⟨a,xs,rfl,SqT.of e,l,h⟩
theorem FZ{t:TG}{u:fP}{v:V}{r:List V}{P:St->Hp->Prop}(h:t v σ H λσ' H'=>u r σ' H' P):yR t u (v::r) σ H P:=⟨v,r,rfl,h⟩
theorem FX{P:St->Hp->Prop}(h:P σ H):yQ [] σ H P:=⟨rfl,h⟩
end
theorem Same.upd{H:Hp}{l:Addr}{o:HO}(h:H l=none):Same H (upd H l o):=λb u e=>by rw[aE (aI e h)];exact e
theorem Same.tup{H H':Hp}(e:Same H H'){a:Addr}{xs:List V}(h:H a=some (.tup xs)):H' a=some (.tup xs):=e _ _ h
section
variable{X:Cx}
theorem aO(K:PySem.W.Frag)(h:X.K=K:=by rfl):IxR X (mB K):=h▸X3
theorem hX(K:PySem.W.Frag)(h:X.K=K:=by rfl):CallR X (.builtin "len") (l9 K):=h▸aaN
theorem x8(K:PySem.W.Frag)(hc:X.calm=true:=by rfl)(h:X.K=K:=by rfl):CallR X (.builtin "all") (u0 K):=h▸aaO hc
theorem lC(K:PySem.W.Frag)(h:X.K=K:=by rfl):CallR X (.type "tuple") (uX K):=h▸aaK
theorem xZ(K:PySem.W.Frag)(h:X.K=K:=by rfl):CallR X (.type "list") (oO K):=h▸aaM
theorem XT(K:PySem.W.Frag)(h:X.K=K:=by rfl):CallR X (.builtin "sorted") (uY K):=h▸Z7
theorem XW(K:PySem.W.Frag)(hu:X.A.units<cLine)(h:X.K=K:=by rfl):OpR X (compareOp .Lt) (uZ K):=h▸S4 hu
theorem xY(K:PySem.W.Frag)(h:X.K=K:=by rfl):SlR X (l7 K):=h▸OH
theorem i7(K:PySem.W.Frag){tg l:Expr}{tl:TE}(hl:PE X l tl)(h:X.K=K:=by rfl):PI X tg l (yB K tl):=h▸SO hl
theorem pT(K:PySem.W.Frag){tg l:Expr}{tl:TE}(hl:PE X l tl)(h:X.K=K:=by rfl):PI X tg l (yC K tl):=h▸SQ hl
theorem i8(K:PySem.W.Frag){pos:Pos}{es:List Expr}{k:Nat}{t:fP}{n:Nat}(hc:X.calm=true)(hh:nP X es t)
  (hn:(assignEach es X.env).length=n:=by rfl) (hst:(assignEach es X.env).findIdx? (·.1)=none:=by rfl) (h:X.K=K:=by rfl):PG X (.Tuple es k pos) (qC K n t):=h▸SS hc hh hn hst
theorem fH(K:PySem.W.Frag){o e:Expr}{es:List Expr}{to:TE}{t:TA}{name:Str}{apos cpos:Pos}{T id:String}{r:V->List V->Hp->VK->Prop}(pa:PlainAttrs T)(slot:Slot T name id)(hty:typeOf (.builtin id)=pure (.type "method_descriptor"))(hm:MtR X id r)(ho:PE X o to)(ha:PA X (e::es) t)
  (hbase:attributeBase o name X.env (eval o X.env)=eval o X.env:=by rfl)
  (hfew:((backTo cpos (starEach (e::es) X.env)).all (λx=> !x.1)&&(backToKw cpos (keywordEach [] X.env)).all (λx=>x.1.isSome)
   &&decide ((e::es).length+([]:List Keyword).length+(if([]:List Keyword).isEmpty then 0 else 1)<30))=true:=by rfl)
  (hline:(apos.endLine==cpos.line)=true:=by rfl) (hs:starEach (e::es) X.env=(false,eval e X.env)::starEach es X.env:=by rfl) (hplain:(backTo cpos (starEach es X.env)).any (·.1)=false:=by rfl) (h:X.K=K:=by rfl):
  PE X (.Call (.Attribute o name apos) (e::es) [] cpos) (sG K T r to t):=h▸SZ pa slot hty hm ho ha hbase hfew hline hs hplain
end
section
variable{σ:St}{H:Hp}{Q:VK}{D:eP}{K:PySem.W.Frag}
theorem QT{a b:Addr}{i j k l:Int}(h1:H a=some (.tup [.int i,.int j]))(h2:H b=some (.tup [.int k,.int l]))(h:Q (.bl (HT.lexLt [i,j] [k,l])) H):uZ K (.ref a) (.ref b) H Q:=
 ⟨a,b,[i,j],[k,l],rfl,rfl,SqT.of h1,SqT.of h2,h⟩
theorem RS{T:String}{r:V->List V->Hp->VK->Prop}{to:TE}{t:TA}(h:to σ H λx H1=>kQ K T x H1/\t σ H1 λxs H2=>r x xs H2 Q):sG K T r to t σ H Q:=h
theorem gJ{l:Addr}{xs:List V}{v:V}(e:H l=some (.lst xs))(hz:xs.length<sizeLine)(h:Q .non (upd H l (.lst (xs++[v])))):GS (.ref l) [v] H Q:=⟨l,xs,v,rfl,rfl,e,hz,h⟩
theorem eC{l:Addr}{xs:List V}(e:H l=some (.lst xs)):kQ K "list" (.ref l) H:=.inl ⟨rfl,_,SqL.of e⟩
end
theorem YF{A B:Prop}(h:A):if decide (V.non=V.non)=true then A else B:=by rw[decide_eq_true rfl];exact mL h
theorem YD{a:Addr}{A B:Prop}(h:B):if decide (V.ref a=V.non)=true then A else B:=by rw[decide_eq_false (λz=>nomatch z)];exact mM h
theorem YH{a:Int}{A B:Prop}(h:B):if decide (V.int a=V.non)=true then A else B:=by rw[decide_eq_false (λz=>nomatch z)];exact mM h
theorem YE{A B:Prop}(h:B):if(!decide (V.non=V.non))=true then A else B:=by rw[decide_eq_true rfl];exact mM h
theorem YC{a:Addr}{A B:Prop}(h:A):if(!decide (V.ref a=V.non))=true then A else B:=by rw[decide_eq_false (λz=>nomatch z)];exact mL h
theorem YG{a:Int}{A B:Prop}(h:A):if(!decide (V.int a=V.non))=true then A else B:=by rw[decide_eq_false (λz=>nomatch z)];exact mL h
section
variable{σ:St}{H:Hp}{Q:VK}{D:eP}
theorem P2{c:TT}{tb:TS}(h:∃W:Nat->St->Hp->Prop,(∃m,W m σ H)/\∀m σ H,W m σ H->c σ H λb H1=>if b=true then ∃N:St->Hp->Prop,(∀σ' H',N σ' H'->∃m',m'<m/\W m' σ' H')/\tb { D with nx:=N,ct:=N,bk:=D.nx } σ H1 else D.nx σ H1):C2 c tb D σ H:=h
theorem RD{to ti:TE}{t:qV}{v:V}{P:St->Hp->Prop}(h:to σ H λo H1=>ti σ H1 λi H2=>t o i v H2 λH3=>P σ H3):JM to ti t v σ H P:=h
theorem X4{n j:Nat}{k:Int}(hk:k=(j:Int))(hj:j<n):gM n k=some j:=by
 subst hk
 unfold gM
 rw[if_pos (Int.natCast_nonneg _),if_pos (by lia),Int.toNat_natCast]
theorem j2{p:Addr}{xs:List V}{k:Int}{j:Nat}{v:V}{P:Hp->Prop}(e:H p=some (.lst xs))(hk:k=(j:Int))(hj:j<xs.length)(h:P (upd H p (.lst (xs.set j v)))):GD (.ref p) (.int k) v H P:=⟨p,xs,k,j,rfl,rfl,e,X4 hk hj,h⟩
theorem FN{α:Type}(x:α):∀n:Nat,(replicate n [x]).flatten=replicate n x
 |0=>rfl
 |n+1=>by rw[replicate_succ,flatten_cons,FN x n];rfl
theorem uS{l:Addr}{v:V}{n:Nat}(e:H l=some (.lst [v]))(hn:n<=1000)(h:∀p,H p=none->Q (.ref p) (upd H p (.lst (replicate n v)))):GE (.ref l) (.int n) H Q:=
 ⟨l,n,[v],rfl,rfl,e,by lia,by lia,by rw[Int.toNat_natCast];have:=gH hn;simp;lia,λp hp=>by rw[Int.toNat_natCast,FN];exact h p hp⟩
end
section
variable{H:Hp}{K:PySem.W.Frag}
theorem pK{lo:Int}{n:Nat}{G:List V->Hp->Prop}{B:(List V->Hp->Prop)->List V->V->Hp->Prop}(hn:n<=sizeLine)(Pv:Nat->List V->Hp->Prop)(h0:Pv 0 [] H)(hlen:∀i ys H,Pv i ys H->ys.length<=i)
  (hs:∀i ys H,i<n->Pv i ys H->B (Pv (i+1)) ys (.int (lo+i)) H) (hd:∀ys H,Pv n ys H->G ys H):
  ∃W:Nat->Nat->List V->Hp->Prop,(∃m,W 0 m [] H)/\∀i m ys H,W i m ys H->((iK lo n).stop i H/\G ys H)\/((iK lo n).go i H/\ys.length<sizeLine/\
   ∃N:List V->Hp->Prop,(∀ys' H',N ys' H'->∃m',m'<m/\W (i+1) m' ys' H')/\∀x H',(iK lo n).yld i H x H'->B N ys x H'):=by
 refine⟨λi m ys H=>m=n-i/\i<=n/\Pv i ys H,⟨n,by simp,Nat.zero_le _,h0⟩,?_⟩
 rintro i m ys H ⟨rfl,hi,p⟩
 have hl:=hlen i ys H p
 by_cases hlt:i<n
 ·refine .inr ⟨hlt,by lia,Pv (i+1),λys' H' p'=>⟨n-(i+1),by lia,rfl,hlt,p'⟩,λx H' y=>?_⟩
  obtain⟨e,y⟩:=y
  subst e y
  exact hs i ys _ hlt p
 ·have e:i=n:=by lia
  subst e
  exact .inl ⟨Nat.le_refl _,hd ys H p⟩
theorem pJ{a:Addr}{xs:List V}{G:List V->Hp->Prop}{B:(List V->Hp->Prop)->List V->V->Hp->Prop}(hn:xs.length<=sizeLine)(Pv:Nat->List V->Hp->Prop)(h0:Pv 0 [] H)(hlen:∀i ys H,Pv i ys H->ys.length<=i)
  (hl:∀i ys H,i<=xs.length->Pv i ys H->SqT K H a xs) (hs:∀i x ys H,xs[i]? =some x->Pv i ys H->B (Pv (i+1)) ys x H) (hd:∀ys H,Pv xs.length ys H->G ys H):
  ∃W:Nat->Nat->List V->Hp->Prop,(∃m,W 0 m [] H)/\∀i m ys H,W i m ys H->((jH K a).stop i H/\G ys H)\/((jH K a).go i H/\ys.length<sizeLine/\
   ∃N:List V->Hp->Prop,(∀ys' H',N ys' H'->∃m',m'<m/\W (i+1) m' ys' H')/\∀x H',(jH K a).yld i H x H'->B N ys x H'):=by
 refine⟨λi m ys H=>m=xs.length-i/\i<=xs.length/\Pv i ys H,⟨xs.length,by simp,Nat.zero_le _,h0⟩,?_⟩
 rintro i m ys H ⟨rfl,hi,p⟩
 have hly:=hlen i ys H p
 have q:=hl i ys H hi p
 by_cases hlt:i<xs.length
 ·refine .inr ⟨⟨xs,xs[i],q,by simp[hlt]⟩,by lia,Pv (i+1),λys' H' p'=>⟨xs.length-(i+1),by lia,rfl,hlt,p'⟩,λx H' y=>?_⟩
  obtain⟨e,y⟩:=y
  subst e
  exact hs i x ys _ (y xs q) p
 ·have e:i=xs.length:=by lia
  subst e
  exact .inl ⟨⟨xs,q,Nat.le_refl _⟩,hd ys H p⟩
theorem xS{a:Addr}{xs:List V}{G:List V->Hp->Prop}{B:(List V->Hp->Prop)->List V->V->Hp->Prop}(hn:xs.length<=sizeLine)(Pv:Nat->List V->Hp->Prop)(h0:Pv 0 [] H)(hlen:∀i ys H,Pv i ys H->ys.length<=i)
  (hl:∀i ys H,i<=xs.length->Pv i ys H->SqL K H a xs) (hs:∀i x ys H,xs[i]? =some x->Pv i ys H->B (Pv (i+1)) ys x H) (hd:∀ys H,Pv xs.length ys H->G ys H):
  ∃W:Nat->Nat->List V->Hp->Prop,(∃m,W 0 m [] H)/\∀i m ys H,W i m ys H->((jI K a).stop i H/\G ys H)\/((jI K a).go i H/\ys.length<sizeLine/\
   ∃N:List V->Hp->Prop,(∀ys' H',N ys' H'->∃m',m'<m/\W (i+1) m' ys' H')/\∀x H',(jI K a).yld i H x H'->B N ys x H'):=by
 refine⟨λi m ys H=>m=xs.length-i/\i<=xs.length/\Pv i ys H,⟨xs.length,by simp,Nat.zero_le _,h0⟩,?_⟩
 rintro i m ys H ⟨rfl,hi,p⟩
 have hly:=hlen i ys H p
 have q:=hl i ys H hi p
 by_cases hlt:i<xs.length
 ·refine .inr ⟨⟨xs,xs[i],q,by simp[hlt]⟩,by lia,Pv (i+1),λys' H' p'=>⟨xs.length-(i+1),by lia,rfl,hlt,p'⟩,λx H' y=>?_⟩
  obtain⟨e,y⟩:=y
  subst e
  exact hs i x ys _ (y xs q) p
 ·have e:i=xs.length:=by lia
  subst e
  exact .inl ⟨⟨xs,q,Nat.le_refl _⟩,hd ys H p⟩
theorem gN{σ:St}{lo:Int}{n:Nat}{G:St->Hp->Prop}{B:(St->Hp->Prop)->V->St->Hp->Prop}(Pv:Nat->St->Hp->Prop)(h0:Pv 0 σ H)(hs:∀i σ H,i<n->Pv i σ H->B (Pv (i+1)) (.int (lo+i)) σ H)(hd:∀σ H,Pv n σ H->G σ H):
  ∃W:Nat->Nat->St->Hp->Prop,(∃m,W 0 m σ H)/\∀i m σ H,W i m σ H->((iK lo n).stop i H/\G σ H)\/((iK lo n).go i H/\
   ∃N:St->Hp->Prop,(∀σ' H',N σ' H'->∃m',m'<m/\W (i+1) m' σ' H')/\∀x H',(iK lo n).yld i H x H'->B N x σ H'):=by
 refine⟨λi m σ H=>m=n-i/\i<=n/\Pv i σ H,⟨n,by simp,Nat.zero_le _,h0⟩,?_⟩
 rintro i m σ H ⟨rfl,hi,p⟩
 by_cases hlt:i<n
 ·refine .inr ⟨hlt,Pv (i+1),λσ' H' p'=>⟨n-(i+1),by lia,rfl,hlt,p'⟩,λx H' y=>?_⟩
  obtain⟨e,y⟩:=y
  subst e y
  exact hs i σ _ hlt p
 ·have e:i=n:=by lia
  subst e
  exact .inl ⟨Nat.le_refl _,hd σ H p⟩
theorem mX{σ:St}{a:Addr}{xs:List V}{G:St->Hp->Prop}{B:(St->Hp->Prop)->V->St->Hp->Prop}(Pv:Nat->St->Hp->Prop)(h0:Pv 0 σ H)(hl:∀i σ H,i<=xs.length->Pv i σ H->SqT K H a xs)
  (hs:∀i x σ H,xs[i]? =some x->Pv i σ H->B (Pv (i+1)) x σ H) (hd:∀σ H,Pv xs.length σ H->G σ H):
  ∃W:Nat->Nat->St->Hp->Prop,(∃m,W 0 m σ H)/\∀i m σ H,W i m σ H->((jH K a).stop i H/\G σ H)\/((jH K a).go i H/\
   ∃N:St->Hp->Prop,(∀σ' H',N σ' H'->∃m',m'<m/\W (i+1) m' σ' H')/\∀x H',(jH K a).yld i H x H'->B N x σ H'):=by
 refine⟨λi m σ H=>m=xs.length-i/\i<=xs.length/\Pv i σ H,⟨xs.length,by simp,Nat.zero_le _,h0⟩,?_⟩
 rintro i m σ H ⟨rfl,hi,p⟩
 have q:=hl i σ H hi p
 by_cases hlt:i<xs.length
 ·refine .inr ⟨⟨xs,xs[i],q,by simp[hlt]⟩,Pv (i+1),λσ' H' p'=>⟨xs.length-(i+1),by lia,rfl,hlt,p'⟩,λx H' y=>?_⟩
  obtain⟨e,y⟩:=y
  subst e
  exact hs i x σ _ (y xs q) p
 ·have e:i=xs.length:=by lia
  subst e
  exact .inl ⟨⟨xs,q,Nat.le_refl _⟩,hd σ H p⟩
theorem Y8{σ:St}{a:Addr}{xs:List V}{G:St->Hp->Prop}{B:(St->Hp->Prop)->V->St->Hp->Prop}(Pv:Nat->St->Hp->Prop)(h0:Pv 0 σ H)(hl:∀i σ H,i<=xs.length->Pv i σ H->SqL K H a xs)
  (hs:∀i x σ H,xs[i]? =some x->Pv i σ H->B (Pv (i+1)) x σ H) (hd:∀σ H,Pv xs.length σ H->G σ H):
  ∃W:Nat->Nat->St->Hp->Prop,(∃m,W 0 m σ H)/\∀i m σ H,W i m σ H->((jI K a).stop i H/\G σ H)\/((jI K a).go i H/\
   ∃N:St->Hp->Prop,(∀σ' H',N σ' H'->∃m',m'<m/\W (i+1) m' σ' H')/\∀x H',(jI K a).yld i H x H'->B N x σ H'):=by
 refine⟨λi m σ H=>m=xs.length-i/\i<=xs.length/\Pv i σ H,⟨xs.length,by simp,Nat.zero_le _,h0⟩,?_⟩
 rintro i m σ H ⟨rfl,hi,p⟩
 have q:=hl i σ H hi p
 by_cases hlt:i<xs.length
 ·refine .inr ⟨⟨xs,xs[i],q,by simp[hlt]⟩,Pv (i+1),λσ' H' p'=>⟨xs.length-(i+1),by lia,rfl,hlt,p'⟩,λx H' y=>?_⟩
  obtain⟨e,y⟩:=y
  subst e
  exact hs i x σ _ (y xs q) p
 ·have e:i=xs.length:=by lia
  subst e
  exact .inl ⟨⟨xs,q,Nat.le_refl _⟩,hd σ H p⟩
end
noncomputable def GN(K:PySem.W.Frag):R2:=λx y H Q=>∃p q ns,x=.ref p/\y=.ref q/\SqL K H p (ns.map V.int)/\SqL K H q []/\Q (.bl (decide (ns=[]))) H
theorem S9{X:Cx}(hu:X.A.units<cLine):OpR X (compareOp .Eq) (GN X.K):=by
 intro pins s σ H x y v u Q I rx ry h
 obtain⟨p,q,ns,rfl,rfl,h1,h2,hq⟩:=h
 cases(show v=Value.ref p from rx)
 cases(show u=Value.ref q from ry)
 obtain⟨its,r1,p1,_⟩:=I.list h1
 obtain⟨its2,r2,p2,_⟩:=I.list h2
 have e2:its2=[]:=by cases r2;rfl
 subst e2
 have hl:=r1.length
 rw[length_map]at hl
 match ns,hl with
 | [],hl=>
  have e1:its=[]:=by
   have:its.length=0:=by simpa using hl.symm
   exact List.length_eq_zero_iff.mp this
  subst e1
  exact SeqAt.eq_listAt (e:=λ_=>true) p1.isList p2.isList rfl hu (λj g _=>absurd g (Nat.not_lt_zero _)) ⟨.bl true,H,I,rfl,hq⟩
 |n::ns,hl=>
  refine SeqAt.eq_list_lengthsAt p1.isList p2.isList ?_ hu ⟨.bl false,H,I,rfl,hq⟩
  have:its.length=ns.length+1:=by simpa using hl.symm
  simp[this]
theorem XY{X:Cx}(K:PySem.W.Frag)(hu:X.A.units<cLine)(h:X.K=K:=by rfl):OpR X (compareOp .Eq) (GN K):=h▸S9 hu
section
variable{σ:St}{H:Hp}{Q:VK}{K:PySem.W.Frag}
theorem FU{p:Addr}{xs:List V}(e:SqL K H p xs)(h:Q (.int xs.length) H):l9 K [.ref p] H Q:=⟨p,xs,rfl,.inl e,h⟩
theorem FV{p:Addr}{xs:List V}{i:Int}{v:V}(e:SqL K H p xs)(a:eN xs i=some v)(h:Q v H):mB K (.ref p) (.int i) H Q:=⟨p,xs,i,v,rfl,rfl,.inl e,a,h⟩
theorem GA{l b:Addr}{xs zs:List V}(e:H l=some (.lst xs))(e2:H b=some (.lst zs))(hz:xs.length+zs.length<=sizeLine)(h:Q .non (upd H l (.lst (xs++zs)))):GM (.ref l) [.ref b] H Q:=⟨l,b,xs,zs,rfl,rfl,e,e2,hz,h⟩
end
noncomputable def Scr(K:PySem.W.Frag)(H:Hp)(a:Addr)(ns:List Int):Prop:=(∃o,H a=some (.frz o (.lst (ns.map V.int))))\/
 ∃(o:Obj)(its:Array Value)(n:Nat),K.lookup a=some o/\o.cls=.type "list"/\o.dict=none/\o.data=.seq its n/\its.size<=sizeLine/\Vals (ns.map V.int) its.toList
theorem Scr.sq{K:PySem.W.Frag}{H:Hp}{a:Addr}{ns:List Int}(h:Scr K H a ns):SqL K H a (ns.map V.int):=by
 rcases h with⟨o,h⟩|h
 ·exact .inl (.inr ⟨o,h⟩)
 ·exact .inr h
theorem Scr.of{K:PySem.W.Frag}{H:Hp}{a:Addr}{ns:List Int}(hO:qX H)(h:SqL K H a (ns.map V.int)):Scr K H a ns:=by
 rcases h with(h|⟨o,h⟩)|h
 ·rcases hO a with g|⟨o,xs,g⟩
  ·rw[g]at h;cases h
  ·rw[g]at h;cases h
 ·exact .inl ⟨o,h⟩
 ·exact .inr h
noncomputable def SameT(w:Addr)(H H':Hp):Prop:=∀b u,H b=some u->b≠w->H' b=some u
theorem SameT.refl(w:Addr)(H:Hp):SameT w H H:=λ_ _ h _=>h
theorem SameT.trans{w:Addr}{H H1 H2:Hp}(a:SameT w H H1)(b:SameT w H1 H2):SameT w H H2:=λc u h g=>b c u (a c u h g) g
theorem Same.t{w:Addr}{H H':Hp}(h:Same H H'):SameT w H H':=λb u e _=>h b u e
theorem Scr.t{K:PySem.W.Frag}{H H':Hp}{w a:Addr}{ns:List Int}{ts:List V}(hw:H w=some (.lst ts))(s:SameT w H H')(h:Scr K H a ns):Scr K H' a ns:=by
 rcases h with⟨o,h⟩|h
 ·exact .inl ⟨o,s _ _ h (dB h hw (by intro z;cases z))⟩
 ·exact .inr h
theorem Scr.same{K:PySem.W.Frag}{H H':Hp}{a:Addr}{ns:List Int}(s:Same H H')(h:Scr K H a ns):Scr K H' a ns:=by
 rcases h with⟨o,h⟩|h
 ·exact .inl ⟨o,s _ _ h⟩
 ·exact .inr h
noncomputable def GQ:R2:=λx y H Q=>∃a b xs ys,x=.ref a/\y=.ref b/\H a=some (.tup xs)/\H b=some (.tup ys)/\xs.length+ys.length<=sizeLine/\∀r H',Same H H'->H' r=some (.tup (xs++ys))->Q (.ref r) H'
theorem wQ{X:Cx}:OpR X (binaryOp .Add) GQ:=by
 intro pins s σ H x y v u Q I rx ry h
 obtain⟨a,b,xs,ys,rfl,rfl,ha,hb,hz,q⟩:=h
 by_cases hx:xs=[]
 ·subst hx
  cases(show v=Value.ref a from rx)
  cases(show u=Value.ref b from ry)
  obtain⟨its,r1,p1,_⟩:=I.tuple (SqT.of ha)
  obtain⟨its2,r2,p2,_⟩:=I.tuple (SqT.of hb)
  obtain⟨⟨cls,dd,data,sl⟩,ho,hc,n,hd⟩:=p1
  obtain⟨⟨cls2,dd2,data2,sl2⟩,ho2,hc2,n2,hd2⟩:=p2
  simp only at hc hd hc2 hd2
  subst hc hd hc2 hd2
  have e0:its=[]:=r1.nil_iff.mpr rfl
  exact concat_meets ⟨_,ho,rfl⟩ ⟨_,ho2,rfl⟩ noFill_tuple_add seq_tuple_add PySem.F.slot_tuple_add PySem.F.entry_tuple_add (PySem.F.args_tuple_add_2 _ _)
   (tuple_addW0 a b its.toArray its2.toArray n n2 dd dd2 sl sl2 (by simp[e0])) ⟨ho,ho2,⟨.ref b,H,I,rfl,q b H (Same.refl H) hb⟩⟩
 ·refine TB pins s σ H _ _ v u Q I rx ry ⟨a,b,xs,ys,rfl,rfl,SqT.of ha,SqT.of hb,hx,hz,λe=>?_,λe p hp=>?_⟩
  ·subst e
   exact q a H (Same.refl H) (by rw[append_nil];exact ha)
  ·exact q p _ (λb u e=>by rw[aE (aI e hp)];exact e) aB
section
variable{σ:St}{H:Hp}{Q:VK}{D:eP}{K:PySem.W.Frag}
theorem RC{t:TT}{ta tb:TE}(h:t σ H λc H1=>if c=true then ta σ H1 Q else tb σ H1 Q):DG t ta tb σ H Q:=h
theorem uW{a b:Addr}{xs ys:List V}(ha:H a=some (.tup xs))(hb:H b=some (.tup ys))(hz:xs.length+ys.length<=sizeLine)(h:∀r H',Same H H'->H' r=some (.tup (xs++ys))->Q (.ref r) H'):GQ (.ref a) (.ref b) H Q:=
 ⟨a,b,xs,ys,rfl,rfl,ha,hb,hz,h⟩
theorem GB{a b:Addr}{xs ys:List V}(ha:H a=some (.lst xs))(hb:H b=some (.lst ys))(hz:xs.length+ys.length<=sizeLine)(h:∀p,H p=none->Q (.ref p) (upd H p (.lst (xs++ys)))):GR (.ref a) (.ref b) H Q:=
 ⟨a,b,xs,ys,rfl,rfl,ha,hb,hz,h⟩
theorem FT{p:Addr}{ys:List V}(e:H p=some (.tup ys))(h:∀l,H l=none->Q (.ref l) (upd H l (.lst ys))):oO K [.ref p] H Q:=⟨p,ys,rfl,.inr (SqT.of e),h⟩
theorem QU{p:Addr}{ys:List V}(e:H p=some (.lst ys))(h:∀l,H l=none->Q (.ref l) (upd H l (.lst ys))):oO K [.ref p] H Q:=⟨p,ys,rfl,.inl (SqL.of e),h⟩
end
end L2
namespace Nt
section
variable{n:Nat}{R:Nat->Nat->Prop}
noncomputable def jJ(n:Nat)(R:Nat->Nat->Prop)(s:Int)(x:Nat->Int):Prop:=∀i j,i<n->j<n->(x j-x i>=s<->R i j)
noncomputable def NN(n:Nat)(x:Nat->Int):Prop:=∀i,i<n->0<=x i
structure TP (n:Nat) (R:Nat->Nat->Prop) (s:Int) (x:Nat->Int) (N:Nat) (v:Nat->Nat) (k:Nat->Bool):Prop where
 lt:∀t,t<=N->v t<n
 st:x (v 0)=0
 up:∀t,t<N->k t=true->R (v t) (v (t+1))/\x (v (t+1))=x (v t)+s
 dn:∀t,t<N->k t=false->¬R (v (t+1)) (v t)/\x (v (t+1))=x (v t)+1-s
noncomputable def D(k:Nat->Bool):Nat->Int
 |0=>0
 |t+1=>D k t+(if k t=true then 1 else -1)
noncomputable def Mc(k:Nat->Bool):Nat->Int
 |0=>0
 |t+1=>Mc k t+(if k t=true then 0 else 1)
theorem TP.val{s:Int}{x:Nat->Int}{N:Nat}{v:Nat->Nat}{k:Nat->Bool}(p:TP n R s x N v k):∀t,t<=N->x (v t)=D k t*s+Mc k t
 |0,_=>by rw[p.st];simp[D,Mc]
 | t+1,h=>by
  have ih:=p.val t (by lia)
  simp only[D,Mc]
  cases hk:k t with
  |true=>
   rw[(p.up t (by lia) hk).2,ih,if_pos rfl,if_pos rfl,Int.add_mul]
   lia
  |false=>
   rw[(p.dn t (by lia) hk).2,ih,if_neg Bool.false_ne_true,if_neg Bool.false_ne_true,Int.add_mul]
   lia
theorem TP.cut{s:Int}{x:Nat->Int}(hx:jJ n R s x){N:Nat}{v:Nat->Nat}{k:Nat->Bool}(p:TP n R s x N v k){a b:Nat}(hab:a<b)(hb:b<=N)(e:x (v a)=x (v b))(hbN:b<N):
  TP n R s x (N-(b-a)) (λt=>if t<=a then v t else v (t+(b-a))) (λt=>if t<a then k t else k (t+(b-a))) where
 lt:=λt ht=>by
  by_cases h:t<=a
  ·rw[if_pos h];exact p.lt t (by lia)
  ·rw[if_neg h];exact p.lt _ (by lia)
 st:=by rw[if_pos (Nat.zero_le _)];exact p.st
 up:=λt ht hk=>by
  by_cases h:t<a
  ·rw[if_pos h]at hk
   rw[if_pos (by lia),if_pos (by lia)]
   exact p.up t (by lia) hk
  ·rw[if_neg h]at hk
   have q:=p.up (t+(b-a)) (by lia) hk
   rw[if_neg (by lia:¬t+1<=a)]
   have e1:t+1+(b-a)=t+(b-a)+1:=by lia
   rw[e1]
   by_cases h2:t<=a
   ·have ta:t=a:=by lia
    subst ta
    rw[if_pos (Nat.le_refl _)]
    have eb:t+(b-t)=b:=by lia
    rw[eb]at q ⊢
    refine⟨?_,by rw[e];exact q.2⟩
    exact(hx _ _ (p.lt t (by lia)) (p.lt _ (by lia))).mp (by rw[q.2,e];lia)
   ·rw[if_neg h2];exact q
 dn:=λt ht hk=>by
  by_cases h:t<a
  ·rw[if_pos h]at hk
   rw[if_pos (by lia),if_pos (by lia)]
   exact p.dn t (by lia) hk
  ·rw[if_neg h]at hk
   have q:=p.dn (t+(b-a)) (by lia) hk
   rw[if_neg (by lia:¬t+1<=a)]
   have e1:t+1+(b-a)=t+(b-a)+1:=by lia
   rw[e1]
   by_cases h2:t<=a
   ·have ta:t=a:=by lia
    subst ta
    rw[if_pos (Nat.le_refl _)]
    have eb:t+(b-t)=b:=by lia
    rw[eb]at q ⊢
    refine⟨λhR=>q.1 ?_,by rw[e];exact q.2⟩
    have:=(hx _ _ (p.lt _ (by lia)) (p.lt t (by lia))).mpr hR
    exact(hx _ _ (p.lt _ (by lia)) (p.lt b (by lia))).mp (by rw[e]at this;exact this)
   ·rw[if_neg h2];exact q
theorem met(f:Nat->Int)(c:Int):∀m:Nat,f 0<c->c<=f m->(∀j,f (j+1)<=f j+1)->∃j,j<=m/\f j=c
 |0,h1,h2,_=>by lia
 | m+1,h1,h2,h3=>by
  by_cases h:c<=f m
  ·obtain⟨j,a,b⟩:=met f c m h1 h h3
   exact⟨j,by lia,b⟩
  ·have:=h3 m
   exact⟨m+1,Nat.le_refl _,by lia⟩
theorem ON{s:Int}(hs:1<=s){x:Nat->Int}(h:jJ n R s x)(hn:NN n x):jJ n R (s+1) (λi=>x i+x i/s)/\NN n (λi=>x i+x i/s):=by
 constructor
 ·intro i j hi hj
  rw[<-h i j hi hj]
  show x j+x j/s-(x i+x i/s)>=s+1<->x j-x i>=s
  have e:(x i+1*s)/s=x i/s+1:=Int.add_mul_ediv_right _ _ (by lia)
  rw[Int.one_mul]at e
  constructor
  ·intro g
   by_cases c:x j-x i>=s
   ·exact c
   ·have:x j/s<=(x i+s)/s:=Int.ediv_le_ediv (by lia) (by lia)
    lia
  ·intro g
   have:(x i+s)/s<=x j/s:=Int.ediv_le_ediv (by lia) (by lia)
   lia
 ·intro i hi
  have a:=hn i hi
  have b:0<=x i/s:=Int.ediv_nonneg a (by lia)
  show 0<=x i+x i/s
  lia
theorem OM{s B v:Int}(hs:1<=s)(h:v<=B*s):v+v/s<=B*(s+1):=by
 have:v/s<=B:=by
  have a:v/s<=(B*s)/s:=Int.ediv_le_ediv (by lia) h
  rw[Int.mul_ediv_cancel _ (by lia)]at a
  exact a
 rw[Int.mul_add,Int.mul_one]
 lia
theorem E4{s B:Int}(hs:1<=s){x:Nat->Int}(h:jJ n R s x)(hn:NN n x)(hB:∀i,i<n->x i<=B*s):∀k:Nat,∃y,jJ n R (s+k) y/\NN n y/\∀i,i<n->y i<=B*(s+k)
 |0=>⟨x,by simpa using h,hn,by simpa using hB⟩
 | k+1=>by
  obtain⟨y,a,b,c⟩:=E4 hs h hn hB k
  obtain⟨a',b'⟩:=ON (by lia) a b
  refine⟨_,?_,b',λi hi=>?_⟩
  ·have e:s+((k+1:Nat):Int)=s+(k:Int)+1:=by lia
   rw[e];exact a'
  ·have e:s+((k+1:Nat):Int)=s+(k:Int)+1:=by lia
   rw[e]
   exact OM (by lia) (c i hi)
end
noncomputable def sumTo(x:Nat->Int):Nat->Int
 |0=>0
 |n+1=>sumTo x n+x n
theorem lV{x:Nat->Int}:∀{n:Nat},NN n x->0<=sumTo x n
 |0,_=>Int.le_refl _
 |n+1,h=>by
  have a:=lV (n:=n) λi hi=>h i (by lia)
  have b:=h n (by lia)
  simp only[sumTo]
  lia
theorem DR{x y:Nat->Int}:∀{n:Nat}{v:Nat},(∀i,i<n->y i<=x i)->v<n->y v<x v->sumTo y n<sumTo x n
 |0,v,_,hv,_=>absurd hv (Nat.not_lt_zero _)
 | n + 1,v,h,hv,hl=>by
  simp only[sumTo]
  by_cases e:v=n
  ·subst e
   have le:∀m,m<=v->sumTo y m<=sumTo x m:=λm=>by
    induction m with
    |zero=>intro _;exact Int.le_refl _
    |succ m ih=>
     intro hm
     have a:=ih (by lia)
     have b:=h m (by lia)
     simp only[sumTo]
     lia
   have a:=le v (Nat.le_refl _)
   lia
  ·have a:=DR (n:=n) (v:=v) (λi hi=>h i (by lia)) (by lia) hl
   have b:=h n (by lia)
   lia
theorem W7{n:Nat}{p:(Nat->Int)->Prop}:∀(m:Nat)(x:Nat->Int),p x->NN n x->sumTo x n=(m:Int)->∃y,p y/\NN n y/\∀z,p z->NN n z->sumTo y n<=sumTo z n:=by
 intro m
 induction m using Nat.strongRecOn with
 | ind m ih=>
  intro x px nx ex
  by_cases h:∃z,p z/\NN n z/\sumTo z n<sumTo x n
  ·obtain⟨z,pz,nz,lz⟩:=h
   have s0:=lV nz
   exact ih (sumTo z n).toNat (by lia) z pz nz (by lia)
  ·exact⟨x,px,nx,λz pz nz=>by
    by_cases g:sumTo x n<=sumTo z n
    ·exact g
    ·exact absurd ⟨z,pz,nz,by lia⟩ h⟩
theorem nF{p q:Nat->Bool}:∀{l:List Nat}{v:Nat},(∀i∈l,p i=true->q i=true)->v∈l->p v=false->q v=true->l.countP p<l.countP q
 |[],v,_,hv,_,_=>by cases hv
 | a::l,v,h,hv,h1,h2=>by
  have le:∀m:List Nat,(∀i∈m,p i=true->q i=true)->m.countP p<=m.countP q:=λm=>by
   induction m with
   |nil=>intro _;exact Nat.le_refl _
   |cons b m ih=>
    intro g
    have i1:=ih λi hi=>g i (mem_cons_of_mem _ hi)
    have i2:=g b mem_cons_self
    simp only[countP_cons]
    cases hb:p b with
    |true=>rw[i2 hb];simp;exact i1
    |false=>simp;lia
  simp only[countP_cons]
  by_cases e:v=a
  ·subst e
   have i1:=le l λi hi=>h i (mem_cons_of_mem _ hi)
   rw[h1,h2]
   simp
   lia
  ·have hv':v∈l:=by
    rcases mem_cons.mp hv with g|g
    ·exact absurd g e
    ·exact g
   have ih:=nF (l:=l) (λi hi=>h i (mem_cons_of_mem _ hi)) hv' h1 h2
   have i2:=h a mem_cons_self
   cases ha:p a with
   |true=>rw[i2 ha];simp;exact ih
   |false=>simp;lia
end Nt
namespace Wk
section
variable{n:Nat}{R:Nat->Nat->Prop}
structure Sm (n:Nat) (R:Nat->Nat->Prop):Prop where
 irr:∀a,a<n->¬R a a
 two:∀a b c d,a<n->b<n->c<n->d<n->R a b->R c d->R a d\/R c b
 three:∀a b c d,a<n->b<n->c<n->d<n->R a b->R b c->R a d\/R d c
inductive W (n:Nat) (R:Nat->Nat->Prop):Nat->Nat->List Bool->Prop
 |nil {a:Nat}:a<n->W n R a a []
 |up {a b c:Nat} {l:List Bool}:a<n->R a b->W n R b c l->W n R a c (true::l)
 |fl {a b c:Nat} {l:List Bool}:a<n->¬R b a->W n R b c l->W n R a c (false::l)
theorem W.fst{a b:Nat}{l:List Bool}(h:W n R a b l):a<n:=by cases h <;> assumption
theorem W.snd{a b:Nat}{l:List Bool}(h:W n R a b l):b<n:=by
 induction h with
 |nil h=>exact h
 |up _ _ _ ih=>exact ih
 |fl _ _ _ ih=>exact ih
theorem W.app{a b c:Nat}{l m:List Bool}(h:W n R a b l)(g:W n R b c m):W n R a c (l++m):=by
 induction h with
 |nil _=>exact g
 |up h1 h2 _ ih=>exact .up h1 h2 (ih g)
 |fl h1 h2 _ ih=>exact .fl h1 h2 (ih g)
theorem W.cut{c:Nat}{m:List Bool}:∀{l:List Bool}{a:Nat},W n R a c (l++m)->∃b,W n R a b l/\W n R b c m
 |[],a,h=>⟨a,.nil h.fst,h⟩
 | x::l,a,h=>by
  cases h with
  |up h1 h2 h3=>
   obtain⟨b,g1,g2⟩:=W.cut h3
   exact⟨b,.up h1 h2 g1,g2⟩
  |fl h1 h2 h3=>
   obtain⟨b,g1,g2⟩:=W.cut h3
   exact⟨b,.fl h1 h2 g1,g2⟩
theorem Sm.tr(h:Sm n R){a b c:Nat}(ha:a<n)(hb:b<n)(hc:c<n)(h1:R a b)(h2:R b c):R a c:=
 (h.two a b b c ha hb hb hc h1 h2).resolve_right (h.irr b hb)
theorem rT(h:Sm n R):∀(l:List Bool){a c:Nat},l.all id=true->l≠[]->W n R a c l->R a c
 |[],_,_,_,e,_=>absurd rfl e
 |[x],a,c,e,_,w=>by
  cases w with
  |up h1 h2 h3=>cases h3;exact h2
  |fl h1 h2 h3=>cases e
 |x::y::l,a,c,e,_,w=>by
  cases w with
  |up h1 h2 h3=>exact h.tr h1 h3.fst h3.snd h2 (rT h (y::l) e (by simp) h3)
  |fl h1 h2 h3=>cases e
noncomputable def nt(l:List Bool):Nat:=l.countP id
noncomputable def nf(l:List Bool):Nat:=l.countP (!·)
theorem iW(l m:List Bool):nt (l++m)=nt l+nt m:=List.countP_append
theorem iX(l m:List Bool):nf (l++m)=nf l+nf m:=List.countP_append
noncomputable def Two3(l:List Bool):Prop:=∃u v x y z,l=u++([x,y,z]++v)/\nt [x,y,z]=2
theorem Two3.cons{l:List Bool}(a:Bool)(h:Two3 l):Two3 (a::l):=by
 obtain⟨u,v,x,y,z,rfl,g⟩:=h
 exact⟨a::u,v,x,y,z,rfl,g⟩
theorem LB:∀(l:List Bool),¬Two3 l->(true::true::l).all id=true\/Two3 (true::true::l)
 |[],_=>.inl rfl
 |true::l,h=>by
  have h':¬Two3 l:=λz=>h (z.cons true)
  rcases LB l h' with g|g
  ·exact .inl (by simpa using g)
  ·exact .inr (g.cons true)
 |false::l,h=>.inr ⟨[],l,true,true,false,rfl,rfl⟩
theorem mZ:∀(l:List Bool),¬Two3 l->l.all id=true\/3*nt l<=l.length+2
  |[],_=>.inl rfl
  |[x],_=>by cases x <;> simp[nt]
  |[x,y],_=>by cases x <;> cases y <;> simp[nt]
  | x::y::z::l,h=>by
    have hx:∀{m},(Two3 m->Two3 (x::y::z::l))->¬Two3 m:=λf g=>h (f g)
    have h3:nt [x,y,z]≠2:=λe=>h ⟨[],l,x,y,z,rfl,e⟩
    have hl:¬Two3 l:=hx λg=>((g.cons z).cons y).cons x
    cases x <;> cases y <;> cases z <;> first|exact absurd rfl h3|skip
    all_goals first
      | (rcases mZ l hl with g|g
         ·
           match l,g,h,hl with
           |[],_,_,_=>exact .inr (by decide)
           |[true],_,_,_=>exact .inr (by decide)
           | true::true::r,g,h,_=>first
             |exact absurd ⟨[_,_],r,_,true,true,rfl,rfl⟩ h
             |exact absurd ⟨[_],true::r,_,_,true,rfl,rfl⟩ h
             |exact .inl (by simpa using g)
           |false::r,g,_,_=>simp at g
           |true::false::r,g,_,_=>simp at g
         · exact .inr (by simp[nt]at g ⊢;lia))
      |skip
    all_goals
      rcases LB (true::l) (hx λg=>(g.cons true).cons true) with g|g
      · exact .inl g
      · exact absurd g h
theorem OI(h:Sm n R){a d:Nat}{x y z:Bool}(e:nt [x,y,z]=2)(w:W n R a d [x,y,z]):R a d:=by
 cases x <;> cases y <;> cases z <;> first|(exfalso;revert e;decide)|skip
 ·cases w with
  | fl h1 h2 w=>cases w with
   | up h3 h4 w=>cases w with
    |up h5 h6 w=>cases w with
     |nil h7=>exact(h.three _ _ _ _ h3 h5 h7 h1 h4 h6).resolve_left h2
 ·cases w with
  | up h1 h2 w=>cases w with
   | fl h3 h4 w=>cases w with
    |up h5 h6 w=>cases w with
     |nil h7=>exact(h.two _ _ _ _ h1 h3 h5 h7 h2 h6).resolve_right h4
 ·cases w with
  | up h1 h2 w=>cases w with
   | up h3 h4 w=>cases w with
    |fl h5 h6 w=>cases w with
     |nil h7=>exact(h.three _ _ _ _ h1 h3 h5 h7 h2 h4).resolve_right h6
theorem rV(h:Sm n R):∀(k:Nat)(l:List Bool){a c:Nat},l.length<=k->nf l<nt l->W n R a c l->R a c
 |0,l,_,_,hk,hn,_=>by
  have:l=[]:=List.length_eq_zero_iff.mp (by lia)
  subst this
  cases hn
 | k + 1,l,a,c,hk,hn,w=>by
  have hne:l≠[]:=by rintro rfl;cases hn
  by_cases z:Two3 l
  ·obtain⟨u,v,x,y,z,rfl,e⟩:=z
   obtain⟨b,w1,w2⟩:=w.cut
   obtain⟨d,w2,w3⟩:=w2.cut
   have r:=OI h e w2
   have w':=w1.app (W.up w2.fst r w3)
   refine rV h k _ ?_ ?_ w'
   ·simp only[length_append,length_cons,length_nil]at hk ⊢
    lia
   ·have ef:nf [x,y,z]=1:=by
     revert e
     cases x <;> cases y <;> cases z <;> decide
    rw[iX,iX]at hn
    rw[iW,iW]at hn
    rw[iX,iW,show(true::v)=[true]++v from rfl,iX,iW]
    have e1:nf [true]=0:=rfl
    have e2:nt [true]=1:=rfl
    lia
  ·rcases mZ l z with g|g
   ·exact rT h l g hne w
   ·apply Classical.byContradiction
    intro z2
    have el:l.length=nt l+nf l:=by
     have:=List.length_eq_countP_add_countP (l:=l) id
     unfold nt nf
     rw[this]
     congr 1
     refine List.countP_congr ?_
     intro x _
     cases x <;> simp
    have e0:nf l=0:=by lia
    have ea:l.all id=true:=all_eq_true.mpr λx hx=>by
     have:=List.countP_eq_zero.mp e0 x hx
     cases x
     ·exact absurd rfl this
     ·rfl
    exact z2 (rT h l ea hne w)
end
end Wk
namespace L2
open PySem PySem.Spec PyProof.Rows
structure XEnd (P:Program) (w:World) (outer:List Env) (H:Hp) (s:Shared) (e C t:Addr) (H':Hp) (B:Heap) (s':Shared):Prop where
 os:s'.os=s.os
 bare:AllBare s'.gens
 un:Un (bE outer) [] H H' s.heap s'.heap
 cov:∀b o,s.heap.get? b=some o->H b=none->b∉bE outer->B.get? b=some o
 thr:∀b o,s.heap.get? b=some o->b∉bE outer->∃o',B.get? b=some o'
 hok:HOk P w H' B
 fl:Heap.FlyingW B outer e (.ref C) (.ref t) s'.heap
noncomputable abbrev cJ(P:Program)(w:World):dH:=λouter H s E ev s'=>∃e C t H' B,ev=.ref e/\XEnd P w outer H s e C t H' B s'/\E (.ref C) none H'
section
variable{CX:dH}{P:Program}{w:World}{K:PySem.W.Frag}{mg:Str->Option Value}{base:Heap}{N:List Str}{qual:Str}{scope:Scope}{f:Addr}{cd:Value}{A:Around}{outer:List Env}{s₀:Shared}{H₀:Hp}{E:XK}
 {pins:List (Addr×Obj)} {σ:St} {H:Hp} {s:Shared}
theorem Y7{b:Addr}(hb:b∈bE (envOfC qual scope s₀.heap.objs.size f cd::outer)):b=s₀.heap.objs.size\/b∈bE outer:=by
 have e:bE (envOfC qual scope s₀.heap.objs.size f cd::outer)=s₀.heap.objs.size::bE outer:=rfl
 rw[e]at hb
 exact mem_cons.mp hb
theorem qD{b:Addr}{o:Obj}(h:s₀.heap.get? b=some o)(hb:b∉bE outer):b∉bE (envOfC qual scope s₀.heap.objs.size f cd::outer):=λz=>by
 rcases Y7 z with e|e
 ·exact Nat.lt_irrefl _ (e▸Heap.lt_size h)
 ·exact hb e
theorem XEnd.out{e C t:Addr}{H':Hp}{B h':Heap}{s':Shared}(I:Inv (cS CX P w K mg base N qual scope f cd A outer s₀ H₀ E) pins σ H s)(x:XEnd P w (envOfC qual scope s₀.heap.objs.size f cd::outer) H s e C t H' B s')
  (fl:Heap.FlyingW B outer e (.ref C) (.ref t) h') (up:s'.heap.UpToSlots h'):XEnd P w outer H₀ s₀ e C t H' B { s' with heap:=h' }:=by
 have cov:∀b o,s₀.heap.get? b=some o->H₀ b=none->b∉bE outer->B.get? b=some o:=λb o q n nb=>
  x.cov b o (I.base.keep b o q n nb (λz=>nomatch z)) (I.base.free b o q n (λz=>nomatch z)) (qD q nb)
 have thr:∀b o,s₀.heap.get? b=some o->b∉bE outer->∃o',B.get? b=some o':=λb o q nb=>by
  obtain⟨o',e'⟩:=I.base.there b o q (λz=>nomatch z)
  exact x.thr b o' e' (qD q nb)
 have slot:∀b o,s₀.heap.get? b=some o->b∈bE outer->∃sl,h'.get? b=some { o with slots:=sl }:=λb o q nb=>by
  have n:H₀ b=none:=I.ok.frf b nb
  obtain⟨sl,e1⟩:=I.base.slot b o q n nb (λz=>nomatch z)
  obtain⟨sl2,e2⟩:=x.un.slot b _ e1 (I.base.free b o q n (λz=>nomatch z)) (mem_cons_of_mem _ nb) (λz=>nomatch z)
  obtain⟨_,o3,e3,d3⟩:=I.ok.funs.mem nb
  have:o3=o:=by
   have e3':s₀.heap.get? b=some o3:=e3
   rw[q]at e3'
   exact(Option.some.inj e3').symm
  subst this
  obtain⟨sl4,e4⟩:=up b _ e2 d3
  exact⟨sl4,e4⟩
 refine⟨x.os.trans I.os,x.bare,⟨λb o q n nb _=>fl.1 b o (cov b o q n nb),λb o q _ nb _=>slot b o q nb,λb o q n _=>?_,λb o q _=>?_,λb xs q=>?_,λb o u q=>?_,λb ps q=>?_⟩,cov,thr,x.hok,fl⟩
 ·obtain⟨o',e'⟩:=I.base.there b o q (λz=>nomatch z)
  exact x.un.free b o' e' (I.base.free b o q n (λz=>nomatch z)) (λz=>nomatch z)
 ·by_cases nb:b∈bE outer
  ·obtain⟨sl,e'⟩:=slot b o q nb
   exact⟨_,e'⟩
  ·obtain⟨o',e'⟩:=thr b o q nb
   exact⟨o',fl.1 b o' e'⟩
 ·exact x.un.tups b xs (I.base.tups b xs q)
 ·exact x.un.frzs b o u (I.base.frzs b o u q)
 ·obtain⟨m1,e1⟩:=I.base.tbls b ps q
  obtain⟨m2,e2⟩:=x.un.tbls b _ e1
  exact⟨m1++m2,by rw[e2,Array.append_assoc]⟩
theorem G1:gQ (cJ P w) (cS (cJ P w) P w K mg base N qual scope f cd A outer s₀ H₀ E) E:=by
 intro pins σ H s ev s' I h
 obtain⟨e,C,t,H',B,rfl,x,q⟩:=h
 show wpAny (model P w) (A.deeper (envOfC qual scope s₀.heap.objs.size f cd)) (leaving (envOfC qual scope s₀.heap.objs.size f cd) (.ref e)) _ _ s'
 exact wpAny_leaves_onW (L:=s₀.heap.objs.size) I.ok.frames rfl x.fl λh' fl up=>⟨e,C,t,H',B,rfl,XEnd.out I x fl up,q⟩
theorem VT{e C:Addr}{h':Heap}{vs:List Value}(I:Inv (cS (cJ P w) P w K mg base N qual scope f cd A outer s₀ H₀ E) pins σ H s)(hx:Heap.MadeExcOf s.heap h' e (.ref C) vs)(q:E (.ref C) none H):
  (cS (cJ P w) P w K mg base N qual scope f cd A outer s₀ H₀ E).xe (.ref e) { s with heap:=h' }:=by
 have st:s.heap.FunFrames base (envOfC qual scope s₀.heap.objs.size f cd::outer):=I.stack
 have hin:∀env∈(envOfC qual scope s₀.heap.objs.size f cd::outer),∀a,env.frame=some a->a∈bE (envOfC qual scope s₀.heap.objs.size f cd::outer):=λenv he a hf=>mem_filterMap.mpr ⟨env,he,hf⟩
 have hB:∀b o,s.heap.get? b=some o->b∉bE (envOfC qual scope s₀.heap.objs.size f cd::outer)->(PySem.W.hideAll s.heap (bE (envOfC qual scope s₀.heap.objs.size f cd::outer))).get? b=some o:=λb o q nb=>PySem.W.hideAll_get _ q nb
 have hok:HOk P w H (PySem.W.hideAll s.heap (bE (envOfC qual scope s₀.heap.objs.size f cd::outer))):=λa o ea=>
  (I.hok a o ea).stay (λb u hb q=>hB b u q λz=>by
   have n:=I.stkFree b z
   rcases hb with rfl|hb
   ·rw[n]at ea;cases ea
   ·rw[n]at hb;cases hb) (λ_ q=>q) λ_ _ q=>q
 show wpAny (model P w) (A.deeper (envOfC qual scope s₀.heap.objs.size f cd)) (leaving (envOfC qual scope s₀.heap.objs.size f cd) (.ref e)) _ _ { s with heap:=h' }
 refine wpAny_leaves_madeW (base:=PySem.W.hideAll s.heap (bE (envOfC qual scope s₀.heap.objs.size f cd::outer))) (h:=s.heap) (L:=s₀.heap.objs.size) I.ok.frames rfl (λb o q=>PySem.W.of_hideAll _ q) (PySem.W.funFrames_hide st hin) hx λh2 t fl _ _ up=>?_
 generalize PySem.W.hideAll s.heap (bE (envOfC qual scope s₀.heap.objs.size f cd::outer))=B at hB hok fl
 refine⟨e,C,t,H,B,rfl,?_,q⟩
 have cov:∀b o,s₀.heap.get? b=some o->H₀ b=none->b∉bE outer->B.get? b=some o:=λb o q n nb=>
  hB b o (I.base.keep b o q n nb (λz=>nomatch z)) (qD q nb)
 have thr:∀b o,s₀.heap.get? b=some o->b∉bE outer->∃o',B.get? b=some o':=λb o q nb=>by
  obtain⟨o',e'⟩:=I.base.there b o q (λz=>nomatch z)
  exact⟨o',hB b o' e' (qD q nb)⟩
 have slot:∀b o,s₀.heap.get? b=some o->b∈bE outer->∃sl,h2.get? b=some { o with slots:=sl }:=λb o q nb=>by
  obtain⟨sl,e1⟩:=I.base.slot b o q (I.ok.frf b nb) nb (λz=>nomatch z)
  obtain⟨_,o3,e3,d3⟩:=I.ok.funs.mem nb
  have:o3=o:=by
   have e3':s₀.heap.get? b=some o3:=e3
   rw[q]at e3'
   exact(Option.some.inj e3').symm
  subst this
  obtain⟨sl4,e4⟩:=up b _ (hx.keeps _ _ e1) d3
  exact⟨sl4,e4⟩
 refine⟨I.os,I.bare,⟨λb o q n nb _=>fl.1 b o (cov b o q n nb),λb o q _ nb _=>slot b o q nb,λb o q n _=>I.base.free b o q n (λz=>nomatch z),λb o q _=>?_,I.base.tups,I.base.frzs,I.base.tbls⟩,cov,thr,hok,fl⟩
 by_cases nb:b∈bE outer
 ·obtain⟨sl,e'⟩:=slot b o q nb
  exact⟨_,e'⟩
 ·obtain⟨o',e'⟩:=thr b o q nb
  exact⟨o',fl.1 b o' e'⟩
abbrev AO:List Value:=[.type "ValueError",.type "Exception",.type "BaseException",.type "object"]
noncomputable def C8(E:XK)(C:Addr)(t:TA):TS:=λ_ σ H=>t σ H λvs H1=>vs.length<=sizeLine/\E (.ref C) none H1
theorem S1{x:Str}{C:Addr}{bmB:List Value}{newId:String}(M:Mod K mg base)(hm:mg x=some (.ref C))(q:PySem.W.excIn K C bmB newId=true):OwnCls x C bmB newId mg base:=by
 refine⟨hm,?_⟩
 have X:=M.kin
 unfold PySem.W.excIn at q
 split at q
 ·rename_i dd cd sl ho
  split at q
  ·rename_i C' bm k0 k1 k2 k3 n k5 h1 h2
   simp only[Bool.and_eq_true,beq_iff_eq,Bool.not_eq_true']at q
   obtain⟨⟨⟨⟨⟨rfl,rfl⟩,hdel⟩,ht⟩,hok⟩,hni⟩:=q
   obtain⟨nm,bs,mro,ns,qn,hd,sn,sub,ab,col,del⟩:=cd
   dsimp only at h1 hdel hok hni
   subst h1 hdel
   have h3:sl=#[k0,k1,k2,k3,some (.builtin n),k5]:=by
    obtain⟨l⟩:=sl
    simp only at h2
    rw[h2]
   subst h3
   exact⟨bm,ns,nm,qn,bs,hd,sn,sub,ab,col,dd,k0,k1,k2,k3,k5,_,X _ _ ho,.of_isNs (PySem.W.isNs_of_in X hok),PySem.W.nsMap_none_of_in X hok hni,PySem.W.tail_of_in X ht⟩
  ·cases q
 ·cases q
theorem oU{x:Str}{C:Addr}{np cpos pos:Pos}{e₀:Expr}{cF:List Expr}{t:TA}(hm:mg x=some (.ref C))(qx:PySem.W.excIn K C AO "ValueError.__new__"=true)
  (hg:Gl (cS (cJ P w) P w K mg base N qual scope f cd A outer s₀ H₀ E) x) (ha:PA (cS (cJ P w) P w K mg base N qual scope f cd A outer s₀ H₀ E) (e₀::cF) t)
  (he:starEach (e₀::cF) (cS (cJ P w) P w K mg base N qual scope f cd A outer s₀ H₀ E).env=(false,eval e₀ (cS (cJ P w) P w K mg base N qual scope f cd A outer s₀ H₀ E).env)::starEach cF (cS (cJ P w) P w K mg base N qual scope f cd A outer s₀ H₀ E).env:=by rfl)
  (hpl:(backTo cpos (starEach cF (cS (cJ P w) P w K mg base N qual scope f cd A outer s₀ H₀ E).env)).any (·.1)=false:=by rfl) (hdb:(x==("__debug__":Str))=false:=by decide):
  PS (cS (cJ P w) P w K mg base N qual scope f cd A outer s₀ H₀ E) (.Raise (some (.Call (.Name x np) (e₀::cF) [] cpos)) none pos) (C8 E C t):=by
 intro pins s σ H D I h
 have O:OwnCls x C AO "ValueError.__new__" mg base:=S1 I.ok.mod hm qx
 obtain⟨tl,Nn,nm,q,bs,hdct,sn,sub,ab,col,dd,k0,k1,k2,k3,k5,mN,hC,hN,hni,T⟩:=O.obj
 refine wpAny_Raise_call_subU (C:=C) (nm:=nm) (q:=q) (N:=Nn) (bs:=bs) (bm:=tl) (hdct:=hdct) (sn:=sn) (sub:=sub) (ab:=ab) (col:=col) (dd:=dd) (k0:=k0) (k1:=k1) (k2:=k2) (k3:=k3) (k5:=k5)
  PySem.F.excBase_ValueError (by decide) PySem.F.excBase_ValueError (mN:=mN) (T.hasType PySem.F.excBase_ValueError.hasBase) (I.ok.hd rfl) (by rw[he];exact hpl) hni (kC I hg O.bound ⟨rfl,?_⟩ hdb)
 have h1:=ha cpos pins s σ H _ I h
 rw[he]at h1 ⊢
 refine Calls.evalArgs_plain (wpAny_mono h1 (λus s2⟨vs,H1,I1,r,q1,q2⟩=>⟨rfl,by rw[<-r.length];exact q1,I1.bk _ _ hC,hN.keeps I1.bk,T.keeps I1.bk,λh' e hm=>VT I1 hm q2⟩) λ_ _ y=>y)
theorem Fun.okX{x qual:Str}{st:Stmt}{f:Addr}{fd:FuncData}{N ps:List Str}{k:Nat}{sp:Sp}(F:Fun K x qual st f fd)(S:aZ N ps (aJ st))(len:∀vs H Q E,sp vs H Q E->vs.length=ps.length)
  (hbody:∀(cdv:Value)(A:Around)(outer:List Env)(s:Shared)(H:Hp)(vs:List V)(Q:VK)(E:XK),Room k (A.deeper (envOfC qual (aJ st) s.heap.objs.size f cdv))->sp vs H Q E->
   ∃t,PSs (cS (cJ P w) P w K mg base N qual (aJ st) f cdv A outer s H E) (fN st) t/\t { nx:=λ_ H'=>Q .non H',rt:=Q } (start N vs) H):FnOk P w K mg base (cJ P w) (k+1) f fd ps sp:=by
 obtain⟨oc,od,kV,doc,pm,an,cdv,ct,osl,rfl,lk,hcd⟩:=F.ex
 exact JR lk hcd S len λA outer s H vs Q E hr hsp=>hbody cdv A outer s H vs Q E hr hsp
end
section
variable{P:Program}{w:World}{l:List Env}{H H':Hp}{s s':Shared}{e C t:Addr}{B h':Heap}
theorem XEnd.move(x:XEnd P w l H s e C t H' B s')(fr:∀b∈bE l,H b=none)(fl:Heap.FlyingW B l e (.ref C) (.ref t) h')(up:s'.heap.UpToSlots h'):XEnd P w l H s e C t H' B { s' with heap:=h' }:=by
 have slot:∀b o,s.heap.get? b=some o->b∈bE l->∃sl,h'.get? b=some { o with slots:=sl }:=λb o q nb=>by
  obtain⟨sl,e1⟩:=x.un.slot b o q (fr b nb) nb (λz=>nomatch z)
  obtain⟨_,o3,e3,d3⟩:=x.fl.2.2.1.mem nb
  have:o3={ o with slots:=sl }:=Option.some.inj (e3.symm.trans e1)
  subst this
  obtain⟨sl2,e2⟩:=up b _ e1 d3
  exact⟨sl2,e2⟩
 refine⟨x.os,x.bare,⟨λb o q n nb _=>fl.1 b o (x.cov b o q n nb),λb o q _ nb _=>slot b o q nb,x.un.free,λb o q _=>?_,x.un.tups,x.un.frzs,x.un.tbls⟩,x.cov,x.thr,x.hok,fl⟩
 by_cases nb:b∈bE l
 ·obtain⟨sl,e1⟩:=slot b o q nb
  exact⟨_,e1⟩
 ·obtain⟨o',e1⟩:=x.thr b o q nb
  exact⟨o',fl.1 b o' e1⟩
theorem XEnd.new(x:XEnd P w l H s e C t H' B s'):s.heap.get? e=none:=by
 cases q:s.heap.get? e with
 |none=>rfl
 | some o=>
  exfalso
  by_cases nb:e∈bE l
  ·obtain⟨_,o3,e3,d3⟩:=x.fl.2.2.1.mem nb
   obtain⟨oe,vs,he,_,hd,_⟩:=x.fl.first
   rw[e3]at he
   cases he
   exact d3 vs hd
  ·obtain⟨o',e1⟩:=x.thr e o q nb
   rw[x.fl.2.1]at e1
   cases e1
theorem XEnd.free(x:XEnd P w l H s e C t H' B s'):H' e=none:=by
 cases q:H' e with
 |none=>rfl
 |some o=>
  obtain⟨u,e1⟩:=(x.hok e o q).there
  rw[x.fl.2.1]at e1
  cases e1
end
section
variable{X:Cx}{pins:List (Addr×Obj)}{σ:St}{H H':Hp}{s s':Shared}{e C t:Addr}{B:Heap}
theorem Inv.exc(I:Inv X pins σ H s)(x:XEnd X.prog X.w X.stack H s e C t H' B s'):Inv X pins σ H' s':=
 I.call' x.os x.un (x.hok.kept x.fl.1) x.bare (λ_ z=>nomatch z)
noncomputable def lF(e C:Addr):HO:=.ext λh=>∃ob,h.get? e=some ob/\ob.cls=.ref C/\∃vs,ob.data=.fields vs
theorem Inv.track{o:HO}(J:Inv X pins σ H s)(hn:H e=none)(h0:X.s₀.heap.get? e=none)(hL:e≠X.env.locals)(hc:∀x c,X.env.cells.lookup x=some c->c≠e)(hp:∀p∈X.pn++pins,p.1≠e)
  (ho:ObjOk X.prog X.w (upd H e o) s.heap e o):Inv X pins σ (upd H e o) s:=by
 have ne:∀b u,H b=some u->b≠e:=λb u q z=>by rw[z,hn]at q;cases q
 have up:∀b u,H b=some u->upd H e o b=some u:=λb u q=>by rw[aE (ne b u q)];exact q
 refine⟨J.ok,J.os,J.bare,⟨J.base.keep,J.base.slot,λb ob q n hx=>?_,J.base.there,λb xs q=>up _ _ (J.base.tups b xs q),λb ob u q=>up _ _ (J.base.frzs b ob u q),λb ps q=>?_⟩,J.loc,J.cell,?_,λy c q=>?_,λp hq=>?_,λb u q=>?_,J.len⟩
 ·have:b≠e:=λz=>by rw[z,h0]at q;cases q
  rw[aE this]
  exact J.base.free b ob q n hx
 ·obtain⟨m,q⟩:=J.base.tbls b ps q
  exact⟨m,up _ _ q⟩
 ·rw[aE (Ne.symm hL)];exact J.free
 ·rw[aE (hc y c q)];exact J.freeC y c q
 ·obtain⟨a1,a2,a3,a4,a5⟩:=J.pin p hq
  exact⟨a1,by rw[aE (hp p hq)];exact a2,a3,a4,a5⟩
 ·by_cases z:b=e
  ·subst z
   rw[aB]at q
   cases q
   exact ho
  ·rw[aE z]at q
   exact(J.hok b u q).stay (λ_ _ _ q=>q) (λc q=>up _ _ q) λc xs q=>up _ _ q
theorem Inv.forget{i:Nat}{x:Str}{m:Str->Option Value}{v:Option Value}{h':Heap}{t':Nat}(I:Inv X pins σ H s)(hN:X.N.Nodup)(hi:X.N[i]? =some x)(hk:X.env.scope.names.lookup x=some .local)
  (hn:s.heap.Ns X.env.locals m) (hn':h'.Ns X.env.locals (λy=>if y=x then v else m y)) (hs:Heap.SameBut X.env.locals s.heap h'):Inv X pins (σ.set i none) H { s with heap:=h',toks:=t' }:=by
 obtain⟨m0,hn0,hl0⟩:=id I.loc
 obtain rfl:m0=m:=HV hn0 hn
 have nL:∀b o,X.s₀.heap.get? b=some o->b≠X.env.locals:=λb o q=>Nat.ne_of_lt (Nat.lt_of_lt_of_le (Heap.lt_size q) I.ok.above)
 refine⟨I.ok,I.os,I.bare,⟨λb o q n hb hx=>(hs.2 b (nL b o q)).trans (I.base.keep b o q n hb hx),λb o q n hb hx=>?_,I.base.free,λb o q hx=>?_,I.base.tups,I.base.frzs,I.base.tbls⟩,⟨_,hn',λj y v' e1 e2 e3=>?_⟩,λy c q=>?_,I.free,I.freeC,λp hp=>?_,λb ob q=>?_,by rw[length_set];exact I.len⟩
 ·obtain⟨sl,e1⟩:=I.base.slot b o q n hb hx
  exact⟨sl,(hs.2 b (nL b o q)).trans e1⟩
 ·obtain⟨o',e1⟩:=I.base.there b o q hx
  exact⟨o',(hs.2 b (nL b o q)).trans e1⟩
 ·have hj:j≠i:=λz=>by
   subst z
   by_cases hlt:j<σ.length
   ·rw[List.getElem?_set_self hlt]at e2;cases e2
   ·rw[List.getElem?_eq_none (by rw[length_set];lia)]at e2;cases e2
  rw[List.getElem?_set_ne (Ne.symm hj)]at e2
  obtain⟨u',r',q⟩:=hl0 j y v' e1 e2 e3
  refine⟨u',r',?_⟩
  rcases q with⟨k,q⟩|⟨k,c,q,z⟩
  ·refine .inl ⟨k,?_⟩
   have:y≠x:=λq=>hj (w4 hN e1 (q▸hi))
   simp[this,q]
  ·exact .inr ⟨k,c,q,z.sameBut hs (I.cne y c q)⟩
 ·obtain⟨w',z⟩:=I.cell y c q
  exact⟨w',z.sameBut hs (I.cne y c q)⟩
 ·obtain⟨a1,a2,a3,a4,a5⟩:=I.pin p hp
  exact⟨(hs.2 p.1 a3).trans a1,a2,a3,a4,a5⟩
 ·refine(I.hok b ob q).stay (λc w' hc z=>(hs.2 c ?_).trans z) (λ_ z=>z) λ_ _ z=>z
  rintro rfl
  have fr:=I.free
  rcases hc with rfl|hc
  ·rw[fr]at q;cases q
  ·rw[fr]at hc;cases hc
noncomputable abbrev Cx.hand(X:Cx)(e:Addr):Cx:={ X with A:=X.A.mark (some (.ref e)),calm:=false,xe:=λ_ _=>False }
theorem Inv.hand(I:Inv X pins σ H s)(e:Addr):Inv (X.hand e) pins σ H s:=
 ⟨⟨I.ok.mod,I.ok.kind,I.ok.glob,I.ok.blt,I.ok.above,I.ok.inj,I.ok.has,I.ok.cab,(λz=>absurd z Bool.false_ne_true),I.ok.frames,I.ok.stk,I.ok.exf,I.ok.bs,I.ok.bsz,I.ok.noex,I.ok.exfs,I.ok.funs,I.ok.frf⟩,I.os,I.bare,I.base,I.loc,I.cell,I.free,I.freeC,I.pin,I.hok,I.len⟩
theorem Inv.unhand(hd:X.calm=true->X.A.handled=none)(I:Inv (X.hand e) pins σ H s):Inv X pins σ H s:=
 ⟨⟨I.ok.mod,I.ok.kind,I.ok.glob,I.ok.blt,I.ok.above,I.ok.inj,I.ok.has,I.ok.cab,hd,I.ok.frames,I.ok.stk,I.ok.exf,I.ok.bs,I.ok.bsz,I.ok.noex,I.ok.exfs,I.ok.funs,I.ok.frf⟩,I.os,I.bare,I.base,I.loc,I.cell,I.free,I.freeC,I.pin,I.hok,I.len⟩
noncomputable def DH(K:PySem.W.Frag)(Dc:Addr)(i:Nat)(th:TS)(D:eP):XK:=λcls _ H'=>∃C,cls=.ref C/\PySem.W.exmOne K (.ref C) (.ref Dc)=some true/\∀(e:Addr)(σ:St),H' e=none->i<σ.length->
 th { nx:=λσ H=>D.nx (σ.set i none) H,rt:=D.rt,bk:=λσ H=>D.bk (σ.set i none) H,ct:=λσ H=>D.ct (σ.set i none) H } (σ.set i (some (.ref e))) (upd H' e (lF e C))
noncomputable abbrev Cx.pinned(X:Cx)(pn:List (Addr×Obj))(E1:Value->Shared->Prop):Cx:={ X with pn:=pn,xe:=E1 }
theorem Inv.pn1(I:Inv X pins σ H s)(E1:Value->Shared->Prop):Inv (X.pinned (X.pn++pins) E1) [] σ H s:=
 ⟨⟨I.ok.mod,I.ok.kind,I.ok.glob,I.ok.blt,I.ok.above,I.ok.inj,I.ok.has,I.ok.cab,I.ok.hd,I.ok.frames,I.ok.stk,I.ok.exf,I.ok.bs,I.ok.bsz,I.ok.noex,I.ok.exfs,I.ok.funs,I.ok.frf⟩,I.os,I.bare,I.base,I.loc,I.cell,I.free,I.freeC,λp hp=>I.pin p (by simpa using hp),I.hok,I.len⟩
theorem Inv.unpn1{E1:Value->Shared->Prop}{pins':List (Addr×Obj)}(I:Inv (X.pinned (X.pn++pins) E1) pins' σ H s):Inv X pins σ H s:=
 ⟨⟨I.ok.mod,I.ok.kind,I.ok.glob,I.ok.blt,I.ok.above,I.ok.inj,I.ok.has,I.ok.cab,I.ok.hd,I.ok.frames,I.ok.stk,I.ok.exf,I.ok.bs,I.ok.bsz,I.ok.noex,I.ok.exfs,I.ok.funs,I.ok.frf⟩,I.os,I.bare,I.base,I.loc,I.cell,I.free,I.freeC,λp hp=>I.pin p (mem_append_left _ hp),I.hok,I.len⟩
theorem SP.unpinned{E1:Value->Shared->Prop}{pins':List (Addr×Obj)}{D:eP}{f:Flow}(h:SP (X.pinned (X.pn++pins) E1) pins' D f s'):SP X pins D f s':=by
 cases f with
 |next=>obtain⟨σ',H',I,q⟩:=h;exact⟨σ',H',I.unpn1,q⟩
 |brk=>obtain⟨σ',H',I,q⟩:=h;exact⟨σ',H',I.unpn1,q⟩
 |cont=>obtain⟨σ',H',I,q⟩:=h;exact⟨σ',H',I.unpn1,q⟩
 |ret u=>obtain⟨v,σ',H',I,r,q⟩:=h;exact⟨v,σ',H',I.unpn1,r,q⟩
theorem SA{x n:Str}{Dc:Addr}{i:Nat}{np hpos pos:Pos}{body suite:List Stmt}{b₀:Stmt}{tb:XK->TS}{th:TS}(hcalm:X.calm=true)(hN:X.N.Nodup)(hi:X.N[i]? =some n)(hk:X.env.scope.names.lookup n=some .local)
  (hex:X.ex=[]) (hstk:X.stack=X.env::X.outer) (hfr:X.env.frame=some X.env.locals) (hg:Gl X x) (hm:X.mg x=some (.ref Dc))
  (hb:∀(pn:List (Addr×Obj))(E1:Value->Shared->Prop)(Eb:XK),gQ (cJ X.prog X.w) (X.pinned pn E1) Eb->PSs (X.pinned pn E1) body (tb Eb)) (hh:∀e,PSs (X.hand e) (b₀::suite) th) (hdb:(x==("__debug__":Str))=false:=by decide):
  PS X (.Try body [.ExceptHandler (some (.Name x np)) (some n) (b₀::suite) hpos] [] [] pos) (λD σ H=>tb (DH X.K Dc i th D) D σ H):=by
 intro pins s σ H D I h
 refine wpAny_Try_except ?_
 refine wpAny_mono (hb (X.pn++pins) (λev s₁=>wpAny (model X.prog X.w) X.A (noteFrame ev X.env) (λ_ s₂=>wpAny (model X.prog X.w) X.A (setFlight ev none) (λ_ s₃=>wpAny (model X.prog X.w) X.A (handleBy ev X.env [.ExceptHandler (some (.Name x np)) (some n) (b₀::suite) hpos]) (SP X pins D) X.xe s₃) X.xe s₂) X.xe s₁)
  (DH X.K Dc i th D) ?_ [] s σ H D (I.pn1 _) h) (λf s1 hs=>?_) λ_ _ z=>z
 rotate_left
 ·cases f with
  |next=>exact wpAny_execs_nil (SP.unpinned hs)
  |brk=>exact SP.unpinned hs
  |cont=>exact SP.unpinned hs
  |ret u=>exact SP.unpinned hs
 intro pins' σ' H1 s1 ev s' I1 hx
 obtain⟨e,C,t,H',B,rfl,x0,q⟩:=hx
 have I1:Inv X pins σ' H1 s1:=I1.unpn1
 obtain⟨C',hC',hcm,q⟩:=q
 cases hC'
 have fr:∀b∈bE X.stack,H1 b=none:=λb hb=>I1.stkFree b hb
 have fls:=x0.fl
 have ef:(X.pinned (X.pn++pins) (λev s₁=>wpAny (model X.prog X.w) X.A (noteFrame ev X.env) (λ_ s₂=>wpAny (model X.prog X.w) X.A (setFlight ev none) (λ_ s₃=>wpAny (model X.prog X.w) X.A (handleBy ev X.env [.ExceptHandler (some (.Name x np)) (some n) (b₀::suite) hpos]) (SP X pins D) X.xe s₃) X.xe s₂) X.xe s₁)).stack=X.stack:=rfl
 rw[ef]at x0 fls
 rw[hstk]at fls
 show wpAny (model X.prog X.w) X.A (noteFrame (.ref e) X.env) _ _ s'
 refine wpAny_looks_onW (outer:=X.outer) (L:=X.env.locals) (by rw[<-hstk];exact I1.ok.frames) hfr fls λh4 held up4=>?_
 refine wpAny_landsW held λh5 fl5 up5=>?_
 have x5:=x0.move fr (by rw[hstk];exact fl5) (up4.trans up5)
 have J5:=I1.exc x5
 have XI:X.K.In h5:=J5.kIn
 obtain⟨ob,hob,hoc⟩:=fl5.there
 have LT:PySem.W.Looks (model X.prog X.w) h5 (typeOf (.ref e)) (.ref C):=hoc▸(PySem.W.Looks.ld hob).andThen .now
 have LM:PySem.W.Looks (model X.prog X.w) h5 (excMatches (.ref e) (.ref Dc)) true:=PySem.W.exm_one XI LT hcm
 refine wpAny_handleBy_cons (codeAny_handlers_test ?_) (by intro z;cases z)
 refine kC (X:=X.hand e) (J5.hand e) hg hm ?_ hdb
 refine LM.here ?_
 refine codeAny_handlers_suite_as ?_
 refine lands_againW fl5 λh6 fl6 up6=>?_
 have x6:=x5.move fr (by rw[hstk];exact fl6) up6
 have J6:Inv X pins σ' H' { s' with heap:=h6 }:=I1.exc x6
 obtain⟨oe,vs,he,hec,hed,_⟩:=fl6.first
 have new1:s1.heap.get? e=none:=x0.new
 have J7:Inv X pins σ' (upd H' e (lF e C)) { s' with heap:=h6 }:=by
  refine J6.track x6.free ?_ ?_ ?_ ?_ ?_
  ·cases q0:X.s₀.heap.get? e with
   |none=>rfl
   |some o=>
    obtain⟨o',q1⟩:=I1.base.there e o q0 (by rw[hex];exact λz=>nomatch z)
    rw[new1]at q1;cases q1
  ·rintro rfl
   obtain⟨m,⟨o,_,_,ho,_⟩,_⟩:=I1.loc
   rw[new1]at ho;cases ho
  ·rintro y c q1 rfl
   obtain⟨v,o,ho,_⟩:=I1.cell y c q1
   rw[new1]at ho;cases ho
  ·rintro p hp rfl
   have:=(I1.pin p hp).1
   rw[new1]at this;cases this
  ·exact⟨⟨oe,he,hec,vs,hed⟩,⟨oe,he⟩,λh1 h2⟨o1,a1,a2⟩k=>⟨o1,k _ a1,a2⟩⟩
 refine sJ (X:=X.hand e) (v:=.ref e) (J7.hand e) hN hi (.inl hk) rfl (λs8 J8=>?_) (.inr hk)
 refine wpAny_mono (hh e pins s8 _ _ _ J8 (q e σ' x6.free (by rw[I1.len];exact(List.getElem?_eq_some_iff.mp hi).1))) (λf s9 hs=>?_) λ_ _ z=>False.elim z
 have fin:∀(σ9:St)(H9:Hp),Inv (X.hand e) pins σ9 H9 s9->∀(Q:Unit->Shared->Prop),(∀s10,Inv X pins (σ9.set i none) H9 s10->Q () s10)->wpAny (model X.prog X.w) X.A (do bindName X.env n .none;unbindBehindTheSuite X.env n hpos) Q X.xe s9:=λσ9 H9 J9 Q hQ=>by
  have J9:Inv X pins σ9 H9 s9:=J9.unhand I.ok.hd
  obtain⟨m,hn,_⟩:=id J9.loc
  refine wpAny_nameGoes_keeps hk hn (by rw[J9.ok.kind];rfl) λh' v hn' hs'=>hQ _ (J9.forget hN hi hk hn hn' hs')
 cases f with
 |next=>
  obtain⟨σ9,H9,J9,q9⟩:=hs
  exact fin σ9 H9 J9 _ λs10 J10=>⟨_,_,J10,q9⟩
 |brk=>
  obtain⟨σ9,H9,J9,q9⟩:=hs
  exact fin σ9 H9 J9 _ λs10 J10=>⟨_,_,J10,q9⟩
 |cont=>
  obtain⟨σ9,H9,J9,q9⟩:=hs
  exact fin σ9 H9 J9 _ λs10 J10=>⟨_,_,J10,q9⟩
 |ret u=>
  obtain⟨v,σ9,H9,J9,r9,q9⟩:=hs
  exact fin σ9 H9 J9 _ λs10 J10=>⟨v,_,_,J10,r9,q9⟩
end
structure cX (K:PySem.W.Frag) (C:Addr):Prop where
 exc:PySem.W.excIn K C AO "ValueError.__new__"=true
 ga:PySem.W.findIn K (.ref C) "__getattribute__"=some (some (.builtin "BaseException.__getattribute__"))
 gn:PySem.W.findIn K (.ref C) "__getattr__"=some none
 gc:PySem.W.findIn K (.ref C) "__class__"=some (some (.builtin "object.__class__"))
 sb:PySem.W.subIn K (.ref C) (.type "BaseException")=some true
 so:PySem.W.subIn K (.ref C) (.type "object")=some true
 cl:∃cd,PySem.W.clsIn K C=some cd
section
variable{prog:Program}{w:World}{A:Around}{E:Value->Shared->Prop}{h:Heap}{g:Array GenState}{d:Drawn}{t:Nat}{os:OsState}{a C:Addr}{o:Obj}{K:PySem.W.Frag}
theorem ZY{R:Result->Shared->Prop}(X:K.In h)(Z:cX K C)(hx:h.get? a=some o)(hc:o.cls=.ref C)(hq:R (.ok (.ret (.ref C))) ⟨h,g,d,t,os⟩):
  codeAny (model prog w) A (.call (.builtin "getset_descriptor.__get__") ⟨[.builtin "object.__class__",.ref a,.ref C],[]⟩) R ⟨h,g,d,t,os⟩:=by
 have hT5:(⟨h,g,d,t,os⟩:Shared).TypeIs (.builtin "object.__class__") "getset_descriptor":=F.typeOf_object_class
 have Ls:PySem.W.Looks (model prog w) h (isSubtype (.ref C) (.type (".".intercalate ("object.__class__".cutAt '.').dropLast))) true:=by
  rw[F.owner_object_class];exact PySem.W.looks_subIn X Z.so
 refine codeAny_call_builtin F.slot_gs_get.plain F.entry_gs_get (F.slot_gs_get.check _ _ _ _ _ _ _ _ hT5 (F.args_gs_get _ _ _) ?_)
 repeat (any_goals (first|assumption|(with_reducible refine wpAny_loadPart_at hx ?_;rw[hc])|(with_reducible refine PySem.W.Looks.at Ls ?_)|wp_step))
 refine⟨Code.quiet_builtin _ (by decide +kernel),codeAny_builtin F.entry_object_class ?_⟩
 repeat (any_goals (first|assumption|(with_reducible refine wpAny_loadPart_at hx ?_;rw[hc])|wp_step))
theorem ZZ{tk:Tok}{Q:Fin->Shared->Prop}(X:K.In h)(Z:cX K C)(hx:h.get? a=some o)(hc:o.cls=.ref C)(hq:Q (.done (.ret (.ref C))) ⟨h,g,d,t,os⟩):
  wpAny (model prog w) A (Builtin.«object.__getattribute__» ⟨[.ref a,.str "__class__" tk],[]⟩) Q E ⟨h,g,d,t,os⟩:=by
 have hT5:(⟨h,g,d,t,os⟩:Shared).TypeIs (.builtin "object.__class__") "getset_descriptor":=F.typeOf_object_class
 have f5:=F.typeOf_object_class
 have f6:=F.slot_gs_get.lookup
 have f7:=F.slot_gs_set.lookup
 have Lc:PySem.W.Looks (model prog w) h (typeLookup (.ref C) "__class__") (some (.builtin "object.__class__")):=PySem.W.looks_findIn X Z.gc
 repeat (any_goals (first|assumption|(with_reducible refine wpAny_loadPart_at hx ?_;rw[hc])|(with_reducible refine PySem.W.Looks.at Lc ?_)|wp_step))
 refine ZY X Z hx hc ?_
 repeat (any_goals (first|assumption|wp_step))
theorem Z3{M:Model}{nameV:Value}{Q:Unit->Shared->Prop}(X:K.In h)(Z:cX K C)(hx:h.get? a=some o)(hc:o.cls=.ref C)(hq:Q () ⟨h,g,d,t,os⟩):
  wpAny M A (checkBuiltinCall "BaseException.__getattribute__" ⟨[.ref a,nameV],[]⟩) Q E ⟨h,g,d,t,os⟩:=by
 have hk:builtinKind "BaseException.__getattribute__"=some .slot:=by decide +kernel
 have hsplit:splitId "BaseException.__getattribute__"=some ("BaseException","__getattribute__"):=by decide +kernel
 have ha:=F.args_bexc_ga (.ref a) nameV
 have Ls:PySem.W.Looks M h (isSubtype (.ref C) (.type "BaseException")) true:=PySem.W.looks_subIn X Z.sb
 simp only[checkBuiltinCall,hk,hsplit]
 refine wpAny_bind ?_
 unfold isInstance
 repeat (first|(with_reducible refine wpAny_loadPart_at hx ?_;rw[hc])|(with_reducible refine PySem.W.Looks.at Ls ?_)|wp_step)
 exact hq
theorem Z0{tk:Tok}{R:Result->Shared->Prop}(X:K.In h)(Z:cX K C)(hx:h.get? a=some o)(hc:o.cls=.ref C)(hq:R (.ok (.ret (.ref C))) ⟨h,g,d,t,os⟩):
  codeAny (model prog w) A (.call (.builtin "BaseException.__getattribute__") ⟨[.ref a,.str "__class__" tk],[]⟩) R ⟨h,g,d,t,os⟩:=
 codeAny_call_builtin PySem.F.excAttr_ValueError.ga.plain F.entry_bexc_ga (Z3 X Z hx hc (ZZ X Z hx hc hq))
theorem Z1{tk:Tok}{Q:Value->Shared->Prop}(X:K.In h)(Z:cX K C)(hx:h.get? a=some o)(hc:o.cls=.ref C)(hq:Q (.ref C) ⟨h,g,d,t,os⟩):
  wpAny (model prog w) A (getAttrBy (.ref a) (.str "__class__" tk) false) Q E ⟨h,g,d,t,os⟩:=by
 have f3:=PySem.F.excAttr_ValueError.ga.bind (.ref a)
 have hx2:(Value.builtin "BaseException.__getattribute__"==Value.builtin "object.__getattribute__")=false:=by decide +kernel
 have L1:PySem.W.Looks (model prog w) h (typeLookup (.ref C) "__getattribute__") (some (.builtin "BaseException.__getattribute__")):=PySem.W.looks_findIn X Z.ga
 have L2:PySem.W.Looks (model prog w) h (typeLookup (.ref C) "__getattr__") none:=PySem.W.looks_findIn X Z.gn
 have hx1:(onTheHeap (Value.ref C)&&Value.builtin "BaseException.__getattribute__"==Value.builtin "object.__getattribute__")=false:=by rw[hx2];rfl
 repeat (any_goals (first|assumption|(with_reducible refine wpAny_loadPart_at hx ?_;rw[hc])|(with_reducible refine PySem.W.Looks.at L1 ?_)|(with_reducible refine PySem.W.Looks.at L2 ?_)|wp_step))
 refine Z0 X Z hx hc ?_
 repeat (any_goals (first|assumption|wp_step))
theorem Z2{Q:Option Value->Shared->Prop}(X:K.In h)(Z:cX K C)(hx:h.get? a=some o)(hc:o.cls=.ref C)(hq:Q (some (.ref C)) ⟨h,g,d,t+1,os⟩):
  wpAny (model prog w) A (getAttr? (.ref a) "__class__") Q E ⟨h,g,d,t,os⟩:=by
 unfold getAttr? getAttrBy?
 repeat (any_goals (first|assumption|with_reducible apply Z1 X Z hx hc|wp_step))
end
theorem IV{K:PySem.W.Frag}{e C:Addr}(Z:cX K C):PySem.W.KitX K (.ref e) (.ref C) (λh=>∃ob,h.get? e=some ob/\ob.cls=.ref C) where
 ty:=λ_ h _⟨ob,h1,h2⟩=>h2▸(PySem.W.Looks.ld h1).andThen .now
 it:=λ_ _ X _=>by
  obtain⟨_,z⟩:=Z.cl
  unfold PySem.W.clsIn at z
  split at z
  ·rename_i c' d' cd' sl' ho
   intro A' Q' E' s' k q
   unfold isType loadHead
   exact wpAny_bind (wpAny_loadPart (k _ _ (X _ _ ho)) (wpAny_pure q))
  ·cases z
 ne:=λh tp dd its n sl X htp=>by
  refine Bool.eq_false_iff.mpr λq=>?_
  have e:C=tp:=Value.ref.inj (beq_iff_eq.mp q)
  subst e
  obtain⟨_,z⟩:=Z.cl
  unfold PySem.W.clsIn at z
  split at z
  ·rename_i c' d' cd' sl' ho
   have z:=(X _ _ ho).symm.trans htp
   cases z
  ·cases z
 ca:=λ{_ _ _ _ _ s}X p k=>by
  obtain⟨hh,g,d,t,os⟩:=s
  obtain⟨ob,h1,h2⟩:=p
  exact Z2 X Z h1 h2 k
theorem aaX:bootBuiltins "ValueError"=some (.type "ValueError"):=by decide +kernel
section
variable{X:Cx}
noncomputable def oP(K:PySem.W.Frag):List V->Hp->VK->Prop:=λxs H Q=>∃e C b,H e=some (lF e C)/\cX K C/\((∃D,xs=[.ref e,.ref D]/\PySem.W.kitOne K (.ref C) (.ref D)=some b)\/∃T,xs=[.ref e,.ty T]/\PySem.W.kitOne K (.ref C) (.type T)=some b)/\Q (.bl b) H
theorem aaE:CallR X (.builtin "isinstance") (oP X.K):=by
 intro pins s σ H xs us Q I r h
 obtain⟨e,C,b,he,Z,hk,q⟩:=h
 have ho:=I.hok e _ he
 obtain⟨⟨ob,h1,h2,_⟩,_⟩:=ho
 rcases hk with⟨D,rfl,hk⟩|⟨T,rfl,hk⟩
 ·obtain⟨u,v,rfl,rx,ry⟩:=Vals.two r
  cases(show u=Value.ref e from rx)
  cases(show v=Value.ref D from ry)
  exact PySem.W.kia_one (IV Z) I.kIn ⟨ob,h1,h2⟩ hk (λz=>nomatch z) λtk=>⟨.bl _,H,I.tok tk,rfl,q⟩
 ·obtain⟨u,v,rfl,rx,ry⟩:=Vals.two r
  cases(show u=Value.ref e from rx)
  cases(show v=Value.type T from ry)
  exact PySem.W.kia_one (IV Z) I.kIn ⟨ob,h1,h2⟩ hk (λz=>nomatch z) λtk=>⟨.bl _,H,I.tok tk,rfl,q⟩
theorem hZ(K:PySem.W.Frag)(h:X.K=K:=by rfl):CallR X (.builtin "isinstance") (oP K):=h▸aaE
theorem rN:∀{bs:List Bool}{us:List Value},Vals (bs.map V.bl) us->us=bs.map Value.bool
 |[],_,.nil=>rfl
 |b::bs,_,.cons r t=>by
  cases(show _=Value.bool b from r)
  rw[rN t]
  rfl
noncomputable def mQ(b:Bool):Value->Bool
 | .bool a=>a==b
 |_=>false
noncomputable def GP:V->List V->Hp->VK->Prop:=λx vs H Q=>∃(l:Addr)(bs:List Bool)(b:Bool),x=.ref l/\vs=[.bl b]/\H l=some (.lst (bs.map V.bl))/\Q (.int (bs.countP (· ==b):Nat)) H
theorem U8:nR X "list.count" GP:=by
 intro pins s σ H x vs v us Q I rx rv h
 obtain⟨l,bs,b,rfl,rfl,hH,q⟩:=h
 cases(show v=Value.ref l from rx)
 obtain⟨u,rfl,ru⟩:=rv.one
 cases(show u=Value.bool b from ru)
 obtain⟨z,its,n,r,hl,e⟩:=I.lstM hH
 obtain rfl:=rN r
 refine call_meets F.slot_list_count ⟨_,e,rfl⟩ F.entry_list_count (F.args_list_count_2 _ _) (SeqAt.list_countAt l _ n none #[] (.bool b) (mQ b)) ⟨e,λy hy=>?_,?_⟩
 ·have hy':y∈bs.map Value.bool:=by simpa using hy
  obtain⟨a,_,rfl⟩:=mem_map.mp hy'
  exact SeqAt.EqAt.bool_bool a b
 ·refine⟨.int _,H,I.tok _,⟨_,rfl⟩,?_⟩
  have:List.countP (mQ b) (List.map Value.bool bs).toArray.toList=bs.countP (· ==b):=by
   rw[List.toList_toArray,List.countP_map]
   rfl
  rw[this]
  exact q
noncomputable def GJ:V->List V->Hp->VK->Prop:=λx vs H Q=>∃(l:Addr)(bs:List Bool)(b:Bool)(j:Nat),x=.ref l/\vs=[.bl b]/\H l=some (.lst (bs.map V.bl))/\bs[j]? =some b/\(∀m,m<j->bs[m]? ≠some b)/\Q (.int (j:Nat)) H
theorem U7:nR X "list.index" GJ:=by
 intro pins s σ H x vs v us Q I rx rv h
 obtain⟨l,bs,b,j,rfl,rfl,hH,hj,hno,q⟩:=h
 cases(show v=Value.ref l from rx)
 obtain⟨u,rfl,ru⟩:=rv.one
 cases(show u=Value.bool b from ru)
 obtain⟨z,its,n,r,hl,e⟩:=I.lstM hH
 obtain rfl:=rN r
 obtain⟨hlt,hb⟩:=List.getElem?_eq_some_iff.mp hj
 have zz:(bs.map V.bl).length<=sizeLine:=by simpa using z
 rw[length_map]at zz
 have hsm:(j:Int)<2^63-1:=by
  have:sizeLine<2^62:=by decide
  lia
 refine call_meets F.slot_list_index ⟨_,e,rfl⟩ F.entry_list_index (F.args_list_index_2 _ _) (SeqAt.list_indexAt l _ n none #[] (.bool b) (mQ b) j (by simpa using hlt) hsm (by simp[mQ,hb]) (λm hm hmj=>?_)) ⟨e,λy hy=>?_,?_⟩
 ·have hm':m<bs.length:=by simpa using hm
  have:=hno m hmj
  rw[List.getElem?_eq_getElem hm']at this
  have hne:bs[m]≠b:=λz=>this (by rw[z])
  simp[mQ,hne]
 ·have hy':y∈bs.map Value.bool:=by simpa using hy
  obtain⟨a,_,rfl⟩:=mem_map.mp hy'
  exact SeqAt.EqAt.bool_bool a b
 ·exact⟨.int _,H,I.tok _,⟨_,rfl⟩,q⟩
end
theorem bU{K:PySem.W.Frag}{C D:Addr}{cd:ClassData}(h0:(Value.ref C==Value.ref D)=false)(h1:PySem.W.clsIn K D=some cd)(h2:PySem.W.typeIn K (.ref D)=some (.type "type"))(h3:PySem.W.subIn K (.ref C) (.ref D)=some false):PySem.W.kitOne K (.ref C) (.ref D)=some false:=by
 unfold PySem.W.kitOne PySem.W.kitCls
 rw[if_neg (by rw[h0];exact Bool.false_ne_true)]
 dsimp only
 rw[h1,h2]
 exact(if_pos rfl).trans h3
theorem pP{K:PySem.W.Frag}{C:Addr}:PySem.W.kitOne K (.ref C) (.ref C)=some true:=by
 unfold PySem.W.kitOne
 rw[if_pos (by simp)]
theorem pQ{K:PySem.W.Frag}{C:Addr}(h3:PySem.W.subIn K (.ref C) (.type "ValueError")=some true):PySem.W.kitOne K (.ref C) (.type "ValueError")=some true:=by
 unfold PySem.W.kitOne PySem.W.kitCls
 rw[if_neg (by simp)]
 exact(if_pos (by decide +kernel)).trans h3
theorem qG{K:PySem.W.Frag}{C D:Addr}{cd:ClassData}(h0:PySem.W.subIn K (.ref D) (.type "BaseException")=some true)(h1:PySem.W.clsIn K D=some cd)(h2:PySem.W.typeIn K (.ref D)=some (.type "type"))(h3:PySem.W.subIn K (.ref C) (.ref D)=some true):PySem.W.exmOne K (.ref C) (.ref D)=some true:=by
 unfold PySem.W.exmOne PySem.W.kitCls
 rw[h0,if_pos (by rfl)]
 dsimp only
 rw[h1,h2]
 exact(if_pos rfl).trans h3
structure RoomH (k:Nat) (A:Around):Prop where
 dp:A.depth+3*k+5<recursionLimit
 un:A.units+16*k+200<cLine
theorem Room.mark{k:Nat}{A:Around}(r:Room k A)(v:Option Value):RoomH k (A.mark v):=⟨r.dp,r.un⟩
theorem RoomH.mono{j k:Nat}{A:Around}(r:RoomH k A)(h:j<=k):RoomH j A:=⟨by have:=r.dp;lia,by have:=r.un;lia⟩
theorem RoomH.deeper{k:Nat}{A:Around}(r:RoomH (k+1) A)(env:Env):RoomH k (A.deeper env):=⟨by have:=r.dp;show A.depth+1+3*k+5<_;lia,by have:=r.un;show A.units+3+16*k+200<_;lia⟩
theorem RoomH.units{k:Nat}{A:Around}(r:RoomH k A):A.units+64<cLine:=by have:=r.un;lia
theorem RoomH.units0{k:Nat}{A:Around}(r:RoomH k A):A.units<cLine:=by have:=r.un;lia
structure B4 (P:Program) (w:World) (K:PySem.W.Frag) (mg:Str->Option Value) (base:Heap) (k:Nat) (f:Addr) (fd:FuncData) (ps:List Str) (sp:Sp):Prop where
 len:∀vs H Q E,sp vs H Q E->vs.length=ps.length
 run:∀(A:Around)(outer:List Env)(s:Shared)(H:Hp)(args:Args)(us:List Value)(vs:List V)(Q:VK),RoomH k A->Env0 P w K mg base A outer s H->BindsTo s fd args (ps.zip us)->Vals vs us->sp vs H Q E0->
  codeAny (model P w) A (.call (.ref f) args) (CR aU outer P w H s Q E0) s
noncomputable abbrev AH(P:Program)(w:World)(K:PySem.W.Frag)(mg:Str->Option Value)(base:Heap)(N:List Str)(qual:Str)(scope:Scope)(f:Addr)(cd:Value)(A:Around)(outer:List Env)(s:Shared)(H:Hp):Cx:=
 { cS aU P w K mg base N qual scope f cd A outer s H E0 with calm:=false,xe:=λ_ _=>False }
section
variable{P:Program}{w:World}{K:PySem.W.Frag}{mg:Str->Option Value}{base:Heap}
theorem Fun.okH{x qual:Str}{st:Stmt}{f:Addr}{fd:FuncData}{N ps:List Str}{k:Nat}{sp:Sp}(F:Fun K x qual st f fd)(S:aZ N ps (aJ st))(len:∀vs H Q E,sp vs H Q E->vs.length=ps.length)
  (hbody:∀(cdv:Value)(A:Around)(outer:List Env)(s:Shared)(H:Hp)(vs:List V)(Q:VK),RoomH k (A.deeper (envOfC qual (aJ st) s.heap.objs.size f cdv))->sp vs H Q E0->
   ∃t,PSs (AH P w K mg base N qual (aJ st) f cdv A outer s H) (fN st) t/\t { nx:=λ_ H'=>Q .non H',rt:=Q } (start N vs) H):B4 P w K mg base (k+1) f fd ps sp:=by
 obtain⟨oc,od,kV,doc,pm,an,cdv,ct,osl,rfl,lk,hcd⟩:=F.ex
 refine⟨len,λA outer s H args us vs Q hr e0 hb r hsp=>?_⟩
 have hl:=len _ _ _ _ hsp
 have KX:K.In s.heap:=e0.mod.kin.keeps λb o e=>(e0.bs b o e).1
 have lim:s.heap.NoLimit:=e0.mod.nolimit.keeps λb o e=>(e0.bs b o e).1
 have hkind:∀y∈ps.zip us,(aJ st).names.lookup y.1=some .local\/((aJ st).names.lookup y.1=some .cell/\((cellsFrom (s.heap.objs.size+1) (aJ st).names []).lookup y.1).isSome=true):=λ⟨n,v⟩hy=>by
  rcases S.par n (of_mem_zip hy).1 with q|q
  ·exact .inl q
  ·exact .inr ⟨q,PySem.W.cellsFrom_some _ _ _ (.inl q)⟩
 refine codeAny_call_function (by have:=hr.dp;lia) (KX _ _ lk) rfl S.co S.gen rfl (PySem.W.codeRec_of KX hcd) (hb _ _ _ _ ?_)
 refine wpAny_newFunctionEnv_cells S.kind hkind λenv he s1 x=>?_
 subst he
 refine⟨lim.keeps x.toInCall.keep,codeAny_func ?_⟩
 obtain⟨t,ht,hq⟩:=hbody cdv A outer s H vs Q (hr.deeper _) hsp
 have e0':Env0 P w K mg base { A with handled:=none } outer s H:=⟨e0.frames,e0.mod,e0.bs,e0.bsz,e0.funs,e0.frf,e0.hok,e0.bare⟩
 have I0:Inv (cS aU P w K mg base N qual (aJ st) f cdv { A with handled:=none } outer s H E0) [] (start N vs) H s1:=JD S rfl e0' hl r x
 have I:Inv (AH P w K mg base N qual (aJ st) f cdv A outer s H) [] (start N vs) H s1:=
  ⟨⟨I0.ok.mod,I0.ok.kind,I0.ok.glob,I0.ok.blt,I0.ok.above,I0.ok.inj,I0.ok.has,I0.ok.cab,(λz=>absurd z Bool.false_ne_true),Around.frames_deeper e0.frames,I0.ok.stk,I0.ok.exf,I0.ok.bs,I0.ok.bsz,I0.ok.noex,I0.ok.exfs,I0.ok.funs,I0.ok.frf⟩,I0.os,I0.bare,I0.base,I0.loc,I0.cell,I0.free,I0.freeC,I0.pin,I0.hok,I0.len⟩
 refine wpAny_mono (ht [] s1 (start N vs) H _ I hq) (λfl s' hs=>?_) λe s' hs=>False.elim hs
 have fin:∀{σ':St}{H':Hp}{v:V}{u:Value},Inv (AH P w K mg base N qual (aJ st) f cdv A outer s H) [] σ' H' s'->RelV v u->Q v H'->CE outer P w H s Q u s':=
  λ{σ' H' v u}J rv q=>⟨v,H',J.os,J.bare,J.base,J.hok,rv,q⟩
 cases fl with
 |ret u=>
  obtain⟨v,σ',H',J,rv,q⟩:=hs
  exact fin J rv q
 |next=>
  obtain⟨σ',H',J,q⟩:=hs
  exact fin (v:=V.non) (u:=Value.none) J rfl q
 |brk=>
  obtain⟨_,_,_,q⟩:=hs
  exact False.elim q
 |cont=>
  obtain⟨_,_,_,q⟩:=hs
  exact False.elim q
end
section
variable{X:Cx}{k:Nat}{f:Addr}{fd:FuncData}{ps:List Str}{sp:Sp}{x:Str}{p pos:Pos}{e:Expr}{es:List Expr}{t:TA}
theorem SX(F:B4 X.prog X.w X.K X.mg X.base k f fd ps sp)(hr:RoomH k X.A)(hg:Gl X x)(hm:X.mg x=some (.ref f))(hk:PySem.W.keepIn X.K (.ref f)=true)(hb:Binds X.K fd ps [])
  (ha:PA X (e::es) t) (hdb:(x==("__debug__":Str))=false:=by decide) (he:starEach (e::es) X.env=(false,eval e X.env)::starEach es X.env:=by rfl) (hpl:(backTo pos (starEach es X.env)).any (·.1)=false:=by rfl):
  PE X (.Call (.Name x p) (e::es) [] pos) (sC sp [] E0 t):=by
 intro pins s σ H Q I h
 refine wpAny_Call_Name_kw (kC I hg hm ?_ hdb)
 refine PySem.W.callWith_K (h₀:=X.base) I.ok.mod.kin hk (aH (ha pos pins s σ H _ I h) λus s1⟨vs,H1,I1,r,q⟩=>⟨I1.kIn,?_⟩) he hpl
 have q':sp vs H1 Q E0:=by simpa using q
 have hl:us.length=ps.length:=by rw[<-r.length];exact F.len _ _ _ _ q'
 have hb':=hb s1 us I1.kIn (by simpa using hl)
 rw[append_nil]at hb'
 refine wpAny_call (codeAny_mono (F.run X.A X.stack s1 H1 ⟨us,[]⟩ us vs Q hr I1.env0 hb' r q') λr s' hq=>?_)
 cases r with
 |error e=>exact hq.elim
 |ok fl=>
  cases fl with
  |ret u=>exact I1.after hq
  |next=>exact False.elim hq
  |brk=>exact False.elim hq
  |cont=>exact False.elim hq
end
section
variable{σ:St}{H:Hp}{Q:VK}{D:eP}{K:PySem.W.Frag}
theorem iO{e C D:Addr}{b:Bool}(he:H e=some (lF e C))(Z:cX K C)(hk:PySem.W.kitOne K (.ref C) (.ref D)=some b)(h:Q (.bl b) H):oP K [.ref e,.ref D] H Q:=⟨e,C,b,he,Z,.inl ⟨D,rfl,hk⟩,h⟩
theorem Q0{e C:Addr}{T:String}{b:Bool}(he:H e=some (lF e C))(Z:cX K C)(hk:PySem.W.kitOne K (.ref C) (.type T)=some b)(h:Q (.bl b) H):oP K [.ref e,.ty T] H Q:=⟨e,C,b,he,Z,.inr ⟨T,rfl,hk⟩,h⟩
theorem RL{l:Addr}{bs:List Bool}{b:Bool}(hl:H l=some (.lst (bs.map V.bl)))(h:Q (.int (bs.countP (· ==b):Nat)) H):GP (.ref l) [.bl b] H Q:=⟨l,bs,b,rfl,rfl,hl,h⟩
theorem Q8{l:Addr}{bs:List Bool}{b:Bool}{j:Nat}(hl:H l=some (.lst (bs.map V.bl)))(hj:bs[j]? =some b)(hno:∀m,m<j->bs[m]? ≠some b)(h:Q (.int (j:Nat)) H):GJ (.ref l) [.bl b] H Q:=⟨l,bs,b,j,rfl,rfl,hl,hj,hno,h⟩
theorem QG{E:XK}{C:Addr}{t:TA}(h:t σ H λvs H1=>vs.length<=sizeLine/\E (.ref C) none H1):C8 E C t D σ H:=h
end
section
variable{P:Program}{w:World}{A:Around}{E:Value->Shared->Prop}
end
section
variable{X:Cx}
end
section
variable{K:PySem.W.Frag}{σ:St}{H:Hp}
end
section
variable{P:Program}{w:World}{A:Around}{E:Value->Shared->Prop}{s:Shared}
end
section
variable{X:Cx}
end
section
variable{K:PySem.W.Frag}{σ:St}{H:Hp}{Q:VK}
end
noncomputable def Fresh(H H':Hp)(v:V)(d:PyData):Prop:=∀H2:Hp,(∀a u,H a=none->H' a=some u->H2 a=some u)->Is H2 v d
inductive FreshAll (H H':Hp):List V->List PyData->Prop
 |nil:FreshAll H H' [] []
 |cons {v:V} {d:PyData} {vs:List V} {ds:List PyData}:Fresh H H' v d->FreshAll H H' vs ds->FreshAll H H' (v::vs) (d::ds)
theorem Fresh.mono{H H1 H2 H3:Hp}{v:V}{d:PyData}(s1:Same H H1)(s2:Same H2 H3)(h:Fresh H1 H2 v d):Fresh H H3 v d:=λK k=>h K λa u n e=>k a u (by
 cases q:H a with
 |none=>rfl
 |some w=>rw[s1 _ _ q]at n;cases n) (s2 _ _ e)
theorem FreshAll.mono{H H1 H2 H3:Hp}(s1:Same H H1)(s2:Same H2 H3):∀{vs:List V}{ds:List PyData},FreshAll H1 H2 vs ds->FreshAll H H3 vs ds
 |_,_,.nil=>.nil
 |_,_,.cons h t=>.cons (h.mono s1 s2) (t.mono s1 s2)
theorem FreshAll.length{H H':Hp}:∀{vs:List V}{ds:List PyData},FreshAll H H' vs ds->vs.length=ds.length
 |_,_,.nil=>rfl
 |_,_,.cons _ t=>by rw[length_cons,length_cons,t.length]
theorem FreshAll.is{H H' H2:Hp}(k:∀a u,H a=none->H' a=some u->H2 a=some u):∀{vs:List V}{ds:List PyData},FreshAll H H' vs ds->IsAll H2 vs ds
 |_,_,.nil=>.nil
 |_,_,.cons h t=>.cons (h H2 k) (t.is k)
theorem FreshAll.mem{H H':Hp}:∀{vs:List V}{ds:List PyData}{v:V},FreshAll H H' vs ds->v∈vs->∃d∈ds,Fresh H H' v d
 |_,_,_,.nil,h=>nomatch h
 | _,_,_,.cons h t,hv=>by
  rcases mem_cons.mp hv with rfl|hv
  ·exact⟨_,mem_cons_self,h⟩
  ·obtain⟨d,hd,f⟩:=t.mem hv
   exact⟨d,mem_cons_of_mem _ hd,f⟩
noncomputable def jL(d:PyData):TE:=λ_ H Q=>∀v H',Same H H'->Fresh H H' v d->Q v H'
noncomputable def kT(ds:List PyData):TA:=λ_ H P=>∀vs H',Same H H'->FreshAll H H' vs ds->P vs H'
section
variable{X:Cx}{e:Expr}{es:List Expr}{pos:Pos}{d:PyData}{ds:List PyData}
theorem PE.imp{t t':TE}(h:PE X e t)(k:∀σ H Q,t' σ H Q->t σ H Q):PE X e t':=λpins s σ H Q I q=>h pins s σ H Q I (k σ H Q q)
theorem PA.imp{t t':TA}(h:PA X es t)(k:∀σ H Q,t' σ H Q->t σ H Q):PA X es t':=λpos pins s σ H Q I q=>h pos pins s σ H Q I (k σ H Q q)
theorem SK{i:Int}{j}:PE X (.Constant (.int i) j pos) (jL (.int i)):=pe_int.imp λ_ H Q q=>q _ H (Same.refl H) λ_ _=>.int i
theorem SL{b:Bool}{j}:PE X (.Constant (.bool b) j pos) (jL (.bool b)):=pe_bl.imp λ_ H Q q=>q _ H (Same.refl H) λ_ _=>.bl b
theorem SH{j}:PE X (.Constant .none j pos) (jL .none):=pe_non.imp λ_ H Q q=>q _ H (Same.refl H) λ_ _=>.non
theorem SG{x:Str}{j}:PE X (.Constant (.str x) j pos) (jL (.str x)):=pe_str.imp λ_ H Q q=>q _ H (Same.refl H) λ_ _=>.str x
theorem SI{i:Int}{j p2}:PE X (.UnaryOp .USub (.Constant (.int i) j p2) pos) (jL (.int (-i))):=(iU iL pe_int).imp λ_ H Q q=>⟨i,rfl,q _ H (Same.refl H) λ_ _=>.int (-i)⟩
theorem SD:PA X [] (kT []):=pa_nil.imp λ_ H P q=>q [] H (Same.refl H) .nil
theorem j3(ha:PE X e (jL d))(hr:PA X es (kT ds))(hs:starEach (e::es) X.env=(false,eval e X.env)::starEach es X.env:=by rfl):PA X (e::es) (kT (d::ds)):=
 (aA ha hr hs).imp λ_ H P q v H1 s1 f1 vs H2 s2 f2=>q (v::vs) H2 (s1.trans s2) (.cons (f1.mono (Same.refl _) s2) (f2.mono s1 (Same.refl _)))
theorem SF{x1}(h:PA X es (kT ds))(hz:ds.length<=sizeLine:=by decide):PE X (.Tuple es x1 pos) (jL (.tuple ds)):=
 (aV h).imp λ_ H Q q vs H1 s1 f1=>⟨by rw[f1.length];exact hz,λp hp=>q _ _ (s1.trans (Same.upd hp)) λH2 k=>.tup (k p _ (by
  cases e:H p with
  |none=>rfl
  |some u=>rw[s1 _ _ e]at hp;cases hp) aB) (f1.is λa u n e=>k a u n (by rw[aE (aI e hp)];exact e))⟩
theorem SJ(h:PA X es (kT ds))(hz:ds.length<=sizeLine:=by decide):PE X (.List es pos) (jL (.list ds)):=
 (eF h).imp λ_ H Q q vs H1 s1 f1=>⟨by rw[f1.length];exact hz,λp hp=>q _ _ (s1.trans (Same.upd hp)) λH2 k=>.lst (Rd.of (k p _ (by
  cases e:H p with
  |none=>rfl
  |some u=>rw[s1 _ _ e]at hp;cases hp) aB)) (f1.is λa u n e=>k a u n (by rw[aE (aI e hp)];exact e))⟩
end
inductive CallL (X:Cx) (E:XK):List (Addr×Sp)->Prop
 |nil:CallL X E []
 |cons {CX:dH} {k:Nat} {f:Addr} {fd:FuncData} {ps:List Str} {sp:Sp} {l:List (Addr×Sp)} (F:FnOk X.prog X.w X.K X.mg X.base CX k f fd ps sp) (hr:Room k X.A) (hk:PySem.W.keepIn X.K (.ref f)=true) (hb:Binds X.K fd ps []) (hx:gQ CX X E) (r:CallL X E l):CallL X E ((f,sp)::l)
theorem CallL.get{X:Cx}{E:XK}:∀{l:List (Addr×Sp)}{i:Nat}{f:Addr}{sp:Sp},CallL X E l->l[i]? =some (f,sp)->∃(CX:dH)(k:Nat)(fd:FuncData)(ps:List Str),FnOk X.prog X.w X.K X.mg X.base CX k f fd ps sp/\Room k X.A/\PySem.W.keepIn X.K (.ref f)=true/\Binds X.K fd ps []/\gQ CX X E
 |_,_,_,_,.nil,e=>by simp at e
 |_,0,_,_,.cons F hr hk hb hx r,e=>by simp at e;obtain⟨rfl,rfl⟩:=e;exact⟨_,_,_,_,F,hr,hk,hb,hx⟩
 |_,i+1,_,_,.cons F hr hk hb hx r,e=>r.get (i:=i) (by simpa using e)
section
variable{prog:Program}{w:World}{A:Around}{E:Value->Shared->Prop}{s:Shared}
end
section
variable{X:Cx}
end
end L2
namespace L2
open PySem PySem.Spec PyProof.Rows
open AutoSeq1 (wpAny_loadPart')
section
variable{prog:Program}{w:World}{A:Around}{E:Value->Shared->Prop}{s:Shared}
end
section
variable{X:Cx}
end
section
variable{σ:St}{H:Hp}{Q:VK}{K:PySem.W.Frag}
end
end L2
namespace L2
open PySem PySem.Spec PyProof.Rows
section
variable{K:PySem.W.Frag}{σ:St}{H:Hp}{Q:VK}
theorem uR{r:V->Option Int->Option Int->Hp->VK->Prop}{te:TE}{tl th:TO}(h:te σ H λx H1=>tl σ H1 λl H2=>th σ H2 λu H3=>r x l u H3 Q):C6 r te tl th σ H Q:=h
theorem uU{P:Option Int->Hp->Prop}(h:P none H):DC σ H P:=h
theorem uT{te:TE}{P:Option Int->Hp->Prop}(h:te σ H λx H1=>∃i,x=.int i/\P (some i) H1):C9 te σ H P:=h
theorem FR{a:Addr}{xs:List V}{lo hi:Option Int}(e:H a=some (.tup xs))(hn:¬(HT.bA xs.length 0 lo=0/\HT.bA xs.length xs.length hi=xs.length))(h:∀p,H p=none->Q (.ref p) (upd H p (.tup (jC xs lo hi)))):l7 K (.ref a) lo hi H Q:=⟨a,xs,rfl,SqT.of e,hn,h⟩
theorem P7{a:Addr}{v:V}{xs:List V}(e:H a=some (.tup (v::xs)))(h:∀p,H p=none->Q (.ref p) (upd H p (.tup xs))):l7 K (.ref a) (some 1) none H Q:=by
 have e1:HT.bA (v::xs).length 0 (some 1)=1:=by
  have:=HT.O9 (v::xs).length 0 1
  rw[show((1:Nat):Int)=1 from rfl]at this
  rw[this,length_cons]
  lia
 refine FR e (λz=>by rw[e1]at z;exact absurd z.1 (by decide)) λp hp=>?_
 have:jC (v::xs) (some 1) none=xs:=by
  unfold jC
  rw[e1,HT.E8,length_cons]
  simp
 rw[this]
 exact h p hp
theorem FW{a:Addr}{v:V}{xs:List V}(e:H a=some (.tup (xs++[v])))(h:∀p,H p=none->Q (.ref p) (upd H p (.tup xs))):l7 K (.ref a) none (some (-1)) H Q:=by
 have e1:HT.bA (xs++[v]).length (xs++[v]).length (some (-1))=xs.length:=by
  show(if(-1:Int)<0 then((-1:Int)+((xs++[v]).length:Int)).toNat else min (-1:Int).toNat (xs++[v]).length)=_
  rw[if_pos (by decide),length_append,length_singleton]
  lia
 refine FR e (λz=>by rw[e1,length_append,length_singleton]at z;lia) λp hp=>?_
 have:jC (xs++[v]) none (some (-1))=xs:=by
  unfold jC
  rw[e1,HT.E8]
  simp
 rw[this]
 exact h p hp
theorem FreshAll.append{H H':Hp}:∀{vs:List V}{ds:List PyData}{ws:List V}{es:List PyData},FreshAll H H' vs ds->FreshAll H H' ws es->FreshAll H H' (vs++ws) (ds++es)
 |_,_,_,_,.nil,h=>h
 |_,_,_,_,.cons a t,h=>.cons a (t.append h)
end
inductive Lit:List Expr->List PyData->Prop
 |nil:Lit [] []
 |int {i:Int} {j p es ds}:Lit es ds->Lit (.Constant (.int i) j p::es) (.int i::ds)
 |bl {b:Bool} {j p es ds}:Lit es ds->Lit (.Constant (.bool b) j p::es) (.bool b::ds)
 |non {j p es ds}:Lit es ds->Lit (.Constant .none j p::es) (.none::ds)
 |str {x:Str} {j p es ds}:Lit es ds->Lit (.Constant (.str x) j p::es) (.str x::ds)
 |neg {i:Int} {j p p2 es ds}:Lit es ds->Lit (.UnaryOp .USub (.Constant (.int i) j p2) p::es) (.int (-i)::ds)
 |tup {es' ds' x p es ds}:Lit es' ds'->ds'.length<=100->Lit es ds->Lit (.Tuple es' x p::es) (.tuple ds'::ds)
 |lst {es' ds' p es ds}:Lit es' ds'->ds'.length<=100->Lit es ds->Lit (.List es' p::es) (.list ds'::ds)
theorem Lit.pa{X:Cx}{es:List Expr}{ds:List PyData}(h:Lit es ds):PA X es (kT ds):=by
 have hz:100<=sizeLine:=by decide
 induction h with
 |nil=>exact SD
 |int _ ih=>exact j3 SK ih
 |bl _ ih=>exact j3 SL ih
 |non _ ih=>exact j3 SH ih
 |str _ ih=>exact j3 SG ih
 |neg _ ih=>exact j3 SI ih
 |tup _ h _ ih1 ih2=>exact j3 (SF ih1 (Nat.le_trans h hz)) ih2
 |lst _ h _ ih1 ih2=>exact j3 (SJ ih1 (Nat.le_trans h hz)) ih2
section
variable{κ:Type}[DecidableEq κ]
noncomputable def cQ(kvs:List (κ×V))(k:κ):Option V:=(kvs.find? λkv=>decide (kv.1=k)).map (·.2)
noncomputable def cZ(kvs:List (κ×V))(k:κ)(v:V):List (κ×V):=
 if(kvs.any λkv=>decide (kv.1=k))=true then kvs.map (λkv=>if kv.1=k then(kv.1,v) else kv) else kvs++[(k,v)]
noncomputable def JY(kvs:List (κ×V))(k:κ):List (κ×V):=kvs.filter λkv=>decide (kv.1≠k)
theorem M6{k:κ}:cQ ([]:List (κ×V)) k=none:=rfl
theorem nX{p:κ×V}{r:List (κ×V)}{k:κ}(e:p.1=k):cQ (p::r) k=some p.2:=by simp[cQ,List.find?_cons,e]
theorem nY{p:κ×V}{r:List (κ×V)}{k:κ}(e:¬p.1=k):cQ (p::r) k=cQ r k:=by simp[cQ,List.find?_cons,e]
theorem CS(k:κ):∀kvs:List (κ×V),(kvs.any λkv=>decide (kv.1=k))=(cQ kvs k).isSome
 |[]=>rfl
 |p::r=>by
  rw[any_cons]
  by_cases e:p.1=k
  ·simp only[nX e,decide_eq_true e,Bool.true_or,Option.isSome_some]
  ·rw[nY e,decide_eq_false e,Bool.false_or];exact CS k r
theorem IT(kvs:List (κ×V))(k:κ)(v:V):(cZ kvs k v).length<=kvs.length+1:=by
 unfold cZ
 split
 ·rw[length_map];lia
 ·rw[length_append,length_cons,length_nil];lia
theorem RelO.isSome_eq{o:Option V}{u:Option Value}(r:RelO o u):o.isSome=u.isSome:=by
 cases o with
 |none=>cases u with
  |none=>rfl
  |some _=>exact(show False from r).elim
 |some _=>cases u with
  |none=>exact(show False from r).elim
  |some _=>rfl
theorem RelO.getD{o:Option V}{u:Option Value}{d:V}{d':Value}(r:RelO o u)(rd:RelV d d'):RelV (o.getD d) (u.getD d'):=by
 cases o with
 |none=>cases u with
  |none=>exact rd
  |some _=>exact(show False from r).elim
 |some _=>cases u with
  |none=>exact(show False from r).elim
  |some _=>exact r
theorem KV.val{kvs:List (κ×V)}{vs:List (κ×Value)}(r:KV kvs vs)(k:κ):RelO (cQ kvs k) (valueAt vs k):=by
 unfold KV at r
 induction r with
 |nil=>exact True.intro
 | @cons p q ps qs h t ih=>
  obtain⟨h1,h2⟩:=h
  by_cases e:p.1=k
  ·have e':q.1=k:=h1.symm.trans e
   have b:valueAt (q::qs) k=some q.2:=by simp[valueAt,List.find?_cons,e']
   rw[nX e,b];exact h2
  ·have e':¬q.1=k:=λz=>e (h1.trans z)
   have b:valueAt (q::qs) k=valueAt qs k:=by simp[valueAt,List.find?_cons,e']
   rw[nY e,b];exact ih
theorem KV.any{kvs:List (κ×V)}{vs:List (κ×Value)}(r:KV kvs vs)(k:κ):(kvs.any λkv=>decide (kv.1=k))=vs.any λkv=>decide (kv.1=k):=by
 unfold KV at r
 induction r with
 |nil=>rfl
 |cons h t ih=>rw[any_cons,any_cons,ih,h.1]
theorem KV.repl{kvs:List (κ×V)}{vs:List (κ×Value)}(r:KV kvs vs)(k:κ){y:V}{u:Value}(ry:RelV y u):
  KV (kvs.map λkv=>if kv.1=k then(kv.1,y) else kv) (vs.map λkv=>if kv.1=k then(kv.1,u) else kv):=by
 unfold KV at r ⊢
 induction r with
 |nil=>exact .nil
 |@cons p q ps qs h t ih=>
  rw[map_cons,map_cons]
  refine .cons ?_ ih
  obtain⟨h1,h2⟩:=h
  by_cases e:p.1=k
  ·rw[if_pos e,if_pos (h1.symm.trans e)];exact⟨h1,ry⟩
  ·rw[if_neg e,if_neg (λz=>e (h1.trans z))];exact⟨h1,h2⟩
theorem KV.put{kvs:List (κ×V)}{vs:List (κ×Value)}(r:KV kvs vs)(k:κ){y:V}{u:Value}(ry:RelV y u):KV (cZ kvs k y) (stored vs k u):=by
 unfold cZ stored
 rw[r.any k]
 by_cases e:(vs.any λkv=>decide (kv.1=k))=true
 ·rw[if_pos e,if_pos e];exact r.repl k ry
 ·rw[if_neg e,if_neg e];exact Paired.snoc r ⟨rfl,ry⟩
theorem KV.drop{kvs:List (κ×V)}{vs:List (κ×Value)}(r:KV kvs vs)(k:κ):KV (JY kvs k) (without vs k):=by
 unfold KV at r ⊢
 unfold JY without
 induction r with
 |nil=>exact .nil
 | @cons p q ps qs h t ih=>
  obtain⟨h1,h2⟩:=h
  rw[List.filter_cons,List.filter_cons]
  by_cases e:p.1=k
  ·have a:¬decide (p.1≠k)=true:=by simp[e]
   have b:¬decide (q.1≠k)=true:=by simp[h1.symm.trans e]
   rw[if_neg a,if_neg b];exact ih
  ·have e':¬q.1=k:=λz=>e (h1.trans z)
   have a:decide (p.1≠k)=true:=by simp[e]
   have b:decide (q.1≠k)=true:=by simp[e']
   rw[if_pos a,if_pos b];exact .cons ⟨h1,h2⟩ ih
theorem KV.length{kvs:List (κ×V)}{vs:List (κ×Value)}(r:KV kvs vs):kvs.length=vs.length:=Paired.length r
end
theorem IX{P:Program}{w:World}{k:aG}{u:Value}(r:RelV (kV k) u):(fW P w).is k u=true:=by
 cases k with
 |inl i=>obtain⟨t,e⟩:=(show ∃t,u=Value.int i t from r);subst e;exact VC P w i t
 |inr x=>obtain⟨t,e⟩:=(show ∃t,u=Value.str x t from r);subst e;exact VB P w x t
theorem IZ{P:Program}{w:World}:∀{ks:List aG}{us:List Value},Vals (ks.map kV) us->ItemsAre (fW P w) ks us
 |[],_,r=>by rw[map_nil]at r;cases r;exact .nil
 |k::ks,_,r=>by
  rw[map_cons]at r
  cases r with
  |cons h t=>exact .cons (IX h) (IZ t)
noncomputable abbrev KT(H:Hp):List (List aG×V)->List (List aG×Addr×Value)->Prop:=Paired λp q=>p.1=q.1/\H q.2.1=some (.tup (p.1.map kV))/\RelV p.2 q.2.2
theorem KT.val{H:Hp}{kvs:List (List aG×V)}{xs:List (List aG×Addr×Value)}(r:KT H kvs xs)(k:List aG):RelO (cQ kvs k) ((atKey xs k).map (·.2)):=by
 induction r with
 |nil=>exact True.intro
 | @cons p q ps qs h t ih=>
  obtain⟨h1,_,h2⟩:=h
  by_cases e:p.1=k
  ·have e':q.1=k:=h1.symm.trans e
   have b:atKey (q::qs) k=some q.2:=by simp[atKey,List.find?_cons,e']
   rw[nX e,b];exact h2
  ·have e':¬q.1=k:=λz=>e (h1.trans z)
   have b:atKey (q::qs) k=atKey qs k:=by simp[atKey,List.find?_cons,e']
   rw[nY e,b];exact ih
theorem KT.repl{H:Hp}{kvs:List (List aG×V)}{xs:List (List aG×Addr×Value)}(r:KT H kvs xs)(k:List aG){y:V}{u:Value}(ry:RelV y u):
  KT H (kvs.map λkv=>if kv.1=k then(kv.1,y) else kv) (xs.map (putAt k u)):=by
 induction r with
 |nil=>exact .nil
 |@cons p q ps qs h t ih=>
  rw[map_cons,map_cons]
  refine .cons ?_ ih
  obtain⟨h1,h2,h3⟩:=h
  unfold putAt
  by_cases e:p.1=k
  ·rw[if_pos e,if_pos (h1.symm.trans e)];exact⟨h1,h2,ry⟩
  ·rw[if_neg e,if_neg (λz=>e (h1.trans z))];exact⟨h1,h2,h3⟩
theorem KT.put{H:Hp}{kvs:List (List aG×V)}{xs:List (List aG×Addr×Value)}(r:KT H kvs xs)(k:List aG){b:Addr}{y:V}{u:Value}(hb:H b=some (.tup (k.map kV)))(ry:RelV y u):
  KT H (cZ kvs k y) (storedH xs k b u):=by
 have e:(kvs.any λkv=>decide (kv.1=k))=(atKey xs k).isSome:=by
  rw[CS,(r.val k).isSome_eq,Option.isSome_map]
 unfold cZ storedH
 rw[e]
 by_cases q:(atKey xs k).isSome=true
 ·rw[if_pos q,if_pos q];exact r.repl k ry
 ·rw[if_neg q,if_neg q];exact Paired.snoc r ⟨rfl,hb,ry⟩
theorem KT.keeps{H H':Hp}{kvs:List (List aG×V)}{xs:List (List aG×Addr×Value)}(r:KT H kvs xs)(ht:∀b ys,H b=some (.tup ys)->H' b=some (.tup ys)):KT H' kvs xs:=
 Paired.mapP r λ_ _ z=>⟨z.1,ht _ _ z.2.1,z.2.2⟩
section
variable{P:Program}{w:World}{H:Hp}{h:Heap}{a:Addr}
theorem FS{u:HO}(ok:HOk P w H h)(e:Rd H a u):ObjOk P w H h a u:=e.ok ok
theorem ZM{kvs:List (aG×V)}(ok:HOk P w H h)(e:Rd H a (.dK kvs)):kvs.length<=sizeLine/\(a==sysModules)=false/\∃vs,KV kvs vs/\h.DictOf (fW P w) a vs:=
 show ObjOk P w H h a (.dK kvs) from FS ok e
theorem xX{ks:List aG}(ok:HOk P w H h)(e:H a=some (.tup (ks.map kV))):(tupleKind (fW P w)).is h ks a:=by
 obtain⟨_,its,r,⟨o,h1,h2,n,h3⟩,_⟩:=(show ObjOk P w H h a (.tup (ks.map kV)) from ok a _ e)
 exact⟨o,its.toArray,n,h1,h2,h3,by simpa using IZ r⟩
theorem JW{kvs:List (List aG×V)}(ok:HOk P w H h)(e:Rd H a (.dT kvs)):kvs.length<=sizeLine/\(a==sysModules)=false/\
  ∃xs,KT H kvs xs/\h.DictOfH (tupleKind (fW P w)) a xs:=by
 obtain⟨z,y,xs,r,o,es,ep,h1,h2,h3,h4,h5⟩:=(show ObjOk P w H h a (.dT kvs) from FS ok e)
 refine⟨z,y,xs,r,o,es,ep,h1,h2,h3,h4,λx hx=>?_,h5⟩
 have all:∀{l:List (List aG×V)}{m:List (List aG×Addr×Value)},KT H l m->∀x∈m,(tupleKind (fW P w)).is h x.1 x.2.1:=by
  intro l m q
  induction q with
  |nil=>intro x hx;exact nomatch hx
  | @cons p q ps qs hq t ih=>
   intro x hx
   rcases mem_cons.mp hx with e|hx
   ·subst e
    exact xX ok (by rw[<-hq.1];exact hq.2.1)
   ·exact ih x hx
 exact all r x hx
theorem JX{kvs:List (List aG×V)}(ok:HOk P w H h)(e:H a=some (.dT kvs)):kvs.length<=sizeLine/\(a==sysModules)=false/\
  ∃xs,KT H kvs xs/\h.DictOfH (tupleKind (fW P w)) a xs:=JW ok (.inl e)
end
noncomputable def DGet(H:Hp)(a:Addr)(y:V)(r:Option V):Prop:=
 (∃kvs k,Rd H a (.dK kvs)/\y=kV k/\r=cQ kvs k)\/∃kvs k b,Rd H a (.dT kvs)/\y=.ref b/\H b=some (.tup (k.map kV))/\r=cQ kvs k
noncomputable def DPut(H:Hp)(a:Addr)(y v:V)(H':Hp):Prop:=
 (∃kvs k,H a=some (.dK kvs)/\y=kV k/\kvs.length<sizeLine/\H'=upd H a (.dK (cZ kvs k v)))\/
 ∃kvs k b,H a=some (.dT kvs)/\y=.ref b/\H b=some (.tup (k.map kV))/\kvs.length<sizeLine/\H'=upd H a (.dT (cZ kvs k v))
theorem DGet.k{H:Hp}{a:Addr}{kvs:List (aG×V)}{k:aG}(e:H a=some (.dK kvs)):DGet H a (kV k) (cQ kvs k):=.inl ⟨kvs,k,.inl e,rfl,rfl⟩
theorem DGet.t{H:Hp}{a b:Addr}{kvs:List (List aG×V)}{k:List aG}(e:H a=some (.dT kvs))(eb:H b=some (.tup (k.map kV))):DGet H a (.ref b) (cQ kvs k):=.inr ⟨kvs,k,b,.inl e,rfl,eb,rfl⟩
theorem DPut.k{H:Hp}{a:Addr}{kvs:List (aG×V)}{k:aG}{v:V}(e:H a=some (.dK kvs))(hl:kvs.length<sizeLine):DPut H a (kV k) v (upd H a (.dK (cZ kvs k v))):=.inl ⟨kvs,k,e,rfl,hl,rfl⟩
theorem DPut.t{H:Hp}{a b:Addr}{kvs:List (List aG×V)}{k:List aG}{v:V}(e:H a=some (.dT kvs))(eb:H b=some (.tup (k.map kV)))(hl:kvs.length<sizeLine):
  DPut H a (.ref b) v (upd H a (.dT (cZ kvs k v))):=.inr ⟨kvs,k,b,e,rfl,eb,hl,rfl⟩
section
variable{X:Cx}{pins:List (Addr×Obj)}{σ:St}{H:Hp}{s:Shared}{a:Addr}{y v:V}{u r:Value}{o:Option V}{A:Around}{E:Value->Shared->Prop}
theorem Inv.big(I:Inv X pins σ H s):sysModules<s.heap.objs.size:=by
 have h:mainGlobals<s.heap.objs.size:=(I.mod.glob.keeps I.bk).lt
 exact Nat.lt_trans (by decide) h
theorem ZS{Q:Value->Shared->Prop}(hu:A.units+1<cLine)(I:Inv X pins σ H s)(g:DGet H a y o)(ry:RelV y u)(h:∀s',Inv X pins σ H s'->Q (.bool (!o.isSome)) s'):
  wpAny (model X.prog X.w) A (compareOp .NotIn u (.ref a)) Q E s:=by
 rcases g with⟨kvs,k,e,ey,l⟩|⟨kvs,k,b,e,ey,eb,l⟩
 ·subst ey
  obtain⟨z,hd,vs,rel,dd⟩:=ZM I.hok e
  refine wpAny_notIn_of (IX ry) hd dd.mapOf ?_
  rw[<-(rel.val k).isSome_eq,<-l]
  exact h _ (I.tok _)
 ·subst ey
  cases(show u=Value.ref b from ry)
  obtain⟨z,hd,xs,rel,dd⟩:=JW I.hok e
  refine wpAny_notIn_heap (tupleKind_room_in1 hu) (xX I.hok eb) hd dd ?_
  have q:=(rel.val k).isSome_eq
  rw[Option.isSome_map]at q
  rw[<-q,<-l]
  exact h _ (I.tok _)
theorem ZR{h':Heap}{t':Nat}{ob:HO}(I:Inv X pins σ H s)(mu:nQ (H a))(hs:Heap.SameBut a s.heap h')(he:∃q,h'.get? a=some q)(new:ObjOk X.prog X.w (upd H a ob) h' a ob):
  Inv X pins σ (upd H a ob) { s with heap:=h',toks:=t' }:=
 I.write (x:=a) (e:=a) mu (.inl rfl) (λb q hb z=>(hs.2 b hb).trans z) he new
end
section
variable{X:Cx}{pins:List (Addr×Obj)}{σ:St}{H:Hp}{s:Shared}{a:Addr}{kvs:List (aG×V)}{k:aG}{u:Value}{A:Around}{E:Value->Shared->Prop}
end
noncomputable def DL(ty td:TE):TE:=λσ H Q=>ty σ H λy H1=>td σ H1 λx H2=>∃a o,x=.ref a/\DGet H2 a y o/\Q (.bl (!o.isSome)) H2
section
variable{X:Cx}{o i e value:Expr}{pos pos' tpos:Pos}{td ty tv:TE}
theorem o5(hu:X.A.units+1<cLine)(hi:PE X i ty)(ho:PE X o td):PC X .NotIn i o (DL ty td):=by
 intro pins s σ H Q I h
 refine aH (hi pins s σ H _ I h) λiv s1⟨y,H1,I1,ry,q1⟩=>aH (ho pins s1 σ H1 _ I1 q1) λu s2⟨x,H2,I2,rx,a,ov,ex,g,q2⟩=>?_
 subst ex
 obtain rfl:u=Value.ref a:=rx
 exact ZS hu I2 g ry λs3 I3=>⟨.bl (!ov.isSome),H2,I3,rfl,q2⟩
end
theorem ZH{P:Program}{w:World}{H:Hp}(h:Heap)(hb:sysModules<h.objs.size):ObjOk P w H (h.push { cls:=.type "dict",data:=.dict #[] }) h.objs.size (.dT []):=
 ⟨Nat.zero_le _,beq_eq_false_iff_ne.mpr (Ne.symm (Nat.ne_of_lt hb)),[],.nil,_,#[],0,Heap.get?_push_size _ rfl,⟨rfl,rfl,rfl⟩,rfl,rfl,List.nodup_nil⟩
section
variable{X:Cx}{pos:Pos}
end
noncomputable def VD(kvs more:List (aG×V)):List (aG×V):=more.foldl (λacc kv=>cZ acc kv.1 kv.2) kvs
theorem KV.merge:∀{more:List (aG×V)}{rs:List (aG×Value)}{kvs:List (aG×V)}{vs:List (aG×Value)},KV more rs->KV kvs vs->KV (VD kvs more) (merged vs rs):=by
 intro more rs kvs vs r
 unfold KV at r
 induction r generalizing kvs vs with
 |nil=>intro q;exact q
 | @cons p q ps qs h t ih=>
  intro r0
  have e:KV (cZ kvs p.1 p.2) (stored vs q.1 q.2):=by
   have:=r0.put p.1 h.2
   rw[<-h.1];exact this
  exact ih e
structure M1 (X:Cx) (o:Expr) (m:Str) (apos:Pos) (e:Expr) (cpos:Pos):Prop where
 base:attributeBase o m X.env (eval o X.env)=eval o X.env
 mZ:((backTo cpos (starEach [e] X.env)).all (λx=> !x.1)&&(backToKw cpos (keywordEach [] X.env)).all (λx=>x.1.isSome)
  &&decide (([e]:List Expr).length+([]:List Keyword).length+(if([]:List Keyword).isEmpty then 0 else 1)<30))=true
 line:(apos.endLine==cpos.line)=true
 trees:backTo cpos (starEach [e] X.env)=[(false,eval e X.env)]
structure M2 (X:Cx) (o:Expr) (m:Str) (apos:Pos) (e f:Expr) (cpos:Pos):Prop where
 base:attributeBase o m X.env (eval o X.env)=eval o X.env
 mZ:((backTo cpos (starEach [e,f] X.env)).all (λx=> !x.1)&&(backToKw cpos (keywordEach [] X.env)).all (λx=>x.1.isSome)
  &&decide (([e,f]:List Expr).length+([]:List Keyword).length+(if([]:List Keyword).isEmpty then 0 else 1)<30))=true
 line:(apos.endLine==cpos.line)=true
 trees:backTo cpos (starEach [e,f] X.env)=[(false,eval e X.env),(false,eval f X.env)]
section
variable{X:Cx}{pins:List (Addr×Obj)}{σ:St}{H:Hp}{s:Shared}{a:Addr}{y d:V}{u r:Value}{o:Option V}{A:Around}{E:Value->Shared->Prop}
end
section
variable{X:Cx}{o e f:Expr}{apos cpos:Pos}{td ty tx:TE}
end
section
variable{X:Cx}{pins:List (Addr×Obj)}{σ:St}{H:Hp}{s:Shared}{a:Addr}{kvs:List (aG×V)}{A:Around}{E:Value->Shared->Prop}
end
section
variable{X:Cx}{pins:List (Addr×Obj)}{σ:St}{H:Hp}{s:Shared}{a:Addr}{y:V}{u:Value}{A:Around}{E:Value->Shared->Prop}
end
section
variable{X:Cx}
end
section
variable{K:PySem.W.Frag}{σ:St}{H:Hp}{Q:VK}
theorem XN(S:List Int):S.map V.int=(S.map (Sum.inl:Int->aG)).map kV:=by rw[map_map];rfl
theorem oJ{td ty:TE}(h:ty σ H λy H1=>td σ H1 λx H2=>∃a o,x=.ref a/\DGet H2 a y o/\Q (.bl (!o.isSome)) H2):DL ty td σ H Q:=h
theorem Y1{a b:Addr}{kvs:List (List aG×V)}{S:List Int}{o:Option V}(e:H a=some (.dT kvs))(eb:H b=some (.tup (S.map V.int)))(ho:cQ kvs (S.map Sum.inl)=o):DGet H a (.ref b) o:=by
 rw[<-ho]
 exact DGet.t e (by rw[<-XN];exact eb)
end
end L2
namespace L2
open PySem PyProof.Rows
noncomputable def lN(A:Around)(s:Shared)(u v:Value)(r:Bool):Prop:=∀(prog:Program)(w:World)(E Q:Value->Shared->Prop),Q (.bool r) s->wpAny (model prog w) A (richCompare .Lt u v) Q E s
inductive iJ (A:Around) (s:Shared):List Value->List Value->Bool->Prop
 |nn:iJ A s [] [] false
 |nc {v vs}:iJ A s [] (v::vs) true
 |cn {u us}:iJ A s (u::us) [] false
 |eq {u v us vs r}:SeqAt.EqAt A s u v true->iJ A s us vs r->iJ A s (u::us) (v::vs) r
 |ne {u v us vs r}:SeqAt.EqAt A s u v false->lN A s u v r->iJ A s (u::us) (v::vs) r
section
open PySem.SeqAt
open PySem.AutoSeq1 (wpAny_loadPart')
open PySem.MeetsSeq PySem.MeetsSeq2 PySem.MeetsSeq3
theorem NG(l b:Addr)(items items2:Array Value)(n n2:Nat)(dd dd2:Option Addr)(sl sl2:Array (Option Value))(r:Bool):
  Meets (Builtin.«tuple.__lt__» ⟨[.ref l,.ref b],[]⟩)
   (λA R s=>s.heap.get? l=some { cls:=.type "tuple",dict:=dd,data:=.seq items n,slots:=sl }/\s.heap.get? b=some { cls:=.type "tuple",dict:=dd2,data:=.seq items2 n2,slots:=sl2 }/\
    iJ A.in1 s items.toList items2.toList r/\R (.ok (.ret (.bool r))) s):=
 .of_wp λprog w A R s h=>by
  obtain⟨hp,g,d,tk,os⟩:=s;obtain⟨hl,hb,hlt,h⟩:=h
  have f2:=AutoSeq1.sub_tuple_tuple
  wp_walk using wpAny_loadPart' hl,wpAny_loadPart' hb,wpAny_forIn_list _ (λcF b s'=>b.1=none/\s'=⟨hp,g,d,tk,os⟩/\∃(vs ws:List Value),cF=vs.zip ws/\
   iJ A.in1 ⟨hp,g,d,tk,os⟩ vs ws r/\vs.length+items2.size=ws.length+items.size) _
  case turn=>
   rintro⟨y,x⟩ cF b s' ⟨hb',rfl,vs,ws,hz,hlt',hlen⟩
   cases hlt' with
   |nn=>cases hz
   |nc=>rw[List.zip_nil_left]at hz;cases hz
   |cn=>rw[List.zip_nil_right]at hz;cases hz
   |eq he hr=>
    rw[zip_cons_cons]at hz
    injection hz with hyx hrest
    injection hyx with hy hx
    subst hy hx
    simp only[length_cons]at hlen
    refine wpAny_bind (he prog w _ _ ?_)
    wp_walk
    exact⟨rfl,rfl,_,_,hrest,hr,by lia⟩
   |ne he hri0=>
    rw[zip_cons_cons]at hz
    injection hz with hyx hrest
    injection hyx with hy hx
    subst hy hx
    refine wpAny_bind (he prog w _ _ ?_)
    have hri:=hri0 prog w
    wp_walk using hri
    exact⟨_,rfl,by simpa using h⟩
  case fin=>
   rintro⟨b1,b2⟩ s' ⟨hb',rfl,vs,ws,hz,hlt',hlen⟩
   simp only at hb'
   subst hb'
   have hv:r=decide (items.size<items2.size):=by
    cases hlt' with
    |nn=>
     simp only[length_nil]at hlen
     exact(decide_eq_false (by lia)).symm
    |nc=>
     simp only[length_nil,length_cons]at hlen
     exact(decide_eq_true (by lia)).symm
    |cn=>
     simp only[length_nil,length_cons]at hlen
     exact(decide_eq_false (by lia)).symm
    |eq _ _=>rw[zip_cons_cons]at hz;cases hz
    |ne _ _=>rw[zip_cons_cons]at hz;cases hz
   rw[hv]at h
   wp_walk
   exact⟨_,rfl,by simpa[Builtin.Tuple.tupleCompareSizes]using h⟩
  case h=>
   exact⟨rfl,rfl,items.toList,items2.toList,rfl,hlt,by simp;lia⟩
end
theorem WS{A:Around}{s:Shared}{l b:Addr}{us vs:List Value}{r:Bool}(hl:IsTup s.heap l us.toArray)(hb:IsTup s.heap b vs.toArray)(hu:A.units<cLine)(h:iJ A.in1 s us vs r):lN A s (.ref l) (.ref b) r:=by
 intro prog w E Q q
 obtain⟨⟨cls,dd,data,sl⟩,ho,hc,n,hd⟩:=id hl
 obtain⟨⟨cls2,dd2,data2,sl2⟩,ho2,hc2,n2,hd2⟩:=id hb
 simp only at hc hd hc2 hd2
 subst hc hd hc2 hd2
 exact richCompare_meets_room (op:=.Lt) ⟨_,ho,rfl⟩ ⟨_,ho2,rfl⟩ PySem.F.slot_tuple_lt PySem.F.entry_tuple_lt (PySem.F.args_tuple_lt_2 _ _) (NG l b us.toArray vs.toArray n n2 dd dd2 sl sl2 r)
  ⟨ho,ho2,by simpa using h,show Value.bool r≠Value.notImplemented/\Q (.bool r) s from⟨(λx=>nomatch x),q⟩⟩ hu
theorem WT{A:Around}{s:Shared}{a c:Int}{t u:Tok}:lN A s (.int a t) (.int c u) (decide (a<c)):=λprog w E Q h=>HT.GC A s a t c u prog w E Q h
end L2
namespace L2
open PySem PySem.Spec PyProof.Rows
noncomputable abbrev Cx.in1(X:Cx):Cx:={ X with A:=X.A.in1 }
section
variable{X:Cx}{pins:List (Addr×Obj)}{σ:St}{H:Hp}{s:Shared}
theorem Cx.Ok.in1(ok:X.Ok):X.in1.Ok:=⟨ok.mod,ok.kind,ok.glob,ok.blt,ok.above,ok.inj,ok.has,ok.cab,ok.hd,ok.frames,ok.stk,ok.exf,ok.bs,ok.bsz,ok.noex,ok.exfs,ok.funs,ok.frf⟩
theorem Inv.in1(I:Inv X pins σ H s):Inv X.in1 pins σ H s:=⟨I.ok.in1,I.os,I.bare,I.base,I.loc,I.cell,I.free,I.freeC,I.pin,I.hok,I.len⟩
end
section
variable{X:Cx}{pins:List (Addr×Obj)}{σ:St}{H:Hp}{s:Shared}{qual:Str}{sc:Scope}{M:List Str}{q:Addr}{cd:Value}
end
structure ab0 (base:Heap) (mg:Str->Option Value) (c P:Addr):Prop where
 hd:PySem.W.CodeHd base c P
 bl:base.BuiltinsAt mg P
section
variable{X:Cx}{pins:List (Addr×Obj)}{σ:St}{H:Hp}{s:Shared}
theorem Inv.pinNew{H0:Hp}(I:Inv X pins σ H0 s){q:Addr}{o:Obj}{h':Heap}{t':Nat}(I':Inv X pins σ H { s with heap:=h',toks:=t' })(hq:h'.get? q=some o)(hs:s.heap.objs.size<=q)(hn:H q=none)(hd:∀v,o.data≠.cell v):Inv X ((q,o)::pins) σ H { s with heap:=h',toks:=t' }:=
 ⟨I'.ok,I'.os,I'.bare,I'.base,I'.loc,I'.cell,I'.free,I'.freeC,λp hp=>by
  rcases mem_append.mp hp with z|z
  ·exact I'.pin p (mem_append_left _ z)
  ·rcases mem_cons.mp z with rfl|z
   ·exact⟨hq,hn,Nat.ne_of_gt (Nat.lt_of_lt_of_le I.lt hs),I.nofs hs,hd⟩
   ·exact I'.pin p (mem_append_right _ z),I'.hok,I'.len⟩
end
structure Ow (X:Cx) (pins:List (Addr×Obj)) (a:Addr):Prop where
 loc:a≠X.env.locals
 fs:a∉X.fs
 new:a∈X.ex\/X.s₀.heap.objs.size<=a
 cel:∀x c,X.env.cells.lookup x=some c->c≠a
 pin:∀p∈X.pn++pins,p.1≠a
section
variable{X:Cx}{pins p1 p2:List (Addr×Obj)}{σ:St}{H:Hp}{s:Shared}
theorem Inv.ow(I:Inv X pins σ H s){a:Addr}(h:s.heap.objs.size<=a):Ow X pins a where
 loc:=Nat.ne_of_gt (Nat.lt_of_lt_of_le I.lt h)
 fs:=I.nofs h
 new:=.inr (Nat.le_trans I.sz h)
 cel:=λx c e z=>by
  obtain⟨v,o,ho,_⟩:=I.cell x c e
  exact absurd (Heap.lt_size ho) (by rw[z];exact Nat.not_lt.mpr h)
 pin:=λp hp z=>absurd (Heap.lt_size (I.pin p hp).1) (by rw[z];exact Nat.not_lt.mpr h)
theorem Inv.repin{a:Addr}{o o':Obj}{h':Heap}{t':Nat}(I:Inv X (p1++(a,o)::p2) σ H s)(ow:Ow X (p1++p2) a)(k:∀b u,b≠a->s.heap.get? b=some u->h'.get? b=some u)(e:h'.get? a=some o')(hd:∀v,o'.data≠.cell v):
  Inv X (p1++(a,o')::p2) σ H { s with heap:=h',toks:=t' }:=by
 have me:=I.pin (a,o) (mem_append_right _ (mem_append_right _ mem_cons_self))
 have I1:Inv X (p1++p2) σ H s:=I.pins_of λp hp=>I.pin p (mem_append_right _ (by
  rcases mem_append.mp hp with z|z
  ·exact mem_append_left _ z
  ·exact mem_append_right _ (mem_cons_of_mem _ z)))
 have I2:=I1.turned (h':=h') (t':=t') k me.2.1 ow.loc ow.new ow.cel ow.pin
 refine⟨I2.ok,I2.os,I2.bare,I2.base,I2.loc,I2.cell,I2.free,I2.freeC,λp hp=>?_,I2.hok,I2.len⟩
 rcases mem_append.mp hp with z|z
 ·exact I2.pin p (mem_append_left _ z)
 ·rcases mem_append.mp z with z|z
  ·exact I2.pin p (mem_append_right _ (mem_append_left _ z))
  ·rcases mem_cons.mp z with rfl|z
   ·exact⟨e,me.2.1,ow.loc,ow.fs,hd⟩
   ·exact I2.pin p (mem_append_right _ (mem_append_right _ z))
structure ab8 (K:PySem.W.Frag) (σ:St) (l:Addr) (xs:List V) (lt:R2) (te:TE) (f:V->St) (G:Hp->Prop) (W:Nat->Nat->V->Hp->Prop) (Q:VK):Prop where
 lst:∀j b k H,W j b k H->H l=some (.lst xs)/\G H
 turn:∀j b k H x,W j b k H->xs[j]? =some x->te (f x) H λk' H'=>lt k' k H' λz H''=>∃c,z=.bl c/\if c=true then W (j+1) j k' H'' else W (j+1) b k H''
 fin:∀b k H x,W xs.length b k H->xs[b]? =some x->Q x H
end
structure ab7 (K:PySem.W.Frag) (base:Heap) (mg:Str->Option Value) (x:Str) (c P:Addr):Prop where
 kin:K.In base
 ns:base.Ns mainGlobals mg
 tab:PySem.W.tabIn K x=some (c,P)
 b:ab0 base mg c P
mutual
noncomputable def fC:PyData->PyData->Bool
 | .int i,.int j=>decide (i<j)
 | .tuple ds,.tuple es=>i5 ds es
 |_,_=>false
noncomputable def i5:List PyData->List PyData->Bool
 |[],[]=>false
 |[],_::_=>true
 |_::_,[]=>false
 |d::ds,e::es=>if PyData.eqv d e=true then i5 ds es else fC d e
end
mutual
noncomputable def gP:PyData->PyData->Bool
 | .int _,.int _=>true
 | .tuple ds,.tuple es=>gD ds es
 |_,_=>false
noncomputable def gD:List PyData->List PyData->Bool
 |[],_=>true
 |_::_,[]=>true
 |d::ds,e::es=>if PyData.eqv d e=true then gD ds es else gP d e
end
section
variable{X:Cx}{pins:List (Addr×Obj)}{σ:St}{H:Hp}{s:Shared}
theorem KF{d e:PyData}(h:gP d e=true):(∃i j,d=.int i/\e=.int j)\/∃ds es,d=.tuple ds/\e=.tuple es/\gD ds es=true:=by
 unfold gP at h
 split at h
 ·exact .inl ⟨_,_,rfl,rfl⟩
 ·exact .inr ⟨_,_,rfl,rfl,h⟩
 ·cases h
theorem IL{A:Around}{i j:Int}{x y:V}{u v:Value}(hx:Is H x (.int i))(hy:Is H y (.int j))(ru:RelV x u)(rv:RelV y v):lN A s u v (fC (.int i) (.int j)):=by
 cases hx
 cases hy
 obtain⟨t,rfl⟩:=ru
 obtain⟨t2,rfl⟩:=rv
 rw[fC]
 exact WT
theorem y4(ds:List PyData):(PyData.tuple ds).depth=PyData.depthAll ds+1:=by rw[PyData.depth]
end
section
open PySem.AutoSeq1 (wpAny_loadPart')
variable{prog:Program}{w:World}{A:Around}{E:Value->Shared->Prop}{s:Shared}
theorem UY{it l:Addr}{i:Nat}{items}{x:Value}{Q:Value->Shared->Prop}(hit:s.heap.IsTupleIter it l i)
  (hl:s.heap.IsTuple l items) (hx:items[i]? =some x)
  (hQ:∀h',h'.IsTupleIter it l (i+1)->Heap.SameBut it s.heap h'->Q x { s with heap:=h' }):
  wpAny (model prog w) A (Builtin.SmallTypes.nextOf (.ref it)) Q E s:=by
 obtain⟨o,ho,hc,hd⟩:=id hit
 obtain⟨ol,hol,_,nl,hdl⟩:=hl
 unfold Builtin.SmallTypes.nextOf
 refine wpAny_bind (wpAny_callSpecial?_slot (name:=Str.ofString "__next__") hit.typeIs F.slot_tuple_iterator_next
  (wpAny_call_entry F.slot_tuple_iterator_next hit.typeIs F.entry_tuple_iterator_next ?_ (F.args_tuple_iterator_next_1 _)))
 show wpAny _ _ (field (.ref it) 0 >>=_) _ _ s
 refine wpAny_bind (wpAny_field ho hd (x:=.ref l) rfl ?_)
 show wpAny _ _ (if(Value.ref l==Value.none)=true then _ else _) _ _ s
 rw[if_neg (show ¬((Value.ref l==Value.none)=true) from Bool.false_ne_true)]
 show wpAny _ _ (field (.ref it) 1 >>=_) _ _ s
 refine wpAny_bind (wpAny_field ho hd (x:=.int i 0) rfl ?_)
 show wpAny _ _ (seqItems? (.ref l) >>=_) _ _ s
 refine wpAny_bind (wpAny_seqItems hol hdl ?_)
 simp only[Int.toNat_natCast,hx]
 refine wpAny_bind (wpAny_setField ho hd (by simp) (wpAny_pure ⟨x,rfl,wpAny_pure (hQ _ ?_ (Heap.SameBut.update ..))⟩))
 exact⟨_,Heap.get?_update_self _ ho (Obj.isFreed_of_fields (Obj.data_mapFields hd _)),(Obj.cls_mapFields ..).trans hc,by
  rw[Obj.data_mapFields hd];simp[rawInt]⟩
theorem HX{it l:Addr}{i:Nat}{items}{Q:Value->Shared->Prop}(hh:A.handled=none)
  (hit:s.heap.IsTupleIter it l i) (hl:s.heap.IsTuple l items) (hx:items[i]? =none)
  (hE:∀h' e,Heap.ExtBut it s.heap h'->(∃o,h'.get? e=some o/\o.cls=.type "StopIteration")->E (.ref e) { s with heap:=h' }):
  wpAny (model prog w) A (Builtin.SmallTypes.nextOf (.ref it)) Q E s:=by
 obtain⟨o,ho,hc,hd⟩:=id hit
 obtain⟨ol,hol,_,nl,hdl⟩:=hl
 unfold Builtin.SmallTypes.nextOf
 refine wpAny_bind (wpAny_callSpecial?_slot (name:=Str.ofString "__next__") hit.typeIs F.slot_tuple_iterator_next
  (wpAny_call_entry F.slot_tuple_iterator_next hit.typeIs F.entry_tuple_iterator_next ?_ (F.args_tuple_iterator_next_1 _)))
 show wpAny _ _ (field (.ref it) 0 >>=_) _ _ s
 refine wpAny_bind (wpAny_field ho hd (x:=.ref l) rfl ?_)
 show wpAny _ _ (if(Value.ref l==Value.none)=true then _ else _) _ _ s
 rw[if_neg (show ¬((Value.ref l==Value.none)=true) from Bool.false_ne_true)]
 show wpAny _ _ (field (.ref it) 1 >>=_) _ _ s
 refine wpAny_bind (wpAny_field ho hd (x:=.int i 0) rfl ?_)
 show wpAny _ _ (seqItems? (.ref l) >>=_) _ _ s
 refine wpAny_bind (wpAny_seqItems hol hdl ?_)
 simp only[Int.toNat_natCast,hx]
 refine wpAny_bind (wpAny_rule (wpAny_bind (wpAny_setField ho hd (by simp) ?_)))
 show wpAny _ _ (newExc (.type "StopIteration") [] >>=_) _ _ _
 refine wpAny_bind ?_
 simp only[newExc,newTuple]
 refine wpAny_bind (wpAny_newObj_type ?_ (by size_fits))
 refine wpAny_bind (m:=firstArgMember _ _) (wpAny_of_eq (a:=Value.none) (by first|rfl|(simp only[firstArgMember];rfl)) ?_)
 refine wpAny_newObj_type ?_ (by size_fits)
 simp only[raiseNew]
 refine wpAny_bind (wpAny_handled ?_)
 first |rw[show A.in1.handled=none from hh]|rw[hh]
 refine wpAny_bind (wpAny_pure (wpAny_throw ?_))
 exact hE _ _ (((Heap.SameBut.update ..).extBut.push _).push _) ⟨_,Heap.get?_push_size _ rfl,rfl⟩
theorem JZ(hh:A.handled=none)(it l:Addr)(hne:l≠it)(items:Array Value):
  Draws prog w A it [it,l] items.size (λi v=>items[i]? =some v) (λi h=>h.IsTupleIter it l i/\h.IsTuple l items) where
 live:=λ_ _ st=>let⟨o,ho,_⟩:=st.1;⟨o,ho⟩
 frame:=λ_ _ _ st hk=>⟨st.1.at λo e=>hk it (by simp) o e,st.2.at λo e=>hk l (by simp) o e⟩
 item:=λi s Q E hi st hQ=>by
  refine UY st.1 st.2 (x:=items[i]) (by simp[hi]) λh' hit' hs'=>?_
  exact hQ _ h' s.toks (by simp[hi]) ⟨hit',st.2.extBut hs'.extBut hne⟩ hs'
 done:=λs Q E st hE=>HX hh st.1 st.2 (by simp) hE
theorem VH(l:Addr)(items:Array Value)(n:Nat)(dct:Option Addr)(sl:Array (Option Value)):
  Meets (Builtin.«enumerate.__new__» ⟨[.type "enumerate",.ref l],[]⟩) (λ_ R s=>s.heap.get? l=some { cls:=.type "tuple",dict:=dct,data:=.seq items n,slots:=sl }/\
   R (.ok (.ret (.ref (s.heap.push { cls:=.type "tuple_iterator",data:=.fields #[.ref l,.int 0 0] }).objs.size)))
    { s with heap:=(s.heap.push { cls:=.type "tuple_iterator",data:=.fields #[.ref l,.int 0 0] }).push { cls:=.type "enumerate",data:=.fields #[.none,.bool false,.ref s.heap.objs.size,rawInt 0,.none,.none] } }):=
 .of_wp λprog w A R s h=>by
  obtain⟨hp,g,d,tk,os⟩:=s;obtain⟨hl,h⟩:=h
  have hsub:=sub_enumerate
  have hL:Heap.IsTuple (Shared.heap ⟨hp,g,d,tk,os⟩) l items:=⟨_,hl,rfl,n,rfl⟩
  wp_walk using wpAny_loadPart' hl
  refine wpAny_stack_any λst=>wpAny_pure ?_
  split
  ·rename_i c _ _ _ _ _
   cases(c==Value.type "enumerate")
   ·wp_walk using wpAny_loadPart' hl,wpAny_pyIter_tuple hL
    exact⟨_,rfl,h⟩
   ·wp_walk using wpAny_loadPart' hl,wpAny_pyIter_tuple hL
    exact⟨_,rfl,h⟩
  ·wp_walk using wpAny_loadPart' hl,wpAny_pyIter_tuple hL
   exact⟨_,rfl,h⟩
theorem aaG{l:Addr}{items:Array Value}{Q:Value->Shared->Prop}(hL:s.heap.IsTuple l items)
  (h:∀h',IsEnum h' (s.heap.objs.size+1) s.heap.objs.size 0 .none->h'.IsTupleIter s.heap.objs.size l 0->h'.objs.size=s.heap.objs.size+2->
   (∀b o,s.heap.get? b=some o->h'.get? b=some o)->Q (.ref (s.heap.objs.size+1)) { s with heap:=h' }):
  wpAny (model prog w) A (call (.type "enumerate") [.ref l]) Q E s:=by
 obtain⟨⟨c,dct,dt,sl⟩,hl,hc,n,hd⟩:=hL
 replace hc:c=.type "tuple":=hc
 replace hd:dt=.seq items n:=hd
 subst hc hd
 refine callType_new F.called_enumerate (by decide) (F.typeCall_enumerate_1 _) (F.newCall_enumerate_1 _) (λobj=>F.args_object_init_2 obj _) F.entry_enumerate_new
  (VH l items n dct sl) ⟨hl,?_⟩
 have hz:(s.heap.push { cls:=.type "tuple_iterator",data:=.fields #[.ref l,.int 0 0] }).objs.size=s.heap.objs.size+1:=Heap.size_push ..
 show _/\_
 rw[hz]
 have he:IsEnum ((s.heap.push { cls:=.type "tuple_iterator",data:=.fields #[.ref l,.int 0 0] }).push
   { cls:=.type "enumerate",data:=.fields #[.none,.bool false,.ref s.heap.objs.size,rawInt 0,.none,.none] }) (s.heap.objs.size+1) s.heap.objs.size 0 .none:=by
  have:=Heap.get?_push_size (s.heap.push { cls:=.type "tuple_iterator",data:=.fields #[.ref l,.int 0 0] })
   (o:={ cls:=.type "enumerate",data:=.fields #[.none,.bool false,.ref s.heap.objs.size,rawInt 0,.none,.none] }) rfl
  rw[hz]at this;exact this
 refine⟨⟨_,he,rfl⟩,h _ he ⟨_,Heap.get?_push_of_some _ (Heap.get?_push_size _ rfl),rfl,rfl⟩ (by rw[Heap.size_push,hz]) λb o x=>Heap.get?_push_of_some _ (Heap.get?_push_of_some _ x)⟩
end
theorem ZF{prog:Program}{w:World}{A:Around}{E:Value->Shared->Prop}{s:Shared}{e it l:Addr}{j:Int}{i:Nat}{items:Array Value}{old:Value}{Q:Option Value->Shared->Prop}(hh:A.handled=none)
  (he:IsEnum s.heap e it j old) (hit:s.heap.IsTupleIter it l i) (hl:s.heap.IsTuple l items) (hx:items[i]? =none)
  (hQ:∀h',Heap.ExtBut it s.heap h'->Q none { s with heap:=h' }):wpAny (model prog w) A (pyNext (.ref e)) Q E s:=by
 have hT:s.TypeIs (.ref e) "enumerate":=⟨_,he,rfl⟩
 unfold pyNext
 refine wpAny_bind (wpAny_attempt (wpAny_callSpecial?_slot (name:=Str.ofString "__next__") hT F.slot_enumerate_next
  (wpAny_call_entry F.slot_enumerate_next hT F.entry_enumerate_next ?_ (F.args_enumerate_next_1 _))))
 show wpAny _ _ (field (.ref e) 2 >>=_) _ _ _
 refine wpAny_bind (wpAny_field he rfl (x:=.ref it) rfl ?_)
 refine wpAny_bind (HX hh hit hl hx λh' x he' hx'=>?_)
 obtain⟨o,ho,hc⟩:=hx'
 refine wpAny_bind (wpAny_isInstance (T:="StopIteration") (b:=true) ⟨o,ho,hc⟩ isSubtype_stop ?_)
 exact wpAny_pure (hQ _ he')
noncomputable def lO(K:PySem.W.Frag)(a:Addr):It:=
 ⟨λi H=>∃xs x,SqT K H a xs/\xs[i]? =some x,λi H x H'=>∃T y,x=.ref T/\H T=none/\(∀xs,SqT K H a xs->xs[i]? =some y)/\H'=upd H T (.tup [.int i,y]),λi H=>∃xs,SqT K H a xs/\xs.length<=i⟩
theorem NE{P:Program}{w:World}{K:PySem.W.Frag}{elts:List Expr}{k:Nat}{pos:Pos}(a e it:Addr)(hei:e≠it):lJ P w K (.Tuple elts k pos) (lO K a) [e,it] e (λi h=>(∃old,IsEnum h e it i old)/\h.IsTupleIter it a i) where
 mem:=by simp
 obj:=λi h st b hb=>by
  obtain⟨⟨old,he⟩,o,eo,c,d⟩:=st
  rcases mem_cons.mp hb with rfl|hb
  ·exact⟨_,he,λv z=>by cases z⟩
  ·rw[mem_singleton.mp hb]
   exact⟨o,eo,λv z=>by rw[d]at z;cases z⟩
 keep:=λi h h' st kk=>⟨let⟨old,he⟩:=st.1;⟨old,kk e (by simp) _ he⟩,st.2.at λo x=>kk it (by simp) o x⟩
 item:=by
  intro X hP hw hK hc i pins s σ H E I hf st hg
  subst hP hw hK
  obtain⟨xs,x,hq,hx⟩:=hg
  obtain⟨its,rv,p,hz⟩:=I.tuple hq
  obtain⟨u,hu,ru⟩:=rv.get hx
  obtain⟨f0,f1,f2,f3,f4,f5⟩:=hf e (by simp)
  obtain⟨g0,g1,g2,g3,g4,g5⟩:=hf it (by simp)
  have xC:∀b,H b=none->(∃o,s.heap.get? b=some o/\o.cls≠.type "tuple")->a≠b:=λb hn⟨o,eo,co⟩z=>by
   obtain⟨o2,e2,c2,_⟩:=p
   rw[z,eo]at e2;cases e2;exact co c2
  have hae:a≠e:=xC e f0 (let⟨old,he⟩:=st.1;⟨_,he,λz=>by simp at z⟩)
  have hai:a≠it:=xC it g0 (let⟨o,eo,c,d⟩:=st.2;⟨o,eo,λz=>by rw[c]at z;simp at z⟩)
  have W:=WalksT.enumerateD (JZ (prog:=X.prog) (w:=X.w) (A:=X.A.in1) (I.ok.hd hc) it a hai its.toArray) e hei (by simp[hei,Ne.symm hae]) (by simp)
  have hi:i<its.toArray.size:=by
   rw[size_toArray,<-rv.length]
   exact(List.getElem?_eq_some_iff.mp hx).1
  obtain⟨⟨old,he⟩,hit⟩:=st
  have D:=JZ (prog:=X.prog) (w:=X.w) (A:=X.A.in1) (I.ok.hd hc) it a hai its.toArray
  have helt:e<s.heap.objs.size:=Heap.lt_size he
  have hilt:it<s.heap.objs.size:=by obtain⟨_,y,_⟩:=hit;exact Heap.lt_size y
  refine wpAny_pyNext_enum_itemD D he ⟨hit,p⟩ hi hei (by simp[hei,Ne.symm hae]) λu' h' t hu' ho hs' hT0 hsz hk0=>?_
  have hT:s.heap.objs.size<=s.heap.objs.size:=Nat.le_refl _
  have eu:u'=u:=by
   have:its[i]? =some u':=by simpa using hu'
   rw[hu]at this;cases this;rfl
  subst eu
  have hM:=(⟨⟨_,ho⟩,hs',Nat.ne_of_gt helt,Nat.ne_of_gt hilt⟩:(∃x,IsEnumOut h' e it ((i:Int)+1) x s.heap.objs.size)/\(h'.IsTupleIter it a (i+1)/\h'.IsTuple a its.toArray)/\s.heap.objs.size≠e/\s.heap.objs.size≠it)
  have hk:∀b o,b∉[e,it]->s.heap.get? b=some o->h'.get? b=some o:=λb o hb y=>hk0 b o (λe'=>hb (by simp[e'])) (λe'=>hb (by simp[e'])) y
  generalize hTT:s.heap.objs.size=T at *
  refine⟨_,rfl,W.go elts k pos i T _ _ _ hM λh2 st2 hk2=>?_⟩
  have keep:∀b o,b≠e->b≠it->s.heap.get? b=some o->h2.get? b=some o:=λb o h1 h3 eo=>hk2 b o (by simp[h1,h3]) (hk b o (by simp[h1,h3]) eo)
  have hTn:T∉[e,it]:=W.apart i T h' hM
  have hTe:T≠e:=λz=>hTn (by simp[z])
  have hTi:T≠it:=λz=>hTn (by simp[z])
  have eT2:=hk2 T _ hTn hT0
  have hTH:H T=none:=I.hok.fresh (Nat.le_of_eq hTT)
  have J:Inv X pins σ (upd H T (.tup [.int i,x])) { s with heap:=h2,toks:=t+1 }:=by
   refine I.step (g':=s.gens) (d':=s.drawn) (ch:=[e,it]) (λb hb=>?_) (λb o _ _ hc eo _=>keep b o (λz=>hc (by simp[z])) (λz=>hc (by simp[z])) eo) (λb o _ _ hc eo _=>⟨o.slots,keep b o (λz=>hc (by simp[z])) (λz=>hc (by simp[z])) eo⟩) (λb o _ eo n=>?_)
    (λb o hc eo=>⟨o,keep b o (λz=>hc (by simp[z])) (λz=>hc (by simp[z])) eo⟩) (λb xs q=>?_) (λb o u q=>?_) (λb ps q=>?_) (λm hm=>?_) (λb u q=>?_) I.bare
   ·rcases mem_cons.mp hb with rfl|hb
    ·exact⟨f3,f1,f4,f5⟩
    ·rw[mem_singleton.mp hb]
     exact⟨g3,g1,g4,g5⟩
   ·rw[aE (Nat.ne_of_lt (hTT▸Heap.lt_size eo))];exact n
   ·rw[aE (aI q hTH)];exact q
   ·rw[aE (aI q hTH)];exact q
   ·exact⟨#[],by rw[aE (aI q hTH),q];simp⟩
   ·obtain⟨o,es,ep,eo,r⟩:=hm
    exact⟨o,es,ep,keep _ o (Ne.symm f1) (Ne.symm g1) eo,r⟩
   ·by_cases hb:b=T
    ·subst hb
     rw[aB]at q
     cases q
     exact⟨by show 2<=sizeLine;decide,[.int i t,u'],.cons ⟨t,rfl⟩ (.cons ru .nil),⟨_,eT2,rfl,_,rfl⟩,_,eT2,rfl⟩
    ·rw[aE hb]at q
     refine(I.hok b u q).stay (λc v hc' r=>keep c v (λz=>?_) (λz=>?_) r) (λc r=>by rw[aE (aI r hTH)];exact r) λc xs r=>by rw[aE (aI r hTH)];exact r
     ·subst z
      rcases hc' with rfl|hc'
      ·rw[f0]at q;cases q
      ·rw[f0]at hc';cases hc'
     ·subst z
      rcases hc' with rfl|hc'
      ·rw[g0]at q;cases q
      ·rw[g0]at hc';cases hc'
  refine⟨.ref T,_,J,rfl,⟨T,x,rfl,hTH,λys hy=>by rw[I.tuple_inj hy hq];exact hx,rfl⟩,⟨st2.1,st2.2.1⟩,λb hb=>?_⟩
  rcases mem_cons.mp hb with rfl|hb
  ·rw[aE (Ne.symm hTe)];exact f0
  ·rw[mem_singleton.mp hb,aE (Ne.symm hTi)];exact g0
 done:=by
  intro X hP hw hK hc i pins s σ H E I hf st hg
  subst hP hw hK
  obtain⟨xs,hq,hx⟩:=hg
  obtain⟨its,rv,p,hz⟩:=I.tuple hq
  obtain⟨g0,g1,g2,g3,g4,g5⟩:=hf it (by simp)
  have hl:=rv.length
  obtain⟨⟨old,he⟩,hit⟩:=st
  refine ZF (I.ok.hd hc) he hit p (by simp;lia) λh' eb=>⟨rfl,I.turned (t':=s.toks) (λb o hb e=>eb b o hb e) g0 g1 g3 g4 g5⟩
 self:=λA i s Q E st h=>by
  obtain⟨⟨old,he⟩,_⟩:=st
  exact wpAny_pyIter_enum he h
noncomputable def yD(K:PySem.W.Frag)(ta:TA):TI:=λσ H R=>ta σ H λvs H1=>∃a,vs=[.ref a]/\(∃xs,SqT K H1 a xs)/\R (lO K a) H1
theorem SR{X:Cx}{elts:List Expr}{k:Nat}{tp:Pos}{a:Expr}{ta:TA}{p pos:Pos}(hg:Gl X "enumerate")(hm:X.mg "enumerate"=none)(ha:PA X [a] ta)(hs:starEach [a] X.env=[(false,eval a X.env)]:=by rfl):
  PI X (.Tuple elts k tp) (.Call (.Name "enumerate" p) [a] [] pos) (yD X.K ta):=by
 intro pins s σ H R I h
 refine Call_ (mK I hg hm aaT (PyProof.Rows.callWith_type1 (aH (ha pos pins s σ H _ I h) λus s1⟨vs,H1,I1,r1,q1⟩=>?_) hs rfl))
 obtain⟨b,e,⟨xs,hq⟩,q⟩:=q1
 subst e
 obtain⟨u,rfl,rx⟩:=Vals.one r1
 obtain rfl:u=Value.ref b:=rx
 obtain⟨its,rv,pl,hz⟩:=I1.tuple hq
 refine aaG pl λh' he hit hsz hk=>?_
 refine wpAny_pyIter_enum he ?_
 have I2:Inv X pins σ H1 { s1 with heap:=h',toks:=s1.toks }:=I1.kept hk
 refine⟨s1.heap.objs.size+1,[s1.heap.objs.size+1,s1.heap.objs.size],_,_,H1,rfl,I2,NE b _ _ (Nat.succ_ne_self _),⟨⟨_,he⟩,hit⟩,λc hb=>?_,q⟩
 rcases mem_cons.mp hb with rfl|hb
 ·exact I1.fpOk (by lia) (I1.hok.fresh (by lia))
 ·rw[mem_singleton.mp hb]
  exact I1.fpOk (Nat.le_refl _) (I1.hok.fresh (Nat.le_refl _))
section
variable{H:Hp}{K:PySem.W.Frag}
theorem XV(K:PySem.W.Frag){X:Cx}{elts:List Expr}{k:Nat}{tp:Pos}{a:Expr}{ta:TA}{p pos:Pos}(hg:Gl X "enumerate")(hm:X.mg "enumerate"=none)(ha:PA X [a] ta)(hs:starEach [a] X.env=[(false,eval a X.env)]:=by rfl)(h:X.K=K:=by rfl):
  PI X (.Tuple elts k tp) (.Call (.Name "enumerate" p) [a] [] pos) (yD K ta):=h▸SR hg hm ha hs
theorem RJ{σ:St}{ta:TA}{R:It->Hp->Prop}(h:ta σ H λvs H1=>∃a,vs=[.ref a]/\(∃xs,SqT K H1 a xs)/\R (lO K a) H1):yD K ta σ H R:=h
theorem Y9{σ:St}{a:Addr}{xs:List V}{G:St->Hp->Prop}{B:(St->Hp->Prop)->V->St->Hp->Prop}(Pv:Nat->St->Hp->Prop)(h0:Pv 0 σ H)(hl:∀i σ H,i<=xs.length->Pv i σ H->SqT K H a xs)
  (hs:∀i x σ H T,xs[i]? =some x->Pv i σ H->H T=none->B (Pv (i+1)) (.ref T) σ (upd H T (.tup [.int i,x]))) (hd:∀σ H,Pv xs.length σ H->G σ H):
  ∃W:Nat->Nat->St->Hp->Prop,(∃m,W 0 m σ H)/\∀i m σ H,W i m σ H->((lO K a).stop i H/\G σ H)\/((lO K a).go i H/\
   ∃N:St->Hp->Prop,(∀σ' H',N σ' H'->∃m',m'<m/\W (i+1) m' σ' H')/\∀x H',(lO K a).yld i H x H'->B N x σ H'):=by
 refine⟨λi m σ H=>m=xs.length-i/\i<=xs.length/\Pv i σ H,⟨xs.length,by simp,Nat.zero_le _,h0⟩,?_⟩
 rintro i m σ H ⟨rfl,hi,p⟩
 have q:=hl i σ H hi p
 by_cases hlt:i<xs.length
 ·refine .inr ⟨⟨xs,xs[i],q,by simp[hlt]⟩,Pv (i+1),λσ' H' p'=>⟨xs.length-(i+1),by lia,rfl,hlt,p'⟩,λx H' y=>?_⟩
  obtain⟨T,z,e,hT,hz,e2⟩:=y
  subst e e2
  exact hs i z σ _ T (hz xs q) p hT
 ·have e:i=xs.length:=by lia
  subst e
  exact .inl ⟨⟨xs,q,Nat.le_refl _⟩,hd σ H p⟩
end
end L2
namespace L2
open PySem PySem.Spec PyProof.Rows
section
open PySem.F
variable{prog:Program}{w:World}{A:Around}{E:Value->Shared->Prop}{s:Shared}
end
section
variable{X:Cx}
end
end L2
namespace L2
open PySem PySem.Spec PyProof.Rows
structure ab6 (z TI TO i1 i2:Addr):Prop where
 TIz:TI≠z
 TOz:TO≠z
 i1z:i1≠z
 i2z:i2≠z
 TITO:TI≠TO
 TIi1:TI≠i1
 TIi2:TI≠i2
 TOi1:TO≠i1
 TOi2:TO≠i2
 i12:i1≠i2
theorem xC{a b:Nat}(h:¬a=b):@Ne Addr a b:=h
section
variable{H:Hp}{K:PySem.W.Frag}
end
section
variable{X:Cx}
end
section
variable{P:Program}{w:World}{K:PySem.W.Frag}{mg:Str->Option Value}{base:Heap}{CX:dH}{k:Nat}{f:Addr}{fd:FuncData}{ps:List Str}{sp sp':Sp}
theorem FnOk.lift(F:FnOk P w K mg base aU k f fd ps sp):FnOk P w K mg base (cJ P w) k f fd ps sp:=
 ⟨F.len,λA outer s H args us vs Q E hr he hb hv hs=>codeAny_mono (F.run A outer s H args us vs Q E hr he hb hv hs) λr s' h=>by
  cases r with
  |error e=>exact h.elim
  |ok fl=>
   cases fl with
   |ret u=>exact h
   |_=>exact h.elim⟩
theorem FnOk.or(F:FnOk P w K mg base CX k f fd ps sp)(G:FnOk P w K mg base CX k f fd ps sp'):FnOk P w K mg base CX k f fd ps (λvs H Q E=>sp vs H Q E\/sp' vs H Q E):=
 ⟨λvs H Q E h=>h.elim (F.len vs H Q E) (G.len vs H Q E),λA outer s H args us vs Q E hr he hb hv hs=>hs.elim (F.run A outer s H args us vs Q E hr he hb hv) (G.run A outer s H args us vs Q E hr he hb hv)⟩
end
section
variable{σ:St}{H:Hp}{Q:VK}{K:PySem.W.Frag}
theorem RF{ta:TE}{f:Str}(h:ta σ H λx H1=>∃a C dx fs v,x=.ref a/\H1 a=some (.ins C dx fs)/\Cls K C/\NoAttr K C f/\fs.lookup f=some v/\Q v H1):DJ K ta f σ H Q:=h
theorem QR{C:Addr}{m:Str}{sp:Sp}{dvs:List V}{E:XK}{ta:TE}{t:TA}(h:ta σ H λx H1=>∃a dx fs,x=.ref a/\H1 a=some (.ins C dx fs)/\fs.lookup m=none/\t σ H1 λvs H2=>sp (x::(vs++dvs)) H2 Q E):sA C m sp dvs E ta t σ H Q:=h
theorem QC{ta tv:TE}{f:Str}{D:eP}(h:tv σ H λy H1=>ta σ H1 λx H2=>∃a C dx fs,x=.ref a/\H2 a=some (.ins C dx fs)/\Cls K C/\NoAttr K C f/\fs.length<1000/\D.nx σ (upd H2 a (.ins C dx (cR f y fs)))):E9 K ta tv f D σ H:=h
end
theorem hW(f:Str)(v:V):([(f,v)]:List (Str×V)).lookup f=some v:=by simp[List.lookup]
theorem fD{f g:Str}(v:V)(h:g≠f):([(f,v)]:List (Str×V)).lookup g=none:=by
 have:(g==f)=false:=by simpa using h
 simp[List.lookup,this]
theorem GT(f:Str)(v u:V):cR f u [(f,v)]=[(f,u)]:=by
 show(if f=f then _ else _)=_
 rw[if_pos rfl]
section
variable{X:Cx}
theorem X0(K:PySem.W.Frag){o:Expr}{to:TE}{name:Str}{apos cpos:Pos}{T id:String}{r:V->List V->Hp->VK->Prop}(pa:PlainAttrs T)(slot:Slot T name id)(hty:typeOf (.builtin id)=pure (.type "method_descriptor"))(hm:MtR X id r)(ho:PE X o to)
  (hbase:attributeBase o name X.env (eval o X.env)=eval o X.env:=by rfl) (hline:(apos.endLine==cpos.line)=true:=by rfl) (h:X.K=K:=by rfl):PE X (.Call (.Attribute o name apos) [] [] cpos) (sF K T r to):=h▸SY pa slot hty hm ho hbase hline
theorem RQ{σ:St}{H:Hp}{Q:VK}{K:PySem.W.Frag}{T:String}{r:V->List V->Hp->VK->Prop}{to:TE}(h:to σ H λx H1=>kQ K T x H1/\r x [] H1 Q):sF K T r to σ H Q:=h
noncomputable def GL(K:PySem.W.Frag):R2:=λx y H Q=>∃(a:Addr)(xs:List V)(ds:List PyData)(d:PyData),y=.ref a/\SqT K H a xs/\IsAll H xs ds/\Is H x d/\bY d/\pC ds/\Q (.bl (gA d ds)) H
theorem S7(hu:X.A.units+64<cLine):OpR X (compareOp .In) (GL X.K):=by
 intro pins s σ H x y v u Q I rx ry h
 obtain⟨a,xs,ds,d,rfl,hq,hxs,hx,od,oe,q⟩:=h
 obtain⟨as,ra⟩:=hx.reads I rx
 cases(show u=Value.ref a from ry)
 obtain⟨its,rv,⟨o,h1,h2,n,h3⟩,_⟩:=I.tuple hq
 obtain⟨bs,rb⟩:=IsAll.reads I hxs rv
 exact SeqAt.in_tuple_reads (.tuple h1 h2 h3 (by simpa using rb)) ra oe.1 od.1 (by have:=od.2;lia) ⟨.bl _,H,I,rfl,q⟩
theorem XX(K:PySem.W.Frag)(hu:X.A.units+64<cLine)(h:X.K=K:=by rfl):OpR X (compareOp .In) (GL K):=h▸S7 hu
end
section
variable{H:Hp}{K:PySem.W.Frag}
end
section
variable{prog:Program}{w:World}{A:Around}{E:Value->Shared->Prop}{s:Shared}
theorem IS{b:Bool}{Q:Bool->Shared->Prop}:∀{ns ms:List Int}{vs us:List Value}(i:Nat),Vals (ns.map V.int) vs->Vals (ms.map V.int) us->Q (HT.lexLt ns ms) s->
  PySem.W.KatLex prog w A b (decide (ns.length<ms.length)) Q (vs.zip us) i s
 |[],[],_,_,_,.nil,.nil,q=>q
 |[],_::_,_,_,_,.nil,.cons _ _,q=>q
 |_::_,[],_,_,_,.cons _ _,.nil,q=>q
 | n::ns,m::ms,_,_,i,.cons r1 t1,.cons r2 t2,q=>by
  obtain⟨t,rfl⟩:=r1
  obtain⟨u,rfl⟩:=r2
  rw[zip_cons_cons]
  refine PySem.W.kat_cons (SeqAt.EqAt.int_int n t m u prog w _ _ ?_)
  rw[HT.dR]at q
  by_cases e:n=m
  ·rw[if_pos e]at q
   rw[show(n==m)=true by simpa using e]
   have:=IS (b:=b) (i+1) t1 t2 q
   rw[show decide ((n::ns).length<(m::ms).length)=decide (ns.length<ms.length) by simp]
   exact PySem.W.kat_yes this
  ·rw[if_neg e]at q
   rw[show(n==m)=false by simpa using e]
   refine PySem.W.kat_no ?_
   cases hb:(b&&i==0) with
   |true=>exact oneLt_int q
   |false=>exact PySem.W.kat_one _ _ (lt_int (show PySem.W.BoolBack Q (.bool (decide (n<m))) s from q))
end
section
variable{X:Cx}
end
section
variable{H:Hp}{Q:VK}{K:PySem.W.Frag}
end
end L2
namespace TS
open PySem PySem.Spec PyProof.Rows
noncomputable def gB:Bool->Keyed->Array Keyed->Nat->Nat->Nat->StateT SortSt Sem (Option Nat):=sortPriv% PySem.Builtin.gallop
noncomputable def kI(left:Bool)(key:Keyed)(arr:Array Keyed)(base i:Nat):StateT SortSt Sem (Option Bool):=do
 let x <-elem' arr (base+i)
 if left then lt' x key else return (<-lt' key x).map (!·)
theorem Y3(left:Bool)(key:Keyed)(arr:Array Keyed)(base n hint:Nat):gB left key arr base n hint=(do
 let mut lastofs:=0
 let mut ofs:=1
 let mut lo:=0
 let mut hi:=0
 let some right <-kI left key arr base hint|return none
 if right then
  let maxofs:=n-hint
  for _ in [0:n] do
   if ofs>=maxofs then break
   let some more <-kI left key arr base (hint+ofs)|return none
   if !more then break
   lastofs:=ofs
   ofs:=2*ofs+1
  lo:=hint+lastofs+1
  hi:=hint+min ofs maxofs
 else
  let maxofs:=hint+1
  for _ in [0:n] do
   if ofs>=maxofs then break
   let some found <-kI left key arr base (hint-ofs)|return none
   if found then break
   lastofs:=ofs
   ofs:=2*ofs+1
  lo:=hint+1-min ofs maxofs
  hi:=hint-lastofs
 for _ in [0:n] do
  if lo>=hi then break
  let m:=lo+(hi-lo)/2
  let some more <-kI left key arr base m|return none
  if more then lo:=m+1 else hi:=m
 return some hi):=rfl
noncomputable def dG(prog:Program)(w:World)(A:Around)(s:Shared)(κ:SortKind)(r:Keyed->Nat)(S:Keyed->Prop):Prop:=
 ∀x y:Keyed,S x->S y->∀Q:Bool->Shared->Prop,Q (decide (r x<r y)) s->wpAny (model prog w) A (keyLt' κ x.1 y.1) Q (λ_ _=>False) s
section
variable{prog:Program}{w:World}{A:Around}{E:Value->Shared->Prop}{s:Shared}{κ:SortKind}{r:Keyed->Nat}{S:Keyed->Prop}
theorem lR(C:dG prog w A s κ r S){st:SortSt}{x y:Keyed}{Q:Option Bool->SortSt->Prop}(hk:kindOf st=κ)(hx:S x)(hy:S y)(h:Q (some (decide (r x<r y))) st):wpS (model prog w) A E s (lt' x y) Q st:=by
 rw[lt'_eq]
 refine wpS_bind (wpS_get ?_)
 rw[hk]
 refine wpS_bind (wpS_lift (wpAny_attempt (wpAny_mono (C x y hx hy (λb s'=>s'=s/\b=decide (r x<r y)) ⟨rfl,rfl⟩) (λb s' hb=>?_) λ_ _ e=>e.elim)))
 obtain⟨rfl,rfl⟩:=hb
 exact⟨rfl,wpS_pure h⟩
theorem cH{st:SortSt}{arr:Array Keyed}{i:Nat}{x:Keyed}{Q:Keyed->SortSt->Prop}(e:arr[i]? =some x)(h:Q x st):wpS (model prog w) A E s (elem' arr i) Q st:=by
 rw[elem'_eq,e]
 exact wpS_pure h
noncomputable def bK(left:Bool)(r:Keyed->Nat)(key x:Keyed):Bool:=if left then decide (r x<r key) else !decide (r key<r x)
theorem nW(C:dG prog w A s κ r S){left:Bool}{st:SortSt}{key x:Keyed}{arr:Array Keyed}{base i:Nat}{Q:Option Bool->SortSt->Prop}(hk:kindOf st=κ)(hx:S x)(hy:S key)
  (e:arr[base+i]? =some x) (h:Q (some (bK left r key x)) st):wpS (model prog w) A E s (kI left key arr base i) Q st:=by
 unfold kI
 refine wpS_bind (cH e ?_)
 cases left with
 |true=>
  simp only[if_true]
  exact lR C hk hx hy h
 |false=>
  simp only[Bool.false_eq_true,if_false]
  refine wpS_bind (lR C hk hy hx ?_)
  exact wpS_pure h
theorem CF(C:dG prog w A s κ r S){left:Bool}{st:SortSt}{key:Keyed}{arr:Array Keyed}{base n lo hi:Nat}{Q:Option (Option Nat)×Nat×Nat->SortSt->Prop}(hk:kindOf st=κ)(hy:S key)(g:Nat->Keyed)
  (hg:∀i,i<n->arr[base+i]? =some (g i)/\S (g i)) (mono:∀i j,i<=j->j<n->bK left r key (g j)=true->bK left r key (g i)=true)
  (h1:lo<=hi) (h2:hi<=n) (h3:∀i,i<lo->bK left r key (g i)=true) (h4:∀i,hi<=i->i<n->bK left r key (g i)=false)
  (h:∀l k,k<=n->(∀i,i<k->bK left r key (g i)=true)->(∀i,k<=i->i<n->bK left r key (g i)=false)->Q (none,l,k) st):
  wpS (model prog w) A E s (forIn [:n] ((none,lo,hi):Option (Option Nat)×Nat×Nat) λx __s=>
        if __s.snd.fst>=__s.snd.snd then pure (ForInStep.done (none,__s.snd.fst,__s.snd.snd))
        else do
         let __x <-kI left key arr base (__s.snd.fst+(__s.snd.snd-__s.snd.fst)/2)
         match __x with
          | some more=>
           if more=true then
            pure (ForInStep.yield (none,__s.snd.fst+(__s.snd.snd-__s.snd.fst)/2+1,__s.snd.snd))
           else pure (ForInStep.yield (none,__s.snd.fst,__s.snd.fst+(__s.snd.snd-__s.snd.fst)/2))
          |x=>pure (ForInStep.done (some none,__s.snd.fst,__s.snd.snd))) Q st:=by
 refine wpS_forRange (I:=λx c st'=>st'=st/\∃l k,c=(none,l,k)/\l<=k/\k<=n/\k-l<=n-x/\(∀i,i<l->bK left r key (g i)=true)/\(∀i,k<=i->i<n->bK left r key (g i)=false)) ?step ?fin ⟨rfl,lo,hi,rfl,h1,h2,by lia,h3,h4⟩
 case fin=>
  rintro c st' ⟨rfl,l,k,rfl,a1,a2,a3,a4,a5⟩
  have:l=k:=by lia
  subst this
  exact h l l a2 a4 a5
 case step=>
  rintro x c st' _ hx ⟨rfl,l,k,rfl,a1,a2,a3,a4,a5⟩
  dsimp only
  by_cases hge:l>=k
  ·rw[if_pos hge]
   have:l=k:=by lia
   subst this
   exact wpS_pure (h l l a2 a4 a5)
  ·rw[if_neg hge]
   have hm:l+(k-l)/2<n:=by lia
   refine wpS_bind (nW C hk (hg _ hm).2 hy (hg _ hm).1 ?_)
   cases e:bK left r key (g (l+(k-l)/2)) with
   |true=>
    dsimp only
    rw[if_pos rfl]
    exact wpS_pure ⟨rfl,_,_,rfl,by lia,a2,by lia,λi hi=>mono i _ (by lia) hm e,a5⟩
   |false=>
    dsimp only
    rw[if_neg (by simp)]
    refine wpS_pure ⟨rfl,_,_,rfl,by lia,by lia,by lia,a4,λi h5 h6=>?_⟩
    cases q:bK left r key (g i) with
    |false=>rfl
    |true=>rw[mono _ i h5 h6 q]at e;cases e
theorem kP(C:dG prog w A s κ r S){left:Bool}{st:SortSt}{key:Keyed}{arr:Array Keyed}{base n hint:Nat}{Q:Option Nat->SortSt->Prop}(hk:kindOf st=κ)(hy:S key)(g:Nat->Keyed)
  (hg:∀i,i<n->arr[base+i]? =some (g i)/\S (g i)) (hm:∀i j,i<=j->j<n->r (g i)<=r (g j)) (hh:hint<n)
  (h:∀k,k<=n->(∀i,i<k->bK left r key (g i)=true)->(∀i,k<=i->i<n->bK left r key (g i)=false)->Q (some k) st):wpS (model prog w) A E s (gB left key arr base n hint) Q st:=by
 have mono:∀i j,i<=j->j<n->bK left r key (g j)=true->bK left r key (g i)=true:=λi j hij hj e=>by
  have:=hm i j hij hj
  unfold bK at e ⊢
  cases left <;> simp at e ⊢ <;> lia
 have monoF:∀i j,i<=j->j<n->bK left r key (g i)=false->bK left r key (g j)=false:=λi j hij hj e=>by
  cases q:bK left r key (g j) with
  |false=>rfl
  |true=>rw[mono i j hij hj q]at e;cases e
 rw[Y3]
 refine wpS_bind (nW C hk (hg hint hh).2 hy (hg hint hh).1 ?_)
 cases e0:bK left r key (g hint) with
 | true=>
  simp only[if_true]
  refine wpS_bind (wpS_mono (wpS_forRange (I:=λx c st'=>st'=st/\∃l o,c=(none,l,o)/\l<o/\x<o/\hint+l<n/\bK left r key (g (hint+l))=true)
   (Q:=λc st'=>st'=st/\∃l o,c=(none,l,o)/\l<o/\hint+l<n/\bK left r key (g (hint+l))=true/\∀i,hint+min o (n-hint)<=i->i<n->bK left r key (g i)=false) ?step ?fin ⟨rfl,0,1,rfl,by lia,by lia,hh,e0⟩) ?post)
  case fin=>
   rintro c st' ⟨rfl,l,o,rfl,a1,a2,a3,a4⟩
   exact⟨rfl,l,o,rfl,a1,a3,a4,λi h5 h6=>by lia⟩
  case step=>
   rintro x c st' _ hx ⟨rfl,l,o,rfl,a1,a2,a3,a4⟩
   dsimp only
   by_cases hge:o>=n-hint
   ·rw[if_pos hge]
    exact wpS_pure ⟨rfl,l,o,rfl,a1,a3,a4,λi h5 h6=>by lia⟩
   ·rw[if_neg hge]
    have hn:hint+o<n:=by lia
    refine wpS_bind (nW C hk (hg _ hn).2 hy (hg _ hn).1 ?_)
    cases e:bK left r key (g (hint+o)) with
    |true=>
     dsimp only
     rw[if_neg (by simp)]
     exact wpS_pure ⟨rfl,_,_,rfl,by lia,by lia,hn,e⟩
    |false=>
     dsimp only
     rw[if_pos (by simp)]
     exact wpS_pure ⟨rfl,l,o,rfl,a1,a3,a4,λi h5 h6=>monoF _ i (by lia) h6 e⟩
  case post=>
   rintro c st' ⟨rfl,l,o,rfl,a1,a3,a4,a5⟩
   dsimp only
   refine wpS_bind (CF C hk hy g hg mono (by lia) (by lia) (λi hi=>mono i _ (by lia) a3 a4) a5 λl k b1 b2 b3=>?_)
   exact wpS_pure (h k b1 b2 b3)
 | false=>
  simp only[Bool.false_eq_true,if_false]
  refine wpS_bind (wpS_mono (wpS_forRange (I:=λx c st'=>st'=st/\∃l o,c=(none,l,o)/\l<o/\x<o/\l<=hint/\bK left r key (g (hint-l))=false)
   (Q:=λc st'=>st'=st/\∃l o,c=(none,l,o)/\l<o/\l<=hint/\bK left r key (g (hint-l))=false/\∀i,i<hint+1-min o (hint+1)->bK left r key (g i)=true) ?step ?fin ⟨rfl,0,1,rfl,by lia,by lia,by lia,e0⟩) ?post)
  case fin=>
   rintro c st' ⟨rfl,l,o,rfl,a1,a2,a3,a4⟩
   exact⟨rfl,l,o,rfl,a1,a3,a4,λi h5=>by lia⟩
  case step=>
   rintro x c st' _ hx ⟨rfl,l,o,rfl,a1,a2,a3,a4⟩
   dsimp only
   by_cases hge:o>=hint+1
   ·rw[if_pos hge]
    exact wpS_pure ⟨rfl,l,o,rfl,a1,a3,a4,λi h5=>by lia⟩
   ·rw[if_neg hge]
    have hn:hint-o<n:=by lia
    refine wpS_bind (nW C hk (hg _ hn).2 hy (hg _ hn).1 ?_)
    cases e:bK left r key (g (hint-o)) with
    |false=>
     dsimp only
     rw[if_neg (by simp)]
     exact wpS_pure ⟨rfl,_,_,rfl,by lia,by lia,by lia,e⟩
    |true=>
     dsimp only
     rw[if_pos rfl]
     exact wpS_pure ⟨rfl,l,o,rfl,a1,a3,a4,λi h5=>mono i _ (by lia) hn e⟩
  case post=>
   rintro c st' ⟨rfl,l,o,rfl,a1,a3,a4,a5⟩
   dsimp only
   refine wpS_bind (CF C hk hy g hg mono (by lia) (by lia) a5 (λi hi h6=>monoF _ i hi h6 a4) λl k b1 b2 b3=>?_)
   exact wpS_pure (h k b1 b2 b3)
end
noncomputable def xN:Array Keyed->Array Keyed->StateT SortSt Sem (Array Keyed):=sortPriv% PySem.Builtin.mergeLo
noncomputable def xO:Array Keyed->Array Keyed->StateT SortSt Sem (Array Keyed):=sortPriv% PySem.Builtin.mergeHi
noncomputable abbrev sg(st:SortSt)(g:Nat):SortSt:=SortSt.mk' (kindOf st) (arrOf st) (pendingOf st) g (failedOf st)
noncomputable def j0(g:Nat):StateT SortSt Sem Unit:=modify λs=>sg s g
theorem WO(a b:Array Keyed):xN a b=(do
 rule "list.sort.merge-lo"
 let total:=a.size+b.size
 let done (out:Array Keyed) (ia ib:Nat):=out++a.extract ia a.size++b.extract ib b.size
 let lastOfA (out:Array Keyed) (ia ib:Nat):=out++b.extract ib b.size++a.extract ia a.size
 let mut out:Array Keyed:=#[<-elem' b 0]
 let mut ia:=0
 let mut ib:=1
 if ib==b.size then return done out ia ib
 if ia+1==a.size then return lastOfA out ia ib
 let mut minGallop:=gallopOf (<-get)
 for _ in [0:total] do
  let mut acount:=0
  let mut bcount:=0
  for _ in [0:total] do
   let some bWins <-lt' (<-elem' b ib) (<-elem' a ia)|return done out ia ib
   if bWins then
    out:=out.push (<-elem' b ib);ib:=ib+1;bcount:=bcount+1;acount:=0
    if ib==b.size then return done out ia ib
    if bcount>=minGallop then break
   else
    out:=out.push (<-elem' a ia);ia:=ia+1;acount:=acount+1;bcount:=0
    if ia+1==a.size then return lastOfA out ia ib
    if acount>=minGallop then break
  rule "list.sort.gallop"
  minGallop:=minGallop+1
  for _ in [0:total] do
   if minGallop>1 then minGallop:=minGallop-1
   j0 minGallop
   let some k <-gB false (<-elem' b ib) a ia (a.size-ia) 0|return done out ia ib
   acount:=k
   if k>0 then
    out:=out++a.extract ia (ia+k);ia:=ia+k
    if ia+1==a.size then return lastOfA out ia ib
    if ia==a.size then return done out ia ib
   out:=out.push (<-elem' b ib);ib:=ib+1
   if ib==b.size then return done out ia ib
   let some k <-gB true (<-elem' a ia) b ib (b.size-ib) 0|return done out ia ib
   bcount:=k
   if k>0 then
    out:=out++b.extract ib (ib+k);ib:=ib+k
    if ib==b.size then return done out ia ib
   out:=out.push (<-elem' a ia);ia:=ia+1
   if ia+1==a.size then return lastOfA out ia ib
   if acount<7&&bcount<7 then break
  minGallop:=minGallop+1
  j0 minGallop
 unsupported "internal:list.sort.merge-bound"):=rfl
theorem WP(a b:Array Keyed):xO a b=(do
 rule "list.sort.merge-hi"
 let total:=a.size+b.size
 let done (out:Array Keyed) (na nb:Nat):=a.extract 0 na++b.extract 0 nb++out.reverse
 let firstOfB (out:Array Keyed) (na nb:Nat):=b.extract 0 nb++a.extract 0 na++out.reverse
 let mut na:=a.size-1
 let mut nb:=b.size
 let mut out:Array Keyed:=#[<-elem' a na]
 if na==0 then return done out na nb
 if nb==1 then return firstOfB out na nb
 let mut minGallop:=gallopOf (<-get)
 for _ in [0:total] do
  let mut acount:=0
  let mut bcount:=0
  for _ in [0:total] do
   let some aWins <-lt' (<-elem' b (nb-1)) (<-elem' a (na-1))|return done out na nb
   if aWins then
    na:=na-1;out:=out.push (<-elem' a na);acount:=acount+1;bcount:=0
    if na==0 then return done out na nb
    if acount>=minGallop then break
   else
    nb:=nb-1;out:=out.push (<-elem' b nb);bcount:=bcount+1;acount:=0
    if nb==1 then return firstOfB out na nb
    if bcount>=minGallop then break
  rule "list.sort.gallop"
  minGallop:=minGallop+1
  for _ in [0:total] do
   if minGallop>1 then minGallop:=minGallop-1
   j0 minGallop
   let some at_ <-gB false (<-elem' b (nb-1)) a 0 na (na-1)|return done out na nb
   let k:=na-at_
   acount:=k
   if k>0 then
    out:=out++(a.extract at_ na).reverse;na:=at_
    if na==0 then return done out na nb
   nb:=nb-1;out:=out.push (<-elem' b nb)
   if nb==1 then return firstOfB out na nb
   let some at_ <-gB true (<-elem' a (na-1)) b 0 nb (nb-1)|return done out na nb
   let k:=nb-at_
   bcount:=k
   if k>0 then
    out:=out++(b.extract at_ nb).reverse;nb:=at_
    if nb==1 then return firstOfB out na nb
    if nb==0 then return done out na nb
   na:=na-1;out:=out.push (<-elem' a na)
   if na==0 then return done out na nb
   if acount<7&&bcount<7 then break
  minGallop:=minGallop+1
  j0 minGallop
 unsupported "internal:list.sort.merge-bound"):=rfl
noncomputable def Ml(r:Keyed->Nat)(a b out:List Keyed)(ia ib:Nat):Prop:=
 out.Perm (a.take ia++b.take ib)/\out.Pairwise (λx y=>r x<=r y)/\∀u∈out,∀v,v∈a.drop ia\/v∈b.drop ib->r u<=r v
theorem Ml.swap{r:Keyed->Nat}{a b out:List Keyed}{ia ib:Nat}(h:Ml r a b out ia ib):Ml r b a out ib ia:=
 ⟨h.1.trans perm_append_comm,h.2.1,λu hu v hv=>h.2.2 u hu v hv.symm⟩
theorem Ml.a{r:Keyed->Nat}{a b out:List Keyed}{ia ib:Nat}(h:Ml r a b out ia ib)(sa:a.Pairwise λx y=>r x<=r y)(k:Nat)(hk:∀u∈(a.drop ia).take k,∀v∈b.drop ib,r u<=r v):
  Ml r a b (out++(a.drop ia).take k) (ia+k) ib:=by
 obtain⟨h1,h2,h3⟩:=h
 have sd:(a.drop ia).Pairwise λx y=>r x<=r y:=sa.sublist (List.drop_sublist _ _)
 have st:((a.drop ia).take k++(a.drop ia).drop k).Pairwise λx y=>r x<=r y:=by rw[take_append_drop];exact sd
 rw[pairwise_append]at st
 refine⟨?_,?_,?_⟩
 ·rw[List.take_add]
  refine(List.Perm.append_right _ h1).trans ?_
  rw[append_assoc,append_assoc]
  exact List.Perm.append_left _ perm_append_comm
 ·rw[pairwise_append]
  exact⟨h2,st.1,λu hu v hv=>h3 u hu v (.inl (mem_of_mem_take hv))⟩
 ·intro u hu v hv
  rw[<-List.drop_drop]at hv
  rcases mem_append.mp hu with hu|hu
  ·exact h3 u hu v (hv.imp mem_of_mem_drop id)
  ·rcases hv with hv|hv
   ·exact st.2.2 u hu v hv
   ·exact hk u hu v hv
theorem Ml.b{r:Keyed->Nat}{a b out:List Keyed}{ia ib:Nat}(h:Ml r a b out ia ib)(sb:b.Pairwise λx y=>r x<=r y)(k:Nat)(hk:∀u∈(b.drop ib).take k,∀v∈a.drop ia,r u<=r v):
  Ml r a b (out++(b.drop ib).take k) ia (ib+k):=(h.swap.a sb k hk).swap
noncomputable def eO(r:Keyed->Nat)(a b out:Array Keyed):Prop:=out.toList.Perm (a.toList++b.toList)/\out.toList.Pairwise λx y=>r x<=r y
theorem Ml.all{r:Keyed->Nat}{a b out:List Keyed}{ia ib:Nat}(h:Ml r a b out ia ib)(h1:a.length<=ia)(h2:b.length<=ib):out.Perm (a++b)/\out.Pairwise λx y=>r x<=r y:=by
 obtain⟨p,q,_⟩:=h
 rw[take_of_length_le h1,take_of_length_le h2]at p
 exact⟨p,q⟩
theorem ext_toList(a:Array Keyed)(i j:Nat):(a.extract i j).toList=(a.toList.drop i).take (j-i):=by simp[Array.toList_extract,List.extract_eq_take_drop]
theorem Ml.done{r:Keyed->Nat}{a b out:Array Keyed}{ia ib:Nat}(h:Ml r a.toList b.toList out.toList ia ib)(sa:a.toList.Pairwise λx y=>r x<=r y)(sb:b.toList.Pairwise λx y=>r x<=r y)(e:a.size<=ia\/b.size<=ib):
  eO r a b (out++a.extract ia a.size++b.extract ib b.size):=by
 have h1:=h.a sa (a.size-ia) λu hu v hv=>by
  rcases e with e|e
  ·rw[drop_of_length_le (by simpa using e)]at hu;simp at hu
  ·rw[drop_of_length_le (by simpa using e)]at hv;simp at hv
 have h2:=h1.b sb (b.size-ib) λu hu v hv=>by
  rw[drop_of_length_le (by simp;lia)]at hv;simp at hv
 have:=h2.all (by simp;lia) (by simp;lia)
 unfold eO
 rw[Array.toList_append,Array.toList_append,ext_toList,ext_toList]
 exact this
theorem Ml.last{r:Keyed->Nat}{a b out:Array Keyed}{ia ib:Nat}(h:Ml r a.toList b.toList out.toList ia ib)(sa:a.toList.Pairwise λx y=>r x<=r y)(sb:b.toList.Pairwise λx y=>r x<=r y)
  (e:∀u∈b.toList,∀v∈a.toList.drop ia,r u<=r v):eO r a b (out++b.extract ib b.size++a.extract ia a.size):=by
 have h1:=h.b sb (b.size-ib) λu hu v hv=>e u (mem_of_mem_drop (mem_of_mem_take hu)) v hv
 have h2:=h1.a sa (a.size-ia) λu hu v hv=>by
  rw[drop_of_length_le (by simp;lia)]at hv;simp at hv
 have:=h2.all (by simp;lia) (by simp;lia)
 unfold eO
 rw[Array.toList_append,Array.toList_append,ext_toList,ext_toList]
 exact this
noncomputable def it(a:Array Keyed)(i:Nat):Keyed:=a.getD i (Value.none,Value.none)
theorem bZ{a:Array Keyed}{i:Nat}(h:i<a.size):a[i]? =some (it a i):=by
 unfold it;rw[getElem?_pos a i h];simp[Array.getD,h]
theorem fI{a:Array Keyed}{i:Nat}(h:i<a.size):it a i=a[i]:=by unfold it;simp[Array.getD,h]
theorem fE{a:Array Keyed}{i:Nat}(h:i<a.size):it a i∈a.toList:=by rw[fI h];simp
noncomputable def Srt(r:Keyed->Nat)(a:Array Keyed):Prop:=∀i j,i<=j->j<a.size->r (it a i)<=r (it a j)
theorem Srt.pw{r:Keyed->Nat}{a:Array Keyed}(h:Srt r a):a.toList.Pairwise λx y=>r x<=r y:=by
 rw[pairwise_iff_getElem]
 intro i j hi hj hij
 have:=h i j (by lia) (by simpa using hj)
 rw[fI (by simpa using hi),fI (by simpa using hj)]at this
 simpa using this
theorem Srt.of{r:Keyed->Nat}{a:Array Keyed}(h:a.toList.Pairwise λx y=>r x<=r y):Srt r a:=by
 intro i j hij hj
 rw[fI hj,fI (by lia:i<a.size)]
 by_cases e:i=j
 ·subst e;exact Nat.le_refl _
 ·rw[pairwise_iff_getElem]at h
  have:=h i j (by simp;lia) (by simpa using hj) (by lia)
  simpa using this
theorem j8{a:Array Keyed}{i:Nat}{v:Keyed}(h:v∈a.toList.drop i):∃j,i<=j/\j<a.size/\v=it a j:=by
 obtain⟨k,hk,e⟩:=List.mem_iff_getElem.mp h
 rw[length_drop,Array.length_toList]at hk
 refine⟨i+k,by lia,by lia,?_⟩
 rw[fI (by lia),<-e]
 simp
theorem xG{a:Array Keyed}{i k:Nat}{v:Keyed}(h:v∈(a.toList.drop i).take k):∃j,i<=j/\j<i+k/\j<a.size/\v=it a j:=by
 obtain⟨m,hm,e⟩:=List.mem_iff_getElem.mp h
 rw[length_take,length_drop,Array.length_toList]at hm
 refine⟨i+m,by lia,by lia,by lia,?_⟩
 rw[fI (by lia),<-e]
 simp
noncomputable abbrev MA(r:Keyed->Nat)(a b out:Array Keyed)(ia ib:Nat):Prop:=Ml r a.toList b.toList out.toList ia ib
section
variable{r:Keyed->Nat}{a b out:Array Keyed}{ia ib:Nat}
theorem MA.ext(h:MA r a b out ia ib)(sa:Srt r a)(k:Nat)(hk:∀j,ia<=j->j<ia+k->j<a.size->∀i,ib<=i->i<b.size->r (it a j)<=r (it b i)):MA r a b (out++a.extract ia (ia+k)) (ia+k) ib:=by
 have:=Ml.a h sa.pw k λu hu v hv=>by
  obtain⟨j,h1,h2,h3,rfl⟩:=xG hu
  obtain⟨i,h4,h5,rfl⟩:=j8 hv
  exact hk j h1 h2 h3 i h4 h5
 unfold MA
 rw[Array.toList_append,ext_toList,show ia+k-ia=k by lia]
 exact this
theorem MA.exb(h:MA r a b out ia ib)(sb:Srt r b)(k:Nat)(hk:∀j,ib<=j->j<ib+k->j<b.size->∀i,ia<=i->i<a.size->r (it b j)<=r (it a i)):MA r a b (out++b.extract ib (ib+k)) ia (ib+k):=
 Ml.swap (MA.ext (Ml.swap h) sb k hk)
theorem GU{a out:Array Keyed}{i:Nat}(h:i<a.size):out.push (it a i)=out++a.extract i (i+1):=by
 apply Array.toList_inj.mp
 rw[Array.toList_append,ext_toList,Array.toList_push,fI h]
 congr 1
 rw[show i+1-i=1 by lia,List.take_one]
 simp[List.head?_drop,h]
theorem MA.pa(h:MA r a b out ia ib)(sa:Srt r a)(hi:ia<a.size)(hk:∀i,ib<=i->i<b.size->r (it a ia)<=r (it b i)):MA r a b (out.push (it a ia)) (ia+1) ib:=by
 rw[GU hi]
 exact h.ext sa 1 λj h1 h2 h3 i h4 h5=>by
  obtain rfl:j=ia:=by lia
  exact hk i h4 h5
theorem MA.pb(h:MA r a b out ia ib)(sb:Srt r b)(hi:ib<b.size)(hk:∀i,ia<=i->i<a.size->r (it b ib)<=r (it a i)):MA r a b (out.push (it b ib)) ia (ib+1):=
 Ml.swap (MA.pa (Ml.swap h) sb hi hk)
theorem MA.lst(h:MA r a b out ia ib)(sa:Srt r a)(sb:Srt r b)(e:ia+1=a.size)(hl:∀i,i<b.size->r (it b i)<=r (it a (a.size-1))):eO r a b (out++b.extract ib b.size++a.extract ia a.size):=
 Ml.last h sa.pw sb.pw λu hu v hv=>by
  obtain⟨i,h4,h5,rfl⟩:=j8 hv
  obtain⟨j,h1,h2,rfl⟩:=j8 (i:=0) (a:=b) (by simpa using hu)
  obtain rfl:i=a.size-1:=by lia
  exact hl j h2
end
noncomputable abbrev qY:=Option (Array Keyed)×Array Keyed×Nat×Nat×Nat×Nat×Nat
noncomputable def pL(a b out:Array Keyed)(ia ib mg ac k:Nat):StateT SortSt Sem (ForInStep qY):=do
 let x <-elem' a ia
 if ia+1+1==a.size then pure (.done (some (out.push x++b.extract ib b.size++a.extract (ia+1) a.size),out.push x,ia+1,ib,mg,ac,k))
 else if decide (ac<7)&&decide (k<7) then pure (.done (none,out.push x,ia+1,ib,mg,ac,k))
 else pure (.yield (none,out.push x,ia+1,ib,mg,ac,k))
noncomputable def pM(a b out:Array Keyed)(ia ib mg ac bc:Nat):StateT SortSt Sem (ForInStep qY):=do
 let x <-elem' b ib
 if ib+1==b.size then pure (.done (some (out.push x++a.extract ia a.size++b.extract (ib+1) b.size),out.push x,ia,ib+1,mg,ac,bc))
 else do
  let y <-elem' a ia
  match <-gB true y b (ib+1) (b.size-(ib+1)) 0 with
  | some k=>
   if k>0 then
    if ib+1+k==b.size then pure (.done (some (out.push x++b.extract (ib+1) (ib+1+k)++a.extract ia a.size++b.extract (ib+1+k) b.size),out.push x++b.extract (ib+1) (ib+1+k),ia,ib+1+k,mg,ac,k))
    else pL a b (out.push x++b.extract (ib+1) (ib+1+k)) ia (ib+1+k) mg ac k
   else pL a b (out.push x) ia (ib+1) mg ac k
  |_=>pure (.done (some (out.push x++a.extract ia a.size++b.extract (ib+1) b.size),out.push x,ia,ib+1,mg,ac,bc))
noncomputable def lo1(a b out:Array Keyed)(ia ib mg ac bc:Nat):StateT SortSt Sem (ForInStep qY):=do
 j0 mg
 let y <-elem' b ib
 match <-gB false y a ia (a.size-ia) 0 with
 | some k=>
  if k>0 then
   if ia+k+1==a.size then pure (.done (some (out++a.extract ia (ia+k)++b.extract ib b.size++a.extract (ia+k) a.size),out++a.extract ia (ia+k),ia+k,ib,mg,k,bc))
   else if ia+k==a.size then pure (.done (some (out++a.extract ia (ia+k)++a.extract (ia+k) a.size++b.extract ib b.size),out++a.extract ia (ia+k),ia+k,ib,mg,k,bc))
   else pM a b (out++a.extract ia (ia+k)) (ia+k) ib mg k bc
  else pM a b out ia ib mg k bc
 |_=>pure (.done (some (out++a.extract ia a.size++b.extract ib b.size),out,ia,ib,mg,ac,bc))
noncomputable def kM(r:Keyed->Nat)(a b:Array Keyed)(x:Nat)(o:Option (Array Keyed))(out:Array Keyed)(ia ib:Nat):Prop:=
 match o with
 |some res=>eO r a b res
 |none=>MA r a b out ia ib/\ia+1<a.size/\ib<b.size/\x<=ia+ib
noncomputable def qW(r:Keyed->Nat)(a b:Array Keyed)(x:Nat)(st:SortSt)(c:ForInStep qY)(st':SortSt):Prop:=
 (∃g,st'=sg st g)/\match c with
 | .done (o,out,ia,ib,_)=>kM r a b x o out ia ib
 | .yield (o,out,ia,ib,_)=>o=none/\kM r a b x o out ia ib
section
variable{prog:Program}{w:World}{A:Around}{E:Value->Shared->Prop}{s:Shared}{κ:SortKind}{r:Keyed->Nat}{S:Keyed->Prop}{a b out:Array Keyed}{ia ib:Nat}{st:SortSt}
theorem nV{g:Nat}{Q:Unit->SortSt->Prop}(h:Q () (sg st g)):wpS (model prog w) A E s (j0 g) Q st:=wpS_modify h
theorem CG(sa:Srt r a)(sb:Srt r b)(hl:∀i,i<b.size->r (it b i)<=r (it a (a.size-1))){x mg ac k g:Nat}(M:MA r a b out ia ib)(h1:ia+1<a.size)(h2:ib<b.size)(h3:x<=ia+ib)
  (hk:∀i,ib<=i->i<b.size->r (it a ia)<=r (it b i)):wpS (model prog w) A E s (pL a b out ia ib mg ac k) (qW r a b x st) (sg st g):=by
 unfold pL
 refine wpS_bind (cH (bZ (by lia:ia<a.size)) ?_)
 have M':=M.pa sa (by lia) hk
 by_cases e1:ia+1+1=a.size
 ·rw[if_pos (by simpa using e1)]
  exact wpS_pure ⟨⟨g,rfl⟩,M'.lst sa sb e1 hl⟩
 ·rw[if_neg (by simpa using e1)]
  split
  ·exact wpS_pure ⟨⟨g,rfl⟩,M',by lia,h2,by lia⟩
  ·exact wpS_pure ⟨⟨g,rfl⟩,rfl,M',by lia,h2,by lia⟩
theorem CH(C:dG prog w A s κ r S)(hkd:kindOf st=κ)(hS:∀x,x∈a.toList\/x∈b.toList->S x)(sa:Srt r a)(sb:Srt r b)(hl:∀i,i<b.size->r (it b i)<=r (it a (a.size-1))){x mg ac bc g:Nat}(M:MA r a b out ia ib)(h1:ia+1<a.size)(h2:ib<b.size)(h3:x<=ia+ib)
  (hk:∀i,ia<=i->i<a.size->r (it b ib)<=r (it a i)):wpS (model prog w) A E s (pM a b out ia ib mg ac bc) (qW r a b x st) (sg st g):=by
 unfold pM
 refine wpS_bind (cH (bZ h2) ?_)
 have M':=M.pb sb h2 hk
 by_cases e1:ib+1=b.size
 ·rw[if_pos (by simpa using e1)]
  exact wpS_pure ⟨⟨g,rfl⟩,Ml.done M' sa.pw sb.pw (.inr (by lia))⟩
 ·rw[if_neg (by simpa using e1)]
  refine wpS_bind (cH (bZ (by lia:ia<a.size)) ?_)
  refine wpS_bind (kP C hkd (hS _ (.inl (fE (by lia)))) (λi=>it b (ib+1+i)) (λi hi=>⟨bZ (by lia),hS _ (.inr (fE (by lia)))⟩) (λi j hij hj=>sb _ _ (by lia) (by lia)) (by lia) λk k1 k2 k3=>?_)
  dsimp only
  have c2:∀i,i<k->r (it b (ib+1+i))<r (it a ia):=λi hi=>by have:=k2 i hi;unfold bK at this;simpa using this
  have c3:∀i,k<=i->i<b.size-(ib+1)->r (it a ia)<=r (it b (ib+1+i)):=λi hi hj=>by have:=k3 i hi hj;unfold bK at this;simpa using this
  have cb:∀i,ib+1+k<=i->i<b.size->r (it a ia)<=r (it b i):=λi h5 h6=>by
   have:=c3 (i-(ib+1)) (by lia) (by lia)
   rwa [show ib+1+(i-(ib+1))=i by lia]at this
  by_cases k0:k>0
  ·rw[if_pos k0]
   have M2:=M'.exb sb k λj h5 h6 h7 i h8 h9=>by
    have:=c2 (j-(ib+1)) (by lia)
    rw[show ib+1+(j-(ib+1))=j by lia]at this
    have:=sa ia i h8 h9
    lia
   by_cases e2:ib+1+k=b.size
   ·rw[if_pos (by simpa using e2)]
    exact wpS_pure ⟨⟨g,rfl⟩,Ml.done M2 sa.pw sb.pw (.inr (by lia))⟩
   ·rw[if_neg (by simpa using e2)]
    exact CG sa sb hl M2 h1 (by lia) (by lia) cb
  ·rw[if_neg k0]
   obtain rfl:k=0:=by lia
   exact CG sa sb hl M' h1 (by lia) (by lia) (by simpa using cb)
theorem CI(C:dG prog w A s κ r S)(hkd:kindOf st=κ)(hS:∀x,x∈a.toList\/x∈b.toList->S x)(sa:Srt r a)(sb:Srt r b)(hl:∀i,i<b.size->r (it b i)<=r (it a (a.size-1))){x mg ac bc g:Nat}(M:MA r a b out ia ib)(h1:ia+1<a.size)(h2:ib<b.size)(h3:x<=ia+ib):
  wpS (model prog w) A E s (lo1 a b out ia ib mg ac bc) (qW r a b x st) (sg st g):=by
 unfold lo1
 refine wpS_bind (nV ?_)
 refine wpS_bind (cH (bZ h2) ?_)
 refine wpS_bind (kP C hkd (hS _ (.inr (fE h2))) (λi=>it a (ia+i)) (λi hi=>⟨bZ (by lia),hS _ (.inl (fE (by lia)))⟩) (λi j hij hj=>sa _ _ (by lia) (by lia)) (by lia) λk k1 k2 k3=>?_)
 dsimp only
 have c2:∀i,i<k->r (it a (ia+i))<=r (it b ib):=λi hi=>by have:=k2 i hi;unfold bK at this;simpa using this
 have c3:∀i,k<=i->i<a.size-ia->r (it b ib)<r (it a (ia+i)):=λi hi hj=>by have:=k3 i hi hj;unfold bK at this;simpa using this
 have cb:∀i,ia+k<=i->i<a.size->r (it b ib)<=r (it a i):=λi h5 h6=>by
  have:=c3 (i-ia) (by lia) (by lia)
  rw[show ia+(i-ia)=i by lia]at this
  lia
 by_cases k0:k>0
 ·rw[if_pos k0]
  have M2:=M.ext sa k λj h5 h6 h7 i h8 h9=>by
   have:=c2 (j-ia) (by lia)
   rw[show ia+(j-ia)=j by lia]at this
   have:=sb ib i h8 h9
   lia
  by_cases e2:ia+k+1=a.size
  ·rw[if_pos (by simpa using e2)]
   exact wpS_pure ⟨⟨mg,rfl⟩,M2.lst sa sb e2 hl⟩
  ·rw[if_neg (by simpa using e2)]
   by_cases e3:ia+k=a.size
   ·rw[if_pos (by simpa using e3)]
    exact wpS_pure ⟨⟨mg,rfl⟩,Ml.done M2 sa.pw sb.pw (.inl (by lia))⟩
   ·rw[if_neg (by simpa using e3)]
    exact CH C hkd hS sa sb hl M2 (by lia) h2 (by lia) cb
 ·rw[if_neg k0]
  obtain rfl:k=0:=by lia
  exact CH C hkd hS sa sb hl M h1 h2 h3 (by simpa using cb)
theorem MK(C:dG prog w A s κ r S){Q:Array Keyed->SortSt->Prop}(hkd:kindOf st=κ)(hS:∀x,x∈a.toList\/x∈b.toList->S x)
  (sa:Srt r a) (sb:Srt r b) (ha:0<a.size) (hb:0<b.size) (h0:r (it b 0)<=r (it a 0)) (hl:∀i,i<b.size->r (it b i)<=r (it a (a.size-1)))
  (h:∀out g,eO r a b out->Q out (sg st g)):wpS (model prog w) A E s (xN a b) Q st:=by
 rw[WO]
 refine wpS_bind (wpS_lift (wpAny_rule ⟨rfl,?_⟩))
 refine wpS_bind (cH (bZ hb) ?_)
 have M0:MA r a b #[] 0 0:=⟨by simp,.nil,λu hu=>by simp at hu⟩
 have M1:MA r a b #[it b 0] 0 1:=by
  have:=M0.pb sb hb λi _ hi=>Nat.le_trans h0 (sa 0 i (by lia) hi)
  simpa using this
 dsimp only
 by_cases e1:1=b.size
 ·rw[if_pos (by simpa using e1)]
  exact wpS_pure (h _ (gallopOf st) (Ml.done M1 sa.pw sb.pw (.inr (by lia))))
 rw[if_neg (by simpa using e1)]
 by_cases e2:0+1=a.size
 ·rw[if_pos (by simpa using e2)]
  exact wpS_pure (h _ (gallopOf st) (M1.lst sa sb e2 hl))
 rw[if_neg (by simpa using e2)]
 refine wpS_bind (wpS_get ?_)
 refine wpS_bind (wpS_mono (wpS_forRange (I:=λx c st'=>(∃g,st'=sg st g)/\∃out ia ib mg,c=(none,out,ia,ib,mg)/\kM r a b (1+x) none out ia ib)
  (Q:=λc st'=>(∃g,st'=sg st g)/\∃res out ia ib mg,c=(some res,out,ia,ib,mg)/\eO r a b res) ?step ?fin ⟨⟨gallopOf st,rfl⟩,_,_,_,_,rfl,M1,by lia,by lia,by lia⟩) ?post)
 case fin=>
  rintro c st' ⟨hg,out,ia,ib,mg,rfl,M,q1,q2,q3⟩
  lia
 case post=>
  rintro c st' ⟨⟨g,rfl⟩,res,out,ia,ib,mg,rfl,M⟩
  exact wpS_pure (h _ g M)
 case step=>
  rintro x c st' _ hx ⟨⟨g,rfl⟩,out,ia,ib,mg,rfl,M,q1,q2,q3⟩
  dsimp only
  refine wpS_bind (wpS_mono (wpS_forRange (I:=λy c st'=>st'=sg st g/\∃out ia ib ac bc,c=(none,out,ia,ib,ac,bc)/\kM r a b (1+x+min y 1) none out ia ib)
   (Q:=λc st'=>st'=sg st g/\∃o out ia ib ac bc,c=(o,out,ia,ib,ac,bc)/\kM r a b (1+(x+1)) o out ia ib) ?step1 ?fin1 ⟨rfl,_,_,_,_,_,rfl,M,q1,q2,by lia⟩) ?post1)
  case fin1=>
   rintro c st' ⟨rfl,out,ia,ib,ac,bc,rfl,M,q1,q2,q3⟩
   exact⟨rfl,_,_,_,_,_,_,rfl,M,q1,q2,by lia⟩
  case step1=>
   rintro y c st' _ hy ⟨rfl,out,ia,ib,ac,bc,rfl,M,q1,q2,q3⟩
   dsimp only
   refine wpS_bind (cH (bZ q2) ?_)
   refine wpS_bind (cH (bZ (by lia:ia<a.size)) ?_)
   refine wpS_bind (lR C hkd (hS _ (.inr (fE q2))) (hS _ (.inl (fE (by lia)))) ?_)
   dsimp only
   by_cases lt:r (it b ib)<r (it a ia)
   ·rw[if_pos (by simpa using lt)]
    refine wpS_bind (cH (bZ q2) ?_)
    have M2:=M.pb sb q2 λi h1 h2=>by have:=sa ia i h1 h2;lia
    by_cases e3:ib+1=b.size
    ·rw[if_pos (by simpa using e3)]
     exact wpS_pure ⟨rfl,_,_,_,_,_,_,rfl,Ml.done M2 sa.pw sb.pw (.inr (by lia))⟩
    ·rw[if_neg (by simpa using e3)]
     split
     ·exact wpS_pure ⟨rfl,_,_,_,_,_,_,rfl,M2,q1,by lia,by lia⟩
     ·exact wpS_pure ⟨rfl,_,_,_,_,_,rfl,M2,q1,by lia,by lia⟩
   ·rw[if_neg (by simpa using lt)]
    refine wpS_bind (cH (bZ (by lia:ia<a.size)) ?_)
    have M2:=M.pa sa (by lia) λi h1 h2=>by have:=sb ib i h1 h2;lia
    by_cases e3:ia+1+1=a.size
    ·rw[if_pos (by simpa using e3)]
     exact wpS_pure ⟨rfl,_,_,_,_,_,_,rfl,M2.lst sa sb e3 hl⟩
    ·rw[if_neg (by simpa using e3)]
     split
     ·exact wpS_pure ⟨rfl,_,_,_,_,_,_,rfl,M2,by lia,by lia,by lia⟩
     ·exact wpS_pure ⟨rfl,_,_,_,_,_,rfl,M2,by lia,by lia,by lia⟩
  case post1=>
   rintro c st' ⟨rfl,o,out,ia,ib,ac,bc,rfl,M⟩
   cases o with
   |some res=>
    dsimp only
    exact wpS_pure ⟨⟨g,rfl⟩,_,_,_,_,_,rfl,M⟩
   | none=>
    obtain⟨M,q1,q2,q3⟩:=M
    dsimp only
    refine wpS_bind (wpS_lift (wpAny_rule ⟨rfl,?_⟩))
    refine wpS_bind (wpS_mono (wpS_forRange (I:=λy c st'=>(∃g,st'=sg st g)/\∃out ia ib mg ac bc,c=(none,out,ia,ib,mg,ac,bc)/\kM r a b (1+(x+1)) none out ia ib)
     (Q:=λc st'=>(∃g,st'=sg st g)/\∃o out ia ib mg ac bc,c=(o,out,ia,ib,mg,ac,bc)/\kM r a b (1+(x+1)) o out ia ib) ?step2 ?fin2 ⟨⟨g,rfl⟩,_,_,_,_,_,_,rfl,M,q1,q2,by lia⟩) ?post2)
    case fin2=>
     rintro c st' ⟨hg,out,ia,ib,mg,ac,bc,rfl,M⟩
     exact⟨hg,_,_,_,_,_,_,_,rfl,M⟩
    case step2=>
     rintro y c st' _ hy ⟨⟨g,rfl⟩,out,ia,ib,mg,ac,bc,rfl,M,q1,q2,q3⟩
     refine wpS_mono (Q:=qW r a b (1+(x+1)) st) ?code λc st' hc=>?_
     case code=>
      dsimp only
      by_cases m1:mg>1
      ·rw[if_pos m1]
       exact CI (mg:=mg-1) (ac:=ac) (bc:=bc) C hkd hS sa sb hl M q1 q2 q3
      ·rw[if_neg m1]
       exact CI (mg:=mg) (ac:=ac) (bc:=bc) C hkd hS sa sb hl M q1 q2 q3
     ·obtain⟨hg,hc⟩:=hc
      match c,hc with
      | .done (o,out,ia,ib,mg,ac,bc),hc=>exact⟨hg,_,_,_,_,_,_,_,rfl,hc⟩
      | .yield (o,out,ia,ib,mg,ac,bc),⟨h1,hc⟩=>
       subst h1
       exact⟨hg,_,_,_,_,_,_,rfl,hc⟩
    case post2=>
     rintro c st' ⟨⟨g',rfl⟩,o,out,ia,ib,mg',ac,bc,rfl,M⟩
     cases o with
     |some res=>
      dsimp only
      exact wpS_pure ⟨⟨g',rfl⟩,_,_,_,_,_,rfl,M⟩
     |none=>
      dsimp only
      refine wpS_bind (nV ?_)
      exact wpS_pure ⟨⟨_,rfl⟩,_,_,_,_,rfl,M⟩
end
noncomputable def Mr(r:Keyed->Nat)(a b o:List Keyed)(na nb:Nat):Prop:=
 o.Perm (a.drop na++b.drop nb)/\o.Pairwise (λx y=>r x<=r y)/\∀u∈o,∀v,v∈a.take na\/v∈b.take nb->r v<=r u
theorem Mr.swap{r:Keyed->Nat}{a b o:List Keyed}{na nb:Nat}(h:Mr r a b o na nb):Mr r b a o nb na:=
 ⟨h.1.trans perm_append_comm,h.2.1,λu hu v hv=>h.2.2 u hu v hv.symm⟩
theorem Mr.a{r:Keyed->Nat}{a b o:List Keyed}{na nb:Nat}(h:Mr r a b o na nb)(sa:a.Pairwise λx y=>r x<=r y)(k:Nat)(hkn:k<=na)(hk:∀u∈(a.take na).drop k,∀v∈b.take nb,r v<=r u):
  Mr r a b ((a.take na).drop k++o) k nb:=by
 obtain⟨h1,h2,h3⟩:=h
 have sd:(a.take na).Pairwise λx y=>r x<=r y:=sa.sublist (List.take_sublist _ _)
 have st:((a.take na).take k++(a.take na).drop k).Pairwise λx y=>r x<=r y:=by rw[take_append_drop];exact sd
 rw[pairwise_append]at st
 have ek:(a.take na).take k=a.take k:=by rw[List.take_take,Nat.min_eq_left hkn]
 have ed:a.drop k=(a.take na).drop k++a.drop na:=by
  conv=>lhs;rw[<-take_append_drop na a]
  rw[List.drop_append]
  congr 1
  by_cases q:na<=a.length
  ·rw[length_take,Nat.min_eq_left q,show k-na=0 by lia,List.drop_zero]
  ·rw[drop_of_length_le (by lia:a.length<=na),List.drop_nil]
 refine⟨?_,?_,?_⟩
 ·rw[ed,append_assoc]
  exact List.Perm.append_left _ h1
 ·rw[pairwise_append]
  exact⟨st.2.1,h2,λu hu v hv=>h3 v hv u (.inl (mem_of_mem_drop hu))⟩
 ·intro u hu v hv
  rcases mem_append.mp hu with hu|hu
  ·rcases hv with hv|hv
   ·rw[<-ek]at hv
    exact st.2.2 v hv u hu
   ·exact hk u hu v hv
  ·refine h3 u hu v (hv.imp (λhv=>?_) id)
   rw[<-ek]at hv
   exact mem_of_mem_take hv
theorem Mr.b{r:Keyed->Nat}{a b o:List Keyed}{na nb:Nat}(h:Mr r a b o na nb)(sb:b.Pairwise λx y=>r x<=r y)(k:Nat)(hkn:k<=nb)(hk:∀u∈(b.take nb).drop k,∀v∈a.take na,r v<=r u):
  Mr r a b ((b.take nb).drop k++o) na k:=(h.swap.a sb k hkn hk).swap
noncomputable abbrev MB(r:Keyed->Nat)(a b out:Array Keyed)(na nb:Nat):Prop:=Mr r a.toList b.toList out.toList.reverse na nb
theorem VF{a:Array Keyed}{n:Nat}{v:Keyed}(h:v∈a.toList.take n):∃j,j<n/\j<a.size/\v=it a j:=by
 obtain⟨j,_,h2,h3,e⟩:=xG (i:=0) (k:=n) (a:=a) (by simpa using h)
 exact⟨j,by lia,h3,e⟩
theorem VG{a:Array Keyed}{n k:Nat}{v:Keyed}(h:v∈(a.toList.take n).drop k):∃j,k<=j/\j<n/\j<a.size/\v=it a j:=by
 rw[drop_take]at h
 obtain⟨j,h1,h2,h3,e⟩:=xG h
 exact⟨j,h1,by lia,h3,e⟩
section
variable{r:Keyed->Nat}{a b out:Array Keyed}{na nb:Nat}
theorem MB.ext(h:MB r a b out na nb)(sa:Srt r a)(k:Nat)(hkn:k<=na)(hk:∀j,k<=j->j<na->j<a.size->∀i,i<nb->i<b.size->r (it b i)<=r (it a j)):MB r a b (out++(a.extract k na).reverse) k nb:=by
 have:=Mr.a h sa.pw k hkn λu hu v hv=>by
  obtain⟨j,h1,h2,h3,rfl⟩:=VG hu
  obtain⟨i,h4,h5,rfl⟩:=VF hv
  exact hk j h1 h2 h3 i h4 h5
 unfold MB
 rw[Array.toList_append,List.reverse_append,Array.toList_reverse,List.reverse_reverse,ext_toList,<-drop_take]
 exact this
theorem MB.exb(h:MB r a b out na nb)(sb:Srt r b)(k:Nat)(hkn:k<=nb)(hk:∀j,k<=j->j<nb->j<b.size->∀i,i<na->i<a.size->r (it a i)<=r (it b j)):MB r a b (out++(b.extract k nb).reverse) na k:=
 Mr.swap (MB.ext (Mr.swap h) sb k hkn hk)
theorem R9{a out:Array Keyed}{i:Nat}(h:i<a.size):out.push (it a i)=out++(a.extract i (i+1)).reverse:=by
 rw[GU h]
 congr 1
 apply Array.toList_inj.mp
 rw[Array.toList_reverse,ext_toList,show i+1-i=1 by lia]
 cases q:a.toList.drop i with
 |nil=>rfl
 |cons x l=>rfl
theorem MB.pa(h:MB r a b out na nb)(sa:Srt r a)(hp:0<na)(hi:na-1<a.size)(hk:∀i,i<nb->i<b.size->r (it b i)<=r (it a (na-1))):MB r a b (out.push (it a (na-1))) (na-1) nb:=by
 rw[R9 hi,show na-1+1=na by lia]
 exact h.ext sa (na-1) (by lia) λj h1 h2 h3 i h4 h5=>by
  obtain rfl:j=na-1:=by lia
  exact hk i h4 h5
theorem MB.pb(h:MB r a b out na nb)(sb:Srt r b)(hp:0<nb)(hi:nb-1<b.size)(hk:∀i,i<na->i<a.size->r (it a i)<=r (it b (nb-1))):MB r a b (out.push (it b (nb-1))) na (nb-1):=
 Mr.swap (MB.pa (Mr.swap h) sb hp hi hk)
theorem Mr.all{a b o:List Keyed}(h:Mr r a b o 0 0):o.Perm (a++b)/\o.Pairwise λx y=>r x<=r y:=by
 obtain⟨p,q,_⟩:=h
 exact⟨by simpa using p,q⟩
theorem MB.done(h:MB r a b out na nb)(sa:Srt r a)(sb:Srt r b)(e:na=0\/nb=0):eO r a b (a.extract 0 na++b.extract 0 nb++out.reverse):=by
 have h1:=h.exb sb 0 (Nat.zero_le _) λj _ h2 _ i h4 h5=>by lia
 have h2:=h1.ext sa 0 (Nat.zero_le _) λj _ h2 _ i h4 h5=>by lia
 have:=h2.all
 unfold eO
 simpa using this
theorem MB.fst(h:MB r a b out na nb)(sa:Srt r a)(sb:Srt r b)(hn:nb=1)(h0:r (it b 0)<=r (it a 0)):eO r a b (b.extract 0 nb++a.extract 0 na++out.reverse):=by
 have h1:=h.ext sa 0 (Nat.zero_le _) λj _ h2 h3 i h4 h5=>by
  obtain rfl:i=0:=by lia
  have:=sa 0 j (by lia) h3
  lia
 have h2:=h1.exb sb 0 (Nat.zero_le _) λj _ h2 _ i h4 h5=>by lia
 have:=h2.all
 unfold eO
 simpa using this
end
noncomputable abbrev rA:=Option (Array Keyed)×Nat×Nat×Array Keyed×Nat×Nat×Nat
noncomputable def pY(a b out:Array Keyed)(na nb mg ac k:Nat):StateT SortSt Sem (ForInStep rA):=do
 let x <-elem' a (na-1)
 if na-1==0 then pure (.done (some (a.extract 0 (na-1)++b.extract 0 nb++(out.push x).reverse),na-1,nb,out.push x,mg,ac,k))
 else if decide (ac<7)&&decide (k<7) then pure (.done (none,na-1,nb,out.push x,mg,ac,k))
 else pure (.yield (none,na-1,nb,out.push x,mg,ac,k))
noncomputable def mS(a b out:Array Keyed)(na nb mg ac bc:Nat):StateT SortSt Sem (ForInStep rA):=do
 let x <-elem' b (nb-1)
 if nb-1==1 then pure (.done (some (b.extract 0 (nb-1)++a.extract 0 na++(out.push x).reverse),na,nb-1,out.push x,mg,ac,bc))
 else do
  let y <-elem' a (na-1)
  match <-gB true y b 0 (nb-1) (nb-1-1) with
  | some k=>
   if nb-1-k>0 then
    if k==1 then pure (.done (some (b.extract 0 k++a.extract 0 na++(out.push x++(b.extract k (nb-1)).reverse).reverse),na,k,out.push x++(b.extract k (nb-1)).reverse,mg,ac,nb-1-k))
    else if k==0 then pure (.done (some (a.extract 0 na++b.extract 0 k++(out.push x++(b.extract k (nb-1)).reverse).reverse),na,k,out.push x++(b.extract k (nb-1)).reverse,mg,ac,nb-1-k))
    else pY a b (out.push x++(b.extract k (nb-1)).reverse) na k mg ac (nb-1-k)
   else pY a b (out.push x) na (nb-1) mg ac (nb-1-k)
  |_=>pure (.done (some (a.extract 0 na++b.extract 0 (nb-1)++(out.push x).reverse),na,nb-1,out.push x,mg,ac,bc))
noncomputable def yE(a b out:Array Keyed)(na nb mg ac bc:Nat):StateT SortSt Sem (ForInStep rA):=do
 j0 mg
 let y <-elem' b (nb-1)
 match <-gB false y a 0 na (na-1) with
 | some k=>
  if na-k>0 then
   if k==0 then pure (.done (some (a.extract 0 k++b.extract 0 nb++(out++(a.extract k na).reverse).reverse),k,nb,out++(a.extract k na).reverse,mg,na-k,bc))
   else mS a b (out++(a.extract k na).reverse) k nb mg (na-k) bc
  else mS a b out na nb mg (na-k) bc
 |_=>pure (.done (some (a.extract 0 na++b.extract 0 nb++out.reverse),na,nb,out,mg,ac,bc))
noncomputable def kO(r:Keyed->Nat)(a b:Array Keyed)(x:Nat)(o:Option (Array Keyed))(out:Array Keyed)(na nb:Nat):Prop:=
 match o with
 |some res=>eO r a b res
 |none=>MB r a b out na nb/\0<na/\na<=a.size/\1<nb/\nb<=b.size/\na+nb+x<=a.size+b.size
noncomputable def qZ(r:Keyed->Nat)(a b:Array Keyed)(x:Nat)(st:SortSt)(c:ForInStep rA)(st':SortSt):Prop:=
 (∃g,st'=sg st g)/\match c with
 | .done (o,na,nb,out,_)=>kO r a b x o out na nb
 | .yield (o,na,nb,out,_)=>o=none/\kO r a b x o out na nb
section
variable{prog:Program}{w:World}{A:Around}{E:Value->Shared->Prop}{s:Shared}{κ:SortKind}{r:Keyed->Nat}{S:Keyed->Prop}{a b out:Array Keyed}{na nb:Nat}{st:SortSt}
theorem CJ(sa:Srt r a)(sb:Srt r b){x mg ac k g:Nat}(M:MB r a b out na nb)(h1:0<na)(h1':na<=a.size)(h2:1<nb)(h2':nb<=b.size)(h3:na+nb+x<=a.size+b.size)
  (hk:∀i,i<nb->i<b.size->r (it b i)<=r (it a (na-1))):wpS (model prog w) A E s (pY a b out na nb mg ac k) (qZ r a b x st) (sg st g):=by
 unfold pY
 refine wpS_bind (cH (bZ (by lia:na-1<a.size)) ?_)
 have M':=M.pa sa h1 (by lia) hk
 by_cases e1:na-1=0
 ·rw[if_pos (by simpa using e1)]
  exact wpS_pure ⟨⟨g,rfl⟩,M'.done sa sb (.inl e1)⟩
 ·rw[if_neg (by simpa using e1)]
  split
  ·exact wpS_pure ⟨⟨g,rfl⟩,M',by lia,by lia,by lia,by lia,by lia⟩
  ·exact wpS_pure ⟨⟨g,rfl⟩,rfl,M',by lia,by lia,by lia,by lia,by lia⟩
theorem CK(C:dG prog w A s κ r S)(hkd:kindOf st=κ)(hS:∀x,x∈a.toList\/x∈b.toList->S x)(sa:Srt r a)(sb:Srt r b)(h0:r (it b 0)<=r (it a 0)){x mg ac bc g:Nat}(M:MB r a b out na nb)(h1:0<na)(h1':na<=a.size)(h2:1<nb)(h2':nb<=b.size)(h3:na+nb+x<=a.size+b.size)
  (hk:∀i,i<na->i<a.size->r (it a i)<=r (it b (nb-1))):wpS (model prog w) A E s (mS a b out na nb mg ac bc) (qZ r a b x st) (sg st g):=by
 unfold mS
 refine wpS_bind (cH (bZ (by lia:nb-1<b.size)) ?_)
 have M':=M.pb sb (by lia) (by lia) hk
 by_cases e1:nb-1=1
 ·rw[if_pos (by simpa using e1)]
  exact wpS_pure ⟨⟨g,rfl⟩,M'.fst sa sb e1 h0⟩
 ·rw [if_neg (by simpa using e1)]
  refine wpS_bind (cH (bZ (by lia:na-1<a.size)) ?_)
  refine wpS_bind (kP C hkd (hS _ (.inl (fE (by lia)))) (λi=>it b i) (λi hi=>⟨by rw[Nat.zero_add];exact bZ (by lia),hS _ (.inr (fE (by lia)))⟩) (λi j hij hj=>sb _ _ (by lia) (by lia)) (by lia) λk k1 k2 k3=>?_)
  dsimp only
  have c2:∀i,i<k->r (it b i)<r (it a (na-1)):=λi hi=>by have:=k2 i hi;unfold bK at this;simpa using this
  have c3:∀i,k<=i->i<nb-1->r (it a (na-1))<=r (it b i):=λi hi hj=>by have:=k3 i hi hj;unfold bK at this;simpa using this
  have cb:∀i,i<k->i<b.size->r (it b i)<=r (it a (na-1)):=λi h5 h6=>by have:=c2 i h5;lia
  by_cases k0:nb-1-k>0
  ·rw[if_pos k0]
   have M2:=M'.exb sb k (by lia) λj h5 h6 h7 i h8 h9=>by
    have:=c3 j h5 h6
    have:=sa i (na-1) (by lia) (by lia)
    lia
   by_cases e2:k=1
   ·rw[if_pos (by simpa using e2)]
    exact wpS_pure ⟨⟨g,rfl⟩,M2.fst sa sb e2 h0⟩
   ·rw[if_neg (by simpa using e2)]
    by_cases e3:k=0
    ·rw[if_pos (by simpa using e3)]
     exact wpS_pure ⟨⟨g,rfl⟩,M2.done sa sb (.inr e3)⟩
    ·rw[if_neg (by simpa using e3)]
     exact CJ sa sb M2 h1 h1' (by lia) (by lia) (by lia) cb
  ·rw[if_neg k0]
   obtain rfl:k=nb-1:=by lia
   exact CJ sa sb M' h1 h1' (by lia) (by lia) (by lia) cb
theorem CL(C:dG prog w A s κ r S)(hkd:kindOf st=κ)(hS:∀x,x∈a.toList\/x∈b.toList->S x)(sa:Srt r a)(sb:Srt r b)(h0:r (it b 0)<=r (it a 0)){x mg ac bc g:Nat}(M:MB r a b out na nb)(h1:0<na)(h1':na<=a.size)(h2:1<nb)(h2':nb<=b.size)(h3:na+nb+x<=a.size+b.size):
  wpS (model prog w) A E s (yE a b out na nb mg ac bc) (qZ r a b x st) (sg st g):=by
 unfold yE
 refine wpS_bind (nV ?_)
 refine wpS_bind (cH (bZ (by lia:nb-1<b.size)) ?_)
 refine wpS_bind (kP C hkd (hS _ (.inr (fE (by lia)))) (λi=>it a i) (λi hi=>⟨by rw[Nat.zero_add];exact bZ (by lia),hS _ (.inl (fE (by lia)))⟩) (λi j hij hj=>sa _ _ (by lia) (by lia)) (by lia) λk k1 k2 k3=>?_)
 dsimp only
 have c2:∀i,i<k->r (it a i)<=r (it b (nb-1)):=λi hi=>by have:=k2 i hi;unfold bK at this;simpa using this
 have c3:∀i,k<=i->i<na->r (it b (nb-1))<r (it a i):=λi hi hj=>by have:=k3 i hi hj;unfold bK at this;simpa using this
 by_cases k0:na-k>0
 ·rw[if_pos k0]
  have M2:=M.ext sa k (by lia) λj h5 h6 h7 i h8 h9=>by
   have:=c3 j h5 h6
   have:=sb i (nb-1) (by lia) (by lia)
   lia
  by_cases e2:k=0
  ·rw[if_pos (by simpa using e2)]
   exact wpS_pure ⟨⟨mg,rfl⟩,M2.done sa sb (.inl e2)⟩
  ·rw[if_neg (by simpa using e2)]
   exact CK C hkd hS sa sb h0 M2 (by lia) (by lia) h2 h2' (by lia) λi hi _=>c2 i hi
 ·rw[if_neg k0]
  obtain rfl:k=na:=by lia
  exact CK C hkd hS sa sb h0 M h1 h1' h2 h2' h3 λi hi _=>c2 i hi
theorem ML(C:dG prog w A s κ r S){Q:Array Keyed->SortSt->Prop}(hkd:kindOf st=κ)(hS:∀x,x∈a.toList\/x∈b.toList->S x)
  (sa:Srt r a) (sb:Srt r b) (ha:0<a.size) (hb:0<b.size) (h0:r (it b 0)<=r (it a 0)) (hl:∀i,i<b.size->r (it b i)<=r (it a (a.size-1)))
  (h:∀out g,eO r a b out->Q out (sg st g)):wpS (model prog w) A E s (xO a b) Q st:=by
 rw[WP]
 refine wpS_bind (wpS_lift (wpAny_rule ⟨rfl,?_⟩))
 refine wpS_bind (cH (bZ (by lia:a.size-1<a.size)) ?_)
 have M0:MB r a b #[] a.size b.size:=⟨by simp,.nil,λu hu=>by simp at hu⟩
 have M1:MB r a b #[it a (a.size-1)] (a.size-1) b.size:=by
  have:=M0.pa sa ha (by lia) λi _ hi=>hl i hi
  simpa using this
 dsimp only
 by_cases e1:a.size-1=0
 ·rw[if_pos (by simpa using e1)]
  exact wpS_pure (h _ (gallopOf st) (M1.done sa sb (.inl e1)))
 rw[if_neg (by simpa using e1)]
 by_cases e2:b.size=1
 ·rw[if_pos (by simpa using e2)]
  exact wpS_pure (h _ (gallopOf st) (M1.fst sa sb e2 h0))
 rw[if_neg (by simpa using e2)]
 refine wpS_bind (wpS_get ?_)
 refine wpS_bind (wpS_mono (wpS_forRange (I:=λx c st'=>(∃g,st'=sg st g)/\∃out na nb mg,c=(none,na,nb,out,mg)/\kO r a b (1+x) none out na nb)
  (Q:=λc st'=>(∃g,st'=sg st g)/\∃res out na nb mg,c=(some res,na,nb,out,mg)/\eO r a b res) ?step ?fin ⟨⟨gallopOf st,rfl⟩,_,_,_,_,rfl,M1,by lia,by lia,by lia,by lia,by lia⟩) ?post)
 case fin=>
  rintro c st' ⟨hg,out,na,nb,mg,rfl,M,q1,q1',q2,q2',q3⟩
  lia
 case post=>
  rintro c st' ⟨⟨g,rfl⟩,res,out,na,nb,mg,rfl,M⟩
  exact wpS_pure (h _ g M)
 case step=>
  rintro x c st' _ hx ⟨⟨g,rfl⟩,out,na,nb,mg,rfl,M,q1,q1',q2,q2',q3⟩
  dsimp only
  refine wpS_bind (wpS_mono (wpS_forRange (I:=λy c st'=>st'=sg st g/\∃out na nb ac bc,c=(none,na,nb,out,ac,bc)/\kO r a b (1+x+min y 1) none out na nb)
   (Q:=λc st'=>st'=sg st g/\∃o out na nb ac bc,c=(o,na,nb,out,ac,bc)/\kO r a b (1+(x+1)) o out na nb) ?step1 ?fin1 ⟨rfl,_,_,_,_,_,rfl,M,q1,q1',q2,q2',by lia⟩) ?post1)
  case fin1=>
   rintro c st' ⟨rfl,out,na,nb,ac,bc,rfl,M,q1,q1',q2,q2',q3⟩
   exact⟨rfl,_,_,_,_,_,_,rfl,M,q1,q1',q2,q2',by lia⟩
  case step1=>
   rintro y c st' _ hy ⟨rfl,out,na,nb,ac,bc,rfl,M,q1,q1',q2,q2',q3⟩
   dsimp only
   have ib:nb-1<b.size:=by lia
   have ia:na-1<a.size:=by lia
   refine wpS_bind (cH (bZ ib) ?_)
   refine wpS_bind (cH (bZ ia) ?_)
   refine wpS_bind (lR C hkd (hS _ (.inr (fE ib))) (hS _ (.inl (fE ia))) ?_)
   dsimp only
   by_cases lt:r (it b (nb-1))<r (it a (na-1))
   ·rw[if_pos (by simpa using lt)]
    refine wpS_bind (cH (bZ ia) ?_)
    have M2:=M.pa sa q1 ia λi h1 h2=>by have:=sb i (nb-1) (by lia) ib;lia
    by_cases e3:na-1=0
    ·rw[if_pos (by simpa using e3)]
     exact wpS_pure ⟨rfl,_,_,_,_,_,_,rfl,M2.done sa sb (.inl e3)⟩
    ·rw[if_neg (by simpa using e3)]
     split
     ·exact wpS_pure ⟨rfl,_,_,_,_,_,_,rfl,M2,by lia,by lia,q2,q2',by lia⟩
     ·exact wpS_pure ⟨rfl,_,_,_,_,_,rfl,M2,by lia,by lia,q2,q2',by lia⟩
   ·rw[if_neg (by simpa using lt)]
    refine wpS_bind (cH (bZ ib) ?_)
    have M2:=M.pb sb (by lia) ib λi h1 h2=>by have:=sa i (na-1) (by lia) ia;lia
    by_cases e3:nb-1=1
    ·rw[if_pos (by simpa using e3)]
     exact wpS_pure ⟨rfl,_,_,_,_,_,_,rfl,M2.fst sa sb e3 h0⟩
    ·rw[if_neg (by simpa using e3)]
     split
     ·exact wpS_pure ⟨rfl,_,_,_,_,_,_,rfl,M2,q1,q1',by lia,by lia,by lia⟩
     ·exact wpS_pure ⟨rfl,_,_,_,_,_,rfl,M2,q1,q1',by lia,by lia,by lia⟩
  case post1=>
   rintro c st' ⟨rfl,o,out,na,nb,ac,bc,rfl,M⟩
   cases o with
   |some res=>
    dsimp only
    exact wpS_pure ⟨⟨g,rfl⟩,_,_,_,_,_,rfl,M⟩
   | none=>
    obtain⟨M,q1,q1',q2,q2',q3⟩:=M
    dsimp only
    refine wpS_bind (wpS_lift (wpAny_rule ⟨rfl,?_⟩))
    refine wpS_bind (wpS_mono (wpS_forRange (I:=λy c st'=>(∃g,st'=sg st g)/\∃out na nb mg ac bc,c=(none,na,nb,out,mg,ac,bc)/\kO r a b (1+(x+1)) none out na nb)
     (Q:=λc st'=>(∃g,st'=sg st g)/\∃o out na nb mg ac bc,c=(o,na,nb,out,mg,ac,bc)/\kO r a b (1+(x+1)) o out na nb) ?step2 ?fin2 ⟨⟨g,rfl⟩,_,_,_,_,_,_,rfl,M,q1,q1',q2,q2',by lia⟩) ?post2)
    case fin2=>
     rintro c st' ⟨hg,out,na,nb,mg,ac,bc,rfl,M⟩
     exact⟨hg,_,_,_,_,_,_,_,rfl,M⟩
    case step2=>
     rintro y c st' _ hy ⟨⟨g,rfl⟩,out,na,nb,mg,ac,bc,rfl,M,q1,q1',q2,q2',q3⟩
     refine wpS_mono (Q:=qZ r a b (1+(x+1)) st) ?code λc st' hc=>?_
     case code=>
      dsimp only
      by_cases m1:mg>1
      ·rw[if_pos m1]
       exact CL (mg:=mg-1) (ac:=ac) (bc:=bc) C hkd hS sa sb h0 M q1 q1' q2 q2' q3
      ·rw[if_neg m1]
       exact CL (mg:=mg) (ac:=ac) (bc:=bc) C hkd hS sa sb h0 M q1 q1' q2 q2' q3
     ·obtain⟨hg,hc⟩:=hc
      match c,hc with
      | .done (o,na,nb,out,mg,ac,bc),hc=>exact⟨hg,_,_,_,_,_,_,_,rfl,hc⟩
      | .yield (o,na,nb,out,mg,ac,bc),⟨h1,hc⟩=>
       subst h1
       exact⟨hg,_,_,_,_,_,_,rfl,hc⟩
    case post2=>
     rintro c st' ⟨⟨g',rfl⟩,o,out,na,nb,mg',ac,bc,rfl,M⟩
     cases o with
     |some res=>
      dsimp only
      exact wpS_pure ⟨⟨g',rfl⟩,_,_,_,_,_,rfl,M⟩
     |none=>
      dsimp only
      refine wpS_bind (nV ?_)
      exact wpS_pure ⟨⟨_,rfl⟩,_,_,_,_,rfl,M⟩
end
noncomputable def wr(arr:Array Keyed)(sa:Nat)(l:List Keyed):Array Keyed:=l.zipIdx.foldl (λa(p,j)=>a.setIfInBounds (sa+j) p) arr
theorem VE(i:Nat):mergeAt' i=(do
 let s <-get
 let(some (sa,na,power),some (sb,nb,_)):=((pendingOf s)[i]?,(pendingOf s)[i+1]?)|unsupported "internal:list.sort.pending"
 set (setPending s (((pendingOf s).setIfInBounds i (sa,na+nb,power)).eraseIdxIfInBounds (i+1)))
 let some k <-gB false (<-elem' (arrOf s) sb) (arrOf s) sa na 0|return false
 let(sa,na):=(sa+k,na-k)
 if na==0 then return true
 let some nb <-gB true (<-elem' (arrOf s) (sa+na-1)) (arrOf s) sb nb (nb-1)|return false
 if nb==0 then return true
 let x:=(arrOf s).extract sa sb
 let y:=(arrOf s).extract sb (sb+nb)
 let merged <-if na<=nb then xN x y else xO x y
 modify λs=>setArr s (wr (arrOf s) sa merged.toList)
 return (failedOf (<-get)).isNone):=rfl
theorem CD(sa:Nat):∀(l:List Keyed)(k:Nat)(arr:Array Keyed),sa+k+l.length<=arr.size->
  ((l.zipIdx k).foldl (λa(p,j)=>a.setIfInBounds (sa+j) p) arr).toList=arr.toList.take (sa+k)++l++arr.toList.drop (sa+k+l.length)
 |[],k,arr,_=>by simp
 | x::l,k,arr,h=>by
  rw[length_cons]at h
  rw[List.zipIdx_cons,foldl_cons]
  rw[CD sa l (k+1) (arr.setIfInBounds (sa+k) x) (by rw[Array.size_setIfInBounds];lia)]
  rw[Array.toList_setIfInBounds]
  have h1:(arr.toList.set (sa+k) x).take (sa+(k+1))=arr.toList.take (sa+k)++[x]:=by
   rw[show sa+(k+1)=sa+k+1 by lia,List.take_succ,List.take_set_of_le (Nat.le_refl _)]
   simp[show sa+k<arr.size by lia]
  have h2:(arr.toList.set (sa+k) x).drop (sa+(k+1)+l.length)=arr.toList.drop (sa+k+(x::l).length):=by
   rw[List.drop_set_of_lt (by lia),length_cons]
   congr 1
   lia
  rw[h1,h2]
  simp
theorem CC{arr:Array Keyed}{sa:Nat}{l:List Keyed}(h:sa+l.length<=arr.size):(wr arr sa l).toList=arr.toList.take sa++l++arr.toList.drop (sa+l.length):=by
 have:=CD sa l 0 arr (by lia)
 rw[Nat.add_zero]at this
 exact this
theorem x9(a:Array Keyed)(i:Nat):it a i=a.toList.getD i (Value.none,Value.none):=by
 unfold it
 by_cases h:i<a.size
 ·simp[Array.getD,h]
 ·simp[Array.getD,h]
theorem MG{arr:Array Keyed}{sa:Nat}{m:Array Keyed}(h:sa+m.size<=arr.size)(i:Nat):it (wr arr sa m.toList) i=if sa<=i/\i<sa+m.size then it m (i-sa) else it arr i:=by
 rw[x9,CC (by simpa using h),x9,x9]
 simp only[List.getD_eq_getElem?_getD,Array.length_toList]
 by_cases h1:i<sa
 ·rw[if_neg (by lia),append_assoc,List.getElem?_append_left (by simp;lia),List.getElem?_take_of_lt h1]
 ·by_cases h2:i<sa+m.size
  ·rw[if_pos ⟨by lia,h2⟩,append_assoc,List.getElem?_append_right (by simp;lia),List.getElem?_append_left (by simp;lia)]
   congr 2
   simp
   lia
  ·rw[if_neg (by lia),List.getElem?_append_right (by simp;lia),List.getElem?_drop]
   congr 2
   simp
   lia
theorem MF{arr:Array Keyed}{sa:Nat}{m:Array Keyed}{e:Nat}(h:e<=arr.size)(hse:sa<=e)(hm:m.toList.Perm (arr.extract sa e).toList):(wr arr sa m.toList).Perm arr:=by
 have hl:m.toList.length=e-sa:=by rw[hm.length_eq,ext_toList];simp;lia
 rw[Array.perm_iff_toList_perm,CC (by rw[hl];lia)]
 have e1:arr.toList=arr.toList.take sa++(arr.extract sa e).toList++arr.toList.drop (sa+m.toList.length):=by
  rw[hl,ext_toList,show sa+(e-sa)=e by lia]
  conv=>lhs;rw[<-take_append_drop e arr.toList]
  congr 1
  conv=>lhs;rw[<-take_append_drop sa (arr.toList.take e)]
  rw[List.take_take,Nat.min_eq_left hse,drop_take]
 conv=>rhs;rw[e1]
 exact List.Perm.append_right _ (List.Perm.append_left _ hm)
noncomputable def dD(r:Keyed->Nat)(a:Array Keyed)(lo hi:Nat):Prop:=∀i j,lo<=i->i<=j->j<hi->r (it a i)<=r (it a j)
theorem JA{arr:Array Keyed}{u v i:Nat}(h:u+i<v)(hv:v<=arr.size):it (arr.extract u v) i=it arr (u+i):=by
 rw[fI (by simp;lia),fI (by lia)]
 simp
structure Iv (κ:SortKind) (a₀:Array Keyed) (st:SortSt):Prop where
 perm:(arrOf st).Perm a₀
 kind:kindOf st=κ
 ok:failedOf st=none
theorem Iv.size{κ:SortKind}{a₀:Array Keyed}{st:SortSt}(h:Iv κ a₀ st):(arrOf st).size=a₀.size:=h.perm.size_eq
theorem Iv.mem{κ:SortKind}{a₀:Array Keyed}{st:SortSt}(h:Iv κ a₀ st){i:Nat}(hi:i<a₀.size):it (arrOf st) i∈a₀.toList:=
 (Array.perm_iff_toList_perm.mp h.perm).mem_iff.mp (fE (by rw[h.size];exact hi))
section
variable{prog:Program}{w:World}{A:Around}{E:Value->Shared->Prop}{s:Shared}{κ:SortKind}{r:Keyed->Nat}{a₀:Array Keyed}{st:SortSt}
theorem MH{st':SortSt}{Q:PUnit->SortSt->Prop}(h:Q ⟨⟩ st'):wpS (model prog w) A E s (set st':StateT SortSt Sem PUnit) Q st:=by
 unfold wpS;rw[StateT.run_set];exact wpAny_pure ⟨rfl,h⟩
theorem MJ(C:dG prog w A s κ r (· ∈a₀.toList))(V:Iv κ a₀ st){i sa na sb nb pw pw':Nat}{Q:Bool->SortSt->Prop}(e1:(pendingOf st)[i]? =some (sa,na,pw))(e2:(pendingOf st)[i+1]? =some (sb,nb,pw'))
  (hs:sb=sa+na) (hn:0<na) (hm:0<nb) (hz:sb+nb<=a₀.size) (s1:dD r (arrOf st) sa sb) (s2:dD r (arrOf st) sb (sb+nb))
  (h:∀st',Iv κ a₀ st'->pendingOf st'=((pendingOf st).setIfInBounds i (sa,na+nb,pw)).eraseIdxIfInBounds (i+1)->dD r (arrOf st') sa (sb+nb)->(∀j,j<sa\/sb+nb<=j->it (arrOf st') j=it (arrOf st) j)->Q true st'):
  wpS (model prog w) A E s (mergeAt' i) Q st:=by
 have hz':sb+nb<=(arrOf st).size:=by rw[V.size];exact hz
 rw[VE]
 refine wpS_bind (wpS_get ?_)
 rw[e1,e2]
 dsimp only
 refine wpS_bind (MH ?_)
 obtain⟨st1,hst1⟩:∃st1,st1=setPending st (((pendingOf st).setIfInBounds i (sa,na+nb,pw)).eraseIdxIfInBounds (i+1)):=⟨_,rfl⟩
 rw[<-hst1]
 have V1:Iv κ a₀ st1:=by subst hst1;exact⟨V.perm,V.kind,V.ok⟩
 have ea:arrOf st1=arrOf st:=by subst hst1;rfl
 have ep:pendingOf st1=((pendingOf st).setIfInBounds i (sa,na+nb,pw)).eraseIdxIfInBounds (i+1):=by subst hst1;rfl
 refine wpS_bind (cH (bZ (by lia:sb<(arrOf st).size)) ?_)
 refine wpS_bind (kP C V1.kind (V.mem (by lia)) (λi=>it (arrOf st) (sa+i)) (λi hi=>⟨bZ (by lia),V.mem (by lia)⟩) (λi j hij hj=>s1 _ _ (by lia) (by lia) (by lia)) (by lia) λk k1 k2 k3=>?_)
 dsimp only
 have c2:∀i,sa<=i->i<sa+k->r (it (arrOf st) i)<=r (it (arrOf st) sb):=λi h1 h2=>by
  have:=k2 (i-sa) (by lia);unfold bK at this
  rw[show sa+(i-sa)=i by lia]at this
  simpa using this
 have c3:∀i,sa+k<=i->i<sb->r (it (arrOf st) sb)<r (it (arrOf st) i):=λi h1 h2=>by
  have:=k3 (i-sa) (by lia) (by lia);unfold bK at this
  rw[show sa+(i-sa)=i by lia]at this
  simpa using this
 by_cases n0:na-k=0
 ·rw[if_pos (by simpa using n0)]
  refine wpS_pure (h st1 V1 ep ?_ λj _=>by rw[ea])
  rw[ea]
  intro i j h1 h2 h3
  by_cases q1:j<sb
  ·exact s1 i j h1 h2 q1
  ·by_cases q2:i<sb
   ·have:=c2 i h1 (by lia)
    have:=s2 sb j (Nat.le_refl _) (by lia) h3
    lia
   ·exact s2 i j (by lia) h2 h3
 rw[if_neg (by simpa using n0)]
 have hl:sa+k+(na-k)-1=sb-1:=by lia
 rw[hl]
 refine wpS_bind (cH (bZ (by lia:sb-1<(arrOf st).size)) ?_)
 refine wpS_bind (kP C V1.kind (V.mem (by lia)) (λi=>it (arrOf st) (sb+i)) (λi hi=>⟨bZ (by lia),V.mem (by lia)⟩) (λi j hij hj=>s2 _ _ (by lia) (by lia) (by lia)) (by lia) λm m1 m2 m3=>?_)
 dsimp only
 have d2:∀i,sb<=i->i<sb+m->r (it (arrOf st) i)<r (it (arrOf st) (sb-1)):=λi h1 h2=>by
  have:=m2 (i-sb) (by lia);unfold bK at this
  rw[show sb+(i-sb)=i by lia]at this
  simpa using this
 have d3:∀i,sb+m<=i->i<sb+nb->r (it (arrOf st) (sb-1))<=r (it (arrOf st) i):=λi h1 h2=>by
  have:=m3 (i-sb) (by lia) (by lia);unfold bK at this
  rw[show sb+(i-sb)=i by lia]at this
  simpa using this
 by_cases n1:m=0
 ·rw[if_pos (by simpa using n1)]
  refine wpS_pure (h st1 V1 ep ?_ λj _=>by rw[ea])
  rw[ea]
  intro i j h1 h2 h3
  by_cases q1:j<sb
  ·exact s1 i j h1 h2 q1
  ·by_cases q2:i<sb
   ·have:=d3 j (by lia) h3
    have:=s1 i (sb-1) h1 (by lia) (by lia)
    lia
   ·exact s2 i j (by lia) h2 h3
 rw[if_neg (by simpa using n1)]
 obtain⟨x,hx⟩:∃x,x=(arrOf st).extract (sa+k) sb:=⟨_,rfl⟩
 obtain⟨y,hy⟩:∃y,y=(arrOf st).extract sb (sb+m):=⟨_,rfl⟩
 rw[<-hx,<-hy]
 have xz:x.size=sb-(sa+k):=by rw[hx];simp;lia
 have yz:y.size=m:=by rw[hy];simp;lia
 have xi:∀j,j<x.size->it x j=it (arrOf st) (sa+k+j):=λj hj=>by rw[xz]at hj;rw[hx];exact JA (by lia) (by lia)
 have yi:∀j,j<y.size->it y j=it (arrOf st) (sb+j):=λj hj=>by rw[yz]at hj;rw[hy];exact JA (by lia) (by lia)
 have sx:Srt r x:=λi j hij hj=>by rw[xi i (by lia),xi j hj];rw[xz]at hj;exact s1 _ _ (by lia) (by lia) (by lia)
 have sy:Srt r y:=λi j hij hj=>by rw[yi i (by lia),yi j hj];rw[yz]at hj;exact s2 _ _ (by lia) (by lia) (by lia)
 have hS:∀v,v∈x.toList\/v∈y.toList->v∈a₀.toList:=λv hv=>by
  rcases hv with hv|hv
  ·obtain⟨j,_,h2,rfl⟩:=j8 (i:=0) (a:=x) (by simpa using hv)
   rw[xi j h2];exact V.mem (by lia)
  ·obtain⟨j,_,h2,rfl⟩:=j8 (i:=0) (a:=y) (by simpa using hv)
   rw[yi j h2];exact V.mem (by lia)
 have g0:r (it y 0)<=r (it x 0):=by
  rw[xi 0 (by lia),yi 0 (by lia)]
  have:=c3 (sa+k) (by lia) (by lia)
  simp only[Nat.add_zero]
  lia
 have gl:∀i,i<y.size->r (it y i)<=r (it x (x.size-1)):=λi hi=>by
  rw[xi _ (by lia),yi i hi,show sa+k+(x.size-1)=sb-1 by lia]
  exact Nat.le_of_lt (d2 _ (by lia) (by lia))
 have fin:∀(out:Array Keyed)(g:Nat),eO r x y out->wpS (model prog w) A E s (do
   modify λs=>setArr s (wr (arrOf s) (sa+k) out.toList)
   return (failedOf (<-get)).isNone) Q (sg st1 g):=λout g M=>by
  refine wpS_bind (wpS_modify ?_)
  refine wpS_bind (wpS_get ?_)
  have oz:out.size=x.size+y.size:=by have:=M.1.length_eq;simpa using this
  have wi:=λi=>MG (arr:=arrOf st) (sa:=sa+k) (m:=out) (by lia) i
  have from':∀i,sa+k<=i->i<sb+m->∃j,sa+k<=j/\j<sb+m/\it (wr (arrOf st) (sa+k) out.toList) i=it (arrOf st) j:=λi h1 h2=>by
   rw[wi,if_pos ⟨h1,by lia⟩]
   have hmem:=M.1.mem_iff.mp (fE (a:=out) (i:=i-(sa+k)) (by lia))
   rcases mem_append.mp hmem with hv|hv
   ·obtain⟨j,_,h2,e⟩:=j8 (i:=0) (a:=x) (by simpa using hv)
    exact⟨sa+k+j,by lia,by lia,by rw[e,xi j h2]⟩
   ·obtain⟨j,_,h2,e⟩:=j8 (i:=0) (a:=y) (by simpa using hv)
    exact⟨sb+j,by lia,by lia,by rw[e,yi j h2]⟩
  have so:Srt r out:=Srt.of M.2
  have lowb:∀i j,sa<=i->i<sa+k->sa+k<=j->j<sb+nb->r (it (arrOf st) i)<=r (it (arrOf st) j):=λi j h1 h2 h3 h4=>by
   by_cases q:j<sb
   ·exact s1 i j h1 (by lia) q
   ·have:=c2 i h1 h2
    have:=s2 sb j (Nat.le_refl _) (by lia) h4
    lia
  have hib:∀i j,sa+k<=i->i<sb+m->sb+m<=j->j<sb+nb->r (it (arrOf st) i)<=r (it (arrOf st) j):=λi j h1 h2 h3 h4=>by
   by_cases q:i<sb
   ·have:=s1 i (sb-1) (by lia) (by lia) (by lia)
    have:=d3 j h3 h4
    lia
   ·exact s2 i j (by lia) (by lia) h4
  have S':dD r (wr (arrOf st) (sa+k) out.toList) sa (sb+nb):=by
   intro i j h1 h2 h3
   by_cases qi:i<sa+k
   ·rw[wi i,if_neg (by lia)]
    by_cases qj:j<sa+k
    ·rw[wi j,if_neg (by lia)];exact s1 i j h1 h2 (by lia)
    ·by_cases qm:j<sb+m
     ·obtain⟨j',a1,a2,a3⟩:=from' j (by lia) qm
      rw[a3];exact lowb i j' h1 qi a1 (by lia)
     ·rw[wi j,if_neg (by lia)];exact lowb i j h1 qi (by lia) h3
   ·by_cases qm:i<sb+m
    ·by_cases qj:j<sb+m
     ·rw[wi i,if_pos (by lia),wi j,if_pos (by lia)]
      exact so _ _ (by lia) (by lia)
     ·obtain⟨i',a1,a2,a3⟩:=from' i (by lia) qm
      rw[a3,wi j,if_neg (by lia)]
      exact hib i' j a1 a2 (by lia) h3
    ·rw[wi i,if_neg (by lia),wi j,if_neg (by lia)]
     exact s2 i j (by lia) h2 h3
  have P':(wr (arrOf st) (sa+k) out.toList).Perm (arrOf st):=MF (e:=sb+m) (by lia) (by lia) (by
   have e:((arrOf st).extract (sa+k) (sb+m)).toList=x.toList++y.toList:=by
    rw[hx,hy,ext_toList,ext_toList,ext_toList]
    rw[show sb+m-(sa+k)=(sb-(sa+k))+m by lia,List.take_add,List.drop_drop,show sa+k+(sb-(sa+k))=sb by lia,show sb+m-sb=m by lia]
   rw[e]
   exact M.1)
  have hf:(failedOf (setArr (sg st1 g) (wr (arrOf (sg st1 g)) (sa+k) out.toList))).isNone=true:=by
   show(failedOf st1).isNone=true
   rw[V1.ok];rfl
  rw[hf]
  have ar:arrOf (setArr (sg st1 g) (wr (arrOf (sg st1 g)) (sa+k) out.toList))=wr (arrOf st) (sa+k) out.toList:=by
   show wr (arrOf st1) (sa+k) out.toList=_
   rw[ea]
  refine wpS_pure (h _ ⟨?_,V1.kind,V1.ok⟩ ep ?_ ?_)
  ·rw[ar];exact P'.trans V.perm
  ·rw[ar];exact S'
  ·intro j hj
   rw[ar,wi j,if_neg (by lia)]
 by_cases le:na-k<=m
 ·rw[if_pos le]
  exact wpS_bind (MK C V1.kind hS sx sy (by lia) (by lia) g0 gl λout g M=>fin out g M)
 ·rw[if_neg le]
  exact wpS_bind (ML C V1.kind hS sx sy (by lia) (by lia) g0 gl λout g M=>fin out g M)
end
theorem mO(a:Array Keyed)(i:Nat):it a i=(a[i]?).getD (Value.none,Value.none):=by
 unfold it
 by_cases h:i<a.size
 ·simp[Array.getD,h]
 ·simp[Array.getD,h]
theorem X5{xs:Array Keyed}{i j:Nat}(hj:j<=xs.size)(k:Nat):it (mirror xs i j ((j-i)/2)) k=if i<=k/\k<j then it xs (i+j-1-k) else it xs k:=by
 rw[mO,getElem?_mirror_all (i:=i) hj k]
 split <;> rw[mO]
theorem X6{xs:Array Keyed}{src d:Nat}(hs:src<xs.size)(hd:d<=src)(k:Nat):it (bubble xs src d) k=if k=src-d then it xs src else if src-d<k/\k<=src then it xs (k-1) else it xs k:=by
 rw[mO,getElem?_bubble hs d hd k]
 split
 ·rw[mO]
 ·split <;> rw[mO]
section
variable{prog:Program}{w:World}{A:Around}{E:Value->Shared->Prop}{s:Shared}{κ:SortKind}{r:Keyed->Nat}{a₀:Array Keyed}{st:SortSt}
theorem Iv.setArr(V:Iv κ a₀ st){xs:Array Keyed}(hp:xs.Perm (arrOf st)):Iv κ a₀ (setArr st xs):=⟨hp.trans V.perm,V.kind,V.ok⟩
theorem Iv.inj(V:Iv κ a₀ st)(hd:(a₀.toList.map r).Nodup){i j:Nat}(hi:i<a₀.size)(hj:j<a₀.size)(e:r (it (arrOf st) i)=r (it (arrOf st) j)):i=j:=by
 have p:((arrOf st).toList.map r).Perm (a₀.toList.map r):=(Array.perm_iff_toList_perm.mp V.perm).map r
 have nd:((arrOf st).toList.map r).Nodup:=p.nodup_iff.mpr hd
 have hz:=V.size
 have a1:((arrOf st).toList.map r)[i]'(by simp;lia)=r (it (arrOf st) i):=by rw[fI (by lia)];simp
 have a2:((arrOf st).toList.map r)[j]'(by simp;lia)=r (it (arrOf st) j):=by rw[fI (by lia)];simp
 exact(getElem_inj nd).mp (a1.trans (e.trans a2.symm))
theorem lQ(C:dG prog w A s κ r (· ∈a₀.toList))(V:Iv κ a₀ st){i j:Nat}{Q:Option Bool->SortSt->Prop}(hi:i<a₀.size)(hj:j<a₀.size)(h:Q (some (decide (r (it (arrOf st) i)<r (it (arrOf st) j)))) st):
  wpS (model prog w) A E s (ltAt' i j) Q st:=by
 rw[ltAt'_eq]
 refine wpS_bind (wpS_get ?_)
 dsimp only
 have hz:=V.size
 refine wpS_bind (cH (bZ (by lia)) (wpS_bind (cH (bZ (by lia)) ?_)))
 exact lR C V.kind (V.mem hi) (V.mem hj) h
theorem CM(C:dG prog w A s κ r (· ∈a₀.toList))(V:Iv κ a₀ st){lo a nrem:Nat}{Q:Option (Option Nat)×Nat->SortSt->Prop}(hz:lo+nrem<=a₀.size)(h1:1<=a)(h2:a<=nrem)(hs:dD r (arrOf st) lo (lo+a))
  (h:∀n,a<=n->n<=nrem->dD r (arrOf st) lo (lo+n)->(n=nrem\/r (it (arrOf st) (lo+n))<r (it (arrOf st) (lo+n-1)))->Q (none,n) st):
  wpS (model prog w) A E s (forIn [a:nrem] ((none,a):Option (Option Nat)×Nat) λx __s=>do
    let __x <-ltAt' (lo+__s.snd) (lo+__s.snd-1)
    match __x with
     |some smaller=>if smaller=true then pure (ForInStep.done (none,__s.snd)) else pure (ForInStep.yield (none,__s.snd+1))
     |x=>pure (ForInStep.done (some none,__s.snd))) Q st:=by
 refine wpS_forRange (I:=λx c st'=>st'=st/\c=(none,x)/\dD r (arrOf st) lo (lo+x)) ?step ?fin ⟨rfl,rfl,hs⟩
 case fin=>
  rintro c st' ⟨rfl,rfl,hs⟩
  rw[Nat.max_eq_right h2]at hs ⊢
  exact h nrem h2 (Nat.le_refl _) hs (.inl rfl)
 case step=>
  rintro x c st' hx1 hx2 ⟨rfl,rfl,hs⟩
  dsimp only
  refine wpS_bind (lQ C V (by lia) (by lia) ?_)
  dsimp only
  by_cases q:r (it (arrOf st') (lo+x))<r (it (arrOf st') (lo+x-1))
  ·rw[if_pos (by simpa using q)]
   exact wpS_pure (h x hx1 (by lia) hs (.inr q))
  ·rw[if_neg (by simpa using q)]
   refine wpS_pure ⟨rfl,rfl,λi j h3 h4 h5=>?_⟩
   by_cases qj:j<lo+x
   ·exact hs i j h3 h4 qj
   ·obtain rfl:j=lo+x:=by lia
    by_cases qi:i=lo+x
    ·subst qi;exact Nat.le_refl _
    ·have:=hs i (lo+x-1) h3 (by lia) (by lia)
     lia
theorem MM(C:dG prog w A s κ r (· ∈a₀.toList))(hd:(a₀.toList.map r).Nodup)(V:Iv κ a₀ st){lo nrem:Nat}{Q:Option Nat->SortSt->Prop}(hz:lo+nrem<=a₀.size)(h1:1<=nrem)
  (h:∀n st',Iv κ a₀ st'->pendingOf st'=pendingOf st->1<=n->n<=nrem->dD r (arrOf st') lo (lo+n)->(∀j,j<lo->it (arrOf st') j=it (arrOf st) j)->Q (some n) st'):
  wpS (model prog w) A E s (countRun' lo nrem) Q st:=by
 rw[countRun'_eq]
 refine wpS_bind (CM C V hz (Nat.le_refl 1) h1 (λi j h3 h4 h5=>by obtain rfl:i=j:=(by lia);exact Nat.le_refl _) λn n1 n2 n3 n4=>?_)
 dsimp only
 by_cases e1:n=nrem
 ·rw[if_pos (by simpa using e1)]
  exact wpS_pure (h n st V rfl n1 n2 n3 λ_ _=>rfl)
 rw[if_neg (by simpa using e1)]
 by_cases e2:n>1
 ·rw[if_pos e2]
  refine wpS_bind (lQ C V (by lia) (by lia) ?_)
  dsimp only
  have q:r (it (arrOf st) lo)<r (it (arrOf st) (lo+n-1)):=by
   have:=n3 lo (lo+n-1) (Nat.le_refl _) (by lia) (by lia)
   rcases Nat.lt_or_ge (r (it (arrOf st) lo)) (r (it (arrOf st) (lo+n-1))) with q|q
   ·exact q
   ·have:=V.inj hd (i:=lo) (j:=lo+n-1) (by lia) (by lia) (by lia)
    lia
  rw[if_pos (by simpa using q)]
  exact wpS_pure (h n st V rfl n1 n2 n3 λ_ _=>rfl)
 rw[if_neg e2]
 obtain rfl:n=1:=by lia
 have hlt:=n4.resolve_left e1
 refine wpS_bind (wpS_lift (wpAny_rule ⟨rfl,?_⟩))
 refine wpS_bind (wpS_mono (wpS_forRange (I:=λx c st'=>st'=st/\c=(none,x,0)/\∀i j,lo<=i->i<=j->j<lo+x->r (it (arrOf st) j)<=r (it (arrOf st) i))
  (Q:=λc st'=>st'=st/\∃x,c=(none,x,0)/\2<=x/\x<=nrem/\∀i j,lo<=i->i<=j->j<lo+x->r (it (arrOf st) j)<=r (it (arrOf st) i)) ?step ?fin ⟨rfl,rfl,?init⟩) ?post)
 case init=>
  intro i j h3 h4 h5
  by_cases q:i=j
  ·subst q;exact Nat.le_refl _
  ·obtain rfl:i=lo:=by lia
   obtain rfl:j=i+1:=by lia
   rw[show i+1-1=i by lia]at hlt
   lia
 case fin=>
  rintro c st' ⟨rfl,rfl,hs⟩
  exact⟨rfl,_,rfl,by lia,by lia,hs⟩
 case step=>
  rintro x c st' hx1 hx2 ⟨rfl,rfl,hs⟩
  dsimp only
  refine wpS_bind (lQ C V (by lia) (by lia) ?_)
  dsimp only
  by_cases q:r (it (arrOf st') (lo+x))<r (it (arrOf st') (lo+x-1))
  ·rw[if_pos (by simpa using q),if_neg (by lia)]
   refine wpS_pure ⟨rfl,rfl,λi j h3 h4 h5=>?_⟩
   by_cases qj:j<lo+x
   ·exact hs i j h3 h4 qj
   ·obtain rfl:j=lo+x:=by lia
    by_cases qi:i=lo+x
    ·subst qi;exact Nat.le_refl _
    ·have:=hs i (lo+x-1) h3 (by lia) (by lia)
     lia
  ·rw[if_neg (by simpa using q)]
   refine wpS_bind (lQ C V (by lia) (by lia) ?_)
   dsimp only
   have q':r (it (arrOf st') (lo+x-1))<r (it (arrOf st') (lo+x)):=by
    rcases Nat.lt_or_ge (r (it (arrOf st') (lo+x-1))) (r (it (arrOf st') (lo+x))) with q|q
    ·exact q
    ·have:=V.inj hd (i:=lo+x) (j:=lo+x-1) (by lia) (by lia) (by lia)
     lia
   rw[if_pos (by simpa using q')]
   exact wpS_pure ⟨rfl,x,rfl,by lia,by lia,hs⟩
 case post=>
  rintro c st' ⟨rfl,x,rfl,x1,x2,hs⟩
  dsimp only
  rw[if_neg (by lia)]
  have hzz:=V.size
  have mi:=λk=>X5 (xs:=arrOf st') (i:=lo) (j:=lo+x) (by lia) k
  refine wpS_bind (wpS_reverse ?_)
  have V':Iv κ a₀ (PyProof.Rows.setArr st' (mirror (arrOf st') lo (lo+x) ((lo+x-lo)/2))):=V.setArr (mirror_perm _ _ _ _)
  refine wpS_bind (CM C V' hz (by lia) x2 (λi j h3 h4 h5=>?_) λn m1 m2 m3 m4=>?_)
  ·show r (it (mirror (arrOf st') lo (lo+x) ((lo+x-lo)/2)) i)<=r (it (mirror (arrOf st') lo (lo+x) ((lo+x-lo)/2)) j)
   rw[mi i,if_pos (by lia),mi j,if_pos (by lia)]
   exact hs _ _ (by lia) (by lia) (by lia)
  ·refine wpS_pure (h n _ V' rfl (by lia) m2 m3 λj hj=>?_)
   show it (mirror (arrOf st') lo (lo+x) ((lo+x-lo)/2)) j=_
   rw[mi j,if_neg (by lia)]
theorem MN(C:dG prog w A s κ r (· ∈a₀.toList))(V:Iv κ a₀ st){lo n ok:Nat}{Q:Bool->SortSt->Prop}(hz:lo+n<=a₀.size)(hok:ok<=n)(h1:1<=ok)(hs:dD r (arrOf st) lo (lo+ok))
  (h:∀st',Iv κ a₀ st'->pendingOf st'=pendingOf st->dD r (arrOf st') lo (lo+n)->(∀j,j<lo->it (arrOf st') j=it (arrOf st) j)->Q true st'):
  wpS (model prog w) A E s (binarySort' lo n ok) Q st:=by
 rw[binarySort'_eq,Nat.max_eq_left h1]
 refine wpS_bind (wpS_mono (wpS_forRange (I:=λk c st'=>c=(none,())/\Iv κ a₀ st'/\pendingOf st'=pendingOf st/\dD r (arrOf st') lo (lo+k)/\∀j,j<lo->it (arrOf st') j=it (arrOf st) j)
  (Q:=λc st'=>c=(none,())/\Iv κ a₀ st'/\pendingOf st'=pendingOf st/\dD r (arrOf st') lo (lo+n)/\∀j,j<lo->it (arrOf st') j=it (arrOf st) j) ?step ?fin ⟨rfl,V,rfl,hs,λ_ _=>rfl⟩) ?post)
 case post=>
  rintro c st' ⟨rfl,V',e,hs',hj⟩
  exact wpS_pure (h st' V' e hs' hj)
 case fin=>
  rintro c st' hh
  rwa [Nat.max_eq_right hok]at hh
 case step=>
  rintro k c st' hk1 hk2 ⟨rfl,V',ep,hs',hj'⟩
  refine wpS_bind (wpS_mono (wpS_forRange (I:=λx c st''=>st''=st'/\∃l u,c=(none,l,u)/\l<=u/\u<=k/\u-l<=k-x/\
    (∀i,i<l->r (it (arrOf st') (lo+i))<=r (it (arrOf st') (lo+k)))/\(∀i,u<=i->i<k->r (it (arrOf st') (lo+k))<r (it (arrOf st') (lo+i))))
   (Q:=λc st''=>st''=st'/\∃l u,c=(none,l,u)/\l<=k/\
    (∀i,i<l->r (it (arrOf st') (lo+i))<=r (it (arrOf st') (lo+k)))/\(∀i,l<=i->i<k->r (it (arrOf st') (lo+k))<r (it (arrOf st') (lo+i)))) ?istep ?ifin ?iinit) ?ipost)
  case iinit=>exact⟨rfl,0,k,rfl,by lia,by lia,by lia,λi hi=>by lia,λi h1 h2=>by lia⟩
  case ifin=>
   rintro c st'' ⟨rfl,l,u,rfl,hlr,hrk,hm,hlo,hhi⟩
   have:l=u:=by lia
   subst this
   exact⟨rfl,l,l,rfl,hrk,hlo,hhi⟩
  case istep=>
   rintro x c st'' _ hxk ⟨rfl,l,u,rfl,hlr,hrk,hm,hlo,hhi⟩
   dsimp only
   by_cases hge:l>=u
   ·rw[if_pos hge]
    have:l=u:=by lia
    subst this
    exact wpS_pure ⟨rfl,l,l,rfl,hrk,hlo,hhi⟩
   ·rw[if_neg hge]
    refine wpS_bind (lQ C V' (by lia) (by lia) ?_)
    dsimp only
    by_cases q:r (it (arrOf st'') (lo+k))<r (it (arrOf st'') (lo+(l+u)/2))
    ·rw[if_pos (by simpa using q)]
     refine wpS_pure ⟨rfl,l,(l+u)/2,rfl,by lia,by lia,by lia,hlo,λi h1 h2=>?_⟩
     have:=hs' (lo+(l+u)/2) (lo+i) (by lia) (by lia) (by lia)
     lia
    ·rw[if_neg (by simpa using q)]
     refine wpS_pure ⟨rfl,(l+u)/2+1,u,rfl,by lia,by lia,by lia,λi h1=>?_,hhi⟩
     have:=hs' (lo+i) (lo+(l+u)/2) (by lia) (by lia) (by lia)
     lia
  case ipost=>
   rintro c st'' ⟨rfl,l,u,rfl,hlk,hlo,hhi⟩
   dsimp only
   rw[moveDown'_eq]
   have hzz:=V'.size
   have bi:=λi=>X6 (xs:=arrOf st'') (src:=lo+k) (d:=lo+k-(lo+l)) (by lia) (by lia) i
   rw[show lo+k-(lo+k-(lo+l))=lo+l by lia]at bi
   refine wpS_bind (wpS_modify (wpS_pure ⟨rfl,V'.setArr (bubble_perm _ _ _),ep,λi j h3 h4 h5=>?_,λj hj=>?_⟩))
   ·show r (it (bubble (arrOf st'') (lo+k) (lo+k-(lo+l))) i)<=r (it (bubble (arrOf st'') (lo+k) (lo+k-(lo+l))) j)
    rw[bi i,bi j]
    have lo':∀i,lo<=i->i<lo+l->r (it (arrOf st'') i)<=r (it (arrOf st'') (lo+k)):=λi h1 h2=>by
     have:=hlo (i-lo) (by lia)
     rwa [show lo+(i-lo)=i by lia]at this
    have hi':∀i,lo+l<=i->i<lo+k->r (it (arrOf st'') (lo+k))<=r (it (arrOf st'') i):=λi h1 h2=>by
     have:=hhi (i-lo) (by lia) (by lia)
     rw[show lo+(i-lo)=i by lia]at this
     lia
    repeat' split
    all_goals first
     |(exfalso;lia)
     |exact Nat.le_refl _
     |exact lo' _ (by lia) (by lia)
     |exact hi' _ (by lia) (by lia)
     |exact hs' _ _ (by lia) (by lia) (by lia)
   ·show it (bubble (arrOf st'') (lo+k) (lo+k-(lo+l))) j=_
    rw[bi j,if_neg (by lia),if_neg (by lia)]
    exact hj' j hj
end
noncomputable def Cov(r:Keyed->Nat)(a:Array Keyed):Nat->List (Nat×Nat)->Nat->Prop
 |s,[],e=>s=e
 |s,(q,n)::l,e=>q=s/\0<n/\dD r a s (s+n)/\Cov r a (s+n) l e
theorem Cov.le{r:Keyed->Nat}{a:Array Keyed}:∀{l:List (Nat×Nat)}{s e:Nat},Cov r a s l e->s+l.length<=e
 |[],_,_,h=>by rw[show _=_ from h];simp
 |(q,n)::l,s,e,⟨_,h2,_,h4⟩=>by
  have:=h4.le
  rw[length_cons]
  lia
theorem Cov.congr{r:Keyed->Nat}{a b:Array Keyed}:∀{l:List (Nat×Nat)}{s e:Nat},Cov r a s l e->(∀j,s<=j->j<e->it b j=it a j)->Cov r b s l e
 |[],_,_,h,_=>h
 |(q,n)::l,s,e,⟨h1,h2,h3,h4⟩,hc=>by
  have hl:=h4.le
  refine⟨h1,h2,λi j a1 a2 a3=>?_,h4.congr λj a1 a2=>hc j (by lia) a2⟩
  rw[hc i (by lia) (by lia),hc j (by lia) (by lia)]
  exact h3 i j a1 a2 a3
theorem Cov.split{r:Keyed->Nat}{a:Array Keyed}:∀{l l':List (Nat×Nat)}{s e:Nat},Cov r a s (l++l') e->∃m,Cov r a s l m/\Cov r a m l' e
 |[],_,s,_,h=>⟨s,rfl,h⟩
 |(q,n)::l,l',s,e,⟨h1,h2,h3,h4⟩=>by
  obtain⟨m,a1,a2⟩:=h4.split
  exact⟨m,⟨h1,h2,h3,a1⟩,a2⟩
theorem Cov.join{r:Keyed->Nat}{a:Array Keyed}:∀{l l':List (Nat×Nat)}{s m e:Nat},Cov r a s l m->Cov r a m l' e->Cov r a s (l++l') e
 |[],_,s,m,_,h,h'=>by cases(show s=m from h);exact h'
 |(q,n)::l,l',s,m,e,⟨h1,h2,h3,h4⟩,h'=>⟨h1,h2,h3,h4.join h'⟩
noncomputable abbrev p2(st:SortSt):List (Nat×Nat):=(pendingOf st).toList.map λt=>(t.1,t.2.1)
theorem G6(st:SortSt):(p2 st).length=(pendingOf st).size:=by simp
section
variable{prog:Program}{w:World}{A:Around}{E:Value->Shared->Prop}{s:Shared}{κ:SortKind}{r:Keyed->Nat}{a₀:Array Keyed}{st:SortSt}
theorem rM(C:dG prog w A s κ r (· ∈a₀.toList))(V:Iv κ a₀ st){i lo:Nat}{Q:Bool->SortSt->Prop}(hi:i+1<(pendingOf st).size)(hc:Cov r (arrOf st) 0 (p2 st) lo)(hz:lo<=a₀.size)
  (h:∀st',Iv κ a₀ st'->(pendingOf st').size+1=(pendingOf st).size->Cov r (arrOf st') 0 (p2 st') lo->(∀j,lo<=j->it (arrOf st') j=it (arrOf st) j)->Q true st'):
  wpS (model prog w) A E s (mergeAt' i) Q st:=by
 obtain⟨⟨sa,na,pw⟩,e1⟩:∃u,(pendingOf st)[i]? =some u:=⟨_,getElem?_pos _ i (by lia)⟩
 obtain⟨⟨sb,nb,pw'⟩,e2⟩:∃u,(pendingOf st)[i+1]? =some u:=⟨_,getElem?_pos _ (i+1) (by lia)⟩
 have sp:(pendingOf st).toList=(pendingOf st).toList.take i++(sa,na,pw)::(sb,nb,pw')::(pendingOf st).toList.drop (i+2):=by
  conv=>lhs;rw[<-take_append_drop i (pendingOf st).toList]
  congr 1
  have f1:(pendingOf st).toList[i]? =some (sa,na,pw):=by rw[Array.getElem?_toList];exact e1
  have f2:(pendingOf st).toList[i+1]? =some (sb,nb,pw'):=by rw[Array.getElem?_toList];exact e2
  obtain⟨g1,g1'⟩:=List.getElem?_eq_some_iff.mp f1
  obtain⟨g2,g2'⟩:=List.getElem?_eq_some_iff.mp f2
  rw[drop_eq_getElem_cons g1,g1',drop_eq_getElem_cons g2,g2']
 obtain⟨pre,hpre⟩:∃pre,pre=(pendingOf st).toList.take i:=⟨_,rfl⟩
 obtain⟨post,hpost⟩:∃post,post=(pendingOf st).toList.drop (i+2):=⟨_,rfl⟩
 have hl:pre.length=i:=by rw[hpre];simp;lia
 rw[<-hpre,<-hpost]at sp
 have hc':=hc
 unfold p2 at hc'
 rw[sp,map_append]at hc'
 obtain⟨m,c1,c2⟩:=hc'.split
 simp only[map_cons]at c2
 obtain⟨q1,q2,q3,q4,q5,q6,q7⟩:=c2
 have q2:0<na:=q2
 have q5:0<nb:=q5
 have q7:Cov r (arrOf st) (m+na+nb) (List.map (λt:Nat×Nat×Nat=>(t.1,t.2.1)) post) lo:=q7
 have l1:=c1.le
 have l2:=q7.le
 subst q1
 have es:sb=sa+na:=q4
 refine MJ C V e1 e2 es q2 q5 (by lia) (by rw[es];exact q3) (by rw[es];exact q6) λst' V' ep S' hj=>?_
 have et:(pendingOf st').toList=pre++(sa,na+nb,pw)::post:=by
  rw[ep]
  rw[Array.toList_eraseIdxIfInBounds,Array.toList_setIfInBounds,sp]
  rw[List.set_append_right _ _ (by lia),hl,Nat.sub_self,List.set_cons_zero,List.eraseIdx_append_of_length_le (by lia),hl,show i+1-i=1 by lia]
  rfl
 refine h st' V' ?_ ?_ λj hj'=>hj j (.inr (by lia))
 ·have a1:=congrArg List.length et
  have a2:=congrArg List.length sp
  simp only[Array.length_toList,length_append,length_cons]at a1 a2
  lia
 ·unfold p2
  rw[et,map_append]
  refine Cov.join (c1.congr λj _ a2=>hj j (.inl a2)) ⟨rfl,(show 0<na+nb by lia),?_,?_⟩
  ·rw[<-Nat.add_assoc,<-es];exact S'
  ·rw[<-Nat.add_assoc]
   exact q7.congr λj a1 _=>hj j (.inr (by lia))
theorem G5(p:Array (Nat×Nat×Nat))(i pw:Nat):(p.modify i λx=>(x.1,x.2.1,pw)).toList.map (λt=>(t.1,t.2.1))=p.toList.map λt=>(t.1,t.2.1):=by
 apply ext_getElem
 ·simp
 ·intro j h1 h2
  simp only[getElem_map,Array.getElem_toList,Array.getElem_modify]
  split <;> rfl
theorem oR{st1:SortSt}{lo n:Nat}(h1:1<=n)(c1:Cov r (arrOf st1) 0 (p2 st1) lo)(s1:dD r (arrOf st1) lo (lo+n)):Cov r (arrOf st1) 0 (p2 (setPending st1 ((pendingOf st1).push (lo,n,0)))) (lo+n):=by
 show Cov r (arrOf st1) 0 (((pendingOf st1).push (lo,n,0)).toList.map λt=>(t.1,t.2.1)) (lo+n)
 rw[Array.toList_push,map_append]
 exact Cov.join c1 ⟨rfl,h1,s1,rfl⟩
theorem MI(C:dG prog w A s κ r (· ∈a₀.toList))(hd:(a₀.toList.map r).Nodup)(V:Iv κ a₀ st){Q:Unit->SortSt->Prop}(h1:1<=a₀.size)(hp:pendingOf st=#[])
  (h:∀st',Iv κ a₀ st'->dD r (arrOf st') 0 a₀.size->Q () st'):wpS (model prog w) A E s sortRuns' Q st:=by
 rw[sortRuns'_eq]
 refine wpS_bind (wpS_get ?_)
 dsimp only
 simp only[V.size]
 obtain⟨mr,hmr⟩:∃mr,mr=minRun' a₀.size a₀.size 0:=⟨_,rfl⟩
 rw[<-hmr]
 refine wpS_bind (wpS_mono (wpS_forRange (I:=λx c st'=>∃lo,c=(none,lo)/\Iv κ a₀ st'/\x<=lo/\lo<=a₀.size/\Cov r (arrOf st') 0 (p2 st') lo)
  (Q:=λc st'=>c=(none,a₀.size)/\Iv κ a₀ st'/\Cov r (arrOf st') 0 (p2 st') a₀.size) ?step ?fin ⟨0,rfl,V,by lia,by lia,?init⟩) ?post)
 case init=>
  unfold p2;rw[hp];exact rfl
 case fin=>
  rintro c st' ⟨lo,rfl,V',a1,a2,a3⟩
  obtain rfl:lo=a₀.size:=by lia
  exact⟨rfl,V',a3⟩
 case step=>
  rintro x c st' _ hx ⟨lo,rfl,V',a1,a2,a3⟩
  dsimp only
  by_cases q:lo>=a₀.size
  ·rw[if_pos q]
   obtain rfl:lo=a₀.size:=by lia
   exact wpS_pure ⟨rfl,V',a3⟩
  rw[if_neg q]
  refine wpS_bind (MM C hd V' (by lia) (by lia) λn st1 V1 ep n1 n2 n3 n4=>?_)
  dsimp only
  have cv1:Cov r (arrOf st1) 0 (p2 st1) lo:=by
   unfold p2;rw[ep]
   exact a3.congr λj _ hj=>n4 j hj
  by_cases e1:n<mr
  ·rw [if_pos e1]
   refine wpS_bind (wpS_lift (wpAny_rule ⟨rfl,?_⟩))
   refine wpS_bind (MN C V1 (by lia) (by lia) n1 n3 λst2 V2 ep2 m3 m4=>?_)
   rw[if_neg (by simp)]
   have cv2:Cov r (arrOf st2) 0 (p2 st2) lo:=by
    unfold p2;rw[ep2]
    exact cv1.congr λj _ hj=>m4 j hj
   refine wpS_bind (wpS_get ?_)
   cases eb:(pendingOf st2).back? with
   |none=>
    dsimp only
    exact wpS_bind (wpS_modify (wpS_pure ⟨_,rfl,⟨V2.perm,V2.kind,V2.ok⟩,by lia,by lia,oR (by lia) cv2 m3⟩))
   | some u=>
    obtain⟨s1,n1,pw1⟩:=u
    dsimp only
    refine wpS_bind (wpS_mono (wpS_forRange (I:=λx c st'=>c=(none,())/\Iv κ a₀ st'/\Cov r (arrOf st') 0 (p2 st') lo/\∀j,lo<=j->it (arrOf st') j=it (arrOf st2) j)
     (Q:=λc st'=>c=(none,())/\Iv κ a₀ st'/\Cov r (arrOf st') 0 (p2 st') lo/\∀j,lo<=j->it (arrOf st') j=it (arrOf st2) j) ?stepA (λ_ _ hh=>hh) ⟨rfl,V2,cv2,λ_ _=>rfl⟩) ?postA)
    case stepA=>
     rintro x c st' _ hx ⟨rfl,V',cv',hj⟩
     refine wpS_bind (wpS_get ?_)
     by_cases q:(pendingOf st').size>1
     ·rw[if_pos q]
      obtain⟨⟨u1,u2,older⟩,e1⟩:∃u,(pendingOf st')[(pendingOf st').size-2]? =some u:=⟨_,getElem?_pos _ _ (by lia)⟩
      rw[e1]
      dsimp only
      split
      ·exact wpS_pure ⟨rfl,V',cv',hj⟩
      ·refine wpS_bind (rM C V' (by lia) cv' (by lia) λst3 V3 _ cv3 hj3=>?_)
       rw[if_neg (by simp)]
       exact wpS_pure ⟨rfl,V3,cv3,λj hj'=>by rw[hj3 j hj',hj j hj']⟩
     ·rw[if_neg q]
      dsimp only
      exact wpS_pure ⟨rfl,V',cv',hj⟩
    case postA=>
     rintro c st' ⟨rfl,V',cv',hj⟩
     dsimp only
     refine wpS_bind (wpS_modify (wpS_bind (wpS_modify (wpS_pure ⟨_,rfl,⟨V'.perm,V'.kind,V'.ok⟩,by lia,by lia,oR (st1:=setPending st' ((pendingOf st').modify ((pendingOf st').size-1) λx=>(x.fst,x.2.fst,power' a₀.size (2*s1+n1) (2*s1+n1+n1+min (a₀.size-lo) mr) a₀.size))) (by lia) ?_ λi j h3 h4 h5=>?_⟩))))
     ·show Cov r (arrOf st') 0 (((pendingOf st').modify ((pendingOf st').size-1) λx=>(x.fst,x.2.fst,power' a₀.size (2*s1+n1) (2*s1+n1+n1+min (a₀.size-lo) mr) a₀.size)).toList.map λt=>(t.1,t.2.1)) lo
      rw[G5]
      exact cv'
     ·show r (it (arrOf st') i)<=r (it (arrOf st') j)
      rw[hj i h3,hj j (by lia)]
      exact m3 i j h3 h4 h5
  ·rw [if_neg e1]
   refine wpS_bind (wpS_get ?_)
   cases eb:(pendingOf st1).back? with
   |none=>
    dsimp only
    exact wpS_bind (wpS_modify (wpS_pure ⟨_,rfl,⟨V1.perm,V1.kind,V1.ok⟩,by lia,by lia,oR (by lia) cv1 n3⟩))
   | some u=>
    obtain⟨s1,n1,pw1⟩:=u
    dsimp only
    refine wpS_bind (wpS_mono (wpS_forRange (I:=λx c st'=>c=(none,())/\Iv κ a₀ st'/\Cov r (arrOf st') 0 (p2 st') lo/\∀j,lo<=j->it (arrOf st') j=it (arrOf st1) j)
     (Q:=λc st'=>c=(none,())/\Iv κ a₀ st'/\Cov r (arrOf st') 0 (p2 st') lo/\∀j,lo<=j->it (arrOf st') j=it (arrOf st1) j) ?stepB (λ_ _ hh=>hh) ⟨rfl,V1,cv1,λ_ _=>rfl⟩) ?postB)
    case stepB=>
     rintro x c st' _ hx ⟨rfl,V',cv',hj⟩
     refine wpS_bind (wpS_get ?_)
     by_cases q:(pendingOf st').size>1
     ·rw[if_pos q]
      obtain⟨⟨u1,u2,older⟩,e1⟩:∃u,(pendingOf st')[(pendingOf st').size-2]? =some u:=⟨_,getElem?_pos _ _ (by lia)⟩
      rw[e1]
      dsimp only
      split
      ·exact wpS_pure ⟨rfl,V',cv',hj⟩
      ·refine wpS_bind (rM C V' (by lia) cv' (by lia) λst2 V2 _ cv2 hj2=>?_)
       rw[if_neg (by simp)]
       exact wpS_pure ⟨rfl,V2,cv2,λj hj'=>by rw[hj2 j hj',hj j hj']⟩
     ·rw[if_neg q]
      dsimp only
      exact wpS_pure ⟨rfl,V',cv',hj⟩
    case postB=>
     rintro c st' ⟨rfl,V',cv',hj⟩
     dsimp only
     refine wpS_bind (wpS_modify (wpS_bind (wpS_modify (wpS_pure ⟨_,rfl,⟨V'.perm,V'.kind,V'.ok⟩,by lia,by lia,oR (st1:=setPending st' ((pendingOf st').modify ((pendingOf st').size-1) λx=>(x.fst,x.2.fst,power' a₀.size (2*s1+n1) (2*s1+n1+n1+n) a₀.size))) (by lia) ?_ λi j h3 h4 h5=>?_⟩))))
     ·show Cov r (arrOf st') 0 (((pendingOf st').modify ((pendingOf st').size-1) λx=>(x.fst,x.2.fst,power' a₀.size (2*s1+n1) (2*s1+n1+n1+n) a₀.size)).toList.map λt=>(t.1,t.2.1)) lo
      rw[G5]
      exact cv'
     ·show r (it (arrOf st') i)<=r (it (arrOf st') j)
      rw[hj i h3,hj j (by lia)]
      exact n3 i j h3 h4 h5
 case post=>
  rintro c st' ⟨rfl,V',cv⟩
  dsimp only
  have one:∀st2,Iv κ a₀ st2->Cov r (arrOf st2) 0 (p2 st2) a₀.size->(pendingOf st2).size<=1->dD r (arrOf st2) 0 a₀.size:=λst2 V2 cv2 hle=>by
   have hl:=G6 st2
   match hq:p2 st2,cv2 with
   |[],c=>have:(0:Nat)=a₀.size:=c;lia
   |[(q,n)],c=>
    obtain⟨c1,c2,c3,c4⟩:=c
    have c4:0+n=a₀.size:=c4
    rw[<-c4];exact c3
   |_::_::_,c=>rw[hq]at hl;simp at hl;lia
  have hlen:(pendingOf st').size<=a₀.size:=by have:=cv.le;rw[G6]at this;lia
  refine wpS_bind (wpS_mono (wpS_forRange (I:=λx c st2=>c=(none,())/\Iv κ a₀ st2/\Cov r (arrOf st2) 0 (p2 st2) a₀.size/\((pendingOf st2).size<=1\/(pendingOf st2).size+x<=a₀.size))
   (Q:=λc st2=>c=(none,())/\Iv κ a₀ st2/\dD r (arrOf st2) 0 a₀.size) ?step3 ?fin3 ⟨rfl,V',cv,.inr (by lia)⟩) ?post3)
  case fin3=>
   rintro c st2 ⟨rfl,V2,cv2,hh⟩
   exact⟨rfl,V2,one st2 V2 cv2 (by lia)⟩
  case post3=>
   rintro c st2 ⟨rfl,V2,sn⟩
   exact wpS_pure (h st2 V2 sn)
  case step3=>
   rintro x c st2 _ hx ⟨rfl,V2,cv2,hh⟩
   refine wpS_bind (wpS_get ?_)
   by_cases q:(pendingOf st2).size<=1
   ·rw[if_pos q]
    exact wpS_pure ⟨rfl,V2,one st2 V2 cv2 q⟩
   ·rw[if_neg q]
    refine wpS_bind (rM C V2 ?_ cv2 (Nat.le_refl _) λst3 V3 e3 cv3 _=>?_)
    ·repeat' split
     all_goals lia
    ·rw[if_neg (by simp)]
     exact wpS_pure ⟨rfl,V3,cv3,.inr (by lia)⟩
end
end TS
namespace TS
open PySem PySem.Spec PyProof.Rows L2
theorem nF{α:Type}{p q:α->Bool}:∀{l:List α},(∀x∈l,p x=true->q x=true)->(∃x∈l,q x=true/\p x=false)->l.countP p<l.countP q
 |[],_,⟨_,h,_⟩=>nomatch h
 | a::l,h1,⟨x,hx,h2,h3⟩=>by
  have le:l.countP p<=l.countP q:=List.countP_mono_left λy hy hp=>h1 y (mem_cons_of_mem _ hy) hp
  rw[countP_cons,countP_cons]
  rcases mem_cons.mp hx with rfl|hx
  ·rw[h2,h3];simp;lia
  ·have ih:=nF (λy hy=>h1 y (mem_cons_of_mem _ hy)) ⟨x,hx,h2,h3⟩
   have ha:=h1 a mem_cons_self
   cases ep:p a <;> cases eq:q a <;> simp[ep,eq]at ha ⊢ <;> lia
noncomputable def rk(lt:Nat->Nat->Bool)(n i:Nat):Nat:=(range n).countP λj=>lt j i
section
variable{lt:Nat->Nat->Bool}{n:Nat}(S:lL lt n)
include S
theorem lY{i j:Nat}(hi:i<n)(hj:j<n)(h:lt i j=true):rk lt n i<rk lt n j:=
 nF (λk hk hp=>S.tr k i j (mem_range.mp hk) hi hj hp h) ⟨i,mem_range.mpr hi,h,by
  cases e:lt i i with
  |false=>rfl
  |true=>have:=S.irr i i hi hi e;rw[e]at this;cases this⟩
theorem PR{i j:Nat}(hi:i<n)(hj:j<n):decide (rk lt n i<rk lt n j)=lt i j:=by
 cases e:lt i j with
 |true=>simpa using lY S hi hj e
 | false=>
  by_cases q:i=j
  ·subst q;simp
  ·have:=lY S hj hi (S.tot i j hi hj q e)
   simp;lia
theorem PQ{i j:Nat}(hi:i<n)(hj:j<n)(h:rk lt n i=rk lt n j):i=j:=by
 by_cases q:i=j
 ·exact q
 ·cases e:lt i j with
  |true=>have:=lY S hi hj e;lia
  |false=>have:=lY S hj hi (S.tot i j hi hj q e);lia
end
theorem ST{α β:Type}{f:α->β}{l₁ m:List β}(h:l₁.Perm m):∀l₂:List α,m=l₂.map f->∃l:List α,l.Perm l₂/\l₁=l.map f:=by
 induction h with
 |nil=>intro l₂ e;exact⟨[],by cases l₂ with|nil=>exact .nil|cons=>simp at e,rfl⟩
 | cons x _ ih=>
  intro l₂ e
  cases l₂ with
  |nil=>simp at e
  |cons a t=>
   rw[map_cons]at e
   obtain⟨rfl,e2⟩:=List.cons.inj e
   obtain⟨l,p,q⟩:=ih t e2
   exact⟨a::l,p.cons a,by rw[q];rfl⟩
 | swap x y t=>
  intro l₂ e
  match l₂,e with
  |a::b::t',e=>
   rw[map_cons,map_cons]at e
   obtain⟨rfl,e2⟩:=List.cons.inj e
   obtain⟨rfl,rfl⟩:=List.cons.inj e2
   exact⟨b::a::t',.swap a b t',rfl⟩
 |trans _ _ ih1 ih2=>
  intro l₂ e
  obtain⟨l,p,q⟩:=ih2 l₂ e
  obtain⟨l',p',q'⟩:=ih1 l q
  exact⟨l',p'.trans p,q'⟩
noncomputable def j1(lt:Nat->Nat->Bool)(vs:List Value)(x:Keyed):Nat:=
 open Classical in if h:∃i,i<vs.length/\vs.getD i Value.none=x.1 then rk lt vs.length (Classical.choose h) else 0
theorem oF{lt:Nat->Nat->Bool}{vs:List Value}(nd:vs.Nodup){i:Nat}(hi:i<vs.length)(v:Value):j1 lt vs (vs.getD i Value.none,v)=rk lt vs.length i:=by
 have h:∃j,j<vs.length/\vs.getD j Value.none=vs.getD i Value.none:=⟨i,hi,rfl⟩
 unfold j1
 rw[dif_pos h]
 congr 1
 obtain⟨h1,h2⟩:=Classical.choose_spec h
 generalize Classical.choose h=c at h1 h2 ⊢
 rw[List.getD_eq_getElem?_getD,List.getD_eq_getElem?_getD,List.getElem?_eq_getElem h1,List.getElem?_eq_getElem hi]at h2
 exact(getElem_inj nd).mp h2
theorem wN(vs:List Value):(pairsOf vs).toList=(range vs.length).map λi=>(vs.getD i Value.none,vs.getD i Value.none):=by
 rw[pairsOf_toList]
 apply ext_getElem
 ·simp
 ·intro i h1 h2
  simp at h1 h2 ⊢
  simp[h2]
section
variable{prog:Program}{w:World}{A:Around}{E:Value->Shared->Prop}{s:Shared}{h₀:Heap}{L a:Addr}{m:Str->Option Value}{news:List (Addr×Obj)}{vs:List Value}
structure LG (prog:Program) (w:World) (A:Around) (vs:List Value) (s:Shared) (R:List Nat->Prop):Prop where
 need:∃κ lt,lL lt vs.length/\(∀Q:SortKind->Shared->Prop,Q κ s->wpAny (model prog w) A (keyKind' vs.toArray) Q (λ_ _=>False) s)/\
  (∀i j,i<vs.length->j<vs.length->∀Q:Bool->Shared->Prop,Q (lt i j) s->wpAny (model prog w) A (keyLt' κ (vs.getD i Value.none) (vs.getD j Value.none)) Q (λ_ _=>False) s)/\
  ∀p:List Nat,p.Perm (range vs.length)->p.Pairwise (λi j=>lt i j=true)->R p
theorem aa1{n:Nat}{P:PySem.Fin->Shared->Prop}(F:Fr h₀ L s.heap m)(N:News h₀ L s.heap news)(ho:s.heap.get? a=some (seqObj "list" vs.toArray n))(haL:a≠L)(ha0:h₀.get? a=none)(hna:∀p∈news,p.1≠a)
  (h2:2<=vs.length) (hz:vs.length<=sizeLine) (nd:vs.Nodup)
  (h:∀e1 h',Fr h₀ L h' m->News h₀ L h' ((a,seqObj "list" #[] e1)::news)->
   LG prog w A vs { s with heap:=h' } λp=>PySem.W.KasFin h₀ L m a e1 (p.map λi=>vs.getD i Value.none) (λs3=>P (.done (.ret .none)) s3) { s with heap:=h' }):
  wpAny (model prog w) A (Builtin.«list.sort» ⟨[.ref a],[]⟩) P E s:=by
 have same:=Heap.SameBut.update s.heap a (Obj.mapSeq λ_=>(#[]:Array Value))
 obtain⟨e1,ho1⟩:∃e1,(s.heap.update a (Obj.mapSeq λ_=>(#[]:Array Value))).get? a=some (seqObj "list" #[] e1):=⟨_,get?_update_seq ho λ_=>#[]⟩
 obtain⟨hp,hhp⟩:∃hp,hp=((s.heap.update a (Obj.mapSeq λ_=>(#[]:Array Value))).push (seqObj "tuple" vs.toArray 0)).push (seqObj "list" #[] 0):=⟨_,rfl⟩
 have F3:Fr h₀ L hp m:=by rw[hhp];exact((PySem.W.kas_fr F same haL ha0).push _).push _
 have N3:News h₀ L hp ((a,seqObj "list" #[] e1)::news):=by
  rw[hhp]
  intro p hp
  rcases mem_cons.mp hp with rfl|hp
  ·exact⟨Heap.get?_push_of_some _ (Heap.get?_push_of_some _ ho1),haL,ha0⟩
  ·exact(PySem.W.kas_news N same hna).grown (λb x e=>Heap.get?_push_of_some _ (Heap.get?_push_of_some _ e)) p hp
 obtain⟨κ,lt,S,hκ,hlt,hfin⟩:=(h e1 hp F3 N3).need
 rw[list_sort_plain]
 refine wpAny_bind (listItems_at ho rfl ?_)
 refine wpAny_bind (listUpdate_at ho rfl ?_ (by rw[size_toArray];exact hz) (Nat.zero_le _))
 refine wpAny_bind (seqEpoch_at ho1 rfl ?_)
 refine wpAny_bind (wpAny_newTuple ?_ (by show vs.length<=_;exact hz))
 refine wpAny_bind (wpAny_newList ?_ (Nat.zero_le _))
 refine wpAny_holding ?_
 show wpAny (model prog w) A _ P E { s with heap:=((s.heap.update a (Obj.mapSeq λ_=>(#[]:Array Value))).push (seqObj "tuple" vs.toArray 0)).push (seqObj "list" #[] 0) }
 rw[<-hhp]
 dsimp only
 have hn2:¬vs.toArray.size<2:=by rw[size_toArray];lia
 rw[if_neg hn2,if_neg hn2]
 refine wpAny_bind (wpAny_mono (hκ (λk s'=>k=κ/\s'={ s with heap:=hp }) ⟨rfl,rfl⟩) (λk s0 hk=>?_) λ_ _ x=>x.elim)
 obtain⟨rfl,rfl⟩:=hk
 have pz:(pairsOf vs).size=vs.length:=pairsOf_size vs
 have C:dG prog w A { s with heap:=hp } k (j1 lt vs) (· ∈(pairsOf vs).toList):=λx y hx hy Q q=>by
  rw[wN]at hx hy
  obtain⟨i,hi,rfl⟩:=mem_map.mp hx
  obtain⟨j,hj,rfl⟩:=mem_map.mp hy
  have hi:=mem_range.mp hi
  have hj:=mem_range.mp hj
  rw[oF nd hi,oF nd hj,PR S hi hj]at q
  exact hlt i j hi hj Q q
 have rm:(pairsOf vs).toList.map (j1 lt vs)=(range vs.length).map (rk lt vs.length):=by
  rw[wN,map_map]
  exact map_congr_left λi hi=>oF nd (mem_range.mp hi) _
 have ndr:((pairsOf vs).toList.map (j1 lt vs)).Nodup:=by
  rw[rm,List.Nodup,pairwise_map]
  exact(nodup_range (n:=vs.length)).imp_of_mem λhi hj ne e=>ne (PQ S (mem_range.mp hi) (mem_range.mp hj) e)
 have run:=MI (E:=E) (a₀:=pairsOf vs) (st:=SortSt.mk' k (pairsOf vs) #[] 7 none) (Q:=λ_ st'=>Iv k (pairsOf vs) st'/\dD (j1 lt vs) (arrOf st') 0 (pairsOf vs).size) C ndr ⟨Array.Perm.refl _,rfl,rfl⟩ (by rw[pz];lia) rfl λst' V sn=>⟨V,sn⟩
 refine wpAny_bind (wpAny_mono run ?_ λ_ _ e=>e)
 rintro⟨⟨⟩,st'⟩ s' ⟨rfl,V,sn⟩
 dsimp only
 obtain⟨p,pp,pe⟩:=ST (Array.perm_iff_toList_perm.mp V.perm) _ (wN vs)
 have plt:∀i∈p,i<vs.length:=λi hi=>mem_range.mp (pp.mem_iff.mp hi)
 have pl:p.length=vs.length:=by rw[pp.length_eq,length_range]
 have up:p.Pairwise λi j=>lt i j=true:=by
  rw[pairwise_iff_getElem]
  intro i j hi hj hij
  have ei:∀x(hx:x<p.length),j1 lt vs (it (arrOf st') x)=rk lt vs.length p[x]:=λx hx=>by
   have hx':x<(arrOf st').size:=by rw[V.size,pz,<-pl];exact hx
   rw[fI hx',<-Array.getElem_toList hx']
   have e:(arrOf st').toList[x]'(by simpa using hx')=(vs.getD p[x] Value.none,vs.getD p[x] Value.none):=by
    rw[List.getElem_of_eq pe,getElem_map]
   rw[e,oF nd (plt _ (getElem_mem hx))]
  have:=sn i j (Nat.zero_le _) (by lia) (by rw[pz,<-pl];exact hj)
  rw[ei i hi,ei j hj]at this
  have a1:=plt _ (getElem_mem hi)
  have a2:=plt _ (getElem_mem hj)
  have pn:p.Nodup:=pp.nodup_iff.mpr nodup_range
  have ne:p[i]≠p[j]:=λe=>by have:=(getElem_inj pn).mp e;lia
  cases e:lt p[i] p[j]with
  |true=>rfl
  |false=>have:=lY S a2 a1 (S.tot _ _ a1 a2 ne e);lia
 obtain⟨news',g,F',N',U,kk⟩:=hfin p pp up
 obtain⟨pre,post,e0,hg,x1,x2⟩:=U.split
 rw[e0]at N'
 have na:=N' (a,seqObj "list" #[] e1) (mem_append_right _ (.head _))
 have hout:(arrOf st').map (·.2)=List.toArray (p.map λi=>vs.getD i Value.none):=by
  apply Array.toList_inj.mp
  rw[Array.toList_map,pe,map_map]
  rfl
 have hsz:(List.toArray (p.map λi=>vs.getD i Value.none)).size=vs.length:=by rw[size_toArray,length_map,pl]
 rw[hout]
 have s2:=Heap.SameBut.update hp a (Obj.mapSeq λ_=>List.toArray (p.map λi=>vs.getD i Value.none))
 obtain⟨c2,hc2⟩:∃c2,(hp.update a (Obj.mapSeq λ_=>List.toArray (p.map λi=>vs.getD i Value.none))).get? a=some (seqObj "list" (List.toArray (p.map λi=>vs.getD i Value.none)) c2):=⟨_,get?_update_seq na.1 λ_=>List.toArray (p.map λi=>vs.getD i Value.none)⟩
 refine wpAny_bind (seqEpoch_at na.1 rfl ?_)
 refine wpAny_bind (listUpdate_at na.1 rfl ?_ (Nat.zero_le _) (Nat.le_trans (Nat.le_of_eq hsz) (Nat.le_succ_of_le hz)))
 rw[V.ok]
 simp only[bne_self_eq_false,Bool.false_eq_true,if_false]
 refine wpAny_pure (kk _ c2 (PySem.W.kas_fr F' s2 na.2.1 na.2.2) ?_)
 rw[hg]
 exact PySem.W.news_set N' x1 x2 s2 hc2
theorem EZ{l:Addr}{Q:Value->Shared->Prop}(F:Fr h₀ L s.heap m)(N:News h₀ L s.heap news)(hl:Col prog w s l vs)(h2:2<=vs.length)(hz:vs.length<=sizeLine)(nd:vs.Nodup)
  (h:∀D e1 h',Fr h₀ L h' m->News h₀ L h' ((D,seqObj "list" #[] e1)::news)->(∀q∈news,q.1<D)->
   LG prog w A.in1.in1 vs { s with heap:=h' } λp=>PySem.W.KasFin h₀ L m D e1 (p.map λi=>vs.getD i Value.none) (λs3=>Q (.ref D) s3) { s with heap:=h' }):
  wpAny (model prog w) A (call (.builtin "sorted") [.ref l]) Q E s:=by
 refine Calls.call_function_entry kind_sorted plain_sorted entry_sorted (args_sorted1 _) ?_
 unfold Builtin.«sorted»
 refine wpAny_bind (m:=checkCount "sorted" 1 1 _) (wpAny_pure ?_)
 refine wpAny_bind (hl _ _ _ ?_)
 refine wpAny_bind (wpAny_newList ?_ hz)
 have hsz:((s.heap.push (seqObj "list" #[] 0)).update s.heap.objs.size (Obj.mapSeq (· ++vs.toArray))).objs.size=s.heap.objs.size+1:=by
  rw[Heap.size_update,size_push']
 have hoL:(((s.heap.push (seqObj "list" #[] 0)).update s.heap.objs.size (Obj.mapSeq (· ++vs.toArray))).push (seqObj "list" vs.toArray 0)).get? (s.heap.objs.size+1)=some (seqObj "list" vs.toArray 0):=by
  rw[<-hsz];exact Heap.get?_push_size _ rfl
 have keep:∀b o,s.heap.get? b=some o->(((s.heap.push (seqObj "list" #[] 0)).update s.heap.objs.size (Obj.mapSeq (· ++vs.toArray))).push (seqObj "list" vs.toArray 0)).get? b=some o:=λb o q=>by
  have hlt:b<s.heap.objs.size:=Heap.lt_size q
  rw[Heap.get?_push_ne _ _ _ (by rw[hsz];exact Nat.ne_of_lt (Nat.lt_succ_of_lt hlt)),Heap.get?_update_ne _ _ _ _ (Nat.ne_of_lt hlt),Heap.get?_push_ne _ _ _ (Nat.ne_of_lt hlt)]
  exact q
 have hL:L<s.heap.objs.size:=F.ns.lt
 show wpAny _ _ _ _ _ { s with heap:=((s.heap.push (seqObj "list" #[] 0)).update s.heap.objs.size (Obj.mapSeq (· ++vs.toArray))).push (seqObj "list" vs.toArray 0) }
 rw[hsz]
 refine wpAny_bind (wpAny_holding (wpAny_call_entry slot_list_sort ⟨_,hoL,rfl⟩ entry_list_sort ?body (args_list_sort _)))
 case body=>
  refine aa1 (s:={ s with heap:=((s.heap.push (seqObj "list" #[] 0)).update s.heap.objs.size (Obj.mapSeq (· ++vs.toArray))).push (seqObj "list" vs.toArray 0) })
   (F.kept keep) (N.grown keep) hoL (Nat.ne_of_gt (Nat.lt_succ_of_lt hL)) (Heap.get?_none_of_le (Nat.le_trans F.above (Nat.le_succ_of_le (Nat.le_of_lt hL))))
   (λp hp=>Nat.ne_of_lt (Nat.lt_succ_of_lt (Heap.lt_size (N p hp).1))) h2 hz nd λe1 h' F' N'=>?_
  obtain⟨κ,lt,S,hκ,hlt,hfin⟩:=(h _ e1 h' F' N' λq hq=>Nat.lt_succ_of_lt (Heap.lt_size (N q hq).1)).need
  exact⟨κ,lt,S,hκ,hlt,λp pp up=>(hfin p pp up).mono λs3 hq=>⟨_,rfl,wpAny_pure ⟨_,rfl,hq⟩⟩⟩
end
end TS
namespace L2
open PySem PySem.Spec PyProof.Rows
section
variable{X:Cx}
noncomputable def oN(K:PySem.W.Frag):List V->Hp->VK->Prop:=λxs H Q=>∃(p:Addr)(vs:List V)(nss:List (List Int)),xs=[.ref p]/\(SqL K H p vs\/SqT K H p vs)/\IsAll H vs (nss.map (cT []))/\(∀ns∈nss,ns≠[])/\nss.Nodup/\
 ∀(l:Addr)(vs':List V)(nss':List (List Int)),H l=none->IsAll H vs' (nss'.map (cT []))->nss'.Perm nss->nss'.Pairwise (λa b=>HT.lexLt a b=true)->Q (.ref l) (upd H l (.lst vs'))
theorem Z9:CallR X (.builtin "sorted") (oN X.K):=by
 intro pins s σ H xs us Q I r h
 obtain⟨p,vs,nss,rfl,hq,ha,hk,hnd,q⟩:=h
 obtain⟨ps,hps0⟩:∃ps:List Str,ps=[]:=⟨_,rfl⟩
 rw[<-hps0]at ha q
 obtain⟨u,rfl,rx⟩:=Vals.one r
 cases(show u=Value.ref p from rx)
 obtain⟨its,rv,hl,hz⟩:∃its,Vals vs its/\Col X.prog X.w s p its/\vs.length<=sizeLine:=by
  rcases hq with hq|hq
  ·obtain⟨its,rv,pl,hz⟩:=I.list hq
   exact⟨its,rv,Col.list pl.isList (by rw[<-rv.length];exact hz),hz⟩
  ·obtain⟨its,rv,pl,hz⟩:=I.tuple hq
   exact⟨its,rv,Col.tup pl (by rw[<-rv.length];exact hz),hz⟩
 have e1:vs.length=nss.length:=by rw[ha.length,length_map]
 have e2:its.length=nss.length:=by rw[<-rv.length,e1]
 by_cases h2:its.length<2
 ·refine sP hl h2 λD h' n hD hkeep ho=>?_
  refine⟨.ref D,_,I.laid (t':=s.toks) (o:=.lst vs) hkeep hD ⟨hz,its,n,rv,ho⟩,rfl,q D vs nss (I.hok.fresh hD) ha (List.Perm.refl _) ?_⟩
  match nss,e2,h2 with
  |[],_,_=>exact .nil
  |[a],_,_=>exact pairwise_singleton _ _
  |a::b::r,e2,h2=>simp at e2;lia
 ·obtain⟨m,F⟩:=I.fr
  have ndi:its.Nodup:=by
   rw[List.Nodup,pairwise_iff_getElem]
   intro i j hi hj hij e
   have hi':i<nss.length:=by lia
   have hj':j<nss.length:=by lia
   obtain⟨v,ev,iv⟩:=ha.get (i:=i) (d:=cT ps nss[i]) (by rw[List.getElem?_map,List.getElem?_eq_getElem hi'];rfl)
   obtain⟨v',ev',iv'⟩:=ha.get (i:=j) (d:=cT ps nss[j]) (by rw[List.getElem?_map,List.getElem?_eq_getElem hj'];rfl)
   obtain⟨u,eu,ru⟩:=rv.get ev
   obtain⟨u',eu',ru'⟩:=rv.get ev'
   rw[List.getElem?_eq_getElem hi]at eu
   rw[List.getElem?_eq_getElem hj]at eu'
   have ee:u=u':=by rw[<-Option.some.inj eu,<-Option.some.inj eu',e]
   unfold cT at iv iv'
   cases iv with
   | @tup a xs _ ea hxs=>
    cases iv' with
    | @tup a' xs' _ ea' hxs'=>
     have r1:u=Value.ref a:=ru
     have r2:u'=Value.ref a':=ru'
     rw[r1,r2]at ee
     cases ee
     rw[ea]at ea'
     cases ea'
     have h1:=hxs.preInts
     have h2:=hxs'.preInts
     rw[h1]at h2
     have h3:=List.append_cancel_left h2
     have h4:nss[i]=nss[j]:=by
      have:=congrArg (List.map λv:V=>match v with| .int n=>n|_=>0) h3
      simpa[map_map,Function.comp_def]using this
     have:=(getElem_inj hnd).mp h4
     lia
  refine TS.EZ F (news:=kL X.base s.heap X.env.locals) xB hl (by lia) (by rw[<-rv.length];exact hz) ndi λD e0 h' F' N' hD=>?_
  have hkeep:∀b o,b≠X.env.locals->s.heap.get? b=some o->h'.get? b=some o:=λb o hb e=>by
   cases qb:X.base.get? b with
   |some u=>
    have:=I.bk b u qb
    rw[e]at this;cases this
    exact F'.keep b _ qb
   |none=>exact(N' (b,o) (mem_cons_of_mem _ (iZ hb qb e))).1
  have item:∀(i:Nat)(ns:List Int),nss[i]? =some ns->∃(a:Addr)(o:Obj)(zs:List Value)(n:Nat),its.getD i Value.none=.ref a/\h'.get? a=some o/\o.cls=.type "tuple"/\o.data=.seq zs.toArray n/\Vals (ps.map V.str++ns.map V.int) zs:=λi ns e=>by
   obtain⟨v,ev,iv⟩:=ha.get (i:=i) (d:=cT ps ns) (by rw[List.getElem?_map,e];rfl)
   obtain⟨u,eu,ru⟩:=rv.get ev
   unfold cT at iv
   cases iv with
   |@tup a xs _ ea hxs=>
    obtain rfl:=hxs.preInts
    obtain⟨zs,rz,⟨o,h1,h2,n,h3⟩,_⟩:=I.tuple (SqT.of ea)
    have hL:a≠X.env.locals:=λz=>by rw[z,I.free]at ea;cases ea
    refine⟨a,o,zs,n,?_,hkeep a o hL h1,h2,h3,rz⟩
    rw[List.getD_eq_getElem?_getD,eu]
    exact ru
  obtain⟨T,fs,tups,hfl,hT,hTT⟩:∃(T:String)(fs:List Value),PySem.W.KatTups h' its fs/\fs.length=its.length/\(∀v∈fs,typeOf v=pure (Value.type T))/\(Value.type T==Value.type T)=true:=by
   have go:∀T:String,(∀(ns:List Int)(zs:List Value),ns≠[]->Vals (ps.map V.str++ns.map V.int) zs->∃f,zs.toArray[0]? =some f/\typeOf f=pure (Value.type T))->
     ∃(fs:List Value),PySem.W.KatTups h' its fs/\fs.length=its.length/\(∀v∈fs,typeOf v=pure (Value.type T)):=λT hf=>
    pS its λi u eu=>by
     have hi:i<nss.length:=by rw[<-e2];exact(List.getElem?_eq_some_iff.mp eu).1
     obtain⟨a,o,zs,n,g1,g2,g3,g4,g5⟩:=item i nss[i] (List.getElem?_eq_getElem hi)
     rw[List.getD_eq_getElem?_getD,eu]at g1
     obtain⟨f,f1,f2⟩:=hf _ zs (hk _ (getElem_mem hi)) g5
     exact⟨a,o,zs.toArray,n,f,g1,g2,g3,g4,f1,f2⟩
   cases hps:ps with
   | nil=>
    obtain⟨fs,a,b,c⟩:=go "int" λns zs hn rz=>by
     subst hps
     match ns,zs,rz,hn with
     |[],_,_,hn=>exact absurd rfl hn
     |n::ns,_,.cons r _,_=>
      obtain⟨t,rfl⟩:=r
      exact⟨_,rfl,rfl⟩
    exact⟨"int",fs,a,b,c,rfl⟩
   |cons p1 pr=>rw[hps0]at hps;cases hps
  have S:lL (λi j=>HT.lexLt (nss.getD i []) (nss.getD j [])) its.length:=⟨λi j k _ _ _ a b=>mJ a b,λi j hi hj hne a=>pO (λz=>hne ?_) a,λi j _ _ a=>kB a⟩
  ·refine⟨_,_,S,λQ q=>PySem.W.kat_kind tups (by lia) (λv hv=>PySem.W.Looks.of_pure (hT v hv)) hTT q,λi j hi hj C hC=>?_,λpq pm up=>?_⟩
   rw[e2]at hi hj
   ·show wpAny _ _ (keyLt' _ (its.getD i Value.none) (its.getD j Value.none)) C _ _
    obtain⟨a,o,zs,n,g1,g2,g3,g4,g5⟩:=item i nss[i] (List.getElem?_eq_getElem hi)
    obtain⟨a',o',zs',n',g1',g2',g3',g4',g5'⟩:=item j nss[j] (List.getElem?_eq_getElem hj)
    rw[g1,g1']
    refine PySem.W.kat_lt g2 g4 g2' g4' ?_
    have g5a:Vals (nss[i].map V.int) zs:=by rw[hps0]at g5;exact g5
    have g5b:Vals (nss[j].map V.int) zs':=by rw[hps0]at g5';exact g5'
    have ez:decide (zs.toArray.size<zs'.toArray.size)=decide (nss[i].length<nss[j].length):=by
     have l1:=g5a.length
     have l2:=g5b.length
     rw[length_map]at l1 l2
     rw[size_toArray,size_toArray,l1,l2]
    rw[ez]
    refine IS 0 (by simpa using g5a) (by simpa using g5b) ?_
    have e1':nss.getD i []=nss[i]:=by simp[hi]
    have e2':nss.getD j []=nss[j]:=by simp[hj]
    rw[<-e1',<-e2']
    exact hC
   ·rw[e2]at pm
    refine PySem.W.KasFin.intro F' N' (.head λx hx=>Nat.ne_of_lt (hD x hx)) λh'' c F'' N''=>?_
    have hnD:s.heap.get? D=none:=by
     cases qd:s.heap.get? D with
     |none=>rfl
     |some o=>
      have hh:=N' (D,_) mem_cons_self
      have hm:=hD (D,o) (iZ hh.2.1 hh.2.2 qd)
      exact absurd hm (Nat.lt_irrefl _)
    have hkeep2:∀b o,b≠X.env.locals->s.heap.get? b=some o->h''.get? b=some o:=λb o hb e=>by
     cases qb:X.base.get? b with
     |some u=>
      have:=I.bk b u qb
      rw[e]at this;cases this
      exact F''.keep b _ qb
     |none=>exact(N'' (b,o) (mem_cons_of_mem _ (iZ hb qb e))).1
    have hlt:∀x∈pq,x<nss.length:=λx hx=>mem_range.mp (pm.mem_iff.mp hx)
    have rv2:∀l:List Nat,(∀x∈l,x<nss.length)->Vals (l.map λi=>vs.getD i .non) (l.map λi=>its.getD i Value.none)/\IsAll H (l.map λi=>vs.getD i .non) ((l.map λi=>nss.getD i []).map (cT ps)):=λl=>by
     induction l with
     |nil=>exact λ_=>⟨.nil,.nil⟩
     |cons x l ih=>
      intro hx
      obtain⟨ih1,ih2⟩:=ih λy hy=>hx y (mem_cons_of_mem _ hy)
      have hxn:=hx x mem_cons_self
      obtain⟨v,ev,iv⟩:=ha.get (i:=x) (d:=cT ps nss[x]) (by rw[List.getElem?_map,List.getElem?_eq_getElem hxn];rfl)
      obtain⟨u,eu,ru⟩:=rv.get ev
      have a1:vs.getD x .non=v:=by rw[List.getD_eq_getElem?_getD,ev];rfl
      have a2:its.getD x Value.none=u:=by rw[List.getD_eq_getElem?_getD,eu];rfl
      have a3:nss.getD x []=nss[x]:=by simp[hxn]
      simp only[map_cons,a1,a2,a3]
      exact⟨.cons ru ih1,.cons iv ih2⟩
    obtain⟨rv3,ia3⟩:=rv2 pq hlt
    have ho:=(N'' (D,_) mem_cons_self).1
    have hpl:pq.length=nss.length:=by rw[pm.length_eq,length_range]
    refine⟨.ref D,_,I.laidBut (t':=s.toks) hkeep2 F.ns F''.ns hnD rv3 (by rw[length_map,hpl,<-e1];exact hz) ho,rfl,q D _ _ (I.none_of hnD) ia3 ?_ ?_⟩
    ·have:=pm.map λi=>nss.getD i []
     rw[xI]at this
     exact this
    ·rw[pairwise_map]
     exact up
  ·rw[e2]at hi hj
   have e1':nss.getD i []=nss[i]:=by simp[hi]
   have e2':nss.getD j []=nss[j]:=by simp[hj]
   rw[e1',e2']at z
   exact(getElem_inj hnd).mp z
theorem XU(K:PySem.W.Frag)(h:X.K=K:=by rfl):CallR X (.builtin "sorted") (oN K):=h▸Z9
end
section
variable{H:Hp}{Q:VK}{K:PySem.W.Frag}
theorem QB{p:Addr}{vs:List V}{nss:List (List Int)}(e:H p=some (.lst vs))(ha:IsAll H vs (nss.map (cT [])))(hk:∀ns∈nss,ns≠[])(nd:nss.Nodup)
  (h:∀(l:Addr)(vs':List V)(nss':List (List Int)),H l=none->IsAll H vs' (nss'.map (cT []))->nss'.Perm nss->nss'.Pairwise (λa b=>HT.lexLt a b=true)->Q (.ref l) (upd H l (.lst vs'))):oN K [.ref p] H Q:=⟨p,vs,nss,rfl,.inl (SqL.of e),ha,hk,nd,h⟩
end
noncomputable def lK(H:Hp)(h:Heap):Prop:=∀a xs,H a=some (.tup xs)->∃its,Vals xs its/\IsTup h a its.toArray
section
variable{H:Hp}{h:Heap}
mutual
theorem Is.readsT(T:lK H h):∀{v:V}{d:PyData}{u:Value},Is H v d->cC d=true->RelV v u->∃as,Reads h u d as
 |_,_,_,.non,_,r=>by cases(show _=Value.none from r);exact⟨_,.none⟩
 |_,_,_,.bl b,_,r=>by cases(show _=Value.bool b from r);exact⟨_,.bool b⟩
 |_,_,_,.int i,_,r=>by obtain⟨t,rfl⟩:=r;exact⟨_,.int i t⟩
 |_,_,_,.str x,_,r=>by obtain⟨t,rfl⟩:=r;exact⟨_,.str x t⟩
 |_,_,_,.tup (a:=a) e hs,hn,r=>by
  cases(show _=Value.ref a from r)
  obtain⟨its,rv,⟨o,h1,h2,n,h3⟩⟩:=T _ _ e
  obtain⟨as,ra⟩:=IsAll.readsT T hs (by simpa[cC]using hn) rv
  exact⟨_,.tuple h1 h2 h3 (by simpa using ra)⟩
 |_,_,_,.lst e hs,hn,r=>by cases hn
theorem IsAll.readsT(T:lK H h):∀{vs:List V}{ds:List PyData}{us:List Value},IsAll H vs ds->bT ds=true->Vals vs us->∃as,ReadsAll h us ds as
 |_,_,_,.nil,_,.nil=>⟨_,.nil⟩
 |_,_,_,.cons h1 t1,hn,.cons r1 q1=>by
  rw[bT,Bool.and_eq_true]at hn
  obtain⟨as,ra⟩:=Is.readsT T h1 hn.1 r1
  obtain⟨bs,rb⟩:=IsAll.readsT T t1 hn.2 q1
  exact⟨_,.cons ra rb⟩
end
mutual
theorem Is.fn:∀{v:V}{d e:PyData},cC d=true->cC e=true->Is H v d->Is H v e->d=e
 |_,_,_,_,_,.non,.non=>rfl
 |_,_,_,_,_,.bl _,.bl _=>rfl
 |_,_,_,_,_,.int _,.int _=>rfl
 |_,_,_,_,_,.str _,.str _=>rfl
 |_,_,_,n1,n2,.tup e1 h1,.tup e2 h2=>by
  rw[e1]at e2
  cases e2
  rw[IsAll.fn (by simpa[cC]using n1) (by simpa[cC]using n2) h1 h2]
 |_,_,_,n1,n2,.tup e1 h1,.lst e2 h2=>by cases n2
 |_,_,_,n1,n2,.lst e1 h1,_=>by cases n1
theorem IsAll.fn:∀{vs:List V}{ds es:List PyData},bT ds=true->bT es=true->IsAll H vs ds->IsAll H vs es->ds=es
 |_,_,_,_,_,.nil,.nil=>rfl
 |_,_,_,n1,n2,.cons h1 t1,.cons h2 t2=>by
  rw[bT,Bool.and_eq_true]at n1 n2
  rw[Is.fn n1.1 n2.1 h1 h2,IsAll.fn n1.2 n2.2 t1 t2]
end
end
section
variable{H:Hp}{s:Shared}
theorem WU(T:lK H s.heap){A:Around}{k:Nat}(hA:A.units+k+3<cLine)(one:∀(d e:PyData)(x y:V)(u v:Value),Is H x d->Is H y e->RelV x u->RelV y v->gP d e=true->d.canLay0=true->e.canLay0=true->cC d=true->cC e=true->d.depth<=k->lN A.in1 s u v (fC d e)):
  ∀(ds es:List PyData)(xs ys:List V)(us vs:List Value),IsAll H xs ds->IsAll H ys es->Vals xs us->Vals ys vs->gD ds es=true->PyData.canLayAll0 ds=true->PyData.canLayAll0 es=true->bT ds=true->bT es=true->PyData.depthAll ds<=k->iJ A.in1 s us vs (i5 ds es):=by
 intro ds
 induction ds with
 |nil=>
  intro es xs ys us vs h1 h2 r1 r2 hc o1 o2 _ _ hz
  cases h1
  cases r1
  cases es with
  |nil=>cases h2;cases r2;exact .nn
  |cons e es=>cases h2 with|cons _ _=>cases r2 with|cons _ _=>exact .nc
 | cons d ds ih=>
  intro es xs ys us vs h1 h2 r1 r2 hc o1 o2 n1 n2 hz
  cases h1 with
  |cons i1 t1=>
  cases r1 with
  |cons q1 s1=>
  cases es with
  |nil=>cases h2;cases r2;exact .cn
  | cons e es=>
   cases h2 with
   |cons i2 t2=>
   cases r2 with
   |cons q2 s2=>
   rw[PyData.canLayAll0,Bool.and_eq_true]at o1 o2
   rw[bT,Bool.and_eq_true]at n1 n2
   rw[PyData.depthAll]at hz
   have hd1:d.depth<=k:=Nat.le_trans (Nat.le_max_left _ _) hz
   have hd2:PyData.depthAll ds<=k:=Nat.le_trans (Nat.le_max_right _ _) hz
   obtain⟨as,ra⟩:=i1.readsT T n1.1 q1
   obtain⟨bs,rb⟩:=i2.readsT T n2.1 q2
   have he:=SeqAt.eqAt_reads d e A.in1 s _ _ as bs ra rb o1.1 o2.1 (by show A.units+1+_<_;lia)
   rw[gD]at hc
   rw[i5]
   by_cases g:PyData.eqv d e=true
   ·rw[if_pos g]at hc ⊢
    rw[g]at he
    exact .eq he (ih es _ _ _ _ t1 t2 s1 s2 hc o1.2 o2.2 n1.2 n2.2 hd2)
   ·rw[if_neg g]at hc ⊢
    rw[Bool.not_eq_true]at g
    rw[g]at he
    exact .ne he (one d e _ _ _ _ i1 i2 q1 q2 hc o1.1 o2.1 n1.1 n2.1 hd1)
theorem WV(T:lK H s.heap):∀(k:Nat)(d e:PyData)(x y:V)(u v:Value)(A:Around),Is H x d->Is H y e->RelV x u->RelV y v->gP d e=true->d.canLay0=true->e.canLay0=true->cC d=true->cC e=true->d.depth<=k->A.units+k+2<cLine->lN A s u v (fC d e):=by
 intro k
 induction k with
 | zero=>
  intro d e x y u v A hx hy ru rv hc od oe _ _ hk hA
  rcases KF hc with⟨i,j,rfl,rfl⟩|⟨ds,es,rfl,rfl,_⟩
  ·exact IL hx hy ru rv
  ·rw[y4]at hk
   exact absurd hk (Nat.not_succ_le_zero _)
 | succ k ih=>
  intro d e x y u v A hx hy ru rv hc od oe nd ne hk hA
  rcases KF hc with⟨i,j,rfl,rfl⟩|⟨ds,es,rfl,rfl,hcs⟩
  ·exact IL hx hy ru rv
  ·rw[y4]at hk
   cases hx with
   |tup ea ha=>
   cases hy with
   |tup eb hb=>
   obtain rfl:=(show u=Value.ref _ from ru)
   obtain rfl:=(show v=Value.ref _ from rv)
   obtain⟨its,r1,p1⟩:=T _ _ ea
   obtain⟨its2,r2,p2⟩:=T _ _ eb
   rw[fC]
   rw[PyData.canLay0]at od oe
   rw[cC]at nd ne
   refine WS p1 p2 (by lia) (WU (k:=k) T (by lia) (λd e x y u v h1 h2 h3 h4 h5 h6 h7 h9 h10 h8=>ih d e x y u v A.in1 h1 h2 h3 h4 h5 h6 h7 h9 h10 h8 (by show A.units+1+k+2<_;lia)) ds es _ _ _ _ ha hb r1 r2 hcs od oe nd ne (Nat.le_of_succ_le_succ hk))
theorem XS{prog:Program}{w:World}{A:Around}(T:lK H s.heap)(hA:A.units+50<cLine){b:Bool}{Q:Bool->Shared->Prop}:
  ∀(ds es:List PyData)(xs ys:List V)(us vs:List Value)(i:Nat),IsAll H xs ds->IsAll H ys es->Vals xs us->Vals ys vs->gD ds es=true->PyData.canLayAll0 ds=true->PyData.canLayAll0 es=true->bT ds=true->bT es=true->PyData.depthAll ds<=40->
   (i=0->∀d e dr er,ds=d::dr->es=e::er->(∃m n,d=.int m/\e=.int n)\/PyData.eqv d e=true)->Q (i5 ds es) s->PySem.W.KatLex prog w A b (decide (ds.length<es.length)) Q (us.zip vs) i s:=by
 intro ds
 induction ds with
 |nil=>
  intro es xs ys us vs i h1 h2 r1 r2 hc o1 o2 _ _ hz hh q
  cases h1
  cases r1
  cases es with
  |nil=>cases h2;cases r2;exact q
  |cons e es=>cases h2 with|cons _ _=>cases r2 with|cons _ _=>exact q
 | cons d ds ih=>
  intro es xs ys us vs i h1 h2 r1 r2 hc o1 o2 n1 n2 hz hh q
  cases h1 with
  |cons i1 t1=>
  cases r1 with
  |cons q1 s1=>
  cases es with
  |nil=>cases h2;cases r2;exact q
  | cons e es=>
   cases h2 with
   |cons i2 t2=>
   cases r2 with
   |cons q2 s2=>
   rw[PyData.canLayAll0,Bool.and_eq_true]at o1 o2
   rw[bT,Bool.and_eq_true]at n1 n2
   rw[PyData.depthAll]at hz
   have hd1:d.depth<=40:=Nat.le_trans (Nat.le_max_left _ _) hz
   have hd2:PyData.depthAll ds<=40:=Nat.le_trans (Nat.le_max_right _ _) hz
   obtain⟨as,ra⟩:=i1.readsT T n1.1 q1
   obtain⟨bs,rb⟩:=i2.readsT T n2.1 q2
   have he:=SeqAt.eqAt_reads d e A s _ _ as bs ra rb o1.1 o2.1 (by lia)
   rw[gD]at hc
   rw[i5]at q
   rw[zip_cons_cons]
   refine PySem.W.kat_cons (he prog w _ _ ?_)
   by_cases g:PyData.eqv d e=true
   ·rw[if_pos g]at hc q
    rw[g]
    have:=ih es _ _ _ _ (i+1) t1 t2 s1 s2 hc o1.2 o2.2 n1.2 n2.2 hd2 (λz=>by lia) q
    rw[show decide ((d::ds).length<(e::es).length)=decide (ds.length<es.length) by simp]
    exact PySem.W.kat_yes this
   ·rw[if_neg g]at hc q
    rw[Bool.not_eq_true]at g
    rw[g]
    refine PySem.W.kat_no ?_
    have lt:=WV T 40 d e _ _ _ _ A i1 i2 q1 q2 hc o1.1 o2.1 n1.1 n2.1 hd1 (by lia)
    cases hb:(b&&i==0) with
    | true=>
     have i0:i=0:=by
      rw[Bool.and_eq_true]at hb
      simpa using hb.2
     rcases hh i0 d e ds es rfl rfl with⟨m,n,rfl,rfl⟩|z
     ·cases i1
      cases i2
      obtain⟨t,rfl⟩:=q1
      obtain⟨t2,rfl⟩:=q2
      rw[fC]at q
      exact oneLt_int q
     ·rw[g]at z;cases z
    |false=>exact PySem.W.kat_one _ _ (lt prog w _ _ (show PySem.W.BoolBack Q (.bool (fC d e)) s from q))
end
noncomputable def LH(ds:List PyData):Prop:=(∀d∈ds,∃n r,d=.tuple (.int n::r))\/∃x,∀d∈ds,∃r,d=.tuple (.str x::r)
noncomputable def oM(K:PySem.W.Frag):List V->Hp->VK->Prop:=λxs H Q=>∃(p:Addr)(vs:List V)(ds:List PyData)(key:PyData->List Int),xs=[.ref p]/\(SqL K H p vs\/SqT K H p vs)/\IsAll H vs ds/\LH ds/\(∀d∈ds,bY d/\cC d=true)/\
 (∀d∈ds,∀e∈ds,gP d e=true/\fC d e=HT.lexLt (key d) (key e))/\(ds.map key).Nodup/\
 ∀(l:Addr)(vs':List V)(ds':List PyData),H l=none->IsAll H vs' ds'->ds'.Perm ds->ds'.Pairwise (λa b=>HT.lexLt (key a) (key b)=true)->Q (.ref l) (upd H l (.lst vs'))
section
variable{X:Cx}
theorem Z8(hu:X.A.units+64<cLine):CallR X (.builtin "sorted") (oM X.K):=by
 intro pins s σ H xs us Q I r h
 obtain⟨p,vs,ds,key,rfl,hq,ha,hH,hk,hc,hnd,q⟩:=h
 obtain⟨u,rfl,rx⟩:=Vals.one r
 cases(show u=Value.ref p from rx)
 obtain⟨its,rv,hl,hz⟩:∃its,Vals vs its/\Col X.prog X.w s p its/\vs.length<=sizeLine:=by
  rcases hq with hq|hq
  ·obtain⟨its,rv,pl,hz⟩:=I.list hq
   exact⟨its,rv,Col.list pl.isList (by rw[<-rv.length];exact hz),hz⟩
  ·obtain⟨its,rv,pl,hz⟩:=I.tuple hq
   exact⟨its,rv,Col.tup pl (by rw[<-rv.length];exact hz),hz⟩
 have e1:vs.length=ds.length:=ha.length
 have e2:its.length=ds.length:=by rw[<-rv.length,e1]
 by_cases h2:its.length<2
 ·refine sP hl h2 λD h' n hD hkeep ho=>?_
  refine⟨.ref D,_,I.laid (t':=s.toks) (o:=.lst vs) hkeep hD ⟨hz,its,n,rv,ho⟩,rfl,q D vs ds (I.hok.fresh hD) ha (List.Perm.refl _) ?_⟩
  match ds,e2,h2 with
  |[],_,_=>exact .nil
  |[a],_,_=>exact pairwise_singleton _ _
  |a::b::r,e2,h2=>simp at e2;lia
 ·obtain⟨m,F⟩:=I.fr
  have atD:∀(i:Nat)(hi:i<ds.length),∃v u,vs[i]? =some v/\its[i]? =some u/\Is H v ds[i]/\RelV v u:=λi hi=>by
   obtain⟨v,ev,iv⟩:=ha.get (i:=i) (d:=ds[i]) (List.getElem?_eq_getElem hi)
   obtain⟨u,eu,ru⟩:=rv.get ev
   exact⟨v,u,ev,eu,iv,ru⟩
  have ndi:its.Nodup:=by
   rw[List.Nodup,pairwise_iff_getElem]
   intro i j hi hj hij e
   have hi':i<ds.length:=by lia
   have hj':j<ds.length:=by lia
   obtain⟨v,u,ev,eu,iv,ru⟩:=atD i hi'
   obtain⟨v',u',ev',eu',iv',ru'⟩:=atD j hj'
   rw[List.getElem?_eq_getElem hi]at eu
   rw[List.getElem?_eq_getElem hj]at eu'
   have ee:u=u':=by rw[<-Option.some.inj eu,<-Option.some.inj eu',e]
   have tup:∀(d:PyData)(v:V)(u:Value),d∈ds->Is H v d->RelV v u->∃a,v=.ref a/\u=.ref a:=λd v u hd iv ru=>by
    have:∃r,d=.tuple r:=by
     rcases hH with z|⟨x,z⟩
     ·obtain⟨n,r,e⟩:=z d hd
      exact⟨_,e⟩
     ·obtain⟨r,e⟩:=z d hd
      exact⟨_,e⟩
    obtain⟨r,rfl⟩:=this
    cases iv with
    |tup _ _=>exact⟨_,rfl,ru⟩
   obtain⟨a,rfl,rfl⟩:=tup _ _ _ (getElem_mem hi') iv ru
   obtain⟨a',rfl,rfl⟩:=tup _ _ _ (getElem_mem hj') iv' ru'
   cases ee
   have ed:=Is.fn (hk _ (getElem_mem hi')).2 (hk _ (getElem_mem hj')).2 iv iv'
   have:=pairwise_iff_getElem.mp hnd i j (by simpa using hi') (by simpa using hj') hij
   simp only[getElem_map]at this
   exact this (by rw[ed])
  refine TS.EZ F (news:=kL X.base s.heap X.env.locals) xB hl (by lia) (by rw[<-rv.length];exact hz) ndi λD e0 h' F' N' hD=>?_
  have hkeep:∀b o,b≠X.env.locals->s.heap.get? b=some o->h'.get? b=some o:=λb o hb e=>by
   cases qb:X.base.get? b with
   |some u=>
    have:=I.bk b u qb
    rw[e]at this;cases this
    exact F'.keep b _ qb
   |none=>exact(N' (b,o) (mem_cons_of_mem _ (iZ hb qb e))).1
  have TT:lK H ({ s with heap:=h' }:Shared).heap:=λa xs ea=>by
   obtain⟨zs,rz,⟨o,h1,h2,n,h3⟩,_⟩:=I.tuple (SqT.of (K:=X.K) ea)
   have hL:a≠X.env.locals:=λz=>by rw[z,I.free]at ea;cases ea
   exact⟨zs,rz,o,hkeep a o hL h1,h2,n,h3⟩
  have item:∀(i:Nat)(hi:i<ds.length),∃(a:Addr)(xs:List V)(es:List PyData)(o:Obj)(zs:List Value)(n:Nat),its.getD i Value.none=.ref a/\ds[i]=.tuple es/\IsAll H xs es/\h'.get? a=some o/\o.cls=.type "tuple"/\o.data=.seq zs.toArray n/\Vals xs zs:=λi hi=>by
   obtain⟨v,u,ev,eu,iv,ru⟩:=atD i hi
   have:∃r,ds[i]=.tuple r:=by
    rcases hH with z|⟨x,z⟩
    ·obtain⟨n,r,e⟩:=z _ (getElem_mem hi)
     exact⟨_,e⟩
    ·obtain⟨r,e⟩:=z _ (getElem_mem hi)
     exact⟨_,e⟩
   obtain⟨es,ee⟩:=this
   rw[ee]at iv
   cases iv with
   |@tup a xs _ ea hxs=>
    obtain⟨zs,rz,o,g1,g2,n,g3⟩:=TT a xs ea
    refine⟨a,xs,es,o,zs,n,?_,ee,hxs,g1,g2,g3,rz⟩
    rw[List.getD_eq_getElem?_getD,eu]
    exact ru
  obtain⟨T,fs,tups,hfl,hT,hTT⟩:∃(T:String)(fs:List Value),PySem.W.KatTups h' its fs/\fs.length=its.length/\(∀v∈fs,typeOf v=pure (Value.type T))/\(Value.type T==Value.type T)=true:=by
   have go:∀T:String,(∀(es:List PyData)(xs:List V)(zs:List Value),.tuple es∈ds->IsAll H xs es->Vals xs zs->∃f,zs.toArray[0]? =some f/\typeOf f=pure (Value.type T))->
     ∃(fs:List Value),PySem.W.KatTups h' its fs/\fs.length=its.length/\(∀v∈fs,typeOf v=pure (Value.type T)):=λT hf=>
    pS its λi u eu=>by
     have hi:i<ds.length:=by rw[<-e2];exact(List.getElem?_eq_some_iff.mp eu).1
     obtain⟨a,xs,es,o,zs,n,g1,ge,gx,g2,g3,g4,g5⟩:=item i hi
     rw[List.getD_eq_getElem?_getD,eu]at g1
     obtain⟨f,f1,f2⟩:=hf es xs zs (by rw[<-ge];exact getElem_mem hi) gx g5
     exact⟨a,o,zs.toArray,n,f,g1,g2,g3,g4,f1,f2⟩
   rcases hH with z|⟨x,z⟩
   ·obtain⟨fs,a,b,c⟩:=go "int" λes xs zs hm ix rz=>by
     obtain⟨n,r,e⟩:=z _ hm
     cases e
     cases ix with
     | cons i1 t1=>
      cases i1
      cases rz with
      |cons r1 _=>
       obtain⟨t,rfl⟩:=r1
       exact⟨_,rfl,rfl⟩
    exact⟨"int",fs,a,b,c,rfl⟩
   ·obtain⟨fs,a,b,c⟩:=go "str" λes xs zs hm ix rz=>by
     obtain⟨r,e⟩:=z _ hm
     cases e
     cases ix with
     | cons i1 t1=>
      cases i1
      cases rz with
      |cons r1 _=>
       obtain⟨t,rfl⟩:=r1
       exact⟨_,rfl,rfl⟩
    exact⟨"str",fs,a,b,c,rfl⟩
  have S:lL (λi j=>HT.lexLt (key (ds.getD i .none)) (key (ds.getD j .none))) its.length:=⟨λi j k _ _ _ a b=>mJ a b,λi j hi hj hne a=>pO (λz=>hne ?_) a,λi j _ _ a=>kB a⟩
  ·refine⟨_,_,S,λQ q=>PySem.W.kat_kind tups (by lia) (λv hv=>PySem.W.Looks.of_pure (hT v hv)) hTT q,λi j hi hj C hC=>?_,λpq pm up=>?_⟩
   rw[e2]at hi hj
   ·show wpAny _ _ (keyLt' _ (its.getD i Value.none) (its.getD j Value.none)) C _ _
    obtain⟨a,xs,es,o,zs,n,g1,ge,gx,g2,g3,g4,g5⟩:=item i hi
    obtain⟨a',xs',es',o',zs',n',g1',ge',gx',g2',g3',g4',g5'⟩:=item j hj
    rw[g1,g1']
    refine PySem.W.kat_lt g2 g4 g2' g4' ?_
    have ez:decide (zs.toArray.size<zs'.toArray.size)=decide (es.length<es'.length):=by
     have l1:=g5.length
     have l2:=g5'.length
     rw[gx.length]at l1
     rw[gx'.length]at l2
     rw[size_toArray,size_toArray,l1,l2]
    rw[ez]
    have mi:=getElem_mem hi
    have mj:=getElem_mem hj
    have cij:=hc _ mi _ mj
    have ki:=hk _ mi
    have kj:=hk _ mj
    rw[ge]at ki
    rw[ge']at kj
    have e1':ds.getD i .none=ds[i]:=by simp[hi]
    have e2':ds.getD j .none=ds[j]:=by simp[hj]
    have hC':C (HT.lexLt (key ds[i]) (key ds[j])) { s with heap:=h' }:=by rw[<-e1',<-e2'];exact hC
    rw[<-cij.2,ge,ge',fC]at hC'
    rw[ge,ge',gP]at cij
    have o1:=ki.1.1
    have o2:=kj.1.1
    have d1:=ki.1.2
    rw[PyData.canLay0]at o1 o2
    rw[y4]at d1
    have n1:=ki.2
    have n2:=kj.2
    rw[cC]at n1 n2
    refine XS (s:={ s with heap:=h' }) TT (show X.A.units+1+1+50<cLine by lia) es es' xs xs' zs zs' 0 gx gx' g5 g5' cij.1 o1 o2 n1 n2 (by lia) (λ_ d e dr er ed ee=>?_) hC'
    rcases hH with z|⟨x,z⟩
    ·obtain⟨m,r,f1⟩:=z _ mi
     obtain⟨m',r',f2⟩:=z _ mj
     rw[ge,ed]at f1
     rw[ge',ee]at f2
     cases f1
     cases f2
     exact .inl ⟨_,_,rfl,rfl⟩
    ·obtain⟨r,f1⟩:=z _ mi
     obtain⟨r',f2⟩:=z _ mj
     rw[ge,ed]at f1
     rw[ge',ee]at f2
     cases f1
     cases f2
     exact .inr (by simp[PyData.eqv])
   ·rw[e2]at pm
    refine PySem.W.KasFin.intro F' N' (.head λx hx=>Nat.ne_of_lt (hD x hx)) λh'' c F'' N''=>?_
    have hnD:s.heap.get? D=none:=by
     cases qd:s.heap.get? D with
     |none=>rfl
     |some o=>
      have hh:=N' (D,_) mem_cons_self
      have hm:=hD (D,o) (iZ hh.2.1 hh.2.2 qd)
      exact absurd hm (Nat.lt_irrefl _)
    have hkeep2:∀b o,b≠X.env.locals->s.heap.get? b=some o->h''.get? b=some o:=λb o hb e=>by
     cases qb:X.base.get? b with
     |some u=>
      have:=I.bk b u qb
      rw[e]at this;cases this
      exact F''.keep b _ qb
     |none=>exact(N'' (b,o) (mem_cons_of_mem _ (iZ hb qb e))).1
    have hlt:∀x∈pq,x<ds.length:=λx hx=>mem_range.mp (pm.mem_iff.mp hx)
    have rv2:∀l:List Nat,(∀x∈l,x<ds.length)->Vals (l.map λi=>vs.getD i .non) (l.map λi=>its.getD i Value.none)/\IsAll H (l.map λi=>vs.getD i .non) (l.map λi=>ds.getD i .none):=λl=>by
     induction l with
     |nil=>exact λ_=>⟨.nil,.nil⟩
     |cons x l ih=>
      intro hx
      obtain⟨ih1,ih2⟩:=ih λy hy=>hx y (mem_cons_of_mem _ hy)
      have hxn:=hx x mem_cons_self
      obtain⟨v,u,ev,eu,iv,ru⟩:=atD x hxn
      have a1:vs.getD x .non=v:=by rw[List.getD_eq_getElem?_getD,ev];rfl
      have a2:its.getD x Value.none=u:=by rw[List.getD_eq_getElem?_getD,eu];rfl
      have a3:ds.getD x .none=ds[x]:=by simp[hxn]
      simp only[map_cons,a1,a2,a3]
      exact⟨.cons ru ih1,.cons iv ih2⟩
    obtain⟨rv3,ia3⟩:=rv2 pq hlt
    have ho:=(N'' (D,_) mem_cons_self).1
    have hpl:pq.length=ds.length:=by rw[pm.length_eq,length_range]
    refine⟨.ref D,_,I.laidBut (t':=s.toks) hkeep2 F.ns F''.ns hnD rv3 (by rw[length_map,hpl,<-e1];exact hz) ho,rfl,q D _ _ (I.none_of hnD) ia3 ?_ ?_⟩
    ·have:=pm.map λi=>ds.getD i .none
     rw[xI]at this
     exact this
    ·rw[pairwise_map]
     exact up
  ·rw[e2]at hi hj
   have e1':ds.getD i .none=ds[i]:=by simp[hi]
   have e2':ds.getD j .none=ds[j]:=by simp[hj]
   rw[e1',e2']at z
   have:=(getElem_inj (i:=i) (j:=j) (h₀:=by simpa using hi) (h₁:=by simpa using hj) hnd).mp (by simpa using z)
   exact this
theorem IW(K:PySem.W.Frag)(hu:X.A.units+64<cLine)(h:X.K=K:=by rfl):CallR X (.builtin "sorted") (oM K):=h▸Z8 hu
end
section
variable{H:Hp}{Q:VK}{K:PySem.W.Frag}
theorem QA{p:Addr}{vs:List V}{ds:List PyData}(key:PyData->List Int)(e:H p=some (.lst vs))(ha:IsAll H vs ds)(hH:LH ds)(hk:∀d∈ds,bY d/\cC d=true)(hc:∀d∈ds,∀e∈ds,gP d e=true/\fC d e=HT.lexLt (key d) (key e))(nd:(ds.map key).Nodup)
  (h:∀(l:Addr)(vs':List V)(ds':List PyData),H l=none->IsAll H vs' ds'->ds'.Perm ds->ds'.Pairwise (λa b=>HT.lexLt (key a) (key b)=true)->Q (.ref l) (upd H l (.lst vs'))):oM K [.ref p] H Q:=⟨p,vs,ds,key,rfl,.inl (SqL.of e),ha,hH,hk,hc,nd,h⟩
end
section
variable{X:Cx}{pins p1 p2:List (Addr×Obj)}{σ:St}{H:Hp}{s:Shared}
end
structure acA (l:Addr) (xs:List V) (lt:R2) (te:V->Hp->VK->Prop) (W:Nat->Nat->V->Hp->Prop) (Q:VK):Prop where
 lst:∀j b k H,W j b k H->H l=some (.lst xs)
 turn:∀j b k H x,W j b k H->xs[j]? =some x->te x H λk' H'=>lt k' k H' λz H''=>∃c,z=.bl c/\if c=true then W (j+1) j k' H'' else W (j+1) b k H''
 fin:∀b k H x,W xs.length b k H->xs[b]? =some x->Q x H
section
variable{X:Cx}{pins p1 p2:List (Addr×Obj)}{σ:St}{H:Hp}{s:Shared}
end
section
variable{X:Cx}
section
variable{σ:St}{H:Hp}{Q:VK}{K:PySem.W.Frag}
end
end
theorem XG:typeLookup (.type "list") "keys"=pure none:=by rw[typeLookup_type,builtinLookup_eq_fast];kernel_rfl
theorem Y0{prog:Program}{w:World}{A:Around}{E:Value->Shared->Prop}{s:Shared}{a:Addr}{o:Obj}{xs:Array Value}{k:Nat}{Q:Option Value->Shared->Prop}
  (hx:s.heap.get? a=some o) (hc:o.cls=.type "list") (hdat:o.data=.seq xs k) (hd:o.dict=none) (hA:A.handled=none)
  (h:∀h' tk,(∀b u,s.heap.get? b=some u->h'.get? b=some u)->Q none { s with heap:=h',toks:=tk }):
  wpAny (model prog w) A (getAttr? (.ref a) "keys") Q E s:=by
 obtain⟨c,dct,dat,sl⟩:=o
 dsimp only at hc hdat hd
 subst hc hdat hd
 obtain⟨hp,g,d,tk,os⟩:=s
 have hT:∀tk',(⟨hp,g,d,tk',os⟩:Shared).TypeIs (.ref a) "list":=λ_=>⟨_,hx,rfl⟩
 have z1:=sub_AttributeError
 have z3:=F.slot_list_getattribute.lookup
 have z4:=F.slot_list_getattribute.bind (.ref a)
 have z5:=am_list_getattr_none
 unfold getAttr? getAttrBy? getAttrBy
 repeat (any_goals (first|assumption|exact hT _|((with_reducible show wpAny _ _ (call (Value.builtin "list.__getattribute__") _ _) _ _ _);refine call_meets F.slot_list_getattribute (hT _) am_entry_list_getattribute (F.args_list_getattribute_2 _ _) (meets_getattribute_miss_list a xs k sl "keys" _ XG rfl (by size_fits)) ⟨hx,hA,λh' tk' e hx'=>?_⟩)|wp_step))
 obtain⟨t1,u1,he⟩:=hx'.there
 show wpAny _ _ (getattributeRaised _ _ _ _ _ _ _) _ _ _
 unfold getattributeRaised
 repeat (any_goals (first|assumption|wp_step))
 exact h _ _ hx'.keeps
theorem JV:entryFor table "dict.update.loop"=some Builtin.«dict.update.loop»:=entryFor_of_tree (by kernel_rfl)
theorem oX:plainId "dict.update.loop"=true:=by decide +kernel
noncomputable def lG(kvs:List (List aG×V))(p:List aG×V):List (List aG×V):=cZ kvs p.1 p.2
noncomputable def cG(prs:List (List aG×V)):List (List aG×V):=prs.foldl lG []
noncomputable def kN(H:Hp)(xs:List V)(prs:List (List aG×V)):Prop:=prs.length=xs.length/\∀(j:Nat)(x:V),xs[j]? =some x->∃a b p,x=.ref a/\prs[j]? =some p/\H a=some (.tup [.ref b,p.2])/\H b=some (.tup (p.1.map kV))
theorem ZI(kvs:List (List aG×V))(p:List aG×V):(lG kvs p).length<=kvs.length+1:=IT kvs p.1 p.2
theorem KC:∀(prs kvs:List (List aG×V)),(prs.foldl lG kvs).length<=kvs.length+prs.length
 |[],kvs=>Nat.le_refl _
 |p::prs,kvs=>by
  have:=KC prs (lG kvs p)
  have:=ZI kvs p
  rw[foldl_cons,length_cons]
  lia
theorem ZP(prs:List (List aG×V)):(cG prs).length<=prs.length:=by
 have:=KC prs []
 simpa[cG]using this
theorem ZO{prs:List (List aG×V)}{j:Nat}{p:List aG×V}(h:prs[j]? =some p):cG (prs.take (j+1))=cZ (cG (prs.take j)) p.1 p.2:=by
 unfold cG
 rw[take_add_one,h,foldl_append]
 rfl
section
variable{X:Cx}{pins:List (Addr×Obj)}{σ:St}
theorem ZG{D l It:Addr}{H0:Hp}{xs:List V}{prs:List (List aG×V)}{R:Result->Shared->Prop}{A:Around}(hh:A.handled=none)(hu:A.units+1<cLine)(hl:H0 l=some (.lst xs))(hP:kN H0 xs prs)(hD:H0 D=none)(hz:xs.length<sizeLine)
  (oI:Ow X pins It)
  (hR:∀(s:Shared),Inv X pins σ (upd H0 D (.dT (cG prs))) s->R (.ok (.ret .none)) s):
  ∀(r j:Nat)(s:Shared)(ob:Obj)(i:Int)(t:Tok),xs.length-j=r->j<=xs.length->Inv X ((It,ob)::pins) σ (upd H0 D (.dT (cG (prs.take j)))) s->s.heap.IsListIter It l j->
   codeAny (model X.prog X.w) A (.builtin "dict.update.loop" ⟨[.ref D,.ref It,.int i t,.none],[]⟩) R s:=by
 have hlD:l≠D:=aI hl hD
 intro r
 induction r with
 | zero=>
  intro j s ob i t hr hj I hit
  have hin:j=xs.length:=by lia
  subst hin
  obtain⟨its,rv,pl,_⟩:=I.list (SqL.of (K:=X.K) (show upd H0 D _ l=some (.lst xs) by rw[aE hlD];exact hl))
  have lenI:its.length=xs.length:=rv.length.symm
  have hlI:l≠It:=λz=>by
   have:=(I.pin (It,ob) (mem_append_right _ mem_cons_self)).2.1
   rw[<-z,aE hlD,hl]at this;cases this
  have Wk:=Walks.list (prog:=X.prog) (w:=X.w) (A:=A.in1) hh It l hlI its.toArray
  refine codeAny_builtin JV ?_
  rw[Around.under_plainId oX _]
  show wpAny _ A.in1 (pyNext (.ref It) >>=_) _ _ _
  refine wpAny_bind (Wk.done _ _ _ ⟨by rw[size_toArray,lenI];exact hit,pl.isList⟩ λh' tk' hk'=>?_)
  have hk:∀b u,b≠It->s.heap.get? b=some u->h'.get? b=some u:=λb u hb e=>hk' b u (by simpa using hb) e
  have I1:Inv X pins σ (upd H0 D (.dT (cG (prs.take xs.length)))) s:=I.pins_of λp hp=>I.pin p (mem_append_right _ (mem_cons_of_mem _ hp))
  have I2:=I1.turned (h':=h') (t':=tk') hk (I.pin (It,ob) (mem_append_right _ mem_cons_self)).2.1 oI.loc oI.new oI.cel oI.pin
  rw[<-hP.1,take_length]at I2
  show wpAny _ A.in1 (Builtin.Dict.addKeywords D [] >>=_) _ _ _
  exact wpAny_bind (wpAny_pure (wpAny_pure (hR _ I2)))
 | succ r ih=>
  intro j s ob i t hr hj I hit
  have hlt':j<xs.length:=by lia
  obtain⟨its,rv,pl,_⟩:=I.list (SqL.of (K:=X.K) (show upd H0 D _ l=some (.lst xs) by rw[aE hlD];exact hl))
  have lenI:its.length=xs.length:=rv.length.symm
  have hlI:l≠It:=λz=>by
   have:=(I.pin (It,ob) (mem_append_right _ mem_cons_self)).2.1
   rw[<-z,aE hlD,hl]at this;cases this
  have Wk:=Walks.list (prog:=X.prog) (w:=X.w) (A:=A.in1) hh It l hlI its.toArray
  refine codeAny_builtin JV ?_
  rw[Around.under_plainId oX _]
  show wpAny _ A.in1 (pyNext (.ref It) >>=_) _ _ _
  refine wpAny_bind (Wk.item j _ _ _ (by rw[size_toArray,lenI];exact hlt') ⟨hit,pl.isList⟩ λv h' tk' hP' hst' hk'=>?_)
  have hv:its[j]? =some v:=by simpa using hP'
  obtain⟨x,hx⟩:∃x,xs[j]? =some x:=⟨_,List.getElem?_eq_getElem hlt'⟩
  have rx:RelV x v:=by
   obtain⟨u,hu,ru⟩:=rv.get hx
   rw[hv]at hu;cases hu;exact ru
  obtain⟨oI',hoI',hoc,hod⟩:=id hst'.1
  have hk:∀b u,b≠It->s.heap.get? b=some u->h'.get? b=some u:=λb u hb e=>hk' b u (by simpa using hb) e
  have I1:Inv X ((It,oI')::pins) σ (upd H0 D (.dT (cG (prs.take j)))) { s with heap:=h',toks:=tk' }:=
   Inv.repin (p1:=[]) I oI hk hoI' (λv z=>by rw[hod]at z;cases z)
  obtain⟨a,b,p,rfl,ep,ha,hb⟩:=hP.2 j x hx
  obtain rfl:v=Value.ref a:=rx
  have haD:a≠D:=aI ha hD
  have hbD:b≠D:=aI hb hD
  have ha1:upd H0 D (.dT (cG (prs.take j))) a=some (.tup [.ref b,p.2]):=by rw[aE haD];exact ha
  have hb1:upd H0 D (.dT (cG (prs.take j))) b=some (.tup (p.1.map kV)):=by rw[aE hbD];exact hb
  obtain⟨zs,rz,⟨ot,g1,g2,n,g3⟩,_⟩:=I1.tuple (SqT.of (K:=X.K) ha1)
  obtain⟨u1,u2,rfl,r1,r2⟩:=Vals.two rz
  obtain rfl:u1=Value.ref b:=r1
  refine wpAny_bind (wpAny_holding ?_)
  refine wpAny_bind (wpAny_tryCatch ?_)
  unfold Builtin.Dict.pairItems
  refine wpAny_bind (wpAny_typeOf ⟨ot,g1,g2⟩ ?_)
  rw[if_pos (by decide)]
  refine wpAny_bind (wpAny_seqItems g1 g3 ?_)
  refine wpAny_pure ?_
  show wpAny _ _ (holding [.ref b,u2] (dictSet D (.ref b) u2)) _ _ _
  refine wpAny_holding ?_
  obtain⟨z0,hd,ks,rel,dd⟩:=JX I1.hok (a:=D) (kvs:=cG (prs.take j)) aB
  have hz2:ks.length<=sizeLine:=by rw[<-Paired.length rel];exact z0
  have hl2:(cG (prs.take j)).length<sizeLine:=by
   have:=ZP (prs.take j)
   rw[length_take]at this
   lia
  have hl:(cZ (cG (prs.take j)) p.1 p.2).length<=sizeLine:=by have:=IT (cG (prs.take j)) p.1 p.2;lia
  refine wpAny_dictSet_heap (hsz:=hz2) (tupleKind_room_in1 hu) (xX I1.hok hb1) dd λh2 dd' hs=>?_
  obtain⟨q,es,ep2,hq,e2,e3,e4,_,e5⟩:=dd'
  have I2:=ZR (ob:=.dT (cZ (cG (prs.take j)) p.1 p.2)) I1 (a:=D) (by rw[aB];exact True.intro) hs ⟨q,hq⟩ ⟨hl,hd,_,(rel.put p.1 hb1 r2).keeps λc ys ec=>by
   rw[aE (dB ec aB (λz=>nomatch z))]
   exact ec,q,es,ep2,hq,e2,e3,e4,e5⟩ (t':=tk'+(tupleKind (fW X.prog X.w)).draws p.1)
  rw[M7,<-ZO ep]at I2
  have nI:=(I2.pin (It,oI') (mem_append_right _ mem_cons_self)).1
  exact wpAny_pure ⟨plainId_quiet oX _,ih (j+1) _ oI' (i+1) _ (by lia) hlt' I2 ⟨oI',nI,hoc,hod⟩⟩
end
noncomputable def GO(K:PySem.W.Frag):List V->Hp->VK->Prop:=λxs H Q=>∃(p:Addr)(vs:List V)(prs:List (List aG×V)),xs=[.ref p]/\H p=some (.lst vs)/\kN H vs prs/\vs.length<sizeLine/\∀d,H d=none->Q (.ref d) (upd H d (.dT (cG prs)))
section
variable{X:Cx}
theorem aaH(hc:X.calm=true)(hu:X.A.units+64<cLine):CallR X (.type "dict") (GO X.K):=by
 intro pins s σ H xs us Q I r h
 obtain⟨p,vs,prs,rfl,hl,hP,hz,q⟩:=h
 obtain⟨u,rfl,rx⟩:=Vals.one r
 cases(show u=Value.ref p from rx)
 have hD0:H s.heap.objs.size=none:=I.hok.fresh (Nat.le_refl _)
 have hhd:X.A.handled=none:=I.ok.hd hc
 refine callType_codes (Q₁:=λobj s₁=>obj=.ref s.heap.objs.size/\s₁=({ s with heap:=s.heap.push { cls:=.type "dict",data:=.dict #[] } }:Shared)) PySem.F.kt_called_dict (PySem.F.kt_typeCall_dict_1 _) PySem.F.entry_dict_init (kt_code_dict_new _ ⟨rfl,rfl⟩) ?_
 rintro obj s₁ ⟨rfl,rfl⟩
 have I1:Inv X pins σ (upd H s.heap.objs.size (.dT [])) { s with heap:=s.heap.push { cls:=.type "dict",data:=.dict #[] },toks:=s.toks }:=I.laid (a:=s.heap.objs.size) (o:=.dT []) (t':=s.toks) (λ_ _ z=>Heap.get?_push_of_some _ z) (Nat.le_refl _) (ZH s.heap I.big)
 generalize hD:s.heap.objs.size=D at *
 have hlD:p≠D:=aI hl hD0
 obtain⟨_,_,ks,_,dd⟩:=JX I1.hok (a:=D) (kvs:=[]) aB
 refine⟨dd.typeIs,PySem.F.args_dict_init_2 _ _,?_⟩
 unfold Builtin.«dict.__init__»;refine wpAny_bind ?_;unfold Builtin.Dict.selfAndRest;refine wpAny_bind (wpAny_notOrdered_dict dd.typeIs ?_)
 refine wpAny_pure ?_
 show wpAny _ _ (Builtin.Dict.updateFrom "dict.__init__" D (.ref p) [] .none) _ _ _
 unfold Builtin.Dict.updateFrom;obtain⟨its,rv,pl,_⟩:=I1.list (SqL.of (K:=X.K) (show upd H D _ p=some (.lst vs) by rw[aE hlD];exact hl))
 obtain⟨ol,n,g1,g2,g3,g4⟩:=id pl
 refine wpAny_bind (wpAny_typeOf ⟨ol,g1,g2⟩ ?_)
 rw[if_pos (by decide)]
 refine wpAny_bind (Y0 g1 g2 g4 g3 hhd λh2 tk2 hk2=>?_)
 rw[if_pos (show(none:Option Value).isNone=true from rfl)]
 refine wpAny_bind (wpAny_rule ?_)
 have I2:Inv X pins σ (upd H D (.dT [])) { s with heap:=h2,toks:=tk2 }:=I1.kept (t':=tk2) hk2
 obtain⟨its2,rv2,pl2,_⟩:=I2.list (SqL.of (K:=X.K) (show upd H D _ p=some (.lst vs) by rw[aE hlD];exact hl))
 refine wpAny_bind (wpAny_pyIter_list pl2.isList ?_)
 refine wpAny_pure ⟨plainId_quiet oX _,?_⟩
 have gI:(h2.push { cls:=.type "list_iterator",data:=.fields #[.ref p,.int 0 0] }).get? h2.objs.size=some { cls:=.type "list_iterator",data:=.fields #[.ref p,.int 0 0] }:=Heap.get?_push_size _ rfl
 have oI0:Ow X pins h2.objs.size:=I2.ow (Nat.le_refl _)
 have I3:Inv X ((h2.objs.size,{ cls:=.type "list_iterator",data:=.fields #[.ref p,.int 0 0] })::pins) σ (upd H D (.dT [])) { s with heap:=h2.push { cls:=.type "list_iterator",data:=.fields #[.ref p,.int 0 0] },toks:=tk2 }:=
  I2.pinNew (I2.kept (t':=tk2) λb o e=>Heap.get?_push_of_some _ e) gI (Nat.le_refl _) (I2.hok.fresh (Nat.le_refl _)) λv z=>by cases z
 exact ZG (H0:=H) (prs:=prs) (A:=X.A.in1) hhd (show X.A.units+1+1<cLine by lia) hl hP hD0 hz oI0 (λs' I'=>⟨rfl,.ref D,_,I',rfl,q D hD0⟩) vs.length 0 _ _ 0 0 (by lia) (Nat.zero_le _) I3 ⟨_,gI,rfl,rfl⟩
theorem XZ(K:PySem.W.Frag)(hu:X.A.units+64<cLine)(hc:X.calm=true:=by rfl)(h:X.K=K:=by rfl):CallR X (.type "dict") (GO K):=h▸aaH hc hu
end
end L2
namespace My
open PySem L2
noncomputable def bC(i:Nat):Stmt:=PySem.Challenge.pw_noticed_k08_whole_keepers.main.body.getD i (.Pass ⟨0,0,0,0⟩)
noncomputable abbrev tH:Stmt:=bC 15
noncomputable abbrev tI:Stmt:=bC 16
noncomputable abbrev tM:Stmt:=bC 17
noncomputable abbrev tL:Stmt:=bC 18
noncomputable abbrev tN:Stmt:=bC 19
noncomputable abbrev tK:Stmt:=bC 20
noncomputable abbrev tJ:Stmt:=bC 21
noncomputable abbrev tE:Stmt:=bC 22
noncomputable abbrev tD:Stmt:=bC 23
noncomputable abbrev sY:Stmt:=bC 24
noncomputable abbrev sZ:Stmt:=bC 25
noncomputable abbrev tR:Stmt:=bC 27
noncomputable abbrev tS:Stmt:=bC 28
noncomputable abbrev tO:Stmt:=bC 29
noncomputable abbrev tP:Stmt:=bC 30
noncomputable abbrev tU:Stmt:=bC 31
noncomputable abbrev sX:Stmt:=bC 32
noncomputable abbrev sW:Stmt:=bC 34
noncomputable abbrev sQ:Stmt:=bC 35
noncomputable abbrev tQ:Stmt:=bC 37
noncomputable abbrev tV:Stmt:=bC 38
noncomputable abbrev sS:Stmt:=bC 39
noncomputable abbrev sU:Stmt:=bC 40
noncomputable abbrev tF:Stmt:=bC 41
noncomputable abbrev sV:Stmt:=bC 42
noncomputable abbrev tG:Stmt:=bC 43
noncomputable abbrev sR:Stmt:=bC 45
noncomputable abbrev uJ:Stmt:=mR (bC 46) 0
noncomputable abbrev uH:Stmt:=mR (bC 46) 1
noncomputable abbrev uK:Stmt:=mR (bC 46) 2
noncomputable abbrev uI:Stmt:=mR (bC 46) 3
noncomputable abbrev uG:Stmt:=mR (bC 46) 4
noncomputable abbrev uE:Stmt:=bC 48
noncomputable abbrev uA:Stmt:=bC 49
noncomputable abbrev uC:Stmt:=bC 50
noncomputable abbrev tZ:Stmt:=bC 51
noncomputable abbrev uF:Stmt:=bC 52
noncomputable abbrev uB:Stmt:=bC 53
noncomputable abbrev tY:Stmt:=bC 54
noncomputable abbrev uD:Stmt:=bC 55
noncomputable abbrev tW:Stmt:=bC 56
noncomputable abbrev tX:Stmt:=bC 57
noncomputable abbrev oE:Stmt:=bC 58
theorem OT:aZ ["value","low","high"] ["value","low","high"] (aJ tH):=⟨rfl,rfl,rfl,by decide +kernel,rfl,by decide +kernel,by decide +kernel⟩
theorem OU:aZ ["value","many"] ["value","many"] (aJ tI):=⟨rfl,rfl,rfl,by decide +kernel,rfl,by decide +kernel,by decide +kernel⟩
theorem OY:aZ ["value","many"] ["value","many"] (aJ tM):=⟨rfl,rfl,rfl,by decide +kernel,rfl,by decide +kernel,by decide +kernel⟩
theorem OX:aZ ["pairs"] ["pairs"] (aJ tL):=⟨rfl,rfl,rfl,by decide +kernel,rfl,by decide +kernel,by decide +kernel⟩
theorem sc_is_order:aZ ["value","many","pairs"] ["value"] (aJ tN):=⟨rfl,rfl,rfl,by decide +kernel,rfl,by decide +kernel,by decide +kernel⟩
theorem OW:aZ ["value"] ["value"] (aJ tK):=⟨rfl,rfl,rfl,by decide +kernel,rfl,by decide +kernel,by decide +kernel⟩
theorem OV:aZ ["value","many"] ["value","many"] (aJ tJ):=⟨rfl,rfl,rfl,by decide +kernel,rfl,by decide +kernel,by decide +kernel⟩
theorem OS:aZ ["value"] ["value"] (aJ tE):=⟨rfl,rfl,rfl,by decide +kernel,rfl,by decide +kernel,by decide +kernel⟩
theorem OR:aZ ["value"] ["value"] (aJ tD):=⟨rfl,rfl,rfl,by decide +kernel,rfl,by decide +kernel,by decide +kernel⟩
theorem OQ:aZ ["value","many"] ["value","many"] (aJ sY):=⟨rfl,rfl,rfl,by decide +kernel,rfl,by decide +kernel,by decide +kernel⟩
theorem E6:aZ ["value","many"] ["value","many"] (aJ sZ):=⟨rfl,rfl,rfl,by decide +kernel,rfl,by decide +kernel,by decide +kernel⟩
theorem O0:aZ ["pairs","a","b","c","d"] ["pairs","a","b","c","d"] (aJ tR):=⟨rfl,rfl,rfl,by decide +kernel,rfl,by decide +kernel,by decide +kernel⟩
theorem O1:aZ ["pairs","a","b","c","d"] ["pairs","a","b","c","d"] (aJ tS):=⟨rfl,rfl,rfl,by decide +kernel,rfl,by decide +kernel,by decide +kernel⟩
theorem sc_first_two:aZ ["pairs","a","b","c","d"] ["pairs"] (aJ tO):=⟨rfl,rfl,rfl,by decide +kernel,rfl,by decide +kernel,by decide +kernel⟩
theorem sc_first_three:aZ ["many","pairs","a","b","c","d"] ["many","pairs"] (aJ tP):=⟨rfl,rfl,rfl,by decide +kernel,rfl,by decide +kernel,by decide +kernel⟩
theorem sc_bar:aZ ["order","found"] ["order"] (aJ tU):=⟨rfl,rfl,rfl,by decide +kernel,rfl,by decide +kernel,by decide +kernel⟩
theorem E5:aZ ["order"] ["order"] (aJ sX):=⟨rfl,rfl,rfl,by decide +kernel,rfl,by decide +kernel,by decide +kernel⟩
theorem OP:aZ ["thing","left_out"] ["thing","left_out"] (aJ sW):=⟨rfl,rfl,rfl,by decide +kernel,rfl,by decide +kernel,by decide +kernel⟩
theorem sc_without:aZ ["order","thing","kept","pairs"] ["order","thing"] (aJ sQ):=⟨rfl,rfl,rfl,by decide +kernel,rfl,by decide +kernel,by decide +kernel⟩
theorem OZ:aZ ["pairs","step","one","other"] ["pairs","step","one","other"] (aJ tQ):=⟨rfl,rfl,rfl,by decide +kernel,rfl,by decide +kernel,by decide +kernel⟩
theorem sc_all_demands:aZ ["order","step","demands","one","other","by"] ["order","step"] (aJ tV):=⟨rfl,rfl,rfl,by decide +kernel,rfl,by decide +kernel,by decide +kernel⟩
theorem sc_raise_once:aZ ["demands","values","origins","raised","one","other","by"] ["demands","values","origins"] (aJ sS):=⟨rfl,rfl,rfl,by decide +kernel,rfl,by decide +kernel,by decide +kernel⟩
theorem sc_raise_all:aZ ["demands","values","origins","raised","turn"] ["demands","values","origins"] (aJ sU):=⟨rfl,rfl,rfl,by decide +kernel,rfl,by decide +kernel,by decide +kernel⟩
theorem sc_least_values:aZ ["many","demands","values"] ["many","demands"] (aJ tF):=⟨rfl,rfl,rfl,by decide +kernel,rfl,by decide +kernel,by decide +kernel⟩
theorem OO:aZ ["order","step"] ["order","step"] (aJ sV):=⟨rfl,rfl,rfl,by decide +kernel,rfl,by decide +kernel,by decide +kernel⟩
theorem sc_least:aZ ["order","step","found"] ["order"] (aJ tG):=⟨rfl,rfl,rfl,by decide +kernel,rfl,by decide +kernel,by decide +kernel⟩
theorem sc_with_newest:aZ ["order","telling","newest","pairs","thing","word"] ["order","telling"] (aJ sR):=⟨rfl,rfl,rfl,by decide +kernel,rfl,by decide +kernel,by decide +kernel⟩
theorem O7:aZ ["self"] ["self"] (aJ uJ):=⟨rfl,rfl,rfl,by decide +kernel,rfl,by decide +kernel,by decide +kernel⟩
theorem O5:aZ ["self"] ["self"] (aJ uH):=⟨rfl,rfl,rfl,by decide +kernel,rfl,by decide +kernel,by decide +kernel⟩
theorem sc_Keeper_come:aZ ["self","telling","newest","grown"] ["self","telling"] (aJ uK):=⟨rfl,rfl,rfl,by decide +kernel,rfl,by decide +kernel,by decide +kernel⟩
theorem O6:aZ ["self"] ["self"] (aJ uI):=⟨rfl,rfl,rfl,by decide +kernel,rfl,by decide +kernel,by decide +kernel⟩
theorem E7:aZ ["self"] ["self"] (aJ uG):=⟨rfl,rfl,rfl,by decide +kernel,rfl,by decide +kernel,by decide +kernel⟩
theorem O4:aZ ["_law_script","_law_k"] ["_law_script","_law_k"] (aJ uE):=⟨rfl,rfl,rfl,by decide +kernel,rfl,by decide +kernel,by decide +kernel⟩
theorem sc__law_mixed:aZ ["_law_script","_law_k","_law_many","_law_drawn"] ["_law_script","_law_k","_law_many"] (aJ uA):=⟨rfl,rfl,rfl,by decide +kernel,rfl,by decide +kernel,by decide +kernel⟩
theorem O3:aZ ["_law_script","_law_town","_law_many"] ["_law_script","_law_town","_law_many"] (aJ uC):=⟨rfl,rfl,rfl,by decide +kernel,rfl,by decide +kernel,by decide +kernel⟩
theorem O2:aZ ["_law_script","_law_town","_law_some"] ["_law_script","_law_town","_law_some"] (aJ tZ):=⟨rfl,rfl,rfl,by decide +kernel,rfl,by decide +kernel,by decide +kernel⟩
theorem sc__law_bars:aZ ["_law_order","_law_some","_law_made","_law_a","_law_b","_law_c","_law_d","_law_e","_law_first"] ["_law_order"] (aJ uF):=⟨rfl,rfl,rfl,by decide +kernel,rfl,by decide +kernel,by decide +kernel⟩
theorem sc__law_least:aZ ["_law_order","_law_step","_law_line","_law_turn","_law_before","_law_one","_law_other","_law_more"] ["_law_order","_law_step"] (aJ uB):=⟨rfl,rfl,rfl,by decide +kernel,rfl,by decide +kernel,by decide +kernel⟩
theorem sc__law_which:aZ ["_law_e","_law_own"] ["_law_e"] (aJ tY):=⟨rfl,rfl,rfl,by decide +kernel,rfl,by decide +kernel,by decide +kernel⟩
theorem sc__law_do:aZ ["_law_keeper","_law_telling","_law_e"] ["_law_keeper","_law_telling"] (aJ uD):=⟨rfl,rfl,rfl,by decide +kernel,rfl,by decide +kernel,by decide +kernel⟩
theorem sc__law_words:aZ ["_law_script","_law_town","_law_many","_law_longs","_law_step","_law_words_here","_law_thing","_law_word"] ["_law_script","_law_town","_law_many","_law_longs","_law_step"] (aJ tW):=⟨rfl,rfl,rfl,by decide +kernel,rfl,by decide +kernel,by decide +kernel⟩
theorem sc__law_with:aZ ["_law_past","_law_words_here","_law_many","_law_pairs","_law_more"] ["_law_past","_law_words_here"] (aJ tX):=⟨rfl,rfl,rfl,by decide +kernel,rfl,by decide +kernel,by decide +kernel⟩
theorem sc_law:aZ ["_law_script","_law_town","_law_keeper","_law_second","_law_past","_law_k","_law_longs","_law_step","_law_many","_law_words_here","_law_telling","_law_bad","_law_kind","_law_call","_law_due","_law_order","_law_first"] ["_law_script"] (aJ oE):=⟨rfl,rfl,rfl,by decide +kernel,rfl,by decide +kernel,by decide +kernel⟩
set_option genSizeOf false
set_option genInjectivity false
structure Ad where
 A8:Addr
 zJ:FuncData
 A9:Addr
 zK:FuncData
 BD:Addr
 zO:FuncData
 BC:Addr
 zN:FuncData
 BE:Addr
 zP:FuncData
 BB:Addr
 zM:FuncData
 BA:Addr
 zL:FuncData
 A4:Addr
 zF:FuncData
 A3:Addr
 zE:FuncData
 A2:Addr
 zD:FuncData
 nJ:Addr
 nB:FuncData
 BI:Addr
 zU:FuncData
 BJ:Addr
 zV:FuncData
 BF:Addr
 zQ:FuncData
 BG:Addr
 zR:FuncData
 BK:Addr
 zW:FuncData
 nH:Addr
 nA:FuncData
 A1:Addr
 zC:FuncData
 AW:Addr
 y6:FuncData
 BH:Addr
 zS:FuncData
 BL:Addr
 zX:FuncData
 AY:Addr
 y9:FuncData
 AZ:Addr
 zA:FuncData
 A5:Addr
 zG:FuncData
 A0:Addr
 zB:FuncData
 A6:Addr
 zH:FuncData
 AX:Addr
 y7:FuncData
 BY:Addr
 AG:FuncData
 BW:Addr
 AE:FuncData
 nM:Addr
 nE:FuncData
 BX:Addr
 AF:FuncData
 nK:Addr
 nC:FuncData
 BU:Addr
 AC:FuncData
 BQ:Addr
 z8:FuncData
 BS:Addr
 AA:FuncData
 BP:Addr
 z7:FuncData
 BV:Addr
 AD:FuncData
 BR:Addr
 z9:FuncData
 BO:Addr
 z6:FuncData
 BT:Addr
 AB:FuncData
 BM:Addr
 zY:FuncData
 BN:Addr
 zZ:FuncData
 A7:Addr
 zI:FuncData
 bJ:Addr
 bN:Addr
 dZ:Addr
 dY:Addr
 dX:Addr
 dW:Addr
 bI:Addr
 dU:Addr
 bM:Addr
 eL:Addr
 qL:Addr
 eX:Addr
structure aR (K:PySem.W.Frag) (mg:Str->Option Value) (t:Ad):Prop where
 xL:mg "is_whole"=some (.ref t.A8)
 rE:Fun K "is_whole" "is_whole" tH t.A8 t.zJ
 AT:Binds K t.zJ ["value","low","high"] []
 xM:mg "is_thing"=some (.ref t.A9)
 rF:Fun K "is_thing" "is_thing" tI t.A9 t.zK
 AU:Binds K t.zK ["value","many"] []
 V9:mg "is_pair"=some (.ref t.BD)
 LU:Fun K "is_pair" "is_pair" tM t.BD t.zO
 abD:Binds K t.zO ["value","many"] []
 V8:mg "is_rising"=some (.ref t.BC)
 LS:Fun K "is_rising" "is_rising" tL t.BC t.zN
 abC:Binds K t.zN ["pairs"] []
 WA:mg "is_order"=some (.ref t.BE)
 LV:Fun K "is_order" "is_order" tN t.BE t.zP
 abE:Binds K t.zP ["value"] []
 V7:mg "is_step"=some (.ref t.BB)
 LR:Fun K "is_step" "is_step" tK t.BB t.zM
 abB:Binds K t.zM ["value"] []
 IH:mg "is_telling"=some (.ref t.BA)
 B8:Fun K "is_telling" "is_telling" tJ t.BA t.zL
 KY:Binds K t.zL ["value","many"] []
 xK:mg "need_order"=some (.ref t.A4)
 rD:Fun K "need_order" "need_order" tE t.A4 t.zF
 AS:Binds K t.zF ["value"] []
 VY:mg "need_step"=some (.ref t.A3)
 LN:Fun K "need_step" "need_step" tD t.A3 t.zE
 aa8:Binds K t.zE ["value"] []
 VX:mg "need_thing"=some (.ref t.A2)
 LL:Fun K "need_thing" "need_thing" sY t.A2 t.zD
 aa7:Binds K t.zD ["value","many"] []
 IG:mg "need_telling"=some (.ref t.nJ)
 rC:Fun K "need_telling" "need_telling" sZ t.nJ t.nB
 KW:Binds K t.nB ["value","many"] []
 WE:mg "bars_as_two"=some (.ref t.BI)
 LZ:Fun K "bars_as_two" "bars_as_two" tR t.BI t.zU
 abI:Binds K t.zU ["pairs","a","b","c","d"] []
 WF:mg "bars_as_three"=some (.ref t.BJ)
 L0:Fun K "bars_as_three" "bars_as_three" tS t.BJ t.zV
 abJ:Binds K t.zV ["pairs","a","b","c","d"] []
 WB:mg "first_two"=some (.ref t.BF)
 LW:Fun K "first_two" "first_two" tO t.BF t.zQ
 abF:Binds K t.zQ ["pairs"] []
 WC:mg "first_three"=some (.ref t.BG)
 LX:Fun K "first_three" "first_three" tP t.BG t.zR
 abG:Binds K t.zR ["many","pairs"] []
 II:mg "bar"=some (.ref t.BK)
 B9:Fun K "bar" "bar" tU t.BK t.zW
 KZ:Binds K t.zW ["order"] []
 xJ:mg "need_unbarred"=some (.ref t.nH)
 nT:Fun K "need_unbarred" "need_unbarred" sX t.nH t.nA
 AR:Binds K t.nA ["order"] []
 IF:mg "number_without"=some (.ref t.A1)
 B7:Fun K "number_without" "number_without" sW t.A1 t.zC
 KU:Binds K t.zC ["thing","left_out"] []
 VU:mg "without"=some (.ref t.AW)
 LI:Fun K "without" "without" sQ t.AW t.y6
 aa4:Binds K t.y6 ["order","thing"] []
 WD:mg "demand"=some (.ref t.BH)
 LY:Fun K "demand" "demand" tQ t.BH t.zS
 abH:Binds K t.zS ["pairs","step","one","other"] []
 WG:mg "all_demands"=some (.ref t.BL)
 L3:Fun K "all_demands" "all_demands" tV t.BL t.zX
 abK:Binds K t.zX ["order","step"] []
 VV:mg "raise_once"=some (.ref t.AY)
 LJ:Fun K "raise_once" "raise_once" sS t.AY t.y9
 aa5:Binds K t.y9 ["demands","values","origins"] []
 VW:mg "raise_all"=some (.ref t.AZ)
 LK:Fun K "raise_all" "raise_all" sU t.AZ t.zA
 aa6:Binds K t.zA ["demands","values","origins"] []
 VZ:mg "least_values"=some (.ref t.A5)
 LO:Fun K "least_values" "least_values" tF t.A5 t.zG
 aa9:Binds K t.zG ["many","demands"] []
 IE:mg "numbers"=some (.ref t.A0)
 B6:Fun K "numbers" "numbers" sV t.A0 t.zB
 KS:Binds K t.zB ["order","step"] []
 V4:mg "least"=some (.ref t.A6)
 LP:Fun K "least" "least" tG t.A6 t.zH
 abA:Binds K t.zH ["order"] []
 ID:mg "with_newest"=some (.ref t.AX)
 B5:Fun K "with_newest" "with_newest" sR t.AX t.y7
 KR:Binds K t.y7 ["order","telling"] []
 ab4:Fun K "__init__" "Keeper.__init__" uJ t.BY t.AG
 K3:Binds K t.AG ["self"] []
 K_Keeper:Mk K t.eX t.BY
 ab2:Fun K "order" "Keeper.order" uH t.BW t.AE
 K2:Binds K t.AE ["self"] []
 M_Keeper_order:gE K t.eX "order" t.BW
 ME:Fun K "come" "Keeper.come" uK t.nM t.nE
 abU:Binds K t.nE ["self","telling"] []
 M_Keeper_come:gE K t.eX "come" t.nM
 ab3:Fun K "numbers" "Keeper.numbers" uI t.BX t.AF
 abT:Binds K t.AF ["self"] []
 M_Keeper_numbers:gE K t.eX "numbers" t.BX
 MD:Fun K "undo" "Keeper.undo" uG t.nK t.nC
 abS:Binds K t.nC ["self"] []
 M_Keeper_undo:gE K t.eX "undo" t.nK
 WM:mg "_law_cell_at"=some (.ref t.BU)
 L9:Fun K "_law_cell_at" "_law_cell_at" uE t.BU t.AC
 abQ:Binds K t.AC ["_law_script","_law_k"] []
 WK:mg "_law_mixed"=some (.ref t.BQ)
 L7:Fun K "_law_mixed" "_law_mixed" uA t.BQ t.z8
 abO:Binds K t.z8 ["_law_script","_law_k","_law_many"] []
 j9:mg "_law_draw"=some (.ref t.BS)
 jX:Fun K "_law_draw" "_law_draw" uC t.BS t.AA
 kK:Binds K t.AA ["_law_script","_law_town","_law_many"] []
 IJ:mg "_law_pick"=some (.ref t.BP)
 CA:Fun K "_law_pick" "_law_pick" tZ t.BP t.z7
 K0:Binds K t.z7 ["_law_script","_law_town","_law_some"] []
 WN:mg "_law_bars"=some (.ref t.BV)
 MC:Fun K "_law_bars" "_law_bars" uF t.BV t.AD
 abR:Binds K t.AD ["_law_order"] []
 IK:mg "_law_least"=some (.ref t.BR)
 CB:Fun K "_law_least" "_law_least" uB t.BR t.z9
 K1:Binds K t.z9 ["_law_order","_law_step"] []
 WJ:mg "_law_which"=some (.ref t.BO)
 L6:Fun K "_law_which" "_law_which" tY t.BO t.z6
 abN:Binds K t.z6 ["_law_e"] []
 WL:mg "_law_do"=some (.ref t.BT)
 L8:Fun K "_law_do" "_law_do" uD t.BT t.AB
 abP:Binds K t.AB ["_law_keeper","_law_telling"] []
 WH:mg "_law_words"=some (.ref t.BM)
 L4:Fun K "_law_words" "_law_words" tW t.BM t.zY
 abL:Binds K t.zY ["_law_script","_law_town","_law_many","_law_longs","_law_step"] []
 WI:mg "_law_with"=some (.ref t.BN)
 L5:Fun K "_law_with" "_law_with" tX t.BN t.zZ
 abM:Binds K t.zZ ["_law_past","_law_words_here"] []
 V6:mg "law"=some (.ref t.A7)
 LQ:Fun K "law" "law" oE t.A7 t.zI
 ab5:Binds K t.zI ["_law_script"] []
 JL:mg "Keeper"=some (.ref t.eX)
 cl_Keeper:Cls K t.eX
 na_Keeper_kept:NoAttr K t.eX "kept"
 U5:mg "ValueError"=none
 U4:mg "abs"=none
 xF:mg "all"=none
 U3:mg "bool"=none
 U2:mg "dict"=none
 U1:mg "enumerate"=none
 pG:mg "int"=none
 dP:mg "isinstance"=none
 hJ:mg "len"=none
 xE:mg "list"=none
 U0:mg "max"=none
 eV:mg "range"=none
 pF:mg "sorted"=none
 UZ:mg "str"=none
 g7:mg "tuple"=none
 qB:mg "Barred"=some (.ref t.bJ)
 qT:cX K t.bJ
 rS:PySem.W.kitOne K (.ref t.bJ) (.type "ValueError")=some true
 rL:PySem.W.exmOne K (.ref t.bJ) (.ref t.eL)=some true
 wD:PySem.W.kitOne K (.ref t.bJ) (.ref t.bN)=some false
 wC:PySem.W.kitOne K (.ref t.bJ) (.ref t.dZ)=some false
 wB:PySem.W.kitOne K (.ref t.bJ) (.ref t.dY)=some false
 wA:PySem.W.kitOne K (.ref t.bJ) (.ref t.dX)=some false
 v0:PySem.W.kitOne K (.ref t.bJ) (.ref t.dW)=some false
 vZ:PySem.W.kitOne K (.ref t.bJ) (.ref t.bI)=some false
 vY:PySem.W.kitOne K (.ref t.bJ) (.ref t.dU)=some false
 vX:PySem.W.kitOne K (.ref t.bJ) (.ref t.bM)=some false
 qA:mg "Full"=some (.ref t.bN)
 qS:cX K t.bN
 rR:PySem.W.kitOne K (.ref t.bN) (.type "ValueError")=some true
 rK:PySem.W.exmOne K (.ref t.bN) (.ref t.eL)=some true
 vW:PySem.W.kitOne K (.ref t.bN) (.ref t.bJ)=some false
 vV:PySem.W.kitOne K (.ref t.bN) (.ref t.dZ)=some false
 vU:PySem.W.kitOne K (.ref t.bN) (.ref t.dY)=some false
 vT:PySem.W.kitOne K (.ref t.bN) (.ref t.dX)=some false
 vS:PySem.W.kitOne K (.ref t.bN) (.ref t.dW)=some false
 vR:PySem.W.kitOne K (.ref t.bN) (.ref t.bI)=some false
 vQ:PySem.W.kitOne K (.ref t.bN) (.ref t.dU)=some false
 vP:PySem.W.kitOne K (.ref t.bN) (.ref t.bM)=some false
 yP:mg "NoCount"=some (.ref t.dZ)
 yO:mg "NoNumbers"=some (.ref t.dY)
 yN:mg "NoOrder"=some (.ref t.dX)
 yM:mg "NoStep"=some (.ref t.dW)
 p9:mg "NoTelling"=some (.ref t.bI)
 qR:cX K t.bI
 rQ:PySem.W.kitOne K (.ref t.bI) (.type "ValueError")=some true
 rJ:PySem.W.exmOne K (.ref t.bI) (.ref t.eL)=some true
 vO:PySem.W.kitOne K (.ref t.bI) (.ref t.bJ)=some false
 vN:PySem.W.kitOne K (.ref t.bI) (.ref t.bN)=some false
 vM:PySem.W.kitOne K (.ref t.bI) (.ref t.dZ)=some false
 vL:PySem.W.kitOne K (.ref t.bI) (.ref t.dY)=some false
 vK:PySem.W.kitOne K (.ref t.bI) (.ref t.dX)=some false
 vJ:PySem.W.kitOne K (.ref t.bI) (.ref t.dW)=some false
 vI:PySem.W.kitOne K (.ref t.bI) (.ref t.dU)=some false
 vH:PySem.W.kitOne K (.ref t.bI) (.ref t.bM)=some false
 yL:mg "NoThing"=some (.ref t.dU)
 p8:mg "Nothing"=some (.ref t.bM)
 qQ:cX K t.bM
 rP:PySem.W.kitOne K (.ref t.bM) (.type "ValueError")=some true
 rH:PySem.W.exmOne K (.ref t.bM) (.ref t.eL)=some true
 vG:PySem.W.kitOne K (.ref t.bM) (.ref t.bJ)=some false
 vF:PySem.W.kitOne K (.ref t.bM) (.ref t.bN)=some false
 vE:PySem.W.kitOne K (.ref t.bM) (.ref t.dZ)=some false
 vD:PySem.W.kitOne K (.ref t.bM) (.ref t.dY)=some false
 vC:PySem.W.kitOne K (.ref t.bM) (.ref t.dX)=some false
 vB:PySem.W.kitOne K (.ref t.bM) (.ref t.dW)=some false
 vA:PySem.W.kitOne K (.ref t.bM) (.ref t.bI)=some false
 u3:PySem.W.kitOne K (.ref t.bM) (.ref t.dU)=some false
 yK:mg "OrderError"=some (.ref t.eL)
 aaP:∃tk,mg "MOST_STEP"=some (.int 999 tk)
 AL:∃tk,mg "MOST_THINGS"=some (.int 8 tk)
 Y4:mg "TELLING_WORDS"=some (.ref t.qL)
 O8:∀H:Hp,SqT K H t.qL [.str "less",.str "more",.str "beside"]
structure XF (K:PySem.W.Frag) (mg:Str->Option Value) (bJ bN dZ dY dX dW bI dU bM eL:Addr):Prop where
 qB:mg "Barred"=some (.ref bJ)
 qT:cX K bJ
 rS:PySem.W.kitOne K (.ref bJ) (.type "ValueError")=some true
 rL:PySem.W.exmOne K (.ref bJ) (.ref eL)=some true
 wD:PySem.W.kitOne K (.ref bJ) (.ref bN)=some false
 wC:PySem.W.kitOne K (.ref bJ) (.ref dZ)=some false
 wB:PySem.W.kitOne K (.ref bJ) (.ref dY)=some false
 wA:PySem.W.kitOne K (.ref bJ) (.ref dX)=some false
 v0:PySem.W.kitOne K (.ref bJ) (.ref dW)=some false
 vZ:PySem.W.kitOne K (.ref bJ) (.ref bI)=some false
 vY:PySem.W.kitOne K (.ref bJ) (.ref dU)=some false
 vX:PySem.W.kitOne K (.ref bJ) (.ref bM)=some false
 qA:mg "Full"=some (.ref bN)
 qS:cX K bN
 rR:PySem.W.kitOne K (.ref bN) (.type "ValueError")=some true
 rK:PySem.W.exmOne K (.ref bN) (.ref eL)=some true
 vW:PySem.W.kitOne K (.ref bN) (.ref bJ)=some false
 vV:PySem.W.kitOne K (.ref bN) (.ref dZ)=some false
 vU:PySem.W.kitOne K (.ref bN) (.ref dY)=some false
 vT:PySem.W.kitOne K (.ref bN) (.ref dX)=some false
 vS:PySem.W.kitOne K (.ref bN) (.ref dW)=some false
 vR:PySem.W.kitOne K (.ref bN) (.ref bI)=some false
 vQ:PySem.W.kitOne K (.ref bN) (.ref dU)=some false
 vP:PySem.W.kitOne K (.ref bN) (.ref bM)=some false
 yP:mg "NoCount"=some (.ref dZ)
 yO:mg "NoNumbers"=some (.ref dY)
 yN:mg "NoOrder"=some (.ref dX)
 yM:mg "NoStep"=some (.ref dW)
 p9:mg "NoTelling"=some (.ref bI)
 qR:cX K bI
 rQ:PySem.W.kitOne K (.ref bI) (.type "ValueError")=some true
 rJ:PySem.W.exmOne K (.ref bI) (.ref eL)=some true
 vO:PySem.W.kitOne K (.ref bI) (.ref bJ)=some false
 vN:PySem.W.kitOne K (.ref bI) (.ref bN)=some false
 vM:PySem.W.kitOne K (.ref bI) (.ref dZ)=some false
 vL:PySem.W.kitOne K (.ref bI) (.ref dY)=some false
 vK:PySem.W.kitOne K (.ref bI) (.ref dX)=some false
 vJ:PySem.W.kitOne K (.ref bI) (.ref dW)=some false
 vI:PySem.W.kitOne K (.ref bI) (.ref dU)=some false
 vH:PySem.W.kitOne K (.ref bI) (.ref bM)=some false
 yL:mg "NoThing"=some (.ref dU)
 p8:mg "Nothing"=some (.ref bM)
 qQ:cX K bM
 rP:PySem.W.kitOne K (.ref bM) (.type "ValueError")=some true
 rH:PySem.W.exmOne K (.ref bM) (.ref eL)=some true
 vG:PySem.W.kitOne K (.ref bM) (.ref bJ)=some false
 vF:PySem.W.kitOne K (.ref bM) (.ref bN)=some false
 vE:PySem.W.kitOne K (.ref bM) (.ref dZ)=some false
 vD:PySem.W.kitOne K (.ref bM) (.ref dY)=some false
 vC:PySem.W.kitOne K (.ref bM) (.ref dX)=some false
 vB:PySem.W.kitOne K (.ref bM) (.ref dW)=some false
 vA:PySem.W.kitOne K (.ref bM) (.ref bI)=some false
 u3:PySem.W.kitOne K (.ref bM) (.ref dU)=some false
 yK:mg "OrderError"=some (.ref eL)
end My
local macro_rules | `(tactic| walk_at "rd")=>`(tactic| (repeat (first | with_reducible refine L2.QD ?_ | with_reducible refine L2.QO ?_ | with_reducible refine L2.RA ?_ | with_reducible refine L2.QF ?_ | with_reducible refine L2.RK ?_ | with_reducible refine L2.RV ?_ | with_reducible refine L2.FY ?_ | ((with_reducible refine' L2.lZ ?qe1 ?_);(case qe1=>exact rfl)) | with_reducible refine L2.R0 ?_ | with_reducible refine L2.RE ?_ | with_reducible refine L2.QY ?_ | with_reducible refine L2.QE ?_ | with_reducible refine L2.QZ ?_ | with_reducible refine L2.Q9 ?_ | with_reducible refine L2.P1 ?_ | with_reducible refine L2.RC ?_ | with_reducible refine L2.QG ?_ | with_reducible refine L2.P2 ?_ | with_reducible refine L2.RD ?_ | with_reducible refine L2.RS ?_ | with_reducible refine L2.FZ ?_ | with_reducible refine L2.FX ?_ | with_reducible refine L2.P6 ?_ | with_reducible refine L2.R1 ?_ | with_reducible refine L2.RU ?_ | with_reducible refine L2.QJ ?_ | with_reducible refine L2.P3 ?_ | with_reducible refine L2.RZ ?_ | with_reducible refine L2.RY ?_ | with_reducible refine L2.QI ?_ | with_reducible refine L2.QM ?_ | with_reducible refine L2.RX ?_ | with_reducible refine L2.QH ?_ | with_reducible refine L2.QK ?_ | with_reducible refine L2.RT ?_ | with_reducible refine L2.QN ?_ | with_reducible refine L2.RM ?_ | with_reducible refine L2.P5 ?_ | with_reducible refine L2.QV ?_ | with_reducible refine L2.RP ?_ | with_reducible refine L2.RO ?_ | with_reducible refine L2.RN ?_ | with_reducible refine L2.RF ?_ | with_reducible refine L2.QR ?_ | with_reducible refine L2.QC ?_ | with_reducible refine L2.RQ ?_ | with_reducible refine L2.RH ?_ | with_reducible refine L2.QP ?_ | with_reducible refine L2.RI ?_ | with_reducible refine L2.QQ ?_ | with_reducible refine L2.Q3 ?_ | with_reducible refine L2.QL ?_ | with_reducible refine L2.QS ?_ | with_reducible refine L2.Q7 ?_ | with_reducible refine L2.mL ?_ | with_reducible refine L2.mM ?_ | with_reducible refine L2.YF ?_ | with_reducible refine L2.YD ?_ | with_reducible refine L2.YH ?_ | with_reducible refine L2.YE ?_ | with_reducible refine L2.YC ?_ | with_reducible refine L2.YG ?_ | with_reducible refine L2.YI ?_ | with_reducible refine L2.YJ ?_ | ((with_reducible refine' L2.Q6 ?qe1 ?_);(case qe1=>assumption)) | ((with_reducible refine' L2.Q5 ?qe1 ?_);(case qe1=>assumption)) | ((with_reducible refine' L2.Q1 ?qe1 ?_);(case qe1=>assumption)) | ((with_reducible refine' L2.Q4 ?qe1 ?_);(case qe1=>assumption)) | ((with_reducible refine' L2.Q2 ?qe1 ?_);(case qe1=>assumption)) | ((with_reducible refine' L2.oK ?qe1 ?_);(case qe1=>assumption)) | ((with_reducible refine' L2.RW ?qe1 ?_);(case qe1=>assumption)) | ((with_reducible refine' L2.QW ?qe1 ?_);(case qe1=>assumption)) | ((with_reducible refine' L2.QX ?qe1 ?_);(case qe1=>assumption)) | ((with_reducible refine' L2.P4 ?qe1 ?_);(case qe1=>assumption)) | ((with_reducible refine' L2.l0 ?qe1 ?qf1 ?_);(case qe1=>assumption);(case qf1=>exact rfl)) | ((with_reducible refine' L2.cA ?qe1 ?qf1 ?_);(case qe1=>assumption);(case qf1=>exact rfl)) | ((with_reducible refine L2.fK ?_ ?_);with_reducible rfl) | ((with_reducible refine L2.bQ ?_ ?_);with_reducible rfl) | (dsimp only))))
namespace My
open PySem L2
section
variable{P:Program}{w:World}{K:PySem.W.Frag}{mg:Str->Option Value}{base:Heap}{t:Ad}
noncomputable def cE(d:PyData)(lo hi:Int):Bool:=match d with| .int i=>decide (lo<=i)&&decide (i<=hi)|_=>false
inductive EE (vs:List V) (H:Hp) (Q:VK) (zz3:XK):Prop where
 |mk (x lo hi d:_) (zh0:vs=[x,.int lo,.int hi]) (zh1:Is H x d) (zh2:Q (.bl (cE d lo hi)) H):EE vs H Q zz3
theorem wU(T:aR K mg t):FnOk P w K mg base aU 1 t.A8 t.zJ ["value","low","high"] EE:=by
 refine T.rE.ok OT (λvs H Q E h=>?_) (λcdv A outer s H vs Q E hr h=>?_)
 ·obtain⟨x,lo,hi,d,rfl,_⟩:=h
  rfl
 ·obtain⟨x,lo,hi,d,rfl,hx,q⟩:=h
  refine⟨_,(aF (aW (PW.pt (gU (dL (bP kH (by rfl) T.dP eA (aA (pv 0) (aA (jP (v:=.ty "bool") rfl T.U3 aaV rfl) pa_nil)))) (gT (fA (dL (bP kH (by rfl) T.dP eA (aA (pv 0) (aA (jP (v:=.ty "int") rfl T.pG qN rfl) pa_nil)))))))) (aD (aP pe_bl)) bB)
   (aD (aP (SW G8 G8 (pv 1) (pv 0) (pv 2))))),?_⟩
  walk_at"rd"
  have hx2:=hx
  cases hx with
  |int i=>
   walk_at"rd"
   refine bW (λh=>?_) (λh=>?_) <;> walk_at"rd" <;> simpa[cE,h]using q
  |_=>walk_at"rd" <;> exact q
inductive EF (vs:List V) (H:Hp) (Q:VK) (zz3:XK):Prop where
 |mk (x m d:_) (zh0:vs=[x,.int m]) (zh1:Is H x d) (zh2:Q (.bl (cE d 0 (m-1))) H):EF vs H Q zz3
theorem wV(T:aR K mg t):FnOk P w K mg base aU 2 t.A9 t.zK ["value","many"] EF:=by
 refine T.rF.ok OU (λvs H Q E h=>?_) (λcdv A outer s H vs Q E hr h=>?_)
 ·obtain⟨x,m,d,rfl,_⟩:=h
  rfl
 ·obtain⟨x,m,d,rfl,hx,q⟩:=h
  refine⟨_,(aD (aP (aQ (wU T) (hr.mono (by decide)) rfl T.xL T.rE.kp T.AT .nil aM (aA (pv 0) (aA pe_int (aA (bF jR (pv 1) pe_int) pa_nil)))))),?_⟩
  walk_at"rd"
  exact⟨_,_,_,_,rfl,hx,q⟩
noncomputable def aL(p:Int×Int):PyData:=.tuple [.int p.1,.int p.2]
noncomputable def dM(d:PyData)(m:Int):Bool:=match d with| .tuple [a,b]=>cE a 0 (m-1)&&cE b 0 (m-1)&& !PyData.eqv a b|_=>false
inductive EJ (vs:List V) (H:Hp) (Q:VK) (zz3:XK):Prop where
 |mk (x m d:_) (zh0:vs=[x,.int m]) (zh1:Is H x d) (zh2:Q (.bl (dM d m)) H):EJ vs H Q zz3
theorem G4{d:PyData}{m:Int}(h:∀a b,d≠.tuple [a,b]):dM d m=false:=by
 unfold dM
 split
 ·rename_i a b
  exact absurd rfl (h a b)
 ·rfl
theorem pU{d:PyData}(h:∀ds,d≠.tuple ds):isTupD d=false:=by
 cases d <;> first|rfl|exact absurd rfl (h _)
theorem lS{d:PyData}{lo hi:Int}(h:cE d lo hi=true):∃i:Int,d=.int i/\lo<=i/\i<=hi:=by
 unfold cE at h
 split at h
 ·rename_i i
  simp at h
  exact⟨i,rfl,h.1,h.2⟩
 ·cases h
theorem T4(T:aR K mg t):FnOk P w K mg base aU 3 t.BD t.zO ["value","many"] EJ:=by
 refine T.LU.ok OY (λvs H Q E h=>?_) (λcdv A outer s H vs Q E hr h=>?_)
 ·obtain⟨x,m,d,rfl,_⟩:=h
  rfl
 ·obtain⟨x,m,d,rfl,hx,q⟩:=h
  refine⟨_,(aF (aW (PW.pt (gU (fA (dL (bP kH (by rfl) T.dP eA (aA (pv 0) (aA (jP (v:=.ty "tuple") rfl T.g7 iE rfl) pa_nil))))) (gT (aT (gZ hr.units) (bP (hX K) (by rfl) T.hJ iF (aA (pv 0) pa_nil)) pe_int (aY _))))) (aD (aP pe_bl)) bB)
   (aF (aW (PW.pt (gU (fA (dL (aQ (wV T) (hr.mono (by decide)) rfl T.xM T.rF.kp T.AU .nil aM (aA (aN (aO K) (pv 0) pe_int (λ_ _=>rfl)) (aA (pv 1) pa_nil))))) (gT (fA (dL (aQ (wV T) (hr.mono (by decide)) rfl T.xM T.rF.kp T.AU .nil aM (aA (aN (aO K) (pv 0) pe_int (λ_ _=>rfl)) (aA (pv 1) pa_nil)))))))) (aD (aP pe_bl)) bB)
   (aD (aP (fU (gZ hr.units) (aN (aO K) (pv 0) pe_int (λ_ _=>rfl)) (aN (aO K) (pv 0) pe_int (λ_ _=>rfl)) (aY _)))))),?_⟩
  walk_at"rd"
  by_cases hd:∃ds,d=.tuple ds
  ·obtain⟨ds,rfl⟩:=hd
   cases hx with
   |@tup a xs _ e hxs=>
   walk_at"rd"
   have hl:=hxs.length
   refine bW (λh=>?_) (λh=>?_)
   ·walk_at"rd"
    rw[G4]at q
    ·exact q
    ·rintro a b ⟨⟩
     simp at hl
     simp[hl]at h
   ·walk_at"rd"
    match xs,ds,hxs,hl with
    | [x1,x2],[d1,d2],.cons i1 (.cons i2 .nil),_=>
     walk_at"rd"
     refine⟨_,_,_,rfl,i1,?_⟩
     walk_at"rd"
     have qe:dM (.tuple [d1,d2]) m=(cE d1 0 (m-1)&&cE d2 0 (m-1)&& !PyData.eqv d1 d2):=rfl
     rw[qe]at q
     refine bW (λh1=>?_) (λh1=>?_)
     ·walk_at"rd"
      have h1':cE d1 0 (m-1)=false:=by simpa using h1
      simpa[h1']using q
     ·walk_at"rd"
      refine⟨_,_,_,rfl,i2,?_⟩
      walk_at"rd"
      have h1':cE d1 0 (m-1)=true:=by simpa using h1
      refine bW (λh2=>?_) (λh2=>?_)
      ·walk_at"rd"
       have h2':cE d2 0 (m-1)=false:=by simpa using h2
       simpa[h2']using q
      ·walk_at"rd"
       have h2':cE d2 0 (m-1)=true:=by simpa using h2
       obtain⟨i,rfl,_⟩:=lS h1'
       obtain⟨j,rfl,_⟩:=lS h2'
       refine bV i1 i2 ⟨rfl,Nat.zero_le _⟩ ⟨rfl,Nat.zero_le _⟩ ?_
       simpa[h1',h2']using q
    |[],_,_,_=>simp at h
    |[_],_,_,_=>simp at h
    |_::_::_::_,_,_,_=>simp at h;lia
  ·have hd':∀ds,d≠.tuple ds:=λds e=>hd ⟨ds,e⟩
   rw[pU hd']
   walk_at"rd"
   rw[G4 λa b=>hd' _]at q
   exact q
noncomputable def fF:List (Int×Int)->Bool
 |a::b::r=>HT.lexLt [a.1,a.2] [b.1,b.2]&&fF (b::r)
 |_=>true
theorem FJ:∀ps:List (Int×Int),fF ps=((range (ps.length-1)).map λi=>HT.lexLt [(ps.getD i (0,0)).1,(ps.getD i (0,0)).2] [(ps.getD (i+1) (0,0)).1,(ps.getD (i+1) (0,0)).2]).all id
 |[]=>rfl
 |[a]=>rfl
 |a::b::r=>by
  rw[fF,FJ (b::r)]
  have e:(a::b::r).length-1=((b::r).length-1)+1:=by simp
  rw[e,List.range_succ_eq_map,map_cons,List.all_cons,map_map]
  rfl
theorem _root_.L2.atI_of{α:Type}{xs:List α}{i:Nat}{k:Int}{v:α}(hk:k=(i:Int))(h:xs[i]? =some v):eN xs k=some v:=by
 subst hk
 exact abX h
theorem kR{H:Hp}{xs:List V}{a b:Int}(h:IsAll H xs [.int a,.int b]):xs=[.int a,.int b]:=by
 cases h with
 | cons h1 t=>
  cases t with
  |cons h2 t2=>
   cases h1
   cases h2
   cases t2
   rfl
theorem NA{H:Hp}{xs:List V}{a:Int}{ds:List PyData}(h:IsAll H xs [.int a,.tuple ds]):∃b ys,xs=[.int a,.ref b]/\H b=some (.tup ys)/\IsAll H ys ds:=by
 cases h with
 | cons h1 t=>
  cases t with
  |cons h2 t2=>
   cases h1
   cases t2
   cases h2 with
   |tup eb hb=>exact⟨_,_,rfl,eb,hb⟩
theorem GZ{H:Hp}{xs:List V}{ps:List (Int×Int)}{i:Nat}(h:IsAll H xs (ps.map aL))(hi:i<ps.length):
  ∃r,xs[i]? =some (.ref r)/\H r=some (.tup [.int (ps.getD i (0,0)).1,.int (ps.getD i (0,0)).2]):=by
 obtain⟨v,e,iv⟩:=h.get (i:=i) (d:=aL (ps.getD i (0,0))) (by rw[List.getElem?_map];simp[hi])
 unfold aL at iv
 cases iv with
 |@tup a xs _ ea hxs=>
  obtain rfl:=kR hxs
  exact⟨a,e,ea⟩
theorem eZ{n:Nat}(h:n<=1000):n<=sizeLine:=Nat.le_of_lt (gH h)
inductive EI (vs:List V) (H:Hp) (Q:VK) (zz3:XK):Prop where
 |mk (x ps:_) (zh0:vs=[x]) (zh1:Is H x (.tuple (ps.map aL))) (zh2:ps.length<=1000) (zh3:∀H',Same H H'->Q (.bl (fF ps)) H'):EI vs H Q zz3
theorem T3(T:aR K mg t):FnOk P w K mg base aU 1 t.BC t.zN ["pairs"] EI:=by
 refine T.LS.ok OX (λvs H Q E h=>?_) (λcdv A outer s H vs Q E hr h=>?_)
 ·obtain⟨x,ps,rfl,_⟩:=h
  rfl
 ·obtain⟨x,ps,rfl,hx,hsz,q⟩:=h
  refine⟨_,(aD (aP (bP (x8 K) (by rfl) T.xF AN (aA (j4 rfl ⟨True.intro,True.intro,(.inl rfl),True.intro⟩ (M:=["place","pairs"]) (.own (.free 0 rfl rfl .nil)) (iA rfl) rfl (by decide +kernel) (eT rfl T.eV (aA (bF jR (bP (hX K) (by rfl) T.hJ iF (aA (pv 0) pa_nil)) pe_int) pa_nil)) (λC fp s1 H1=>⟨bH (i:=0) (show(["place","pairs"]:List Str).Nodup by decide +kernel) rfl (Or.inl rfl),kX,(fU (XW K hr.units0) (aN (aO K) (pv 1) (pv 0) (λ_ _=>rfl)) (aN (aO K) (pv 1) (bF eU (pv 0) pe_int) (λ_ _=>rfl)) (aY _))⟩)) pa_nil)))),?_⟩
  cases hx with
  |@tup a xs _ e hxs=>
  have hl:xs.length=ps.length:=by rw[hxs.length,length_map]
  walk_at"rd"
  refine⟨_,rfl,by lia,by lia,?_⟩
  have en:((xs.length:Int)-1).toNat=ps.length-1:=by lia
  rw[en]
  refine pK (eZ (by lia)) (λi ys H'=>H'=H/\ys=((range i).map λi=>HT.lexLt [(ps.getD i (0,0)).1,(ps.getD i (0,0)).2] [(ps.getD (i+1) (0,0)).1,(ps.getD (i+1) (0,0)).2]).map V.bl) ⟨rfl,rfl⟩ (by rintro i ys H' ⟨_,rfl⟩;simp) ?_ ?_
  ·rintro i ys H' hi ⟨rfl,rfl⟩
   obtain⟨r1,e1,h1⟩:=GZ hxs (i:=i) (by lia)
   obtain⟨r2,e2,h2⟩:=GZ hxs (i:=i+1) (by lia)
   walk_at"rd"
   refine l0 e (atI_of (i:=i) (by lia) e1) ?_
   walk_at"rd"
   refine l0 e (atI_of (i:=i+1) (by lia) e2) ?_
   refine QT h1 h2 ⟨rfl,?_⟩
   rw[range_succ,map_append,map_append]
   rfl
  ·rintro ys H' ⟨rfl,rfl⟩ p hp
   walk_at"rd"
   refine oK aB ?_
   rw[<-FJ]
   exact q _ (Same.upd hp)
noncomputable def jB(d:PyData):Int×Int:=match d with| .tuple [.int a,.int b]=>(a,b)|_=>(0,0)
noncomputable def jQ(d:PyData):Bool:=match d with| .tuple [.int n,.tuple ds]=>decide (1<=n)&&decide (n<=8)&&ds.all (λd=>dM d n)&&fF (ds.map jB)|_=>false
theorem S0{d:PyData}{m:Int}(h:dM d m=true):d=aL (jB d):=by
 unfold dM at h
 split at h
 ·rename_i a b
  rw[Bool.and_eq_true,Bool.and_eq_true]at h
  obtain⟨i,rfl,_⟩:=lS h.1.1
  obtain⟨j,rfl,_⟩:=lS h.1.2
  rfl
 ·cases h
theorem G3{m:Int}:∀{ds:List PyData},ds.all (λd=>dM d m)=true->ds=(ds.map jB).map aL
 |[],_=>rfl
 |d::ds,h=>by
  rw[List.all_cons,Bool.and_eq_true]at h
  rw[map_cons,map_cons,<-G3 h.2,<-S0 h.1]
theorem o6{d:PyData}(h:∀n ds,d≠.tuple [.int n,.tuple ds]):jQ d=false:=by
 unfold jQ
 split
 ·rename_i n ds
  exact absurd rfl (h n ds)
 ·rfl
noncomputable def wX(d:PyData):Prop:=∀m ds,d=.tuple [m,.tuple ds]->ds.length<=1000
inductive EK (vs:List V) (H:Hp) (Q:VK) (zz3:XK):Prop where
 |mk (x d:_) (zh0:vs=[x]) (zh1:Is H x d) (zh2:wX d) (zh3:∀H',Same H H'->Q (.bl (jQ d)) H'):EK vs H Q zz3
theorem T5(T:aR K mg t):FnOk P w K mg base aU 4 t.BE t.zP ["value"] EK:=by
 refine T.LV.ok sc_is_order (λvs H Q E h=>?_) (λcdv A outer s H vs Q E hr h=>?_)
 ·obtain⟨x,d,rfl,_⟩:=h
  rfl
 ·obtain ⟨x,d,rfl,hx,hok,q⟩:=h
  refine⟨_,(aF (aW (PW.pt (gU (fA (dL (bP kH (by rfl) T.dP eA (aA (pv 0) (aA (jP (v:=.ty "tuple") rfl T.g7 iE rfl) pa_nil))))) (gT (aT (gZ hr.units) (bP (hX K) (by rfl) T.hJ iF (aA (pv 0) pa_nil)) pe_int (aY _))))) (aD (aP pe_bl)) bB)
   (aF (aS (i:=1) sc_is_order.nd rfl (Or.inr rfl) (aN (aO K) (pv 0) pe_int (λ_ _=>rfl)))
   (aF (aS (i:=2) sc_is_order.nd rfl (Or.inl rfl) (aN (aO K) (pv 0) pe_int (λ_ _=>rfl)))
   (aF (aW (PW.pt (gU (fA (dL (aQ (wU T) (hr.mono (by decide)) rfl T.xL T.rE.kp T.AT .nil aM (aA (pv 1) (aA pe_int (aA (o0 rfl T.AL) pa_nil)))))) (gT (fA (dL (bP kH (by rfl) T.dP eA (aA (pv 2) (aA (jP (v:=.ty "tuple") rfl T.g7 iE rfl) pa_nil)))))))) (aD (aP pe_bl)) bB)
   (aD (aP (mG (bP (x8 K) (by rfl) T.xF AN (aA (j4 rfl ⟨True.intro,True.intro,True.intro,(.inl rfl),True.intro⟩ (M:=["pair","many"]) (.own (.free 1 rfl rfl .nil)) (iA rfl) rfl (by decide +kernel) (i7 K (pv 2)) (λC fp s1 H1=>⟨bH (i:=0) (show(["pair","many"]:List Str).Nodup by decide +kernel) rfl (Or.inl rfl),kX,(aQ (T4 T) (hr.mono (by decide)) rfl T.V9 T.LU.kp T.abD .nil aM (aA (pv 0) (aA (pv 1) pa_nil)))⟩)) pa_nil)) (mF (aQ (T3 T) (hr.mono (by decide)) rfl T.V8 T.LS.kp T.abC .nil aM (aA (pv 2) pa_nil)))))))))),?_⟩
  walk_at"rd"
  by_cases hd:∃ds,d=.tuple ds
  ·obtain ⟨ds,rfl⟩:=hd
   cases hx with
   |@tup a xs _ e hxs=>
   walk_at"rd"
   have hl:=hxs.length
   refine bW (λh=>?_) (λh=>?_)
   ·walk_at"rd"
    have q':=q H (Same.refl H)
    rw[o6]at q'
    ·exact q'
    ·rintro n ds ⟨⟩
     simp at hl
     simp[hl]at h
   ·walk_at"rd"
    match xs,ds,hxs,hl with
    | [x1,x2],[d1,d2],.cons i1 (.cons i2 .nil),_=>
     walk_at"rd"
     refine⟨_,_,_,_,rfl,i1,?_⟩
     walk_at"rd"
     refine bW (λh1=>?_) (λh1=>?_)
     ·walk_at"rd"
      have h1':cE d1 1 8=false:=by simpa using h1
      have q':=q H (Same.refl H)
      by_cases h0:∃n ds,d1=.int n/\d2=.tuple ds
      ·obtain⟨n,ds,rfl,rfl⟩:=h0
       have:jQ (.tuple [.int n,.tuple ds])=(decide (1<=n)&&decide (n<=8)&&ds.all (λd=>dM d n)&&fF (ds.map jB)):=rfl
       rw[this,show(decide (1<=n)&&decide (n<=8))=false from h1']at q'
       exact q'
      ·rw[o6 (by rintro n ds ⟨⟩;exact h0 ⟨_,_,rfl,rfl⟩)]at q'
       exact q'
     ·have h1':cE d1 1 8=true:=by simpa using h1
      obtain⟨n,rfl,hn1,hn8⟩:=lS h1'
      walk_at"rd"
      by_cases hd2:∃ds,d2=.tuple ds
      ·obtain⟨ds,rfl⟩:=hd2
       have hlen:=hok _ _ rfl
       cases i1 with
       |int _=>
       cases i2 with
       |@tup b ys _ eb hys=>
       have hlb:=hys.length
       walk_at"rd"
       refine⟨b,rfl,⟨ys,SqT.of eb⟩,?_⟩
       refine pJ (K:=K) (xs:=ys) (eZ (by lia)) (λi zs H'=>H'=H/\zs=((ds.take i).map λd=>dM d n).map V.bl) ⟨rfl,rfl⟩ (by rintro i ys H' ⟨_,rfl⟩;simp;lia) (λi zs H' _ h=>by rw[h.1];exact SqT.of eb) ?_ ?_
       ·rintro i x zs H' hx ⟨rfl,rfl⟩
        obtain⟨d,ed,id⟩:=hys.get' hx
        walk_at"rd"
        refine⟨_,_,_,rfl,id,rfl,?_⟩
        rw[take_add_one,ed,map_append,map_append]
        rfl
       ·rintro zs H' ⟨rfl,rfl⟩ p hp
        walk_at"rd"
        refine oK aB ?_
        rw[hlb,take_length,all_map]
        walk_at"rd"
        have qe:jQ (.tuple [.int n,.tuple ds])=(decide (1<=n)&&decide (n<=8)&&ds.all (λd=>dM d n)&&fF (ds.map jB)):=rfl
        rw[qe,decide_eq_true hn1,decide_eq_true hn8]at q
        refine bW (λh3=>?_) (λh3=>?_)
        ·walk_at"rd"
         have h3':ds.all (λd=>dM d n)=true:=h3
         have ed:=G3 h3'
         have hy2:Is (upd H' p (.lst (((ds.take ys.length).map λd=>dM d n).map V.bl))) (.ref b) (.tuple ((ds.map jB).map aL)):=by
          rw[<-ed]
          exact Is.same (Same.upd hp) (.tup eb hys)
         rw[hlb,take_length]at hy2
         refine⟨_,_,rfl,hy2,by rw[length_map];exact hlen,λH2 s2=>?_⟩
         have q':=q H2 ((Same.upd hp).trans s2)
         simpa[h3']using q'
        ·walk_at"rd"
         have h3':ds.all (λd=>dM d n)=false:=h3
         have q':=q _ (Same.upd (o:=.lst ((ds.map λd=>dM d n).map V.bl)) hp)
         simpa[h3']using q'
      ·have hd2':∀ds,d2≠.tuple ds:=λds e=>hd2 ⟨ds,e⟩
       rw[pU hd2']
       walk_at"rd"
       have q':=q H (Same.refl H)
       rw[o6 (by rintro n ds ⟨⟩;exact hd2' _ rfl)]at q'
       exact q'
    |[],_,_,_=>simp at h
    |[_],_,_,_=>simp at h
    |_::_::_::_,_,_,_=>simp at h;lia
  ·have hd':∀ds,d≠.tuple ds:=λds e=>hd ⟨ds,e⟩
   rw[pU hd']
   walk_at"rd"
   have q':=q H (Same.refl H)
   rw[o6 λn ds=>hd' _]at q'
   exact q'
inductive D9 (vs:List V) (H:Hp) (Q:VK) (zz3:XK):Prop where
 |mk (x d:_) (zh0:vs=[x]) (zh1:Is H x d) (zh2:wX d) (zh3:jQ d=true) (zh4:∀H',Same H H'->Q .non H'):D9 vs H Q zz3
theorem wT(T:aR K mg t):FnOk P w K mg base aU 5 t.A4 t.zF ["value"] D9:=by
 refine T.rD.ok OS (λvs H Q E h=>?_) (λcdv A outer s H vs Q E hr h=>?_)
 ·obtain⟨x,d,rfl,_⟩:=h
  rfl
 ·obtain⟨x,d,rfl,hx,hok,ho,q⟩:=h
  refine⟨_,(aD (aW (fA (dL (aQ (T5 T) (hr.mono (by decide)) rfl T.WA T.LV.kp T.abE .nil aM (aA (pv 0) pa_nil)))) (aD iS) bB)),?_⟩
  walk_at"rd"
  refine⟨_,_,rfl,hx,hok,λH' s'=>?_⟩
  rw[ho]
  walk_at"rd"
  exact q H' s'
theorem JT(p q:Int×Int):PyData.eqv (aL p) (aL q)=decide (p=q):=by
 obtain⟨a,b⟩:=p
 obtain⟨c,d⟩:=q
 simp only[aL,PyData.eqv,PyData.eqvAll,Bool.and_true]
 by_cases h:a=c
 ·by_cases h2:b=d
  ·subst h h2;simp
  ·simp[h,h2]
 ·simp[h]
theorem yA(p:Int×Int):∀ps:List (Int×Int),gA (aL p) (ps.map aL)=decide (p∈ps)
 |[]=>by simp[gA]
 | q::ps=>by
  have ih:=yA p ps
  unfold gA at ih ⊢
  rw[map_cons,any_cons,ih,JT]
  by_cases h:q=p
  ·subst h;simp
  ·have h':¬p=q:=λe=>h e.symm
   simp[h,h']
theorem wR(p:Int×Int):bY (aL p):=⟨rfl,show 1<=40 by decide⟩
theorem pB:∀ps:List (Int×Int),pC (ps.map aL)
 |[]=>⟨rfl,Nat.zero_le _⟩
 | p::ps=>by
  obtain⟨a,b⟩:=pB ps
  refine⟨?_,?_⟩
  ·rw[map_cons,PyData.canLayAll0,a];rfl
  ·rw[map_cons,PyData.depthAll]
   exact Nat.max_le.mpr ⟨(wR p).2,b⟩
noncomputable def has(ps:List (Int×Int))(i j:Int):Bool:=decide ((i,j)∈ps)
theorem l6{H:Hp}{Q:VK}{p:Addr}{y:V}{i j:Int}{ps:List (Int×Int)}(e:H p=some (.tup [.int i,.int j]))(hy:Is H y (.tuple (ps.map aL)))(h:Q (.bl (has ps i j)) H):mC false (.ref p) y H Q:=by
 refine uV (d:=aL (i,j)) (.tup e (.cons (.int i) (.cons (.int j) .nil))) hy (wR _) (pB _) ?_
 rw[yA]
 exact h
theorem iN{H:Hp}{Q:VK}{p:Addr}{y:V}{i j:Int}{ps:List (Int×Int)}(e:H p=some (.tup [.int i,.int j]))(hy:Is H y (.tuple (ps.map aL)))(h:Q (.bl (!has ps i j)) H):mC true (.ref p) y H Q:=by
 refine uV (d:=aL (i,j)) (.tup e (.cons (.int i) (.cons (.int j) .nil))) hy (wR _) (pB _) ?_
 rw[yA]
 exact h
noncomputable def jG(ps:List (Int×Int))(a b c d:Int):Bool:=has ps a b&&has ps c d&&(!has ps a d&& !has ps c b)
noncomputable def iG(ps:List (Int×Int))(a b c d:Int):Bool:=has ps a b&&has ps b c&&(!has ps a d&& !has ps d c)
theorem eQ{i j:Int}:[V.int i,V.int j].length<=sizeLine:=by
 show 2<=sizeLine
 decide
noncomputable def aX(n:Nat)(ps:List (Int×Int)):PyData:=.tuple [.int n,.tuple (ps.map aL)]
structure Ord (n:Nat) (ps:List (Int×Int)):Prop where
 lo:1<=n
 hi:n<=8
 ix:∀p∈ps,0<=p.1/\p.1<n/\0<=p.2/\p.2<n/\p.1≠p.2
 up:fF ps=true
 sz:ps.length<=1000
theorem ZN(p:Int×Int):jB (aL p)=p:=rfl
theorem Ord.okd{n:Nat}{ps:List (Int×Int)}(h:Ord n ps):wX (aX n ps):=by
 rintro m ds e
 unfold aX at e
 injection e with e
 injection e with _ e
 injection e with e _
 injection e with e
 rw[<-e,length_map]
 exact h.sz
theorem Ord.yes{n:Nat}{ps:List (Int×Int)}(h:Ord n ps):jQ (aX n ps)=true:=by
 have e:jQ (aX n ps)=(decide (1<=(n:Int))&&decide ((n:Int)<=8)&&(ps.map aL).all (λd=>dM d n)&&fF ((ps.map aL).map jB)):=rfl
 have e2:(ps.map aL).map jB=ps:=by
  rw[map_map]
  exact(map_congr_left λp _=>ZN p).trans (map_id ps)
 have e3:(ps.map aL).all (λd=>dM d n)=true:=by
  rw[all_map,all_eq_true]
  intro p hp
  obtain⟨a,b,c,d,f⟩:=h.ix p hp
  show(cE (.int p.1) 0 (n-1)&&cE (.int p.2) 0 (n-1)&& !PyData.eqv (.int p.1) (.int p.2))=true
  have g1:cE (.int p.1) 0 (n-1)=true:=by
   show(decide (0<=p.1)&&decide (p.1<=(n:Int)-1))=true
   simp;lia
  have g2:cE (.int p.2) 0 (n-1)=true:=by
   show(decide (0<=p.2)&&decide (p.2<=(n:Int)-1))=true
   simp;lia
  have g3:PyData.eqv (.int p.1) (.int p.2)=false:=by
   show(p.1==p.2)=false
   simpa using f
  rw[g1,g2,g3];rfl
 rw[e,e2,e3,h.up,decide_eq_true (by have:=h.lo;lia),decide_eq_true (by have:=h.hi;lia)]
 rfl
theorem fJ{H:Hp}{x:V}{n:Nat}{ps:List (Int×Int)}(h:Is H x (aX n ps)):∃a b xs,x=.ref a/\H a=some (.tup [.int n,.ref b])/\H b=some (.tup xs)/\IsAll H xs (ps.map aL):=by
 unfold aX at h
 cases h with
 |@tup a xs _ e hxs=>
  obtain⟨b,ys,rfl,eb,hb⟩:=NA hxs
  exact⟨a,_,_,rfl,e,eb,hb⟩
inductive sM (f:List (Int×Int)->Int->Int->Int->Int->Bool) (vs:List V) (H:Hp) (Q:VK) (zz3:XK):Prop where
 |mk (x ps a b c d:_) (zh0:vs=[x,.int a,.int b,.int c,.int d]) (zh1:Is H x (.tuple (ps.map aL))) (zh2:∀H',Same H H'->Q (.bl (f ps a b c d)) H'):sM f vs H Q zz3
theorem UA(T:aR K mg t):FnOk P w K mg base aU 1 t.BI t.zU ["pairs","a","b","c","d"] (sM jG):=by
 refine T.LZ.ok O0 (λvs H Q E h=>?_) (λcdv A outer s H vs Q E hr h=>?_)
 ·obtain⟨x,ps,a,b,c,d,rfl,_⟩:=h
  rfl
 ·obtain⟨x,ps,a,b,c,d,rfl,hx,q⟩:=h
  refine⟨_,(aF (aW (PW.pt (gU (aT (gY hr.units) (aV (aA (pv 1) (aA (pv 2) pa_nil))) (pv 0) (by rfl)) (gT (aT (gY hr.units) (aV (aA (pv 3) (aA (pv 4) pa_nil))) (pv 0) (by rfl))))) (aD (aP pe_bl)) bB)
   (aD (aP (mG (fU (gY hr.units) (aV (aA (pv 1) (aA (pv 4) pa_nil))) (pv 0) (by rfl)) (mF (fU (gY hr.units) (aV (aA (pv 3) (aA (pv 2) pa_nil))) (pv 0) (by rfl))))))),?_⟩
  unfold jG at q
  walk_at"rd"
  refine⟨eQ,λp1 hp1=>?_⟩
  have s1:=Same.upd (o:=.tup [.int a,.int b]) hp1
  walk_at"rd"
  refine iN aB (hx.same s1) ?_
  walk_at"rd"
  refine bW (λh1=>?_) (λh1=>?_)
  ·walk_at"rd"
   have h1':has ps a b=false:=by simpa using h1
   have q':=q _ s1
   rw[h1']at q'
   exact q'
  ·have h1':has ps a b=true:=by simpa using h1
   rw[h1']at q
   walk_at"rd"
   refine⟨eQ,λp2 hp2=>?_⟩
   walk_at"rd"
   refine iN aB (hx.same (s1.trans (Same.upd hp2))) ?_
   walk_at"rd"
   refine bW (λh2=>?_) (λh2=>?_)
   ·walk_at"rd"
    rw[Bool.not_eq_true']at h2
    rw[h2]at q
    exact q _ (s1.trans (Same.upd hp2))
   ·rw[Bool.not_eq_false']at h2
    rw[h2]at q
    walk_at"rd"
    refine⟨eQ,λp3 hp3=>?_⟩
    walk_at"rd"
    refine iN aB (hx.same ((s1.trans (Same.upd hp2)).trans (Same.upd hp3))) ?_
    walk_at"rd"
    refine bW (λh3=>?_) (λh3=>?_)
    ·rw[h3]at q
     walk_at"rd"
     refine⟨eQ,λp4 hp4=>?_⟩
     walk_at"rd"
     refine iN aB (hx.same (((s1.trans (Same.upd hp2)).trans (Same.upd hp3)).trans (Same.upd hp4))) ?_
     exact q _ (((s1.trans (Same.upd hp2)).trans (Same.upd hp3)).trans (Same.upd hp4))
    ·rw[h3]at q
     exact q _ ((s1.trans (Same.upd hp2)).trans (Same.upd hp3))
theorem UB(T:aR K mg t):FnOk P w K mg base aU 1 t.BJ t.zV ["pairs","a","b","c","d"] (sM iG):=by
 refine T.L0.ok O1 (λvs H Q E h=>?_) (λcdv A outer s H vs Q E hr h=>?_)
 ·obtain⟨x,ps,a,b,c,d,rfl,_⟩:=h
  rfl
 ·obtain⟨x,ps,a,b,c,d,rfl,hx,q⟩:=h
  refine⟨_,(aF (aW (PW.pt (gU (aT (gY hr.units) (aV (aA (pv 1) (aA (pv 2) pa_nil))) (pv 0) (by rfl)) (gT (aT (gY hr.units) (aV (aA (pv 2) (aA (pv 3) pa_nil))) (pv 0) (by rfl))))) (aD (aP pe_bl)) bB)
   (aD (aP (mG (fU (gY hr.units) (aV (aA (pv 1) (aA (pv 4) pa_nil))) (pv 0) (by rfl)) (mF (fU (gY hr.units) (aV (aA (pv 4) (aA (pv 3) pa_nil))) (pv 0) (by rfl))))))),?_⟩
  unfold iG at q
  walk_at"rd"
  refine⟨eQ,λp1 hp1=>?_⟩
  have s1:=Same.upd (o:=.tup [.int a,.int b]) hp1
  walk_at"rd"
  refine iN aB (hx.same s1) ?_
  walk_at"rd"
  refine bW (λh1=>?_) (λh1=>?_)
  ·walk_at"rd"
   have h1':has ps a b=false:=by simpa using h1
   have q':=q _ s1
   rw[h1']at q'
   exact q'
  ·have h1':has ps a b=true:=by simpa using h1
   rw[h1']at q
   walk_at"rd"
   refine⟨eQ,λp2 hp2=>?_⟩
   walk_at"rd"
   refine iN aB (hx.same (s1.trans (Same.upd hp2))) ?_
   walk_at"rd"
   refine bW (λh2=>?_) (λh2=>?_)
   ·walk_at"rd"
    rw[Bool.not_eq_true']at h2
    rw[h2]at q
    exact q _ (s1.trans (Same.upd hp2))
   ·rw[Bool.not_eq_false']at h2
    rw[h2]at q
    walk_at"rd"
    refine⟨eQ,λp3 hp3=>?_⟩
    walk_at"rd"
    refine iN aB (hx.same ((s1.trans (Same.upd hp2)).trans (Same.upd hp3))) ?_
    walk_at"rd"
    refine bW (λh3=>?_) (λh3=>?_)
    ·rw[h3]at q
     walk_at"rd"
     refine⟨eQ,λp4 hp4=>?_⟩
     walk_at"rd"
     refine iN aB (hx.same (((s1.trans (Same.upd hp2)).trans (Same.upd hp3)).trans (Same.upd hp4))) ?_
     exact q _ (((s1.trans (Same.upd hp2)).trans (Same.upd hp3)).trans (Same.upd hp4))
    ·rw[h3]at q
     exact q _ ((s1.trans (Same.upd hp2)).trans (Same.upd hp3))
theorem mV{α β:Type}{F:α->Option β}{l:List α}{i:Nat}{x:α}(h:(l.take i).findSome? F=none)(e:l[i]? =some x)(g:F x=none):(l.take (i+1)).findSome? F=none:=by
 rw[take_add_one,e,List.findSome?_append,h]
 simp[g]
theorem mW{α β:Type}{F:α->Option β}{l:List α}{i:Nat}{x:α}{r:β}(h:(l.take i).findSome? F=none)(e:l[i]? =some x)(g:F x=some r):l.findSome? F=some r:=by
 have hl:i<l.length:=(List.getElem?_eq_some_iff.mp e).1
 have e':l[i]=x:=(List.getElem?_eq_some_iff.mp e).2
 have:l=l.take i++x::l.drop (i+1):=by
  rw[<-e',<-drop_eq_getElem_cons hl,take_append_drop]
 rw[this,List.findSome?_append,h]
 simp[g]
theorem yT{α β:Type}{F:α->Option β}{l:List α}(h:(l.take l.length).findSome? F=none):l.findSome? F=none:=by
 rwa [take_length]at h
theorem oG{n i:Nat}(h:i<n):(range n)[i]? =some i:=List.getElem?_range h
theorem FL{β:Type}{F:Nat->Option β}{n:Nat}(h:((range n).take n).findSome? F=none):(range n).findSome? F=none:=by
 rwa [take_of_length_le (by simp)]at h
noncomputable def kS(s:Str):Option (List Int)->PyData
 |none=>.none
 |some l=>.tuple (.str s::l.map .int)
noncomputable def qF(ps:List (Int×Int))(p q:Int×Int):Option (List Int):=if jG ps p.1 p.2 q.1 q.2=true then some [p.1,p.2,q.1,q.2] else none
noncomputable def f2(ps:List (Int×Int)):Option (List Int):=ps.findSome? λp=>ps.findSome? (qF ps p)
inductive EL (vs:List V) (H:Hp) (Q:VK) (zz3:XK):Prop where
 |mk (x ps:_) (zh0:vs=[x]) (zh1:Is H x (.tuple (ps.map aL))) (zh2:∀v H',Same H H'->Is H' v (kS "two" (f2 ps))->Q v H'):EL vs H Q zz3
theorem T7(T:aR K mg t):FnOk P w K mg base aU 2 t.BF t.zQ ["pairs"] EL:=by
 refine T.LW.ok sc_first_two (λvs H Q E h=>?_) (λcdv A outer s H vs Q E hr h=>?_)
 ·obtain⟨x,ps,rfl,_⟩:=h
  rfl
 ·obtain⟨x,ps,rfl,hx,q⟩:=h
  refine⟨_,(aF (c5 PassesOwn.never rfl (i7 K (pv 0)) (i8 K rfl (cU (bH (i:=1) sc_first_two.nd rfl (Or.inl rfl)) (cU (bH (i:=2) sc_first_two.nd rfl (Or.inl rfl)) iT))) (aD (c5 PassesOwn.never rfl (i7 K (pv 0)) (i8 K rfl (cU (bH (i:=3) sc_first_two.nd rfl (Or.inl rfl)) (cU (bH (i:=4) sc_first_two.nd rfl (Or.inl rfl)) iT))) (aD (aW (dL (aQ (UA T) (hr.mono (by decide)) rfl T.WE T.LZ.kp T.abI .nil aM (aA (pv 0) (aA (pv 1) (aA (pv 2) (aA (pv 3) (aA (pv 4) pa_nil))))))) (aD (aP (aV (aA pe_str (aA (pv 1) (aA (pv 2) (aA (pv 3) (aA (pv 4) pa_nil)))))))) bB)))))
   (aD (aP pe_non))),?_⟩
  cases hx with
  |@tup a xs _ e hxs=>
  have hl:xs.length=ps.length:=by rw[hxs.length,length_map]
  walk_at"rd"
  refine⟨a,rfl,⟨xs,SqT.of e⟩,?_⟩
  refine mX (K:=K) (xs:=xs) (λi σ H'=>(∃va vb vc vd,σ=[some (.ref a),va,vb,vc,vd])/\Same H H'/\(ps.take i).findSome? (λp=>ps.findSome? (qF ps p))=none) ⟨⟨_,_,_,_,rfl⟩,Same.refl H,rfl⟩ (λi σ H' _ h=>SqT.of (h.2.1 _ _ e)) ?_ ?_
  ·rintro i x σ H1 hx ⟨⟨va,vb,vc,vd,rfl⟩,s1,n1⟩
   obtain⟨p,ep,ip⟩:=(hxs.same s1).get' hx
   rw[List.getElem?_map]at ep
   cases hpi:ps[i]? with
   |none=>rw[hpi]at ep;cases ep
   |some p0=>
   rw[hpi]at ep
   cases ep
   unfold aL at ip
   cases ip with
   |@tup r ys _ er hys=>
   obtain rfl:=kR hys
   refine iP er rfl ?_
   walk_at"rd"
   refine⟨a,rfl,⟨xs,SqT.of (s1 _ _ e)⟩,?_⟩
   refine mX (K:=K) (xs:=xs) (λj σ H'=>(∃vc vd,σ=[some (.ref a),some (.int p0.1),some (.int p0.2),vc,vd])/\Same H H'/\(ps.take j).findSome? (qF ps p0)=none) ⟨⟨_,_,rfl⟩,s1,rfl⟩ (λi σ H' _ h=>SqT.of (h.2.1 _ _ e)) ?_ ?_
   ·rintro j y σ H2 hy ⟨⟨vc,vd,rfl⟩,s2,n2⟩
    obtain⟨q2,eq2,iq2⟩:=(hxs.same s2).get' hy
    rw[List.getElem?_map]at eq2
    cases hqj:ps[j]? with
    |none=>rw[hqj]at eq2;cases eq2
    |some q0=>
    rw[hqj]at eq2
    cases eq2
    unfold aL at iq2
    cases iq2 with
    |@tup r2 ys2 _ er2 hys2=>
    obtain rfl:=kR hys2
    refine iP er2 rfl ?_
    walk_at"rd"
    refine⟨_,ps,_,_,_,_,rfl,Is.same s2 (.tup e hxs),λH3 s3=>?_⟩
    cases hf:jG ps p0.1 p0.2 q0.1 q0.2 with
    |true=>
     walk_at"rd"
     refine⟨by show 5<=sizeLine;decide,λr3 hr3=>?_⟩
     have ef:f2 ps=some [p0.1,p0.2,q0.1,q0.2]:=mW n1 hpi (mW n2 hqj (if_pos hf))
     refine q _ _ ((s2.trans s3).trans (Same.upd hr3)) ?_
     rw[ef]
     exact .tup aB (.cons (.str _) (.cons (.int _) (.cons (.int _) (.cons (.int _) (.cons (.int _) .nil)))))
    |false=>
     walk_at"rd"
     exact⟨⟨_,_,rfl⟩,s2.trans s3,mV n2 hqj (if_neg (by rw[hf];exact Bool.false_ne_true))⟩
   ·rintro σ H2 ⟨⟨vc,vd,rfl⟩,s2,n2⟩
    rw[hl]at n2
    exact⟨⟨_,_,_,_,rfl⟩,s2,mV n1 hpi (yT n2)⟩
  ·rintro σ H1 ⟨⟨va,vb,vc,vd,rfl⟩,s1,n1⟩
   rw[hl]at n1
   walk_at"rd"
   refine q _ H1 s1 ?_
   rw[show f2 ps=none from yT n1]
   exact .non
noncomputable def qE(n:Nat)(ps:List (Int×Int))(p:Int×Int)(c:Nat):Option (List Int):=(range n).findSome? λ(d:Nat)=>if iG ps p.1 p.2 c d=true then some [p.1,p.2,(c:Int),(d:Int)] else none
noncomputable def f3(n:Nat)(ps:List (Int×Int)):Option (List Int):=ps.findSome? λp=>(range n).findSome? (qE n ps p)
inductive EM (vs:List V) (H:Hp) (Q:VK) (zz3:XK):Prop where
 |mk (x ps n:_) (zh0:vs=[.int (n:Nat),x]) (zh1:n<=8) (zh2:Is H x (.tuple (ps.map aL))) (zh3:∀v H',Same H H'->Is H' v (kS "three" (f3 n ps))->Q v H'):EM vs H Q zz3
theorem T8(T:aR K mg t):FnOk P w K mg base aU 2 t.BG t.zR ["many","pairs"] EM:=by
 refine T.LX.ok sc_first_three (λvs H Q E h=>?_) (λcdv A outer s H vs Q E hr h=>?_)
 ·obtain⟨x,ps,n,rfl,_⟩:=h
  rfl
 ·obtain⟨x,ps,n,rfl,hn,hx,q⟩:=h
  refine⟨_,(aF (c5 PassesOwn.never rfl (i7 K (pv 1)) (i8 K rfl (cU (bH (i:=2) sc_first_three.nd rfl (Or.inl rfl)) (cU (bH (i:=3) sc_first_three.nd rfl (Or.inl rfl)) iT))) (aD (c5 PassesOwn.never rfl (eT rfl T.eV (aA (pv 0) pa_nil)) (bH (i:=4) sc_first_three.nd rfl (Or.inl rfl)) (aD (c5 PassesOwn.never rfl (eT rfl T.eV (aA (pv 0) pa_nil)) (bH (i:=5) sc_first_three.nd rfl (Or.inl rfl)) (aD (aW (dL (aQ (UB T) (hr.mono (by decide)) rfl T.WF T.L0.kp T.abJ .nil aM (aA (pv 1) (aA (pv 2) (aA (pv 3) (aA (pv 4) (aA (pv 5) pa_nil))))))) (aD (aP (aV (aA pe_str (aA (pv 2) (aA (pv 3) (aA (pv 4) (aA (pv 5) pa_nil)))))))) bB)))))))
   (aD (aP pe_non))),?_⟩
  cases hx with
  |@tup a xs _ e hxs=>
  have hl:xs.length=ps.length:=by rw[hxs.length,length_map]
  walk_at"rd"
  refine⟨a,rfl,⟨xs,SqT.of e⟩,?_⟩
  refine mX (K:=K) (xs:=xs) (λi σ H'=>(∃va vb vc vd,σ=[some (.int n),some (.ref a),va,vb,vc,vd])/\Same H H'/\(ps.take i).findSome? (λp=>(range n).findSome? (qE n ps p))=none) ⟨⟨_,_,_,_,rfl⟩,Same.refl H,rfl⟩ (λi σ H' _ h=>SqT.of (h.2.1 _ _ e)) ?_ ?_
  ·rintro i x σ H1 hx ⟨⟨va,vb,vc,vd,rfl⟩,s1,n1⟩
   obtain⟨p,ep,ip⟩:=(hxs.same s1).get' hx
   rw[List.getElem?_map]at ep
   cases hpi:ps[i]? with
   |none=>rw[hpi]at ep;cases ep
   |some p0=>
   rw[hpi]at ep
   cases ep
   unfold aL at ip
   cases ip with
   |@tup r ys _ er hys=>
   obtain rfl:=kR hys
   refine iP er rfl ?_
   walk_at"rd"
   refine⟨_,rfl,by lia,by lia,?_⟩
   rw[Int.toNat_natCast]
   refine gN (λc σ H'=>(∃vc vd,σ=[some (.int n),some (.ref a),some (.int p0.1),some (.int p0.2),vc,vd])/\Same H H'/\((range n).take c).findSome? (qE n ps p0)=none) ⟨⟨_,_,rfl⟩,s1,rfl⟩ ?_ ?_
   ·rintro c σ H2 hc ⟨⟨vc,vd,rfl⟩,s2,n2⟩
    walk_at"rd"
    refine⟨_,rfl,by lia,by lia,?_⟩
    rw[Int.toNat_natCast]
    refine gN (λd σ H'=>(∃vd,σ=[some (.int n),some (.ref a),some (.int p0.1),some (.int p0.2),some (.int (0+c)),vd])/\Same H H'/\((range n).take d).findSome? (λ(d:Nat)=>if iG ps p0.1 p0.2 c d=true then some [p0.1,p0.2,(c:Int),(d:Int)] else none)=none) ⟨⟨_,rfl⟩,s2,rfl⟩ ?_ ?_
    ·rintro d σ H3 hd ⟨⟨vd,rfl⟩,s3,n3⟩
     walk_at"rd"
     refine⟨_,ps,_,_,_,_,rfl,Is.same s3 (.tup e hxs),λH4 s4=>?_⟩
     rw[Int.zero_add,Int.zero_add]
     cases hf:iG ps p0.1 p0.2 c d with
     |true=>
      walk_at"rd"
      refine⟨by show 5<=sizeLine;decide,λr3 hr3=>?_⟩
      have ef:f3 n ps=some [p0.1,p0.2,(c:Int),(d:Int)]:=mW n1 hpi (mW n2 (oG hc) (mW n3 (oG hd) (if_pos hf)))
      refine q _ _ ((s3.trans s4).trans (Same.upd hr3)) ?_
      rw[ef]
      exact .tup aB (.cons (.str _) (.cons (.int _) (.cons (.int _) (.cons (.int _) (.cons (.int _) .nil)))))
     |false=>
      walk_at"rd"
      exact⟨⟨_,rfl⟩,s3.trans s4,mV n3 (oG hd) (if_neg (by rw[hf];exact Bool.false_ne_true))⟩
    ·rintro σ H3 ⟨⟨vd,rfl⟩,s3,n3⟩
     exact⟨⟨_,_,rfl⟩,s3,mV n2 (oG hc) (FL n3)⟩
   ·rintro σ H2 ⟨⟨vc,vd,rfl⟩,s2,n2⟩
    exact⟨⟨_,_,_,_,rfl⟩,s2,mV n1 hpi (FL n2)⟩
  ·rintro σ H1 ⟨⟨va,vb,vc,vd,rfl⟩,s1,n1⟩
   rw[hl]at n1
   walk_at"rd"
   refine q _ H1 s1 ?_
   rw[show f3 n ps=none from yT n1]
   exact .non
noncomputable def kJ(n:Nat)(ps:List (Int×Int)):PyData:=match f2 ps with
 |some l=>kS "two" (some l)
 |none=>kS "three" (f3 n ps)
inductive ET (vs:List V) (H:Hp) (Q:VK) (zz3:XK):Prop where
 |mk (x n ps:_) (zh0:vs=[x]) (zh1:Is H x (aX n ps)) (zh2:Ord n ps) (zh3:∀v H',Same H H'->Is H' v (kJ n ps)->Q v H'):ET vs H Q zz3
theorem HI(T:aR K mg t):FnOk P w K mg base aU 6 t.BK t.zW ["order"] ET:=by
 refine T.B9.ok sc_bar (λvs H Q E h=>?_) (λcdv A outer s H vs Q E hr h=>?_)
 ·obtain⟨x,n,ps,rfl,_⟩:=h
  rfl
 ·obtain⟨x,n,ps,rfl,hx,ho,q⟩:=h
  refine⟨_,(aF (cK (aQ (wT T) (hr.mono (by decide)) rfl T.xK T.rD.kp T.AS .nil aM (aA (pv 0) pa_nil)))
   (aF (aS (i:=1) sc_bar.nd rfl (Or.inl rfl) (aQ (T7 T) (hr.mono (by decide)) rfl T.WB T.LW.kp T.abF .nil aM (aA (aN (aO K) (pv 0) pe_int (λ_ _=>rfl)) pa_nil)))
   (aF (aW (aT kY (pv 1) pe_non (aY _)) (aD (aS (i:=1) sc_bar.nd rfl (Or.inl rfl) (aQ (T8 T) (hr.mono (by decide)) rfl T.WC T.LX.kp T.abG .nil aM (aA (aN (aO K) (pv 0) pe_int (λ_ _=>rfl)) (aA (aN (aO K) (pv 0) pe_int (λ_ _=>rfl)) pa_nil))))) bB)
   (aD (aP (pv 1)))))),?_⟩
  walk_at"rd"
  refine⟨_,_,rfl,hx,ho.okd,ho.yes,λH1 s1=>?_⟩
  obtain⟨a,b,xs,rfl,ea,eb,hxs⟩:=fJ (hx.same s1)
  walk_at"rd"
  refine⟨_,ps,rfl,.tup eb hxs,λv H2 s2 iv=>?_⟩
  have ea2:=s2 _ _ ea
  have eb2:=s2 _ _ eb
  unfold kJ at q
  cases e2:f2 ps with
  |some l=>
   rw[e2]at iv q
   unfold kS at iv
   cases iv with
   |@tup r ys _ er hys=>
   walk_at"rd"
   exact q _ H2 (s1.trans s2) (.tup er hys)
  |none=>
   rw[e2]at iv q
   unfold kS at iv
   cases iv with
   |non=>
   walk_at"rd"
   refine⟨_,ps,n,rfl,ho.hi,.tup eb2 (hxs.same s2),λv H3 s3 iv=>?_⟩
   walk_at"rd"
   exact q v H3 ((s1.trans s2).trans s3) iv
noncomputable def qP(ps:List (Int×Int)):Bool:=ps.any λp=>ps.any λq=>jG ps p.1 p.2 q.1 q.2
noncomputable def qO(n:Nat)(ps:List (Int×Int)):Bool:=ps.any λp=>(range n).any λc=>(range n).any λd=>iG ps p.1 p.2 c d
noncomputable def cB(n:Nat)(ps:List (Int×Int)):Bool:=qP ps||qO n ps
theorem f2_none{ps:List (Int×Int)}:f2 ps=none<->qP ps=false:=by
 unfold f2 qP qF
 rw[List.findSome?_eq_none_iff,any_eq_false]
 refine forall_congr' λp=>forall_congr' λhp=>?_
 rw[List.findSome?_eq_none_iff,Bool.not_eq_true,any_eq_false]
 refine forall_congr' λq=>forall_congr' λhq=>?_
 cases jG ps p.1 p.2 q.1 q.2 <;> simp
theorem f3_none{n:Nat}{ps:List (Int×Int)}:f3 n ps=none<->qO n ps=false:=by
 unfold f3 qO qE
 rw[List.findSome?_eq_none_iff,any_eq_false]
 refine forall_congr' λp=>forall_congr' λhp=>?_
 rw[List.findSome?_eq_none_iff,Bool.not_eq_true,any_eq_false]
 refine forall_congr' λc=>forall_congr' λhc=>?_
 rw[List.findSome?_eq_none_iff,Bool.not_eq_true,any_eq_false]
 refine forall_congr' λd=>forall_congr' λhd=>?_
 cases iG ps p.1 p.2 c d <;> simp
theorem KQ{n:Nat}{ps:List (Int×Int)}(h:cB n ps=false):kJ n ps=.none:=by
 unfold cB at h
 rw[Bool.or_eq_false_iff]at h
 unfold kJ
 rw[f2_none.mpr h.1,f3_none.mpr h.2]
 rfl
theorem aa3{n:Nat}{ps:List (Int×Int)}(h:cB n ps=true):∃ds,kJ n ps=.tuple ds:=by
 unfold cB at h
 unfold kJ
 cases e2:f2 ps with
 |some l=>exact⟨_,rfl⟩
 |none=>
  rw[f2_none.mp e2,Bool.false_or]at h
  cases e3:f3 n ps with
  |some l=>exact⟨_,rfl⟩
  |none=>rw[f3_none.mp e3]at h;cases h
inductive sK (vs:List V) (H:Hp) (Q:VK) (zz3:XK):Prop where
 |mk (x n ps:_) (zh0:vs=[x]) (zh1:Is H x (aX n ps)) (zh2:Ord n ps) (zh3:cB n ps=false) (zh4:∀H',Same H H'->Q .non H'):sK vs H Q zz3
theorem wS(T:aR K mg t):FnOk P w K mg base aU 7 t.nH t.nA ["order"] sK:=by
 refine T.nT.ok E5 (λvs H Q E h=>?_) (λcdv A outer s H vs Q E hr h=>?_)
 ·obtain⟨x,n,ps,rfl,_⟩:=h
  rfl
 ·obtain⟨x,n,ps,rfl,hx,ho,hb,q⟩:=h
  refine⟨_,(aD (aW (aT wZ (aQ (HI T) (hr.mono (by decide)) rfl T.II T.B9.kp T.KZ .nil aM (aA (pv 0) pa_nil)) pe_non (aY _)) (aD iS) bB)),?_⟩
  walk_at"rd"
  refine⟨x,n,ps,rfl,hx,ho,λv H' s' iv=>?_⟩
  rw[KQ hb]at iv
  cases iv with
  |non=>
  walk_at"rd"
  exact q H' s'
inductive EH (vs:List V) (H:Hp) (Q:VK) (zz3:XK):Prop where
 |mk (x d:_) (zh0:vs=[x]) (zh1:Is H x d) (zh2:Q (.bl (cE d 1 999)) H):EH vs H Q zz3
theorem T2(T:aR K mg t):FnOk P w K mg base aU 2 t.BB t.zM ["value"] EH:=by
 refine T.LR.ok OW (λvs H Q E h=>?_) (λcdv A outer s H vs Q E hr h=>?_)
 ·obtain⟨x,d,rfl,_⟩:=h
  rfl
 ·obtain⟨x,d,rfl,hx,q⟩:=h
  refine⟨_,(aD (aP (aQ (wU T) (hr.mono (by decide)) rfl T.xL T.rE.kp T.AT .nil aM (aA (pv 0) (aA pe_int (aA (o0 rfl T.aaP) pa_nil)))))),?_⟩
  walk_at"rd"
  exact⟨_,_,_,_,rfl,hx,q⟩
inductive D8 (vs:List V) (H:Hp) (Q:VK) (zz3:XK):Prop where
 |mk (x d:_) (zh0:vs=[x]) (zh1:Is H x d) (zh2:cE d 1 999=true) (zh3:Q .non H):D8 vs H Q zz3
theorem TX(T:aR K mg t):FnOk P w K mg base aU 3 t.A3 t.zE ["value"] D8:=by
 refine T.LN.ok OR (λvs H Q E h=>?_) (λcdv A outer s H vs Q E hr h=>?_)
 ·obtain⟨x,d,rfl,_⟩:=h
  rfl
 ·obtain⟨x,d,rfl,hx,ho,q⟩:=h
  refine⟨_,(aD (aW (fA (dL (aQ (T2 T) (hr.mono (by decide)) rfl T.V7 T.LR.kp T.abB .nil aM (aA (pv 0) pa_nil)))) (aD iS) bB)),?_⟩
  walk_at"rd"
  refine⟨_,_,rfl,hx,?_⟩
  rw[ho]
  walk_at"rd"
  exact q
noncomputable def dC(ps:List (Int×Int))(st i j:Int):Option Int:=if has ps i j=true then some st else if has ps j i=true then none else some (1-st)
noncomputable def oV:Option Int->V
 |some k=>.int k
 |none=>.non
inductive EQ (vs:List V) (H:Hp) (Q:VK) (zz3:XK):Prop where
 |mk (x ps st i j:_) (zh0:vs=[x,.int st,.int i,.int j]) (zh1:Is H x (.tuple (ps.map aL))) (zh2:∀H',Same H H'->Q (oV (dC ps st i j)) H'):EQ vs H Q zz3
theorem T9(T:aR K mg t):FnOk P w K mg base aU 1 t.BH t.zS ["pairs","step","one","other"] EQ:=by
 refine T.LY.ok OZ (λvs H Q E h=>?_) (λcdv A outer s H vs Q E hr h=>?_)
 ·obtain⟨x,ps,st,i,j,rfl,_⟩:=h
  rfl
 ·obtain⟨x,ps,st,i,j,rfl,hx,q⟩:=h
  refine⟨_,(aF (aW (aT (o8 hr.units) (aV (aA (pv 2) (aA (pv 3) pa_nil))) (pv 0) (by rfl)) (aD (aP (pv 1))) bB)
   (aF (aW (aT (o8 hr.units) (aV (aA (pv 3) (aA (pv 2) pa_nil))) (pv 0) (by rfl)) (aD (aP pe_non)) bB)
   (aD (aP (bF jR pe_int (pv 1)))))),?_⟩
  unfold dC at q
  walk_at"rd"
  refine⟨eQ,λp1 hp1=>?_⟩
  have s1:=Same.upd (o:=.tup [.int i,.int j]) hp1
  walk_at"rd"
  refine l6 aB (hx.same s1) ?_
  walk_at"rd"
  refine bW (λh1=>?_) (λh1=>?_)
  ·walk_at"rd"
   have q':=q _ s1
   rw[if_pos h1]at q'
   exact q'
  ·rw[h1]at q
   walk_at"rd"
   refine⟨eQ,λp2 hp2=>?_⟩
   walk_at"rd"
   refine l6 aB (hx.same (s1.trans (Same.upd hp2))) ?_
   walk_at"rd"
   refine bW (λh2=>?_) (λh2=>?_)
   ·rw[h2]at q
    walk_at"rd"
    exact q _ (s1.trans (Same.upd hp2))
   ·rw[h2]at q
    walk_at"rd"
    exact q _ (s1.trans (Same.upd hp2))
noncomputable abbrev Dm:=Nat×Nat×Int
noncomputable def iM(d:Dm):PyData:=.tuple [.int d.1,.int d.2.1,.int d.2.2]
noncomputable def fM(ps:List (Int×Int))(st:Int)(i j:Nat):List Dm:=if i=j then[] else match dC ps st i j with|some k=>[(i,j,k)]|none=>[]
noncomputable def gO(ps:List (Int×Int))(st:Int)(i m:Nat):List Dm:=(range m).flatMap (fM ps st i)
noncomputable def dS(n:Nat)(ps:List (Int×Int))(st:Int)(m:Nat):List Dm:=(range m).flatMap λi=>gO ps st i n
theorem ZL(ps:List (Int×Int))(st:Int)(i j:Nat):(fM ps st i j).length<=1:=by
 unfold fM
 split
 ·exact Nat.zero_le _
 ·split
  ·exact Nat.le_refl _
  ·exact Nat.zero_le _
theorem J4(ps:List (Int×Int))(st:Int)(i m:Nat):gO ps st i (m+1)=gO ps st i m++fM ps st i m:=by
 unfold gO
 rw[range_succ,flatMap_append]
 simp
theorem KA(n:Nat)(ps:List (Int×Int))(st:Int)(m:Nat):dS n ps st (m+1)=dS n ps st m++gO ps st m n:=by
 unfold dS
 rw[range_succ,flatMap_append]
 simp
theorem y3(ps:List (Int×Int))(st:Int)(i:Nat):∀m,(gO ps st i m).length<=m
 |0=>Nat.le_refl _
 |m+1=>by
  rw[J4,length_append]
  have:=y3 ps st i m
  have:=ZL ps st i m
  lia
theorem KB(n:Nat)(ps:List (Int×Int))(st:Int):∀m,(dS n ps st m).length<=m*n
 |0=>Nat.zero_le _
 |m+1=>by
  rw[KA,length_append,Nat.succ_mul]
  have:=KB n ps st m
  have:=y3 ps st m n
  lia
theorem w9:∀ds:List Dm,bT (ds.map iM)=true
 |[]=>rfl
 |d::ds=>by
  rw[map_cons,bT,w9 ds]
  rfl
theorem yF{H:Hp}{l p:Addr}{xs ys:List V}{d:PyData}{ds:List PyData}(hn:bT ds=true)(hl:H l=some (.lst xs))(hp:H p=none)(h:IsAll H xs ds)(hd:Is (upd (upd H p (.tup ys)) l (.lst (xs++[.ref p]))) (.ref p) d):
  IsAll (upd (upd H p (.tup ys)) l (.lst (xs++[.ref p]))) (xs++[.ref p]) (ds++[d]):=by
 refine IsAll.snoc (h.tmono (λa zs e=>?_) hn) hd
 have h1:a≠l:=dB e hl (by intro z;cases z)
 have h2:a≠p:=aI e hp
 rw[aE h1,aE h2]
 exact e
inductive EU (vs:List V) (H:Hp) (Q:VK) (zz3:XK):Prop where
 |mk (x n ps st:_) (zh0:vs=[x,.int st]) (zh1:Is H x (aX n ps)) (zh2:n<=8) (zh3:∀l xs H',Same H H'->H l=none->H' l=some (.lst xs)->IsAll H' xs ((dS n ps st n).map iM)->Q (.ref l) H'):EU vs H Q zz3
theorem UD(T:aR K mg t):FnOk P w K mg base aU 2 t.BL t.zX ["order","step"] EU:=by
 refine T.L3.ok sc_all_demands (λvs H Q E h=>?_) (λcdv A outer s H vs Q E hr h=>?_)
 ·obtain⟨x,n,ps,st,rfl,_⟩:=h
  rfl
 ·obtain⟨x,n,ps,st,rfl,hx,hn,q⟩:=h
  refine⟨_,(aF (aS (i:=2) sc_all_demands.nd rfl (Or.inl rfl) (eF pa_nil))
   (aF (c5 PassesOwn.never rfl (eT rfl T.eV (aA (aN (aO K) (pv 0) pe_int (λ_ _=>rfl)) pa_nil)) (bH (i:=3) sc_all_demands.nd rfl (Or.inl rfl)) (aD (c5 PassesOwn.never rfl (eT rfl T.eV (aA (aN (aO K) (pv 0) pe_int (λ_ _=>rfl)) pa_nil)) (bH (i:=4) sc_all_demands.nd rfl (Or.inl rfl)) (aF (aS (i:=5) sc_all_demands.nd rfl (Or.inl rfl) (aQ (T9 T) (hr.mono (by decide)) rfl T.WD T.LY.kp T.abH .nil aM (aA (aN (aO K) (pv 0) pe_int (λ_ _=>rfl)) (aA (pv 1) (aA (pv 3) (aA (pv 4) pa_nil))))))
   (aD (aW (PW.pt (wG (aT (gZ hr.units) (pv 3) (pv 4) (aY _)) (wF (aT wZ (pv 5) pe_non (aY _))))) (aD (cK (fH K PySem.F.plainAttrs_list PySem.F.slot_list_append PySem.F.type_list_append iY (pv 2) (aA (aV (aA (pv 3) (aA (pv 4) (aA (pv 5) pa_nil)))) pa_nil)))) bB))))))
   (aD (aP (pv 2))))),?_⟩
  obtain⟨a,b,xs,rfl,ea,eb,hxs⟩:=fJ hx
  walk_at"rd"
  refine⟨Nat.zero_le _,λl hl=>?_⟩
  have s0:=Same.upd (o:=.lst []) hl
  have ea0:=s0 _ _ ea
  walk_at"rd"
  refine⟨_,rfl,by lia,by lia,?_⟩
  rw[Int.toNat_natCast]
  refine gN (λi σ H'=>(∃va vb vc,σ=[some (.ref a),some (.int st),some (.ref l),va,vb,vc])/\Same H H'/\∃zs,H' l=some (.lst zs)/\IsAll H' zs ((dS n ps st i).map iM)) ⟨⟨_,_,_,rfl⟩,s0,[],aB,.nil⟩ ?_ ?_
  ·rintro i σ H1 hi ⟨⟨va,vb,vc,rfl⟩,s1,zs,hz,iz⟩
   have ea1:=s1 _ _ ea
   walk_at"rd"
   refine⟨_,rfl,by lia,by lia,?_⟩
   rw[Int.toNat_natCast]
   refine gN (λj σ H'=>(∃vb vc,σ=[some (.ref a),some (.int st),some (.ref l),some (.int (0+i)),vb,vc])/\Same H H'/\∃zs,H' l=some (.lst zs)/\IsAll H' zs ((dS n ps st i++gO ps st i j).map iM)) ⟨⟨_,_,rfl⟩,s1,zs,hz,by simpa[gO]using iz⟩ ?_ ?_
   ·rintro j σ H2 hj ⟨⟨vb,vc,rfl⟩,s2,zs2,hz2,iz2⟩
    have ea2:=s2 _ _ ea
    have eb2:=s2 _ _ eb
    walk_at"rd"
    refine⟨_,ps,_,_,_,rfl,Is.same s2 (.tup eb hxs),λH3 s3=>?_⟩
    have hz3:=s3 _ _ hz2
    have iz3:=iz2.same s3
    rw[Int.zero_add,Int.zero_add]
    have dE:dS n ps st i++gO ps st i (j+1)=dS n ps st i++gO ps st i j++fM ps st i j:=by rw[J4,append_assoc]
    rw[dE]
    walk_at"rd"
    refine bW (λh1=>?_) (λh1=>?_)
    ·have hij:i≠j:=by intro z;subst z;simp at h1
     walk_at"rd"
     cases hd:dC ps st i j with
     |none=>
      rw[show oV none=V.non from rfl]
      walk_at"rd"
      refine⟨⟨_,_,rfl⟩,s2.trans s3,zs2,hz3,?_⟩
      simpa[fM,hij,hd]using iz3
     | some k=>
      rw[show oV (some k)=V.int k from rfl]
      walk_at"rd"
      refine⟨eC hz3,?_⟩
      walk_at"rd"
      refine⟨by show 3<=sizeLine;decide,λp hp=>?_⟩
      have hlp:l≠p:=aI hz3 hp
      have hlen:zs2.length<=8*8+8:=by
       rw[iz2.length,length_map,length_append]
       have h1:=KB n ps st i
       have h2:=y3 ps st i j
       have h3:i*n<=8*8:=Nat.mul_le_mul (by lia) hn
       lia
      walk_at"rd"
      refine gJ (xs:=zs2) ?_ (gH (by lia)) ?_
      ·rw[aE hlp]
       exact hz3
      walk_at"rd"
      refine⟨⟨_,_,rfl⟩,λc u e=>?_,_,aB,?_⟩
      ·have e3:=(s2.trans s3) c u e
       rw[aE (aI e hl),aE (aI e3 hp)]
       exact e3
      ·have e1:fM ps st i j=[(i,j,k)]:=by simp[fM,hij,hd]
       rw[e1,map_append]
       refine yF (w9 _) hz3 hp iz3 (.tup ?_ (.cons (.int _) (.cons (.int _) (.cons (.int _) .nil))))
       rw[aE (Ne.symm hlp),aB]
    ·have hij:i=j:=by
      have h1':((i:Int)==(j:Int))=true:=by simpa using h1
      have:=eq_of_beq h1'
      lia
     walk_at"rd"
     refine⟨⟨_,_,rfl⟩,s2.trans s3,zs2,hz3,?_⟩
     simpa[fM,hij]using iz3
   ·rintro σ H2 ⟨⟨vb,vc,rfl⟩,s2,zs2,hz2,iz2⟩
    exact⟨⟨_,_,_,rfl⟩,s2,zs2,hz2,by rw[KA];exact iz2⟩
  ·rintro σ H1 ⟨⟨va,vb,vc,rfl⟩,s1,zs,hz,iz⟩
   walk_at"rd"
   exact q l zs H1 s1 hl hz iz
noncomputable abbrev Rs:=List Int×List V×V
noncomputable def aK(s:Rs)(d:Dm):Rs:=if s.1.getD d.1 0+d.2.2>s.1.getD d.2.1 0 then(s.1.set d.2.1 (s.1.getD d.1 0+d.2.2),s.2.1.set d.2.1 (.int d.1),.int d.2.1) else s
noncomputable def bL(ds:List Dm)(vals:List Int)(orgs:List V):Rs:=ds.foldl aK (vals,orgs,.non)
theorem oH(s:Rs)(d:Dm):(aK s d).1.length=s.1.length/\(aK s d).2.1.length=s.2.1.length:=by
 unfold aK
 split
 ·simp
 ·exact⟨rfl,rfl⟩
theorem yV:∀(ds:List Dm)(s:Rs),(ds.foldl aK s).1.length=s.1.length/\(ds.foldl aK s).2.1.length=s.2.1.length
 |[],s=>⟨rfl,rfl⟩
 |d::ds,s=>by
  rw[foldl_cons]
  have h:=yV ds (aK s d)
  have g:=oH s d
  exact⟨h.1.trans g.1,h.2.trans g.2⟩
noncomputable def SameB(v o:Addr)(H H':Hp):Prop:=∀b u,H b=some u->b≠v->b≠o->H' b=some u
structure lI (H:Hp) (v o:Addr) (vals:List Int) (orgs:List V) (n:Nat):Prop where
 hv:H v=some (.lst (vals.map V.int))
 ho:H o=some (.lst orgs)
 lv:vals.length=n
 lo:orgs.length=n
noncomputable def cD(n:Nat)(ds:List Dm):Prop:=∀d∈ds,d.1<n/\d.2.1<n
theorem NM{H:Hp}{xs:List V}{a b c:Int}(h:IsAll H xs [.int a,.int b,.int c]):xs=[.int a,.int b,.int c]:=by
 cases h with
 | cons h1 t=>
  cases h1
  cases t with
  | cons h2 t2=>
   cases h2
   cases t2 with
   |cons h3 t3=>
    cases h3
    cases t3
    rfl
theorem NH{H:Hp}{xs:List V}{ds:List Dm}{i:Nat}{x:V}(h:IsAll H xs (ds.map iM))(e:xs[i]? =some x):∃d r,ds[i]? =some d/\x=.ref r/\H r=some (.tup [.int d.1,.int d.2.1,.int d.2.2]):=by
 obtain⟨d,ed,id⟩:=h.get' e
 rw[List.getElem?_map]at ed
 cases hd:ds[i]? with
 |none=>rw[hd]at ed;cases ed
 | some d0=>
  rw[hd]at ed
  cases ed
  unfold iM at id
  cases id with
  |@tup r ys _ er hys=>
   rw[NM hys]at er
   exact⟨d0,r,rfl,rfl,er⟩
theorem SameB.refl{v o:Addr}(H:Hp):SameB v o H H:=λ_ _ h _ _=>h
theorem SameB.trans{v o:Addr}{H H1 H2:Hp}(a:SameB v o H H1)(b:SameB v o H1 H2):SameB v o H H2:=λc u h h1 h2=>b c u (a c u h h1 h2) h1 h2
inductive D1 (vs:List V) (H:Hp) (Q:VK) (zz3:XK):Prop where
 |mk (l v o ds vals orgs n xs:_) (zh0:vs=[.ref l,.ref v,.ref o]) (zh1:H l=some (.lst xs)) (zh2:IsAll H xs (ds.map iM)) (zh3:lI H v o vals orgs n) (zh4:l≠v) (zh5:l≠o) (zh6:v≠o) (zh7:cD n ds) (zh8:∀H',SameB v o H H'->lI H' v o (bL ds vals orgs).1 (bL ds vals orgs).2.1 n->Q (bL ds vals orgs).2.2 H'):D1 vs H Q zz3
theorem kE{vals:List Int}{i:Nat}(hi:i<vals.length):(vals.map V.int)[i]? =some (.int (vals.getD i 0)):=by
 rw[List.getElem?_map]
 simp[hi]
theorem jZ(vals:List Int)(i:Nat)(k:Int):(vals.map V.int).set i (.int k)=(vals.set i k).map V.int:=by
 rw[List.map_set]
theorem TR(T:aR K mg t):FnOk P w K mg base aU 1 t.AY t.y9 ["demands","values","origins"] D1:=by
 refine T.LJ.ok sc_raise_once (λvs H Q E h=>?_) (λcdv A outer s H vs Q E hr h=>?_)
 ·obtain⟨l,v,o,ds,vals,orgs,n,xs,rfl,_⟩:=h
  rfl
 ·obtain⟨l,v,o,ds,vals,orgs,n,xs,rfl,hl,hxs,V0,nlv,nlo,nvo,hds,q⟩:=h
  refine⟨_,(aF (aS (i:=3) sc_raise_once.nd rfl (Or.inl rfl) pe_non)
   (aF (c5 PassesOwn.never rfl (pT K (pv 0)) (i8 K rfl (cU (bH (i:=4) sc_raise_once.nd rfl (Or.inl rfl)) (cU (bH (i:=5) sc_raise_once.nd rfl (Or.inl rfl)) (cU (bH (i:=6) sc_raise_once.nd rfl (Or.inl rfl)) iT)))) (aD (aW (aT (o9) (bF eU (aN (aO K) (pv 1) (pv 4) (λ_ _=>rfl)) (pv 6)) (aN (aO K) (pv 1) (pv 5) (λ_ _=>rfl)) (aY _)) (aF (mD (bF eU (aN (aO K) (pv 1) (pv 4) (λ_ _=>rfl)) (pv 6)) (oY (pv 1) (pv 5) oC (λ_=>rfl)))
   (aF (mD (pv 4) (oY (pv 2) (pv 5) oC (λ_=>rfl)))
   (aD (aS (i:=3) sc_raise_once.nd rfl (Or.inl rfl) (pv 5))))) bB)))
   (aD (aP (pv 3))))),?_⟩
  have hlen:xs.length=ds.length:=by rw[hxs.length,length_map]
  walk_at"rd"
  refine⟨l,rfl,⟨xs,SqL.of hl⟩,?_⟩
  refine Y8 (K:=K) (xs:=xs) (λi σ H'=>(∃va vb vc,σ=[some (.ref l),some (.ref v),some (.ref o),some ((ds.take i).foldl aK (vals,orgs,.non)).2.2,va,vb,vc])/\SameB v o H H'/\lI H' v o ((ds.take i).foldl aK (vals,orgs,.non)).1 ((ds.take i).foldl aK (vals,orgs,.non)).2.1 n)
   ⟨⟨_,_,_,rfl⟩,SameB.refl H,V0⟩ (λi σ H' _ h=>SqL.of (h.2.1 _ _ hl nlv nlo)) ?_ ?_
  ·rintro i x σ H1 hx ⟨⟨va,vb,vc,rfl⟩,s1,V1⟩
   obtain⟨d,r,ed,rfl,er0⟩:=NH hxs hx
   have er:H1 r=some (.tup [.int d.1,.int d.2.1,.int d.2.2]):=s1 r _ er0 (dB er0 V0.hv (by intro z;cases z)) (dB er0 V0.ho (by intro z;cases z))
   obtain⟨hd1,hd2⟩:=hds d (List.mem_of_getElem? ed)
   have e1:(ds.take (i+1)).foldl aK (vals,orgs,V.non)=aK ((ds.take i).foldl aK (vals,orgs,V.non)) d:=by
    rw[take_add_one,ed,foldl_append]
    rfl
   rw[e1]
   generalize hS:(ds.take i).foldl aK (vals,orgs,V.non)=S at V1 ⊢
   obtain⟨hv1,ho1,lv1,lo1⟩:=id V1
   refine iP er rfl ?_
   walk_at"rd"
   refine cA hv1 (atI_of rfl (kE (by rw[lv1];exact hd1))) ?_
   walk_at"rd"
   refine cA hv1 (atI_of rfl (kE (by rw[lv1];exact hd2))) ?_
   walk_at"rd"
   unfold aK
   refine bW (λh1=>?_) (λh1=>?_)
   ·have h1':=of_decide_eq_true h1
    rw[if_pos h1']
    walk_at"rd"
    refine cA hv1 (atI_of rfl (kE (by rw[lv1];exact hd1))) ?_
    walk_at"rd"
    refine j2 hv1 rfl (by rw[length_map,lv1];exact hd2) ?_
    walk_at"rd"
    refine j2 (xs:=S.2.1) (by rw[aE (Ne.symm nvo)];exact ho1) rfl (by rw[lo1];exact hd2) ?_
    walk_at"rd"
    refine⟨⟨_,_,_,rfl⟩,λb u e n1 n2=>?_,?_,aB,by rw[length_set];exact lv1,by rw[length_set];exact lo1⟩
    ·rw[aE n2,aE n1]
     exact s1 b u e n1 n2
    ·rw[aE nvo,aB,jZ]
   ·have h1':=of_decide_eq_false h1
    rw[if_neg h1']
    walk_at"rd"
    exact⟨⟨_,_,_,rfl⟩,s1,V1⟩
  ·rintro σ H1 ⟨⟨va,vb,vc,rfl⟩,s1,V1⟩
   rw[hlen,take_length]at V1 ⊢
   walk_at"rd"
   exact q H1 s1 V1
theorem uO(ds:List Dm)(vals:List Int)(orgs:List V):(bL ds vals orgs).1.length=vals.length/\(bL ds vals orgs).2.1.length=orgs.length:=yV ds _
noncomputable def bD(ds:List Dm):Nat->List Int->List V->V->Rs
 |0,vals,orgs,r=>(vals,orgs,r)
 |k+1,vals,orgs,_=>if(bL ds vals orgs).2.2=.non then((bL ds vals orgs).1,(bL ds vals orgs).2.1,.non) else bD ds k (bL ds vals orgs).1 (bL ds vals orgs).2.1 (bL ds vals orgs).2.2
theorem PY(s:Rs)(d:Dm)(h:s.2.2=.non\/∃k,s.2.2=.int k):(aK s d).2.2=.non\/∃k,(aK s d).2.2=.int k:=by
 unfold aK
 split
 ·exact .inr ⟨_,rfl⟩
 ·exact h
theorem JP:∀(ds:List Dm)(s:Rs),(s.2.2=.non\/∃k,s.2.2=.int k)->((ds.foldl aK s).2.2=.non\/∃k,(ds.foldl aK s).2.2=.int k)
 |[],s,h=>h
 |d::ds,s,h=>by
  rw[foldl_cons]
  exact JP ds _ (PY s d h)
theorem PK(ds:List Dm)(vals:List Int)(orgs:List V):(bL ds vals orgs).2.2=.non\/∃k,(bL ds vals orgs).2.2=.int k:=JP ds _ (.inl rfl)
inductive D2 (vs:List V) (H:Hp) (Q:VK) (zz3:XK):Prop where
 |mk (l v o ds vals orgs n xs:_) (zh0:vs=[.ref l,.ref v,.ref o]) (zh1:n<=8) (zh2:H l=some (.lst xs)) (zh3:IsAll H xs (ds.map iM)) (zh4:lI H v o vals orgs n) (zh5:l≠v) (zh6:l≠o) (zh7:v≠o) (zh8:cD n ds) (zh9:∀H',SameB v o H H'->lI H' v o (bD ds n vals orgs .non).1 (bD ds n vals orgs .non).2.1 n->Q (bD ds n vals orgs .non).2.2 H'):D2 vs H Q zz3
theorem TU(T:aR K mg t):FnOk P w K mg base aU 2 t.AZ t.zA ["demands","values","origins"] D2:=by
 refine T.LK.ok sc_raise_all (λvs H Q E h=>?_) (λcdv A outer s H vs Q E hr h=>?_)
 ·obtain⟨l,v,o,ds,vals,orgs,n,xs,rfl,_⟩:=h
  rfl
 ·obtain⟨l,v,o,ds,vals,orgs,n,xs,rfl,hn,hl,hxs,V0,nlv,nlo,nvo,hds,q⟩:=h
  refine⟨_,(aF (aS (i:=3) sc_raise_all.nd rfl (Or.inl rfl) pe_non)
   (aF (c5 PassesOwn.never rfl (eT rfl T.eV (aA (bP (hX K) (by rfl) T.hJ iF (aA (pv 1) pa_nil)) pa_nil)) (bH (i:=4) sc_raise_all.nd rfl (Or.inl rfl)) (aF (aS (i:=3) sc_raise_all.nd rfl (Or.inl rfl) (aQ (TR T) (hr.mono (by decide)) rfl T.VV T.LJ.kp T.aa5 .nil aM (aA (pv 0) (aA (pv 1) (aA (pv 2) pa_nil)))))
   (aD (aW (aT kY (pv 3) pe_non (aY _)) (aD (aP pe_non)) bB))))
   (aD (aP (pv 3))))),?_⟩
  have hv0:=V0.hv
  have hlv:(vals.map V.int).length=n:=by rw[length_map];exact V0.lv
  walk_at"rd"
  refine⟨_,rfl,by lia,by lia,?_⟩
  rw[hlv,Int.toNat_natCast]
  refine gN (λi σ H'=>i<=n/\SameB v o H H'/\∃vals' orgs' r va,σ=[some (.ref l),some (.ref v),some (.ref o),some r,va]/\lI H' v o vals' orgs' n/\bD ds (n-i) vals' orgs' r=bD ds n vals orgs .non)
   ⟨Nat.zero_le _,SameB.refl H,vals,orgs,.non,_,rfl,V0,rfl⟩ ?_ ?_
  ·rintro i σ H1 hi ⟨_,s1,vals',orgs',r,va,rfl,V1,hR⟩
   walk_at"rd"
   refine⟨l,v,o,ds,vals',orgs',n,xs,rfl,s1 _ _ hl nlv nlo,?_,V1,nlv,nlo,nvo,hds,λH2 s2 V2=>?_⟩
   ·refine hxs.tmono (λa zs e=>s1 a _ e ?_ ?_) (w9 _)
    ·exact dB e V0.hv (by intro z;cases z)
    ·exact dB e V0.ho (by intro z;cases z)
   have ek:n-i=(n-(i+1))+1:=by lia
   rw[ek,bD]at hR
   rcases PK ds vals' orgs' with hr0|⟨k,hr0⟩
   ·rw[hr0]at hR ⊢
    rw[if_pos rfl]at hR
    rw[<-hR]at q
    walk_at"rd"
    exact q H2 (s1.trans s2) V2
   ·rw[hr0]at hR ⊢
    rw[if_neg (by intro z;cases z)]at hR
    walk_at"rd"
    exact⟨hi,s1.trans s2,_,_,_,_,rfl,V2,hR⟩
  ·rintro σ H1 ⟨_,s1,vals',orgs',r,va,rfl,V1,hR⟩
   rw[Nat.sub_self,bD]at hR
   walk_at"rd"
   rw[<-hR]at q
   exact q H1 s1 V1
noncomputable def lv(n:Nat)(ds:List Dm):Option (List Int):=if(bD ds n (replicate n 0) (replicate n .non) .non).2.2=.non then some (bD ds n (replicate n 0) (replicate n .non) .non).1 else none
noncomputable def nU(Q:VK)(H':Hp):Option (List Int)->Prop
 |none=>Q .non H'
 |some vals=>∀p,H' p=some (.tup (vals.map V.int))->Q (.ref p) H'
inductive EC (vs:List V) (H:Hp) (Q:VK) (zz3:XK):Prop where
 |mk (l ds n xs:_) (zh0:vs=[.int (n:Nat),.ref l]) (zh1:n<=8) (zh2:H l=some (.lst xs)) (zh3:IsAll H xs (ds.map iM)) (zh4:cD n ds) (zh5:∀H',Same H H'->nU Q H' (lv n ds)):EC vs H Q zz3
theorem PV(n:Nat):replicate n (V.int 0)=(replicate n (0:Int)).map V.int:=by rw[List.map_replicate]
theorem TY(T:aR K mg t):FnOk P w K mg base aU 3 t.A5 t.zG ["many","demands"] EC:=by
 refine T.LO.ok sc_least_values (λvs H Q E h=>?_) (λcdv A outer s H vs Q E hr h=>?_)
 ·obtain⟨l,ds,n,xs,rfl,_⟩:=h
  rfl
 ·obtain⟨l,ds,n,xs,rfl,hn,hl,hxs,hds,q⟩:=h
  refine⟨_,(aF (aS (i:=2) sc_least_values.nd rfl (Or.inl rfl) (bF wP (eF (aA pe_int pa_nil)) (pv 0)))
   (aF (aW (aT kY (aQ (TU T) (hr.mono (by decide)) rfl T.VW T.LK.kp T.aa6 .nil aM (aA (pv 1) (aA (pv 2) (aA (bF wP (eF (aA pe_non pa_nil)) (pv 0)) pa_nil)))) pe_non (aY _)) (aD (aP (fG (lC K) (by rfl) T.g7 iE (aA (pv 2) pa_nil)))) bB)
   (aD (aP pe_non)))),?_⟩
  walk_at"rd"
  refine⟨by show 1<=sizeLine;decide,λp1 hp1=>?_⟩
  have s1:=Same.upd (o:=.lst [V.int 0]) hp1
  walk_at"rd"
  refine uS aB (by lia) λv hv=>?_
  have s2:=s1.trans (Same.upd (o:=.lst (replicate n (V.int 0))) hv)
  walk_at"rd"
  refine⟨by show 1<=sizeLine;decide,λp2 hp2=>?_⟩
  have s3:=s2.trans (Same.upd (o:=.lst [V.non]) hp2)
  walk_at"rd"
  refine uS aB (by lia) λo ho=>?_
  walk_at"rd"
  generalize hG:upd (upd (upd (upd H p1 (.lst [V.int 0])) v (.lst (replicate n (V.int 0)))) p2 (.lst [V.non])) o (.lst (replicate n V.non))=G at *
  have s4:Same H G:=by rw[<-hG];exact s3.trans (Same.upd ho)
  have nvp:v≠p2:=aI aB hp2
  have nvo:v≠o:=by
   refine aI (o:=.lst (replicate n (V.int 0))) ?_ ho
   rw[aE nvp,aB]
  have gv:G v=some (.lst ((replicate n (0:Int)).map V.int)):=by rw[<-hG,aE nvo,aE nvp,aB,PV]
  have go:G o=some (.lst (replicate n V.non)):=by rw[<-hG,aB]
  have nlv:l≠v:=by
   intro z
   subst z
   rw[s1 _ _ hl]at hv
   cases hv
  have nlo:l≠o:=by
   intro z
   subst z
   rw[s3 _ _ hl]at ho
   cases ho
  refine⟨l,v,o,ds,_,_,n,xs,rfl,hn,s4 _ _ hl,hxs.same s4,⟨gv,go,length_replicate,length_replicate⟩,nlv,nlo,nvo,hds,λH' s5 V5=>?_⟩
  have sH:Same H H':=λb u e=>by
   refine s5 b u (s4 b u e) ?_ ?_
   ·intro z;subst z;rw[s1 _ _ e]at hv;cases hv
   ·intro z;subst z;rw[s3 _ _ e]at ho;cases ho
  unfold lv at q
  have hv5:=V5.hv
  rcases(show(bD ds n (replicate n 0) (replicate n .non) .non).2.2=.non\/¬(bD ds n (replicate n 0) (replicate n .non) .non).2.2=.non from Classical.em _) with hz|hz
  ·rw[hz]
   rw[if_pos hz]at q
   walk_at"rd"
   intro p hp
   walk_at"rd"
   have q':=q _ (sH.trans (Same.upd (o:=.tup ((bD ds n (replicate n 0) (replicate n .non) .non).1.map V.int)) hp))
   exact q' p aB
  ·rw[if_neg hz]at q
   walk_at"rd"
   refine bQ (decide_eq_false hz) ?_
   walk_at"rd"
   exact q H' sH
theorem ZK{n:Nat}{ps:List (Int×Int)}{st:Int}{i j:Nat}(hi:i<n)(hj:j<n):cD n (fM ps st i j):=by
 intro d hd
 unfold fM at hd
 split at hd
 ·cases hd
 ·split at hd
  ·rcases mem_singleton.mp hd with rfl
   exact⟨hi,hj⟩
  ·cases hd
theorem lH(n:Nat)(ps:List (Int×Int))(st:Int):cD n (dS n ps st n):=by
 intro d hd
 obtain⟨i,hi,hd⟩:=mem_flatMap.mp hd
 obtain⟨j,hj,hd⟩:=mem_flatMap.mp hd
 exact ZK (mem_range.mp hi) (mem_range.mp hj) d hd
noncomputable def cN(n:Nat)(ps:List (Int×Int))(st:Int):Option (List Int):=lv n (dS n ps st n)
theorem NW{st:Int}(h1:1<=st)(h2:st<=999):cE (.int st) 1 999=true:=by
 show(decide (1<=st)&&decide (st<=999))=true
 simp[h1,h2]
inductive D4 (vs:List V) (H:Hp) (Q:VK) (zz3:XK):Prop where
 |mk (x n ps st:_) (zh0:vs=[x,.int st]) (zh1:Is H x (aX n ps)) (zh2:Ord n ps) (zh3:1<=st) (zh4:st<=999) (zh5:∀H',Same H H'->nU Q H' (cN n ps st)):D4 vs H Q zz3
theorem HE(T:aR K mg t):FnOk P w K mg base aU 6 t.A0 t.zB ["order","step"] D4:=by
 refine T.B6.ok OO (λvs H Q E h=>?_) (λcdv A outer s H vs Q E hr h=>?_)
 ·obtain⟨x,n,ps,st,rfl,_⟩:=h
  rfl
 ·obtain⟨x,n,ps,st,rfl,hx,ho,h1,h2,q⟩:=h
  refine⟨_,(aF (cK (aQ (wT T) (hr.mono (by decide)) rfl T.xK T.rD.kp T.AS .nil aM (aA (pv 0) pa_nil)))
   (aF (cK (aQ (TX T) (hr.mono (by decide)) rfl T.VY T.LN.kp T.aa8 .nil aM (aA (pv 1) pa_nil)))
   (aD (aP (aQ (TY T) (hr.mono (by decide)) rfl T.VZ T.LO.kp T.aa9 .nil aM (aA (aN (aO K) (pv 0) pe_int (λ_ _=>rfl)) (aA (aQ (UD T) (hr.mono (by decide)) rfl T.WG T.L3.kp T.abK .nil aM (aA (pv 0) (aA (pv 1) pa_nil))) pa_nil))))))),?_⟩
  walk_at"rd"
  refine⟨_,_,rfl,hx,ho.okd,ho.yes,λH1 s1=>?_⟩
  walk_at"rd"
  refine⟨_,_,rfl,.int st,NW h1 h2,?_⟩
  obtain⟨a,b,xs,rfl,ea,eb,hxs⟩:=fJ (hx.same s1)
  walk_at"rd"
  refine⟨_,n,ps,st,rfl,hx.same s1,ho.hi,λl ys H2 s2 hl hl2 hys=>?_⟩
  walk_at"rd"
  exact⟨l,_,n,ys,rfl,ho.hi,hl2,hys,lH n ps st,λH3 s3=>q H3 ((s1.trans s2).trans s3)⟩
inductive ED (vs:List V) (H:Hp) (Q:VK) (zz3:XK):Prop where
 |mk (x n ps st vals:_) (zh0:vs=[x]) (zh1:Is H x (aX n ps)) (zh2:Ord n ps) (zh3:cB n ps=false) (zh4:1<=st) (zh5:st<=999) (zh6:cN n ps st=some vals) (zh7:(∀s',1<=s'->s'<st->cN n ps s'=none)) (zh8:∀H' p r,Same H H'->H' p=some (.tup [.int st,.ref r])->H' r=some (.tup (vals.map V.int))->Q (.ref p) H'):ED vs H Q zz3
theorem TZ(T:aR K mg t):FnOk P w K mg base aU 8 t.A6 t.zH ["order"] ED:=by
 refine T.LP.ok sc_least (λvs H Q E h=>?_) (λcdv A outer s H vs Q E hr h=>?_)
 ·obtain⟨x,n,ps,st,vals,rfl,_⟩:=h
  rfl
 ·obtain⟨x,n,ps,st,vals,rfl,hx,ho,hb,h1,h2,hS,hmin,q⟩:=h
  refine⟨_,(aF (cK (aQ (wS T) (hr.mono (by decide)) rfl T.xJ T.nT.kp T.AR .nil aM (aA (pv 0) pa_nil)))
   (aF (aS (i:=1) sc_least.nd rfl (Or.inl rfl) pe_int)
   (aF (aS (i:=2) sc_least.nd rfl (Or.inl rfl) (aQ (HE T) (hr.mono (by decide)) rfl T.IE T.B6.kp T.KS .nil aM (aA (pv 0) (aA (pv 1) pa_nil))))
   (aF (GV PassesOwn.never (aT kY (pv 2) pe_non (aY _)) (aF (aS (i:=1) sc_least.nd rfl (Or.inl rfl) (bF eU (pv 1) pe_int))
   (aD (aS (i:=2) sc_least.nd rfl (Or.inl rfl) (aQ (HE T) (hr.mono (by decide)) rfl T.IE T.B6.kp T.KS .nil aM (aA (pv 0) (aA (pv 1) pa_nil)))))))
   (aD (aP (aV (aA (pv 1) (aA (pv 2) pa_nil))))))))),?_⟩
  walk_at"rd"
  refine⟨x,n,ps,rfl,hx,ho,hb,λH1 s1=>?_⟩
  walk_at"rd"
  refine⟨x,n,ps,1,rfl,hx.same s1,ho,by lia,by lia,λH2 s2=>?_⟩
  have key:∀(sc:Int)(H':Hp)(Q':VK),Same H H'->1<=sc->sc<=st->(∀f,((sc<st/\f=V.non)\/(sc=st/\∃r,f=.ref r/\H' r=some (.tup (vals.map V.int))))->Q' f H')->nU Q' H' (cN n ps sc):=λsc H' Q' _ g1 g2 k=>by
   by_cases e:sc=st
   ·subst e
    rw[hS]
    exact λp hp=>k _ (.inr ⟨rfl,p,rfl,hp⟩)
   ·rw[hmin sc g1 (by lia)]
    exact k _ (.inl ⟨by lia,rfl⟩)
  refine key 1 H2 _ (s1.trans s2) (by lia) h1 λf hf=>?_
  walk_at"rd"
  refine⟨λm σ H'=>∃sc f,σ=[some x,some (.int sc),some f]/\Same H H'/\1<=sc/\sc<=st/\m=(st-sc).toNat/\((sc<st/\f=V.non)\/(sc=st/\∃r,f=.ref r/\H' r=some (.tup (vals.map V.int)))),⟨_,1,f,rfl,s1.trans s2,by lia,h1,rfl,hf⟩,?_⟩
  rintro m σ H3 ⟨sc,f,rfl,s3,g1,g2,rfl,hf⟩
  rcases hf with⟨g3,rfl⟩|⟨rfl,r,rfl,hr'⟩
  ·walk_at"rd"
   refine⟨λσ' H'=>∃m',m'<(st-sc).toNat/\∃sc' f,σ'=[some x,some (.int sc'),some f]/\Same H H'/\1<=sc'/\sc'<=st/\m'=(st-sc').toNat/\((sc'<st/\f=V.non)\/(sc'=st/\∃r,f=.ref r/\H' r=some (.tup (vals.map V.int)))),λσ' H' h=>h,?_⟩
   walk_at"rd"
   refine⟨x,n,ps,sc+1,rfl,hx.same s3,ho,by lia,by lia,λH4 s4=>?_⟩
   refine key (sc+1) H4 _ (s3.trans s4) (by lia) (by lia) λf hf=>?_
   walk_at"rd"
   exact⟨_,by lia,sc+1,f,rfl,s3.trans s4,by lia,by lia,rfl,hf⟩
  ·walk_at"rd"
   refine⟨by show 2<=sizeLine;decide,λp hp=>?_⟩
   exact q _ p r (s3.trans (Same.upd hp)) aB (by rw[aE (aI hr' hp)];exact hr')
inductive OB (vs:List V) (H:Hp) (Q:VK) (zz3:XK):Prop where
 |mk (x n ps st vals:_) (zh0:vs=[x]) (zh1:Is H x (aX n ps)) (zh2:Ord n ps) (zh3:cB n ps=false) (zh4:1<=st) (zh5:st<=999) (zh6:cN n ps st=some vals) (zh7:(∀s',1<=s'->s'<st->cN n ps s'=none)) (zh8:∀H',Same H H'->Q (.int st) H'):OB vs H Q zz3
noncomputable def lT(st:Int)(vals:List Int)(i j:Nat):List (Int×Int):=if vals.getD j 0-vals.getD i 0>=st then[((i:Int),(j:Int))] else[]
noncomputable def jK(st:Int)(vals:List Int)(i m:Nat):List (Int×Int):=(range m).flatMap (lT st vals i)
noncomputable def jY(st:Int)(vals:List Int)(m:Nat):List (Int×Int):=(range m).flatMap λi=>jK st vals i vals.length
noncomputable def gS(st:Int)(vals:List Int):List (Int×Int):=jY st vals vals.length
theorem NJ(st:Int)(vals:List Int)(i m:Nat):jK st vals i (m+1)=jK st vals i m++lT st vals i m:=by
 unfold jK
 rw[range_succ,flatMap_append]
 simp
theorem NK(st:Int)(vals:List Int)(m:Nat):jY st vals (m+1)=jY st vals m++jK st vals m vals.length:=by
 unfold jY
 rw[range_succ,flatMap_append]
 simp
theorem pE:∀ds:List (Int×Int),bT (ds.map aL)=true
 |[]=>rfl
 |d::ds=>by
  rw[map_cons,bT,pE ds]
  rfl
theorem JU:∀ps qs:List (Int×Int),PyData.eqvAll (ps.map aL) (qs.map aL)=decide (ps=qs)
 |[],[]=>rfl
 |[],_::_=>rfl
 |_::_,[]=>rfl
 | p::ps,q::qs=>by
  rw[map_cons,map_cons,PyData.eqvAll,JT,JU ps qs]
  by_cases h:p=q
  ·by_cases h2:ps=qs
   ·subst h h2;simp
   ·simp[h,h2]
  ·simp[h]
theorem TV(ps:List (Int×Int)):bY (.tuple (ps.map aL)):=by
 have h:=pB ps
 refine⟨?_,?_⟩
 ·rw[PyData.canLay0];exact h.1
 ·rw[PyData.depth]
  have:PyData.depthAll (ps.map aL)<=1:=by
   clear h
   induction ps with
   |nil=>exact Nat.zero_le _
   |cons p ps ih=>
    rw[map_cons,PyData.depthAll]
    exact Nat.max_le.mpr ⟨Nat.le_refl _,ih⟩
  lia
noncomputable abbrev cV(p q:Int×Int):Prop:=HT.lexLt [p.1,p.2] [q.1,q.2]=true
theorem jT{p q:Int×Int}(h:p.1<q.1\/(p.1=q.1/\p.2<q.2)):cV p q:=by
 show HT.lexLt [p.1,p.2] [q.1,q.2]=true
 rw[HT.dR]
 rcases h with h|⟨h1,h2⟩
 ·rw[if_neg (by lia)]
  exact decide_eq_true h
 ·rw[if_pos h1,HT.dR,if_neg (by lia)]
  exact decide_eq_true h2
theorem mem_tlI{st:Int}{vals:List Int}{i j:Nat}{p:Int×Int}:p∈lT st vals i j<->p=((i:Int),(j:Int))/\vals.getD j 0-vals.getD i 0>=st:=by
 unfold lT
 split
 ·rename_i h
  rw[mem_singleton]
  exact⟨λe=>⟨e,h⟩,λe=>e.1⟩
 ·rename_i h
  constructor
  ·intro e;cases e
  ·intro e;exact absurd e.2 h
theorem mem_tlRow{st:Int}{vals:List Int}{i m:Nat}{p:Int×Int}:p∈jK st vals i m<->∃j,j<m/\p=((i:Int),(j:Int))/\vals.getD j 0-vals.getD i 0>=st:=by
 unfold jK
 rw[mem_flatMap]
 constructor
 ·rintro⟨j,hj,h⟩
  exact⟨j,mem_range.mp hj,mem_tlI.mp h⟩
 ·rintro⟨j,hj,h⟩
  exact⟨j,mem_range.mpr hj,mem_tlI.mpr h⟩
theorem mem_tlAll{st:Int}{vals:List Int}{m:Nat}{p:Int×Int}:p∈jY st vals m<->∃i j,i<m/\j<vals.length/\p=((i:Int),(j:Int))/\vals.getD j 0-vals.getD i 0>=st:=by
 unfold jY
 rw[mem_flatMap]
 constructor
 ·rintro⟨i,hi,h⟩
  obtain⟨j,hj,e,g⟩:=mem_tlRow.mp h
  exact⟨i,j,mem_range.mp hi,hj,e,g⟩
 ·rintro⟨i,j,hi,hj,e,g⟩
  exact⟨i,mem_range.mpr hi,mem_tlRow.mpr ⟨j,hj,e,g⟩⟩
theorem YN{st:Int}{vals:List Int}{i j:Nat}(hi:i<vals.length)(hj:j<vals.length):has (gS st vals) i j=decide (vals.getD j 0-vals.getD i 0>=st):=by
 unfold has
 congr 1
 apply propext
 unfold gS
 rw[mem_tlAll]
 constructor
 ·rintro⟨a,b,_,_,e,g⟩
  have e1:(i:Int)=a:=congrArg Prod.fst e
  have e2:(j:Int)=b:=congrArg Prod.snd e
  have:i=a:=by lia
  have:j=b:=by lia
  subst_vars
  exact g
 ·intro g
  exact⟨i,j,hi,hj,rfl,g⟩
theorem FE(st:Int)(vals:List Int)(i:Nat):∀m,(jK st vals i m).Pairwise cV
 |0=>.nil
 | m+1=>by
  rw[NJ,pairwise_append]
  refine⟨FE st vals i m,?_,λp hp q hq=>?_⟩
  ·unfold lT
   split
   ·exact pairwise_singleton _ _
   ·exact .nil
  ·obtain⟨j,hj,rfl,_⟩:=mem_tlRow.mp hp
   obtain⟨rfl,_⟩:=mem_tlI.mp hq
   exact jT (.inr ⟨rfl,by show(j:Int)<m;lia⟩)
theorem LA(st:Int)(vals:List Int):∀m,(jY st vals m).Pairwise cV
 |0=>.nil
 |m+1=>by
  rw[NK,pairwise_append]
  refine⟨LA st vals m,FE st vals m _,λp hp q hq=>?_⟩
  obtain⟨i,j,hi,hj,rfl,_⟩:=mem_tlAll.mp hp
  obtain⟨j',_,rfl,_⟩:=mem_tlRow.mp hq
  exact jT (.inl (by show(i:Int)<m;lia))
theorem FK:∀{ps:List (Int×Int)},ps.Pairwise cV->fF ps=true
 |[],_=>rfl
 |[_],_=>rfl
 |a::b::r,h=>by
  rw[fF,FK (pairwise_cons.mp h).2,(pairwise_cons.mp h).1 b mem_cons_self]
  rfl
theorem EY{α:Type}{lt:α->α->Prop}(as:∀a b,lt a b->¬lt b a):∀{l1 l2:List α},l1.Perm l2->l1.Pairwise lt->l2.Pairwise lt->l1=l2
 |[],l2,h,_,_=>(List.nil_perm.mp h).symm
 |a::t1,[],h,_,_=>by
  have:=h.length_eq
  simp at this
 | a::t1,b::t2,h,p1,p2=>by
  have e:a=b:=by
   apply Classical.byContradiction
   intro hne
   have ha:a∈t2:=by
    rcases mem_cons.mp (h.mem_iff.mp mem_cons_self) with g|g
    ·exact absurd g hne
    ·exact g
   have hb:b∈t1:=by
    rcases mem_cons.mp (h.mem_iff.mpr mem_cons_self) with g|g
    ·exact absurd g.symm hne
    ·exact g
   exact as a b ((pairwise_cons.mp p1).1 b hb) ((pairwise_cons.mp p2).1 a ha)
  subst e
  rw[EY as (List.Perm.cons_inv h) (pairwise_cons.mp p1).2 (pairwise_cons.mp p2).2]
theorem yZ{α:Type}(f:α->Bool)(x:α):[x].filter f=if f x=true then[x] else[]:=by
 cases h:f x <;> simp[h]
theorem xR(p q:Int×Int):cV p q->¬cV q p:=λh1 h2=>by
 have h2':HT.lexLt [q.1,q.2] [p.1,p.2]=true:=h2
 rw[kB h1]at h2'
 cases h2'
theorem iR:∀{ps:List (Int×Int)},fF ps=true->ps.Pairwise cV
 |[],_=>.nil
 |[_],_=>pairwise_singleton _ _
 |a::b::r,h=>by
  rw[fF,Bool.and_eq_true]at h
  have ih:=iR h.2
  refine pairwise_cons.mpr ⟨λx hx=>?_,ih⟩
  rcases mem_cons.mp hx with rfl|hx
  ·exact h.1
  ·exact mJ h.1 ((pairwise_cons.mp ih).1 x hx)
theorem wE:∀{l1 l2:List (Int×Int)},l1.Pairwise cV->l2.Pairwise cV->(∀x,x∈l1<->x∈l2)->l1=l2
 |[],[],_,_,_=>rfl
 |[],b::t,_,_,h=>by cases(h b).mpr mem_cons_self
 |a::t,[],_,_,h=>by cases(h a).mp mem_cons_self
 | a::t1,b::t2,p1,p2,h=>by
  have q1:=pairwise_cons.mp p1
  have q2:=pairwise_cons.mp p2
  have e:a=b:=by
   apply Classical.byContradiction
   intro hne
   have ha:a∈t2:=by
    rcases mem_cons.mp ((h a).mp mem_cons_self) with g|g
    ·exact absurd g hne
    ·exact g
   have hb:b∈t1:=by
    rcases mem_cons.mp ((h b).mpr mem_cons_self) with g|g
    ·exact absurd g.symm hne
    ·exact g
   exact xR a b (q1.1 b hb) (q2.1 a ha)
  subst e
  have irr:∀x,cV a x->x≠a:=λx hx z=>by subst z;exact xR _ _ hx hx
  rw[wE q1.2 q2.2 λx=>⟨λhx=>?_,λhx=>?_⟩]
  ·rcases mem_cons.mp ((h x).mp (mem_cons_of_mem _ hx)) with g|g
   ·exact absurd g (irr x (q1.1 x hx))
   ·exact g
  ·rcases mem_cons.mp ((h x).mpr (mem_cons_of_mem _ hx)) with g|g
   ·exact absurd g (irr x (q2.1 x hx))
   ·exact g
theorem has_iff{ps:List (Int×Int)}{i j:Int}:has ps i j=true<->(i,j)∈ps:=by
 unfold has
 exact decide_eq_true_iff
theorem mI{ps:List (Int×Int)}(h:ps.Pairwise cV):ps.Nodup:=by
 refine List.Pairwise.imp (λ{a b}hab z=>?_) h
 subst z
 exact xR _ _ hab hab
theorem xD:∀(m:Nat)(l:List Nat),l.Nodup->(∀x∈l,x<m)->l.length<=m
 |0,[],_,_=>Nat.le_refl _
 |0,x::_,_,h=>absurd (h x mem_cons_self) (Nat.not_lt_zero _)
 | m+1,l,nd,h=>by
  by_cases hm:m∈l
  ·have:=xD m (l.erase m) (nd.erase m) λx hx=>by
    have:=(List.Nodup.mem_erase_iff nd).mp hx
    have:=h x this.2
    lia
   rw[List.length_erase_of_mem hm]at this
   lia
  ·have:=xD m l nd λx hx=>by
    have h1:=h x hx
    have:x≠m:=λz=>hm (z▸hx)
    lia
   lia
noncomputable def pW(p:Int×Int):Prop:=0<=p.1/\p.1<8/\0<=p.2/\p.2<8/\p.1≠p.2
theorem lW{ps:List (Int×Int)}(nd:ps.Nodup)(h:∀p∈ps,pW p):ps.length<64:=by
 have e:=xD 63 (ps.map λp=>(8*p.1+p.2).toNat) (by
  unfold List.Nodup
  rw[pairwise_map]
  refine List.Pairwise.imp_of_mem (λ{a b}ha hb hab z=>hab ?_) nd
  obtain⟨a1,a2,a3,a4,_⟩:=h a ha
  obtain⟨b1,b2,b3,b4,_⟩:=h b hb
  have:8*a.1+a.2=8*b.1+b.2:=by lia
  exact Prod.ext (by lia) (by lia)) (λx hx=>by
  obtain⟨p,hp,rfl⟩:=mem_map.mp hx
  obtain⟨a1,a2,a3,a4,_⟩:=h p hp
  show(8*p.1+p.2).toNat<63
  lia)
 rw[length_map]at e
 lia
noncomputable def inN(n:Nat)(p:Int×Int):Prop:=0<=p.1/\p.1<n/\0<=p.2/\p.2<n/\p.1≠p.2
theorem inN.box{n:Nat}(h8:n<=8){p:Int×Int}(h:inN n p):pW p:=by
 obtain⟨a,b,c,d,e⟩:=h
 exact⟨a,by lia,c,by lia,e⟩
theorem wO{n:Nat}{ps:List (Int×Int)}(lo:1<=n)(hi:n<=8)(ix:∀p∈ps,inN n p)(up:ps.Pairwise cV):Ord n ps:=
 ⟨lo,hi,ix,FK up,Nat.le_of_lt (Nat.lt_of_lt_of_le (lW (mI up) λp hp=>(ix p hp).box hi) (by decide))⟩
theorem Ord.box{n:Nat}{ps:List (Int×Int)}(h:Ord n ps){p:Int×Int}(hp:p∈ps):pW p:=inN.box h.hi (h.ix p hp)
theorem Ord.small{n:Nat}{ps:List (Int×Int)}(h:Ord n ps):ps.length<64:=lW (mI (iR h.up)) λ_ hp=>h.box hp
theorem P9{H:Hp}{Q:VK}{p:Addr}{vs:List V}{ps:List (Int×Int)}(e:H p=some (.lst vs)\/H p=some (.tup vs))(hv:IsAll H vs (ps.map aL))(nd:ps.Nodup)(hb:∀p∈ps,pW p)
  (h:∀(l:Addr)(vs':List V)(ps':List (Int×Int)),H l=none->IsAll H vs' (ps'.map aL)->ps'.Perm ps->ps'.Pairwise cV->Q (.ref l) (upd H l (.lst vs'))):uY K [.ref p] H Q:=by
 have tn:∀ps:List (Int×Int),(ps.map λp=>[p.1,p.2]).map (cT [])=ps.map aL:=λps=>by rw[map_map];rfl
 refine⟨p,vs,[],ps.map λp=>[p.1,p.2],2,rfl,e.elim (λe=>.inl (SqL.of e)) (λe=>.inr (SqT.of e)),by rw[tn];exact hv,?_,by decide,?_,by rw[length_map];exact lW nd hb,λl vs' nss' hl ha hp hw=>?_⟩
 ·intro ns hm
  obtain⟨q,_,rfl⟩:=mem_map.mp hm
  rfl
 ·unfold List.Nodup
  rw[pairwise_map]
  refine List.Pairwise.imp (λ{a b}hab z=>hab ?_) nd
  injection z with z1 z2
  injection z2 with z2 _
  exact Prod.ext z1 z2
 ·have key:∀l:List (List Int),(∀ns∈l,∃a b,ns=[a,b])->l=(l.map λns=>(ns.getD 0 0,ns.getD 1 0)).map λp=>[p.1,p.2]:=λl hl=>by
   induction l with
   |nil=>rfl
   |cons x l ih=>
    obtain⟨a,b,rfl⟩:=hl x mem_cons_self
    rw[map_cons,map_cons,<-ih λns hns=>hl ns (mem_cons_of_mem _ hns)]
    rfl
  have e':=key nss' λns hns=>by
   obtain⟨q,_,rfl⟩:=mem_map.mp (hp.mem_iff.mp hns)
   exact⟨_,_,rfl⟩
  generalize nss'.map (λns=>(ns.getD 0 0,ns.getD 1 0))=ps' at e'
  subst e'
  rw[tn]at ha
  have hw':=pairwise_map.mp hw
  refine h l vs' ps' hl ha ?_ hw'
  have h2:=hp.map λns:List Int=>(ns.getD 0 0,ns.getD 1 0)
  rw[map_map,map_map]at h2
  have e1:∀l:List (Int×Int),l.map ((λns:List Int=>(ns.getD 0 0,ns.getD 1 0)) ∘ λp=>[p.1,p.2])=l:=λl=>by
   refine(map_congr_left λp _=>?_).trans (map_id l)
   rfl
  rw[e1,e1]at h2
  exact h2
theorem kG(n m:Nat)(ps qs:List (Int×Int)):PyData.eqv (aX n ps) (aX m qs)=decide (n=m/\ps=qs):=by
 unfold aX
 rw[PyData.eqv,PyData.eqvAll,PyData.eqvAll,PyData.eqvAll,PyData.eqv,PyData.eqv,JU]
 by_cases h:n=m
 ·by_cases h2:ps=qs
  ·subst h h2;simp
  ·simp[h,h2]
 ·have:¬((n:Int)=(m:Int)):=by lia
  simp[h,this]
theorem fB(n:Nat)(ps:List (Int×Int)):bY (aX n ps):=by
 obtain⟨a,b⟩:=TV ps
 have hd:PyData.depth (.tuple (ps.map aL))<=2:=by
  rw[PyData.depth]
  have:PyData.depthAll (ps.map aL)<=1:=by
   clear a b
   induction ps with
   |nil=>exact Nat.zero_le _
   |cons p ps ih=>
    rw[map_cons,PyData.depthAll]
    exact Nat.max_le.mpr ⟨Nat.le_refl _,ih⟩
  lia
 refine⟨?_,?_⟩
 ·unfold aX
  rw[PyData.canLay0,PyData.canLayAll0,PyData.canLayAll0,a]
  rfl
 ·unfold aX
  rw[PyData.depth,PyData.depthAll,PyData.depthAll,PyData.depthAll]
  have:PyData.depth (.int (n:Int))=0:=rfl
  lia
theorem y0:∀as bs:List Int,PyData.eqvAll (as.map .int) (bs.map .int)=decide (as=bs)
 |[],[]=>rfl
 |[],_::_=>rfl
 |_::_,[]=>rfl
 | a::as,b::bs=>by
  rw[map_cons,map_cons,PyData.eqvAll,y0 as bs,PyData.eqv]
  by_cases h:a=b
  ·by_cases h2:as=bs
   ·subst h h2;simp
   ·simp[h,h2]
  ·simp[h]
theorem wW(as:List Int):bY (.list (as.map .int)):=by
 have h1:PyData.canLayAll0 (as.map PyData.int)=true:=by
  induction as with
  |nil=>rfl
  |cons a as ih=>rw[map_cons,PyData.canLayAll0,ih];rfl
 have h2:PyData.depthAll (as.map PyData.int)<=0:=by
  clear h1
  induction as with
  |nil=>exact Nat.le_refl _
  |cons a as ih=>rw[map_cons,PyData.depthAll];exact Nat.max_le.mpr ⟨Nat.le_refl _,ih⟩
 refine⟨?_,?_⟩
 ·rw[PyData.canLay0];exact h1
 ·rw[PyData.depth];lia
theorem NO{k:Int}{n:Nat}(h0:0<=k)(h1:k<n):cE (.int k) 0 ((n:Int)-1)=true:=by
 show(decide (0<=k)&&decide (k<=(n:Int)-1))=true
 rw[decide_eq_true h0,decide_eq_true (by lia)]
 rfl
noncomputable def gI(f:Nat->Nat->Bool)(i j:Nat):List (Int×Int):=if f i j=true then[((i:Int),(j:Int))] else[]
noncomputable def jV(f:Nat->Nat->Bool)(i m:Nat):List (Int×Int):=(range m).flatMap (gI f i)
noncomputable def jW(f:Nat->Nat->Bool)(n m:Nat):List (Int×Int):=(range m).flatMap λi=>jV f i n
theorem Y5(f:Nat->Nat->Bool)(i m:Nat):jV f i (m+1)=jV f i m++gI f i m:=by
 unfold jV
 rw[range_succ,flatMap_append]
 simp
theorem Y6(f:Nat->Nat->Bool)(n m:Nat):jW f n (m+1)=jW f n m++jV f m n:=by
 unfold jW
 rw[range_succ,flatMap_append]
 simp
theorem mem_gI{f:Nat->Nat->Bool}{i j:Nat}{p:Int×Int}:p∈gI f i j<->p=((i:Int),(j:Int))/\f i j=true:=by
 unfold gI
 split
 ·rename_i h
  rw[mem_singleton]
  exact⟨λe=>⟨e,h⟩,λe=>e.1⟩
 ·rename_i h
  exact⟨λe=>(nomatch e),λe=>absurd e.2 h⟩
theorem mem_gRow{f:Nat->Nat->Bool}{i m:Nat}{p:Int×Int}:p∈jV f i m<->∃j,j<m/\p=((i:Int),(j:Int))/\f i j=true:=by
 unfold jV
 rw[mem_flatMap]
 constructor
 ·rintro⟨j,hj,h⟩
  exact⟨j,mem_range.mp hj,mem_gI.mp h⟩
 ·rintro⟨j,hj,h⟩
  exact⟨j,mem_range.mpr hj,mem_gI.mpr h⟩
theorem mem_gAll{f:Nat->Nat->Bool}{n m:Nat}{p:Int×Int}:p∈jW f n m<->∃i j,i<m/\j<n/\p=((i:Int),(j:Int))/\f i j=true:=by
 unfold jW
 rw[mem_flatMap]
 constructor
 ·rintro⟨i,hi,h⟩
  obtain⟨j,hj,e,g⟩:=mem_gRow.mp h
  exact⟨i,j,mem_range.mp hi,hj,e,g⟩
 ·rintro⟨i,j,hi,hj,e,g⟩
  exact⟨i,mem_range.mpr hi,mem_gRow.mpr ⟨j,hj,e,g⟩⟩
theorem JN(f:Nat->Nat->Bool)(i:Nat):∀m,(jV f i m).Pairwise cV
 |0=>.nil
 | m+1=>by
  rw[Y5,pairwise_append]
  refine⟨JN f i m,?_,λp hp q hq=>?_⟩
  ·unfold gI
   split
   ·exact pairwise_singleton _ _
   ·exact .nil
  ·obtain⟨j,hj,rfl,_⟩:=mem_gRow.mp hp
   obtain⟨rfl,_⟩:=mem_gI.mp hq
   exact jT (.inr ⟨rfl,by show(j:Int)<m;lia⟩)
theorem JO(f:Nat->Nat->Bool)(n:Nat):∀m,(jW f n m).Pairwise cV
 |0=>.nil
 |m+1=>by
  rw[Y6,pairwise_append]
  refine⟨JO f n m,JN f m _,λp hp q hq=>?_⟩
  obtain⟨i,j,hi,hj,rfl,_⟩:=mem_gAll.mp hp
  obtain⟨j',_,rfl,_⟩:=mem_gRow.mp hq
  exact jT (.inl (by show(i:Int)<m;lia))
theorem yJ{n:Nat}{ps:List (Int×Int)}(ho:Ord n ps){f:Nat->Nat->Bool}(h:∀i j:Nat,i<n->j<n->f i j=has ps i j):jW f n n=ps:=by
 refine wE (JO f n n) (iR ho.up) λp=>?_
 rw[mem_gAll]
 constructor
 ·rintro⟨i,j,hi,hj,rfl,g⟩
  rw[h i j hi hj]at g
  exact has_iff.mp g
 ·intro hp
  obtain⟨a,b,c,d,_⟩:=ho.ix p hp
  have e1:((p.1.toNat:Nat):Int)=p.1:=Int.toNat_of_nonneg a
  have e2:((p.2.toNat:Nat):Int)=p.2:=Int.toNat_of_nonneg c
  refine⟨p.1.toNat,p.2.toNat,by lia,by lia,by rw[e1,e2],?_⟩
  rw[h _ _ (by lia) (by lia),e1,e2]
  exact has_iff.mpr hp
inductive ER (K:PySem.W.Frag) (vs:List V) (H:Hp) (Q:VK) (zz3:XK):Prop where
 |mk (a ns k:_) (zh0:vs=[.ref a,.int k]) (zh1:Scr K H a ns) (zh2:0<=k) (zh3:∀c H',Same H H'->Q (.int c) H'):ER K vs H Q zz3
theorem int_at{ns:List Int}{k:Int}(h0:0<=k)(h1:k<ns.length):eN (ns.map V.int) k=some (.int (ns.getD k.toNat 0)):=by
 refine atI_of (i:=k.toNat) (by lia) ?_
 rw[List.getElem?_map]
 have:k.toNat<ns.length:=by lia
 simp[this]
theorem UI(T:aR K mg t):FnOk P w K mg base aU 1 t.BU t.AC ["_law_script","_law_k"] (ER K):=by
 refine T.L9.ok O4 (λvs H Q E h=>?_) (λcdv A outer s H vs Q E hr h=>?_)
 ·obtain⟨a,ns,k,rfl,_⟩:=h
  rfl
 ·obtain⟨a,ns,k,rfl,hs,hk,q⟩:=h
  refine⟨_,(aF (aW (aT (S5) (pv 1) (bP (hX K) (by rfl) T.hJ iF (aA (pv 0) pa_nil)) (aY _)) (aD (aP (aN (aO K) (pv 0) (pv 1) (λ_ _=>rfl)))) bB)
   (aF (aW (aT (XY K hr.units0) (pv 0) (eF pa_nil) (aY _)) (aD (aP pe_int)) bB)
   (aD (aP (bF eU (bF j5 (aN (aO K) (pv 0) (bF o7 (pv 1) (bP (hX K) (by rfl) T.hJ iF (aA (pv 0) pa_nil))) (λ_ _=>rfl)) pe_int) (pv 1)))))),?_⟩
  walk_at"rd"
  refine FU hs.sq ?_
  walk_at"rd"
  refine bW (λh1=>?_) (λh1=>?_)
  ·have h1':=of_decide_eq_true h1
   rw[length_map]at h1'
   walk_at"rd"
   refine FV hs.sq (int_at hk h1') ?_
   exact q _ H (Same.refl H)
  ·walk_at"rd"
   refine⟨Nat.zero_le _,λp hp=>?_⟩
   have s1:=Same.upd (o:=.lst []) hp
   walk_at"rd"
   refine⟨a,p,ns,rfl,rfl,(hs.same s1).sq,SqL.of aB,?_⟩
   walk_at"rd"
   refine bW (λh2=>?_) (λh2=>?_)
   ·walk_at"rd"
    exact q _ _ s1
   ·have h2':=of_decide_eq_false h2
    have hl:0<ns.length:=List.length_pos_iff.mpr h2'
    walk_at"rd"
    refine FU (hs.same s1).sq ?_
    rw[length_map]
    refine e6 (by lia) ?_
    refine FV (hs.same s1).sq (int_at (Int.emod_nonneg _ (by lia)) (Int.emod_lt_of_pos _ (by lia))) ?_
    walk_at"rd"
    refine e6 (.inr ⟨by decide,by decide⟩) ?_
    walk_at"rd"
    exact q _ _ s1
inductive EA (K:PySem.W.Frag) (vs:List V) (H:Hp) (Q:VK) (zz3:XK):Prop where
 |mk (a ns k m:_) (zh0:vs=[.ref a,.int k,.int m]) (zh1:Scr K H a ns) (zh2:0<=k) (zh3:0<m) (zh4:∀r H',Same H H'->0<=r->r<m->Q (.int r) H'):EA K vs H Q zz3
theorem UG(T:aR K mg t):FnOk P w K mg base aU 2 t.BQ t.z8 ["_law_script","_law_k","_law_many"] (EA K):=by
 refine T.L7.ok sc__law_mixed (λvs H Q E h=>?_) (λcdv A outer s H vs Q E hr h=>?_)
 ·obtain⟨a,ns,k,m,rfl,_⟩:=h
  rfl
 ·obtain⟨a,ns,k,m,rfl,hs,hk,hm,q⟩:=h
  refine⟨_,(aF (aS (i:=3) sc__law_mixed.nd rfl (Or.inl rfl) (bF o7 (bF j5 (bF eU (bF eU (aQ (UI T) (hr.mono (by decide)) rfl T.WM T.L9.kp T.abQ .nil aM (aA (pv 0) (aA (pv 1) pa_nil))) (bF j5 pe_int (pv 1))) pe_int) pe_int) pe_int))
   (aD (aP (bF o7 (bF o7 (bF eU (bF eU (bF j5 (pv 3) (pv 3)) (bF j5 pe_int (pv 3))) (pv 1)) pe_int) (pv 2))))),?_⟩
  walk_at"rd"
  refine⟨a,ns,k,rfl,hs,hk,λc H1 s1=>?_⟩
  walk_at"rd"
  refine e6 (.inl ⟨by decide,by decide⟩) ?_
  walk_at"rd"
  refine e6 (.inr ⟨by decide,by decide⟩) ?_
  walk_at"rd"
  refine e6 (by decide) ?_
  walk_at"rd"
  have d0:=Int.emod_nonneg ((c+7919*k+1)*48271) (show(2147483647:Int)≠0 by decide)
  have d1:=Int.emod_lt_of_pos ((c+7919*k+1)*48271) (show(0:Int)<2147483647 by decide)
  generalize ((c+7919*k+1)*48271)%2147483647=dr at d0 d1
  refine e6 (.inl ⟨by lia,by lia⟩) ?_
  walk_at"rd"
  refine e6 (.inl ⟨by decide,by decide⟩) ?_
  walk_at"rd"
  refine e6 (by decide) ?_
  walk_at"rd"
  refine e6 hm ?_
  exact q _ H1 s1 (Int.emod_nonneg _ (by lia)) (Int.emod_lt_of_pos _ hm)
inductive EN (K:PySem.W.Frag) (vs:List V) (H:Hp) (Q:VK) (zz3:XK):Prop where
 |mk (a ns tw ts m:_) (zh0:vs=[.ref a,.ref tw,.int m]) (zh1:Scr K H a ns) (zh2:H tw=some (.lst ts)) (zh3:ts.length<=500) (zh4:0<m) (zh5:∀r H' ts',SameT tw H H'->H' tw=some (.lst ts')->ts'.length=ts.length+1->0<=r->r<m->Q (.int r) H'):EN K vs H Q zz3
theorem j6(T:aR K mg t):FnOk P w K mg base aU 3 t.BS t.AA ["_law_script","_law_town","_law_many"] (EN K):=by
 refine T.jX.ok O3 (λvs H Q E h=>?_) (λcdv A outer s H vs Q E hr h=>?_)
 ·obtain⟨a,ns,tw,ts,m,rfl,_⟩:=h
  rfl
 ·obtain⟨a,ns,tw,ts,m,rfl,hs,ht,hl,hm,q⟩:=h
  refine⟨_,(aF (cK (fH K PySem.F.plainAttrs_list PySem.F.slot_list_append PySem.F.type_list_append iY (pv 1) (aA pe_int pa_nil)))
   (aD (aP (aQ (UG T) (hr.mono (by decide)) rfl T.WK T.L7.kp T.abO .nil aM (aA (pv 0) (aA (bP (hX K) (by rfl) T.hJ iF (aA (pv 1) pa_nil)) (aA (pv 2) pa_nil))))))),?_⟩
  walk_at"rd"
  refine⟨eC ht,?_⟩
  walk_at"rd"
  refine gJ ht (gH (by lia)) ?_
  have s1:SameT tw H (upd H tw (.lst (ts++[V.int 0]))):=λb u e g=>by rw[aE g];exact e
  have ht1:upd H tw (.lst (ts++[V.int 0])) tw=some (.lst (ts++[V.int 0])):=aB
  walk_at"rd"
  refine⟨a,ns,_,m,rfl,hs.t ht s1,by lia,hm,λr H2 s2 h0 h1=>?_⟩
  exact q r H2 _ (s1.trans s2.t) (s2 _ _ ht1) (by simp) h0 h1
inductive D3 (K:PySem.W.Frag) (vs:List V) (H:Hp) (Q:VK) (zz3:XK):Prop where
 |mk (a ns tw ts l xs:_) (zh0:vs=[.ref a,.ref tw,.ref l]) (zh1:Scr K H a ns) (zh2:H tw=some (.lst ts)) (zh3:ts.length<=500) (zh4:H l=some (.lst xs)) (zh5:l≠tw) (zh6:0<xs.length) (zh7:∀v H' ts',SameT tw H H'->H' tw=some (.lst ts')->ts'.length=ts.length+1->v∈xs->Q v H'):D3 K vs H Q zz3
theorem HJ(T:aR K mg t):FnOk P w K mg base aU 4 t.BP t.z7 ["_law_script","_law_town","_law_some"] (D3 K):=by
 refine T.CA.ok O2 (λvs H Q E h=>?_) (λcdv A outer s H vs Q E hr h=>?_)
 ·obtain⟨a,ns,tw,ts,l,xs,rfl,_⟩:=h
  rfl
 ·obtain⟨a,ns,tw,ts,l,xs,rfl,hs,ht,hl,el,nl,hx,q⟩:=h
  refine⟨_,(aD (aP (aN (aO K) (pv 2) (aQ (j6 T) (hr.mono (by decide)) rfl T.j9 T.jX.kp T.kK .nil aM (aA (pv 0) (aA (pv 1) (aA (bP (hX K) (by rfl) T.hJ iF (aA (pv 2) pa_nil)) pa_nil)))) (λ_ _=>rfl)))),?_⟩
  walk_at"rd"
  refine⟨a,ns,tw,ts,_,rfl,hs,ht,hl,by lia,λr H1 ts' s1 ht1 hl1 h0 h1=>?_⟩
  have hr':r.toNat<xs.length:=by lia
  refine cA (s1 _ _ el nl) (atI_of (i:=r.toNat) (by lia) (List.getElem?_eq_getElem hr')) ?_
  exact q _ H1 ts' s1 ht1 hl1 (getElem_mem hr')
theorem SameT.of{w:Addr}{H:Hp}{l:Addr}{o:HO}(h:H l=none):SameT w H (upd H l o):=(Same.upd h).t
end
noncomputable abbrev gt(l:List Int)(v:Nat):Int:=l.getD v 0
theorem p5{l:List Int}{j v:Nat}{a:Int}(hj:j<l.length):gt (l.set j a) v=if v=j then a else gt l v:=by
 unfold gt
 rw[List.getD_eq_getElem?_getD,List.getD_eq_getElem?_getD,List.getElem?_set]
 by_cases h:v=j
 ·subst h;simp[hj]
 ·rw[if_neg (Ne.symm h),if_neg h]
noncomputable def cP(ds:List Dm)(x:Nat->Int):Prop:=∀d∈ds,x d.1+d.2.2<=x d.2.1
theorem FQ{s:Rs}{d:Dm}{n:Nat}(hl:s.1.length=n)(hd:d.2.1<n)(v:Nat):gt s.1 v<=gt (aK s d).1 v:=by
 unfold aK
 split
 ·rename_i h
  show gt s.1 v<=gt (s.1.set d.2.1 (s.1.getD d.1 0+d.2.2)) v
  rw[p5 (by lia)]
  split
  ·rename_i e
   subst e
   exact Int.le_of_lt h
  ·exact Int.le_refl _
 ·exact Int.le_refl _
theorem lD{n:Nat}:∀(ds:List Dm)(s:Rs),s.1.length=n->cD n ds->∀v,gt s.1 v<=gt (ds.foldl aK s).1 v
 |[],s,_,_,v=>Int.le_refl _
 |d::ds,s,hl,hd,v=>by
  rw[foldl_cons]
  have a:=FQ hl (hd d mem_cons_self).2 v
  have b:=lD ds (aK s d) ((oH s d).1.trans hl) (λe he=>hd e (mem_cons_of_mem _ he)) v
  exact Int.le_trans a b
theorem PZ{s:Rs}{d:Dm}{n:Nat}{x:Nat->Int}(hl:s.1.length=n)(hd:d.1<n/\d.2.1<n)(hx:x d.1+d.2.2<=x d.2.1)(h:∀v,v<n->gt s.1 v<=x v):∀v,v<n->gt (aK s d).1 v<=x v:=λv hv=>by
 unfold aK
 split
 ·show gt (s.1.set d.2.1 (s.1.getD d.1 0+d.2.2)) v<=x v
  rw[p5 (by lia)]
  split
  ·rename_i e
   subst e
   have:=h d.1 hd.1
   show gt s.1 d.1+d.2.2<=_
   lia
  ·exact h v hv
 ·exact h v hv
theorem mY{n:Nat}{x:Nat->Int}:∀(ds:List Dm)(s:Rs),s.1.length=n->cD n ds->cP ds x->(∀v,v<n->gt s.1 v<=x v)->∀v,v<n->gt (ds.foldl aK s).1 v<=x v
 |[],s,_,_,_,h=>h
 |d::ds,s,hl,hd,hx,h=>by
  rw[foldl_cons]
  exact mY ds (aK s d) ((oH s d).1.trans hl) (λe he=>hd e (mem_cons_of_mem _ he)) (λe he=>hx e (mem_cons_of_mem _ he)) (PZ hl (hd d mem_cons_self) (hx d mem_cons_self) h)
theorem yX{n:Nat}:∀(ds:List Dm)(s:Rs),s.1.length=n->cD n ds->∀d∈ds,gt s.1 d.1+d.2.2<=gt (ds.foldl aK s).1 d.2.1
 |[],s,_,_,d,h=>by cases h
 | e::ds,s,hl,hd,d,h=>by
  rw[foldl_cons]
  have hl':=(oH s e).1.trans hl
  have hd':cD n ds:=λe he=>hd e (mem_cons_of_mem _ he)
  have m1:=FQ hl (hd e mem_cons_self).2 d.1
  rcases mem_cons.mp h with rfl|h'
  ·have m2:=lD ds (aK s d) hl' hd' d.2.1
   have:gt s.1 d.1+d.2.2<=gt (aK s d).1 d.2.1:=by
    unfold aK
    split
    ·show _<=gt (s.1.set d.2.1 (s.1.getD d.1 0+d.2.2)) d.2.1
     rw[p5 (by have:=(hd d mem_cons_self).2;lia),if_pos rfl]
     exact Int.le_refl _
    ·rename_i g
     exact Int.not_lt.mp g
   lia
  ·have:=yX ds (aK s e) hl' hd' d h'
   lia
theorem yW:∀(ds:List Dm)(s:Rs)(k:Int),s.2.2=.int k->∃k',(ds.foldl aK s).2.2=.int k'
 |[],s,k,h=>⟨k,h⟩
 | d::ds,s,k,h=>by
  rw[foldl_cons]
  by_cases g:s.1.getD d.1 0+d.2.2>s.1.getD d.2.1 0
  ·refine yW ds (aK s d) d.2.1 ?_
   unfold aK
   rw[if_pos g]
  ·refine yW ds (aK s d) k ?_
   unfold aK
   rw[if_neg g]
   exact h
theorem yU:∀(ds:List Dm)(s:Rs),(ds.foldl aK s).2.2=.non->ds.foldl aK s=s/\∀d∈ds,gt s.1 d.1+d.2.2<=gt s.1 d.2.1
 |[],s,_=>⟨rfl,λ_ h=>nomatch h⟩
 | d::ds,s,h=>by
  rw[foldl_cons]at h ⊢
  by_cases g:s.1.getD d.1 0+d.2.2>s.1.getD d.2.1 0
  ·obtain⟨k,e⟩:=yW ds (aK s d) d.2.1 (by unfold aK;rw[if_pos g])
   rw[e]at h
   cases h
  ·have e:aK s d=s:=by unfold aK;rw[if_neg g]
   rw[e]at h ⊢
   obtain⟨a,b⟩:=yU ds s h
   refine⟨a,λc hc=>?_⟩
   rcases mem_cons.mp hc with rfl|hc
   ·exact Int.not_lt.mp g
   ·exact b c hc
theorem JQ:∀(ds:List Dm)(s:Rs),(∀d∈ds,gt s.1 d.1+d.2.2<=gt s.1 d.2.1)->ds.foldl aK s=s
 |[],s,_=>rfl
 |d::ds,s,h=>by
  rw[foldl_cons]
  have e:aK s d=s:=by unfold aK;rw[if_neg (Int.not_lt.mpr (h d mem_cons_self))]
  rw[e]
  exact JQ ds s λe he=>h e (mem_cons_of_mem _ he)
theorem FF{n:Nat}{ds:List Dm}(hd:cD n ds):∀(k:Nat)(vals:List Int)(orgs:List V)(r:V),vals.length=n->(1<=k\/r≠.non)->(bD ds k vals orgs r).2.2=.non->
  (bD ds k vals orgs r).1.length=n/\(∀v,gt vals v<=gt (bD ds k vals orgs r).1 v)/\(∀d∈ds,gt (bD ds k vals orgs r).1 d.1+d.2.2<=gt (bD ds k vals orgs r).1 d.2.1)/\
  ∀x,cP ds x->(∀v,v<n->gt vals v<=x v)->∀v,v<n->gt (bD ds k vals orgs r).1 v<=x v
 |0,vals,orgs,r,hl,h,e=>by
  rcases h with h|h
  ·lia
  ·exact absurd e h
 | k+1,vals,orgs,r,hl,_,e=>by
  rw[bD]at e ⊢
  by_cases g:(bL ds vals orgs).2.2=.non
  ·rw[if_pos g]
   obtain⟨a,b⟩:=yU ds _ g
   have ea:(bL ds vals orgs).1=vals:=congrArg (λs:Rs=>s.1) a
   show(bL ds vals orgs).1.length=n/\(∀v,gt vals v<=gt (bL ds vals orgs).1 v)/\(∀d∈ds,gt (bL ds vals orgs).1 d.1+d.2.2<=gt (bL ds vals orgs).1 d.2.1)/\∀x,cP ds x->(∀v,v<n->gt vals v<=x v)->∀v,v<n->gt (bL ds vals orgs).1 v<=x v
   rw[ea]
   exact⟨hl,λv=>Int.le_refl _,b,λx _ h=>h⟩
  ·rw[if_neg g]at e ⊢
   have hl':(bL ds vals orgs).1.length=n:=(uO ds vals orgs).1.trans hl
   obtain⟨a,b,c,d⟩:=FF hd k _ _ _ hl' (.inr g) e
   refine⟨a,λv=>Int.le_trans (lD ds (vals,orgs,.non) hl hd v) (b v),c,λx sx hx=>d x sx (mY ds (vals,orgs,.non) hl hd sx hx)⟩
noncomputable def cnt(n:Nat)(x:Nat->Int)(vals:List Int):Nat:=(range n).countP λv=>decide (gt vals v=x v)
theorem ZW(n:Nat)(x:Nat->Int)(vals:List Int):cnt n x vals<=n:=by
 have:=List.countP_le_length (l:=range n) (p:=λv=>decide (gt vals v=x v))
 rw[length_range]at this
 exact this
theorem ZX{n:Nat}{x:Nat->Int}{vals:List Int}(h:n<=cnt n x vals):∀v,v<n->gt vals v=x v:=by
 have e:(range n).countP (λv=>decide (gt vals v=x v))=(range n).length:=by
  have:=ZW n x vals
  rw[length_range]
  unfold cnt at h this
  lia
 have:=List.countP_eq_length.mp e
 intro v hv
 exact of_decide_eq_true (this v (mem_range.mpr hv))
theorem CV{n:Nat}{ds:List Dm}(hd:cD n ds){x:Nat->Int}(sx:cP ds x)(nx:Nt.NN n x)(mx:∀z,cP ds z->Nt.NN n z->Nt.sumTo x n<=Nt.sumTo z n){F:Nat->Bool}(hF:∃v,v<n/\F v=false)(hp:∀v,v<n->F v=false->0<x v):
  ∃d∈ds,F d.1=true/\F d.2.1=false/\x d.2.1=x d.1+d.2.2:=by
 apply Classical.byContradiction
 intro hno
 obtain⟨v,hv,fv⟩:=hF
 have s2:cP ds (λi=>if F i=true then x i else x i-1):=λd hm=>by
  obtain⟨h1,h2⟩:=hd d hm
  have g:=sx d hm
  show(if F d.1=true then x d.1 else x d.1-1)+d.2.2<=(if F d.2.1=true then x d.2.1 else x d.2.1-1)
  cases f1:F d.1 with
  | true=>
   cases f2:F d.2.1 with
   |true=>simp;exact g
   |false=>
    simp
    by_cases e:x d.2.1=x d.1+d.2.2
    ·exact absurd ⟨d,hm,f1,f2,e⟩ hno
    ·lia
  |false=>
   cases f2:F d.2.1 with
   |true=>simp;lia
   |false=>simp;lia
 have n2:Nt.NN n (λi=>if F i=true then x i else x i-1):=λi hi=>by
  show 0<=(if F i=true then x i else x i-1)
  cases f:F i with
  |true=>simp;exact nx i hi
  |false=>
   simp
   have:=hp i hi f
   lia
 have:=mx _ s2 n2
 have lt:=Nt.DR (x:=x) (y:=λi=>if F i=true then x i else x i-1) (n:=n) (v:=v) (λi _=>by
  show(if F i=true then x i else x i-1)<=x i
  split <;> lia) hv (by
  show(if F v=true then x v else x v-1)<x v
  rw[fv];simp;lia)
 lia
theorem ZV{n:Nat}{ds:List Dm}(hd:cD n ds){x:Nat->Int}(sx:cP ds x)(nx:Nt.NN n x)(mx:∀z,cP ds z->Nt.NN n z->Nt.sumTo x n<=Nt.sumTo z n){vals:List Int}{orgs:List V}(hl:vals.length=n)(h0:∀v,v<n->0<=gt vals v)(hx:∀v,v<n->gt vals v<=x v)
  (hc:cnt n x vals<n):cnt n x vals<cnt n x (bL ds vals orgs).1:=by
 have hF:∃v,v<n/\decide (gt vals v=x v)=false:=by
  apply Classical.byContradiction
  intro hno
  have:(range n).countP (λv=>decide (gt vals v=x v))=(range n).length:=List.countP_eq_length.mpr λv hv=>by
   cases g:decide (gt vals v=x v) with
   |true=>rfl
   |false=>exact absurd ⟨v,mem_range.mp hv,g⟩ hno
  rw[length_range]at this
  unfold cnt at hc
  lia
 obtain⟨d,hm,f1,f2,e⟩:=CV hd sx nx mx (F:=λv=>decide (gt vals v=x v)) hF λv hv g=>by
  have g':=of_decide_eq_false g
  have:=h0 v hv
  have:=hx v hv
  lia
 have f1':gt vals d.1=x d.1:=of_decide_eq_true f1
 have up:∀v,v<n->gt (bL ds vals orgs).1 v<=x v:=mY ds (vals,orgs,.non) hl hd sx hx
 have mo:=lD ds (vals,orgs,V.non) hl hd
 have ge:=yX ds (vals,orgs,V.non) hl hd d hm
 refine Nt.nF (v:=d.2.1) (λi hi g=>?_) (mem_range.mpr (hd d hm).2) f2 ?_
 ·have g':gt vals i=x i:=of_decide_eq_true g
  have a:=up i (mem_range.mp hi)
  have b:=mo i
  refine decide_eq_true ?_
  have b':gt vals i<=gt (bL ds vals orgs).1 i:=b
  lia
 ·refine decide_eq_true ?_
  have a:=up _ (hd d hm).2
  have ge':gt vals d.1+d.2.2<=gt (bL ds vals orgs).1 d.2.1:=ge
  lia
theorem FH{n:Nat}{ds:List Dm}(hd:cD n ds){x:Nat->Int}(sx:cP ds x)(nx:Nt.NN n x)(mx:∀z,cP ds z->Nt.NN n z->Nt.sumTo x n<=Nt.sumTo z n):∀(k:Nat)(vals:List Int)(orgs:List V)(r:V),vals.length=n->(∀v,v<n->0<=gt vals v)->(∀v,v<n->gt vals v<=x v)->
  n<=cnt n x vals+k->(bD ds (k+1) vals orgs r).2.2=.non
 | k,vals,orgs,r,hl,h0,hx,hc=>by
  rw[bD]
  by_cases g:(bL ds vals orgs).2.2=.non
  ·rw[if_pos g]
  ·rw[if_neg g]
   by_cases hall:cnt n x vals<n
   ·match k,hc with
    |0,hc=>lia
    |k+1,hc=>
     have more:=ZV (orgs:=orgs) hd sx nx mx hl h0 hx hall
     refine FH hd sx nx mx k _ _ _ ((uO ds vals orgs).1.trans hl) (λv hv=>?_) (mY ds (vals,orgs,.non) hl hd sx hx) (by lia)
     have:=lD ds (vals,orgs,V.non) hl hd v
     have:=h0 v hv
     show 0<=gt (bL ds vals orgs).1 v
     have e:gt vals v<=gt (bL ds vals orgs).1 v:=by assumption
     lia
   ·exfalso
    apply g
    have ev:=ZX (n:=n) (x:=x) (vals:=vals) (by lia)
    have:bL ds vals orgs=(vals,orgs,.non):=JQ ds _ λd hm=>by
     obtain⟨a,b⟩:=hd d hm
     show gt vals d.1+d.2.2<=gt vals d.2.1
     rw[ev _ a,ev _ b]
     exact sx d hm
    rw[this]
theorem jU(n v:Nat):gt (replicate n (0:Int)) v=0:=by
 unfold gt
 rw[List.getD_eq_getElem?_getD,List.getElem?_replicate]
 split <;> rfl
theorem xP{n:Nat}(hn:1<=n){ds:List Dm}(hd:cD n ds){vals:List Int}(h:lv n ds=some vals):vals.length=n/\(∀v,v<n->0<=gt vals v)/\cP ds (gt vals)/\∀x,cP ds x->Nt.NN n x->∀v,v<n->gt vals v<=x v:=by
 unfold lv at h
 split at h
 ·rename_i e
  cases h
  obtain⟨a,b,c,d⟩:=FF hd n _ _ _ length_replicate (.inl hn) e
  refine⟨a,λv _=>?_,c,λx sx nx=>d x sx λv hv=>?_⟩
  ·have:=b v
   rw[jU]at this
   exact this
  ·rw[jU]
   exact nx v hv
 ·cases h
theorem xQ{n:Nat}(hn:1<=n){ds:List Dm}(hd:cD n ds){x:Nat->Int}(sx:cP ds x)(nx:Nt.NN n x):∃vals,lv n ds=some vals:=by
 have s0:=Nt.lV nx
 obtain⟨y,sy,ny,my⟩:=Nt.W7 (n:=n) (p:=cP ds) (Nt.sumTo x n).toNat x sx nx (by lia)
 have c1:1<=cnt n y (replicate n 0):=by
  have:∃v,v<n/\y v=0:=by
   apply Classical.byContradiction
   intro hno
   obtain⟨d,hm,f1,_⟩:=CV hd sy ny my (F:=λ_=>false) ⟨0,hn,rfl⟩ λv hv _=>by
    have a:=ny v hv
    by_cases e:y v=0
    ·exact absurd ⟨v,hv,e⟩ hno
    ·lia
   cases f1
  obtain⟨v,hv,e⟩:=this
  unfold cnt
  exact List.countP_pos_iff.mpr ⟨v,mem_range.mpr hv,decide_eq_true (by rw[jU,e])⟩
 obtain⟨m,rfl⟩:∃m,n=m+1:=⟨n-1,by lia⟩
 have e:=FH hd sy ny my m (replicate (m+1) 0) (replicate (m+1) .non) .non length_replicate (λv _=>by rw[jU];exact Int.le_refl _) (λv hv=>by rw[jU];exact ny v hv) (by lia)
 exact⟨_,by unfold lv;rw[if_pos e]⟩
structure B0 (ds:List Dm) (s:Rs) (R T:Nat->Nat) (v u:Nat) (b:Int):Prop where
 at':s.2.1[v]? =some (.int (u:Nat))
 mem:(u,v,b)∈ds
 rr:R v<=R u+1
 le:gt s.1 v<=gt s.1 u+b
 lt:T v<T u->gt s.1 v<gt s.1 u+b
structure Gh (n:Nat) (ds:List Dm) (p c:Nat) (pre suf:List Dm) (s:Rs) (R T:Nat->Nat):Prop where
 lv:s.1.length=n
 lo:s.2.1.length=n
 or:∀v,v<n->(s.2.1[v]? =some .non/\R v=0)\/(1<=T v/\∃u b,B0 ds s R T v u b)
 suf:∀d∈suf,R d.1+1<p->gt s.1 d.1+d.2.2<=gt s.1 d.2.1
 pre:∀d∈pre,R d.1<p->gt s.1 d.1+d.2.2<=gt s.1 d.2.1
 rp:∀v,R v<=p
 tc:∀v,T v<=c
 inj:∀a b,1<=T a->T a=T b->a=b
noncomputable def kU(R:Nat->Nat)(v k:Nat):Nat->Nat:=λi=>if i=v then k else R i
theorem fS(R:Nat->Nat)(v k:Nat):kU R v k v=k:=by unfold kU;rw[if_pos rfl]
theorem dI{R:Nat->Nat}{v k i:Nat}(h:i≠v):kU R v k i=R i:=by unfold kU;rw[if_neg h]
theorem YV{n:Nat}{ds:List Dm}(hd:cD n ds)(hne:∀d∈ds,d.1≠d.2.1){p c:Nat}{pre suf:List Dm}{d:Dm}{s:Rs}{R T:Nat->Nat}(hm:d∈ds)(g:Gh n ds p c pre (d::suf) s R T):
  ∃R' T',Gh n ds p (c+1) (pre++[d]) suf (aK s d) R' T'/\((aK s d).2.2=s.2.2\/∃v:Nat,v<n/\(aK s d).2.2=.int v/\R' v=p)/\∀v,R v=p->R' v=p:=by
 obtain⟨h1,h2⟩:=hd d hm
 have hn:=hne d hm
 by_cases h:s.1.getD d.1 0+d.2.2>s.1.getD d.2.1 0
 ·have e:aK s d=(s.1.set d.2.1 (s.1.getD d.1 0+d.2.2),s.2.1.set d.2.1 (.int d.1),.int d.2.1):=by unfold aK;rw[if_pos h]
  rw[e]
  have hu:p<=R d.1+1:=by
   refine Nat.le_of_not_lt λz=>?_
   have:=g.suf d mem_cons_self z
   show False
   have h':gt s.1 d.1+d.2.2>gt s.1 d.2.1:=h
   lia
  have hlt:d.2.1<s.1.length:=by rw[g.lv];exact h2
  have gs:∀w,gt (s.1.set d.2.1 (s.1.getD d.1 0+d.2.2)) w=if w=d.2.1 then gt s.1 d.1+d.2.2 else gt s.1 w:=λw=>p5 hlt
  have up:∀w,gt s.1 w<=gt (s.1.set d.2.1 (s.1.getD d.1 0+d.2.2)) w:=λw=>by
   rw[gs]
   split
   ·rename_i e;subst e;exact Int.le_of_lt h
   ·exact Int.le_refl _
  refine⟨kU R d.2.1 p,kU T d.2.1 (c+1),⟨?_,?_,λv hv=>?_,λx hx hr=>?_,λx hx hr=>?_,λv=>?_,λv=>?_,λa b ha hab=>?_⟩,.inr ⟨d.2.1,h2,rfl,fS _ _ _⟩,λv hv=>?_⟩
  ·show(s.1.set d.2.1 _).length=n
   rw[length_set];exact g.lv
  ·show(s.2.1.set d.2.1 _).length=n
   rw[length_set];exact g.lo
  ·by_cases ev:v=d.2.1
   ·subst ev
    refine .inr ⟨by rw[fS];lia,d.1,d.2.2,?_,hm,?_,?_,?_⟩
    ·show(s.2.1.set d.2.1 (.int d.1))[d.2.1]? =_
     rw[List.getElem?_set_self (by rw[g.lo];exact h2)]
    ·rw[fS,dI hn];exact hu
    ·show gt (s.1.set d.2.1 (s.1.getD d.1 0+d.2.2)) d.2.1<=gt (s.1.set d.2.1 (s.1.getD d.1 0+d.2.2)) d.1+d.2.2
     rw[gs,gs,if_pos rfl,if_neg hn]
     exact Int.le_refl _
    ·rw[fS,dI hn]
     intro z
     have:=g.tc d.1
     lia
   ·rcases g.or v hv with⟨a,b⟩|⟨t1,u,b,o⟩
    ·refine .inl ⟨?_,by rw[dI ev];exact b⟩
     show(s.2.1.set d.2.1 (.int d.1))[v]? =_
     rw[List.getElem?_set_ne (Ne.symm ev)];exact a
    ·refine .inr ⟨by rw[dI ev];exact t1,u,b,?_,o.mem,?_,?_,?_⟩
     ·show(s.2.1.set d.2.1 (.int d.1))[v]? =_
      rw[List.getElem?_set_ne (Ne.symm ev)];exact o.at'
     ·rw[dI ev]
      by_cases eu:u=d.2.1
      ·subst eu;rw[fS];have:=g.rp v;lia
      ·rw[dI eu];exact o.rr
     ·show gt (s.1.set d.2.1 (s.1.getD d.1 0+d.2.2)) v<=gt (s.1.set d.2.1 (s.1.getD d.1 0+d.2.2)) u+b
      rw[gs v,if_neg ev]
      have:=up u
      have:=o.le
      lia
     ·show _->gt (s.1.set d.2.1 (s.1.getD d.1 0+d.2.2)) v<gt (s.1.set d.2.1 (s.1.getD d.1 0+d.2.2)) u+b
      rw[gs v,if_neg ev,dI ev]
      by_cases eu:u=d.2.1
      ·subst eu
       intro _
       rw[gs,if_pos rfl]
       have:=o.le
       have h':gt s.1 d.1+d.2.2>gt s.1 d.2.1:=h
       lia
      ·rw[dI eu,gs u,if_neg eu]
       exact o.lt
  ·have ex:x.1≠d.2.1:=λz=>by rw[z,fS]at hr;lia
   rw[dI ex]at hr
   show gt (s.1.set d.2.1 (s.1.getD d.1 0+d.2.2)) x.1+x.2.2<=gt (s.1.set d.2.1 (s.1.getD d.1 0+d.2.2)) x.2.1
   rw[gs x.1,if_neg ex]
   have:=g.suf x (mem_cons_of_mem _ hx) hr
   have:=up x.2.1
   lia
  ·have ex:x.1≠d.2.1:=λz=>by rw[z,fS]at hr;lia
   rw[dI ex]at hr
   show gt (s.1.set d.2.1 (s.1.getD d.1 0+d.2.2)) x.1+x.2.2<=gt (s.1.set d.2.1 (s.1.getD d.1 0+d.2.2)) x.2.1
   rw[gs x.1,if_neg ex]
   rcases mem_append.mp hx with hx|hx
   ·have:=g.pre x hx hr
    have:=up x.2.1
    lia
   ·rcases mem_singleton.mp hx with rfl
    rw[gs,if_pos rfl]
    exact Int.le_refl _
  ·by_cases ev:v=d.2.1
   ·subst ev;rw[fS];exact Nat.le_refl _
   ·rw[dI ev];exact g.rp v
  ·by_cases ev:v=d.2.1
   ·subst ev;rw[fS];exact Nat.le_refl _
   ·rw[dI ev];have:=g.tc v;lia
  ·by_cases ea:a=d.2.1
   ·by_cases eb:b=d.2.1
    ·rw[ea,eb]
    ·subst ea
     rw[fS,dI eb]at hab
     have:=g.tc b
     lia
   ·by_cases eb:b=d.2.1
    ·subst eb
     rw[fS,dI ea]at hab
     have:=g.tc a
     lia
    ·rw[dI ea]at ha hab
     rw[dI eb]at hab
     exact g.inj a b ha hab
  ·by_cases ev:v=d.2.1
   ·subst ev;rw[fS]
   ·rw[dI ev];exact hv
 ·have e:aK s d=s:=by unfold aK;rw[if_neg h]
  rw[e]
  refine⟨R,T,⟨g.lv,g.lo,g.or,λx hx=>g.suf x (mem_cons_of_mem _ hx),λx hx hr=>?_,g.rp,λv=>Nat.le_succ_of_le (g.tc v),g.inj⟩,.inl rfl,λv h=>h⟩
  rcases mem_append.mp hx with hx|hx
  ·exact g.pre x hx hr
  ·rcases mem_singleton.mp hx with rfl
   exact Int.not_lt.mp h
theorem JJ{n:Nat}{ds:List Dm}(hd:cD n ds)(hne:∀d∈ds,d.1≠d.2.1){p:Nat}:∀(suf pre:List Dm)(c:Nat)(s:Rs)(R T:Nat->Nat),(∀d∈suf,d∈ds)->Gh n ds p c pre suf s R T->(s.2.2=.non\/∃v:Nat,v<n/\s.2.2=.int v/\R v=p)->
  ∃c' R' T',Gh n ds p c' (pre++suf) [] (suf.foldl aK s) R' T'/\((suf.foldl aK s).2.2=.non\/∃v:Nat,v<n/\(suf.foldl aK s).2.2=.int v/\R' v=p)
 |[],pre,c,s,R,T,_,g,h=>⟨c,R,T,by rw[append_nil];exact g,h⟩
 | d::suf,pre,c,s,R,T,hs,g,h=>by
  obtain⟨R',T',g',h',k'⟩:=YV hd hne (hs d mem_cons_self) g
  have:=JJ hd hne suf (pre++[d]) (c+1) (aK s d) R' T' (λx hx=>hs x (mem_cons_of_mem _ hx)) g' (by
   rcases h' with h'|h'
   ·rw[h']
    rcases h with h|⟨v,hv,a,b⟩
    ·exact .inl h
    ·exact .inr ⟨v,hv,a,k' v b⟩
   ·exact .inr h')
  rw[append_assoc]at this
  exact this
theorem JI{n:Nat}{ds:List Dm}(hd:cD n ds)(hne:∀d∈ds,d.1≠d.2.1):∀(k:Nat)(p c:Nat)(s:Rs)(R T:Nat->Nat),Gh n ds (p+1) c [] ds s R T->(s.2.2=.non\/∃v:Nat,v<n/\s.2.2=.int v/\R v=p)->(∀v,R v<=p)->
  (bD ds k s.1 s.2.1 s.2.2).2.2≠.non->∃c' R' T',Gh n ds (p+k+1) c' [] ds (bD ds k s.1 s.2.1 s.2.2) R' T'/\∃v:Nat,v<n/\(bD ds k s.1 s.2.1 s.2.2).2.2=.int v/\R' v=p+k
 |0,p,c,s,R,T,g,h,hp,e=>by
  rw[bD]at e ⊢
  rcases h with h|h
  ·exact absurd h e
  ·exact⟨c,R,T,g,h⟩
 | k+1,p,c,s,R,T,g,h,hp,e=>by
  rw[bD]at e ⊢
  obtain⟨c',R',T',g',h'⟩:=JJ hd hne ds [] c (s.1,s.2.1,.non) R T (λ_ h=>h) ⟨g.lv,g.lo,λv hv=>(g.or v hv).imp id λ⟨a,u,b,o⟩=>⟨a,u,b,o.at',o.mem,o.rr,o.le,o.lt⟩,g.suf,g.pre,g.rp,g.tc,g.inj⟩ (.inl rfl)
  change Gh n ds (p+1) c' ([]++ds) [] (bL ds s.1 s.2.1) R' T' at g'
  by_cases z:(bL ds s.1 s.2.1).2.2=.non
  ·rw[if_pos z]at e
   exact absurd rfl e
  ·rw[if_neg z]at e ⊢
   have g2:Gh n ds (p+1+1) c' [] ds (bL ds s.1 s.2.1) R' T':=⟨g'.lv,g'.lo,g'.or,λd hd' hr=>g'.pre d (by simpa using hd') (by lia),λ_ h=>(nomatch h),λv=>Nat.le_succ_of_le (g'.rp v),g'.tc,g'.inj⟩
   have:=JI hd hne k (p+1) c' (bL ds s.1 s.2.1) R' T' g2 h' g'.rp e
   rw[show p+(k+1)=p+1+k by lia]
   exact this
theorem YW{n:Nat}{ds:List Dm}(hd:cD n ds)(hne:∀d∈ds,d.1≠d.2.1)(e:(bD ds n (replicate n 0) (replicate n .non) .non).2.2≠.non):
  ∃c R T,Gh n ds (n+1) c [] ds (bD ds n (replicate n 0) (replicate n .non) .non) R T/\∃v:Nat,v<n/\(bD ds n (replicate n 0) (replicate n .non) .non).2.2=.int v/\R v=n:=by
 have g:Gh n ds (0+1) 0 [] ds (replicate n 0,replicate n .non,.non) (λ_=>0) (λ_=>0):=⟨length_replicate,length_replicate,λv hv=>.inl ⟨by rw[List.getElem?_replicate,if_pos hv],rfl⟩,λ_ _ h=>absurd h (by lia),λ_ h=>(nomatch h),λ_=>Nat.zero_le _,λ_=>Nat.le_refl _,λ_ _ h=>absurd h (by decide)⟩
 have:=JI hd hne n 0 0 _ _ _ g (.inl rfl) (λ_=>Nat.le_refl _) e
 rw[Nat.zero_add]at this
 exact this
noncomputable def bk(orgs:List V)(v:Nat):Nat:=match orgs[v]? with|some (.int u)=>u.toNat|_=>v
noncomputable def aC(orgs:List V):Nat->Nat->Nat
 |0,v=>v
 |k+1,v=>bk orgs (aC orgs k v)
theorem jE(orgs:List V)(a v:Nat):∀b,aC orgs (a+b) v=aC orgs b (aC orgs a v)
 |0=>rfl
 |b+1=>by show bk orgs (aC orgs (a+b) v)=bk orgs _;rw[jE orgs a v b]
theorem aa0{orgs:List V}{v u:Nat}(h:orgs[v]? =some (.int (u:Nat))):bk orgs v=u:=by
 unfold bk;rw[h];exact Int.toNat_natCast u
theorem SM:∀(n:Nat)(f:Nat->Nat),(∀i,i<=n->f i<n)->∃i j,i<j/\j<=n/\f i=f j:=by
 intro n f h
 by_cases z:∃i j,i<j/\j<=n/\f i=f j
 ·exact z
 ·exfalso
  have nd:((range (n+1)).map f).Nodup:=by
   unfold List.Nodup
   rw[pairwise_map]
   refine List.Pairwise.imp_of_mem ?_ (List.pairwise_lt_range (n:=n+1))
   intro a b ha hb hab e
   exact z ⟨a,b,hab,by have:=mem_range.mp hb;lia,e⟩
  have sub:((range (n+1)).map f)⊆range n:=λx hx=>by
   obtain⟨i,hi,rfl⟩:=mem_map.mp hx
   exact mem_range.mpr (h i (by have:=mem_range.mp hi;lia))
  have:=nd.length_le_of_subset sub
  rw[length_map,length_range,length_range]at this
  lia
structure LD (n:Nat) (ds:List Dm) (orgs:List V) (s c:Nat):Prop where
 c2:2<=c
 cn:c<=n
 ret:aC orgs c s=s
 first:∀i,1<=i->i<c->aC orgs i s≠s
 org:∀i,∃b,orgs[aC orgs i s]? =some (.int (aC orgs (i+1) s:Nat))/\(aC orgs (i+1) s,aC orgs i s,b)∈ds
 dist:∀i j,i<j->j<c->aC orgs i s≠aC orgs j s
theorem PL{n:Nat}{ds:List Dm}(hd:cD n ds)(hne:∀d∈ds,d.1≠d.2.1)(e:(bD ds n (replicate n 0) (replicate n .non) .non).2.2≠.non){orgs:List V}(ho:orgs=(bD ds n (replicate n 0) (replicate n .non) .non).2.1):
  ∃r:Nat,r<n/\(bD ds n (replicate n 0) (replicate n .non) .non).2.2=.int r/\(∀i,orgs[aC orgs i r]? =some (.int (aC orgs (i+1) r:Nat)))/\(∃c,LD n ds orgs (aC orgs n r) c)/\
   ∃(vals:List Int)(T:Nat->Nat),∀i,∃b,(aC orgs (i+1) r,aC orgs i r,b)∈ds/\gt vals (aC orgs i r)<=gt vals (aC orgs (i+1) r)+b/\(T (aC orgs i r)<T (aC orgs (i+1) r)->gt vals (aC orgs i r)<gt vals (aC orgs (i+1) r)+b)/\(T (aC orgs i r)=T (aC orgs (i+1) r)->aC orgs i r=aC orgs (i+1) r):=by
 obtain⟨c,R,T,g,r,hr,er,eR⟩:=YW hd hne e
 have st:∀v,v<n->1<=R v->∃b,B0 ds (bD ds n (replicate n 0) (replicate n .non) .non) R T v (bk orgs v) b/\1<=T v/\bk orgs v<n:=λv hv h1=>by
  rcases g.or v hv with⟨_,h⟩|⟨t1,u,b,o⟩
  ·lia
  ·have:bk orgs v=u:=aa0 (by rw[ho];exact o.at')
   rw[this]
   exact⟨b,o,t1,(hd _ o.mem).1⟩
 have ch:∀i,i<=n->aC orgs i r<n/\n<=R (aC orgs i r)+i:=by
  intro i
  induction i with
  |zero=>intro _;exact⟨hr,by show n<=R r+0;lia⟩
  |succ i ih=>
   intro hi
   obtain⟨a,b⟩:=ih (by lia)
   obtain⟨w,o,_,l⟩:=st _ a (by lia)
   refine⟨l,?_⟩
   show n<=R (bk orgs (aC orgs i r))+(i+1)
   have:=o.rr
   lia
 obtain⟨i,j,hij,hj,ef⟩:=SM n (λi=>aC orgs i r) λi hi=>(ch i hi).1
 have ef':aC orgs i r=aC orgs j r:=ef
 have back:∀m,∃m',m'<j/\aC orgs m r=aC orgs m' r:=by
  intro m
  induction m with
  |zero=>exact⟨0,by lia,rfl⟩
  | succ m ih=>
   obtain⟨m',h1,h2⟩:=ih
   have e2:aC orgs (m+1) r=aC orgs (m'+1) r:=by show bk orgs _=bk orgs _;rw[h2]
   by_cases z:m'+1<j
   ·exact⟨m'+1,z,e2⟩
   ·have:m'+1=j:=by lia
    exact⟨i,hij,by rw[e2,this,ef']⟩
 have all:∀m,aC orgs m r<n/\∃b,B0 ds (bD ds n (replicate n 0) (replicate n .non) .non) R T (aC orgs m r) (aC orgs (m+1) r) b/\1<=T (aC orgs m r):=λm=>by
  obtain⟨m',h1,h2⟩:=back m
  obtain⟨a,b⟩:=ch m' (by lia)
  have e2:aC orgs (m+1) r=bk orgs (aC orgs m' r):=by show bk orgs _=_;rw[h2]
  rw[e2,h2]
  obtain⟨w,o,t1,_⟩:=st _ a (by lia)
  exact⟨a,w,o,t1⟩
 have at':∀m,orgs[aC orgs m r]? =some (.int (aC orgs (m+1) r:Nat)):=λm=>by
  obtain⟨_,b,o,_⟩:=all m
  have:=o.at'
  rw[<-ho]at this
  exact this
 have per:aC orgs (j-i) (aC orgs n r)=aC orgs n r:=by
  rw[<-jE,show n+(j-i)=j+(n-i) by lia,jE,<-ef',<-jE,show i+(n-i)=n by lia]
 have ex:∃c,1<=c/\c<=n/\aC orgs c (aC orgs n r)=aC orgs n r/\∀k,1<=k->k<c->aC orgs k (aC orgs n r)≠aC orgs n r:=by
  have:∀m,1<=m->m<=n->aC orgs m (aC orgs n r)=aC orgs n r->∃c,1<=c/\c<=n/\aC orgs c (aC orgs n r)=aC orgs n r/\∀k,1<=k->k<c->aC orgs k (aC orgs n r)≠aC orgs n r:=by
   intro m
   induction m using Nat.strongRecOn with
   | _ m ih=>
    intro h1 h2 h3
    by_cases z:∃k,1<=k/\k<m/\aC orgs k (aC orgs n r)=aC orgs n r
    ·obtain⟨k,k1,k2,k3⟩:=z
     exact ih k k2 k1 (by lia) k3
    ·exact⟨m,h1,h2,h3,λk k1 k2 k3=>z ⟨k,k1,k2,k3⟩⟩
  exact this (j-i) (by lia) (by lia) per
 obtain⟨c0,c1,cn,cr,cf⟩:=ex
 refine⟨r,hr,er,at',⟨c0,⟨?_,cn,cr,cf,λm=>?_,λa b hab hb z=>?_⟩⟩,(bD ds n (replicate n 0) (replicate n .non) .non).1,T,λm=>?_⟩
 ·refine Nat.le_of_not_lt λz=>?_
  have e1:c0=1:=by lia
  subst e1
  obtain⟨_,b,o,_⟩:=all n
  have:=hne _ o.mem
  exact this cr
 ·rw[<-jE,<-jE]
  obtain⟨_,b,o,_⟩:=all (n+m)
  exact⟨b,at' (n+m),o.mem⟩
 ·
  have e1:aC orgs (c0-b) (aC orgs a (aC orgs n r))=aC orgs (c0-b) (aC orgs b (aC orgs n r)):=by rw[z]
  have e2:aC orgs (a+(c0-b)) (aC orgs n r)=aC orgs (b+(c0-b)) (aC orgs n r):=by rw[jE,jE];exact e1
  rw[show b+(c0-b)=c0 by lia,cr]at e2
  exact cf (a+(c0-b)) (by lia) (by lia) e2
 ·obtain⟨_,b,o,t1⟩:=all m
  exact⟨b,o.mem,o.le,o.lt,λz=>g.inj _ _ t1 z⟩
theorem mem_dm{n:Nat}{ps:List (Int×Int)}{st:Int}{d:Dm}:d∈dS n ps st n<->d.1<n/\d.2.1<n/\d.1≠d.2.1/\dC ps st d.1 d.2.1=some d.2.2:=by
 unfold dS gO
 rw[mem_flatMap]
 constructor
 ·rintro⟨i,hi,h⟩
  obtain⟨j,hj,h⟩:=mem_flatMap.mp h
  unfold fM at h
  split at h
  ·cases h
  ·rename_i hne
   split at h
   ·rename_i k e
    rcases mem_singleton.mp h with rfl
    exact⟨mem_range.mp hi,mem_range.mp hj,hne,e⟩
   ·cases h
 ·rintro⟨hi,hj,hne,e⟩
  refine⟨d.1,mem_range.mpr hi,mem_flatMap.mpr ⟨d.2.1,mem_range.mpr hj,?_⟩⟩
  unfold fM
  rw[if_neg hne,e]
  exact mem_singleton.mpr rfl
theorem J3{n:Nat}{ps:List (Int×Int)}{st:Int}:∀d∈dS n ps st n,d.1≠d.2.1:=λd h=>(mem_dm.mp h).2.2.1
noncomputable def lX(orgs:List V)(s c:Nat):List Nat:=((range c).map λi=>aC orgs i s).reverse
theorem uQ(orgs:List V)(s c:Nat):(lX orgs s c).length=c:=by simp[lX]
theorem jM{orgs:List V}{s c i:Nat}(h:i<c):(lX orgs s c)[i]? =some (aC orgs (c-1-i) s):=by
 unfold lX
 rw[List.getElem?_reverse (by simpa using h),List.getElem?_map,length_map,length_range,List.getElem?_range (by lia)]
 rfl
structure RB (n:Nat) (ds:List Dm) (orgs:List V) (r c:Nat):Prop where
 lo:orgs.length=n
 rn:r<n
 at':∀i,orgs[aC orgs i r]? =some (.int (aC orgs (i+1) r:Nat))
 rnd:LD n ds orgs (aC orgs n r) c
 val:∃(vals:List Int)(T:Nat->Nat),∀i,∃b,(aC orgs (i+1) r,aC orgs i r,b)∈ds/\gt vals (aC orgs i r)<=gt vals (aC orgs (i+1) r)+b/\(T (aC orgs i r)<T (aC orgs (i+1) r)->gt vals (aC orgs i r)<gt vals (aC orgs (i+1) r)+b)/\(T (aC orgs i r)=T (aC orgs (i+1) r)->aC orgs i r=aC orgs (i+1) r)
noncomputable def nS(n:Nat)(ds:List Dm)(th:List Nat):Prop:=∃orgs r c,RB n ds orgs r c/\th=lX orgs (aC orgs n r) c
theorem JB{n:Nat}{ds:List Dm}{th:List Nat}(h:nS n ds th):2<=th.length/\th.length<=n:=by
 obtain⟨orgs,r,c,R,rfl⟩:=h
 rw[uQ]
 exact⟨R.rnd.c2,R.rnd.cn⟩
theorem mP{n:Nat}{ds:List Dm}{th:List Nat}(h:nS n ds th){i:Nat}(hi:i<th.length):∃a b k,th[i]? =some a/\th[(i+1)%th.length]? =some b/\(a,b,k)∈ds:=by
 obtain⟨orgs,r,c,R,rfl⟩:=h
 rw[uQ]at hi ⊢
 by_cases z:i+1<c
 ·rw[Nat.mod_eq_of_lt z,jM hi,jM z]
  obtain⟨k,_,m⟩:=R.rnd.org (c-1-(i+1))
  rw[show c-1-(i+1)+1=c-1-i by lia]at m
  exact⟨_,_,k,rfl,rfl,m⟩
 ·have e:i+1=c:=by lia
  rw[e,Nat.mod_self,jM hi,jM (by lia)]
  obtain⟨k,_,m⟩:=R.rnd.org (c-1)
  rw[show c-1+1=c by lia,R.rnd.ret]at m
  rw[show c-1-i=0 by lia]
  exact⟨_,_,k,rfl,rfl,m⟩
noncomputable def nI(th:List Nat):List V:=th.map λ(i:Nat)=>V.int (i:Int)
noncomputable def eS(K:Nat->Int):Nat->Int
 |0=>0
 |m+1=>eS K m+K m
theorem CW{f K:Nat->Int}:∀m,(∀j,j<m->f j<=f (j+1)+K j)->f 0-f m<=eS K m/\((∃j,j<m/\f j<f (j+1)+K j)->f 0-f m<eS K m)
 |0,_=>⟨by simp[eS],λ⟨j,h,_⟩=>absurd h (Nat.not_lt_zero _)⟩
 | m+1,h=>by
  obtain⟨a,b⟩:=CW m λj hj=>h j (by lia)
  have hm:=h m (by lia)
  refine⟨by rw[eS];lia,?_⟩
  rintro⟨j,hj,hs⟩
  rw[eS]
  by_cases z:j<m
  ·have:=b ⟨j,z,hs⟩
   lia
  ·have e:j=m:=by lia
   subst e
   lia
theorem sI(K:Nat->Int):∀m,((range m).map K).sum=eS K m
 |0=>rfl
 |m+1=>by rw[range_succ,map_append,sum_append,sI K m,eS];simp
theorem DQ:∀l:List Int,l.reverse.sum=l.sum
 |[]=>rfl
 |a::l=>by rw[reverse_cons,sum_append,DQ l,List.sum_cons];simp;lia
theorem X8{n:Nat}{ds:List Dm}(hne:∀d∈ds,d.1≠d.2.1){th:List Nat}(h:nS n ds th){K:Nat->Int}
  (hK:∀(i a b:Nat)(k:Int),i<th.length->th[i]? =some a->th[(i+1)%th.length]? =some b->(a,b,k)∈ds->k<=K i):0<((range th.length).map K).sum:=by
 obtain⟨orgs,r,c,R,rfl⟩:=h
 rw[uQ]at hK ⊢
 have c2:=R.rnd.c2
 obtain⟨vals,T,hv⟩:=R.val
 have X:∀j,aC orgs j (aC orgs n r)=aC orgs (n+j) r:=λj=>(jE orgs n r j).symm
 let J:Nat->Nat:=λj=>if j+1<c then c-2-j else c-1
 have st:∀j,j<c->∃b,(aC orgs (n+(j+1)) r,aC orgs (n+j) r,b)∈ds/\b<=K (J j)/\gt vals (aC orgs (n+j) r)<=gt vals (aC orgs (n+(j+1)) r)+b/\(T (aC orgs (n+j) r)<T (aC orgs (n+(j+1)) r)->gt vals (aC orgs (n+j) r)<gt vals (aC orgs (n+(j+1)) r)+b):=λj hj=>by
  obtain⟨b,h1,h2,h3,_⟩:=hv (n+j)
  refine⟨b,h1,?_,h2,h3⟩
  by_cases z:j+1<c
  ·have e:J j=c-2-j:=if_pos z
   rw[e]
   refine hK (c-2-j) _ _ b (by lia) (jM (by lia)) ?_ (by
    rw[X,show n+(c-1-(c-2-j))=n+(j+1) by lia]
    exact h1)
   rw[Nat.mod_eq_of_lt (by lia),jM (by lia),X,show n+(c-1-(c-2-j+1))=n+j by lia]
  ·have e:J j=c-1:=if_neg z
   have ej:j=c-1:=by lia
   subst ej
   rw[e]
   have er:aC orgs (n+(c-1+1)) r=aC orgs n r:=by
    rw[show c-1+1=c by lia,<-X]
    exact R.rnd.ret
   refine hK (c-1) (aC orgs n r) _ b (by lia) ?_ ?_ (by rw[<-er];exact h1)
   ·rw[jM (by lia),show c-1-(c-1)=0 by lia]
    rfl
   ·rw[show c-1+1=c by lia,Nat.mod_self,jM (by lia),X,show n+(c-1-0)=n+(c-1) by lia]
 have cyc:aC orgs (n+c) r=aC orgs (n+0) r:=by rw[<-X,R.rnd.ret];rfl
 have key:=CW (f:=λj=>gt vals (aC orgs (n+j) r)) (K:=λj=>K (J j)) c λj hj=>by
  obtain⟨b,_,h1,h2,_⟩:=st j hj
  show gt vals (aC orgs (n+j) r)<=gt vals (aC orgs (n+(j+1)) r)+K (J j)
  lia
 have strict:∃j,j<c/\gt vals (aC orgs (n+j) r)<gt vals (aC orgs (n+(j+1)) r)+K (J j):=by
  by_cases z:∃j,j<c/\T (aC orgs (n+j) r)<T (aC orgs (n+(j+1)) r)
  ·obtain⟨j,hj,ht⟩:=z
   obtain⟨b,_,h1,_,h3⟩:=st j hj
   have:=h3 ht
   exact⟨j,hj,by lia⟩
  ·exfalso
   have dn:∀j,j<c->T (aC orgs (n+(j+1)) r)<=T (aC orgs (n+j) r):=λj hj=>Nat.le_of_not_lt λy=>z ⟨j,hj,y⟩
   have dn2:∀m,m+1<=c->T (aC orgs (n+(m+1)) r)<=T (aC orgs (n+1) r):=by
    intro m
    induction m with
    |zero=>intro _;exact Nat.le_refl _
    |succ m ih=>intro hm;exact Nat.le_trans (dn (m+1) (by lia)) (ih (by lia))
   have e1:=dn2 (c-1) (by lia)
   rw[show c-1+1=c by lia,cyc]at e1
   have e2:=dn 0 (by lia)
   obtain⟨b,h1,_,_,h4⟩:=hv (n+0)
   have e3:=h4 (Nat.le_antisymm e1 e2)
   exact hne _ h1 e3.symm
 have tot:=key.2 strict
 have e0:gt vals (aC orgs (n+0) r)-gt vals (aC orgs (n+c) r)=0:=by rw[cyc];lia
 have tot':gt vals (aC orgs (n+0) r)-gt vals (aC orgs (n+c) r)<eS (λj=>K (J j)) c:=tot
 rw[e0]at tot'
 have es:((range c).map K).sum=eS (λj=>K (J j)) c:=by
  obtain⟨m,rfl⟩:∃m,c=m+1:=⟨c-1,by lia⟩
  rw[range_succ,map_append,sum_append,eS]
  have eJ:J m=m:=by
   show(if m+1<m+1 then _ else _)=_
   rw[if_neg (Nat.lt_irrefl _)]
   rfl
  have e4:eS (λj=>K (J j)) m=((range m).map K).sum:=by
   rw[<-sI,<-DQ]
   congr 1
   refine List.ext_getElem? λi=>?_
   by_cases hi:i<m
   ·rw[List.getElem?_reverse (by simpa using hi),List.getElem?_map,List.getElem?_map,length_map,length_range,List.getElem?_range (by lia),List.getElem?_range hi]
    show some (K (J (m-1-i)))=some (K i)
    have:J (m-1-i)=i:=by
     show(if m-1-i+1<m+1 then m+1-2-(m-1-i) else m+1-1)=i
     rw[if_pos (by lia)]
     lia
    rw[this]
   ·rw[List.getElem?_eq_none (by simp;lia),List.getElem?_eq_none (by simp;lia)]
  rw[e4]
  show _+_=_+K (J m)
  rw[eJ]
  simp
 rw[es]
 exact tot'
noncomputable def Rl(s0:Int)(line:List Int)(i j:Nat):Prop:=gt line j-gt line i>=s0
theorem W1(s0:Int)(line:List Int):Nt.jJ line.length (Rl s0 line) s0 (gt line):=λi j _ _=>Iff.rfl
theorem OE{s0 st:Int}(h0:1<=s0)(hs:1<=st){line:List Int}{x:Nat->Int}:cP (dS line.length (gS s0 line) st line.length) x<->Nt.jJ line.length (Rl s0 line) st x:=by
 have hasR:∀i j:Nat,i<line.length->j<line.length->(has (gS s0 line) i j=true<->Rl s0 line i j):=λi j hi hj=>by
  rw[YN hi hj]
  exact decide_eq_true_iff
 constructor
 ·intro h i j hi hj
  have up:∀a b:Nat,a<line.length->b<line.length->Rl s0 line a b->x a+st<=x b:=λa b ha hb r=>by
   have hne:a≠b:=by intro e;subst e;unfold Rl at r;lia
   refine h (a,b,st) (mem_dm.mpr ⟨ha,hb,hne,?_⟩)
   unfold dC
   rw[if_pos ((hasR a b ha hb).mpr r)]
  constructor
  ·intro g
   apply Classical.byContradiction
   intro nr
   by_cases hne:i=j
   ·subst hne;lia
   ·by_cases r2:Rl s0 line j i
    ·have:=up j i hj hi r2
     lia
    ·have n1:¬has (gS s0 line) j i=true:=λz=>r2 ((hasR j i hj hi).mp z)
     have n2:¬has (gS s0 line) i j=true:=λz=>nr ((hasR i j hi hj).mp z)
     have:=h (j,i,1-st) (mem_dm.mpr ⟨hj,hi,λe=>hne e.symm,by unfold dC;rw[if_neg n1,if_neg n2]⟩)
     have this':x j+(1-st)<=x i:=this
     lia
  ·intro r
   have:=up i j hi hj r
   lia
 ·intro h d hd
  obtain⟨hi,hj,hne,e⟩:=mem_dm.mp hd
  unfold dC at e
  by_cases r1:has (gS s0 line) d.1 d.2.1=true
  ·rw[if_pos r1]at e
   have:=(h d.1 d.2.1 hi hj).mpr ((hasR _ _ hi hj).mp r1)
   have:st=d.2.2:=Option.some.inj e
   lia
  ·rw[if_neg r1]at e
   by_cases r2:has (gS s0 line) d.2.1 d.1=true
   ·rw[if_pos r2]at e;cases e
   ·rw[if_neg r2]at e
    have g:¬(x d.1-x d.2.1>=st):=λz=>r2 ((hasR _ _ hj hi).mpr ((h d.2.1 d.1 hj hi).mp z))
    have:1-st=d.2.2:=Option.some.inj e
    lia
section
variable{s0:Int}{line:List Int}(h0:1<=s0)(h1:1<=line.length)
include h0 h1
theorem UU{st:Int}(hs:1<=st){x:Nat->Int}(hx:Nt.jJ line.length (Rl s0 line) st x)(nx:Nt.NN line.length x):∃vals,cN line.length (gS s0 line) st=some vals:=
 xQ h1 (lH _ _ _) ((OE h0 hs).mpr hx) nx
end
theorem G7{n:Nat}{ps:List (Int×Int)}(ho:Ord n ps)(a:Int):has ps a a=false:=by
 cases h:has ps a a with
 |false=>rfl
 |true=>exact absurd rfl (ho.ix _ (of_decide_eq_true h)).2.2.2.2
theorem iI{α:Type}{l:List α}{p:α->Bool}(h:l.any p=false){x:α}(hx:x∈l):p x=false:=by
 cases e:p x with
 |false=>rfl
 |true=>rw[any_eq_true.mpr ⟨x,hx,e⟩]at h;cases h
theorem OF{n:Nat}{ps:List (Int×Int)}(ho:Ord n ps)(hb:cB n ps=false):Wk.Sm n (λa b=>has ps a b=true):=by
 unfold cB at hb
 rw[Bool.or_eq_false_iff]at hb
 refine⟨λa _ h=>(by rw[G7 ho]at h;cases h),λa b c d ha hb' hc hd h1 h2=>?_,λa b c d ha hb' hc hd h1 h2=>?_⟩
 ·have:=iI (iI hb.1 (of_decide_eq_true h1)) (of_decide_eq_true h2)
  unfold jG at this
  dsimp only at this
  rw[h1,h2]at this
  cases e1:has ps a d with
  |true=>exact .inl rfl
  |false=>
   cases e2:has ps c b with
   |true=>exact .inr rfl
   |false=>rw[e1,e2]at this;cases this
 ·have:=iI (iI (iI hb.2 (of_decide_eq_true h1)) (mem_range.mpr hc)) (mem_range.mpr hd)
  unfold iG at this
  dsimp only at this
  rw[h1,h2]at this
  cases e1:has ps a d with
  |true=>exact .inl rfl
  |false=>
   cases e2:has ps d c with
   |true=>exact .inr rfl
   |false=>rw[e1,e2]at this;cases this
theorem FG(ds:List Dm):∀(k:Nat)(vals:List Int)(orgs:List V)(r:V),(bD ds k vals orgs r).1.length=vals.length/\(bD ds k vals orgs r).2.1.length=orgs.length
 |0,_,_,_=>⟨rfl,rfl⟩
 | k+1,vals,orgs,r=>by
  rw[bD]
  have h:=uO ds vals orgs
  split
  ·exact h
  ·have:=FG ds k (bL ds vals orgs).1 (bL ds vals orgs).2.1 (bL ds vals orgs).2.2
   exact⟨this.1.trans h.1,this.2.trans h.2⟩
theorem PM{n:Nat}{ds:List Dm}(hd:cD n ds)(hne:∀d∈ds,d.1≠d.2.1)(h:lv n ds=none):∃th,nS n ds th:=by
 have e:(bD ds n (replicate n 0) (replicate n .non) .non).2.2≠.non:=λz=>by
  unfold lv at h
  rw[if_pos z]at h
  cases h
 obtain⟨r,hr',er,at',⟨c,R⟩,vals,T',hval⟩:=PL hd hne e rfl
 exact⟨_,_,r,c,⟨by rw[(FG ds n _ _ _).2,length_replicate],hr',at',R,vals,T',hval⟩,rfl⟩
noncomputable def bS(ps:List (Int×Int))(th:List Nat):Nat->List Bool
 |0=>[]
 |m+1=>bS ps th m++[has ps (th.getD m 0) (th.getD ((m+1)%th.length) 0)]
theorem FD(ps:List (Int×Int))(th:List Nat):∀m,(bS ps th m).length=m
 |0=>rfl
 |m+1=>by rw[bS,length_append,FD ps th m];rfl
theorem FC(ps:List (Int×Int))(th:List Nat)(st:Int):∀m,eS (λi=>if has ps (th.getD i 0) (th.getD ((i+1)%th.length) 0)=true then st else 1-st) m=(Wk.nt (bS ps th m):Int)*st+(Wk.nf (bS ps th m):Int)*(1-st)
 |0=>by simp[eS,bS,Wk.nt,Wk.nf]
 | m+1=>by
  rw[eS,FC ps th st m,bS,Wk.iW,Wk.iX]
  cases e:has ps (th.getD m 0) (th.getD ((m+1)%th.length) 0) with
  |true=>
   rw[if_pos rfl,show Wk.nt [true]=1 from rfl,show Wk.nf [true]=0 from rfl]
   rw[show((Wk.nt (bS ps th m)+1:Nat):Int)=(Wk.nt (bS ps th m):Int)+1 by lia,Int.add_mul]
   rw[Nat.add_zero]
   lia
  |false=>
   rw[if_neg Bool.false_ne_true,show Wk.nt [false]=0 from rfl,show Wk.nf [false]=1 from rfl]
   rw[show((Wk.nf (bS ps th m)+1:Nat):Int)=(Wk.nf (bS ps th m):Int)+1 by lia,Int.add_mul]
   rw[Nat.add_zero]
   lia
theorem iB{th:List Nat}{i a:Nat}(h:th[i]? =some a):th.getD i 0=a:=by
 rw[List.getD_eq_getElem?_getD,h]
 rfl
theorem uP{n:Nat}{ps:List (Int×Int)}{st:Int}{th:List Nat}(h:nS n (dS n ps st n) th):∀m,m<=th.length->Wk.W n (λa b=>has ps a b=true) (th.getD 0 0) (th.getD (m%th.length) 0) (bS ps th m)
 |0,_=>by
  obtain⟨l2,_⟩:=JB h
  obtain⟨a,b,k,h1,h2,h3⟩:=mP h (i:=0) (by lia)
  rw[Nat.zero_mod]
  refine .nil ?_
  rw[iB h1]
  exact(mem_dm.mp h3).1
 | m+1,hm=>by
  obtain⟨a,b,k,h1,h2,h3⟩:=mP h (i:=m) (by lia)
  have w:=uP h m (by lia)
  rw[Nat.mod_eq_of_lt (by lia)]at w
  rw[bS]
  refine w.app ?_
  rw[iB h1,iB h2]
  obtain⟨x1,x2,x3,x4⟩:=mem_dm.mp h3
  dsimp only at x1 x2 x3 x4
  cases e:has ps a b with
  |true=>exact .up x1 e (.nil x2)
  |false=>
   refine .fl x1 ?_ (.nil x2)
   intro z
   have z':has ps b a=true:=z
   unfold dC at x4
   rw[e,z']at x4
   cases x4
theorem PX{n:Nat}{ps:List (Int×Int)}(ho:Ord n ps)(hb:cB n ps=false){st:Int}(h4:4<=st):∃vals,cN n ps st=some vals:=by
 cases e:cN n ps st with
 |some v=>exact⟨v,rfl⟩
 | none=>
  exfalso
  obtain⟨th,h⟩:=PM (lH n ps st) J3 e
  obtain⟨l2,ln⟩:=JB h
  have n8:=ho.hi
  have sm:=OF ho hb
  have w:=uP h th.length (Nat.le_refl _)
  rw[Nat.mod_self]at w
  have hs:=X8 J3 h (K:=λi=>if has ps (th.getD i 0) (th.getD ((i+1)%th.length) 0)=true then st else 1-st) λi a b k hi h1 h2 h3=>by
   obtain⟨_,_,_,x4⟩:=mem_dm.mp h3
   dsimp only at x4 ⊢
   rw[iB h1,iB h2]
   unfold dC at x4
   cases e:has ps a b with
   |true=>rw[e]at x4;injection x4 with x4;rw[if_pos rfl];exact Int.le_of_eq x4.symm
   |false=>
    rw[e]at x4
    rw[if_neg Bool.false_ne_true]at x4 ⊢
    split at x4
    ·cases x4
    ·injection x4 with x4;exact Int.le_of_eq x4.symm
  rw[sI,FC]at hs
  have hl:=FD ps th th.length
  have mZ:Wk.nt (bS ps th th.length)<Wk.nf (bS ps th th.length):=by
   rcases Nat.lt_trichotomy (Wk.nt (bS ps th th.length)) (Wk.nf (bS ps th th.length)) with g|g|g
   ·exact g
   ·exfalso
    have ex:∃m,m<th.length/\has ps (th.getD m 0) (th.getD ((m+1)%th.length) 0)=false:=by
     apply Classical.byContradiction
     intro z
     have all:∀m,m<=th.length->Wk.nf (bS ps th m)=0/\Wk.nt (bS ps th m)=m:=by
      intro m
      induction m with
      |zero=>intro _;exact⟨rfl,rfl⟩
      | succ m ih=>
       intro hm
       obtain⟨i1,i2⟩:=ih (by lia)
       have e:has ps (th.getD m 0) (th.getD ((m+1)%th.length) 0)=true:=by
        cases e:has ps (th.getD m 0) (th.getD ((m+1)%th.length) 0) with
        |true=>rfl
        |false=>exact absurd ⟨m,by lia,e⟩ z
       rw[bS,e,Wk.iX,Wk.iW,i1,i2]
       exact⟨rfl,rfl⟩
     obtain⟨i1,i2⟩:=all th.length (Nat.le_refl _)
     lia
    obtain⟨m,hm,em⟩:=ex
    have w1:=uP h m (by lia)
    rw[Nat.mod_eq_of_lt hm]at w1
    have sp:∀k,m+1+k<=th.length->∃v,bS ps th (m+1+k)=bS ps th m++(false::v)/\Wk.W n (λa b=>has ps a b=true) (th.getD ((m+1)%th.length) 0) (th.getD ((m+1+k)%th.length) 0) v:=by
     intro k
     induction k with
     |zero=>
      intro _
      refine⟨[],by rw[Nat.add_zero,bS,em],?_⟩
      obtain⟨a,b,k,h1,h2,h3⟩:=mP h (i:=m) hm
      rw[Nat.add_zero,iB h2]
      exact .nil (mem_dm.mp h3).2.1
     | succ k ih=>
      intro hk
      obtain⟨v,e1,e2⟩:=ih (by lia)
      obtain⟨a,b,j,h1,h2,h3⟩:=mP h (i:=m+1+k) (by lia)
      obtain⟨x1,x2,x3,x4⟩:=mem_dm.mp h3
      dsimp only at x1 x2 x3 x4
      refine⟨v++[has ps (th.getD (m+1+k) 0) (th.getD ((m+1+k+1)%th.length) 0)],?_,?_⟩
      ·rw[show m+1+(k+1)=m+1+k+1 by lia,bS,e1,append_assoc,List.cons_append]
      ·rw[Nat.mod_eq_of_lt (by lia:m+1+k<th.length)]at e2
       refine e2.app ?_
       rw[show m+1+(k+1)=m+1+k+1 by lia,iB h1,iB h2]
       cases e:has ps a b with
       |true=>exact .up x1 e (.nil x2)
       |false=>
        refine .fl x1 ?_ (.nil x2)
        intro z
        have z':has ps b a=true:=z
        unfold dC at x4
        rw[e,z']at x4
        cases x4
    obtain⟨v,e1,w2⟩:=sp (th.length-(m+1)) (by lia)
    rw[show m+1+(th.length-(m+1))=th.length by lia]at e1 w2
    rw[Nat.mod_self]at w2
    rw[e1,Wk.iW,Wk.iX,show(false::v)=[false]++v from rfl,Wk.iW,Wk.iX,show Wk.nt [false]=0 from rfl,show Wk.nf [false]=1 from rfl]at g
    have up:=Wk.rV sm _ _ (Nat.le_refl _) (by rw[Wk.iW,Wk.iX];lia) (w2.app w1)
    obtain⟨a,b,j,h1,h2,h3⟩:=mP h (i:=m) hm
    obtain⟨x1,x2,x3,x4⟩:=mem_dm.mp h3
    dsimp only at x1 x2 x3 x4
    rw[iB h1,iB h2]at up em
    unfold dC at x4
    rw[em,up]at x4
    cases x4
   ·have:=Wk.rV sm _ _ (Nat.le_refl _) g w
    exact absurd this (sm.irr _ w.fst)
  have tot:(Wk.nt (bS ps th th.length))+(Wk.nf (bS ps th th.length))=th.length:=by
   have h1:=List.length_eq_countP_add_countP (l:=bS ps th th.length) id
   have h2:Wk.nf (bS ps th th.length)=List.countP (λa=>decide ¬id a=true) (bS ps th th.length):=by
    unfold Wk.nf
    refine List.countP_congr ?_
    intro x _
    cases x <;> simp
   have h3:Wk.nt (bS ps th th.length)=List.countP id (bS ps th th.length):=rfl
   lia
  generalize Wk.nt (bS ps th th.length)=p at *
  generalize Wk.nf (bS ps th th.length)=q at *
  have hp:p<=3:=by lia
  have hq:(q:Int)*(1-st)<=((p:Int)+1)*(1-st):=by
   have:((q:Int)-(p+1))*(st-1)>=0:=Int.mul_nonneg (by lia) (by lia)
   have e1:((q:Int)-(p+1))*(st-1)=(p+1)*(1-st)-q*(1-st):=by
    rw[Int.sub_mul,show st-1=-(1-st) by lia,Int.mul_neg,Int.mul_neg]
    lia
   lia
  have e2:((p:Int)+1)*(1-st)=(p:Int)-p*st+1-st:=by
   rw[Int.add_mul,Int.mul_sub]
   lia
  lia
theorem NI{n:Nat}{ps:List (Int×Int)}(ho:Ord n ps){st:Int}(hs:1<=st){vals:List Int}(h:cN n ps st=some vals):vals.length=n/\gS st vals=ps/\∀v,v<n->0<=gt vals v:=by
 obtain⟨a,b,c,d⟩:=xP ho.lo (lH _ _ _) h
 refine⟨a,wE (LA _ _ _) (iR ho.up) λp=>?_,b⟩
 have key:∀i j:Nat,i<n->j<n->(vals.getD j 0-vals.getD i 0>=st<->has ps i j=true):=λi j hi hj=>by
  constructor
  ·intro g
   cases e:has ps i j with
   |true=>rfl
   | false=>
    exfalso
    by_cases ij:i=j
    ·subst ij;lia
    ·cases e2:has ps j i with
     |true=>
      have:=c (j,i,st) (mem_dm.mpr ⟨hj,hi,Ne.symm ij,by unfold dC;rw[e2];rfl⟩)
      have this':gt vals j+st<=gt vals i:=this
      unfold gt at this'
      lia
     |false=>
      have:=c (j,i,1-st) (mem_dm.mpr ⟨hj,hi,Ne.symm ij,by unfold dC;dsimp only;rw[e2,e];rfl⟩)
      have this':gt vals j+(1-st)<=gt vals i:=this
      unfold gt at this'
      lia
  ·intro e
   have ij:i≠j:=λz=>by rw[z,G7 ho]at e;cases e
   have:=c (i,j,st) (mem_dm.mpr ⟨hi,hj,ij,by unfold dC;rw[e];rfl⟩)
   have this':gt vals i+st<=gt vals j:=this
   unfold gt at this'
   lia
 constructor
 ·intro hp
  obtain⟨i,j,hi,hj,rfl,g⟩:=mem_tlAll.mp hp
  exact of_decide_eq_true ((key i j (by lia) (by lia)).mp g)
 ·intro hp
  obtain⟨x1,x2,x3,x4,_⟩:=ho.ix p hp
  obtain⟨i,hi⟩:∃i:Nat,p.1=i:=⟨p.1.toNat,by lia⟩
  obtain⟨j,hj⟩:∃j:Nat,p.2=j:=⟨p.2.toNat,by lia⟩
  have ep:p=((i:Int),(j:Int)):=Prod.ext hi hj
  refine mem_tlAll.mpr ⟨i,j,by lia,by lia,ep,(key i j (by lia) (by lia)).mpr ?_⟩
  rw[ep]at hp
  exact decide_eq_true hp
theorem NL{n:Nat}{ps:List (Int×Int)}(ho:Ord n ps)(hb:cB n ps=false):∃st vals,1<=st/\st<=4/\cN n ps st=some vals/\(∀s',1<=s'->s'<st->cN n ps s'=none)/\∀s',st<=s'->∃vs,cN n ps s'=some vs:=by
 have ex:∃st:Int,1<=st/\st<=4/\(∃vals,cN n ps st=some vals)/\∀s',1<=s'->s'<st->cN n ps s'=none:=by
  cases e1:cN n ps 1 with
  |some v=>exact⟨1,by lia,by lia,⟨v,e1⟩,λs' _ _=>by lia⟩
  | none=>
   cases e2:cN n ps 2 with
   |some v=>exact⟨2,by lia,by lia,⟨v,e2⟩,λs' _ _=>by rw[show s'=1 by lia];exact e1⟩
   | none=>
    cases e3:cN n ps 3 with
    |some v=>
     refine⟨3,by lia,by lia,⟨v,e3⟩,λs' _ _=>?_⟩
     rcases(by lia:s'=1\/s'=2) with rfl|rfl
     ·exact e1
     ·exact e2
    |none=>
     refine⟨4,by lia,by lia,PX ho hb (by lia),λs' _ _=>?_⟩
     rcases(by lia:s'=1\/s'=2\/s'=3) with rfl|rfl|rfl
     ·exact e1
     ·exact e2
     ·exact e3
 obtain⟨st,a,b,⟨vals,c⟩,d⟩:=ex
 refine⟨st,vals,a,b,c,d,λs' g=>?_⟩
 obtain⟨ln,et,_⟩:=NI ho a c
 have h1:1<=vals.length:=by rw[ln];exact ho.lo
 obtain⟨k,rfl⟩:∃k:Nat,s'=st+k:=⟨(s'-st).toNat,by lia⟩
 have hc:=W1 st vals
 have nl:Nt.NN vals.length (gt vals):=λi hi=>by
  obtain⟨_,h,_⟩:=xP ho.lo (lH _ _ _) c
  exact h i (by lia)
 have nb:∀i,i<vals.length->gt vals i<=Nt.sumTo (gt vals) vals.length*st:=λi hi=>by
  have h:∀n,(∀i,i<n->0<=gt vals i)->∀i,i<n->gt vals i<=Nt.sumTo (gt vals) n:=λn=>by
   induction n with
   |zero=>intro _ i hi;lia
   | succ n ih=>
    intro hn i hi
    simp only[Nt.sumTo]
    have s:=Nt.lV (x:=gt vals) (n:=n) λi hi=>hn i (by lia)
    have z:=hn n (by lia)
    by_cases e:i=n
    ·subst e;lia
    ·have:=ih (λi hi=>hn i (by lia)) i (by lia)
     lia
  have g:=h vals.length nl i hi
  have s:=Nt.lV nl
  have:Nt.sumTo (gt vals) vals.length*1<=Nt.sumTo (gt vals) vals.length*st:=Int.mul_le_mul_of_nonneg_left a s
  lia
 obtain⟨y,y1,y2,_⟩:=Nt.E4 a hc nl nb k
 have:=UU a h1 (by lia) y1 y2
 rw[ln,et]at this
 exact this
section
variable{P:Program}{w:World}{K:PySem.W.Frag}{mg:Str->Option Value}{base:Heap}{t:Ad}
theorem aa2{H:Hp}{v:V}{n:Nat}{ps:List (Int×Int)}(h:Is H v (kJ n ps)):decide (v=V.non)= !cB n ps:=by
 cases e:cB n ps with
 |false=>
  rw[KQ e]at h
  cases h
  rfl
 |true=>
  obtain⟨ds,e'⟩:=aa3 e
  rw[e']at h
  cases h
  rfl
noncomputable def bR(p:Bool×List Int):PyData:=.tuple (.str (if p.1=true then "two" else "three")::p.2.map .int)
noncomputable def dQ(ps:List (Int×Int))(p q:Int×Int):List (Bool×List Int):=if(!has ps p.1 q.2&& !has ps q.1 p.2)=true then[(true,[p.1,p.2,q.1,q.2])] else[]
noncomputable def eG(ps:List (Int×Int))(p q:Int×Int)(e:Nat):List (Bool×List Int):=if(!has ps p.1 e&& !has ps e q.2)=true then[(false,[p.1,p.2,q.2,(e:Int)])] else[]
noncomputable def fZ(ps:List (Int×Int))(p q:Int×Int)(m:Nat):List (Bool×List Int):=(range m).flatMap (eG ps p q)
noncomputable def fX(n:Nat)(ps:List (Int×Int))(p q:Int×Int):List (Bool×List Int):=dQ ps p q++fZ ps p q (if p.2=q.1 then n else 0)
noncomputable def fY(n:Nat)(ps:List (Int×Int))(p:Int×Int)(qs:List (Int×Int)):List (Bool×List Int):=qs.flatMap (fX n ps p)
noncomputable def cO(n:Nat)(ps:List (Int×Int))(rs:List (Int×Int)):List (Bool×List Int):=rs.flatMap λp=>fY n ps p ps
theorem xH(ps:List (Int×Int))(p q:Int×Int):∀m,(fZ ps p q m).length<=m
 |0=>Nat.le_refl _
 | m+1=>by
  have:=xH ps p q m
  unfold fZ at this ⊢
  rw[range_succ,flatMap_append,length_append]
  have e:([m].flatMap (eG ps p q)).length<=1:=by
   simp only[List.flatMap_cons,List.flatMap_nil,append_nil]
   unfold eG
   split <;> simp
  lia
theorem VJ{n:Nat}(n8:n<=8)(ps:List (Int×Int))(p q:Int×Int):(fX n ps p q).length<=9:=by
 unfold fX
 rw[length_append]
 have h1:(dQ ps p q).length<=1:=by unfold dQ;split <;> simp
 have h2:=xH ps p q (if p.2=q.1 then n else 0)
 have h3:(if p.2=q.1 then n else 0)<=8:=by split <;> lia
 lia
theorem yY{α β:Type}{f:α->List β}{k:Nat}:∀{l:List α},(∀x∈l,(f x).length<=k)->(l.flatMap f).length<=l.length*k
 |[],_=>by simp
 |x::l,h=>by
  rw[List.flatMap_cons,length_append,length_cons,Nat.succ_mul]
  have h1:=h x mem_cons_self
  have h2:=yY (l:=l) λy hy=>h y (mem_cons_of_mem _ hy)
  lia
theorem IB{n:Nat}(n8:n<=8)(ps:List (Int×Int))(p:Int×Int)(qs:List (Int×Int)):(fY n ps p qs).length<=qs.length*9:=yY λq _=>VJ n8 ps p q
theorem IC{n:Nat}(n8:n<=8)(ps:List (Int×Int))(rs:List (Int×Int)):(cO n ps rs).length<=rs.length*(ps.length*9):=yY λp _=>IB n8 ps p ps
theorem xA:∀l:List (Bool×List Int),bT (l.map bR)=true
 |[]=>rfl
 | p::l=>by
  rw[map_cons,bT,xA l]
  have:∀ns:List Int,bT (ns.map .int)=true:=λns=>by
   induction ns with
   |nil=>rfl
   |cons n ns ih=>rw[map_cons,bT,ih];rfl
  unfold bR
  rw[cC,bT,this]
  rfl
theorem OK{ta tb:TS}{D:eP}{σ:St}{H:Hp}(C:St->Hp->Prop)(cF:∀σ' H',C σ' H'->tb D σ' H')(h:∀D':eP,D'.rt=D.rt->(∀σ' H',C σ' H'->D'.nx σ' H')->ta D' σ H):r6 ta tb D σ H:=h { D with nx:=λσ' H'=>tb D σ' H' } rfl cF
noncomputable def gK(p:Int×Int):List aG×V:=([.inl p.1,.inl p.2],.bl true)
theorem rO(k:List aG):∀kvs:List (List aG×V),(cQ kvs k).isSome=kvs.any λkv=>decide (kv.1=k)
 |[]=>rfl
 | p::r=>by
  rw[any_cons]
  by_cases h:p.1=k
  ·rw[nX h,decide_eq_true h]
   rfl
  ·rw[nY h,decide_eq_false h,Bool.false_or]
   exact rO k r
theorem M5(kvs:List (List aG×V))(k k2:List aG)(v:V):(cQ (cZ kvs k v) k2).isSome=((cQ kvs k2).isSome||decide (k=k2)):=by
 rw[rO,rO]
 unfold cZ
 split
 ·rename_i h
  have e:((kvs.map λkv=>if kv.1=k then(kv.1,v) else kv).any λkv=>decide (kv.1=k2))=kvs.any λkv=>decide (kv.1=k2):=by
   rw[List.any_map]
   congr 1
   funext kv
   dsimp only[Function.comp]
   split <;> rfl
  rw[e]
  by_cases g:k=k2
  ·subst g
   rw[h]
   rfl
  ·rw[decide_eq_false g,Bool.or_false]
 ·rw[List.any_append]
  simp
theorem ZQ(ps:List (Int×Int))(i j:Int):(cQ (cG (ps.map gK)) [.inl i,.inl j]).isSome=has ps i j:=by
 have go:∀(ps:List (Int×Int))(kvs:List (List aG×V)),(cQ ((ps.map gK).foldl lG kvs) [.inl i,.inl j]).isSome=((cQ kvs [.inl i,.inl j]).isSome||has ps i j):=by
  intro ps
  induction ps with
  |nil=>intro kvs;simp[has]
  | cons p ps ih=>
   intro kvs
   rw[map_cons,foldl_cons,ih]
   unfold lG
   rw[M5,Bool.or_assoc]
   congr 1
   unfold has gK
   have e:(([Sum.inl p.1,Sum.inl p.2]:List aG)=[Sum.inl i,Sum.inl j])<->(i,j)=p:=by
    constructor
    ·intro h
     injection h with h1 h2
     injection h1 with h1
     injection h2 with h2 _
     injection h2 with h2
     exact Prod.ext h1.symm h2.symm
    ·rintro rfl
     rfl
   rw[Bool.eq_iff_iff]
   simp only[Bool.or_eq_true,decide_eq_true_eq,mem_cons]
   rw[e]
 have:=go ps []
 rw[M6]at this
 simpa[cG]using this
theorem qK{H:Hp}{d b:Addr}{ps:List (Int×Int)}{i j:Int}(e:H d=some (.dT (cG (ps.map gK))))(eb:H b=some (.tup [.int i,.int j])){R:Bool->Prop}(h:R (!has ps i j)):
  ∃a o,V.ref d=V.ref a/\DGet H a (.ref b) o/\∃k,(V.bl !o.isSome)=V.bl k/\R k:=
 ⟨d,_,rfl,Y1 (S:=[i,j]) e eb rfl,_,rfl,by rw[show([i,j].map Sum.inl:List aG)=[.inl i,.inl j] from rfl,ZQ];exact h⟩
theorem K5{H:Hp}{a:Addr}{b:Bool}{x:Str}{i j k l:Int}(hx:(if b=true then "two" else "three":Str)=x)(e:H a=some (.tup [.str x,.int i,.int j,.int k,.int l])):Is H (.ref a) (bR (b,[i,j,k,l])):=by
 subst hx
 exact .tup e (.cons (.str _) (.cons (.int _) (.cons (.int _) (.cons (.int _) (.cons (.int _) .nil)))))
theorem SB{H:Hp}{ys:List V}{prs:List (List aG×V)}{a b:Addr}{p:List aG×V}(h:kN H ys prs)(ha:H a=some (.tup [.ref b,p.2]))(hb:H b=some (.tup (p.1.map kV))):kN H (ys++[.ref a]) (prs++[p]):=by
 refine⟨by rw[length_append,length_append,h.1];rfl,λj x hx=>?_⟩
 by_cases hj:j<ys.length
 ·rw[List.getElem?_append_left hj]at hx
  obtain⟨a',b',p',e1,e2,e3,e4⟩:=h.2 j x hx
  exact⟨a',b',p',e1,by rw[List.getElem?_append_left (by rw[h.1];exact hj)];exact e2,e3,e4⟩
 ·rw[List.getElem?_append_right (by lia)]at hx
  have:j-ys.length=0:=by
   have:=(List.getElem?_eq_some_iff.mp hx).1
   simp at this
   lia
  rw[this]at hx
  cases hx
  refine⟨a,b,p,rfl,?_,ha,hb⟩
  rw[List.getElem?_append_right (by rw[h.1];lia),h.1,this]
  rfl
theorem GX{H H':Hp}{ys:List V}{prs:List (List aG×V)}(h:kN H ys prs)(s:Same H H'):kN H' ys prs:=⟨h.1,λj x hx=>by
 obtain⟨a',b',p',e1,e2,e3,e4⟩:=h.2 j x hx
 exact⟨a',b',p',e1,e2,s _ _ e3,s _ _ e4⟩⟩
theorem VL{n:Nat}{ps:List (Int×Int)}{p q:Int×Int}{qs:List (Int×Int)}{j:Nat}(h:qs[j]? =some q):fY n ps p (qs.take (j+1))=fY n ps p (qs.take j)++fX n ps p q:=by
 unfold fY
 rw[take_add_one,h,flatMap_append]
 simp
theorem VN{n:Nat}{ps:List (Int×Int)}{p:Int×Int}{rs:List (Int×Int)}{j:Nat}(h:rs[j]? =some p):cO n ps (rs.take (j+1))=cO n ps (rs.take j)++fY n ps p ps:=by
 unfold cO
 rw[take_add_one,h,flatMap_append]
 simp
theorem VO(ps:List (Int×Int))(p q:Int×Int)(m:Nat):fZ ps p q (m+1)=fZ ps p q m++eG ps p q m:=by
 unfold fZ
 rw[range_succ,flatMap_append]
 simp
theorem wH{H:Hp}{xs:List V}{ps:List (Int×Int)}{i:Nat}{x:V}(h:IsAll H xs (ps.map aL))(hx:xs[i]? =some x):∃p r,ps[i]? =some p/\x=.ref r/\H r=some (.tup [.int p.1,.int p.2]):=by
 obtain⟨d,ed,id⟩:=h.get' hx
 rw[List.getElem?_map]at ed
 cases e:ps[i]? with
 |none=>rw[e]at ed;cases ed
 | some p=>
  rw[e]at ed
  cases ed
  unfold aL at id
  cases id with
  |@tup r ys _ er hys=>
   obtain rfl:=kR hys
   exact⟨p,r,rfl,rfl,er⟩
noncomputable def jF(n:Nat)(ps:List (Int×Int)):List (Bool×List Int):=((cO n ps ps).filter λp=>p.1)++(cO n ps ps).filter λp=> !p.1
noncomputable def rW(x y:Bool×List Int):Prop:=x.1=y.1->HT.lexLt x.2 y.2=true
theorem W5{a b c d a' b' c' d':Int}(h:cV (a,b) (a',b')):HT.lexLt [a,b,c,d] [a',b',c',d']=true:=by
 have h':HT.lexLt [a,b] [a',b']=true:=h
 rw[HT.dR,HT.dR]at h' ⊢
 by_cases e1:a=a'
 ·rw[if_pos e1]at h' ⊢
  by_cases e2:b=b'
  ·rw[if_pos e2]at h'
   cases h'
  ·rw[if_neg e2]at h' ⊢
   exact h'
 ·rw[if_neg e1]at h' ⊢
  exact h'
theorem xU{a b c d c' d':Int}(h:cV (c,d) (c',d')):HT.lexLt [a,b,c,d] [a,b,c',d']=true:=by
 rw[HT.dR,if_pos rfl,HT.dR,if_pos rfl]
 exact h
theorem kZ{n:Nat}{ps:List (Int×Int)}{p q:Int×Int}{x:Bool×List Int}(h:x∈fX n ps p q):(x=(true,[p.1,p.2,q.1,q.2])/\(!has ps p.1 q.2&& !has ps q.1 p.2)=true)\/(p.2=q.1/\∃e:Nat,e<n/\x=(false,[p.1,p.2,q.2,(e:Int)])/\(!has ps p.1 e&& !has ps e q.2)=true):=by
 unfold fX at h
 rcases mem_append.mp h with h|h
 ·unfold dQ at h
  split at h
  ·rename_i g
   exact .inl ⟨mem_singleton.mp h,g⟩
  ·cases h
 ·unfold fZ at h
  obtain⟨e,he,h⟩:=mem_flatMap.mp h
  have he:=mem_range.mp he
  unfold eG at h
  split at h
  ·rename_i g
   split at he
   ·rename_i g2
    exact .inr ⟨g2,e,he,mem_singleton.mp h,g⟩
   ·lia
  ·cases h
theorem VI(n:Nat)(ps:List (Int×Int))(p q:Int×Int):(fX n ps p q).Pairwise rW:=by
 unfold fX
 rw[pairwise_append]
 refine⟨?_,?_,λx hx y hy e=>?_⟩
 ·unfold dQ
  split
  ·exact pairwise_singleton _ _
  ·exact .nil
 ·unfold fZ
  rw[pairwise_flatMap]
  refine⟨λe _=>?_,List.Pairwise.imp ?_ List.pairwise_lt_range⟩
  ·unfold eG
   split
   ·exact pairwise_singleton _ _
   ·exact .nil
  ·intro e1 e2 he x hx y hy _
   unfold eG at hx hy
   split at hx
   ·split at hy
    ·rcases mem_singleton.mp hx with rfl
     rcases mem_singleton.mp hy with rfl
     exact xU (jT (.inr ⟨rfl,by show(e1:Int)<e2;lia⟩))
    ·cases hy
   ·cases hx
 ·exfalso
  unfold dQ at hx
  split at hx
  ·rcases mem_singleton.mp hx with rfl
   unfold fZ at hy
   obtain⟨k,_,hy⟩:=mem_flatMap.mp hy
   unfold eG at hy
   split at hy
   ·rcases mem_singleton.mp hy with rfl
    cases e
   ·cases hy
  ·cases hx
theorem VM{n:Nat}{ps:List (Int×Int)}(up:ps.Pairwise cV):(cO n ps ps).Pairwise rW:=by
 unfold cO
 rw[pairwise_flatMap]
 refine⟨λp _=>?_,up.imp ?_⟩
 ·unfold fY
  rw[pairwise_flatMap]
  refine⟨λq _=>VI n ps p q,up.imp ?_⟩
  intro q1 q2 hq x hx y hy e
  rcases kZ hx with⟨rfl,_⟩|⟨g1,e1,_,rfl,_⟩
  ·rcases kZ hy with⟨rfl,_⟩|⟨g2,e2,_,rfl,_⟩
   ·exact xU hq
   ·cases e
  ·rcases kZ hy with⟨rfl,_⟩|⟨g2,e2,_,rfl,_⟩
   ·cases e
   ·have h':HT.lexLt [q1.1,q1.2] [q2.1,q2.2]=true:=hq
    rw[HT.dR,if_pos (by lia),HT.dR]at h'
    split at h'
    ·cases h'
    ·rename_i ne
     refine xU (jT (.inl ?_))
     exact of_decide_eq_true h'
 ·intro p1 p2 hp x hx y hy _
  obtain⟨q1,_,hx⟩:=mem_flatMap.mp hx
  obtain⟨q2,_,hy⟩:=mem_flatMap.mp hy
  have e1:∃c d,x.2=[p1.1,p1.2,c,d]:=by
   rcases kZ hx with⟨rfl,_⟩|⟨_,e1,_,rfl,_⟩
   ·exact⟨_,_,rfl⟩
   ·exact⟨_,_,rfl⟩
  have e2:∃c d,y.2=[p2.1,p2.2,c,d]:=by
   rcases kZ hy with⟨rfl,_⟩|⟨_,e1,_,rfl,_⟩
   ·exact⟨_,_,rfl⟩
   ·exact⟨_,_,rfl⟩
  obtain⟨c,d,e1⟩:=e1
  obtain⟨c',d',e2⟩:=e2
  rw[e1,e2]
  exact W5 hp
noncomputable def n5:PyData->Int
 | .int i=>i
 |_=>0
noncomputable def lB:PyData->List Int
 | .tuple (_::ds)=>ds.map n5
 |_=>[]
theorem pR(p:Bool×List Int):lB (bR p)=p.2:=by
 show(p.2.map PyData.int).map n5=p.2
 rw[map_map]
 exact(map_congr_left λi _=>rfl).trans (map_id _)
theorem IM:∀l m:List Int,i5 (l.map .int) (m.map .int)=HT.lexLt l m
 |[],[]=>rfl
 |[],_::_=>rfl
 |_::_,[]=>rfl
 | a::l,b::m=>by
  rw[map_cons,map_cons,i5,IM l m,HT.dR]
  have e:PyData.eqv (.int a) (.int b)=decide (a=b):=by
   rw[PyData.eqv]
   by_cases g:a=b
   ·simp[g]
   ·simp[g]
  rw[e]
  by_cases g:a=b
  ·rw[if_pos (by simpa using g),if_pos g]
  ·rw[if_neg (by simpa using g),if_neg g,fC]
theorem KG:∀l m:List Int,gD (l.map .int) (m.map .int)=true
 |[],_=>by rw[map_nil,gD]
 |_::_,[]=>by rw[map_nil,map_cons,gD]
 |a::l,b::m=>by
  rw[map_cons,map_cons,gD,KG l m,gP]
  split <;> rfl
theorem abV(b:Bool)(l m:List Int):gP (bR (b,l)) (bR (b,m))=true/\fC (bR (b,l)) (bR (b,m))=HT.lexLt l m:=by
 unfold bR
 have e:∀x:Str,PyData.eqv (.str x) (.str x)=true:=λx=>by simp[PyData.eqv]
 constructor
 ·rw[gP,gD,if_pos (e _)]
  exact KG l m
 ·rw[fC,i5,if_pos (e _)]
  exact IM l m
theorem mH(b:Bool):bY (.str (if b=true then "two" else "three")):=by
 cases b
 ·exact⟨by rw[PyData.canLay0];decide +kernel,Nat.zero_le _⟩
 ·exact⟨by rw[PyData.canLay0];decide +kernel,Nat.zero_le _⟩
theorem K4(p:Bool×List Int):bY (bR p)/\cC (bR p)=true:=by
 have h1:∀ns:List Int,bT (ns.map .int)=true:=λns=>by
  induction ns with
  |nil=>rfl
  |cons n ns ih=>rw[map_cons,bT,ih];rfl
 have h2:∀ns:List Int,PyData.canLayAll0 (ns.map .int)=true/\PyData.depthAll (ns.map .int)<=0:=λns=>by
  induction ns with
  |nil=>exact⟨rfl,Nat.le_refl _⟩
  |cons n ns ih=>
   rw[map_cons,PyData.canLayAll0,PyData.depthAll,ih.1]
   exact⟨rfl,Nat.max_le.mpr ⟨Nat.le_refl _,ih.2⟩⟩
 refine⟨⟨?_,?_⟩,?_⟩
 ·unfold bR
  rw[PyData.canLay0,PyData.canLayAll0,(h2 p.2).1,Bool.and_true]
  exact(mH p.1).1
 ·unfold bR
  rw[PyData.depth,PyData.depthAll]
  have:=(h2 p.2).2
  have e0:(PyData.str (if p.1=true then "two" else "three")).depth=0:=rfl
  rw[e0]
  lia
 ·unfold bR
  rw[cC,bT,h1]
  rfl
theorem K6{H:Hp}{zs:List V}{l:List (Bool×List Int)}{i:Nat}{x:V}(iz:IsAll H zs (l.map bR))(hx:zs[i]? =some x):∃p a vs,l[i]? =some p/\x=.ref a/\H a=some (.tup (.str (if p.1=true then "two" else "three")::vs))/\Is H (.ref a) (bR p):=by
 obtain⟨d,ed,id⟩:=iz.get' hx
 rw[List.getElem?_map]at ed
 cases e:l[i]? with
 |none=>rw[e]at ed;cases ed
 | some p=>
  rw[e]at ed
  cases ed
  have id2:=id
  unfold bR at id2
  cases id2 with
  | @tup a xs _ ea hxs=>
   cases hxs with
   |cons h1 t1=>
    cases h1
    exact⟨p,a,_,rfl,rfl,ea,id⟩
theorem NP(b:Bool):PyData.eqv (.str (if b=true then "two" else "three")) (.str "two")=b:=by cases b <;> decide
theorem NQ(b:Bool):PyData.eqv (.str (if b=true then "two" else "three")) (.str "three")= !b:=by cases b <;> decide
theorem E2{H:Hp}{Q:VK}{p:Addr}{vs:List V}(b:Bool){l:List (Bool×List Int)}(hl:l.Pairwise rW)(hb:∀x∈l,x.1=b)(e:H p=some (.lst vs))(ha:IsAll H vs (l.map bR))(h:∀r vs',H r=none->IsAll H vs' (l.map bR)->Q (.ref r) (upd H r (.lst vs'))):oM K [.ref p] H Q:=by
 have hm:∀d∈l.map bR,∃m,d=bR (b,m):=λd hd=>by
  obtain⟨x,hx,rfl⟩:=mem_map.mp hd
  exact⟨x.2,by rw[<-hb x hx]⟩
 have pw:(l.map bR).Pairwise λa c=>HT.lexLt (lB a) (lB c)=true:=by
  rw[pairwise_map]
  refine List.Pairwise.imp_of_mem ?_ hl
  intro x y hx hy h
  rw[pR,pR]
  exact h (by rw[hb x hx,hb y hy])
 refine QA lB e ha (.inr ⟨if b=true then "two" else "three",λd hd=>?_⟩) (λd hd=>?_) (λd hd e he=>?_) ?_ λr vs' ds' hr ia pm up=>?_
 ·obtain⟨m,rfl⟩:=hm d hd
  exact⟨_,rfl⟩
 ·obtain⟨m,rfl⟩:=hm d hd
  exact K4 _
 ·obtain⟨m,rfl⟩:=hm d hd
  obtain⟨m',rfl⟩:=hm e he
  rw[pR,pR]
  exact abV b m m'
 ·unfold List.Nodup
  rw[pairwise_map]
  refine pw.imp ?_
  intro a c h z
  rw[z]at h
  have:=kB h
  rw[h]at this
  cases this
 ·have ee:=EY (lt:=λa c:PyData=>HT.lexLt (lB a) (lB c)=true) (λa c h1 h2=>by have:=kB h1;rw[h2]at this;cases this) pm up pw
  rw[ee]at ia
  exact h r vs' hr ia
inductive ES (vs:List V) (H:Hp) (Q:VK) (zz3:XK):Prop where
 |mk (x:V) (n:Nat) (ps:List (Int×Int)) (zh0:vs=[x]) (zh1:Is H x (aX n ps)) (zh2:Ord n ps) (zh3:∀(l:Addr)(vs':List V)(H':Hp),Same H H'->H l=none->H' l=some (.lst vs')->IsAll H' vs' ((jF n ps).map bR)->Q (.ref l) H'):ES vs H Q zz3
theorem UJ(T:aR K mg t):FnOk P w K mg base aU 1 t.BV t.AD ["_law_order"] ES:=by
 refine T.MC.ok sc__law_bars (λvs H Q E h=>?_) (λcdv A outer s H vs Q E hr h=>?_)
 ·obtain⟨x,n,ps,rfl,_⟩:=h
  rfl
 ·obtain⟨x,n,ps,rfl,hx,ho,q⟩:=h
  refine⟨_,(aF (aS (i:=1) sc__law_bars.nd rfl (Or.inl rfl) (fG (XZ K hr.units) (by rfl) T.U2 aaU (aA (j4 rfl ⟨True.intro,True.intro,True.intro⟩ (M:=["_law_pair"]) (.own .nil) (iA rfl) rfl (by decide +kernel) (i7 K (aN (aO K) (pv 0) pe_int (λ_ _=>rfl))) (λC fp s1 H1=>⟨bH (i:=0) (show(["_law_pair"]:List Str).Nodup by decide +kernel) rfl (Or.inl rfl),kX,(aV (aA (pv 0) (aA pe_bl pa_nil)))⟩)) pa_nil)))
   (aF (aS (i:=2) sc__law_bars.nd rfl (Or.inl rfl) (eF pa_nil))
   (aF (c5 PassesOwn.never rfl (i7 K (aN (aO K) (pv 0) pe_int (λ_ _=>rfl))) (i8 K rfl (cU (bH (i:=3) sc__law_bars.nd rfl (Or.inl rfl)) (cU (bH (i:=4) sc__law_bars.nd rfl (Or.inl rfl)) iT))) (aD (c5 PassesOwn.never rfl (i7 K (aN (aO K) (pv 0) pe_int (λ_ _=>rfl))) (i8 K rfl (cU (bH (i:=5) sc__law_bars.nd rfl (Or.inl rfl)) (cU (bH (i:=6) sc__law_bars.nd rfl (Or.inl rfl)) iT))) (aF (aW (PW.pt (wG (oQ (o5 (pX hr) (aV (aA (pv 3) (aA (pv 6) pa_nil))) (pv 1))) (wF (oQ (o5 (pX hr) (aV (aA (pv 5) (aA (pv 4) pa_nil))) (pv 1)))))) (aD (cK (fH K PySem.F.plainAttrs_list PySem.F.slot_list_append PySem.F.type_list_append iY (pv 2) (aA (aV (aA pe_str (aA (pv 3) (aA (pv 4) (aA (pv 5) (aA (pv 6) pa_nil)))))) pa_nil)))) bB)
   (aD (c5 PassesOwn.never rfl (eT rfl T.eV (aA (bF j5 (aN (aO K) (pv 0) pe_int (λ_ _=>rfl)) (fG AK (by rfl) T.pG qN (aA (fU (cM hr.units) (pv 4) (pv 5) (aY _)) pa_nil))) pa_nil)) (bH (i:=7) sc__law_bars.nd rfl (Or.inl rfl)) (aD (aW (PW.pt (wG (oQ (o5 (pX hr) (aV (aA (pv 3) (aA (pv 7) pa_nil))) (pv 1))) (wF (oQ (o5 (pX hr) (aV (aA (pv 7) (aA (pv 6) pa_nil))) (pv 1)))))) (aD (cK (fH K PySem.F.plainAttrs_list PySem.F.slot_list_append PySem.F.type_list_append iY (pv 2) (aA (aV (aA pe_str (aA (pv 3) (aA (pv 4) (aA (pv 6) (aA (pv 7) pa_nil)))))) pa_nil)))) bB))))))))
   (aF (aS (i:=8) sc__law_bars.nd rfl (Or.inl rfl) (bP (IW K hr.units) (by rfl) T.pF qM (aA (j4 rfl ⟨True.intro,True.intro,True.intro⟩ (M:=["_law_line"]) (.own .nil) (iA rfl) rfl (by decide +kernel) (pT K (pv 2)) (λC fp s1 H1=>⟨bH (i:=0) (show(["_law_line"]:List Str).Nodup by decide +kernel) rfl (Or.inl rfl),mE (aT (cM hr.units) (aN (aO K) (pv 0) pe_int (λ_ _=>rfl)) pe_str (aY _)),(pv 0)⟩)) pa_nil)))
   (aD (aP (bF G9 (pv 8) (bP (IW K hr.units) (by rfl) T.pF qM (aA (j4 rfl ⟨True.intro,True.intro,True.intro⟩ (M:=["_law_line"]) (.own .nil) (iA rfl) rfl (by decide +kernel) (pT K (pv 2)) (λC fp s1 H1=>⟨bH (i:=0) (show(["_law_line"]:List Str).Nodup by decide +kernel) rfl (Or.inl rfl),mE (aT (cM hr.units) (aN (aO K) (pv 0) pe_int (λ_ _=>rfl)) pe_str (aY _)),(pv 0)⟩)) pa_nil))))))))),?_⟩
  obtain⟨oa,ob,xs,rfl,ea,eb,hxs⟩:=fJ hx
  have lxs:xs.length=ps.length:=by rw[hxs.length,length_map]
  have n8:=ho.hi
  have sz:=ho.sz
  have nd:=mI (iR ho.up)
  have lp64:=lW nd λp hp=>inN.box n8 (ho.ix p hp)
  walk_at"rd"
  refine⟨ob,rfl,⟨xs,SqT.of eb⟩,?_⟩
  refine pJ (K:=K) (xs:=xs) (eZ (by lia)) (λi ys H'=>Same H H'/\kN H' ys ((ps.take i).map gK)) ⟨Same.refl _,rfl,λj x hx=>by simp at hx⟩ (by
   rintro i ys H' ⟨_,h⟩
   have:=h.1
   rw[length_map,length_take]at this
   lia) (λi ys H' _ h=>SqT.of (h.1 _ _ eb)) ?_ ?_
  ·rintro i x ys H1 hx ⟨s1,iy⟩
   obtain⟨p0,r,hp0,rfl,er⟩:=wH (hxs.same s1) hx
   walk_at"rd"
   refine⟨by show 2<=sizeLine;decide,λq1 hq1=>?_⟩
   have f1:=Same.upd (o:=.tup [V.ref r,V.bl true]) hq1
   refine⟨s1.trans f1,?_⟩
   rw[take_add_one,hp0,map_append]
   exact SB (p:=gK p0) (GX iy f1) aB (f1 _ _ er)
  rintro ys H1 ⟨s1,iy⟩ l1 hl1
  rw[lxs,take_length]at iy
  have ly:ys.length<64:=by
   have:=iy.1
   rw[length_map]at this
   lia
  have f1:=Same.upd (o:=.lst ys) hl1
  walk_at"rd"
  refine⟨l1,ys,ps.map gK,rfl,aB,GX iy f1,gH (by lia),λd hd=>?_⟩
  have f2:=Same.upd (o:=.dT (cG (ps.map gK))) hd
  have s2:=(s1.trans f1).trans f2
  have ed:upd (upd H1 l1 (.lst ys)) d (.dT (cG (ps.map gK))) d=some (.dT (cG (ps.map gK))):=aB
  generalize upd (upd H1 l1 (.lst ys)) d (.dT (cG (ps.map gK)))=H2 at s2 ed
  clear f1 f2 hd hl1 iy ly
  walk_at"rd"
  refine⟨Nat.zero_le _,λm hm=>?_⟩
  have f3:=Same.upd (o:=.lst []) hm
  have s3:=s2.trans f3
  have ed3:=f3 _ _ ed
  have em3:upd H2 m (.lst []) m=some (.lst []):=aB
  have nmH:H m=none:=s2.free hm
  generalize upd H2 m (.lst [])=H3 at s3 ed3 em3
  clear f3 hm
  have fin:∀H',SameT m H3 H'->Same H H':=λH' s b u e=>s b u (s3 b u e) λz=>by rw[z,nmH]at e;cases e
  have ea3:=s3 _ _ ea
  have ndm:d≠m:=λz=>by rw[z,em3]at ed3;cases ed3
  walk_at"rd"
  refine⟨ob,rfl,⟨xs,SqT.of (s3 _ _ eb)⟩,?_⟩
  refine mX (K:=K) (xs:=xs) (λi σ H'=>(∃va vb vc vd ve vf,σ=[some (.ref oa),some (.ref d),some (.ref m),va,vb,vc,vd,ve,vf])/\SameT m H3 H'/\∃zs,H' m=some (.lst zs)/\IsAll H' zs ((cO n ps (ps.take i)).map bR)) ⟨⟨_,_,_,_,_,_,rfl⟩,SameT.refl _ _,[],em3,.nil⟩ (λi σ H' _ h=>SqT.of (fin H' h.2.1 _ _ eb)) ?_ ?_
  ·rintro i x σ H4 hx ⟨⟨va,vb,vc,vd,ve,vf,rfl⟩,s4,zs,hz,iz⟩
   obtain⟨p0,r,hp0,rfl,er⟩:=wH (hxs.same (fin H4 s4)) hx
   refine iP er rfl ?_
   have ea4:=fin H4 s4 _ _ ea
   walk_at"rd"
   refine⟨ob,rfl,⟨xs,SqT.of (fin H4 s4 _ _ eb)⟩,?_⟩
   refine mX (K:=K) (xs:=xs) (λj σ H'=>(∃vc vd ve vf,σ=[some (.ref oa),some (.ref d),some (.ref m),some (.int p0.1),some (.int p0.2),vc,vd,ve,vf])/\SameT m H3 H'/\∃zs,H' m=some (.lst zs)/\IsAll H' zs ((cO n ps (ps.take i)++fY n ps p0 (ps.take j)).map bR)) ⟨⟨_,_,_,_,rfl⟩,s4,zs,hz,by simpa[fY]using iz⟩ (λi σ H' _ h=>SqT.of (fin H' h.2.1 _ _ eb)) ?_ ?_
   rotate_left
   ·rintro σ H5 ⟨⟨vc,vd,ve,vf,rfl⟩,s5,zs5,hz5,iz5⟩
    rw[lxs,take_length]at iz5
    exact⟨⟨_,_,_,_,_,_,rfl⟩,s5,zs5,hz5,by rw[VN hp0];exact iz5⟩
   rintro j y σ H5 hy ⟨⟨vc,vd,ve,vf,rfl⟩,s5,zs5,hz5,iz5⟩
   obtain⟨q0,r2,hq0,rfl,er2⟩:=wH (hxs.same (fin H5 s5)) hy
   refine iP er2 rfl ?_
   have ea5:=fin H5 s5 _ _ ea
   have ed5:=s5 _ _ ed3 ndm
   (repeat (first|with_reducible refine FZ ?_|with_reducible refine FY ?_|with_reducible refine FX ?_|dsimp only))
   have lenz:∀(H':Hp)(zs:List V)(l:List (Bool×List Int)),IsAll H' zs (l.map bR)->l.length<=64*(64*9)+64*9+9->zs.length<sizeLine:=λH' zs l h1 h2=>by
    rw[h1.length,length_map,sizeLine_eq]
    lia
   have lA:(cO n ps (ps.take i)).length<=64*(64*9):=by
    have h1:=IC n8 ps (ps.take i)
    rw[length_take]at h1
    exact Nat.le_trans h1 (Nat.mul_le_mul (by lia) (Nat.mul_le_mul (by lia) (Nat.le_refl _)))
   have lP:(fY n ps p0 (ps.take j)).length<=64*9:=by
    have h1:=IB n8 ps p0 (ps.take j)
    rw[length_take]at h1
    exact Nat.le_trans h1 (Nat.mul_le_mul (by lia) (Nat.le_refl _))
   refine OK (λσ' H'=>(∃ve vf,σ'=[some (.ref oa),some (.ref d),some (.ref m),some (.int p0.1),some (.int p0.2),some (.int q0.1),some (.int q0.2),ve,vf])/\SameT m H3 H'/\∃zs,H' m=some (.lst zs)/\IsAll H' zs ((cO n ps (ps.take i)++fY n ps p0 (ps.take j)++dQ ps p0 q0).map bR)) ?_ (λD' hrt hnx=>?_)
   rotate_left
   ·walk_at"rd"
    refine oJ ?_
    walk_at"rd"
    refine⟨by show 2<=sizeLine;decide,λq1 hq1=>?_⟩
    walk_at"rd"
    have g1:=Same.upd (o:=.tup [V.int p0.1,V.int q0.2]) hq1
    have hz6:=g1 _ _ hz5
    have iz6:=iz5.same g1
    have ed6:=g1 _ _ ed5
    have s6:=s5.trans g1.t (w:=m)
    have eq6:upd H5 q1 (.tup [V.int p0.1,V.int q0.2]) q1=some (.tup [V.int p0.1,V.int q0.2]):=aB
    generalize upd H5 q1 (.tup [V.int p0.1,V.int q0.2])=H6 at hz6 iz6 ed6 s6 eq6
    refine qK ed6 eq6 ?_
    cases h1:has ps p0.1 q0.2 with
    |true=>
     walk_at"rd"
     refine hnx _ _ ⟨⟨_,_,rfl⟩,s6,zs5,hz6,?_⟩
     have e0:dQ ps p0 q0=[]:=by unfold dQ;rw[h1];rfl
     rw[e0,append_nil]
     exact iz6
    | false=>
     walk_at"rd"
     refine oJ ?_
     walk_at"rd"
     refine⟨by show 2<=sizeLine;decide,λq2 hq2=>?_⟩
     walk_at"rd"
     have g2:=Same.upd (o:=.tup [V.int q0.1,V.int p0.2]) hq2
     have hz7:=g2 _ _ hz6
     have iz7:=iz6.same g2
     have ed7:=g2 _ _ ed6
     have s7:=s6.trans g2.t (w:=m)
     have eq7:upd H6 q2 (.tup [V.int q0.1,V.int p0.2]) q2=some (.tup [V.int q0.1,V.int p0.2]):=aB
     generalize upd H6 q2 (.tup [V.int q0.1,V.int p0.2])=H7 at hz7 iz7 ed7 s7 eq7
     refine qK ed7 eq7 ?_
     cases h2:has ps q0.1 p0.2 with
     |true=>
      walk_at"rd"
      refine hnx _ _ ⟨⟨_,_,rfl⟩,s7,zs5,hz7,?_⟩
      have e0:dQ ps p0 q0=[]:=by unfold dQ;rw[h1,h2];rfl
      rw[e0,append_nil]
      exact iz7
     | false=>
      have e0:dQ ps p0 q0=[(true,[p0.1,p0.2,q0.1,q0.2])]:=by unfold dQ;rw[h1,h2];rfl
      rw[e0]at hnx
      walk_at"rd"
      refine⟨eC hz7,?_⟩
      walk_at"rd"
      refine⟨by show 5<=sizeLine;decide,λq3 hq3=>?_⟩
      have nm3:m≠q3:=aI hz7 hq3
      walk_at"rd"
      refine gJ (xs:=zs5) ?_ (lenz _ _ _ iz7 (by rw[length_append];lia)) ?_
      ·rw[aE nm3]
       exact hz7
      walk_at"rd"
      refine hnx _ _ ⟨⟨_,_,rfl⟩,λc u e z=>?_,_,aB,?_⟩
      ·rw[aE z]
       have e7:=s7 c u e z
       rw[aE (aI e7 hq3)]
       exact e7
      ·rw[map_append]
       refine yF (xA _) hz7 hq3 iz7 (K5 (x:="two") rfl ?_)
       rw[aE (Ne.symm nm3),aB]
   rintro σ' H6 ⟨⟨ve,vf,rfl⟩,s6,zs6,hz6,iz6⟩
   have ea6:=fin H6 s6 _ _ ea
   have ed6:=s6 _ _ ed3 ndm
   walk_at"rd"
   have eM:∀b:Bool,((n:Int)*(if b=true then 1 else 0))=(((if b=true then n else 0):Nat):Int):=λb=>by cases b <;> simp
   refine e6 (.inl ⟨by lia,by lia⟩) ?_
   rw[eM]
   have eb0:(if(p0.2==q0.1)=true then n else 0)=(if p0.2=q0.1 then n else 0):=by
    by_cases z:p0.2=q0.1
    ·rw[if_pos (by simpa using z),if_pos z]
    ·rw[if_neg (by simpa using z),if_neg z]
   rw[eb0]
   have lM:(if p0.2=q0.1 then n else 0)<=8:=by split <;> lia
   walk_at"rd"
   refine⟨_,rfl,by lia,by lia,?_⟩
   rw[Int.toNat_natCast]
   refine gN (λk σ H'=>(∃ve vf,σ=[some (.ref oa),some (.ref d),some (.ref m),some (.int p0.1),some (.int p0.2),some (.int q0.1),some (.int q0.2),ve,vf])/\SameT m H3 H'/\∃zs,H' m=some (.lst zs)/\IsAll H' zs ((cO n ps (ps.take i)++fY n ps p0 (ps.take j)++dQ ps p0 q0++fZ ps p0 q0 k).map bR)) ⟨⟨_,_,rfl⟩,s6,zs6,hz6,by simpa[fZ]using iz6⟩ ?_ ?_
   rotate_left
   ·rintro σ H7 ⟨⟨vg,vh,rfl⟩,s7,zs7,hz7,iz7⟩
    refine⟨⟨_,_,_,_,rfl⟩,s7,zs7,hz7,?_⟩
    rw[VL hq0]
    unfold fX
    simpa only[append_assoc]using iz7
   rintro k σ H7 hk ⟨⟨vg,vh,rfl⟩,s7,zs7,hz7,iz7⟩
   have ed7:=s7 _ _ ed3 ndm
   have l2:(dQ ps p0 q0).length<=1:=by unfold dQ;split <;> simp
   have l3:=xH ps p0 q0 k
   rw[VO,<-append_assoc]
   walk_at"rd"
   refine oJ ?_
   walk_at"rd"
   rw[Int.zero_add]
   refine⟨by show 2<=sizeLine;decide,λq1 hq1=>?_⟩
   walk_at"rd"
   have g1:=Same.upd (o:=.tup [V.int p0.1,V.int (k:Nat)]) hq1
   have hz8:=g1 _ _ hz7
   have iz8:=iz7.same g1
   have ed8:=g1 _ _ ed7
   have s8:=s7.trans g1.t (w:=m)
   have eq8:upd H7 q1 (.tup [V.int p0.1,V.int (k:Nat)]) q1=some (.tup [V.int p0.1,V.int (k:Nat)]):=aB
   generalize upd H7 q1 (.tup [V.int p0.1,V.int (k:Nat)])=H8 at hz8 iz8 ed8 s8 eq8
   refine qK ed8 eq8 ?_
   cases h1:has ps p0.1 k with
   |true=>
    walk_at"rd"
    refine⟨⟨_,_,rfl⟩,s8,zs7,hz8,?_⟩
    have e0:eG ps p0 q0 k=[]:=by unfold eG;rw[h1];rfl
    rw[e0,append_nil]
    exact iz8
   | false=>
    walk_at"rd"
    refine oJ ?_
    walk_at"rd"
    refine⟨by show 2<=sizeLine;decide,λq2 hq2=>?_⟩
    walk_at"rd"
    have g2:=Same.upd (o:=.tup [V.int (k:Nat),V.int q0.2]) hq2
    have hz9:=g2 _ _ hz8
    have iz9:=iz8.same g2
    have ed9:=g2 _ _ ed8
    have s9:=s8.trans g2.t (w:=m)
    have eq9:upd H8 q2 (.tup [V.int (k:Nat),V.int q0.2]) q2=some (.tup [V.int (k:Nat),V.int q0.2]):=aB
    generalize upd H8 q2 (.tup [V.int (k:Nat),V.int q0.2])=H9 at hz9 iz9 ed9 s9 eq9
    refine qK ed9 eq9 ?_
    cases h2:has ps k q0.2 with
    |true=>
     walk_at"rd"
     refine⟨⟨_,_,rfl⟩,s9,zs7,hz9,?_⟩
     have e0:eG ps p0 q0 k=[]:=by unfold eG;rw[h1,h2];rfl
     rw[e0,append_nil]
     exact iz9
    | false=>
     have e0:eG ps p0 q0 k=[(false,[p0.1,p0.2,q0.2,(k:Int)])]:=by unfold eG;rw[h1,h2];rfl
     rw[e0]
     walk_at"rd"
     refine⟨eC hz9,?_⟩
     walk_at"rd"
     refine⟨by show 5<=sizeLine;decide,λq3 hq3=>?_⟩
     have nm3:m≠q3:=aI hz9 hq3
     walk_at"rd"
     refine gJ (xs:=zs7) ?_ (lenz _ _ _ iz9 (by rw[length_append,length_append,length_append];lia)) ?_
     ·rw[aE nm3]
      exact hz9
     walk_at"rd"
     refine⟨⟨_,_,rfl⟩,λc u e z=>?_,_,aB,?_⟩
     ·rw[aE z]
      have e9:=s9 c u e z
      rw[aE (aI e9 hq3)]
      exact e9
     ·rw[map_append]
      refine yF (xA _) hz9 hq3 iz9 (K5 (x:="three") rfl ?_)
      rw[aE (Ne.symm nm3),aB]
  ·rintro σ H4 ⟨⟨va,vb,vc,vd,ve,vf,rfl⟩,s4,zs,hz,iz⟩
   rw[lxs,take_length]at iz
   have lA:(cO n ps ps).length<=64*(64*9):=by
    have h1:=IC n8 ps ps
    exact Nat.le_trans h1 (Nat.mul_le_mul (by lia) (Nat.mul_le_mul (by lia) (Nat.le_refl _)))
   have lz:zs.length=(cO n ps ps).length:=by rw[iz.length,length_map]
   have sH4:=fin H4 s4
   have up:=VM (n:=n) (iR ho.up)
   walk_at"rd"
   refine⟨m,rfl,⟨_,SqL.of hz⟩,?_⟩
   refine xS (K:=K) (xs:=zs) (by rw[lz,sizeLine_eq];lia) (λi ys H'=>H'=H4/\IsAll H' ys ((((cO n ps ps).take i).filter λp=>p.1).map bR)) ⟨rfl,.nil⟩ (by
    rintro i ys H' ⟨_,h⟩
    rw[h.length,length_map]
    have:=length_filter_le (λp:Bool×List Int=>p.1) ((cO n ps ps).take i)
    rw[length_take]at this
    lia) (λi ys H' _ h=>by rw[h.1];exact SqL.of hz) ?_ ?_
   ·rintro i x ys H5 hx ⟨rfl,iy⟩
    obtain⟨p,a,vs,hp,rfl,ea',ip⟩:=K6 iz hx
    walk_at"rd"
    refine l0 ea' (atI_of (i:=0) rfl rfl) ?_
    walk_at"rd"
    refine bV (d:=.str _) (e:=.str "two") (.str _) (.str _) (mH _) (mH true) ?_
    rw[NP]
    rw[take_add_one,hp,show(some p).toList=[p] from rfl,filter_append]
    obtain⟨b,l⟩:=p
    dsimp only
    refine⟨_,rfl,?_⟩
    cases b with
    |true=>
     refine fK (by rfl) ?_
     walk_at"rd"
     refine⟨rfl,?_⟩
     rw[map_append]
     exact iy.append (.cons ip .nil)
    |false=>
     refine bQ (by rfl) ?_
     walk_at"rd"
     refine⟨rfl,?_⟩
     simpa using iy
   rintro ys H5 ⟨rfl,iy⟩ l1 hl1
   rw[lz,take_length]at iy
   have f1:=Same.upd (o:=.lst ys) hl1
   walk_at"rd"
   refine E2 true (up.filter _) (λx hx=>(mem_filter.mp hx).2) aB (iy.same f1) λr1 w1 hr1 ia1=>?_
   have f2:=Same.upd (o:=.lst w1) hr1
   have sH5:=(sH4.trans f1).trans f2
   have hz5:=f2 _ _ (f1 _ _ hz)
   have iz5:=(iz.same f1).same f2
   have ia5:=ia1.same f2
   have er5:upd (upd H5 l1 (.lst ys)) r1 (.lst w1) r1=some (.lst w1):=aB
   generalize upd (upd H5 l1 (.lst ys)) r1 (.lst w1)=H6 at sH5 hz5 iz5 ia5 er5
   walk_at"rd"
   refine⟨m,rfl,⟨_,SqL.of hz5⟩,?_⟩
   refine xS (K:=K) (xs:=zs) (by rw[lz,sizeLine_eq];lia) (λi ys H'=>H'=H6/\IsAll H' ys ((((cO n ps ps).take i).filter λp=> !p.1).map bR)) ⟨rfl,.nil⟩ (by
    rintro i ys H' ⟨_,h⟩
    rw[h.length,length_map]
    have:=length_filter_le (λp:Bool×List Int=> !p.1) ((cO n ps ps).take i)
    rw[length_take]at this
    lia) (λi ys H' _ h=>by rw[h.1];exact SqL.of hz5) ?_ ?_
   ·rintro i x ys H7 hx ⟨rfl,iy⟩
    obtain⟨p,a,vs,hp,rfl,ea',ip⟩:=K6 iz5 hx
    walk_at"rd"
    refine l0 ea' (atI_of (i:=0) rfl rfl) ?_
    walk_at"rd"
    refine bV (d:=.str _) (e:=.str "three") (.str _) (.str _) (mH _) (mH false) ?_
    rw[NQ]
    rw[take_add_one,hp,show(some p).toList=[p] from rfl,filter_append]
    obtain⟨b,l⟩:=p
    dsimp only
    refine⟨_,rfl,?_⟩
    cases b with
    |false=>
     refine fK (by rfl) ?_
     walk_at"rd"
     refine⟨rfl,?_⟩
     rw[map_append]
     exact iy.append (.cons ip .nil)
    |true=>
     refine bQ (by rfl) ?_
     walk_at"rd"
     refine⟨rfl,?_⟩
     simpa using iy
   rintro ys2 H7 ⟨rfl,iy2⟩ l2 hl2
   rw[lz,take_length]at iy2
   have f3:=Same.upd (o:=.lst ys2) hl2
   walk_at"rd"
   refine E2 false (up.filter _) (λx hx=>by have:=(mem_filter.mp hx).2;simpa using this) aB (iy2.same f3) λr2 w2 hr2 ia2=>?_
   have f4:=Same.upd (o:=.lst w2) hr2
   have l1':w1.length<=64*(64*9):=by
    rw[ia5.length,length_map]
    exact Nat.le_trans (length_filter_le _ _) lA
   have l2':w2.length<=64*(64*9):=by
    rw[ia2.length,length_map]
    exact Nat.le_trans (length_filter_le _ _) lA
   refine GB (f4 _ _ (f3 _ _ er5)) aB (by rw[sizeLine_eq];lia) λr3 hr3=>?_
   have f5:=Same.upd (o:=.lst (w1++w2)) hr3
   have sE:=((sH5.trans f3).trans f4).trans f5
   refine q r3 _ _ sE (((sH5.trans f3).trans f4).free hr3) aB ?_
   unfold jF
   rw[map_append]
   exact(((ia5.same f3).same f4).same f5).append ((ia2.same f4).same f5)
end
theorem pZ{ps:List (Int×Int)}{p:Int×Int}(h:p∈ps):has ps p.1 p.2=true:=decide_eq_true h
theorem KP{n:Nat}{ps:List (Int×Int)}(ho:Ord n ps):jF n ps=[]<->cB n ps=false:=by
 have e0:jF n ps=[]<->cO n ps ps=[]:=by
  unfold jF
  constructor
  ·intro h
   have h1:=List.append_eq_nil_iff.mp h
   apply Classical.byContradiction
   intro z
   obtain⟨x,hx⟩:=exists_mem_of_ne_nil _ z
   cases e:x.1 with
   |true=>exact not_mem_nil (h1.1▸mem_filter.mpr ⟨hx,e⟩)
   |false=>exact not_mem_nil (h1.2▸mem_filter.mpr ⟨hx,by rw[e];rfl⟩)
  ·intro h
   rw[h]
   rfl
 rw[e0]
 constructor
 ·intro h
  unfold cB
  rw[Bool.or_eq_false_iff]
  have no:∀p∈ps,∀q∈ps,fX n ps p q=[]:=λp hp q hq=>by
   apply Classical.byContradiction
   intro z
   obtain⟨x,hx⟩:=exists_mem_of_ne_nil _ z
   have:x∈cO n ps ps:=mem_flatMap.mpr ⟨p,hp,mem_flatMap.mpr ⟨q,hq,hx⟩⟩
   rw[h]at this
   exact not_mem_nil this
  constructor
  ·cases e:qP ps with
   |false=>rfl
   |true=>
    exfalso
    obtain⟨p,hp,e⟩:=any_eq_true.mp e
    obtain⟨q,hq,e⟩:=any_eq_true.mp e
    have:=no p hp q hq
    unfold jG at e
    rw[Bool.and_eq_true]at e
    unfold fX dQ at this
    rw[if_pos e.2]at this
    cases this
  ·cases e:qO n ps with
   |false=>rfl
   | true=>
    exfalso
    obtain⟨p,hp,e⟩:=any_eq_true.mp e
    obtain⟨c,hc,e⟩:=any_eq_true.mp e
    obtain⟨d,hd,e⟩:=any_eq_true.mp e
    unfold iG at e
    rw[Bool.and_eq_true,Bool.and_eq_true]at e
    have hq:(p.2,(c:Int))∈ps:=of_decide_eq_true e.1.2
    have:=no p hp _ hq
    unfold fX at this
    have h3:=(List.append_eq_nil_iff.mp this).2
    rw[if_pos rfl]at h3
    unfold fZ at h3
    have hm:(false,[p.1,p.2,(c:Int),(d:Int)])∈(range n).flatMap (eG ps p (p.2,(c:Int))):=by
     refine mem_flatMap.mpr ⟨d,hd,?_⟩
     unfold eG
     rw[if_pos e.2]
     exact mem_singleton.mpr rfl
    rw[h3]at hm
    exact not_mem_nil hm
 ·intro h
  unfold cB at h
  rw[Bool.or_eq_false_iff]at h
  apply Classical.byContradiction
  intro z
  obtain⟨x,hx⟩:=exists_mem_of_ne_nil _ z
  obtain⟨p,hp,hx⟩:=mem_flatMap.mp hx
  obtain⟨q,hq,hx⟩:=mem_flatMap.mp hx
  rcases kZ hx with⟨_,g⟩|⟨g1,e,he,_,g⟩
  ·have:=iI (iI h.1 hp) hq
   unfold jG at this
   rw[pZ hp,pZ hq,g]at this
   cases this
  ·obtain⟨_,_,i3,i4,_⟩:=ho.ix q hq
   have:=iI (iI (iI h.2 hp) (mem_range.mpr (show q.2.toNat<n by lia))) (mem_range.mpr he)
   unfold iG at this
   rw[pZ hp,Int.toNat_of_nonneg i3,g1,pZ hq,g]at this
   cases this
noncomputable def p7(vs:List Int)(d:Dm):List Int:=vs.set d.2.1 (if vs.getD d.1 0+d.2.2>vs.getD d.2.1 0 then vs.getD d.1 0+d.2.2 else vs.getD d.2.1 0)
noncomputable def cW(ds:List Dm)(vs:List Int):List Int:=ds.foldl p7 vs
theorem set_own(l:List Int)(i:Nat):l.set i (l.getD i 0)=l:=by
 apply List.ext_getElem?
 intro j
 rw[List.getElem?_set]
 by_cases h:i=j
 ·subst h
  rw[if_pos rfl]
  by_cases g:i<l.length
  ·simp[g]
  ·simp[g]
 ·rw[if_neg h]
theorem p6:∀(ds:List Dm)(s:Rs),cW ds s.1=(ds.foldl aK s).1
 |[],s=>rfl
 | d::ds,s=>by
  have e:p7 s.1 d=(aK s d).1:=by
   unfold p7 aK
   split
   ·rfl
   ·exact set_own _ _
  show cW ds (p7 s.1 d)=_
  rw[e]
  exact p6 ds (aK s d)
noncomputable def fL(ds:List Dm):Nat->List Int->Option (List Int)
 |0,_=>none
 |k+1,vals=>if cW ds vals=vals then some (cW ds vals) else fL ds k (cW ds vals)
theorem yH(ds:List Dm)(vals:List Int):(cW ds vals).length=vals.length:=by
 rw[p6 ds (vals,[],V.non)]
 exact(yV ds (vals,[],V.non)).1
theorem yG{n:Nat}{ds:List Dm}(hd:cD n ds):∀(k:Nat)(vals v:List Int),vals.length=n->fL ds k vals=some v->
  v.length=n/\(∀i,gt vals i<=gt v i)/\cP ds (gt v)/\∀x,cP ds x->(∀i,i<n->gt vals i<=x i)->∀i,i<n->gt v i<=x i
 |0,vals,v,hl,h=>by cases h
 | k+1,vals,v,hl,h=>by
  rw[fL]at h
  have er:=p6 ds (vals,[],V.non)
  by_cases g:cW ds vals=vals
  ·rw[if_pos g]at h
   injection h with h
   rw[g]at h
   subst h
   refine⟨hl,λi=>Int.le_refl _,λd hm=>?_,λx _ hx=>hx⟩
   have ge:=yX ds (vals,[],V.non) hl hd d hm
   rw[<-er,g]at ge
   exact ge
  ·rw[if_neg g]at h
   obtain⟨a,b,c,e⟩:=yG hd k (cW ds vals) v ((yH ds vals).trans hl) h
   refine⟨a,λi=>?_,c,λx sx hx=>e x sx λi hi=>?_⟩
   ·have m:=lD ds (vals,[],V.non) hl hd i
    rw[<-er]at m
    exact Int.le_trans m (b i)
   ·have m:=mY ds (vals,[],V.non) hl hd sx hx i hi
    rw[<-er]at m
    exact m
theorem JG{ds:List Dm}:∀(k:Nat)(vals:List Int)(orgs:List V)(r:V),1<=k->(bD ds k vals orgs r).2.2=.non->∀k',k<=k'->∃v,fL ds k' vals=some v
 |0,_,_,_,h,_,_,_=>by lia
 |k+1,vals,orgs,r,_,e,0,h=>by lia
 | k + 1,vals,orgs,r,_,e,k'+1,h=>by
  rw[fL]
  by_cases g:cW ds vals=vals
  ·exact⟨_,by rw[if_pos g]⟩
  ·rw[if_neg g]
   have er:cW ds vals=(bL ds vals orgs).1:=p6 ds (vals,orgs,V.non)
   rw[bD]at e
   by_cases z:(bL ds vals orgs).2.2=.non
   ·exfalso
    obtain⟨a,_⟩:=yU ds _ z
    have ea:(bL ds vals orgs).1=vals:=congrArg (λs:Rs=>s.1) a
    rw[ea]at er
    exact g er
   ·rw[if_neg z]at e
    match k,e,h with
    |0,e,h=>exact absurd e z
    |k+1,e,h=>
     rw[er]
     exact JG (k+1) _ _ _ (by lia) e k' (by lia)
theorem YR{n:Nat}{a b:List Int}(ha:a.length=n)(hb:b.length=n)(h:∀i,i<n->gt a i=gt b i):a=b:=by
 apply ext_getElem (by lia)
 intro i h1 h2
 have:=h i (by lia)
 unfold gt at this
 simpa[List.getD_eq_getElem?_getD,h1,h2]using this
theorem WQ{n:Nat}(n1:1<=n){ds es:List Dm}(hd:cD n ds)(he:cD n es)(hs:∀x,cP ds x<->cP es x):fL es (n+1) (replicate n 0)=lv n ds:=by
 have z0:∀x:Nat->Int,Nt.NN n x->∀i,i<n->gt (replicate n (0:Int)) i<=x i:=λx nx i hi=>by rw[jU];exact nx i hi
 cases e:lv n ds with
 | some v=>
  obtain⟨a,b,c,d⟩:=xP n1 hd e
  have s2:=(hs _).mp c
  obtain⟨w,hw⟩:=xQ n1 he s2 b
  have hr:(bD es n (replicate n 0) (replicate n .non) .non).2.2=.non:=by
   unfold lv at hw
   split at hw
   ·assumption
   ·cases hw
  obtain⟨u,hu⟩:=JG n _ _ _ n1 hr (n+1) (Nat.le_succ _)
  obtain⟨a2,b2,c2,d2⟩:=yG he (n+1) _ u length_replicate hu
  rw[hu]
  congr 1
  refine YR a2 a λi hi=>?_
  have k1:=d2 (gt v) s2 (z0 _ b) i hi
  have k2:=d (gt u) ((hs _).mpr c2) (λj _=>by have:=b2 j;rw[jU]at this;exact this) i hi
  lia
 | none=>
  cases h:fL es (n+1) (replicate n 0) with
  |none=>rfl
  |some u=>
   obtain⟨a2,b2,c2,d2⟩:=yG he (n+1) _ u length_replicate h
   obtain⟨w,hw⟩:=xQ n1 hd ((hs _).mpr c2) (λj _=>by have:=b2 j;rw[jU]at this;exact this)
   rw[e]at hw
   cases hw
noncomputable def kA(ps:List (Int×Int))(st:Int)(i j:Nat):Int:=(if has ps i j=true then st else 1-st)*(if i=j then 0 else 1)
noncomputable def hV(ps:List (Int×Int))(st:Int)(i j:Nat):List Dm:=if(has ps i j|| !has ps j i)=true then[(i,j,kA ps st i j)] else[]
noncomputable def hU(ps:List (Int×Int))(st:Int)(i m:Nat):List Dm:=(range m).flatMap (hV ps st i)
noncomputable def eH(n:Nat)(ps:List (Int×Int))(st:Int)(m:Nat):List Dm:=(range m).flatMap λi=>hU ps st i n
theorem WX(ps:List (Int×Int))(st:Int)(i m:Nat):hU ps st i (m+1)=hU ps st i m++hV ps st i m:=by
 unfold hU
 rw[range_succ,flatMap_append]
 simp
theorem WY(n:Nat)(ps:List (Int×Int))(st:Int)(m:Nat):eH n ps st (m+1)=eH n ps st m++hU ps st m n:=by
 unfold eH
 rw[range_succ,flatMap_append]
 simp
theorem mem_ls{n:Nat}{ps:List (Int×Int)}{st:Int}{d:Dm}:d∈eH n ps st n<->d.1<n/\d.2.1<n/\(has ps d.1 d.2.1|| !has ps d.2.1 d.1)=true/\d.2.2=kA ps st d.1 d.2.1:=by
 unfold eH hU
 rw[mem_flatMap]
 constructor
 ·rintro⟨i,hi,h⟩
  obtain⟨j,hj,h⟩:=mem_flatMap.mp h
  unfold hV at h
  split at h
  ·rename_i g
   rcases mem_singleton.mp h with rfl
   exact⟨mem_range.mp hi,mem_range.mp hj,g,rfl⟩
  ·cases h
 ·rintro⟨hi,hj,g,e⟩
  refine⟨d.1,mem_range.mpr hi,mem_flatMap.mpr ⟨d.2.1,mem_range.mpr hj,?_⟩⟩
  unfold hV
  rw[if_pos g]
  exact mem_singleton.mpr (by rw[<-e])
theorem WW(n:Nat)(ps:List (Int×Int))(st:Int):cD n (eH n ps st n):=λd hd=>let h:=mem_ls.mp hd;⟨h.1,h.2.1⟩
theorem OD{n:Nat}{ps:List (Int×Int)}{st:Int}(x:Nat->Int):cP (dS n ps st n) x<->cP (eH n ps st n) x:=by
 constructor
 ·intro h d hd
  obtain⟨h1,h2,h3,h4⟩:=mem_ls.mp hd
  by_cases e:d.1=d.2.1
  ·rw[h4]
   unfold kA
   rw[if_pos e,e]
   lia
  ·refine h d (mem_dm.mpr ⟨h1,h2,e,?_⟩)
   rw[h4]
   unfold kA dC
   rw[if_neg e,Int.mul_one]
   cases g:has ps d.1 d.2.1 with
   |true=>rfl
   |false=>
    rw[g,Bool.false_or,Bool.not_eq_true']at h3
    rw[h3]
    rfl
 ·intro h d hd
  obtain⟨h1,h2,h3,h4⟩:=mem_dm.mp hd
  refine h d (mem_ls.mpr ⟨h1,h2,?_,?_⟩)
  ·unfold dC at h4
   cases g:has ps d.1 d.2.1 with
   |true=>rfl
   |false=>
    rw[g]at h4
    cases g2:has ps d.2.1 d.1 with
    |true=>rw[g2]at h4;cases h4
    |false=>rfl
  ·unfold kA
   rw[if_neg h3,Int.mul_one]
   unfold dC at h4
   cases g:has ps d.1 d.2.1 with
   |true=>rw[g]at h4;injection h4 with h4;exact h4.symm
   |false=>
    rw[g]at h4
    cases g2:has ps d.2.1 d.1 with
    |true=>rw[g2]at h4;cases h4
    |false=>rw[g2]at h4;injection h4 with h4;exact h4.symm
theorem YS(ds es:List Dm)(vs:List Int):cW (ds++es) vs=cW es (cW ds vs):=by
 unfold cW
 rw[foldl_append]
theorem RG{H:Hp}{Q:VK}{p r:Addr}{as bs:List Int}(hx:H p=some (.lst (as.map V.int)))(hy:H r=some (.lst (bs.map V.int)))(h:Q (.bl (decide (as=bs))) H):jN false (.ref p) (.ref r) H Q:=
 bV (.lst (Rd.of hx) (IsAll.ints as)) (.lst (Rd.of hy) (IsAll.ints bs)) (wW as) (wW bs) (by rw[PyData.eqv,y0];exact h)
section
variable{P:Program}{w:World}{K:PySem.W.Frag}{mg:Str->Option Value}{base:Heap}{t:Ad}
inductive EB (vs:List V) (H:Hp) (Q:VK) (zz3:XK):Prop where
 |mk (x:V) (n:Nat) (ps:List (Int×Int)) (st:Int) (zh0:vs=[x,.int st]) (zh1:Is H x (aX n ps)) (zh2:n<=8) (zh3:1<=st) (zh4:st<=999) (zh5:∀H',Same H H'->nU Q H' (fL (eH n ps st n) (n+1) (replicate n 0))):EB vs H Q zz3
theorem HK(T:aR K mg t):FnOk P w K mg base aU 1 t.BR t.z9 ["_law_order","_law_step"] EB:=by
 refine T.CB.ok sc__law_least (λvs H Q E h=>?_) (λcdv A outer s H vs Q E hr h=>?_)
 ·obtain⟨x,n,ps,st,rfl,_⟩:=h
  rfl
 ·obtain⟨x,n,ps,st,rfl,hx,n8,st1,st2,q⟩:=h
  refine⟨_,(aF (aS (i:=2) sc__law_least.nd rfl (Or.inl rfl) (bF wP (eF (aA pe_int pa_nil)) (aN (aO K) (pv 0) pe_int (λ_ _=>rfl))))
   (aF (c5 PassesOwn.never rfl (eT rfl T.eV (aA (bF eU (aN (aO K) (pv 0) pe_int (λ_ _=>rfl)) pe_int) pa_nil)) (bH (i:=3) sc__law_least.nd rfl (Or.inl rfl)) (aF (aS (i:=4) sc__law_least.nd rfl (Or.inl rfl) (fG (xZ K) (by rfl) T.xE AM (aA (pv 2) pa_nil)))
   (aF (c5 PassesOwn.never rfl (eT rfl T.eV (aA (aN (aO K) (pv 0) pe_int (λ_ _=>rfl)) pa_nil)) (bH (i:=5) sc__law_least.nd rfl (Or.inl rfl)) (aD (c5 PassesOwn.never rfl (eT rfl T.eV (aA (aN (aO K) (pv 0) pe_int (λ_ _=>rfl)) pa_nil)) (bH (i:=6) sc__law_least.nd rfl (Or.inl rfl)) (aF (aS (i:=7) sc__law_least.nd rfl (Or.inl rfl) (bF jR pe_int (pv 1)))
   (aF (aW (aT (o8 hr.units) (aV (aA (pv 5) (aA (pv 6) pa_nil))) (aN (aO K) (pv 0) pe_int (λ_ _=>rfl)) (by rfl)) (aD (aS (i:=7) sc__law_least.nd rfl (Or.inl rfl) (pv 1))) bB)
   (aD (aW (PW.pt (gU (aT (o8 hr.units) (aV (aA (pv 5) (aA (pv 6) pa_nil))) (aN (aO K) (pv 0) pe_int (λ_ _=>rfl)) (by rfl)) (gT (aT (gY hr.units) (aV (aA (pv 6) (aA (pv 5) pa_nil))) (aN (aO K) (pv 0) pe_int (λ_ _=>rfl)) (by rfl))))) (aD (mD (bP (aaL rfl) (by rfl) T.U0 aaS (aA (aN (aO K) (pv 2) (pv 6) (λ_ _=>rfl)) (aA (bF eU (aN (aO K) (pv 2) (pv 5) (λ_ _=>rfl)) (bF j5 (pv 7) (fG AK (by rfl) T.pG qN (aA (fU (gZ hr.units) (pv 5) (pv 6) (aY _)) pa_nil)))) pa_nil))) (oY (pv 2) (pv 6) oC (λ_=>rfl)))) bB)))))))
   (aD (aW (aT (cM hr.units) (pv 2) (pv 4) (aY _)) (aD (aP (fG (lC K) (by rfl) T.g7 iE (aA (pv 2) pa_nil)))) bB)))))
   (aD (aP pe_non)))),?_⟩
  obtain⟨oa,ob,xs,rfl,ea,eb,hxs⟩:=fJ hx
  have it:Is H (.ref ob) (.tuple (ps.map aL)):=.tup eb hxs
  walk_at"rd"
  refine⟨by show 1<=sizeLine;decide,λp1 hp1=>?_⟩
  have t2:=Same.upd (o:=.lst [V.int 0]) hp1
  have ea2:=t2 _ _ ea
  walk_at"rd"
  refine uS aB (by lia) λv hv=>?_
  have s3:=t2.trans (Same.upd (o:=.lst (replicate n (V.int 0))) hv)
  have ev3:upd (upd H p1 (.lst [V.int 0])) v (.lst (replicate n (V.int 0))) v=some (.lst ((replicate n (0:Int)).map V.int)):=by rw[aB,List.map_replicate]
  have nvH:H v=none:=by
   cases e:H v with
   |none=>rfl
   |some u=>rw[t2 _ _ e]at hv;cases hv
  generalize upd (upd H p1 (.lst [V.int 0])) v (.lst (replicate n (V.int 0)))=H3 at s3 ev3
  have ea3:=s3 _ _ ea
  clear t2 hv hp1 ea2
  have fin:∀H',SameT v H H'->Same H H':=λH' s b u e=>s b u e λz=>by rw[z,nvH]at e;cases e
  have getO:∀H',SameT v H H'->H' oa=some (.tup [V.int (n:Nat),V.ref ob])/\Is H' (.ref ob) (.tuple (ps.map aL)):=λH' s=>⟨fin H' s _ _ ea,it.same (fin H' s)⟩
  walk_at"rd"
  refine⟨_,rfl,by lia,by lia,?_⟩
  rw[show((n:Int)+1).toNat=n+1 by lia]
  refine gN (λi σ H'=>i<=n+1/\SameT v H H'/\∃vals v3 v4 v5 v6 v7,σ=[some (.ref oa),some (.int st),some (.ref v),v3,v4,v5,v6,v7]/\H' v=some (.lst (vals.map V.int))/\vals.length=n/\fL (eH n ps st n) (n+1-i) vals=fL (eH n ps st n) (n+1) (replicate n 0))
   ⟨Nat.zero_le _,s3.t,_,_,_,_,_,_,rfl,ev3,length_replicate,rfl⟩ ?_ ?_
  ·rintro i σ H4 hi ⟨_,s4,vals,v3,v4,v5,v6,v7,rfl,ev4,lv4,hG⟩
   walk_at"rd"
   refine QU ev4 λb hb=>?_
   have t5:=Same.upd (o:=.lst (vals.map V.int)) hb
   have nvb:v≠b:=aI ev4 hb
   have ev5:=t5 _ _ ev4
   have eb5:upd H4 b (.lst (vals.map V.int)) b=some (.lst (vals.map V.int)):=aB
   have s5:=s4.trans t5.t (w:=v)
   generalize upd H4 b (.lst (vals.map V.int))=H5 at ev5 eb5 s5
   clear t5 hb
   obtain⟨eo5,_⟩:=getO H5 s5
   walk_at"rd"
   refine⟨_,rfl,by lia,by lia,?_⟩
   rw[Int.toNat_natCast]
   refine gN (λj σ H'=>SameT v H5 H'/\(∃v5 v6 v7,σ=[some (.ref oa),some (.int st),some (.ref v),some (.int (0+i)),some (.ref b),v5,v6,v7])/\H' v=some (.lst ((cW (eH n ps st j) vals).map V.int))) ⟨SameT.refl _ _,⟨_,_,_,rfl⟩,ev5⟩ ?_ ?_
   ·rintro j σ H6 hj ⟨u6,⟨w5,w6,w7,rfl⟩,ev6⟩
    obtain⟨eo6,_⟩:=getO H6 (s5.trans u6)
    walk_at"rd"
    refine⟨_,rfl,by lia,by lia,?_⟩
    rw[Int.toNat_natCast]
    refine gN (λk σ H'=>SameT v H5 H'/\(∃v6 v7,σ=[some (.ref oa),some (.int st),some (.ref v),some (.int (0+i)),some (.ref b),some (.int (0+j)),v6,v7])/\H' v=some (.lst ((cW (eH n ps st j++hU ps st j k) vals).map V.int))) ⟨u6,⟨_,_,rfl⟩,by simpa[hU]using ev6⟩ ?_ ?_
    ·rintro k σ H7 hk ⟨u7,⟨x6,x7,rfl⟩,ev7⟩
     rw[WX,<-append_assoc,YS]
     have lg:(cW (eH n ps st j++hU ps st j k) vals).length=n:=(yH _ _).trans lv4
     generalize cW (eH n ps st j++hU ps st j k) vals=ws at ev7 lg
     obtain⟨eo7,it7⟩:=getO H7 (s5.trans u7)
     walk_at"rd"
     refine⟨by show 2<=sizeLine;decide,λq1 hq1=>?_⟩
     have f1:=Same.upd (o:=.tup [V.int (0+(j:Int)),V.int (0+(k:Int))]) hq1
     have ev8:=f1 _ _ ev7
     have eo8:=f1 _ _ eo7
     have it8:=it7.same f1
     have u8:=u7.trans f1.t (w:=v)
     have eq1:upd H7 q1 (.tup [V.int (0+(j:Int)),V.int (0+(k:Int))]) q1=some (.tup [V.int (0+(j:Int)),V.int (0+(k:Int))]):=aB
     generalize upd H7 q1 (.tup [V.int (0+(j:Int)),V.int (0+(k:Int))])=H8 at ev8 eo8 it8 u8 eq1
     have hjk:has ps (0+(j:Int)) (0+(k:Int))=has ps j k:=by rw[Int.zero_add,Int.zero_add]
     have hkj:has ps (0+(k:Int)) (0+(j:Int))=has ps k j:=by rw[Int.zero_add,Int.zero_add]
     walk_at"rd"
     refine l6 eq1 it8 ?_
     rw[hjk]
     clear eq1 f1 ev7 eo7 it7 u7
     cases gp:has ps j k with
     | true=>
      walk_at"rd"
      refine⟨by show 2<=sizeLine;decide,λq2 hq2=>?_⟩
      have f2:=Same.upd (o:=.tup [V.int (0+(j:Int)),V.int (0+(k:Int))]) hq2
      have ev9:=f2 _ _ ev8
      have eo9:=f2 _ _ eo8
      have u9:=u8.trans f2.t (w:=v)
      walk_at"rd"
      refine l6 aB (it8.same f2) ?_
      rw[hjk,gp]
      generalize upd H8 q2 (.tup [V.int (0+(j:Int)),V.int (0+(k:Int))])=H9 at ev9 eo9 u9
      walk_at"rd"
      refine cA ev9 (atI_of (i:=k) (by lia) (kE (by lia))) ?_
      walk_at"rd"
      refine cA ev9 (atI_of (i:=j) (by lia) (kE (by lia))) ?_
      walk_at"rd"
      have eI:hV ps st j k=[(j,k,(st)*(if j=k then 0 else 1))]:=by unfold hV kA;rw[gp];rfl
      rw[eI]
      by_cases e:j=k
      ·subst e
       have eB:(!((0:Int)+(j:Int)==0+(j:Int)))=false:=by simp
       rw[eB]
       walk_at"rd"
       refine e6 (.inr ⟨by decide,by decide⟩) ?_
       walk_at"rd"
       refine j2 ev9 (j:=j) (by lia) (by rw[length_map];lia) ?_
       walk_at"rd"
       refine⟨λc u e g=>by rw[aE g];exact u9 _ _ e g,⟨_,_,rfl⟩,?_⟩
       rw[aB,jZ,if_pos rfl]
       rfl
      ·have eB:(!((0:Int)+(j:Int)==0+(k:Int)))=true:=by simp;lia
       rw[eB]
       walk_at"rd"
       refine e6 (.inr ⟨by decide,by decide⟩) ?_
       walk_at"rd"
       refine j2 ev9 (j:=k) (by lia) (by rw[length_map];lia) ?_
       walk_at"rd"
       refine⟨λc u e g=>by rw[aE g];exact u9 _ _ e g,⟨_,_,rfl⟩,?_⟩
       rw[aB,jZ,if_neg e]
       rfl
     | false=>
      walk_at"rd"
      refine⟨by show 2<=sizeLine;decide,λq2 hq2=>?_⟩
      have f2:=Same.upd (o:=.tup [V.int (0+(j:Int)),V.int (0+(k:Int))]) hq2
      have ev9:=f2 _ _ ev8
      have eo9:=f2 _ _ eo8
      have it9:=it8.same f2
      have u9:=u8.trans f2.t (w:=v)
      have eq2:upd H8 q2 (.tup [V.int (0+(j:Int)),V.int (0+(k:Int))]) q2=some (.tup [V.int (0+(j:Int)),V.int (0+(k:Int))]):=aB
      generalize upd H8 q2 (.tup [V.int (0+(j:Int)),V.int (0+(k:Int))])=H9 at ev9 eo9 u9 it9 eq2
      walk_at"rd"
      refine l6 eq2 it9 ?_
      rw[hjk,gp]
      walk_at"rd"
      refine⟨by show 2<=sizeLine;decide,λq3 hq3=>?_⟩
      have f3:=Same.upd (o:=.tup [V.int (0+(k:Int)),V.int (0+(j:Int))]) hq3
      have ev10:=f3 _ _ ev9
      have eo10:=f3 _ _ eo9
      have u10:=u9.trans f3.t (w:=v)
      walk_at"rd"
      refine iN aB (it9.same f3) ?_
      rw[hkj]
      generalize upd H9 q3 (.tup [V.int (0+(k:Int)),V.int (0+(j:Int))])=H10 at ev10 eo10 u10
      cases gq:has ps k j with
      |true=>
       have eI:hV ps st j k=[]:=by unfold hV;rw[gp,gq];rfl
       rw[eI]
       walk_at"rd"
       exact⟨u10,⟨_,_,rfl⟩,ev10⟩
      | false=>
       walk_at"rd"
       refine cA ev10 (atI_of (i:=k) (by lia) (kE (by lia))) ?_
       walk_at"rd"
       refine cA ev10 (atI_of (i:=j) (by lia) (kE (by lia))) ?_
       walk_at"rd"
       have eI:hV ps st j k=[(j,k,(1-st)*(if j=k then 0 else 1))]:=by unfold hV kA;rw[gp,gq];rfl
       rw[eI]
       by_cases e:j=k
       ·subst e
        have eB:(!((0:Int)+(j:Int)==0+(j:Int)))=false:=by simp
        rw[eB]
        walk_at"rd"
        refine e6 (.inr ⟨by decide,by decide⟩) ?_
        walk_at"rd"
        refine j2 ev10 (j:=j) (by lia) (by rw[length_map];lia) ?_
        walk_at"rd"
        refine⟨λc u e g=>by rw[aE g];exact u10 _ _ e g,⟨_,_,rfl⟩,?_⟩
        rw[aB,jZ,if_pos rfl]
        rfl
       ·have eB:(!((0:Int)+(j:Int)==0+(k:Int)))=true:=by simp;lia
        rw[eB]
        walk_at"rd"
        refine e6 (.inr ⟨by decide,by decide⟩) ?_
        walk_at"rd"
        refine j2 ev10 (j:=k) (by lia) (by rw[length_map];lia) ?_
        walk_at"rd"
        refine⟨λc u e g=>by rw[aE g];exact u10 _ _ e g,⟨_,_,rfl⟩,?_⟩
        rw[aB,jZ,if_neg e]
        rfl
    ·rintro σ H7 ⟨u7,⟨x6,x7,rfl⟩,ev7⟩
     exact⟨u7,⟨_,_,_,rfl⟩,by rw[WY];exact ev7⟩
   ·rintro σ H6 ⟨u6,⟨w5,w6,w7,rfl⟩,ev6⟩
    have s6:=s5.trans u6
    have ek:n+1-i=(n+1-(i+1))+1:=by lia
    rw[ek,fL]at hG
    walk_at"rd"
    refine RG ev6 (u6 _ _ eb5 (Ne.symm nvb)) ?_
    walk_at"rd"
    refine bW (λg=>?_) (λg=>?_)
    ·rw[if_pos (of_decide_eq_true g)]at hG
     rw[<-hG]at q
     walk_at"rd"
     intro tp htp
     exact q _ ((fin _ s6).trans (Same.upd htp)) tp aB
    ·rw[if_neg (of_decide_eq_false g)]at hG
     walk_at"rd"
     exact⟨hi,s6,cW (eH n ps st n) vals,_,_,_,_,_,rfl,ev6,(yH _ _).trans lv4,hG⟩
  ·rintro σ H4 ⟨_,s4,vals,v3,v4,v5,v6,v7,rfl,ev4,lv4,hG⟩
   rw[Nat.sub_self,fL]at hG
   rw[<-hG]at q
   walk_at"rd"
   exact q H4 (fin _ s4)
noncomputable def dJ(j:Nat):PyData:=.tuple [.str "refused",.int j]
structure nN (K:PySem.W.Frag) (t:Ad) (C:Addr) (j:Nat):Prop where
 lt:j<9
 Z:cX K C
 v:PySem.W.kitOne K (.ref C) (.type "ValueError")=some true
 x:PySem.W.exmOne K (.ref C) (.ref t.eL)=some true
 k0:PySem.W.kitOne K (.ref C) (.ref t.dX)=some (j==0)
 k1:PySem.W.kitOne K (.ref C) (.ref t.dY)=some (j==1)
 k2:PySem.W.kitOne K (.ref C) (.ref t.dW)=some (j==2)
 k3:PySem.W.kitOne K (.ref C) (.ref t.dU)=some (j==3)
 k4:PySem.W.kitOne K (.ref C) (.ref t.dZ)=some (j==4)
 k5:PySem.W.kitOne K (.ref C) (.ref t.bI)=some (j==5)
 k6:PySem.W.kitOne K (.ref C) (.ref t.bJ)=some (j==6)
 k7:PySem.W.kitOne K (.ref C) (.ref t.bN)=some (j==7)
 k8:PySem.W.kitOne K (.ref C) (.ref t.bM)=some (j==8)
noncomputable def wL(j:Nat):List Bool:=[j==0,j==1,j==2,j==3,j==4,j==5,j==6,j==7,j==8]
theorem M3{j:Nat}(h:j<9):(wL j).countP (· ==true)=1:=by
 have:∀j:Fin 9,(wL j.val).countP (· ==true)=1:=by decide
 exact this ⟨j,h⟩
theorem M4{j:Nat}(h:j<9):(wL j)[j]? =some true:=by
 have:∀j:Fin 9,(wL j.val)[j.val]? =some true:=by decide
 exact this ⟨j,h⟩
theorem MZ{j:Nat}(h:j<9):∀m,m<j->(wL j)[m]? ≠some true:=by
 have:∀j m:Fin 9,m.val<j.val->(wL j.val)[m.val]? ≠some true:=by decide
 exact λm hm=>this ⟨j,h⟩ ⟨m,by lia⟩ hm
inductive D0 (K:PySem.W.Frag) (t:Ad) (vs:List V) (H:Hp) (Q:VK) (zz3:XK):Prop where
 |mk (e C j:_) (zh0:vs=[.ref e]) (zh1:H e=some (lF e C)) (zh2:nN K t C j) (zh3:∀v H',Same H H'->Is H' v (dJ j)->Q v H'):D0 K t vs H Q zz3
theorem UN(T:aR K mg t):B4 P w K mg base 1 t.BO t.z6 ["_law_e"] (D0 K t):=by
 refine T.L6.okH sc__law_which (λvs H Q E h=>?_) (λcdv A outer s H vs Q hr h=>?_)
 ·obtain⟨e,C,j,rfl,_⟩:=h
  rfl
 ·obtain⟨e,C,j,rfl,he,W,q⟩:=h
  refine⟨_,(aF (aS (i:=1) sc__law_which.nd rfl (Or.inl rfl) (eF (aA (bP (hZ K) (by rfl) T.dP eA (aA (pv 0) (aA (gW (v:=.ref t.dX) rfl T.yN rfl) pa_nil))) (aA (bP (hZ K) (by rfl) T.dP eA (aA (pv 0) (aA (gW (v:=.ref t.dY) rfl T.yO rfl) pa_nil))) (aA (bP (hZ K) (by rfl) T.dP eA (aA (pv 0) (aA (gW (v:=.ref t.dW) rfl T.yM rfl) pa_nil))) (aA (bP (hZ K) (by rfl) T.dP eA (aA (pv 0) (aA (gW (v:=.ref t.dU) rfl T.yL rfl) pa_nil))) pa_nil))))))
   (aF (cK (fH K PySem.F.plainAttrs_list PySem.F.slot_list_extend PySem.F.type_list_extend HZ (pv 1) (aA (eF (aA (bP (hZ K) (by rfl) T.dP eA (aA (pv 0) (aA (gW (v:=.ref t.dZ) rfl T.yP rfl) pa_nil))) (aA (bP (hZ K) (by rfl) T.dP eA (aA (pv 0) (aA (gW (v:=.ref t.bI) rfl T.p9 rfl) pa_nil))) (aA (bP (hZ K) (by rfl) T.dP eA (aA (pv 0) (aA (gW (v:=.ref t.bJ) rfl T.qB rfl) pa_nil))) (aA (bP (hZ K) (by rfl) T.dP eA (aA (pv 0) (aA (gW (v:=.ref t.bN) rfl T.qA rfl) pa_nil))) pa_nil))))) pa_nil)))
   (aF (cK (fH K PySem.F.plainAttrs_list PySem.F.slot_list_append PySem.F.type_list_append iY (pv 1) (aA (bP (hZ K) (by rfl) T.dP eA (aA (pv 0) (aA (gW (v:=.ref t.bM) rfl T.p8 rfl) pa_nil))) pa_nil)))
   (aF (aW (PW.pt (gU (aT (gZ hr.units) (fH K PySem.F.plainAttrs_list PySem.F.slot_list_count PySem.F.type_list_count U8 (pv 1) (aA pe_bl pa_nil)) pe_int (aY _)) (gT (fA (dL (bP (hZ K) (by rfl) T.dP eA (aA (pv 0) (aA (jP (v:=.ty "ValueError") rfl T.U5 aaX rfl) pa_nil)))))))) (aD (aP (aV (aA pe_str (aA (iU iL pe_int) pa_nil))))) bB)
   (aD (aP (aV (aA pe_str (aA (fH K PySem.F.plainAttrs_list PySem.F.slot_list_index PySem.F.type_list_index U7 (pv 1) (aA pe_bl pa_nil)) pa_nil))))))))),?_⟩
  walk_at"rd"
  refine iO he W.Z W.k0 ?_
  walk_at"rd"
  refine iO he W.Z W.k1 ?_
  walk_at"rd"
  refine iO he W.Z W.k2 ?_
  walk_at"rd"
  refine iO he W.Z W.k3 ?_
  walk_at"rd"
  refine⟨by show 4<=sizeLine;decide,λl hl=>?_⟩
  have nle:e≠l:=aI he hl
  have s1:=Same.upd (o:=.lst [V.bl (j==0),V.bl (j==1),V.bl (j==2),V.bl (j==3)]) hl
  have el1:upd H l (.lst [V.bl (j==0),V.bl (j==1),V.bl (j==2),V.bl (j==3)]) l=some (.lst [V.bl (j==0),V.bl (j==1),V.bl (j==2),V.bl (j==3)]):=aB
  have he1:=s1 _ _ he
  generalize upd H l (.lst [V.bl (j==0),V.bl (j==1),V.bl (j==2),V.bl (j==3)])=H1 at s1 el1 he1
  walk_at"rd"
  refine⟨eC el1,?_⟩
  walk_at"rd"
  refine iO he1 W.Z W.k4 ?_
  walk_at"rd"
  refine iO he1 W.Z W.k5 ?_
  walk_at"rd"
  refine iO he1 W.Z W.k6 ?_
  walk_at"rd"
  refine iO he1 W.Z W.k7 ?_
  walk_at"rd"
  refine⟨by show 4<=sizeLine;decide,λm hm=>?_⟩
  have s2:=Same.upd (o:=.lst [V.bl (j==4),V.bl (j==5),V.bl (j==6),V.bl (j==7)]) hm
  walk_at"rd"
  refine GA (s2 _ _ el1) aB (by show 8<=sizeLine;decide) ?_
  have s3:∀b u,H b=some u->upd (upd H1 m (.lst [V.bl (j==4),V.bl (j==5),V.bl (j==6),V.bl (j==7)])) l (.lst ([V.bl (j==0),V.bl (j==1),V.bl (j==2),V.bl (j==3)]++[V.bl (j==4),V.bl (j==5),V.bl (j==6),V.bl (j==7)])) b=some u:=λb u eb=>by
   rw[aE (aI eb hl)]
   exact s2 _ _ (s1 _ _ eb)
  have el2:upd (upd H1 m (.lst [V.bl (j==4),V.bl (j==5),V.bl (j==6),V.bl (j==7)])) l (.lst ([V.bl (j==0),V.bl (j==1),V.bl (j==2),V.bl (j==3)]++[V.bl (j==4),V.bl (j==5),V.bl (j==6),V.bl (j==7)])) l=some (.lst ([V.bl (j==0),V.bl (j==1),V.bl (j==2),V.bl (j==3)]++[V.bl (j==4),V.bl (j==5),V.bl (j==6),V.bl (j==7)])):=aB
  generalize upd (upd H1 m (.lst [V.bl (j==4),V.bl (j==5),V.bl (j==6),V.bl (j==7)])) l (.lst ([V.bl (j==0),V.bl (j==1),V.bl (j==2),V.bl (j==3)]++[V.bl (j==4),V.bl (j==5),V.bl (j==6),V.bl (j==7)]))=H2 at s3 el2
  have he2:=s3 _ _ he
  walk_at"rd"
  refine⟨eC el2,?_⟩
  walk_at"rd"
  refine iO he2 W.Z W.k8 ?_
  walk_at"rd"
  refine gJ el2 (by show 8<sizeLine;decide) ?_
  have s6:Same H (upd H2 l (.lst (([V.bl (j==0),V.bl (j==1),V.bl (j==2),V.bl (j==3)]++[V.bl (j==4),V.bl (j==5),V.bl (j==6),V.bl (j==7)])++[V.bl (j==8)]))):=λb u eb=>by
   rw[aE (aI eb hl)]
   exact s3 _ _ eb
  have el4:upd H2 l (.lst (([V.bl (j==0),V.bl (j==1),V.bl (j==2),V.bl (j==3)]++[V.bl (j==4),V.bl (j==5),V.bl (j==6),V.bl (j==7)])++[V.bl (j==8)])) l=some (.lst ((wL j).map V.bl)):=aB
  generalize upd H2 l (.lst (([V.bl (j==0),V.bl (j==1),V.bl (j==2),V.bl (j==3)]++[V.bl (j==4),V.bl (j==5),V.bl (j==6),V.bl (j==7)])++[V.bl (j==8)]))=H4 at s6 el4
  have he4:=s6 _ _ he
  walk_at"rd"
  refine⟨eC el4,?_⟩
  walk_at"rd"
  refine RL el4 ?_
  rw[M3 W.lt]
  walk_at"rd"
  refine bQ rfl ?_
  walk_at"rd"
  refine Q0 he4 W.Z W.v ?_
  walk_at"rd"
  refine⟨eC el4,?_⟩
  walk_at"rd"
  refine Q8 el4 (M4 W.lt) (MZ W.lt) ?_
  refine⟨by show 2<=sizeLine;decide,λp hp=>?_⟩
  exact q _ _ (s6.trans (Same.upd hp)) (.tup aB (.cons (.str _) (.cons (.int _) .nil)))
end
noncomputable def UV:Option (List Int)->PyData
 |none=>.none
 |some v=>.tuple (v.map .int)
noncomputable def NumV(H:Hp)(x:V):Option (List Int)->Prop
 |none=>x=.non
 |some v=>∃p,x=.ref p/\H p=some (.tup (v.map V.int))
theorem K9{Q:VK}{H:Hp}{o:Option (List Int)}(h:∀x,NumV H x o->Q x H):nU Q H o:=by
 cases o with
 |none=>exact h _ rfl
 |some v=>exact λp hp=>h _ ⟨p,rfl,hp⟩
theorem NumV.is{H:Hp}{x:V}{o:Option (List Int)}(h:NumV H x o):Is H x (UV o):=by
 cases o with
 |none=>cases h;exact .non
 |some v=>obtain⟨p,rfl,e⟩:=h;exact .tup e (IsAll.ints _)
theorem NumV.same{H H':Hp}{x:V}{o:Option (List Int)}(h:NumV H x o)(s:Same H H'):NumV H' x o:=by
 cases o with
 |none=>exact h
 |some v=>obtain⟨p,rfl,e⟩:=h;exact⟨p,rfl,s _ _ e⟩
theorem T6(as:List Int):bY (.tuple (as.map .int)):=by
 obtain⟨a,b⟩:=wW as
 rw[PyData.canLay0]at a
 rw[PyData.depth]at b
 refine⟨?_,?_⟩
 ·rw[PyData.canLay0];exact a
 ·rw[PyData.depth];exact b
theorem GY{H:Hp}{ys:List V}{ps:List (Int×Int)}{i:Nat}{x:V}(h:IsAll H ys (ps.map aL))(e:ys[i]? =some x):∃p,ps[i]? =some p/\Is H x (aL p):=by
 obtain⟨d,ed,id⟩:=h.get' e
 rw[List.getElem?_map]at ed
 cases hp:ps[i]? with
 |none=>rw[hp]at ed;cases ed
 |some p=>rw[hp]at ed;cases ed;exact⟨p,rfl,id⟩
theorem UX(n:Nat)(ps:List (Int×Int)):cC (aX n ps)=true:=by unfold aX;rw[cC,bT,bT,bT,cC,cC,pE];rfl
theorem cL{H H':Hp}(k:∀c us,H c=some (.tup us)->H' c=some (.tup us)){x:V}{n:Nat}{ps:List (Int×Int)}(h:Is H x (aX n ps)):Is H' x (aX n ps):=h.tmono k (UX n ps)
theorem GW{H H':Hp}{tw:Addr}{ts zs:List V}{prs:List (Int×Int)}(hw:H tw=some (.lst ts))(s:SameT tw H H')(h:IsAll H zs (prs.map aL)):IsAll H' zs (prs.map aL):=
 h.tmono (λc us e=>s _ _ e (dB e hw (by intro z;cases z))) (pE _)
section
variable{P:Program}{w:World}{K:PySem.W.Frag}{mg:Str->Option Value}{base:Heap}{t:Ad}
inductive D7 (vs:List V) (H:Hp) (Q:VK) (zz3:XK):Prop where
 |mk (x d m:_) (zh0:vs=[x,.int m]) (zh1:Is H x d) (zh2:cE d 0 (m-1)=true) (zh3:Q .non H):D7 vs H Q zz3
theorem TW(T:aR K mg t):FnOk P w K mg base aU 3 t.A2 t.zD ["value","many"] D7:=by
 refine T.LL.ok OQ (λvs H Q E h=>?_) (λcdv A outer s H vs Q E hr h=>?_)
 ·obtain⟨x,d,m,rfl,_⟩:=h
  rfl
 ·obtain⟨x,d,m,rfl,hx,ho,q⟩:=h
  refine⟨_,(aD (aW (fA (dL (aQ (wV T) (hr.mono (by decide)) rfl T.xM T.rF.kp T.AU .nil aM (aA (pv 0) (aA (pv 1) pa_nil))))) (aD iS) bB)),?_⟩
  walk_at"rd"
  refine⟨_,_,_,rfl,hx,?_⟩
  rw[ho]
  walk_at"rd"
  exact q
noncomputable def dn(k a:Int):Int:=if a>k then a-1 else a
noncomputable def up(k i:Int):Int:=if i<k then i else i+1
inductive D5 (vs:List V) (H:Hp) (Q:VK) (zz3:XK):Prop where
 |mk (a k:_) (zh0:vs=[.int a,.int k]) (zh1:Q (.int (dn k a)) H):D5 vs H Q zz3
theorem HF(T:aR K mg t):FnOk P w K mg base aU 1 t.A1 t.zC ["thing","left_out"] D5:=by
 refine T.B7.ok OP (λvs H Q E h=>?_) (λcdv A outer s H vs Q E hr h=>?_)
 ·obtain⟨a,k,rfl,_⟩:=h
  rfl
 ·obtain⟨a,k,rfl,q⟩:=h
  refine⟨_,(aD (aP (wM (aT (o9) (pv 0) (pv 1) (aY _)) (bF jR (pv 0) pe_int) (pv 0)))),?_⟩
  unfold dn at q
  walk_at"rd"
  refine bW (λg=>?_) (λg=>?_)
  ·rw[if_pos (of_decide_eq_true g)]at q
   walk_at"rd"
   exact q
  ·rw[if_neg (of_decide_eq_false g)]at q
   walk_at"rd"
   exact q
theorem J0(k i:Int):dn k (up k i)=i:=by
 unfold up
 by_cases h:i<k
 ·rw[if_pos h];unfold dn;rw[if_neg (by lia)]
 ·rw[if_neg h];unfold dn;rw[if_pos (by lia)];lia
theorem nZ{k a:Int}(h:a≠k):up k (dn k a)=a:=by
 unfold dn
 by_cases g:a>k
 ·rw[if_pos g];unfold up;rw[if_neg (by lia)];lia
 ·rw[if_neg g];unfold up;rw[if_pos (by lia)]
theorem CT(k i:Int):up k i≠k:=by
 unfold up
 by_cases h:i<k
 ·rw[if_pos h];lia
 ·rw[if_neg h];lia
theorem J2{k a n:Int}(k0:0<=k)(hk:k<n)(h0:0<=a)(h1:a<n)(h:a≠k):0<=dn k a/\dn k a<n-1:=by
 unfold dn
 by_cases g:a>k
 ·rw[if_pos g];lia
 ·rw[if_neg g];lia
noncomputable def g6(k:Int)(p:Int×Int):Bool:= !(decide (p.1=k)||decide (p.2=k))
theorem offK_iff{k:Int}{p:Int×Int}:g6 k p=true<->p.1≠k/\p.2≠k:=by
 unfold g6
 simp
noncomputable def qJ(k:Int)(p:Int×Int):Int×Int:=(dn k p.1,dn k p.2)
noncomputable def gG(k:Int)(ps:List (Int×Int)):List (Int×Int):=(ps.filter (g6 k)).map (qJ k)
theorem YM(k:Int)(ps:List (Int×Int))(i j:Int):has (gG k ps) i j=has ps (up k i) (up k j):=by
 unfold has
 congr 1
 apply propext
 unfold gG
 rw[mem_map]
 constructor
 ·rintro⟨p,hp,e⟩
  obtain⟨hp,ho⟩:=mem_filter.mp hp
  obtain⟨o1,o2⟩:=offK_iff.mp ho
  unfold qJ at e
  injection e with e1 e2
  rw[<-e1,<-e2,nZ o1,nZ o2]
  exact hp
 ·intro h
  refine⟨_,mem_filter.mpr ⟨h,offK_iff.mpr ⟨CT k i,CT k j⟩⟩,?_⟩
  unfold qJ
  exact Prod.ext (J0 k i) (J0 k j)
theorem J1{k a b:Int}(ha:a≠k)(hb:b≠k)(h:a<b):dn k a<dn k b:=by
 unfold dn
 by_cases g:a>k
 ·rw[if_pos g,if_pos (by lia)];lia
 ·rw[if_neg g]
  by_cases g2:b>k
  ·rw[if_pos g2];lia
  ·rw[if_neg g2];exact h
theorem CP{n:Nat}{ps:List (Int×Int)}(ho:Ord n ps){k:Int}(k0:0<=k)(k1:k<n)(n2:2<=n):Ord (n-1) (gG k ps):=by
 have e1:((n-1:Nat):Int)=(n:Int)-1:=by lia
 refine wO (by lia) (by have:=ho.hi;lia) (λp hp=>?_) ?_
 ·obtain⟨q,hq,rfl⟩:=mem_map.mp hp
  obtain⟨hq,hof⟩:=mem_filter.mp hq
  obtain⟨o1,o2⟩:=offK_iff.mp hof
  obtain⟨a1,a2,a3,a4,a5⟩:=ho.ix q hq
  obtain⟨b1,b2⟩:=J2 k0 k1 a1 a2 o1
  obtain⟨c1,c2⟩:=J2 k0 k1 a3 a4 o2
  refine⟨b1,by rw[e1];exact b2,c1,by rw[e1];exact c2,λz=>a5 ?_⟩
  have z':dn k q.1=dn k q.2:=z
  rw[<-nZ o1,<-nZ o2,z']
 ·unfold gG
  rw[pairwise_map]
  refine List.Pairwise.imp_of_mem (λ{a b}ha hb hab=>?_) (List.Pairwise.filter _ (iR ho.up))
  obtain⟨o1,o2⟩:=offK_iff.mp (mem_filter.mp ha).2
  obtain⟨o3,o4⟩:=offK_iff.mp (mem_filter.mp hb).2
  have h':HT.lexLt [a.1,a.2] [b.1,b.2]=true:=hab
  rw[HT.dR]at h'
  by_cases e:a.1=b.1
  ·rw[if_pos e,HT.dR]at h'
   by_cases e2:a.2=b.2
   ·rw[if_pos e2]at h';cases h'
   ·rw[if_neg e2]at h'
    exact jT (.inr ⟨by show dn k a.1=dn k b.1;rw[e],J1 o2 o4 (of_decide_eq_true h')⟩)
  ·rw[if_neg e]at h'
   exact jT (.inl (J1 o1 o3 (of_decide_eq_true h')))
theorem YB(k a b:Int):gA (.int k) [.int a,.int b]=(decide (a=k)||decide (b=k)):=by
 unfold gA
 rw[any_cons,any_cons,List.any_nil,PyData.eqv,PyData.eqv,Bool.or_false]
 by_cases h:a=k <;> by_cases h2:b=k <;> simp[h,h2]
inductive DY (vs:List V) (H:Hp) (Q:VK) (zz3:XK):Prop where
 |mk (x n ps k:_) (zh0:vs=[x,.int k]) (zh1:Is H x (aX n ps)) (zh2:Ord n ps) (zh3:0<=k) (zh4:k<(n:Int)) (zh5:2<=n) (zh6:∀z H',Same H H'->Is H' z (aX (n-1) (gG k ps))->Ord (n-1) (gG k ps)->Q z H'):DY vs H Q zz3
theorem TQ(T:aR K mg t):FnOk P w K mg base aU 6 t.AW t.y6 ["order","thing"] DY:=by
 refine T.LI.ok sc_without (λvs H Q E h=>?_) (λcdv A outer s H vs Q E hr h=>?_)
 ·obtain⟨x,n,ps,k,rfl,_⟩:=h
  rfl
 ·obtain⟨x,n,ps,k,rfl,hx,ho,k0,k1,n2,q3⟩:=h
  refine⟨_,(aF (cK (aQ (wT T) (hr.mono (by decide)) rfl T.xK T.rD.kp T.AS .nil aM (aA (pv 0) pa_nil)))
   (aF (cK (aQ (TW T) (hr.mono (by decide)) rfl T.VX T.LL.kp T.aa7 .nil aM (aA (pv 1) (aA (aN (aO K) (pv 0) pe_int (λ_ _=>rfl)) pa_nil))))
   (aF (aW (aT (cM hr.units) (aN (aO K) (pv 0) pe_int (λ_ _=>rfl)) pe_int (aY _)) (aD iS) bB)
   (aF (oS (i:=2) sc_without.nd rfl rfl rfl rfl ⟨True.intro,True.intro,(.inl rfl),True.intro⟩ (M:=["pair","thing"]) (.own (.free 1 rfl rfl .nil)) (iA rfl) rfl (by decide +kernel) (i7 K (aN (aO K) (pv 0) pe_int (λ_ _=>rfl))) (λC fp s1 H1=>⟨bH (i:=0) (show(["pair","thing"]:List Str).Nodup by decide +kernel) rfl (Or.inl rfl),mE (aT (gY hr.units) (pv 1) (pv 0) (by rfl)),(pv 0)⟩))
   (aF (oS (i:=3) sc_without.nd rfl rfl rfl rfl ⟨True.intro,True.intro,True.intro,True.intro,(.inl rfl),True.intro⟩ (M:=["one","other","thing"]) (.own (.own (.free 1 rfl rfl .nil))) (YU (JH rfl (JH rfl YT))) rfl (by decide +kernel) (pT K (pv 2)) (λC fp s1 H1=>⟨i8 K (n:=2) rfl (cU (bH (i:=0) (show(["one","other","thing"]:List Str).Nodup by decide +kernel) rfl (Or.inl rfl)) (cU (bH (i:=1) (show(["one","other","thing"]:List Str).Nodup by decide +kernel) rfl (Or.inl rfl)) iT)),kX,(aV (aA (aQ (HF T) (hr.mono (by decide)) rfl T.IF T.B7.kp T.KU .nil aM (aA (pv 0) (aA (pv 2) pa_nil))) (aA (aQ (HF T) (hr.mono (by decide)) rfl T.IF T.B7.kp T.KU .nil aM (aA (pv 1) (aA (pv 2) pa_nil))) pa_nil)))⟩))
   (aD (aP (aV (aA (bF jR (aN (aO K) (pv 0) pe_int (λ_ _=>rfl)) pe_int) (aA (fG (lC K) (by rfl) T.g7 iE (aA (pv 3) pa_nil)) pa_nil)))))))))),?_⟩
  have hsz:=ho.small
  have n1:=ho.lo
  walk_at"rd"
  refine⟨_,_,rfl,hx,ho.okd,ho.yes,λH1 s1=>?_⟩
  obtain⟨a,b,xs,rfl,ea,eb,hxs⟩:=fJ (hx.same s1)
  have hl:xs.length=ps.length:=by rw[hxs.length,length_map]
  walk_at"rd"
  refine⟨_,.int k,n,rfl,.int k,NO k0 k1,?_⟩
  walk_at"rd"
  refine bQ (by simp;lia) ?_
  ·skip
   walk_at"rd"
   refine⟨b,rfl,⟨xs,SqT.of eb⟩,?_⟩
   refine pJ (K:=K) (xs:=xs) (eZ (by lia)) (λi zs H'=>Same H1 H'/\IsAll H' zs (((ps.take i).filter (g6 k)).map aL)) ⟨Same.refl _,.nil⟩ (by
    rintro i zs H' ⟨_,h⟩
    rw[h.length,length_map]
    have:=length_filter_le (g6 k) (ps.take i)
    rw[length_take]at this
    lia) (λi zs H' _ h=>SqT.of (h.1 _ _ eb)) ?_ ?_
   ·rintro i x zs H2 hx2 ⟨s2,iz⟩
    obtain⟨p0,hp0,ip0⟩:=GY (hxs.same s2) hx2
    rw[take_add_one,hp0,show(some p0).toList=[p0] from rfl,filter_append,yZ,map_append]
    have ip0':=ip0
    unfold aL at ip0
    walk_at"rd"
    refine uV (d:=.int k) (.int k) ip0 ⟨rfl,Nat.zero_le _⟩ ⟨rfl,Nat.zero_le _⟩ ?_
    rw[YB]
    walk_at"rd"
    refine bW (λg=>?_) (λg=>?_)
    ·have g':g6 k p0=true:=g
     walk_at"rd"
     rw[if_pos g']
     exact⟨s2,iz.append (.cons ip0' .nil)⟩
    ·have g':g6 k p0=false:=g
     rw[if_neg (by rw[g'];exact Bool.false_ne_true),map_nil,append_nil]
     exact⟨s2,iz⟩
   ·rintro zs H2 ⟨s2,iz⟩ lk hlk
    rw[hl,take_length]at iz
    have s3:=Same.upd (o:=.lst zs) hlk
    have ek:upd H2 lk (.lst zs) lk=some (.lst zs):=aB
    have iz3:=iz.same s3
    have hlz:zs.length=(ps.filter (g6 k)).length:=by rw[iz.length,length_map]
    have lez:=length_filter_le (g6 k) ps
    have s13:=(s1.trans s2).trans s3
    have ea3:=s3 _ _ (s2 _ _ ea)
    generalize upd H2 lk (.lst zs)=H3 at s3 ek iz3 s13 ea3
    walk_at"rd"
    refine⟨lk,rfl,⟨zs,SqL.of ek⟩,?_⟩
    refine xS (K:=K) (xs:=zs) (eZ (by lia)) (λi ws H'=>Same H3 H'/\IsAll H' ws ((((ps.filter (g6 k)).take i).map (qJ k)).map aL)) ⟨Same.refl _,.nil⟩ (by
     rintro i ws H' ⟨_,h⟩
     rw[h.length]
     simp
     lia) (λi ws H' _ h=>SqL.of (h.1 _ _ ek)) ?_ ?_
    ·rintro i x ws H4 hx4 ⟨s4,iw⟩
     obtain⟨p0,hp0,ip0⟩:=GY (iz3.same s4) hx4
     unfold aL at ip0
     cases ip0 with
     |@tup r us _ er hus=>
     obtain rfl:=kR hus
     walk_at"rd"
     refine iP er rfl ?_
     walk_at"rd"
     refine⟨_,_,rfl,?_⟩
     walk_at"rd"
     refine⟨_,_,rfl,?_⟩
     walk_at"rd"
     refine⟨eQ,λp hp=>?_⟩
     have s5:=Same.upd (o:=.tup [V.int (dn k p0.1),V.int (dn k p0.2)]) hp
     refine⟨s4.trans s5,?_⟩
     rw[take_add_one,hp0,map_append,map_append]
     exact(iw.same s5).append (.cons (.tup aB (.cons (.int _) (.cons (.int _) .nil))) .nil)
    ·rintro ws H4 ⟨s4,iw⟩ lp hlp
     rw[hlz,take_length]at iw
     have s5:=Same.upd (o:=.lst ws) hlp
     have ep:upd H4 lp (.lst ws) lp=some (.lst ws):=aB
     have ea5:=s5 _ _ (s4 _ _ ea3)
     walk_at"rd"
     intro tp htp
     have s6:=Same.upd (o:=.tup ws) htp
     walk_at"rd"
     refine⟨by show 2<=sizeLine;decide,λo ho'=>?_⟩
     have nto:tp≠o:=aI aB ho'
     have s7:=Same.upd (o:=.tup [V.int ((n:Int)-1),V.ref tp]) ho'
     refine q3 _ _ ((((s13.trans s4).trans s5).trans s6).trans s7) ?_ (CP ho k0 (by lia) n2)
     unfold aX
     rw[show((n-1:Nat):Int)=(n:Int)-1 by lia]
     exact .tup aB (.cons (.int _) (.cons (.tup (by rw[aE nto,aB]) (((iw.same s5).same s6).same s7)) .nil))
end
noncomputable def iV(n k:Nat)(w:Str):List (Int×Int):=(if w="less" then[((n:Int),(k:Int))] else[])++(if w="more" then[((k:Int),(n:Int))] else[])
noncomputable def dA(n:Nat)(ws:List Str)(i:Nat):List (Int×Int):=(range i).flatMap λk=>iV n k (ws.getD k "")
theorem HS(n:Nat)(ws:List Str)(i:Nat):dA n ws (i+1)=dA n ws i++iV n i (ws.getD i ""):=by
 unfold dA
 rw[range_succ,flatMap_append]
 simp
theorem lm:("less":Str)≠"more":=by decide
theorem mem_nwI{n k:Nat}{w:Str}{p:Int×Int}:p∈iV n k w<->(w="less"/\p=((n:Int),(k:Int)))\/(w="more"/\p=((k:Int),(n:Int))):=by
 unfold iV
 rw[mem_append]
 by_cases h1:w="less"
 ·by_cases h2:w="more"
  ·simp[h1,h2]
  ·rw[if_pos h1,if_neg h2];simp[h1,lm]
 ·by_cases h2:w="more"
  ·rw[if_neg h1,if_pos h2];simp[h2,Ne.symm lm]
  ·rw[if_neg h1,if_neg h2];simp[h1,h2]
theorem UT(n k:Nat):iV n k "beside"=[]:=by
 unfold iV
 rw[if_neg (by decide),if_neg (by decide)]
 rfl
theorem mem_nwT{n:Nat}{ws:List Str}{i:Nat}{p:Int×Int}:p∈dA n ws i<->∃k,k<i/\p∈iV n k (ws.getD k ""):=by
 unfold dA
 rw[mem_flatMap]
 constructor
 ·rintro⟨k,hk,h⟩;exact⟨k,mem_range.mp hk,h⟩
 ·rintro⟨k,hk,h⟩;exact⟨k,mem_range.mpr hk,h⟩
theorem US(n k:Nat)(w:Str):(iV n k w).Nodup:=by
 unfold iV
 by_cases h1:w="less"
 ·rw[if_pos h1,if_neg (by rw[h1];exact lm)];simp
 ·rw[if_neg h1]
  split <;> simp
theorem HU(n:Nat)(ws:List Str):∀i,i<=n->(dA n ws i).Nodup
 |0,_=>by simp[dA]
 |i+1,h=>by
  rw[HS]
  unfold List.Nodup
  rw[pairwise_append]
  refine⟨HU n ws i (by lia),US _ _ _,λa ha b hb z=>?_⟩
  subst z
  obtain⟨k,hk,h1⟩:=mem_nwT.mp ha
  rcases mem_nwI.mp h1 with⟨_,rfl⟩|⟨_,rfl⟩ <;> rcases mem_nwI.mp hb with⟨_,e⟩|⟨_,e⟩ <;> simp at e <;> lia
theorem pD{n:Nat}{ws:List Str}{i:Nat}(hi:i<=n){p:Int×Int}(h:p∈dA n ws i):inN (n+1) p/\(p.1=n\/p.2=n):=by
 obtain⟨k,hk,h1⟩:=mem_nwT.mp h
 unfold inN
 rcases mem_nwI.mp h1 with⟨_,rfl⟩|⟨_,rfl⟩
 ·exact⟨⟨by simp,by simp;lia,by simp,by simp;lia,by simp;lia⟩,.inl rfl⟩
 ·exact⟨⟨by simp,by simp;lia,by simp,by simp;lia,by simp;lia⟩,.inr rfl⟩
noncomputable def bX(n:Nat)(ps:List (Int×Int))(ws:List Str):List (Int×Int):=jW (λi j=>has ps i j||has (dA n ws n) i j) (n+1) (n+1)
theorem HY{n:Nat}{ps qs:List (Int×Int)}{ws:List Str}(ho:Ord (n+1) qs)(h:∀p,p∈qs<->p∈ps\/p∈dA n ws n):bX n ps ws=qs:=by
 refine yJ ho λi j _ _=>?_
 rw[Bool.eq_iff_iff,Bool.or_eq_true,has_iff,has_iff,has_iff,h]
theorem K8{n:Nat}{ps:List (Int×Int)}{ws:List Str}(ho:Ord n ps){i:Nat}(hi:i<=n):(ps++dA n ws i).Nodup:=by
 unfold List.Nodup
 rw[pairwise_append]
 refine⟨mI (iR ho.up),HU n ws i hi,λa ha b hb z=>?_⟩
 subst z
 obtain⟨h1,h2,h3,h4,h5⟩:=ho.ix a ha
 rcases(pD hi hb).2 with e|e <;> lia
theorem AV{n:Nat}{ps:List (Int×Int)}{ws:List Str}(ho:Ord n ps){i:Nat}(hi:i<=n):∀p∈ps++dA n ws i,inN (n+1) p:=λp hp=>by
 rcases mem_append.mp hp with h|h
 ·obtain⟨h1,h2,h3,h4,h5⟩:=ho.ix p h
  exact⟨h1,by lia,h3,by lia,h5⟩
 ·exact(pD hi h).1
noncomputable def cY(ws:List Str):PyData:=.tuple (ws.map .str)
noncomputable def Wd(w:Str):Prop:=w="less"\/w="more"\/w="beside"
theorem gC(a b:Str):PyData.eqv (.str a) (.str b)=decide (a=b):=by
 rw[PyData.eqv]
 by_cases h:a=b
 ·subst h;simp
 ·simp[h]
theorem dN{w:Str}(h:Wd w):bY (.str w):=by
 refine⟨?_,show 0<=40 by decide⟩
 rcases h with rfl|rfl|rfl <;> (rw[PyData.canLay0];decide +kernel)
theorem JC{H:Hp}:∀{xs:List V}{ws:List Str},IsAll H xs (ws.map .str)->xs=ws.map V.str
 |_,[],h=>by cases h;rfl
 | _,w::ws,h=>by
  cases h with
  |cons h1 h2=>
   cases h1
   rw[JC h2]
   rfl
theorem JF{H:Hp}{l p:Addr}{zs:List V}{ds:List PyData}{r:Int×Int}(hz:H l=some (.lst zs))(hp:H p=none)(iz:IsAll H zs ds)(hn:bT ds=true:=by first|exact pE _|assumption):IsAll (upd (upd H p (.tup [V.int r.1,V.int r.2])) l (.lst (zs++[V.ref p]))) (zs++[V.ref p]) (ds++[r].map aL):=by
 have s:=Same.upd (o:=.tup [V.int r.1,V.int r.2]) hp
 have hlp:l≠p:=aI hz hp
 refine((iz.same s).tmono (λc us e=>?_) hn).append (.cons (.tup ?_ (.cons (.int _) (.cons (.int _) .nil))) .nil)
 ·rw[aE (dB e (s _ _ hz) (by intro z;cases z))]
  exact e
 ·rw[aE (Ne.symm hlp),aB]
section
variable{P:Program}{w:World}{K:PySem.W.Frag}{mg:Str->Option Value}{base:Heap}{t:Ad}
inductive D6 (vs:List V) (H:Hp) (Q:VK) (zz3:XK):Prop where
 |mk (x y n ps ws:_) (zh0:vs=[x,y]) (zh1:Is H x (aX n ps)) (zh2:Ord n ps) (zh3:n<=7) (zh4:Is H y (cY ws)) (zh5:ws.length=n) (zh6:(∀v∈ws,Wd v)) (zh7:∀z H',Same H H'->Is H' z (aX (n+1) (bX n ps ws))->Ord (n+1) (bX n ps ws)->Q z H'):D6 vs H Q zz3
theorem HC(T:aR K mg t):FnOk P w K mg base aU 1 t.AX t.y7 ["order","telling"] D6:=by
 refine T.B5.ok sc_with_newest (λvs H Q E h=>?_) (λcdv A outer s H vs Q E hr h=>?_)
 ·obtain⟨x,y,n,ps,ws,rfl,_⟩:=h
  rfl
 ·obtain⟨x,y,n,ps,ws,rfl,hx,ho,n7,hy,hlw,hw,q⟩:=h
  refine⟨_,(aF (aS (i:=2) sc_with_newest.nd rfl (Or.inl rfl) (aN (aO K) (pv 0) pe_int (λ_ _=>rfl)))
   (aF (aS (i:=3) sc_with_newest.nd rfl (Or.inl rfl) (fG (xZ K) (by rfl) T.xE AM (aA (aN (aO K) (pv 0) pe_int (λ_ _=>rfl)) pa_nil)))
   (aF (c5 PassesOwn.never rfl (XV K rfl T.U1 (aA (pv 1) pa_nil)) (i8 K rfl (cU (bH (i:=4) sc_with_newest.nd rfl (Or.inl rfl)) (cU (bH (i:=5) sc_with_newest.nd rfl (Or.inl rfl)) iT))) (aF (aW (aT (cM hr.units) (pv 5) pe_str (aY _)) (aD (cK (fH K PySem.F.plainAttrs_list PySem.F.slot_list_append PySem.F.type_list_append iY (pv 3) (aA (aV (aA (pv 2) (aA (pv 4) pa_nil))) pa_nil)))) bB)
   (aD (aW (aT (cM hr.units) (pv 5) pe_str (aY _)) (aD (cK (fH K PySem.F.plainAttrs_list PySem.F.slot_list_append PySem.F.type_list_append iY (pv 3) (aA (aV (aA (pv 4) (aA (pv 2) pa_nil))) pa_nil)))) bB))))
   (aD (aP (aV (aA (bF eU (pv 2) pe_int) (aA (fG (lC K) (by rfl) T.g7 iE (aA (bP (XT K) (by rfl) T.pF qM (aA (pv 3) pa_nil)) pa_nil)) pa_nil)))))))),?_⟩
  obtain⟨oa,ob,xs,rfl,ea,eb,hxs⟩:=fJ hx
  unfold cY at hy
  cases hy with
  |@tup ya ys _ ey hys=>
  have eys:=JC hys
  subst eys
  have sml:=ho.small
  have lx:xs.length=ps.length:=by rw[hxs.length,length_map]
  walk_at"rd"
  refine FT eb λl hl=>?_
  have s1:=Same.upd (o:=.lst xs) hl
  have hys1:=hys.same s1
  walk_at"rd"
  refine RJ ?_
  walk_at"rd"
  refine⟨ya,rfl,⟨_,SqT.of (s1 _ _ ey)⟩,?_⟩
  refine Y9 (K:=K) (xs:=ws.map V.str) (λi σ H'=>(∃va vb,σ=[some (.ref oa),some (.ref ya),some (.int n),some (.ref l),va,vb])/\Same H H'/\∃zs,H' l=some (.lst zs)/\IsAll H' zs ((ps++dA n ws i).map aL)) ⟨⟨_,_,rfl⟩,s1,xs,aB,by simpa[dA]using hxs.same s1⟩ (λi σ H' _ h=>SqT.of (h.2.1 _ _ ey)) ?_ ?_
  ·rintro i x σ H2 T1 hx ⟨⟨va,vb,rfl⟩,s2,zs,hz,iz⟩ hT1
   rw[List.getElem?_map]at hx
   cases hwi:ws[i]? with
   |none=>rw[hwi]at hx;cases hx
   |some wd=>
   rw[hwi]at hx
   cases hx
   have hiw:i<ws.length:=(List.getElem?_eq_some_iff.mp hwi).1
   have egd:ws.getD i ""=wd:=by rw[List.getD_eq_getElem?_getD,hwi];rfl
   have hwd:Wd wd:=hw _ (List.mem_of_getElem? hwi)
   have s3:=s2.trans (Same.upd (o:=.tup [V.int i,V.str wd]) hT1)
   have hz3:=(Same.upd (o:=.tup [V.int i,V.str wd]) hT1) _ _ hz
   have iz3:=iz.same (Same.upd (o:=.tup [V.int i,V.str wd]) hT1)
   have lz:zs.length<=100:=by
    rw[iz.length,length_map]
    have:=lW (K8 (ws:=ws) ho (show i<=n by lia)) λp hp=>(AV ho (show i<=n by lia) p hp).box (by lia)
    lia
   refine iP aB rfl ?_
   generalize upd H2 T1 (.tup [V.int i,V.str wd])=H3 at s3 hz3 iz3
   rw[HS,egd,<-append_assoc,map_append]
   rcases hwd with rfl|rfl|rfl
   ·walk_at"rd"
    refine bV (d:=.str "less") (e:=.str "less") (.str _) (.str _) (dN (.inl rfl)) (dN (.inl rfl)) ?_
    rw[gC]
    walk_at"rd"
    refine fK (by decide) ?_
    walk_at"rd"
    refine⟨eC hz3,?_⟩
    walk_at"rd"
    refine⟨eQ,λp hp=>?_⟩
    have hlp:l≠p:=aI hz3 hp
    walk_at"rd"
    refine gJ (xs:=zs) (by rw[aE hlp];exact hz3) (gH (by lia)) ?_
    walk_at"rd"
    refine bV (d:=.str "less") (e:=.str "more") (.str _) (.str _) (dN (.inl rfl)) (dN (.inr (.inl rfl))) ?_
    rw[gC]
    walk_at"rd"
    refine bQ (by decide) ?_
    walk_at"rd"
    refine⟨⟨_,_,rfl⟩,λe u h=>?_,_,aB,?_⟩
    ·have e3:=s3 e u h
     rw[aE (aI h hl),aE (aI e3 hp)]
     exact e3
    ·exact JF (r:=((n:Int),(i:Int))) hz3 hp iz3
   ·walk_at"rd"
    refine bV (d:=.str "more") (e:=.str "less") (.str _) (.str _) (dN (.inr (.inl rfl))) (dN (.inl rfl)) ?_
    rw[gC]
    walk_at"rd"
    refine bQ (by decide) ?_
    walk_at"rd"
    refine bV (d:=.str "more") (e:=.str "more") (.str _) (.str _) (dN (.inr (.inl rfl))) (dN (.inr (.inl rfl))) ?_
    rw[gC]
    walk_at"rd"
    refine fK (by decide) ?_
    walk_at"rd"
    refine⟨eC hz3,?_⟩
    walk_at"rd"
    refine⟨eQ,λp hp=>?_⟩
    have hlp:l≠p:=aI hz3 hp
    walk_at"rd"
    refine gJ (xs:=zs) (by rw[aE hlp];exact hz3) (gH (by lia)) ?_
    walk_at"rd"
    refine⟨⟨_,_,rfl⟩,λe u h=>?_,_,aB,?_⟩
    ·have e3:=s3 e u h
     rw[aE (aI h hl),aE (aI e3 hp)]
     exact e3
    ·exact JF (r:=((i:Int),(n:Int))) hz3 hp iz3
   ·walk_at"rd"
    refine bV (d:=.str "beside") (e:=.str "less") (.str _) (.str _) (dN (.inr (.inr rfl))) (dN (.inl rfl)) ?_
    rw[gC]
    walk_at"rd"
    refine bQ (by decide) ?_
    walk_at"rd"
    refine bV (d:=.str "beside") (e:=.str "more") (.str _) (.str _) (dN (.inr (.inr rfl))) (dN (.inr (.inl rfl))) ?_
    rw[gC]
    walk_at"rd"
    refine bQ (by decide) ?_
    walk_at"rd"
    refine⟨⟨_,_,rfl⟩,s3,zs,hz3,?_⟩
    rw[UT,map_nil,append_nil]
    exact iz3
  ·rintro σ H2 ⟨⟨va,vb,rfl⟩,s2,zs,hz,iz⟩
   rw[length_map,hlw]at iz
   walk_at"rd"
   refine P9 (.inl hz) iz (K8 ho (Nat.le_refl _)) (λp hp=>(AV ho (Nat.le_refl _) p hp).box (by lia)) λl2 vs' qs hl' ha hperm hpw=>?_
   have s4:=Same.upd (o:=.lst vs') hl'
   have ev:upd H2 l2 (.lst vs') l2=some (.lst vs'):=aB
   walk_at"rd"
   intro tp htp
   have s5:=Same.upd (o:=.tup vs') htp
   walk_at"rd"
   refine⟨by show 2<=sizeLine;decide,λo ho'=>?_⟩
   have nto:tp≠o:=aI aB ho'
   have s6:=Same.upd (o:=.tup [V.int ((n:Int)+1),V.ref tp]) ho'
   have oq:Ord (n+1) qs:=wO (by lia) (by lia) (λp hp=>AV ho (Nat.le_refl _) p (hperm.mem_iff.mp hp)) hpw
   have eq1:bX n ps ws=qs:=HY oq λp=>(hperm.mem_iff).trans mem_append
   refine q _ _ (((s2.trans s4).trans s5).trans s6) ?_ (by rw[eq1];exact oq)
   rw[eq1]
   refine .tup aB (.cons ?_ (.cons (.tup (by rw[aE nto,aB]) (((ha.same s4).same s5).same s6)) .nil))
   exact .int _
end
theorem kD{H:Hp}:∀ws:List Str,IsAll H (ws.map V.str) (ws.map .str)
 |[]=>.nil
 |w::ws=>.cons (.str w) (kD ws)
noncomputable def eY(d:PyData):Bool:=match d with| .str x=>decide (x="less")||decide (x="more")||decide (x="beside")|_=>false
noncomputable def eE(d:PyData)(n:Nat):Bool:=match d with| .tuple ds=>decide (ds.length=n)&&ds.all eY|_=>false
theorem wdB_wd{w:Str}:eY (.str w)=true<->Wd w:=by
 unfold eY Wd
 simp[or_assoc]
theorem YA(x:Str):gA (.str x) [.str "less",.str "more",.str "beside"]=eY (.str x):=by
 unfold gA eY
 rw[any_cons,any_cons,any_cons,List.any_nil,gC,gC,gC,Bool.or_false]
 have c:∀a b:Str,decide (a=b)=decide (b=a):=λa b=>by
  by_cases h:a=b
  ·rw[decide_eq_true h,decide_eq_true h.symm]
  ·rw[decide_eq_false h,decide_eq_false (λz=>h z.symm)]
 rw[c "less" x,c "more" x,c "beside" x]
 show _=(decide (x="less")||decide (x="more")||decide (x="beside"))
 rw[Bool.or_assoc]
section
variable{P:Program}{w:World}{K:PySem.W.Frag}{mg:Str->Option Value}{base:Heap}{t:Ad}
noncomputable def jS(d:PyData):Prop:=∀ds,d=.tuple ds->ds.length<=1000/\∀e∈ds,bY e
inductive EG (vs:List V) (H:Hp) (Q:VK) (zz3:XK):Prop where
 |mk (x:V) (n:Nat) (d:PyData) (zh0:vs=[x,.int n]) (zh1:Is H x d) (zh2:jS d) (zh3:∀H',Same H H'->Q (.bl (eE d n)) H'):EG vs H Q zz3
theorem HH(T:aR K mg t):FnOk P w K mg base aU 1 t.BA t.zL ["value","many"] EG:=by
 refine T.B8.ok OV (λvs H Q E h=>?_) (λcdv A outer s H vs Q E hr h=>?_)
 ·obtain⟨x,n,d,rfl,_⟩:=h
  rfl
 ·obtain⟨x,n,d,rfl,hx,hok,q⟩:=h
  refine⟨_,(aF (aW (PW.pt (gU (fA (dL (bP kH (by rfl) T.dP eA (aA (pv 0) (aA (jP (v:=.ty "tuple") rfl T.g7 iE rfl) pa_nil))))) (gT (aT (gZ hr.units) (bP (hX K) (by rfl) T.hJ iF (aA (pv 0) pa_nil)) (pv 1) (aY _))))) (aD (aP pe_bl)) bB)
   (aD (aP (bP (x8 K) (by rfl) T.xF AN (aA (j4 rfl ⟨True.intro,True.intro,True.intro,True.intro,True.intro,True.intro⟩ (M:=["word"]) (.own .nil) (iA rfl) rfl (by decide +kernel) (i7 K (pv 0)) (λC fp s1 H1=>⟨bH (i:=0) (show(["word"]:List Str).Nodup by decide +kernel) rfl (Or.inl rfl),kX,(mG (bP kH (by rfl) T.dP eA (aA (pv 0) (aA (jP (v:=.ty "str") rfl T.UZ aaR rfl) pa_nil))) (mF (fU (XX K hr.units) (pv 0) (gW (v:=.ref t.qL) rfl T.Y4 rfl) (by rfl))))⟩)) pa_nil))))),?_⟩
  walk_at"rd"
  by_cases hd:∃ds,d=.tuple ds
  ·obtain⟨ds,rfl⟩:=hd
   obtain⟨hlen,hds⟩:=hok _ rfl
   cases hx with
   |@tup r xs _ e hxs=>
   have hl:=hxs.length
   have qe:eE (.tuple ds) n=(decide (ds.length=n)&&ds.all eY):=rfl
   rw[qe]at q
   walk_at"rd"
   refine bW (λh1=>?_) (λh1=>?_)
   ·have h1':decide (ds.length=n)=false:=by
     have:¬((xs.length:Nat):Int)=(n:Int):=by simpa using h1
     exact decide_eq_false (by lia)
    walk_at"rd"
    have q':=q H (Same.refl H)
    rw[h1',Bool.false_and]at q'
    exact q'
   ·have h1':decide (ds.length=n)=true:=by
     have:((xs.length:Nat):Int)=(n:Int):=by simpa using h1
     exact decide_eq_true (by lia)
    rw[h1',Bool.true_and]at q
    walk_at"rd"
    refine⟨r,rfl,⟨xs,SqT.of e⟩,?_⟩
    refine pJ (K:=K) (xs:=xs) (eZ (by lia)) (λi zs H'=>H'=H/\zs=((ds.take i).map eY).map V.bl) ⟨rfl,rfl⟩ (by rintro i ys H' ⟨_,rfl⟩;simp;lia) (λi zs H' _ h=>by rw[h.1];exact SqT.of e) ?_ ?_
    ·rintro i x zs H' hx ⟨rfl,rfl⟩
     obtain⟨d,ed,id⟩:=hxs.get' hx
     have od:=hds d (List.mem_of_getElem? ed)
     rw[take_add_one,ed,show(some d).toList=[d] from rfl,map_append,map_append]
     walk_at"rd"
     by_cases hs:∃y,d=.str y
     ·obtain⟨y,rfl⟩:=hs
      refine⟨_,rfl,?_⟩
      refine⟨t.qL,_,[.str "less",.str "more",.str "beside"],.str y,rfl,T.O8 _,.cons (.str _) (.cons (.str _) (.cons (.str _) .nil)),id,od,⟨by decide +kernel,by decide +kernel⟩,?_⟩
      rw[YA]
      exact⟨rfl,rfl⟩
     ·have e1:isStrD d=false:=by
       cases d with
       |str y=>exact absurd ⟨y,rfl⟩ hs
       |_=>rfl
      have e2:eY d=false:=by
       cases d with
       |str y=>exact absurd ⟨y,rfl⟩ hs
       |_=>rfl
      rw[e1]
      refine bQ rfl ?_
      refine⟨rfl,?_⟩
      show _=_++[V.bl (eY d)]
      rw[e2]
    ·rintro zs H' ⟨rfl,rfl⟩ p hp
     walk_at"rd"
     refine oK aB ?_
     rw[hl,take_length,all_map]
     exact q _ (Same.upd (o:=.lst ((ds.map eY).map V.bl)) hp)
  ·have hd':∀ds,d≠.tuple ds:=λds e=>hd ⟨ds,e⟩
   rw[pU hd']
   walk_at"rd"
   have q':=q H (Same.refl H)
   have e:eE d n=false:=by
    unfold eE
    split
    ·exact absurd rfl (hd' _)
    ·rfl
   rw[e]at q'
   exact q'
inductive sL (vs:List V) (H:Hp) (Q:VK) (zz3:XK):Prop where
 |mk (x:V) (n:Nat) (d:PyData) (zh0:vs=[x,.int n]) (zh1:Is H x d) (zh2:jS d) (zh3:eE d n=true) (zh4:∀H',Same H H'->Q .non H'):sL vs H Q zz3
theorem HG(T:aR K mg t):FnOk P w K mg base aU 2 t.nJ t.nB ["value","many"] sL:=by
 refine T.rC.ok E6 (λvs H Q E h=>?_) (λcdv A outer s H vs Q E hr h=>?_)
 ·obtain⟨x,n,d,rfl,_⟩:=h
  rfl
 ·obtain⟨x,n,d,rfl,hx,hok,ht,q⟩:=h
  refine⟨_,(aD (aW (fA (dL (aQ (HH T) (hr.mono (by decide)) rfl T.IH T.B8.kp T.KY .nil aM (aA (pv 0) (aA (pv 1) pa_nil))))) (aD iS) bB)),?_⟩
  walk_at"rd"
  refine⟨x,n,d,rfl,hx,hok,λH1 s1=>?_⟩
  rw[ht]
  walk_at"rd"
  exact q H1 s1
noncomputable def DU(t:Ad):Sp:=λvs H Q E=>∃(x:V)(n:Nat)(d:PyData),vs=[x,.int n]/\Is H x d/\jS d/\eE d n=false/\∀H',Same H H'->E (.ref t.bI) none H'
theorem TL(T:aR K mg t):FnOk P w K mg base (cJ P w) 2 t.nJ t.nB ["value","many"] (DU t):=by
 refine T.rC.okX E6 (λvs H Q E h=>?_) (λcdv A outer s H vs Q E hr h=>?_)
 ·obtain⟨x,n,d,rfl,_⟩:=h
  rfl
 ·obtain⟨x,n,d,rfl,hx,hok,ht,q⟩:=h
  refine⟨_,(aD (aW (fA (dL (aQ (HH T) (hr.mono (by decide)) rfl T.IH T.B8.kp T.KY .nil aM (aA (pv 0) (aA (pv 1) pa_nil))))) (aD (oU T.p9 T.qR.exc rfl (aA pe_str pa_nil))) bB)),?_⟩
  walk_at"rd"
  refine⟨x,n,d,rfl,hx,hok,λH1 s1=>?_⟩
  rw[ht]
  walk_at"rd"
  exact⟨by show 1<=sizeLine;decide,q H1 s1⟩
noncomputable def NY(t:Ad):Sp:=λvs H Q E=>sL vs H Q E\/DU t vs H Q E
theorem TD(T:aR K mg t):FnOk P w K mg base (cJ P w) 2 t.nJ t.nB ["value","many"] (NY t):=(HG T).lift.or (TL T)
noncomputable def DT(t:Ad):Sp:=λvs H Q E=>∃x n ps,vs=[x]/\Is H x (aX n ps)/\Ord n ps/\cB n ps=true/\∀H',Same H H'->E (.ref t.bJ) none H'
theorem TJ(T:aR K mg t):FnOk P w K mg base (cJ P w) 7 t.nH t.nA ["order"] (DT t):=by
 refine T.nT.okX E5 (λvs H Q E h=>?_) (λcdv A outer s H vs Q E hr h=>?_)
 ·obtain⟨x,n,ps,rfl,_⟩:=h
  rfl
 ·obtain⟨x,n,ps,rfl,hx,ho,hb,q⟩:=h
  refine⟨_,(aD (aW (aT wZ (aQ (HI T) (hr.mono (by decide)) rfl T.II T.B9.kp T.KZ .nil aM (aA (pv 0) pa_nil)) pe_non (aY _)) (aD (oU T.qB T.qT.exc rfl (aA pe_str pa_nil))) bB)),?_⟩
  walk_at"rd"
  refine⟨_,n,ps,rfl,hx,ho,λv H1 s1 iv=>?_⟩
  walk_at"rd"
  rw[aa2 iv,hb]
  refine fK rfl ?_
  walk_at"rd"
  exact⟨by show 1<=sizeLine;decide,q H1 s1⟩
noncomputable def NX(t:Ad):Sp:=λvs H Q E=>sK vs H Q E\/DT t vs H Q E
theorem TC(T:aR K mg t):FnOk P w K mg base (cJ P w) 7 t.nH t.nA ["order"] (NX t):=(wS T).lift.or (TJ T)
noncomputable def KAt(t:Ad)(H:Hp)(p:Addr)(x:V):Prop:=∃dx,H p=some (.ins t.eX dx [("kept",x)])
inductive EX (t:Ad) (vs:List V) (H:Hp) (Q:VK) (zz3:XK):Prop where
 |mk (p dx:Addr) (zh0:vs=[.ref p]) (zh1:H p=some (.ins t.eX dx [])) (zh2:∀(x:V)H',SameT p H H'->KAt t H' p x->Is H' x (aX 1 [])->Q .non H'):EX t vs H Q zz3
theorem HM(T:aR K mg t):FnOk P w K mg base aU 1 t.BY t.AG ["self"] (EX t):=by
 refine T.ab4.ok O7 (λvs H Q E h=>?_) (λcdv A outer s H vs Q E hr h=>?_)
 ·obtain⟨p,dx,rfl,_⟩:=h
  rfl
 ·obtain⟨p,dx,rfl,hp,q⟩:=h
  refine⟨_,(aD (oW (pv 0) (aV (aA pe_int (aA (aV pa_nil) pa_nil))) rfl)),?_⟩
  walk_at"rd"
  refine⟨Nat.zero_le _,λq1 hq1=>?_⟩
  have f1:=Same.upd (o:=.tup []) hq1
  have e1:upd H q1 (.tup []) q1=some (.tup []):=aB
  generalize upd H q1 (.tup [])=H1 at f1 e1
  walk_at"rd"
  refine⟨by show 2<=sizeLine;decide,λq2 hq2=>?_⟩
  have f2:=Same.upd (o:=.tup [V.int 1,V.ref q1]) hq2
  have e2:upd H1 q2 (.tup [V.int 1,V.ref q1]) q2=some (.tup [V.int 1,V.ref q1]):=aB
  have e12:=f2 _ _ e1
  have f12:=f1.trans f2
  generalize upd H1 q2 (.tup [V.int 1,V.ref q1])=H2 at f12 e2 e12
  have hp2:=f12 _ _ hp
  have n1:q1≠p:=dB e12 hp2 (by intro z;cases z)
  have n2:q2≠p:=dB e2 hp2 (by intro z;cases z)
  walk_at"rd"
  refine⟨p,t.eX,dx,[],rfl,hp2,T.cl_Keeper,T.na_Keeper_kept,by decide,?_⟩
  walk_at"rd"
  refine q (.ref q2) _ (λc u e g=>by rw[aE g];exact f12 _ _ e) ⟨dx,aB⟩ ?_
  refine .tup (by rw[aE n2];exact e2) (.cons (.int _) (.cons (.tup (xs:=[]) (by rw[aE n1];exact e12) .nil) .nil))
inductive EV (t:Ad) (vs:List V) (H:Hp) (Q:VK) (zz3:XK):Prop where
 |mk (p:Addr) (x:V) (zh0:vs=[.ref p]) (zh1:KAt t H p x) (zh2:Q x H):EV t vs H Q zz3
theorem HL(T:aR K mg t):FnOk P w K mg base aU 1 t.BW t.AE ["self"] (EV t):=by
 refine T.ab2.ok O5 (λvs H Q E h=>?_) (λcdv A outer s H vs Q E hr h=>?_)
 ·obtain⟨p,x,rfl,_⟩:=h
  rfl
 ·obtain⟨p,x,rfl,⟨dx,hp⟩,q⟩:=h
  refine⟨_,(aD (aP (gX (pv 0) rfl))),?_⟩
  walk_at"rd"
  exact⟨p,_,dx,_,x,rfl,hp,T.cl_Keeper,T.na_Keeper_kept,hW _ _,q⟩
inductive EW (t:Ad) (vs:List V) (H:Hp) (Q:VK) (zz3:XK):Prop where
 |mk (p:Addr) (x:V) (n:Nat) (ps:List (Int×Int)) (st:Int) (vals:List Int) (zh0:vs=[.ref p]) (zh1:KAt t H p x) (zh2:Is H x (aX n ps)) (zh3:Ord n ps) (zh4:cB n ps=false) (zh5:1<=st) (zh6:st<=999) (zh7:cN n ps st=some vals) (zh8:(∀s',1<=s'->s'<st->cN n ps s'=none)) (zh9:∀H' p r,Same H H'->H' p=some (.tup [.int st,.ref r])->H' r=some (.tup (vals.map V.int))->Q (.ref p) H'):EW t vs H Q zz3
theorem UL(T:aR K mg t):FnOk P w K mg base aU 9 t.BX t.AF ["self"] (EW t):=by
 refine T.ab3.ok O6 (λvs H Q E h=>?_) (λcdv A outer s H vs Q E hr h=>?_)
 ·obtain⟨p,x,n,ps,st,vals,rfl,_⟩:=h
  rfl
 ·obtain⟨p,x,n,ps,st,vals,rfl,⟨dx,hp⟩,hx,ho,hb,s1,s2,hn,hno,q⟩:=h
  refine⟨_,(aD (aP (aQ (TZ T) (hr.mono (by decide)) rfl T.V4 T.LP.kp T.abA .nil aM (aA (gX (pv 0) rfl) pa_nil)))),?_⟩
  walk_at"rd"
  refine⟨p,_,dx,_,x,rfl,hp,T.cl_Keeper,T.na_Keeper_kept,hW _ _,?_⟩
  walk_at"rd"
  exact⟨x,n,ps,st,vals,rfl,hx,ho,hb,s1,s2,hn,hno,q⟩
end
theorem rY{ws:List Str}{n:Nat}(hl:ws.length=n)(hw:∀v∈ws,Wd v):eE (cY ws) n=true:=by
 show(decide ((ws.map PyData.str).length=n)&&(ws.map PyData.str).all eY)=true
 rw[length_map,decide_eq_true hl,Bool.true_and,all_map]
 exact all_eq_true.mpr λv hv=>wdB_wd.mpr (hw v hv)
theorem HN{ws:List Str}(hl:ws.length<=1000)(hw:∀v∈ws,Wd v):jS (cY ws):=by
 rintro ds ⟨⟩
 refine⟨by rw[length_map];exact hl,λe he=>?_⟩
 obtain⟨v,hv,rfl⟩:=mem_map.mp he
 exact dN (hw v hv)
theorem KAt.keep{t:Ad}{H:Hp}{p:Addr}{x:V}(h:KAt t H p x){c:Addr}{us:List V}(e:H c=some (.tup us)):c≠p:=by
 obtain⟨dx,hp⟩:=h
 exact dB e hp (by intro z;cases z)
theorem KAt.same{t:Ad}{H H':Hp}{p:Addr}{x:V}(h:KAt t H p x)(s:Same H H'):KAt t H' p x:=let⟨dx,e⟩:=h;⟨dx,s _ _ e⟩
structure Tl (n:Nat) (ws:List Str):Prop where
 len:ws.length=n
 wd:∀v∈ws,Wd v
section
variable{P:Program}{w:World}{K:PySem.W.Frag}{mg:Str->Option Value}{base:Heap}{t:Ad}
inductive sO (t:Ad) (vs:List V) (H:Hp) (Q:VK) (zz3:XK):Prop where
 |mk (p:Addr) (x:V) (n:Nat) (ps:List (Int×Int)) (y:V) (ws:List Str) (zh0:vs=[.ref p,y]) (zh1:KAt t H p x) (zh2:Is H x (aX n ps)) (zh3:Ord n ps) (zh4:n<=7) (zh5:Is H y (cY ws)) (zh6:Tl n ws) (zh7:cB (n+1) (bX n ps ws)=false) (zh8:∀(x':V)H',SameT p H H'->KAt t H' p x'->Is H' x' (aX (n+1) (bX n ps ws))->Ord (n+1) (bX n ps ws)->Q (.int n) H'):sO t vs H Q zz3
theorem UM(T:aR K mg t):FnOk P w K mg base aU 8 t.nM t.nE ["self","telling"] (sO t):=by
 refine T.ME.ok sc_Keeper_come (λvs H Q E h=>?_) (λcdv A outer s H vs Q E hr h=>?_)
 ·obtain⟨p,x,n,ps,y,ws,rfl,_⟩:=h
  rfl
 ·obtain⟨p,x,n,ps,y,ws,rfl,⟨dx,hp⟩,hx,ho,n7,hy,tl,hb,q⟩:=h
  refine⟨_,(aF (aS (i:=2) sc_Keeper_come.nd rfl (Or.inl rfl) (aN (aO K) (gX (pv 0) rfl) pe_int (λ_ _=>rfl)))
   (aF (cK (aQ (HG T) (hr.mono (by decide)) rfl T.IG T.rC.kp T.KW .nil aM (aA (pv 1) (aA (pv 2) pa_nil))))
   (aF (aW (aT (cM hr.units) (pv 2) (o0 rfl T.AL) (aY _)) (aD iS) bB)
   (aF (aS (i:=3) sc_Keeper_come.nd rfl (Or.inl rfl) (aQ (HC T) (hr.mono (by decide)) rfl T.ID T.B5.kp T.KR .nil aM (aA (gX (pv 0) rfl) (aA (pv 1) pa_nil))))
   (aF (cK (aQ (wS T) (hr.mono (by decide)) rfl T.xJ T.nT.kp T.AR .nil aM (aA (pv 3) pa_nil)))
   (aF (oW (pv 0) (pv 3) rfl)
   (aD (aP (pv 2))))))))),?_⟩
  obtain⟨oa,ob,xs,rfl,ea,eb,hxs⟩:=fJ hx
  walk_at"rd"
  refine⟨p,_,dx,_,_,rfl,hp,T.cl_Keeper,T.na_Keeper_kept,hW _ _,?_⟩
  walk_at"rd"
  refine⟨y,n,cY ws,rfl,hy,HN (by rw[tl.len];lia) tl.wd,rY tl.len tl.wd,λH1 s1=>?_⟩
  walk_at"rd"
  refine bQ (by simp;lia) ?_
  have hp1:=s1 _ _ hp
  walk_at"rd"
  refine⟨p,_,dx,_,_,rfl,hp1,T.cl_Keeper,T.na_Keeper_kept,hW _ _,?_⟩
  walk_at"rd"
  refine⟨_,y,n,ps,ws,rfl,hx.same s1,ho,n7,hy.same s1,tl.len,tl.wd,λz H2 s2 iz oz=>?_⟩
  walk_at"rd"
  refine⟨z,n+1,_,rfl,iz,oz,hb,λH3 s3=>?_⟩
  have hp3:=s3 _ _ (s2 _ _ hp1)
  have iz3:=iz.same s3
  walk_at"rd"
  refine⟨p,_,dx,_,rfl,hp3,T.cl_Keeper,T.na_Keeper_kept,by show 1<1000;decide,?_⟩
  walk_at"rd"
  have kt:∀c us,H3 c=some (.tup us)->upd H3 p (.ins t.eX dx (cR "kept" z [("kept",V.ref oa)])) c=some (.tup us):=λc us e=>by rw[aE (dB e hp3 (by intro z;cases z))];exact e
  exact q z _ (λc u e g=>by rw[aE g];exact s3 _ _ (s2 _ _ (s1 _ _ e))) ⟨dx,by rw[aB,GT]⟩ (cL kt iz3) oz
inductive Rf (t:Ad) (n:Nat) (ps:List (Int×Int)) (d:PyData) (H:Hp) (E:XK):Prop where
 |tel (a:eE d n=false) (q:∀H',Same H H'->E (.ref t.bI) none H')
 |full (a:eE d n=true) (b:n=8) (q:∀H',Same H H'->E (.ref t.bN) none H')
 |bar (ws:List Str) (a:d=cY ws) (b:Tl n ws) (c:n<=7) (e:cB (n+1) (bX n ps ws)=true) (q:∀H',Same H H'->E (.ref t.bJ) none H')
noncomputable def DW(t:Ad):Sp:=λvs H Q E=>∃(p:Addr)(x:V)(n:Nat)(ps:List (Int×Int))(y:V)(d:PyData),vs=[.ref p,y]/\KAt t H p x/\Is H x (aX n ps)/\Ord n ps/\Is H y d/\jS d/\Rf t n ps d H E
theorem TN(T:aR K mg t):FnOk P w K mg base (cJ P w) 8 t.nM t.nE ["self","telling"] (DW t):=by
 refine T.ME.okX sc_Keeper_come (λvs H Q E h=>?_) (λcdv A outer s H vs Q E hr h=>?_)
 ·obtain⟨p,x,n,ps,y,d,rfl,_⟩:=h
  rfl
 ·obtain⟨p,x,n,ps,y,d,rfl,⟨dx,hp⟩,hx,ho,hy,ok,rf⟩:=h
  refine⟨_,(aF (aS (i:=2) sc_Keeper_come.nd rfl (Or.inl rfl) (aN (aO K) (gX (pv 0) rfl) pe_int (λ_ _=>rfl)))
   (aF (cK (aQ (TD T) (hr.mono (by decide)) rfl T.IG T.rC.kp T.KW .nil G1 (aA (pv 1) (aA (pv 2) pa_nil))))
   (aF (aW (aT (cM hr.units) (pv 2) (o0 rfl T.AL) (aY _)) (aD (oU T.qA T.qS.exc rfl (aA pe_str pa_nil))) bB)
   (aF (aS (i:=3) sc_Keeper_come.nd rfl (Or.inl rfl) (aQ (HC T) (hr.mono (by decide)) rfl T.ID T.B5.kp T.KR .nil aM (aA (gX (pv 0) rfl) (aA (pv 1) pa_nil))))
   (aF (cK (aQ (TC T) (hr.mono (by decide)) rfl T.xJ T.nT.kp T.AR .nil G1 (aA (pv 3) pa_nil)))
   (aF (oW (pv 0) (pv 3) rfl)
   (aD (aP (pv 2))))))))),?_⟩
  obtain⟨oa,ob,xs,rfl,ea,eb,hxs⟩:=fJ hx
  walk_at"rd"
  refine⟨p,_,dx,_,_,rfl,hp,T.cl_Keeper,T.na_Keeper_kept,hW _ _,?_⟩
  walk_at"rd"
  cases rf with
  |tel a q=>exact .inr ⟨y,n,d,rfl,hy,ok,a,q⟩
  |full a b q=>
   refine .inl ⟨y,n,d,rfl,hy,ok,a,λH1 s1=>?_⟩
   walk_at"rd"
   refine fK (by simp;lia) ?_
   walk_at"rd"
   exact⟨by show 1<=sizeLine;decide,q H1 s1⟩
  |bar ws a tl n7 hb q=>
   subst a
   refine .inl ⟨y,n,_,rfl,hy,ok,rY tl.len tl.wd,λH1 s1=>?_⟩
   walk_at"rd"
   refine bQ (by simp;lia) ?_
   have hp1:=s1 _ _ hp
   walk_at"rd"
   refine⟨p,_,dx,_,_,rfl,hp1,T.cl_Keeper,T.na_Keeper_kept,hW _ _,?_⟩
   walk_at"rd"
   refine⟨_,y,n,ps,ws,rfl,hx.same s1,ho,n7,hy.same s1,tl.len,tl.wd,λz H2 s2 iz oz=>?_⟩
   walk_at"rd"
   exact .inr ⟨z,n+1,_,rfl,iz,oz,hb,λH3 s3=>q H3 ((s1.trans s2).trans s3)⟩
noncomputable def OA(t:Ad):Sp:=λvs H Q E=>sO t vs H Q E\/DW t vs H Q E
theorem TH(T:aR K mg t):FnOk P w K mg base (cJ P w) 8 t.nM t.nE ["self","telling"] (OA t):=(UM T).lift.or (TN T)
inductive sN (t:Ad) (vs:List V) (H:Hp) (Q:VK) (zz3:XK):Prop where
 |mk (p:Addr) (x:V) (n:Nat) (ps:List (Int×Int)) (zh0:vs=[.ref p]) (zh1:KAt t H p x) (zh2:Is H x (aX n ps)) (zh3:Ord n ps) (zh4:2<=n) (zh5:∀(x':V)H',SameT p H H'->KAt t H' p x'->Is H' x' (aX (n-1) (gG ((n:Int)-1) ps))->Q .non H'):sN t vs H Q zz3
theorem UK(T:aR K mg t):FnOk P w K mg base aU 8 t.nK t.nC ["self"] (sN t):=by
 refine T.MD.ok E7 (λvs H Q E h=>?_) (λcdv A outer s H vs Q E hr h=>?_)
 ·obtain⟨p,x,n,ps,rfl,_⟩:=h
  rfl
 ·obtain⟨p,x,n,ps,rfl,⟨dx,hp⟩,hx,ho,n2,q⟩:=h
  refine⟨_,(aF (aW (aT (cM hr.units) (aN (aO K) (gX (pv 0) rfl) pe_int (λ_ _=>rfl)) pe_int (aY _)) (aD iS) bB)
   (aD (oW (pv 0) (aQ (TQ T) (hr.mono (by decide)) rfl T.VU T.LI.kp T.aa4 .nil aM (aA (gX (pv 0) rfl) (aA (bF jR (aN (aO K) (gX (pv 0) rfl) pe_int (λ_ _=>rfl)) pe_int) pa_nil))) rfl))),?_⟩
  obtain⟨oa,ob,xs,rfl,ea,eb,hxs⟩:=fJ hx
  walk_at"rd"
  refine⟨p,_,dx,_,_,rfl,hp,T.cl_Keeper,T.na_Keeper_kept,hW _ _,?_⟩
  walk_at"rd"
  refine bQ (by simp;lia) ?_
  walk_at"rd"
  refine⟨p,_,dx,_,_,rfl,hp,T.cl_Keeper,T.na_Keeper_kept,hW _ _,?_⟩
  walk_at"rd"
  refine⟨p,_,dx,_,_,rfl,hp,T.cl_Keeper,T.na_Keeper_kept,hW _ _,?_⟩
  walk_at"rd"
  refine⟨_,n,ps,_,rfl,hx,ho,by lia,by lia,n2,λz H1 s1 iz oz=>?_⟩
  have hp1:=s1 _ _ hp
  walk_at"rd"
  refine⟨p,_,dx,_,rfl,hp1,T.cl_Keeper,T.na_Keeper_kept,by show 1<1000;decide,?_⟩
  have kt:∀c us,H1 c=some (.tup us)->upd H1 p (.ins t.eX dx (cR "kept" z [("kept",V.ref oa)])) c=some (.tup us):=λc us e=>by rw[aE (dB e hp1 (by intro z;cases z))];exact e
  exact q z _ (λc u e g=>by rw[aE g];exact s1 _ _ e) ⟨dx,by rw[aB,GT]⟩ (cL kt iz)
noncomputable def DV(t:Ad):Sp:=λvs H Q E=>∃(p:Addr)(x:V)(n:Nat)(ps:List (Int×Int)),vs=[.ref p]/\KAt t H p x/\Is H x (aX n ps)/\n=1/\∀H',Same H H'->E (.ref t.bM) none H'
theorem TM(T:aR K mg t):FnOk P w K mg base (cJ P w) 8 t.nK t.nC ["self"] (DV t):=by
 refine T.MD.okX E7 (λvs H Q E h=>?_) (λcdv A outer s H vs Q E hr h=>?_)
 ·obtain⟨p,x,n,ps,rfl,_⟩:=h
  rfl
 ·obtain⟨p,x,n,ps,rfl,⟨dx,hp⟩,hx,n1,q⟩:=h
  refine⟨_,(aF (aW (aT (cM hr.units) (aN (aO K) (gX (pv 0) rfl) pe_int (λ_ _=>rfl)) pe_int (aY _)) (aD (oU T.p8 T.qQ.exc rfl (aA pe_str pa_nil))) bB)
   (aD iS)),?_⟩
  obtain⟨oa,ob,xs,rfl,ea,eb,hxs⟩:=fJ hx
  walk_at"rd"
  refine⟨p,_,dx,_,_,rfl,hp,T.cl_Keeper,T.na_Keeper_kept,hW _ _,?_⟩
  walk_at"rd"
  refine fK (by simp;lia) ?_
  walk_at"rd"
  exact⟨by show 1<=sizeLine;decide,q H (Same.refl H)⟩
noncomputable def NZ(t:Ad):Sp:=λvs H Q E=>sN t vs H Q E\/DV t vs H Q E
theorem TF(T:aR K mg t):FnOk P w K mg base (cJ P w) 8 t.nK t.nC ["self"] (NZ t):=(UK T).lift.or (TM T)
theorem MT(T:aR K mg t):nN K t t.bI 5:=⟨by decide,T.qR,T.rQ,T.rJ,T.vK,T.vL,T.vJ,T.vI,T.vM,pP,T.vO,T.vN,T.vH⟩
theorem MW(T:aR K mg t):nN K t t.bJ 6:=⟨by decide,T.qT,T.rS,T.rL,T.wA,T.wB,T.v0,T.vY,T.wC,T.vZ,pP,T.wD,T.vX⟩
theorem MV(T:aR K mg t):nN K t t.bN 7:=⟨by decide,T.qS,T.rR,T.rK,T.vT,T.vU,T.vS,T.vQ,T.vV,T.vR,T.vW,pP,T.vP⟩
theorem MU(T:aR K mg t):nN K t t.bM 8:=⟨by decide,T.qQ,T.rP,T.rH,T.vC,T.vD,T.vB,T.u3,T.vE,T.vA,T.vG,T.vF,pP⟩
inductive Do (t:Ad) (n:Nat) (ps:List (Int×Int)) (p:Addr) (d:PyData) (H:Hp) (Q:VK):Prop where
 |undo (a:d=.str "undo") (b:2<=n) (q:∀(x':V)H',SameT p H H'->KAt t H' p x'->Is H' x' (aX (n-1) (gG ((n:Int)-1) ps))->Q .non H')
 |none (a:d=.str "undo") (b:n=1) (q:∀v H',Same H H'->Is H' v (dJ 8)->Q v H')
 |tel (z:PyData.eqv d (.str "undo")=false) (a:eE d n=false) (q:∀v H',Same H H'->Is H' v (dJ 5)->Q v H')
 |full (z:PyData.eqv d (.str "undo")=false) (a:eE d n=true) (b:n=8) (q:∀v H',Same H H'->Is H' v (dJ 7)->Q v H')
 |bar (z:PyData.eqv d (.str "undo")=false) (ws:List Str) (a:d=cY ws) (b:Tl n ws) (c:n<=7) (e:cB (n+1) (bX n ps ws)=true) (q:∀v H',Same H H'->Is H' v (dJ 6)->Q v H')
 |come (z:PyData.eqv d (.str "undo")=false) (ws:List Str) (a:d=cY ws) (b:Tl n ws) (c:n<=7) (e:cB (n+1) (bX n ps ws)=false) (q:∀(x':V)H',SameT p H H'->KAt t H' p x'->Is H' x' (aX (n+1) (bX n ps ws))->Ord (n+1) (bX n ps ws)->Q (.int n) H')
inductive EO (K:PySem.W.Frag) (t:Ad) (vs:List V) (H:Hp) (Q:VK) (zz3:XK):Prop where
 |mk (p:Addr) (x:V) (n:Nat) (ps:List (Int×Int)) (y:V) (d:PyData) (zh0:vs=[.ref p,y]) (zh1:KAt t H p x) (zh2:Is H x (aX n ps)) (zh3:Ord n ps) (zh4:Is H y d) (zh5:bY d) (zh6:jS d) (zh7:Do t n ps p d H Q):EO K t vs H Q zz3
theorem UH(T:aR K mg t):FnOk P w K mg base aU 10 t.BT t.AB ["_law_keeper","_law_telling"] (EO K t):=by
 refine T.L8.ok sc__law_do (λvs H Q E h=>?_) (λcdv A outer s H vs Q E hr h=>?_)
 ·obtain⟨p,x,n,ps,y,d,rfl,_⟩:=h
  rfl
 ·obtain⟨p,x,n,ps,y,d,rfl,ka,hx,ho,hy,od,ok,dd⟩:=h
  refine⟨_,(aD (SA (i:=2) rfl sc__law_do.nd rfl rfl rfl rfl rfl rfl T.yK (λpn E1 Eb hp=>(aD (aP (wM (aT (cM hr.units) (pv 1) pe_str (aY _)) (oZ (pv 0) T.cl_Keeper T.M_Keeper_undo (TF T) (hr.mono (by decide)) T.abS .nil hp) (SV (pv 0) T.cl_Keeper T.M_Keeper_come (TH T) (hr.mono (by decide)) T.abU .nil hp (aA (pv 1) pa_nil)))))) (λex=>(aD (aP (SX (UN T) ((hr.mono (by decide)).mark _) rfl T.WJ T.L6.kp T.abN (aA (pv 2) pa_nil))))))),?_⟩
  obtain⟨dx,hp⟩:=id ka
  have ou:bY (.str "undo"):=⟨by decide +kernel,by decide +kernel⟩
  walk_at"rd"
  refine bV hy (.str _) od ou ?_
  have e1:PyData.eqv (.str "undo") (.str "undo")=true:=by rw[gC];exact decide_eq_true rfl
  have nl:("undo":Str)≠"kept":=by decide +kernel
  have nc:("come":Str)≠"kept":=by decide +kernel
  cases dd with
  |undo a b q=>
   subst a
   rw[e1]
   walk_at"rd"
   refine fK rfl ?_
   walk_at"rd"
   refine⟨p,dx,_,rfl,hp,fD _ nl,?_⟩
   walk_at"rd"
   exact .inl ⟨p,x,n,ps,rfl,ka,hx,ho,b,q⟩
  |none a b q=>
   subst a
   rw[e1]
   walk_at"rd"
   refine fK rfl ?_
   walk_at"rd"
   refine⟨p,dx,_,rfl,hp,fD _ nl,?_⟩
   walk_at"rd"
   refine .inr ⟨p,x,n,ps,rfl,ka,hx,b,λH1 s1=>?_⟩
   have W:=MU T
   refine⟨_,rfl,W.x,λex σ hex hi=>?_⟩
   walk_at"rd"
   refine lZ (List.getElem?_set_self hi) ?_
   walk_at"rd"
   exact⟨ex,_,_,rfl,aB,W,λv H2 s2 iv=>q v H2 ((s1.trans (Same.upd hex)).trans s2) iv⟩
  |tel z a q=>
   rw[z]
   walk_at"rd"
   refine bQ rfl ?_
   walk_at"rd"
   refine⟨p,dx,_,rfl,hp,fD _ nc,?_⟩
   walk_at"rd"
   refine .inr ⟨p,x,n,ps,y,d,rfl,ka,hx,ho,hy,ok,.tel a λH1 s1=>?_⟩
   have W:=MT T
   refine⟨_,rfl,W.x,λex σ hex hi=>?_⟩
   walk_at"rd"
   refine lZ (List.getElem?_set_self hi) ?_
   walk_at"rd"
   exact⟨ex,_,_,rfl,aB,W,λv H2 s2 iv=>q v H2 ((s1.trans (Same.upd hex)).trans s2) iv⟩
  |full z a b q=>
   rw[z]
   walk_at"rd"
   refine bQ rfl ?_
   walk_at"rd"
   refine⟨p,dx,_,rfl,hp,fD _ nc,?_⟩
   walk_at"rd"
   refine .inr ⟨p,x,n,ps,y,d,rfl,ka,hx,ho,hy,ok,.full a b λH1 s1=>?_⟩
   have W:=MV T
   refine⟨_,rfl,W.x,λex σ hex hi=>?_⟩
   walk_at"rd"
   refine lZ (List.getElem?_set_self hi) ?_
   walk_at"rd"
   exact⟨ex,_,_,rfl,aB,W,λv H2 s2 iv=>q v H2 ((s1.trans (Same.upd hex)).trans s2) iv⟩
  |bar z ws a b c e q=>
   rw[z]
   walk_at"rd"
   refine bQ rfl ?_
   walk_at"rd"
   refine⟨p,dx,_,rfl,hp,fD _ nc,?_⟩
   walk_at"rd"
   refine .inr ⟨p,x,n,ps,y,d,rfl,ka,hx,ho,hy,ok,.bar ws a b c e λH1 s1=>?_⟩
   have W:=MW T
   refine⟨_,rfl,W.x,λex σ hex hi=>?_⟩
   walk_at"rd"
   refine lZ (List.getElem?_set_self hi) ?_
   walk_at"rd"
   exact⟨ex,_,_,rfl,aB,W,λv H2 s2 iv=>q v H2 ((s1.trans (Same.upd hex)).trans s2) iv⟩
  |come z ws a b c e q=>
   rw[z]
   subst a
   walk_at"rd"
   refine bQ rfl ?_
   walk_at"rd"
   refine⟨p,dx,_,rfl,hp,fD _ nc,?_⟩
   walk_at"rd"
   exact .inl ⟨p,x,n,ps,y,ws,rfl,ka,hx,ho,c,hy,b,e,q⟩
end
theorem P8{K:PySem.W.Frag}{H:Hp}{Q:VK}{p:Addr}{vs:List V}{ps:List (Int×Int)}(e:H p=some (.lst vs))(hv:IsAll H vs (ps.map aL))(nd:ps.Nodup)
  (h:∀(l:Addr)(vs':List V)(ps':List (Int×Int)),H l=none->IsAll H vs' (ps'.map aL)->ps'.Perm ps->ps'.Pairwise cV->Q (.ref l) (upd H l (.lst vs'))):oN K [.ref p] H Q:=by
 have tn:∀ps:List (Int×Int),(ps.map λp=>[p.1,p.2]).map (cT [])=ps.map aL:=λps=>by rw[map_map];rfl
 refine QB (nss:=ps.map λp=>[p.1,p.2]) e (by rw[tn];exact hv) ?_ ?_ λl vs' nss' hl ha hp hw=>?_
 ·intro ns hm
  obtain⟨q,_,rfl⟩:=mem_map.mp hm
  exact List.cons_ne_nil _ _
 ·unfold List.Nodup
  rw[pairwise_map]
  refine List.Pairwise.imp (λ{a b}hab z=>hab ?_) nd
  injection z with z1 z2
  injection z2 with z2 _
  exact Prod.ext z1 z2
 ·have key:∀l:List (List Int),(∀ns∈l,∃a b,ns=[a,b])->l=(l.map λns=>(ns.getD 0 0,ns.getD 1 0)).map λp=>[p.1,p.2]:=λl hl=>by
   induction l with
   |nil=>rfl
   |cons x l ih=>
    obtain⟨a,b,rfl⟩:=hl x mem_cons_self
    rw[map_cons,map_cons,<-ih λns hns=>hl ns (mem_cons_of_mem _ hns)]
    rfl
  have e':=key nss' λns hns=>by
   obtain⟨q,_,rfl⟩:=mem_map.mp (hp.mem_iff.mp hns)
   exact⟨_,_,rfl⟩
  generalize nss'.map (λns=>(ns.getD 0 0,ns.getD 1 0))=ps' at e'
  subst e'
  rw[tn]at ha
  have hw':=pairwise_map.mp hw
  refine h l vs' ps' hl ha ?_ hw'
  have h2:=hp.map λns:List Int=>(ns.getD 0 0,ns.getD 1 0)
  rw[map_map,map_map]at h2
  have e1:∀l:List (Int×Int),l.map ((λns:List Int=>(ns.getD 0 0,ns.getD 1 0)) ∘ λp=>[p.1,p.2])=l:=λl=>by
   refine(map_congr_left λp _=>?_).trans (map_id l)
   rfl
  rw[e1,e1]at h2
  exact h2
theorem NV(ws:List Str)(i:Nat)(v:Str):(ws.map V.str).set i (.str v)=(ws.set i v).map V.str:=by rw[List.map_set]
section
variable{P:Program}{w:World}{K:PySem.W.Frag}{mg:Str->Option Value}{base:Heap}{t:Ad}
inductive DX (K:PySem.W.Frag) (vs:List V) (H:Hp) (Q:VK) (zz3:XK):Prop where
 |mk (a:Addr) (ns:List Int) (tw:Addr) (ts:List V) (n:Nat) (ll:Addr) (zs:List Int) (st:Int) (zh0:vs=[.ref a,.ref tw,.int n,.ref ll,.int st]) (zh1:1<=n) (zh2:n<=8) (zh3:Scr K H a ns) (zh4:H tw=some (.lst ts)) (zh5:ts.length<=400) (zh6:H ll=some (.lst (zs.map V.int))) (zh7:zs.length=12) (zh8:ll≠tw) (zh9:∀(l:Addr)(ws:List Str)(H':Hp)(ts':List V),SameT tw H H'->H' tw=some (.lst ts')->ts'.length<=ts.length+3->H l=none->H' l=some (.lst (ws.map V.str))->Tl n ws->Q (.ref l) H'):DX K vs H Q zz3
theorem UE(T:aR K mg t):FnOk P w K mg base aU 5 t.BM t.zY ["_law_script","_law_town","_law_many","_law_longs","_law_step"] (DX K):=by
 refine T.L4.ok sc__law_words (λvs H Q E h=>?_) (λcdv A outer s H vs Q E hr h=>?_)
 ·obtain⟨a,ns,tw,ts,n,ll,zs,st,rfl,_⟩:=h
  rfl
 ·obtain⟨a,ns,tw,ts,n,ll,zs,st,rfl,n1,n8,hs,ht,hl,el,lz,nlt,q⟩:=h
  refine⟨_,(aF (aS (i:=5) sc__law_words.nd rfl (Or.inl rfl) (eF pa_nil))
   (aF (c5 PassesOwn.never rfl (eT rfl T.eV (aA (pv 2) pa_nil)) (bH (i:=6) sc__law_words.nd rfl (Or.inl rfl)) (aF (aS (i:=7) sc__law_words.nd rfl (Or.inl rfl) pe_str)
   (aF (aW (aT (S8) (bP aaJ (by rfl) T.U4 aaW (aA (bF jR (aN (aO K) (pv 3) (pv 6) (λ_ _=>rfl)) (aN (aO K) (pv 3) (pv 2) (λ_ _=>rfl))) pa_nil)) (pv 4) (aY _)) (aD (aS (i:=7) sc__law_words.nd rfl (Or.inl rfl) (aN (aO K) (eF (aA pe_str (aA pe_str pa_nil))) (fG AK (by rfl) T.pG qN (aA (fU (o9) (aN (aO K) (pv 3) (pv 2) (λ_ _=>rfl)) (aN (aO K) (pv 3) (pv 6) (λ_ _=>rfl)) (aY _)) pa_nil)) (λ_ _=>rfl)))) bB)
   (aD (cK (fH K PySem.F.plainAttrs_list PySem.F.slot_list_append PySem.F.type_list_append iY (pv 5) (aA (pv 7) pa_nil)))))))
   (aF (aW (aT (cM hr.units) (aQ (j6 T) (hr.mono (by decide)) rfl T.j9 T.jX.kp T.kK .nil aM (aA (pv 0) (aA (pv 1) (aA pe_int pa_nil)))) pe_int (aY _)) (aD (mD (aQ (HJ T) (hr.mono (by decide)) rfl T.IJ T.CA.kp T.K0 .nil aM (aA (pv 0) (aA (pv 1) (aA (eF (aA pe_str (aA pe_str (aA pe_str pa_nil)))) pa_nil)))) (oY (pv 5) (aQ (j6 T) (hr.mono (by decide)) rfl T.j9 T.jX.kp T.kK .nil aM (aA (pv 0) (aA (pv 1) (aA (pv 2) pa_nil)))) oC (λ_=>rfl)))) bB)
   (aD (aP (pv 5)))))),?_⟩
  walk_at"rd"
  refine⟨Nat.zero_le _,λl hl'=>?_⟩
  have s0:=Same.upd (o:=.lst []) hl'
  have e0:upd H l (.lst []) l=some (.lst []):=aB
  have nl:l≠tw:=Ne.symm (aI ht hl')
  have nll:ll≠l:=aI el hl'
  generalize upd H l (.lst [])=H0 at s0 e0
  have el0:=s0 _ _ el
  walk_at"rd"
  refine⟨_,rfl,by lia,by lia,?_⟩
  rw[Int.toNat_natCast]
  refine gN (λi σ H'=>(∃v1 v2,σ=[some (.ref a),some (.ref tw),some (.int n),some (.ref ll),some (.int st),some (.ref l),v1,v2])/\SameT l H0 H'/\∃ws:List Str,ws.length=i/\(∀v∈ws,Wd v)/\H' l=some (.lst (ws.map V.str))) ⟨⟨_,_,rfl⟩,SameT.refl _ _,[],rfl,λv hv=>(by cases hv),e0⟩ ?_ ?_
  ·rintro i σ H1 hi ⟨⟨v1,v2,rfl⟩,s1,ws,lw,hw,e1⟩
   have el1:=s1 _ _ el0 nll
   have at_:∀{k:Nat},k<=8->eN (zs.map V.int) ((k:Nat):Int)=some (V.int (zs.getD k 0)):=λ{k}h=>by
    refine atI_of (i:=k) rfl ?_
    rw[List.getElem?_map]
    simp[show k<zs.length by lia]
   walk_at"rd"
   rw[Int.zero_add]
   refine cA el1 (at_ (by lia)) ?_
   walk_at"rd"
   refine cA el1 (at_ (by lia)) ?_
   walk_at"rd"
   refine⟨_,rfl,?_⟩
   walk_at"rd"
   refine bW (λg=>?_) (λg=>?_)
   ·walk_at"rd"
    refine⟨by show 2<=sizeLine;decide,λq1 hq1=>?_⟩
    have s12:=Same.upd (o:=.lst [V.str "less",V.str "more"]) hq1
    have eq1:upd H1 q1 (.lst [V.str "less",V.str "more"]) q1=some (.lst [V.str "less",V.str "more"]):=aB
    generalize upd H1 q1 (.lst [V.str "less",V.str "more"])=H2 at s12 eq1
    have el2:=s12 _ _ el1
    walk_at"rd"
    refine cA el2 (at_ (by lia)) ?_
    walk_at"rd"
    refine cA el2 (at_ (by lia)) ?_
    walk_at"rd"
    cases hb:decide (zs.getD i 0<zs.getD n 0) with
    | true=>
     refine cA eq1 (v:=V.str "more") rfl ?_
     obtain⟨wd,ewd,hwd⟩:∃wd:Str,wd="more"/\Wd wd:=⟨_,rfl,.inr (.inl rfl)⟩
     rw[<-ewd]
     have e2:=s12 _ _ e1
     walk_at"rd"
     refine⟨eC e2,?_⟩
     walk_at"rd"
     refine gJ e2 (gH (by rw[length_map];lia)) ?_
     walk_at"rd"
     refine⟨⟨_,_,rfl⟩,λc u e g=>?_,ws++[wd],by rw[length_append,lw];rfl,λv hv=>?_,?_⟩
     ·rw[aE g];exact s12 _ _ (s1 _ _ e g)
     ·rcases mem_append.mp hv with hv|hv
      ·exact hw v hv
      ·rcases mem_singleton.mp hv with rfl
       exact hwd
     ·rw[aB,map_append];rfl
    | false=>
     refine cA eq1 (v:=V.str "less") rfl ?_
     obtain⟨wd,ewd,hwd⟩:∃wd:Str,wd="less"/\Wd wd:=⟨_,rfl,.inl rfl⟩
     rw[<-ewd]
     have e2:=s12 _ _ e1
     walk_at"rd"
     refine⟨eC e2,?_⟩
     walk_at"rd"
     refine gJ e2 (gH (by rw[length_map];lia)) ?_
     walk_at"rd"
     refine⟨⟨_,_,rfl⟩,λc u e g=>?_,ws++[wd],by rw[length_append,lw];rfl,λv hv=>?_,?_⟩
     ·rw[aE g];exact s12 _ _ (s1 _ _ e g)
     ·rcases mem_append.mp hv with hv|hv
      ·exact hw v hv
      ·rcases mem_singleton.mp hv with rfl
       exact hwd
     ·rw[aB,map_append];rfl
   ·obtain⟨wd,ewd,hwd⟩:∃wd:Str,wd="beside"/\Wd wd:=⟨_,rfl,.inr (.inr rfl)⟩
    rw[<-ewd]
    have s12:=Same.refl H1
    have e2:=s12 _ _ e1
    walk_at"rd"
    refine⟨eC e2,?_⟩
    walk_at"rd"
    refine gJ e2 (gH (by rw[length_map];lia)) ?_
    walk_at"rd"
    refine⟨⟨_,_,rfl⟩,λc u e g=>?_,ws++[wd],by rw[length_append,lw];rfl,λv hv=>?_,?_⟩
    ·rw[aE g];exact s12 _ _ (s1 _ _ e g)
    ·rcases mem_append.mp hv with hv|hv
     ·exact hw v hv
     ·rcases mem_singleton.mp hv with rfl
      exact hwd
    ·rw[aB,map_append];rfl
  ·rintro σ H1 ⟨⟨v1,v2,rfl⟩,s1,ws,lw,hw,e1⟩
   have ht1:=s1 _ _ (s0 _ _ ht) (Ne.symm nl)
   have hs1:=(hs.same s0).t e0 s1
   have sT:SameT tw H H1:=λc u e g=>s1 _ _ (s0 _ _ e) (aI e hl')
   walk_at"rd"
   refine⟨a,ns,tw,ts,_,rfl,hs1,ht1,by lia,by decide,λr2 H2 ts2 s2 ht2 l2 r0 r1=>?_⟩
   have e2:=s2 _ _ e1 nl
   have hs2:=hs1.t ht1 s2
   have sT2:SameT tw H H2:=sT.trans s2
   walk_at"rd"
   refine bW (λg=>?_) (λg=>?_)
   ·walk_at"rd"
    refine⟨by show 3<=sizeLine;decide,λq1 hq1=>?_⟩
    have f3:=Same.upd (o:=.lst [V.str "less",V.str "more",V.str "beside"]) hq1
    have eq1:upd H2 q1 (.lst [V.str "less",V.str "more",V.str "beside"]) q1=some (.lst [V.str "less",V.str "more",V.str "beside"]):=aB
    generalize upd H2 q1 (.lst [V.str "less",V.str "more",V.str "beside"])=H3 at f3 eq1
    have ht3:=f3 _ _ ht2
    have nq:q1≠tw:=Ne.symm (aI ht2 hq1)
    walk_at"rd"
    refine⟨a,ns,tw,ts2,q1,_,rfl,hs2.same f3,ht3,by lia,eq1,nq,by decide,λv H4 ts4 s4 ht4 l4 hv=>?_⟩
    have e4:=s4 _ _ (f3 _ _ e2) nl
    have hs4:=(hs2.same f3).t ht3 s4
    have sT4:SameT tw H H4:=(sT2.trans f3.t).trans s4
    obtain⟨wd,rfl,hwd⟩:∃wd:Str,v=V.str wd/\Wd wd:=by
     simp only[mem_cons,not_mem_nil,or_false]at hv
     rcases hv with rfl|rfl|rfl
     ·exact⟨_,rfl,.inl rfl⟩
     ·exact⟨_,rfl,.inr (.inl rfl)⟩
     ·exact⟨_,rfl,.inr (.inr rfl)⟩
    walk_at"rd"
    refine⟨a,ns,tw,ts4,_,rfl,hs4,ht4,by lia,by lia,λr5 H5 ts5 s5 ht5 l5 k0 k1=>?_⟩
    have e5:=s5 _ _ e4 nl
    walk_at"rd"
    refine j2 (j:=r5.toNat) e5 (by lia) (by rw[length_map];lia) ?_
    walk_at"rd"
    refine q l (ws.set r5.toNat wd) _ ts5 (λc u e g=>?_) (by rw[aE (Ne.symm nl)];exact ht5) (by lia) hl' (by rw[aB,NV]) ⟨by rw[length_set,lw],λv hv=>?_⟩
    ·rw[aE (aI e hl')]
     exact s5 _ _ (sT4 _ _ e g) g
    ·rcases List.mem_or_eq_of_mem_set hv with h|h
     ·exact hw v h
     ·rw[h];exact hwd
   ·walk_at"rd"
    exact q l ws H2 ts2 sT2 ht2 (by lia) hl' e2 ⟨lw,hw⟩
noncomputable def fR(n:Nat)(ws:List Str)(i:Nat):List (Int×Int):=((range i).filter λk=>decide (ws.getD k ""="less")).map λ(k:Nat)=>((n:Int),(k:Int))
noncomputable def fQ(n:Nat)(ws:List Str)(i:Nat):List (Int×Int):=((range i).filter λk=>decide (ws.getD k ""="more")).map λ(k:Nat)=>((k:Int),(n:Int))
theorem MR(n:Nat)(ws:List Str)(i:Nat):fR n ws (i+1)=fR n ws i++if decide (ws.getD i ""="less")=true then[((n:Int),(i:Int))] else[]:=by
 unfold fR
 rw[range_succ,filter_append,yZ,map_append]
 split <;> rfl
theorem MQ(n:Nat)(ws:List Str)(i:Nat):fQ n ws (i+1)=fQ n ws i++if decide (ws.getD i ""="more")=true then[((i:Int),(n:Int))] else[]:=by
 unfold fQ
 rw[range_succ,filter_append,yZ,map_append]
 split <;> rfl
theorem CO(n:Nat)(ws:List Str)(i:Nat):(fR n ws i).length<=i:=by
 unfold fR
 rw[length_map]
 refine Nat.le_trans (length_filter_le _ _) ?_
 rw[length_range]
 exact Nat.le_refl _
theorem CN(n:Nat)(ws:List Str)(i:Nat):(fQ n ws i).length<=i:=by
 unfold fQ
 rw[length_map]
 refine Nat.le_trans (length_filter_le _ _) ?_
 rw[length_range]
 exact Nat.le_refl _
theorem mem_wlL{n:Nat}{ws:List Str}{i:Nat}{p:Int×Int}:p∈fR n ws i<->∃k:Nat,k<i/\ws.getD k ""="less"/\p=((n:Int),(k:Int)):=by
 unfold fR
 rw[mem_map]
 constructor
 ·rintro⟨k,hk,rfl⟩
  obtain⟨h1,h2⟩:=mem_filter.mp hk
  exact⟨k,mem_range.mp h1,of_decide_eq_true h2,rfl⟩
 ·rintro⟨k,h1,h2,rfl⟩
  exact⟨k,mem_filter.mpr ⟨mem_range.mpr h1,decide_eq_true h2⟩,rfl⟩
theorem mem_wlM{n:Nat}{ws:List Str}{i:Nat}{p:Int×Int}:p∈fQ n ws i<->∃k:Nat,k<i/\ws.getD k ""="more"/\p=((k:Int),(n:Int)):=by
 unfold fQ
 rw[mem_map]
 constructor
 ·rintro⟨k,hk,rfl⟩
  obtain⟨h1,h2⟩:=mem_filter.mp hk
  exact⟨k,mem_range.mp h1,of_decide_eq_true h2,rfl⟩
 ·rintro⟨k,h1,h2,rfl⟩
  exact⟨k,mem_filter.mpr ⟨mem_range.mpr h1,decide_eq_true h2⟩,rfl⟩
theorem MO{n:Nat}{ws:List Str}{p:Int×Int}:(p∈fR n ws n\/p∈fQ n ws n)<->p∈dA n ws n:=by
 rw[mem_nwT,mem_wlL,mem_wlM]
 constructor
 ·rintro(⟨k,h1,h2,rfl⟩|⟨k,h1,h2,rfl⟩)
  ·exact⟨k,h1,mem_nwI.mpr (.inl ⟨h2,rfl⟩)⟩
  ·exact⟨k,h1,mem_nwI.mpr (.inr ⟨h2,rfl⟩)⟩
 ·rintro⟨k,h1,h⟩
  rcases mem_nwI.mp h with⟨h2,rfl⟩|⟨h2,rfl⟩
  ·exact .inl ⟨k,h1,h2,rfl⟩
  ·exact .inr ⟨k,h1,h2,rfl⟩
theorem MP{n:Nat}{ps:List (Int×Int)}(ho:Ord n ps)(ws:List Str):(ps++(fR n ws n++fQ n ws n)).Nodup:=by
 have nd:=mI (iR ho.up)
 have rng:∀(q:Nat->Bool),((range n).filter q).Nodup:=λq=>List.Pairwise.filter _ nodup_range
 unfold List.Nodup
 rw[pairwise_append,pairwise_append]
 refine⟨nd,⟨?_,?_,λa ha b hb z=>?_⟩,λa ha b hb z=>?_⟩
 ·unfold fR
  rw[pairwise_map]
  refine List.Pairwise.imp (λ{a b}g z=>g ?_) (rng _)
  injection z with _ z
  lia
 ·unfold fQ
  rw[pairwise_map]
  refine List.Pairwise.imp (λ{a b}g z=>g ?_) (rng _)
  injection z with z _
  lia
 ·subst z
  obtain⟨k,h1,_,rfl⟩:=mem_wlL.mp ha
  obtain⟨m,h2,_,e⟩:=mem_wlM.mp hb
  injection e with e1 e2
  lia
 ·subst z
  obtain⟨x1,x2,x3,x4,_⟩:=ho.ix a ha
  rcases mem_append.mp hb with hb|hb
  ·obtain⟨k,h1,_,rfl⟩:=mem_wlL.mp hb
   dsimp only at x2
   lia
  ·obtain⟨k,h1,_,rfl⟩:=mem_wlM.mp hb
   dsimp only at x4
   lia
inductive DZ (vs:List V) (H:Hp) (Q:VK) (zz3:XK):Prop where
 |mk (pl:Addr) (us:List V) (x:V) (n:Nat) (ps:List (Int×Int)) (l:Addr) (ws:List Str) (zh0:vs=[.ref pl,.ref l]) (zh1:H pl=some (.lst (us++[x]))) (zh2:Is H x (aX n ps)) (zh3:Ord n ps) (zh4:H l=some (.lst (ws.map V.str))) (zh5:Tl n ws) (zh6:∀z H',Same H H'->(n<=7->Is H' z (aX (n+1) (bX n ps ws))/\Ord (n+1) (bX n ps ws))->Q z H'):DZ vs H Q zz3
theorem UF(T:aR K mg t):FnOk P w K mg base aU 1 t.BN t.zZ ["_law_past","_law_words_here"] DZ:=by
 refine T.L5.ok sc__law_with (λvs H Q E h=>?_) (λcdv A outer s H vs Q E hr h=>?_)
 ·obtain⟨pl,us,x,n,ps,l,ws,rfl,_⟩:=h
  rfl
 ·obtain⟨pl,us,x,n,ps,l,ws,rfl,epl,hx,ho,el,tl,q⟩:=h
  refine⟨_,(aF (mD (aN (aO K) (pv 0) (iU iL pe_int) (λ_ _=>rfl)) (i8 K rfl (cU (bH (i:=2) sc__law_with.nd rfl (Or.inr rfl)) (cU (bH (i:=3) sc__law_with.nd rfl (Or.inl rfl)) iT))))
   (aF (oS (i:=4) sc__law_with.nd rfl rfl rfl rfl ⟨True.intro,True.intro,(.inl rfl),(.inl rfl),True.intro⟩ (M:=["_law_thing","_law_many","_law_words_here"]) (.own (.free 2 rfl rfl (.free 1 rfl rfl .nil))) (iA rfl) rfl (by decide +kernel) (eT rfl T.eV (aA (pv 2) pa_nil)) (λC fp s1 H1=>⟨bH (i:=0) (show(["_law_thing","_law_many","_law_words_here"]:List Str).Nodup by decide +kernel) rfl (Or.inl rfl),mE (aT (cM hr.units) (aN (aO K) (pv 2) (pv 0) (λ_ _=>rfl)) pe_str (aY _)),(aV (aA (pv 1) (aA (pv 0) pa_nil)))⟩))
   (aF (cK (fH K PySem.F.plainAttrs_list PySem.F.slot_list_extend PySem.F.type_list_extend HZ (pv 4) (aA (j4 rfl ⟨True.intro,True.intro,(.inl rfl),(.inl rfl),True.intro⟩ (M:=["_law_thing","_law_many","_law_words_here"]) (.own (.free 2 rfl rfl (.free 1 rfl rfl .nil))) (iA rfl) rfl (by decide +kernel) (eT rfl T.eV (aA (pv 2) pa_nil)) (λC fp s1 H1=>⟨bH (i:=0) (show(["_law_thing","_law_many","_law_words_here"]:List Str).Nodup by decide +kernel) rfl (Or.inl rfl),mE (aT (cM hr.units) (aN (aO K) (pv 2) (pv 0) (λ_ _=>rfl)) pe_str (aY _)),(aV (aA (pv 0) (aA (pv 1) pa_nil)))⟩)) pa_nil)))
   (aD (aP (aV (aA (bF eU (pv 2) pe_int) (aA (fG (lC K) (by rfl) T.g7 iE (aA (bP (XU K) (by rfl) T.pF qM (aA (bF G9 (fG (xZ K) (by rfl) T.xE AM (aA (pv 3) pa_nil)) (pv 4)) pa_nil)) pa_nil)) pa_nil)))))))),?_⟩
  have n8:=ho.hi
  have n1:=ho.lo
  have sml:=ho.small
  obtain⟨oa,ob,xs,rfl,ea,eb,hxs⟩:=fJ hx
  have lx:xs.length=ps.length:=by rw[hxs.length,length_map]
  have at_:∀{i:Nat},i<n->eN (ws.map V.str) ((i:Nat):Int)=some (V.str (ws.getD i "")):=λ{i}h=>by
   refine atI_of (i:=i) rfl ?_
   rw[List.getElem?_map]
   simp[show i<ws.length by rw[tl.len];exact h]
  have okw:∀{i:Nat},i<n->bY (.str (ws.getD i "")):=λ{i}h=>dN (tl.wd _ (by
   rw[List.getD_eq_getElem?_getD,List.getElem?_eq_getElem (by rw[tl.len];exact h)]
   exact getElem_mem _))
  walk_at"rd"
  refine⟨1,rfl,?_⟩
  refine cA epl (iH _ _) ?_
  walk_at"rd"
  refine iP ea rfl ?_
  walk_at"rd"
  refine⟨_,rfl,by lia,by lia,?_⟩
  rw[Int.toNat_natCast]
  refine pK (eZ (by lia)) (λi zs H'=>Same H H'/\IsAll H' zs ((fR n ws i).map aL)) ⟨Same.refl _,.nil⟩ (by
   rintro i zs H' ⟨_,h⟩
   rw[h.length,length_map]
   exact CO _ _ _) ?_ ?_
  ·rintro i zs H1 hi ⟨s1,iz⟩
   have el1:=s1 _ _ el
   rw[MR]
   walk_at"rd"
   rw[Int.zero_add]
   refine cA el1 (at_ hi) ?_
   walk_at"rd"
   refine bV (.str _) (.str _) (okw hi) (dN (.inl rfl)) ?_
   rw[gC]
   walk_at"rd"
   refine bW (λg=>?_) (λg=>?_)
   ·have g':decide (ws.getD i ""="less")=true:=g
    rw[if_pos g']
    walk_at"rd"
    refine⟨eQ,λp hp=>?_⟩
    have s2:=Same.upd (o:=.tup [V.int n,V.int i]) hp
    refine⟨s1.trans s2,?_⟩
    rw[map_append]
    exact(iz.same s2).append (.cons (.tup aB (.cons (.int _) (.cons (.int _) .nil))) .nil)
   ·have g':decide (ws.getD i ""="less")=false:=g
    rw[g']
    exact⟨s1,by simpa using iz⟩
  rintro zs H1 ⟨s1,iz⟩ lm hlm
  have s2:=s1.trans (Same.upd (o:=.lst zs) hlm)
  have iz2:=iz.same (Same.upd (o:=.lst zs) hlm)
  have elm:upd H1 lm (.lst zs) lm=some (.lst zs):=aB
  have nlm:H lm=none:=s1.free hlm
  generalize upd H1 lm (.lst zs)=H2 at s2 iz2 elm
  clear s1 iz hlm
  walk_at"rd"
  refine⟨eC elm,?_⟩
  walk_at"rd"
  refine⟨_,rfl,by lia,by lia,?_⟩
  rw[Int.toNat_natCast]
  refine pK (eZ (by lia)) (λi us' H'=>Same H2 H'/\IsAll H' us' ((fQ n ws i).map aL)) ⟨Same.refl _,.nil⟩ (by
   rintro i us' H' ⟨_,h⟩
   rw[h.length,length_map]
   exact CN _ _ _) ?_ ?_
  ·rintro i us' H3 hi ⟨s3,iu⟩
   have el3:=s3 _ _ (s2 _ _ el)
   rw[MQ]
   walk_at"rd"
   rw[Int.zero_add]
   refine cA el3 (at_ hi) ?_
   walk_at"rd"
   refine bV (.str _) (.str _) (okw hi) (dN (.inr (.inl rfl))) ?_
   rw[gC]
   walk_at"rd"
   refine bW (λg=>?_) (λg=>?_)
   ·have g':decide (ws.getD i ""="more")=true:=g
    rw[if_pos g']
    walk_at"rd"
    refine⟨eQ,λp hp=>?_⟩
    have s4:=Same.upd (o:=.tup [V.int i,V.int n]) hp
    refine⟨s3.trans s4,?_⟩
    rw[map_append]
    exact(iu.same s4).append (.cons (.tup aB (.cons (.int _) (.cons (.int _) .nil))) .nil)
   ·have g':decide (ws.getD i ""="more")=false:=g
    rw[g']
    exact⟨s3,by simpa using iu⟩
  rintro us' H3 ⟨s3,iu⟩ lu hlu
  have s4:=s3.trans (Same.upd (o:=.lst us') hlu)
  have iu4:=iu.same (Same.upd (o:=.lst us') hlu)
  have elu:upd H3 lu (.lst us') lu=some (.lst us'):=aB
  generalize upd H3 lu (.lst us')=H4 at s4 iu4 elu
  clear s3 iu hlu
  have elm4:=s4 _ _ elm
  have iz4:=iz2.same s4
  have s24:=s2.trans s4
  have lz:=iz4.length
  have lu':=iu4.length
  rw[length_map]at lz lu'
  have b1:=CO n ws n
  have b2:=CN n ws n
  walk_at"rd"
  refine GA elm4 elu (eZ (by lia)) ?_
  have st:SameT lm H4 (upd H4 lm (.lst (zs++us'))):=λc u e g=>by rw[aE g];exact e
  have s5:Same H (upd H4 lm (.lst (zs++us'))):=λc u e=>by rw[aE (aI e nlm)];exact s24 _ _ e
  have iz5:=(GW elm4 st iz4).append (GW elm4 st iu4)
  have elm5:upd H4 lm (.lst (zs++us')) lm=some (.lst (zs++us')):=aB
  generalize upd H4 lm (.lst (zs++us'))=H5 at s5 iz5 elm5
  clear st s24 iz4 elm4 s2 s4 iz2 iu4 elu elm
  walk_at"rd"
  refine FT (s5 _ _ eb) λlc hlc=>?_
  have s6:=s5.trans (Same.upd (o:=.lst xs) hlc)
  have iz6:=iz5.same (Same.upd (o:=.lst xs) hlc)
  have elm6:=(Same.upd (o:=.lst xs) hlc) _ _ elm5
  have elc:upd H5 lc (.lst xs) lc=some (.lst xs):=aB
  generalize upd H5 lc (.lst xs)=H6 at s6 iz6 elm6 elc
  clear s5 iz5 elm5 hlc
  walk_at"rd"
  refine GB elc elm6 (eZ (by rw[length_append];lia)) λld hld=>?_
  have s7:=s6.trans (Same.upd (o:=.lst (xs++(zs++us'))) hld)
  have iz7:IsAll (upd H6 ld (.lst (xs++(zs++us')))) (xs++(zs++us')) ((ps++(fR n ws n++fQ n ws n)).map aL):=by
   rw[map_append,map_append]
   exact(hxs.same s7).append (iz6.same (Same.upd hld))
  have eld:upd H6 ld (.lst (xs++(zs++us'))) ld=some (.lst (xs++(zs++us'))):=aB
  generalize upd H6 ld (.lst (xs++(zs++us')))=H7 at s7 iz7 eld
  clear s6 iz6 elm6 elc hld
  walk_at"rd"
  refine P8 eld iz7 (MP ho ws) λl8 vs' qw hl8 ha hperm hpw=>?_
  have s8:=s7.trans (Same.upd (o:=.lst vs') hl8)
  have ha8:=ha.same (Same.upd (o:=.lst vs') hl8)
  have ev:upd H7 l8 (.lst vs') l8=some (.lst vs'):=aB
  generalize upd H7 l8 (.lst vs')=H8 at s8 ha8 ev
  clear s7 iz7 eld ha hl8
  walk_at"rd"
  intro tp htp
  have s9:=s8.trans (Same.upd (o:=.tup vs') htp)
  have ha9:=ha8.same (Same.upd (o:=.tup vs') htp)
  have etp:upd H8 tp (.tup vs') tp=some (.tup vs'):=aB
  generalize upd H8 tp (.tup vs')=H9 at s9 ha9 etp
  clear s8 ha8 ev htp
  walk_at"rd"
  refine⟨by show 2<=sizeLine;decide,λyw hyw=>?_⟩
  refine q _ _ (s9.trans (Same.upd hyw)) λn7=>?_
  have mem:∀p,p∈qw<->p∈ps\/p∈dA n ws n:=λp=>by rw[hperm.mem_iff,mem_append,mem_append,MO]
  have ow:Ord (n+1) qw:=wO (by lia) (by lia) (λp hp=>by
   rcases(mem p).mp hp with h|h
   ·obtain⟨a1,a2,a3,a4,a5⟩:=ho.ix p h
    exact⟨a1,by lia,a3,by lia,a5⟩
   ·exact(pD (Nat.le_refl _) h).1) hpw
  have eq1:bX n ps ws=qw:=HY ow mem
  rw[eq1]
  exact⟨.tup aB (.cons (.int _) (.cons (.tup ((Same.upd hyw) _ _ etp) (ha9.same (Same.upd hyw))) .nil)),ow⟩
end
theorem YO{n:Nat}{ps:List (Int×Int)}{ws:List Str}{i j:Nat}(hi:i<n)(hj:j<n):has (bX n ps ws) i j=has ps i j:=by
 have e:has (bX n ps ws) i j=(has ps i j||has (dA n ws n) i j):=by
  rw[Bool.eq_iff_iff,has_iff]
  unfold bX
  rw[mem_gAll]
  constructor
  ·rintro⟨i',j',_,_,e,g⟩
   injection e with e1 e2
   have e1':i=i':=Int.ofNat.inj e1
   have e2':j=j':=Int.ofNat.inj e2
   rw[e1',e2']
   exact g
  ·intro g
   exact⟨i,j,by lia,by lia,rfl,g⟩
 rw[e]
 cases h:has (dA n ws n) i j with
 |false=>rw[Bool.or_false]
 |true=>
  have:=(pD (Nat.le_refl _) (has_iff.mp h)).2
  dsimp only at this
  lia
theorem MS{n:Nat}{ps:List (Int×Int)}{ws:List Str}(ho:Ord n ps)(hq:Ord (n+1) (bX n ps ws))(n1:1<=n):gG (n:Int) (bX n ps ws)=ps:=by
 have o2:Ord n (gG (n:Int) (bX n ps ws)):=CP hq (by lia) (by lia) (by lia)
 have e1:=yJ o2 (f:=λi j=>has ps i j) λi j hi hj=>by
  rw[YM]
  have u1:up (n:Int) (i:Int)=(i:Int):=if_pos (by lia)
  have u2:up (n:Int) (j:Int)=(j:Int):=if_pos (by lia)
  rw[u1,u2,YO hi hj]
 have e2:=yJ ho (f:=λi j=>has ps i j) λi j _ _=>rfl
 exact e1.symm.trans e2
structure Ch (os:List (List (Int×Int))):Prop where
 pos:1<=os.length
 le:os.length<=8
 ok:∀j qs,os[j]? =some qs->Ord (j+1) qs/\cB (j+1) qs=false
 nx:∀j qs rs,os[j]? =some qs->os[j+1]? =some rs->∃ws,rs=bX (j+1) qs ws
theorem S2:Ord 1 []:=⟨by decide,by decide,λp hp=>(by cases hp),rfl,by decide⟩
theorem Z4:Ch [[]]:=⟨by decide,by decide,λj qs e=>by
 cases j with
 |zero=>cases e;exact⟨S2,by decide⟩
 |succ j=>simp at e,λj qs rs e e'=>by simp at e'⟩
theorem Ch.push{os:List (List (Int×Int))}(h:Ch os){n:Nat}(hn:os.length=n){ps:List (Int×Int)}(hl:os[n-1]? =some ps){ws:List Str}(n7:n<=7)(hb:cB (n+1) (bX n ps ws)=false)(ho:Ord (n+1) (bX n ps ws)):Ch (os++[bX n ps ws]):=by
 have hp:=h.pos
 refine⟨by rw[length_append];lia,by rw[length_append];simp;lia,λj qs e=>?_,λj qs rs e e'=>?_⟩
 ·by_cases g:j<os.length
  ·rw[List.getElem?_append_left g]at e
   exact h.ok j qs e
  ·have ej:j=n:=by
    have:=(List.getElem?_eq_some_iff.mp e).1
    rw[length_append]at this
    simp at this
    lia
   subst ej
   rw[List.getElem?_append_right (by lia),hn,Nat.sub_self]at e
   cases e
   exact⟨ho,hb⟩
 ·by_cases g:j+1<os.length
  ·rw[List.getElem?_append_left g]at e'
   rw[List.getElem?_append_left (by lia)]at e
   exact h.nx j qs rs e e'
  ·have ej:j+1=n:=by
    have:=(List.getElem?_eq_some_iff.mp e').1
    rw[length_append]at this
    simp at this
    lia
   rw[List.getElem?_append_right (by lia),show j+1-os.length=0 by lia]at e'
   rw[List.getElem?_append_left (by lia),show j=n-1 by lia,hl]at e
   cases e
   cases e'
   rw[ej]
   exact⟨ws,rfl⟩
theorem Ch.pop{os:List (List (Int×Int))}(h:Ch os){n:Nat}(hn:os.length=n)(n2:2<=n){ps:List (Int×Int)}(hl:os[n-1]? =some ps):Ch os.dropLast/\∃qs,os[n-2]? =some qs/\gG ((n:Int)-1) ps=qs:=by
 have hlt:n-2<os.length:=by lia
 refine⟨⟨by rw[length_dropLast];lia,by rw[length_dropLast];have:=h.le;lia,λj qs e=>?_,λj qs rs e e'=>?_⟩,os[n-2],List.getElem?_eq_getElem hlt,?_⟩
 ·rw[List.getElem?_dropLast]at e
  split at e
  ·exact h.ok j qs e
  ·cases e
 ·rw[List.getElem?_dropLast]at e e'
  split at e
  ·split at e'
   ·exact h.nx j qs rs e e'
   ·cases e'
  ·cases e
 ·have eq:=List.getElem?_eq_getElem hlt
  obtain⟨ws,ew⟩:=h.nx (n-2) _ ps eq (by rw[show n-2+1=n-1 by lia];exact hl)
  have o1:=(h.ok _ _ eq).1
  have o2:=(h.ok _ _ hl).1
  rw[show n-1+1=n-2+1+1 by lia,ew]at o2
  have:=MS o1 o2 (by lia)
  rw[ew,show((n:Int)-1)=((n-2+1:Nat):Int) by lia]
  exact this
noncomputable def Pst(H:Hp)(zs:List V)(os:List (List (Int×Int))):Prop:=zs.length=os.length/\∀j qs,os[j]? =some qs->∃v,zs[j]? =some v/\Is H v (aX (j+1) qs)
noncomputable def TK(H H':Hp):Prop:=∀c us,H c=some (.tup us)->H' c=some (.tup us)
theorem TK.trans{H H1 H2:Hp}(a:TK H H1)(b:TK H1 H2):TK H H2:=λc us e=>b _ _ (a _ _ e)
theorem TK.same{H H':Hp}(s:Same H H'):TK H H':=λc us e=>s _ _ e
theorem TK.t{H H':Hp}{tw:Addr}{ts:List V}(hw:H tw=some (.lst ts))(s:SameT tw H H'):TK H H':=λc us e=>s _ _ e (dB e hw (by intro z;cases z))
theorem TK.k{t:Ad}{H H':Hp}{p:Addr}{x:V}(hw:KAt t H p x)(s:SameT p H H'):TK H H':=λc us e=>s _ _ e (hw.keep e)
theorem Pst.keep{H H':Hp}{zs:List V}{os:List (List (Int×Int))}(h:Pst H zs os)(k:TK H H'):Pst H' zs os:=⟨h.1,λj qs e=>let⟨v,e1,i1⟩:=h.2 j qs e;⟨v,e1,cL k i1⟩⟩
theorem Pst.last{H:Hp}{zs:List V}{os:List (List (Int×Int))}(h:Pst H zs os){n:Nat}(hn:os.length=n)(n1:1<=n){ps:List (Int×Int)}(hl:os[n-1]? =some ps):∃us v,zs=us++[v]/\Is H v (aX n ps):=by
 obtain⟨v,e,i⟩:=h.2 _ _ hl
 have hz:zs≠[]:=λz=>by rw[z]at e;simp at e
 have ez:=(List.dropLast_concat_getLast hz).symm
 have ev:zs.getLast hz=v:=by
  rw[List.getLast_eq_getElem]
  have:zs.length=n:=by rw[h.1,hn]
  have h2:=(List.getElem?_eq_some_iff.mp e).2
  simp only[this]
  exact h2
 rw[ev]at ez
 rw[show n-1+1=n by lia]at i
 exact⟨_,v,ez,i⟩
theorem Pst.push{H:Hp}{zs:List V}{os:List (List (Int×Int))}(h:Pst H zs os){v:V}{qs:List (Int×Int)}(i:Is H v (aX (os.length+1) qs)):Pst H (zs++[v]) (os++[qs]):=by
 refine⟨by rw[length_append,length_append,h.1];rfl,λj rs e=>?_⟩
 by_cases g:j<os.length
 ·rw[List.getElem?_append_left g]at e
  obtain⟨u,e1,i1⟩:=h.2 j rs e
  exact⟨u,by rw[List.getElem?_append_left (by rw[h.1];exact g)];exact e1,i1⟩
 ·have ej:j=os.length:=by
   have:=(List.getElem?_eq_some_iff.mp e).1
   rw[length_append]at this
   simp at this
   lia
  subst ej
  rw[List.getElem?_append_right (Nat.le_refl _),Nat.sub_self]at e
  cases e
  exact⟨v,by rw[List.getElem?_append_right (by rw[h.1];exact Nat.le_refl _),h.1,Nat.sub_self];rfl,i⟩
theorem Pst.pop{H:Hp}{zs:List V}{os:List (List (Int×Int))}(h:Pst H zs os):Pst H zs.dropLast os.dropLast:=by
 refine⟨by rw[length_dropLast,length_dropLast,h.1],λj rs e=>?_⟩
 rw[List.getElem?_dropLast]at e
 split at e
 ·obtain⟨u,e1,i1⟩:=h.2 j rs e
  refine⟨u,?_,i1⟩
  rw[List.getElem?_dropLast,if_pos (by rw[h.1];assumption)]
  exact e1
 ·cases e
structure Kp (K:PySem.W.Frag) (t:Ad) (H:Hp) (a:Addr) (ns:List Int) (tw:Addr) (L:Nat) (p:Addr) (x:V) (q2:Addr) (x2:V) (lp:Addr) (zs:List V) (ll:Addr) (ls:List Int):Prop where
 scr:Scr K H a ns
 twn:∃ts,H tw=some (.lst ts)/\ts.length<=L
 ka:KAt t H p x
 kb:KAt t H q2 x2
 k2:Is H x2 (aX 1 [])
 ep:H lp=some (.lst zs)
 el:H ll=some (.lst (ls.map V.int))
 d1:lp≠tw
 d2:ll≠tw
 d3:ll≠lp
 d4:q2≠p
section
variable{K:PySem.W.Frag}{t:Ad}{H H':Hp}{a:Addr}{ns:List Int}{tw:Addr}{L L':Nat}{p:Addr}{x x':V}{q2:Addr}{x2:V}{lp:Addr}{zs:List V}{ll:Addr}{ls:List Int}
theorem Kp.same(h:Kp K t H a ns tw L p x q2 x2 lp zs ll ls)(s:Same H H'):Kp K t H' a ns tw L p x q2 x2 lp zs ll ls:=
 ⟨h.scr.same s,let⟨ts,e,g⟩:=h.twn;⟨ts,s _ _ e,g⟩,h.ka.same s,h.kb.same s,h.k2.same s,s _ _ h.ep,s _ _ h.el,h.d1,h.d2,h.d3,h.d4⟩
theorem KAt.lt{ts:List V}(h:KAt t H p x)(hw:H tw=some (.lst ts))(s:SameT tw H H'):KAt t H' p x:=let⟨dx,e⟩:=h;⟨dx,s _ _ e (dB e hw (by intro z;cases z))⟩
theorem Kp.draw(h:Kp K t H a ns tw L p x q2 x2 lp zs ll ls)(s:SameT tw H H'){ts:List V}(e:H' tw=some (.lst ts))(g:ts.length<=L'):Kp K t H' a ns tw L' p x q2 x2 lp zs ll ls:=by
 obtain⟨ts0,e0,_⟩:=h.twn
 exact⟨h.scr.t e0 s,⟨ts,e,g⟩,h.ka.lt e0 s,h.kb.lt e0 s,cL (TK.t e0 s) h.k2,s _ _ h.ep h.d1,s _ _ h.el h.d2,h.d1,h.d2,h.d3,h.d4⟩
theorem Kp.come(h:Kp K t H a ns tw L p x q2 x2 lp zs ll ls)(s:SameT p H H')(k:KAt t H' p x'):Kp K t H' a ns tw L p x' q2 x2 lp zs ll ls:=by
 obtain⟨dx,e0⟩:=id h.ka
 obtain⟨ts,et,g⟩:=h.twn
 obtain⟨dy,e2⟩:=h.kb
 have n1:∀{c:Addr}{us:List V},H c=some (.lst us)->c≠p:=λe=>dB e e0 (by intro z;cases z)
 refine⟨?_,⟨ts,s _ _ et (n1 et),g⟩,k,⟨dy,s _ _ e2 h.d4⟩,cL (TK.k h.ka s) h.k2,s _ _ h.ep (n1 h.ep),s _ _ h.el (n1 h.el),h.d1,h.d2,h.d3,h.d4⟩
 rcases h.scr with⟨o,e⟩|e
 ·exact .inl ⟨o,s _ _ e (dB e e0 (by intro z;cases z))⟩
 ·exact .inr e
theorem Kp.past(h:Kp K t H a ns tw L p x q2 x2 lp zs ll ls)(zs':List V):Kp K t (upd H lp (.lst zs')) a ns tw L p x q2 x2 lp zs' ll ls:=by
 have s:SameT lp H (upd H lp (.lst zs')):=λc u e g=>by rw[aE g];exact e
 obtain⟨ts,et,g⟩:=h.twn
 exact⟨h.scr.t h.ep s,⟨ts,s _ _ et (Ne.symm h.d1),g⟩,h.ka.lt h.ep s,h.kb.lt h.ep s,cL (TK.t h.ep s) h.k2,aB,s _ _ h.el h.d3,h.d1,h.d2,h.d3,h.d4⟩
end
theorem IN{n:Nat}(n1:1<=n)(ps:List (Int×Int))(st:Int):fL (eH n ps st n) (n+1) (replicate n 0)=cN n ps st:=WQ n1 (lH n ps st) (WW n ps st) λx=>OD x
theorem qI(i j:Nat):PyData.eqv (dJ i) (dJ j)=decide (i=j):=by
 unfold dJ
 rw[PyData.eqv,PyData.eqvAll,PyData.eqvAll,PyData.eqvAll,PyData.eqv,PyData.eqv]
 by_cases h:i=j
 ·subst h;simp
 ·have:¬(i:Int)=(j:Int):=by lia
  simp[h,this]
theorem fV(i:Nat):bY (dJ i):=⟨by
 have h:PyData.strOk (Str.ofString "refused")=true:=by decide +kernel
 simp[dJ,PyData.canLay0,PyData.canLayAll0,h],Nat.le_trans (show(dJ i).depth<=10 from by show 1<=10;decide) (by decide)⟩
theorem ZC(st:Int)(v:List Int):PyData.eqv (.tuple [.int st,.tuple (v.map .int)]) (.tuple [.int st,.tuple (v.map .int)])=true:=by
 rw[PyData.eqv,PyData.eqvAll,PyData.eqvAll,PyData.eqvAll,PyData.eqv,PyData.eqv,y0]
 simp
theorem HD(st:Int)(v:List Int):bY (.tuple [.int st,.tuple (v.map .int)]):=by
 obtain⟨a,b⟩:=T6 v
 refine⟨?_,?_⟩
 ·rw[PyData.canLay0,PyData.canLayAll0,PyData.canLayAll0,a]
  rfl
 ·have h:PyData.depthAll (v.map .int)<=0:=by
   clear a b
   induction v with
   |nil=>exact Nat.le_refl _
   |cons n ns ih=>rw[map_cons,PyData.depthAll];exact Nat.max_le.mpr ⟨Nat.le_refl _,ih⟩
  rw[PyData.depth,PyData.depthAll,PyData.depthAll,PyData.depthAll,PyData.depth]
  have e0:(PyData.int st).depth=0:=rfl
  rw[e0]
  lia
theorem UC(n:Nat)(ps:List (Int×Int)):bY (.list ((jF n ps).map bR)):=by
 have k:∀l:List (Bool×List Int),PyData.canLayAll0 (l.map bR)=true/\PyData.depthAll (l.map bR)<=20:=λl=>by
  induction l with
  |nil=>exact⟨rfl,Nat.zero_le _⟩
  | cons p l ih=>
   rw[map_cons,PyData.canLayAll0,PyData.depthAll,ih.1,(K4 p).1.1]
   refine⟨rfl,Nat.max_le.mpr ⟨?_,ih.2⟩⟩
   unfold bR
   rw[PyData.depth,PyData.depthAll]
   have:∀ns:List Int,PyData.depthAll (ns.map .int)<=0:=λns=>by
    induction ns with
    |nil=>exact Nat.le_refl _
    |cons n ns ih=>rw[map_cons,PyData.depthAll];exact Nat.max_le.mpr ⟨Nat.le_refl _,ih⟩
   have:=this p.2
   have e0:(PyData.str (if p.1=true then "two" else "three")).depth=0:=rfl
   rw[e0]
   lia
 refine⟨?_,?_⟩
 ·rw[PyData.canLay0];exact(k _).1
 ·rw[PyData.depth]
  have:=(k (jF n ps)).2
  lia
theorem ZD{n:Nat}{ps:List (Int×Int)}(ho:Ord n ps):PyData.eqv (.list ((jF n ps).map bR)) (.list [])= !cB n ps:=by
 rw[PyData.eqv]
 cases e:jF n ps with
 |nil=>
  rw[(KP ho).mp e]
  rfl
 |cons a l=>
  cases h:cB n ps with
  |true=>rfl
  |false=>rw[(KP ho).mpr h]at e;cases e
theorem qH(j:Nat)(i:Int):PyData.eqv (dJ j) (.int i)=false:=by simp[dJ,PyData.eqv]
theorem Kp.lev{K:PySem.W.Frag}{t:Ad}{H:Hp}{a:Addr}{ns:List Int}{tw:Addr}{L L':Nat}{p:Addr}{x:V}{q2:Addr}{x2:V}{lp:Addr}{zs:List V}{ll:Addr}{ls:List Int}(h:Kp K t H a ns tw L p x q2 x2 lp zs ll ls)(g:L<=L'):Kp K t H a ns tw L' p x q2 x2 lp zs ll ls:=
 ⟨h.scr,let⟨ts,e,g'⟩:=h.twn;⟨ts,e,by lia⟩,h.ka,h.kb,h.k2,h.ep,h.el,h.d1,h.d2,h.d3,h.d4⟩
noncomputable def rG(H:Hp)(v:V)(n:Nat):Prop:=∃d,Is H v d/\bY d/\jS d/\PyData.eqv d (.str "undo")=false/\eE d n=false
theorem xV:∀{ds:List PyData},(∀d∈ds,d.canLay0=true/\d.depth=0)->PyData.canLayAll0 ds=true/\PyData.depthAll ds=0
 |[],_=>⟨rfl,rfl⟩
 |d::ds,h=>by
  obtain⟨a,b⟩:=h d mem_cons_self
  obtain⟨c,e⟩:=xV λx hx=>h x (mem_cons_of_mem _ hx)
  rw[PyData.canLayAll0,PyData.depthAll,a,b,c,e]
  exact⟨rfl,rfl⟩
theorem HP{ds:List PyData}(h:∀d∈ds,d.canLay0=true/\d.depth=0):bY (.tuple ds):=by
 obtain⟨a,b⟩:=xV h
 refine⟨by rw[PyData.canLay0];exact a,?_⟩
 rw[PyData.depth,b]
 decide
theorem UO{ds:List PyData}(h:∀d∈ds,d.canLay0=true/\d.depth=0):bY (.list ds):=by
 obtain⟨a,b⟩:=xV h
 refine⟨by rw[PyData.canLay0];exact a,?_⟩
 rw[PyData.depth,b]
 decide
theorem nG{H:Hp}{c:Addr}{us:List V}{ds:List PyData}{n:Nat}(e:H c=some (.tup us))(i:IsAll H us ds)(h:∀d∈ds,d.canLay0=true/\d.depth=0)(hl:ds.length<=1000)(ht:eE (.tuple ds) n=false):rG H (.ref c) n:=
 ⟨.tuple ds,.tup e i,HP h,λds' z=>by cases z;exact⟨hl,λd hd=>⟨(h d hd).1,by rw[(h d hd).2];decide⟩⟩,by simp[PyData.eqv],ht⟩
theorem lE{ws:List Str}(h:∀v∈ws,Wd v):∀d∈ws.map PyData.str,d.canLay0=true/\d.depth=0:=λd hd=>by
 obtain⟨v,hv,rfl⟩:=mem_map.mp hd
 exact⟨(dN (h v hv)).1,rfl⟩
theorem rX{ds:List PyData}{n:Nat}(h:ds.length≠n):eE (.tuple ds) n=false:=by
 show(decide (ds.length=n)&&_)=false
 rw[decide_eq_false h,Bool.false_and]
theorem CY{ds:List PyData}{n:Nat}{d:PyData}(hd:d∈ds)(h:eY d=false):eE (.tuple ds) n=false:=by
 show(decide (ds.length=n)&&ds.all eY)=false
 rw[show ds.all eY=false from List.all_eq_false.mpr ⟨d,hd,by rw[h];exact Bool.false_ne_true⟩,Bool.and_false]
section
variable{P:Program}{w:World}{K:PySem.W.Frag}{mg:Str->Option Value}{base:Heap}{t:Ad}
inductive oB (K:PySem.W.Frag) (vs:List V) (H:Hp) (Q:VK) (zz3:XK):Prop where
 |mk (a ns:_) (zh0:vs=[.ref a]) (zh1:Scr K H a ns) (zh2:∀H',Q (.bl true) H'):oB K vs H Q zz3
theorem T0(T:aR K mg t):FnOk P w K mg base aU 11 t.A7 t.zI ["_law_script"] (oB K):=by
 refine T.LQ.ok sc_law (λvs H Q E h=>?_) (λcdv A outer s H vs Q E hr h=>?_)
 ·obtain⟨a,ns,rfl,_⟩:=h
  rfl
 ·obtain⟨a,ns,rfl,hs,q⟩:=h
  refine⟨_,(aF (aS (i:=1) sc_law.nd rfl (Or.inr rfl) (eF pa_nil))
   (aF (aS (i:=2) sc_law.nd rfl (Or.inl rfl) (G0 T.K_Keeper (HM T) (hr.mono (by decide)) rfl T.JL T.K3 .nil aM))
   (aF (aS (i:=3) sc_law.nd rfl (Or.inl rfl) (G0 T.K_Keeper (HM T) (hr.mono (by decide)) rfl T.JL T.K3 .nil aM))
   (aF (aS (i:=4) sc_law.nd rfl (Or.inl rfl) (eF (aA (aV (aA pe_int (aA (aV pa_nil) pa_nil))) pa_nil)))
   (aF (oS (i:=6) sc_law.nd rfl rfl rfl rfl ⟨True.intro,True.intro,True.intro,(.inl rfl),(.inl rfl),True.intro⟩ (M:=["_law_k","_law_script","_law_town"]) (.own (.free 0 rfl rfl (.free 1 rfl rfl .nil))) (iA rfl) rfl (by decide +kernel) (eT rfl T.eV (aA pe_int pa_nil)) (λC fp s1 H1=>⟨bH (i:=0) (show(["_law_k","_law_script","_law_town"]:List Str).Nodup by decide +kernel) rfl (Or.inl rfl),kX,(aQ (j6 T) (hr.mono (by decide)) rfl T.j9 T.jX.kp T.kK .nil aM (aA (pv 1) (aA (pv 2) (aA pe_int pa_nil))))⟩))
   (aF (aS (i:=7) sc_law.nd rfl (Or.inl rfl) (bF eU pe_int (aQ (j6 T) (hr.mono (by decide)) rfl T.j9 T.jX.kp T.kK .nil aM (aA (pv 0) (aA (pv 1) (aA pe_int pa_nil))))))
   (aF (c5 PassesOwn.never rfl (eT rfl T.eV (aA (aQ (j6 T) (hr.mono (by decide)) rfl T.j9 T.jX.kp T.kK .nil aM (aA (pv 0) (aA (pv 1) (aA pe_int pa_nil)))) pa_nil)) (bH (i:=5) sc_law.nd rfl (Or.inl rfl)) (aF (aS (i:=8) sc_law.nd rfl (Or.inl rfl) (aN (aO K) (aN (aO K) (pv 4) (iU iL pe_int) (λ_ _=>rfl)) pe_int (λ_ _=>rfl)))
   (aF (aS (i:=9) sc_law.nd rfl (Or.inl rfl) (aQ (UE T) (hr.mono (by decide)) rfl T.WH T.L4.kp T.abL .nil aM (aA (pv 0) (aA (pv 1) (aA (pv 8) (aA (pv 6) (aA (pv 7) pa_nil)))))))
   (aF (aS (i:=10) sc_law.nd rfl (Or.inl rfl) (fG (lC K) (by rfl) T.g7 iE (aA (pv 9) pa_nil)))
   (aF (aS (i:=11) sc_law.nd rfl (Or.inl rfl) (eF (aA pe_non (aA (pv 9) (aA (wK (xY K) (pv 10) (wI pe_int) wJ) (aA (bF wQ (pv 10) (aV (aA pe_str pa_nil))) (aA (bF wQ (wK (xY K) (pv 10) wJ (wI (iU iL pe_int))) (aV (aA pe_str pa_nil))) (aA (bF wQ (wK (xY K) (pv 10) wJ (wI (iU iL pe_int))) (aV (aA pe_non pa_nil))) (aA (aV pa_nil) pa_nil)))))))))
   (aF (aS (i:=12) sc_law.nd rfl (Or.inl rfl) (aQ (j6 T) (hr.mono (by decide)) rfl T.j9 T.jX.kp T.kK .nil aM (aA (pv 0) (aA (pv 1) (aA pe_int pa_nil)))))
   (aF (aS (i:=13) sc_law.nd rfl (Or.inl rfl) (pv 10))
   (aF (aS (i:=14) sc_law.nd rfl (Or.inl rfl) (pv 8))
   (aF (aS (i:=15) sc_law.nd rfl (Or.inl rfl) (aQ (UF T) (hr.mono (by decide)) rfl T.WI T.L5.kp T.abM .nil aM (aA (pv 4) (aA (pv 9) pa_nil))))
   (aF (aW (aT (cM hr.units) (pv 12) pe_int (aY _)) (aF (aS (i:=13) sc_law.nd rfl (Or.inl rfl) (aQ (HJ T) (hr.mono (by decide)) rfl T.IJ T.CA.kp T.K0 .nil aM (aA (pv 0) (aA (pv 1) (aA (pv 11) pa_nil)))))
   (aD (aS (i:=14) sc_law.nd rfl (Or.inl rfl) (aV (aA pe_str (aA pe_int pa_nil)))))) (aD (aW (aT (cM hr.units) (pv 12) pe_int (aY _)) (aF (aS (i:=13) sc_law.nd rfl (Or.inl rfl) pe_str)
   (aD (aS (i:=14) sc_law.nd rfl (Or.inl rfl) (wM (aT (o9) (bP (hX K) (by rfl) T.hJ iF (aA (pv 4) pa_nil)) pe_int (aY _)) pe_non (aV (aA pe_str (aA pe_int pa_nil))))))) (aD (aW (aT (cM hr.units) (pv 8) pe_int (aY _)) (aD (aS (i:=14) sc_law.nd rfl (Or.inl rfl) (aV (aA pe_str (aA pe_int pa_nil))))) (aD (aW (aT (gZ hr.units) (aQ (UJ T) (hr.mono (by decide)) rfl T.WN T.MC.kp T.abR .nil aM (aA (pv 15) pa_nil)) (eF pa_nil) (aY _)) (aD (aS (i:=14) sc_law.nd rfl (Or.inl rfl) (aV (aA pe_str (aA pe_int pa_nil))))) bB)))))))
   (aF (aW (aT (gZ hr.units) (aQ (UH T) (hr.mono (by decide)) rfl T.WL T.L8.kp T.abP .nil aM (aA (pv 2) (aA (pv 13) pa_nil))) (pv 14) (aY _)) (aD (aP pe_bl)) bB)
   (aF (aW (aT kY (pv 14) pe_non (aY _)) (aD (cK (X0 K PySem.F.plainAttrs_list PySem.F.slot_list_pop PySem.F.type_list_pop U6 (pv 4)))) (aD (aW (aT (cM hr.units) (pv 14) (pv 8) (aY _)) (aD (cK (fH K PySem.F.plainAttrs_list PySem.F.slot_list_append PySem.F.type_list_append iY (pv 4) (aA (pv 15) pa_nil)))) bB)))
   (aD (aW (aT (gZ hr.units) (oZ (pv 2) T.cl_Keeper T.M_Keeper_order (HL T) (hr.mono (by decide)) T.K2 .nil aM) (aN (aO K) (pv 4) (iU iL pe_int) (λ_ _=>rfl)) (aY _)) (aD (aP pe_bl)) bB))))))))))))))
   (aF (aS (i:=16) sc_law.nd rfl (Or.inl rfl) pe_int)
   (aF (GV PassesOwn.never (aT kY (aQ (HK T) (hr.mono (by decide)) rfl T.IK T.CB.kp T.K1 .nil aM (aA (aN (aO K) (pv 4) (iU iL pe_int) (λ_ _=>rfl)) (aA (pv 16) pa_nil))) pe_non (aY _)) (aD (aS (i:=16) sc_law.nd rfl (Or.inl rfl) (bF eU (pv 16) pe_int))))
   (aD (aP (mG (fU (cM hr.units) (oZ (pv 2) T.cl_Keeper T.M_Keeper_numbers (UL T) (hr.mono (by decide)) T.abT .nil aM) (aV (aA (pv 16) (aA (aQ (HK T) (hr.mono (by decide)) rfl T.IK T.CB.kp T.K1 .nil aM (aA (aN (aO K) (pv 4) (iU iL pe_int) (λ_ _=>rfl)) (aA (pv 16) pa_nil))) pa_nil))) (aY _)) (mF (fU (cM hr.units) (oZ (pv 3) T.cl_Keeper T.M_Keeper_order (HL T) (hr.mono (by decide)) T.K2 .nil aM) (aV (aA pe_int (aA (aV pa_nil) pa_nil))) (aY _))))))))))))))),?_⟩
  walk_at"rd"
  refine⟨Nat.zero_le _,λtw htw=>?_⟩
  have hs0:=hs.same (Same.upd (o:=.lst []) htw)
  have ht0:upd H tw (.lst []) tw=some (.lst []):=aB
  generalize upd H tw (.lst [])=H0 at hs0 ht0
  clear htw hs
  walk_at"rd"
  intro p dx np ndx ndp
  have s0:Same H0 (upd (upd H0 dx (.own p)) p (.ins t.eX dx [])):=λc u e=>by rw[aE (aI e np),aE (aI e ndx)];exact e
  refine⟨p,dx,rfl,aB,λx H1 s1 ka ix=>⟨rfl,?_⟩⟩
  have s01:Same H0 H1:=λc u e=>s1 _ _ (s0 _ _ e) (aI e np)
  clear s0 s1 np ndx ndp
  walk_at"rd"
  intro q2 dy nq ndy ndq
  have s2:Same H1 (upd (upd H1 dy (.own q2)) q2 (.ins t.eX dy [])):=λc u e=>by rw[aE (aI e nq),aE (aI e ndy)];exact e
  refine⟨q2,dy,rfl,aB,λx2 H2 s3 kb ix2=>⟨rfl,?_⟩⟩
  have s12:Same H1 H2:=λc u e=>s3 _ _ (s2 _ _ e) (aI e nq)
  have d4:q2≠p:=λz=>by
   obtain⟨dz,ez⟩:=ka
   rw[z]at nq
   rw[nq]at ez
   cases ez
  have ka2:=ka.same s12
  have ixx:=ix.same s12
  have hs2:=(hs0.same s01).same s12
  have ht2:=s12 _ _ (s01 _ _ ht0)
  clear s2 s3 nq ndy ndq ka ix hs0 ht0 s01 s12
  walk_at"rd"
  refine⟨Nat.zero_le _,λc1 hc1=>?_⟩
  have f1:=Same.upd (o:=.tup []) hc1
  have ec1:upd H2 c1 (.tup []) c1=some (.tup []):=aB
  generalize upd H2 c1 (.tup [])=H3 at f1 ec1
  walk_at"rd"
  refine⟨by show 2<=sizeLine;decide,λc2 hc2=>?_⟩
  have f2:=f1.trans (Same.upd (o:=.tup [V.int 1,V.ref c1]) hc2)
  have ec12:=(Same.upd (o:=.tup [V.int 1,V.ref c1]) hc2) _ _ ec1
  have ec2:upd H3 c2 (.tup [V.int 1,V.ref c1]) c2=some (.tup [V.int 1,V.ref c1]):=aB
  generalize upd H3 c2 (.tup [V.int 1,V.ref c1])=H4 at f2 ec12 ec2
  walk_at"rd"
  refine⟨by show 1<=sizeLine;decide,λlp hlp=>?_⟩
  have f3:=Same.upd (o:=.lst [V.ref c2]) hlp
  have f4:=f2.trans f3
  have elp:upd H4 lp (.lst [V.ref c2]) lp=some (.lst [V.ref c2]):=aB
  have pst:Pst (upd H4 lp (.lst [V.ref c2])) [V.ref c2] [[]]:=⟨rfl,λj qs e=>by
   cases j with
   |zero=>
    cases e
    exact⟨_,rfl,.tup (f3 _ _ ec2) (.cons (.int _) (.cons (.tup (xs:=[]) (f3 _ _ ec12) .nil) .nil))⟩
   |succ j=>simp at e⟩
  have dlt:lp≠tw:=Ne.symm (aI (f2 _ _ ht2) hlp)
  generalize upd H4 lp (.lst [V.ref c2])=H5 at f3 f4 elp pst
  have ka5:=ka2.same f4
  have kb5:=kb.same f4
  have ix5:=ixx.same f4
  have ix25:=ix2.same f4
  have hs5:=hs2.same f4
  have ht5:=f4 _ _ ht2
  clear f1 f2 f3 f4 ec1 ec12 ec2 hc1 hc2 hlp ka2 kb ixx ix2 hs2 ht2
  walk_at"rd"
  refine⟨_,rfl,by decide,by decide,?_⟩
  refine pK (n:=12) (eZ (by decide)) (λi us H'=>SameT tw H5 H'/\(∃ts,H' tw=some (.lst ts)/\ts.length<=i)/\∃vals:List Int,us=vals.map V.int/\vals.length=i) ⟨SameT.refl _ _,⟨[],ht5,Nat.le_refl _⟩,[],rfl,rfl⟩ (by
   rintro i us H' ⟨_,_,vals,rfl,h⟩
   rw[length_map,h]
   exact Nat.le_refl _) ?_ ?_
  ·rintro i us H6 hi ⟨s6,⟨ts,ht6,hl6⟩,vals,rfl,lv⟩
   walk_at"rd"
   refine⟨a,ns,tw,ts,_,rfl,hs5.t ht5 s6,ht6,by lia,by decide,λr H7 ts7 s7 ht7 hl7 r0 r1=>?_⟩
   exact⟨s6.trans s7,⟨ts7,ht7,by lia⟩,vals++[r],by rw[map_append];rfl,by rw[length_append,lv];rfl⟩
  rintro us H6 ⟨s6,⟨ts,ht6,hl6⟩,ls,rfl,lls⟩ ll hll
  have f7:=Same.upd (o:=.lst (ls.map V.int)) hll
  have ell:upd H6 ll (.lst (ls.map V.int)) ll=some (.lst (ls.map V.int)):=aB
  have elp6:=s6 _ _ elp dlt
  have kp:Kp K t (upd H6 ll (.lst (ls.map V.int))) a ns tw 12 p x q2 x2 lp [V.ref c2] ll ls:=
   ⟨(hs5.t ht5 s6).same f7,⟨ts,f7 _ _ ht6,hl6⟩,(ka5.lt ht5 s6).same f7,(kb5.lt ht5 s6).same f7,(cL (TK.t ht5 s6) ix25).same f7,f7 _ _ elp6,ell,dlt,Ne.symm (aI ht6 hll),Ne.symm (aI elp6 hll),d4⟩
  have ixo:=(cL (TK.t ht5 s6) ix5).same f7
  have pst7:=pst.keep ((TK.t ht5 s6).trans (TK.same f7))
  generalize upd H6 ll (.lst (ls.map V.int))=H7 at kp ixo pst7
  clear s6 ht6 hl6 hll f7 ell elp6 ka5 kb5 ix5 ix25 hs5 ht5 pst elp dlt d4
  walk_at"rd"
  obtain⟨ts,ht7,hl7⟩:=kp.twn
  refine⟨a,ns,tw,ts,_,rfl,kp.scr,ht7,by lia,by decide,λst H8 ts8 s8 ht8 hl8 st0 st1=>?_⟩
  have kp8:=kp.draw s8 ht8 (L':=13) (by lia)
  have ixo8:=cL (TK.t ht7 s8) ixo
  have pst8:=pst7.keep (TK.t ht7 s8)
  clear kp ixo pst7 s8 ht7
  walk_at"rd"
  refine⟨a,ns,tw,ts8,_,rfl,kp8.scr,ht8,by lia,by decide,λtms H9 ts9 s9 ht9 hl9 tm0 tm1=>?_⟩
  have kp9:=kp8.draw s9 ht9 (L':=14) (by lia)
  have ixo9:=cL (TK.t ht8 s9) ixo8
  have pst9:=pst8.keep (TK.t ht8 s9)
  clear kp8 ixo8 pst8 s9 ht8 ht9
  walk_at"rd"
  refine⟨_,rfl,by lia,by lia,?_⟩
  refine gN (λi σ H'=>(∃v5 v8 v9 v10 v11 v12 v13 v14 v15,σ=[some (.ref a),some (.ref tw),some (.ref p),some (.ref q2),some (.ref lp),v5,some (.ref ll),some (.int (1+st)),v8,v9,v10,v11,v12,v13,v14,v15,none])/\∃(x:V)(zs:List V)(os:List (List (Int×Int)))(ps:List (Int×Int)),Kp K t H' a ns tw (14+8*i) p x q2 x2 lp zs ll ls/\Pst H' zs os/\Ch os/\os[os.length-1]? =some ps/\Is H' x (aX os.length ps))
   ⟨⟨_,_,_,_,_,_,_,_,_,rfl⟩,x,_,_,_,kp9,pst9,Z4,rfl,ixo9⟩ ?_ ?_
  ·rintro i σ H1 hi ⟨⟨v5,v8,v9,v10,v11,v12,v13,v14,v15,rfl⟩,x,zs,os,ps,kp,pst,ch,hlast,hx⟩
   clear kp9 pst9 ixo9
   obtain⟨n,hn⟩:∃n,os.length=n:=⟨_,rfl⟩
   rw[hn]at hlast hx
   have n1:1<=n:=by have:=ch.pos;lia
   have n8:n<=8:=by have:=ch.le;lia
   have i20:i<20:=by lia
   obtain⟨ho,hb⟩:=ch.ok _ _ hlast
   rw[show n-1+1=n by lia]at ho hb
   obtain⟨us,y,rfl,hy⟩:=pst.last hn n1 hlast
   obtain⟨oa,ob,xs,rfl,ea,eb,hxs⟩:=fJ hy
   walk_at"rd"
   refine⟨1,rfl,?_⟩
   refine cA kp.ep (iH _ _) ?_
   walk_at"rd"
   obtain⟨ts,ht,hl⟩:=kp.twn
   refine⟨a,ns,tw,ts,n,ll,ls,1+st,rfl,n1,n8,kp.scr,ht,by lia,kp.el,lls,kp.d2,λlw ws H2 ts2 s2 ht2 hl2 nlw elw tl=>?_⟩
   have kp2:=kp.draw s2 ht2 (L':=17+8*i) (by lia)
   have tk2:=TK.t ht s2
   have hx2:=cL tk2 hx
   have hy2:=cL tk2 hy
   have pst2:=pst.keep tk2
   have dwt:lw≠tw:=Ne.symm (aI ht nlw)
   have dwp:lw≠lp:=Ne.symm (aI kp.ep nlw)
   clear kp hx hy pst s2 ht hl ea eb hxs tk2 nlw
   walk_at"rd"
   intro tt htt
   have f3:=Same.upd (o:=.tup (ws.map V.str)) htt
   have ett:upd H2 tt (.tup (ws.map V.str)) tt=some (.tup (ws.map V.str)):=aB
   have kp3:=kp2.same f3
   have hx3:=hx2.same f3
   have hy3:=hy2.same f3
   have pst3:=pst2.keep (TK.same f3)
   have elw3:=f3 _ _ elw
   generalize upd H2 tt (.tup (ws.map V.str))=H3 at ett kp3 hx3 hy3 pst3 elw3
   clear kp2 hx2 hy2 pst2 elw f3 htt ht2 hl2
   obtain⟨w0,wr,ewr⟩:∃w0 wr,ws=w0::wr:=by
    cases ws with
    |nil=>have:=tl.len;simp at this;lia
    |cons w0 wr=>exact⟨w0,wr,rfl⟩
   obtain⟨wi,wl,ewi⟩:∃wi wl,ws=wi++[wl]:=by
    have ne:ws≠[]:=λz=>by rw[z]at ewr;cases ewr
    exact⟨_,_,(List.dropLast_concat_getLast ne).symm⟩
   have ett1:H3 tt=some (.tup (V.str w0::wr.map V.str)):=by rw[ett,ewr];rfl
   have ett2:H3 tt=some (.tup (wi.map V.str++[V.str wl])):=by rw[ett,ewi,map_append];rfl
   walk_at"rd"
   refine uR ?_
   walk_at"rd"
   refine uT ?_
   walk_at"rd"
   refine⟨1,rfl,?_⟩
   refine uU ?_
   refine P7 ett1 λb1 hb1=>?_
   have f4:=Same.upd (o:=.tup (wr.map V.str)) hb1
   have eb1:upd H3 b1 (.tup (wr.map V.str)) b1=some (.tup (wr.map V.str)):=aB
   generalize upd H3 b1 (.tup (wr.map V.str))=H4 at f4 eb1
   clear hb1
   walk_at"rd"
   refine⟨by show 1<=sizeLine;decide,λb0 hb0=>?_⟩
   have f5:=Same.upd (o:=.tup [V.str "less"]) hb0
   refine uW (f5 _ _ (f4 _ _ ett)) aB (eZ (by rw[length_map,tl.len];show _+1<=1000;lia)) λb2 H5 f6 eb2=>?_
   have f7:=(f4.trans f5).trans f6
   have eb1':=f6 _ _ (f5 _ _ eb1)
   clear f4 f5 f6 eb1 hb0
   walk_at"rd"
   refine uR ?_
   walk_at"rd"
   refine uU ?_
   refine uT ?_
   walk_at"rd"
   refine⟨1,rfl,?_⟩
   walk_at"rd"
   refine⟨-1,rfl,?_⟩
   refine FW (f7 _ _ ett2) λb9 hb9=>?_
   have f8:=f7.trans (Same.upd (o:=.tup (wi.map V.str)) hb9)
   have g8:=Same.upd (o:=.tup (wi.map V.str)) hb9
   have eb9:upd H5 b9 (.tup (wi.map V.str)) b9=some (.tup (wi.map V.str)):=aB
   have eb1:=g8 _ _ eb1'
   have eb2':=g8 _ _ eb2
   generalize upd H5 b9 (.tup (wi.map V.str))=H6 at f8 eb9 eb1 eb2'
   clear g8 hb9 f7 eb1' eb2
   have lwi:wi.length+1=n:=by rw[<-tl.len,ewi,length_append];rfl
   walk_at"rd"
   refine⟨by show 1<=sizeLine;decide,λb8 hb8=>?_⟩
   have g9:=Same.upd (o:=.tup [V.str "greater"]) hb8
   refine uW (g9 _ _ eb9) aB (eZ (by rw[length_map];show _+1<=1000;lia)) λb3 H7 g10 eb3=>?_
   have g11:=g9.trans g10
   have f9:=f8.trans g11
   have eb1':=g11 _ _ eb1
   have eb2:=g11 _ _ eb2'
   clear g9 g10 g11 f8 eb1 eb2' eb9 hb8
   walk_at"rd"
   refine uR ?_
   walk_at"rd"
   refine uU ?_
   refine uT ?_
   walk_at"rd"
   refine⟨1,rfl,?_⟩
   walk_at"rd"
   refine⟨-1,rfl,?_⟩
   refine FW (f9 _ _ ett2) λb9 hb9=>?_
   have g8:=Same.upd (o:=.tup (wi.map V.str)) hb9
   have f10:=f9.trans g8
   have eb9:upd H7 b9 (.tup (wi.map V.str)) b9=some (.tup (wi.map V.str)):=aB
   have eb1:=g8 _ _ eb1'
   have eb2':=g8 _ _ eb2
   have eb3':=g8 _ _ eb3
   generalize upd H7 b9 (.tup (wi.map V.str))=H8 at f10 eb9 eb1 eb2' eb3'
   clear g8 hb9 f9 eb1' eb2 eb3
   walk_at"rd"
   refine⟨by show 1<=sizeLine;decide,λb8 hb8=>?_⟩
   have g9:=Same.upd (o:=.tup [V.non]) hb8
   refine uW (g9 _ _ eb9) aB (eZ (by rw[length_map];show _+1<=1000;lia)) λb4 H9 g10 eb4=>?_
   have g11:=g9.trans g10
   have f11:=f10.trans g11
   have eb1':=g11 _ _ eb1
   have eb2:=g11 _ _ eb2'
   have eb3:=g11 _ _ eb3'
   clear g9 g10 g11 f10 eb1 eb2' eb3' eb9 hb8
   walk_at"rd"
   refine⟨Nat.zero_le _,λb5 hb5=>?_⟩
   have g12:=Same.upd (o:=.tup []) hb5
   have f12:=f11.trans g12
   have eb5:upd H9 b5 (.tup []) b5=some (.tup []):=aB
   have eb1:=g12 _ _ eb1'
   have eb2':=g12 _ _ eb2
   have eb3':=g12 _ _ eb3
   have eb4':=g12 _ _ eb4
   generalize upd H9 b5 (.tup [])=H10 at f12 eb5 eb1 eb2' eb3' eb4'
   clear g12 f11 hb5 eb1' eb2 eb3 eb4
   walk_at"rd"
   refine⟨by show 7<=sizeLine;decide,λlb hlb=>?_⟩
   obtain⟨xsb,exsb⟩:∃xsb,xsb=[V.non,V.ref lw,V.ref b1,V.ref b2,V.ref b3,V.ref b4,V.ref b5]:=⟨_,rfl⟩
   rw[<-exsb]
   have g13:=Same.upd (o:=.lst xsb) hlb
   have f13:=f12.trans g13
   have elb:upd H10 lb (.lst xsb) lb=some (.lst xsb):=aB
   have dlb:lb≠tw:=by
    obtain⟨tsx,etx,_⟩:=kp3.twn
    exact Ne.symm (aI (f12 _ _ etx) hlb)
   have hwr:∀v∈wr,Wd v:=λv hv=>tl.wd v (by rw[ewr];exact mem_cons_of_mem _ hv)
   have hwi:∀v∈wi,Wd v:=λv hv=>tl.wd v (by rw[ewi];exact mem_append_left _ hv)
   have lwr:wr.length+1=n:=by rw[<-tl.len,ewr];rfl
   have hbad:∀H',TK (upd H10 lb (.lst xsb)) H'->H' lw=some (.lst (ws.map V.str))->∀v∈xsb,rG H' v n:=λH' tk el v hv=>by
    rw[exsb]at hv
    simp only[mem_cons,not_mem_nil,or_false]at hv
    rcases hv with rfl|rfl|rfl|rfl|rfl|rfl|rfl
    ·exact⟨.none,.non,⟨rfl,by decide⟩,λds z=>(by cases z),by simp[PyData.eqv],rfl⟩
    ·exact⟨.list (ws.map .str),.lst (.inl el) (kD ws),UO (lE tl.wd),λds z=>(by cases z),by simp[PyData.eqv],rfl⟩
    ·exact nG (tk _ _ (g13 _ _ eb1)) (kD wr) (lE hwr) (by rw[length_map];lia) (rX (by rw[length_map];lia))
    ·refine nG (ds:=(ws++[("less":Str)]).map .str) (tk _ _ (g13 _ _ eb2')) (by rw[show ws.map V.str++[V.str "less"]=(ws++[("less":Str)]).map V.str by rw[map_append];rfl];exact kD _) (lE λv hv=>?_) (by rw[length_map,length_append,tl.len];simp;lia) (rX (by rw[length_map,length_append,tl.len];simp))
     rcases mem_append.mp hv with hv|hv
     ·exact tl.wd v hv
     ·rcases mem_singleton.mp hv with rfl
      exact .inl rfl
    ·refine nG (ds:=wi.map .str++[.str "greater"]) (tk _ _ (g13 _ _ eb3')) ((kD wi).append (.cons (.str _) .nil)) (λd hd=>?_) (by rw[length_append,length_map];simp;lia) (CY (d:=.str "greater") (by simp) (by decide +kernel))
     rcases mem_append.mp hd with hd|hd
     ·exact lE hwi d hd
     ·rcases mem_singleton.mp hd with rfl
      exact⟨by decide +kernel,rfl⟩
    ·refine nG (ds:=wi.map .str++[.none]) (tk _ _ (g13 _ _ eb4')) ((kD wi).append (.cons .non .nil)) (λd hd=>?_) (by rw[length_append,length_map];simp;lia) (CY (d:=.none) (by simp) rfl)
     rcases mem_append.mp hd with hd|hd
     ·exact lE hwi d hd
     ·rcases mem_singleton.mp hd with rfl
      exact⟨rfl,rfl⟩
    ·exact nG (ds:=[]) (tk _ _ (g13 _ _ eb5)) .nil (λd hd=>(by cases hd)) (by decide) (rX (by simp;lia))
   generalize upd H10 lb (.lst xsb)=H11 at f13 elb hbad
   have lxb:0<xsb.length:=by rw[exsb];exact Nat.succ_pos _
   have kp4:=kp3.same f13
   have hx4:=hx3.same f13
   have hy4:=hy3.same f13
   have pst4:=pst3.keep (TK.same f13)
   have elw4:=f13 _ _ elw3
   have ett4:=f13 _ _ ett
   clear exsb g13 f13 f12 hlb eb1 eb2' eb3' eb4' eb5 kp3 hx3 hy3 pst3 elw3 ett ett1 ett2 hwr hwi lwr lwi ewr ewi
   walk_at"rd"
   obtain⟨ts,ht,hl⟩:=kp4.twn
   refine⟨a,ns,tw,ts,_,rfl,kp4.scr,ht,by lia,by decide,λkd H12 ts12 s12 ht12 hl12 kd0 kd1=>?_⟩
   have tk12:=TK.t ht s12
   have kp5:=kp4.draw s12 ht12 (L':=18+8*i) (by lia)
   have hx5:=cL tk12 hx4
   have hy5:=cL tk12 hy4
   have pst5:=pst4.keep tk12
   have elw5:=s12 _ _ elw4 dwt
   have ett5:=tk12 _ _ ett4
   have elb5:=s12 _ _ elb dlb
   have hbad5:∀H',TK H12 H'->H' lw=some (.lst (ws.map V.str))->∀v∈xsb,rG H' v n:=λH' tk el=>hbad H' (tk12.trans tk) el
   clear kp4 hx4 hy4 pst4 elw4 ett4 elb hbad tk12 s12 ht hl ht12
   walk_at"rd"
   refine⟨lp,us,_,n,ps,lw,ws,rfl,kp5.ep,hy5,ho,elw5,tl,λz H13 s13 hz=>?_⟩
   have kp6:=kp5.same s13
   have hx6:=hx5.same s13
   have hy6:=hy5.same s13
   have pst6:=pst5.keep (TK.same s13)
   have elw6:=s13 _ _ elw5
   have ett6:=s13 _ _ ett5
   have elb6:=s13 _ _ elb5
   have hbad6:∀H',TK H13 H'->H' lw=some (.lst (ws.map V.str))->∀v∈xsb,rG H' v n:=λH' tk el=>hbad5 H' ((TK.same s13).trans tk) el
   clear kp5 hx5 hy5 pst5 elw5 ett5 elb5 hbad5 s13
   have nk:("order":Str)≠"kept":=by decide +kernel
   have isT:Is H13 (.ref tt) (cY ws):=.tup ett6 (kD ws)
   have tT:eE (cY ws) n=true:=rY tl.len tl.wd
   have oT:jS (cY ws):=HN (by rw[tl.len];lia) tl.wd
   have oD:bY (cY ws):=HP (lE tl.wd)
   have zT:PyData.eqv (cY ws) (.str "undo")=false:=by simp[cY,PyData.eqv]
   walk_at"rd"
   refine bW (λg0=>?_) (λg0=>?_)
   ·obtain⟨ts,ht,hl⟩:=kp6.twn
    walk_at"rd"
    refine⟨a,ns,tw,ts,lb,xsb,rfl,kp6.scr,ht,by lia,elb6,dlb,lxb,λv H14 ts14 s14 ht14 hl14 hv=>?_⟩
    have tk14:=TK.t ht s14
    have kp7:=kp6.draw s14 ht14 (L':=19+8*i) (by lia)
    obtain⟨d,idd,okd,okt,zd,td⟩:=hbad6 H14 tk14 (s14 _ _ elw6 dwt) v hv
    walk_at"rd"
    refine⟨by show 2<=sizeLine;decide,λtd1 htd=>?_⟩
    have g15:=Same.upd (o:=.tup [V.str "refused",V.int 5]) htd
    have etd:upd H14 td1 (.tup [V.str "refused",V.int 5]) td1=some (.tup [V.str "refused",V.int 5]):=aB
    generalize upd H14 td1 (.tup [V.str "refused",V.int 5])=H15 at g15 etd
    have kp8:=kp7.same g15
    have hx8:=(cL tk14 hx6).same g15
    have hy8:=(cL tk14 hy6).same g15
    have pst8:=(pst6.keep tk14).keep (TK.same g15)
    walk_at"rd"
    refine⟨p,x,n,ps,v,d,rfl,kp8.ka,hx8,ho,idd.same g15,okd,okt,.tel zd td λr H16 s16 ir=>?_⟩
    have kpc:=kp8.same s16
    have hxc:=hx8.same s16
    have hyc:=hy8.same s16
    have pstc:=pst8.keep (TK.same s16)
    have itd:Is H16 (.ref td1) (dJ 5):=.tup (s16 _ _ etd) (.cons (.str _) (.cons (.int _) .nil))
    walk_at"rd"
    refine bV ir itd (fV _) (fV _) ?_
    rw[qI,decide_eq_true rfl]
    walk_at"rd"
    refine bQ rfl ?_
    walk_at"rd"
    refine bV itd (.int _) (fV _) ⟨rfl,Nat.zero_le _⟩ ?_
    rw[qH]
    walk_at"rd"
    refine bQ rfl ?_
    obtain⟨dk,ek⟩:=id kpc.ka
    walk_at"rd"
    refine⟨_,dk,_,rfl,ek,fD _ nk,?_⟩
    walk_at"rd"
    refine⟨_,_,rfl,kpc.ka,?_⟩
    walk_at"rd"
    refine⟨1,rfl,?_⟩
    refine cA kpc.ep (iH _ _) ?_
    refine bV hxc hyc (fB _ _) (fB _ _) ?_
    rw[kG,decide_eq_true ⟨rfl,rfl⟩]
    walk_at"rd"
    refine bQ rfl ?_
    exact⟨⟨_,_,_,_,_,_,_,_,_,rfl⟩,x,us++[V.ref oa],os,ps,kpc.lev (by lia),pstc,ch,by rw[hn];exact hlast,by rw[hn];exact hxc⟩
   have ep6:=kp6.ep
   have lz:(us++[V.ref oa]).length=n:=by rw[pst6.1,hn]
   walk_at"rd"
   refine bW (λg1=>?_) (λg1=>?_)
   ·walk_at"rd"
    refine bW (λg2=>?_) (λg2=>?_)
    ·have n2:2<=n:=by
      have:=of_decide_eq_true g2
      rw[lz]at this
      lia
     walk_at"rd"
     refine⟨p,x,n,ps,.str "undo",.str "undo",rfl,kp6.ka,hx6,ho,.str _,⟨by decide +kernel,by decide +kernel⟩,λds z=>(by cases z),.undo rfl n2 λx' H14 s14 k14 i14=>?_⟩
     have tk14:=TK.k kp6.ka s14
     have kp7:=kp6.come s14 k14
     have hy7:=cL tk14 hy6
     have pst7:=pst6.keep tk14
     obtain⟨ch7,qs,eqs,ewq⟩:=ch.pop hn n2 hlast
     rw[ewq]at i14
     walk_at"rd"
     refine bV .non .non ⟨rfl,by decide⟩ ⟨rfl,by decide⟩ ?_
     rw[show PyData.eqv .none .none=true by simp[PyData.eqv]]
     walk_at"rd"
     refine bQ rfl ?_
     walk_at"rd"
     refine⟨eC kp7.ep,?_⟩
     refine⟨lp,us++[V.ref oa],V.ref oa,rfl,rfl,kp7.ep,by rw[length_append];simp,?_⟩
     rw[List.dropLast_concat]
     have kp8:=kp7.past us
     have tk8:TK H14 (upd H14 lp (.lst us)):=TK.t kp7.ep λc u e g=>by rw[aE g];exact e
     have hx8:=cL tk8 i14
     have pst8:=pst7.pop.keep tk8
     rw[List.dropLast_concat]at pst8
     have hn8:os.dropLast.length=n-1:=by rw[length_dropLast,hn]
     have hl8:os.dropLast[n-1-1]? =some qs:=by
      rw[List.getElem?_dropLast,if_pos (by lia),show n-1-1=n-2 by lia]
      exact eqs
     obtain⟨us8,y8,e8,hyc⟩:=pst8.last hn8 (by lia) hl8
     generalize upd H14 lp (.lst us)=H15 at kp8 hx8 pst8 hyc
     subst e8
     have kpc:=kp8
     have hxc:=hx8
     obtain⟨dk,ek⟩:=id kpc.ka
     walk_at"rd"
     refine⟨_,dk,_,rfl,ek,fD _ nk,?_⟩
     walk_at"rd"
     refine⟨_,_,rfl,kpc.ka,?_⟩
     walk_at"rd"
     refine⟨1,rfl,?_⟩
     refine cA kpc.ep (iH _ _) ?_
     refine bV hxc hyc (fB _ _) (fB _ _) ?_
     rw[kG,decide_eq_true ⟨rfl,rfl⟩]
     walk_at"rd"
     refine bQ rfl ?_
     exact⟨⟨_,_,_,_,_,_,_,_,_,rfl⟩,x',us8++[y8],os.dropLast,qs,kpc.lev (by lia),pst8,ch7,by rw[hn8];exact hl8,by rw[hn8];exact hxc⟩
    ·have e1:n=1:=by
      have:=of_decide_eq_false g2
      rw[lz]at this
      lia
     walk_at"rd"
     refine⟨by show 2<=sizeLine;decide,λtd1 htd=>?_⟩
     have g15:=Same.upd (o:=.tup [V.str "refused",V.int 8]) htd
     have etd:upd H13 td1 (.tup [V.str "refused",V.int 8]) td1=some (.tup [V.str "refused",V.int 8]):=aB
     generalize upd H13 td1 (.tup [V.str "refused",V.int 8])=H15 at g15 etd
     have kp8:=kp6.same g15
     have hx8:=hx6.same g15
     have hy8:=hy6.same g15
     have pst8:=pst6.keep (TK.same g15)
     walk_at"rd"
     refine⟨p,x,n,ps,.str "undo",.str "undo",rfl,kp8.ka,hx8,ho,.str _,⟨by decide +kernel,by decide +kernel⟩,λds z=>(by cases z),.none rfl e1 λr H16 s16 ir=>?_⟩
     have kpc:=kp8.same s16
     have hxc:=hx8.same s16
     have hyc:=hy8.same s16
     have pstc:=pst8.keep (TK.same s16)
     have itd:Is H16 (.ref td1) (dJ 8):=.tup (s16 _ _ etd) (.cons (.str _) (.cons (.int _) .nil))
     walk_at"rd"
     refine bV ir itd (fV _) (fV _) ?_
     rw[qI,decide_eq_true rfl]
     walk_at"rd"
     refine bQ rfl ?_
     walk_at"rd"
     refine bV itd (.int _) (fV _) ⟨rfl,Nat.zero_le _⟩ ?_
     rw[qH]
     walk_at"rd"
     refine bQ rfl ?_
     obtain⟨dk,ek⟩:=id kpc.ka
     walk_at"rd"
     refine⟨_,dk,_,rfl,ek,fD _ nk,?_⟩
     walk_at"rd"
     refine⟨_,_,rfl,kpc.ka,?_⟩
     walk_at"rd"
     refine⟨1,rfl,?_⟩
     refine cA kpc.ep (iH _ _) ?_
     refine bV hxc hyc (fB _ _) (fB _ _) ?_
     rw[kG,decide_eq_true ⟨rfl,rfl⟩]
     walk_at"rd"
     refine bQ rfl ?_
     exact⟨⟨_,_,_,_,_,_,_,_,_,rfl⟩,x,us++[V.ref oa],os,ps,kpc.lev (by lia),pstc,ch,by rw[hn];exact hlast,by rw[hn];exact hxc⟩
   ·walk_at"rd"
    refine bW (λg2=>?_) (λg2=>?_)
    ·have e8:n=8:=by
      have:(n:Int)=8:=by simpa using g2
      lia
     walk_at"rd"
     refine⟨by show 2<=sizeLine;decide,λtd1 htd=>?_⟩
     have g15:=Same.upd (o:=.tup [V.str "refused",V.int 7]) htd
     have etd:upd H13 td1 (.tup [V.str "refused",V.int 7]) td1=some (.tup [V.str "refused",V.int 7]):=aB
     generalize upd H13 td1 (.tup [V.str "refused",V.int 7])=H15 at g15 etd
     have kp8:=kp6.same g15
     have hx8:=hx6.same g15
     have hy8:=hy6.same g15
     have pst8:=pst6.keep (TK.same g15)
     walk_at"rd"
     refine⟨p,x,n,ps,.ref tt,cY ws,rfl,kp8.ka,hx8,ho,isT.same g15,oD,oT,.full zT tT e8 λr H16 s16 ir=>?_⟩
     have kpc:=kp8.same s16
     have hxc:=hx8.same s16
     have hyc:=hy8.same s16
     have pstc:=pst8.keep (TK.same s16)
     have itd:Is H16 (.ref td1) (dJ 7):=.tup (s16 _ _ etd) (.cons (.str _) (.cons (.int _) .nil))
     walk_at"rd"
     refine bV ir itd (fV _) (fV _) ?_
     rw[qI,decide_eq_true rfl]
     walk_at"rd"
     refine bQ rfl ?_
     walk_at"rd"
     refine bV itd (.int _) (fV _) ⟨rfl,Nat.zero_le _⟩ ?_
     rw[qH]
     walk_at"rd"
     refine bQ rfl ?_
     obtain⟨dk,ek⟩:=id kpc.ka
     walk_at"rd"
     refine⟨_,dk,_,rfl,ek,fD _ nk,?_⟩
     walk_at"rd"
     refine⟨_,_,rfl,kpc.ka,?_⟩
     walk_at"rd"
     refine⟨1,rfl,?_⟩
     refine cA kpc.ep (iH _ _) ?_
     refine bV hxc hyc (fB _ _) (fB _ _) ?_
     rw[kG,decide_eq_true ⟨rfl,rfl⟩]
     walk_at"rd"
     refine bQ rfl ?_
     exact⟨⟨_,_,_,_,_,_,_,_,_,rfl⟩,x,us++[V.ref oa],os,ps,kpc.lev (by lia),pstc,ch,by rw[hn];exact hlast,by rw[hn];exact hxc⟩
    ·have n7:n<=7:=by
      have:¬(n:Int)=8:=by simpa using g2
      lia
     obtain⟨iz,oz⟩:=hz n7
     walk_at"rd"
     refine⟨z,n+1,_,rfl,iz,oz,λlr vr H14 s14 nlr elr ilr=>?_⟩
     walk_at"rd"
     refine⟨Nat.zero_le _,λc1 hc1=>?_⟩
     have g15:=s14.trans (Same.upd (o:=.lst []) hc1)
     refine bV (.lst (.inl ((Same.upd hc1) _ _ elr)) (ilr.same (Same.upd hc1))) (.lst (.inl aB) .nil) (UC _ _) ⟨rfl,by decide⟩ ?_
     rw[ZD oz]
     generalize upd H14 c1 (.lst [])=H15 at g15
     have kp7:=kp6.same g15
     have hx7:=hx6.same g15
     have hy7:=hy6.same g15
     have pst7:=pst6.keep (TK.same g15)
     have iz7:=iz.same g15
     have isT7:=isT.same g15
     clear elr ilr hc1 s14
     cases hbz:cB (n+1) (bX n ps ws) with
     |true=>
      walk_at"rd"
      refine fK rfl ?_
      walk_at"rd"
      refine⟨by show 2<=sizeLine;decide,λtd1 htd=>?_⟩
      have g16:=Same.upd (o:=.tup [V.str "refused",V.int 6]) htd
      have etd:upd H15 td1 (.tup [V.str "refused",V.int 6]) td1=some (.tup [V.str "refused",V.int 6]):=aB
      generalize upd H15 td1 (.tup [V.str "refused",V.int 6])=H16 at g16 etd
      have kp8:=kp7.same g16
      have hx8:=hx7.same g16
      have hy8:=hy7.same g16
      have pst8:=pst7.keep (TK.same g16)
      walk_at"rd"
      refine⟨p,x,n,ps,.ref tt,cY ws,rfl,kp8.ka,hx8,ho,isT7.same g16,oD,oT,.bar zT ws rfl tl n7 hbz λr H17 s17 ir=>?_⟩
      have kpc:=kp8.same s17
      have hxc:=hx8.same s17
      have hyc:=hy8.same s17
      have pstc:=pst8.keep (TK.same s17)
      have itd:Is H17 (.ref td1) (dJ 6):=.tup (s17 _ _ etd) (.cons (.str _) (.cons (.int _) .nil))
      walk_at"rd"
      refine bV ir itd (fV _) (fV _) ?_
      rw[qI,decide_eq_true rfl]
      walk_at"rd"
      refine bQ rfl ?_
      walk_at"rd"
      refine bV itd (.int _) (fV _) ⟨rfl,Nat.zero_le _⟩ ?_
      rw[qH]
      walk_at"rd"
      refine bQ rfl ?_
      obtain⟨dk,ek⟩:=id kpc.ka
      walk_at"rd"
      refine⟨_,dk,_,rfl,ek,fD _ nk,?_⟩
      walk_at"rd"
      refine⟨_,_,rfl,kpc.ka,?_⟩
      walk_at"rd"
      refine⟨1,rfl,?_⟩
      refine cA kpc.ep (iH _ _) ?_
      refine bV hxc hyc (fB _ _) (fB _ _) ?_
      rw[kG,decide_eq_true ⟨rfl,rfl⟩]
      walk_at"rd"
      refine bQ rfl ?_
      exact⟨⟨_,_,_,_,_,_,_,_,_,rfl⟩,x,us++[V.ref oa],os,ps,kpc.lev (by lia),pstc,ch,by rw[hn];exact hlast,by rw[hn];exact hxc⟩
     |false=>
      walk_at"rd"
      refine bQ rfl ?_
      walk_at"rd"
      refine⟨p,x,n,ps,.ref tt,cY ws,rfl,kp7.ka,hx7,ho,isT7,oD,oT,.come zT ws rfl tl n7 hbz λx' H16 s16 k16 i16 o16=>?_⟩
      have tk16:=TK.k kp7.ka s16
      have kp8:=kp7.come s16 k16
      have pst8:=pst7.keep tk16
      have iz8:=cL tk16 iz7
      walk_at"rd"
      refine bQ (by rw[beq_self_eq_true];rfl) ?_
      walk_at"rd"
      refine fK (by rw[beq_self_eq_true]) ?_
      walk_at"rd"
      refine⟨eC kp8.ep,?_⟩
      walk_at"rd"
      refine gJ kp8.ep (gH (by lia)) ?_
      have kpc:=kp8.past ((us++[V.ref oa])++[z])
      have tk9:TK H16 (upd H16 lp (.lst ((us++[V.ref oa])++[z]))):=TK.t kp8.ep λc u e g=>by rw[aE g];exact e
      have hxc:=cL tk9 i16
      have hyc:=cL tk9 iz8
      have pst9:=(pst8.keep tk9).push (v:=z) (qs:=bX n ps ws) (by rw[hn];exact hyc)
      generalize upd H16 lp (.lst ((us++[V.ref oa])++[z]))=H17 at kpc hxc hyc pst9
      have hn9:(os++[bX n ps ws]).length=n+1:=by rw[length_append,hn];rfl
      obtain⟨dk,ek⟩:=id kpc.ka
      walk_at"rd"
      refine⟨_,dk,_,rfl,ek,fD _ nk,?_⟩
      walk_at"rd"
      refine⟨_,_,rfl,kpc.ka,?_⟩
      walk_at"rd"
      refine⟨1,rfl,?_⟩
      refine cA kpc.ep (iH _ _) ?_
      refine bV hxc hyc (fB _ _) (fB _ _) ?_
      rw[kG,decide_eq_true ⟨rfl,rfl⟩]
      walk_at"rd"
      refine bQ rfl ?_
      refine⟨⟨_,_,_,_,_,_,_,_,_,rfl⟩,x',_,os++[bX n ps ws],bX n ps ws,kpc.lev (by lia),pst9,ch.push hn hlast n7 hbz oz,?_,by rw[hn9];exact hxc⟩
      rw[hn9,List.getElem?_append_right (by lia),show n+1-1-os.length=0 by lia]
      rfl
  ·rintro σ H1 ⟨⟨v5,v8,v9,v10,v11,v12,v13,v14,v15,rfl⟩,x,zs,os,ps,kp,pst,ch,hlast,hx⟩
   obtain⟨n,hn⟩:∃n,os.length=n:=⟨_,rfl⟩
   rw[hn]at hlast hx
   have n1:1<=n:=by have:=ch.pos;lia
   have n8:n<=8:=by have:=ch.le;lia
   obtain⟨ho,hb⟩:=ch.ok _ _ hlast
   rw[show n-1+1=n by lia]at ho hb
   obtain⟨us,y,rfl,hy⟩:=pst.last hn n1 hlast
   obtain⟨sl,vals,sl1,sl4,hsl,hno,_⟩:=NL ho hb
   clear kp9 pst9 ixo9
   walk_at"rd"
   refine⟨λm σ H'=>∃f:Int,σ=[some (.ref a),some (.ref tw),some (.ref p),some (.ref q2),some (.ref lp),v5,some (.ref ll),some (.int (1+st)),v8,v9,v10,v11,v12,v13,v14,v15,some (.int f)]/\1<=f/\f<=sl/\m=(sl-f).toNat/\Same H1 H',⟨_,1,rfl,by lia,sl1,rfl,Same.refl _⟩,?_⟩
   rintro m σ H2 ⟨f,rfl,f1,f2,hm,s2⟩
   have ep2:=s2 _ _ kp.ep
   walk_at"rd"
   refine⟨1,rfl,?_⟩
   refine cA ep2 (iH _ _) ?_
   walk_at"rd"
   refine⟨y,n,ps,f,rfl,hy.same s2,n8,f1,by lia,λH3 s3=>?_⟩
   rw[IN n1]
   refine K9 λr nr=>?_
   walk_at"rd"
   by_cases g:f<sl
   ·rw[hno f f1 g]at nr
    obtain rfl:r=.non:=nr
    walk_at"rd"
    refine⟨λσ' H'=>∃m',m'<m/\∃f:Int,σ'=[some (.ref a),some (.ref tw),some (.ref p),some (.ref q2),some (.ref lp),v5,some (.ref ll),some (.int (1+st)),v8,v9,v10,v11,v12,v13,v14,v15,some (.int f)]/\1<=f/\f<=sl/\m'=(sl-f).toNat/\Same H1 H',λσ' H' h=>h,?_⟩
    walk_at"rd"
    exact⟨(sl-(f+1)).toNat,by lia,f+1,rfl,by lia,by lia,rfl,s2.trans s3⟩
   ·obtain rfl:f=sl:=by lia
    rw[hsl]at nr
    obtain⟨b,rfl,eb⟩:=nr
    have kp3:=(kp.same s2).same s3
    have hx3:=(hx.same s2).same s3
    have hy3:=(hy.same s2).same s3
    have nn:("numbers":Str)≠"kept":=by decide +kernel
    have nk:("order":Str)≠"kept":=by decide +kernel
    obtain⟨dk,ek⟩:=id kp3.ka
    walk_at"rd"
    refine⟨_,dk,_,rfl,ek,fD _ nn,?_⟩
    walk_at"rd"
    refine⟨p,x,n,ps,f,vals,rfl,kp3.ka,hx3,ho,hb,sl1,by lia,hsl,hno,λH4 pn rn s4 epn ern=>?_⟩
    have kp4:=kp3.same s4
    have hy4:=hy3.same s4
    walk_at"rd"
    refine⟨1,rfl,?_⟩
    refine cA kp4.ep (iH _ _) ?_
    walk_at"rd"
    refine⟨y,n,ps,f,rfl,hy4,n8,sl1,by lia,λH5 s5=>?_⟩
    rw[IN n1,hsl]
    refine K9 λr2 nr2=>?_
    obtain⟨b2,rfl,eb2⟩:=nr2
    walk_at"rd"
    refine⟨by show 2<=sizeLine;decide,λc6 hc6=>?_⟩
    have s6:=s5.trans (Same.upd (o:=.tup [V.int f,V.ref b2]) hc6)
    have eb6:=(Same.upd (o:=.tup [V.int f,V.ref b2]) hc6) _ _ eb2
    refine bV (.tup (s6 _ _ epn) (.cons (.int _) (.cons (.tup (s6 _ _ ern) (IsAll.ints _)) .nil))) (.tup aB (.cons (.int _) (.cons (.tup eb6 (IsAll.ints _)) .nil))) (HD _ _) (HD _ _) ?_
    rw[ZC]
    have kp6:=kp4.same s6
    generalize upd H5 c6 (.tup [V.int f,V.ref b2])=H6 at kp6
    refine⟨_,rfl,?_⟩
    refine fK rfl ?_
    obtain⟨d2,e2⟩:=id kp6.kb
    walk_at"rd"
    refine⟨_,d2,_,rfl,e2,fD _ nk,?_⟩
    walk_at"rd"
    refine⟨_,_,rfl,kp6.kb,?_⟩
    walk_at"rd"
    refine⟨Nat.zero_le _,λc7 hc7=>?_⟩
    have f7:=Same.upd (o:=.tup []) hc7
    have ec7:upd H6 c7 (.tup []) c7=some (.tup []):=aB
    generalize upd H6 c7 (.tup [])=H7 at f7 ec7
    walk_at"rd"
    refine⟨by show 2<=sizeLine;decide,λc8 hc8=>?_⟩
    have f8:=Same.upd (o:=.tup [V.int 1,V.ref c7]) hc8
    refine bV ((kp6.k2.same f7).same f8) (e:=aX 1 []) (.tup aB (.cons (.int _) (.cons (.tup (xs:=[]) (f8 _ _ ec7) .nil) .nil))) (fB _ _) (fB _ _) ?_
    rw[kG,decide_eq_true ⟨rfl,rfl⟩]
    exact q _
end
theorem UR{P:List Value->Prop}(h:P [])(us:List Value)(e:us.length=0):P us:=by
 cases us with
 |nil=>exact h
 |cons a us=>cases e
theorem dO{P:List Value->Prop}(h:∀a,P [a])(us:List Value)(e:us.length=1):P us:=by
 cases us with
 |nil=>cases e
 |cons a us=>exact UR (P:=λus=>P (a::us)) (h a) us (Nat.succ.inj e)
theorem c9{P:List Value->Prop}(h:∀a b,P [a,b])(us:List Value)(e:us.length=2):P us:=by
 cases us with
 |nil=>cases e
 |cons a us=>exact dO (P:=λus=>P (a::us)) (h a) us (Nat.succ.inj e)
theorem j7{P:List Value->Prop}(h:∀a b c,P [a,b,c])(us:List Value)(e:us.length=3):P us:=by
 cases us with
 |nil=>cases e
 |cons a us=>exact c9 (P:=λus=>P (a::us)) (h a) us (Nat.succ.inj e)
theorem HR{P:List Value->Prop}(h:∀a b c d,P [a,b,c,d])(us:List Value)(e:us.length=4):P us:=by
 cases us with
 |nil=>cases e
 |cons a us=>exact j7 (P:=λus=>P (a::us)) (h a) us (Nat.succ.inj e)
theorem wY{P:List Value->Prop}(h:∀a b c d f,P [a,b,c,d,f])(us:List Value)(e:us.length=5):P us:=by
 cases us with
 |nil=>cases e
 |cons a us=>exact HR (P:=λus=>P (a::us)) (h a) us (Nat.succ.inj e)
theorem bO{K:PySem.W.Frag}{h:Heap}{mg:Str->Option Value}(X:K.In h)(G:h.Ns mainGlobals mg){f:Str}{st:Stmt}{ps:List Str}{a:Addr}{od an:Option Addr}{sl:Array (Option Value)}{oc kV dc pm cd ct:Value}
  (hb:∀(kV doc pm:Value)(an:Option Addr)(cdv ct:Value)(us:List Value),us.length=ps.length->bindArgs (PySem.W.fnOf f f (iC st) (fN st) (aJ st) .none kV doc pm an cdv ct) ⟨us,[]⟩=pure (ps.zip us))
  (e:PySem.W.nsIn K mainGlobals f=some (some (.ref a))) (l:K.lookup a=some ⟨oc,od,.func (PySem.W.fnOf f f (iC st) (fN st) (aJ st) .none kV dc pm an cd ct),sl⟩) (c:PySem.W.codeIn K cd f=true) (k:PySem.W.keepIn K (.ref a)=true):
  ∃a d,mg f=some (.ref a)/\Fun K f f st a d/\Binds K d ps []:=by
 have F:=yS (st:=st) l c k
 exact⟨a,_,PySem.W.mg_of X G e,F,F.binds hb⟩
theorem pH{K:PySem.W.Frag}{C:Addr}{f g:Str}{st:Stmt}{ps:List Str}{a:Addr}{od an:Option Addr}{sl:Array (Option Value)}{oc kV dc pm cd ct:Value}
  (hb:∀(kV doc pm:Value)(an:Option Addr)(cdv ct:Value)(us:List Value),us.length=ps.length->bindArgs (PySem.W.fnOf f g (iC st) (fN st) (aJ st) .none kV doc pm an cdv ct) ⟨us,[]⟩=pure (ps.zip us))
  (e:PySem.W.findIn K (.ref C) f=some (some (.ref a))) (i:PySem.W.isFn K (.ref a)=true) (l:K.lookup a=some ⟨oc,od,.func (PySem.W.fnOf f g (iC st) (fN st) (aJ st) .none kV dc pm an cd ct),sl⟩) (c:PySem.W.codeIn K cd g=true) (k:PySem.W.keepIn K (.ref a)=true):
  ∃a d,Fun K f g st a d/\Binds K d ps []/\gE K C f a:=by
 have F:=yS (st:=st) l c k
 exact⟨a,_,F,F.binds hb,e,i,k⟩
theorem VA{K:PySem.W.Frag}{C:Addr}{g:Str}{st:Stmt}{ps:List Str}{a:Addr}{od an:Option Addr}{sl:Array (Option Value)}{oc kV dc pm cd ct:Value}
  (hb:∀(kV doc pm:Value)(an:Option Addr)(cdv ct:Value)(us:List Value),us.length=ps.length->bindArgs (PySem.W.fnOf "__init__" g (iC st) (fN st) (aJ st) .none kV doc pm an cdv ct) ⟨us,[]⟩=pure (ps.zip us))
  (e:PySem.W.findIn K (.ref C) "__init__"=some (some (.ref a))) (i:PySem.W.isFn K (.ref a)=true) (l:K.lookup a=some ⟨oc,od,.func (PySem.W.fnOf "__init__" g (iC st) (fN st) (aJ st) .none kV dc pm an cd ct),sl⟩) (c:PySem.W.codeIn K cd g=true) (k:PySem.W.keepIn K (.ref a)=true)
  (mk:PySem.W.makesIn K C=true) (kc:PySem.W.keepIn K (.ref C)=true):
  ∃a d,Fun K "__init__" g st a d/\Binds K d ps []/\Mk K C a:=by
 have F:=yS (st:=st) l c k
 exact⟨a,_,F,F.binds hb,mk,e,i,kc⟩
theorem eW{K:PySem.W.Frag}{h:Heap}{mg:Str->Option Value}(X:K.In h)(G:h.Ns mainGlobals mg){f:Str}(e:PySem.W.nsIn K mainGlobals f=some none):mg f=none:=PySem.W.mg_none_of X G e
theorem gL{K:PySem.W.Frag}{h:Heap}{mg:Str->Option Value}(X:K.In h)(G:h.Ns mainGlobals mg){f:Str}{C:Addr}(e:PySem.W.nsIn K mainGlobals f=some (some (.ref C))):mg f=some (.ref C):=PySem.W.mg_of X G e
theorem IA{K:PySem.W.Frag}{h:Heap}{mg:Str->Option Value}(X:K.In h)(G:h.Ns mainGlobals mg){f:Str}{n:Int}{tk:Tok}(e:PySem.W.nsIn K mainGlobals f=some (some (.int n tk))):∃tk,mg f=some (.int n tk):=⟨tk,PySem.W.mg_of X G e⟩
theorem mkS{K:PySem.W.Frag}{h:Heap}{mg:Str->Option Value}(X:K.In h)(G:h.Ns mainGlobals mg){f z:Str}{tk:Tok}(e:PySem.W.nsIn K mainGlobals f=some (some (.str z tk))):∃tk,mg f=some (.str z tk):=⟨tk,PySem.W.mg_of X G e⟩
theorem U9{K:PySem.W.Frag}{h:Heap}{mg:Str->Option Value}(X:K.In h)(G:h.Ns mainGlobals mg){f:Str}{c:Addr}{od:Option Addr}{n:Nat}{its:Array Value}{sl:Array (Option Value)}{xs:List V}(e:PySem.W.nsIn K mainGlobals f=some (some (.ref c)))(l:K.lookup c=some ⟨.type "tuple",od,.seq its n,sl⟩)(z:its.size<=sizeLine)(v:Vals xs its.toList):
  ∃c,mg f=some (.ref c)/\∀H:Hp,SqT K H c xs:=⟨c,PySem.W.mg_of X G e,λH=>.inr ⟨_,its,n,l,rfl,rfl,z,v⟩⟩
theorem W9{K:PySem.W.Frag}{a:Addr}{fd:FuncData}(F:Fun K "law" "law" oE a fd)(s:Shared)(v:Value):BindsTo s fd ⟨[v],[]⟩ [("_law_script",v)]:=by
 obtain⟨oc,od,kV,doc,pm,an,cdv,ct,osl,rfl,lk,hcd⟩:=F.ex
 exact .of_eq rfl
theorem MY{l:PySem.W.OpenLaw}{q:Program}{loose:List Str}{XP:(Str->Option Value)->Heap->Prop}{YP:World->Heap->Prop}{d:DefRec}{K:Params->PySem.W.Frag}(hn:l.most=some 63)(hdf:d.params.defaults=[])
  (hY:∀(w:World)(h:Heap),YP w h->(K w.params).In h)
  (F:∀(w:World)(mg:Str->Option Value)(fa:Addr)(h:Heap),(K w.params).In h->h.Ns mainGlobals mg->mg d.name=some (.ref fa)->
   ∃fd:FuncData,(∀(s:Shared)(u:Value),BindsTo s fd ⟨[u],[]⟩ [("_law_script",u)])/\∀base:Heap,(K w.params).In base->base.Ns mainGlobals mg->FnOk l.prog w (K w.params) mg base aU 11 fa fd ["_law_script"] (oB (K w.params))):
  PySem.W.WalkO q loose XP YP l.row.toRowW d [] (λf vs=>PySem.call f vs):=
 L2.MX (n:=63) (k:=11) (x:="_law_script") (CX:=λ_=>aU) (sp:=λw=>oB (K w.params)) hn (by decide) hdf ⟨rfl,by decide,by decide⟩ hY F (λ_ _ a ns _ hO hS=>⟨a,ns,rfl,Scr.of hO hS,λ_=>rfl⟩) λ_ _ _ _ _ z=>z
noncomputable abbrev LC(K:PySem.W.Frag)(mg:Str->Option Value):Prop:=(∃a d,mg "is_whole"=some (PySem.Value.ref a)/\L2.Fun K "is_whole" "is_whole" My.tH a d/\L2.Binds K d ["value","low","high"] [])/\(∃a d,mg "is_thing"=some (PySem.Value.ref a)/\L2.Fun K "is_thing" "is_thing" My.tI a d/\L2.Binds K d ["value","many"] [])/\(∃a d,mg "is_pair"=some (PySem.Value.ref a)/\L2.Fun K "is_pair" "is_pair" My.tM a d/\L2.Binds K d ["value","many"] [])/\(∃a d,mg "is_rising"=some (PySem.Value.ref a)/\L2.Fun K "is_rising" "is_rising" My.tL a d/\L2.Binds K d ["pairs"] [])/\(∃a d,mg "is_order"=some (PySem.Value.ref a)/\L2.Fun K "is_order" "is_order" My.tN a d/\L2.Binds K d ["value"] [])/\(∃a d,mg "is_step"=some (PySem.Value.ref a)/\L2.Fun K "is_step" "is_step" My.tK a d/\L2.Binds K d ["value"] [])/\(∃a d,mg "is_telling"=some (PySem.Value.ref a)/\L2.Fun K "is_telling" "is_telling" My.tJ a d/\L2.Binds K d ["value","many"] [])/\(∃a d,mg "need_order"=some (PySem.Value.ref a)/\L2.Fun K "need_order" "need_order" My.tE a d/\L2.Binds K d ["value"] [])/\(∃a d,mg "need_step"=some (PySem.Value.ref a)/\L2.Fun K "need_step" "need_step" My.tD a d/\L2.Binds K d ["value"] [])/\(∃a d,mg "need_thing"=some (PySem.Value.ref a)/\L2.Fun K "need_thing" "need_thing" My.sY a d/\L2.Binds K d ["value","many"] [])/\(∃a d,mg "need_telling"=some (PySem.Value.ref a)/\L2.Fun K "need_telling" "need_telling" My.sZ a d/\L2.Binds K d ["value","many"] [])/\(∃a d,mg "bars_as_two"=some (PySem.Value.ref a)/\L2.Fun K "bars_as_two" "bars_as_two" My.tR a d/\L2.Binds K d ["pairs","a","b","c","d"] [])/\(∃a d,mg "bars_as_three"=some (PySem.Value.ref a)/\L2.Fun K "bars_as_three" "bars_as_three" My.tS a d/\L2.Binds K d ["pairs","a","b","c","d"] [])/\(∃a d,mg "first_two"=some (PySem.Value.ref a)/\L2.Fun K "first_two" "first_two" My.tO a d/\L2.Binds K d ["pairs"] [])/\(∃a d,mg "first_three"=some (PySem.Value.ref a)/\L2.Fun K "first_three" "first_three" My.tP a d/\L2.Binds K d ["many","pairs"] [])/\(∃a d,mg "bar"=some (PySem.Value.ref a)/\L2.Fun K "bar" "bar" My.tU a d/\L2.Binds K d ["order"] [])/\(∃a d,mg "need_unbarred"=some (PySem.Value.ref a)/\L2.Fun K "need_unbarred" "need_unbarred" My.sX a d/\L2.Binds K d ["order"] [])/\(∃a d,mg "number_without"=some (PySem.Value.ref a)/\L2.Fun K "number_without" "number_without" My.sW a d/\L2.Binds K d ["thing","left_out"] [])/\(∃a d,mg "without"=some (PySem.Value.ref a)/\L2.Fun K "without" "without" My.sQ a d/\L2.Binds K d ["order","thing"] [])/\(∃a d,mg "demand"=some (PySem.Value.ref a)/\L2.Fun K "demand" "demand" My.tQ a d/\L2.Binds K d ["pairs","step","one","other"] [])/\(∃a d,mg "all_demands"=some (PySem.Value.ref a)/\L2.Fun K "all_demands" "all_demands" My.tV a d/\L2.Binds K d ["order","step"] [])/\(∃a d,mg "raise_once"=some (PySem.Value.ref a)/\L2.Fun K "raise_once" "raise_once" My.sS a d/\L2.Binds K d ["demands","values","origins"] [])/\(∃a d,mg "raise_all"=some (PySem.Value.ref a)/\L2.Fun K "raise_all" "raise_all" My.sU a d/\L2.Binds K d ["demands","values","origins"] [])/\(∃a d,mg "least_values"=some (PySem.Value.ref a)/\L2.Fun K "least_values" "least_values" My.tF a d/\L2.Binds K d ["many","demands"] [])/\(∃a d,mg "numbers"=some (PySem.Value.ref a)/\L2.Fun K "numbers" "numbers" My.sV a d/\L2.Binds K d ["order","step"] [])/\(∃a d,mg "least"=some (PySem.Value.ref a)/\L2.Fun K "least" "least" My.tG a d/\L2.Binds K d ["order"] [])/\(∃a d,mg "with_newest"=some (PySem.Value.ref a)/\L2.Fun K "with_newest" "with_newest" My.sR a d/\L2.Binds K d ["order","telling"] [])/\(∃a d,mg "_law_cell_at"=some (PySem.Value.ref a)/\L2.Fun K "_law_cell_at" "_law_cell_at" My.uE a d/\L2.Binds K d ["_law_script","_law_k"] [])/\(∃a d,mg "_law_mixed"=some (PySem.Value.ref a)/\L2.Fun K "_law_mixed" "_law_mixed" My.uA a d/\L2.Binds K d ["_law_script","_law_k","_law_many"] [])/\(∃a d,mg "_law_draw"=some (PySem.Value.ref a)/\L2.Fun K "_law_draw" "_law_draw" My.uC a d/\L2.Binds K d ["_law_script","_law_town","_law_many"] [])/\(∃a d,mg "_law_pick"=some (PySem.Value.ref a)/\L2.Fun K "_law_pick" "_law_pick" My.tZ a d/\L2.Binds K d ["_law_script","_law_town","_law_some"] [])/\(∃a d,mg "_law_bars"=some (PySem.Value.ref a)/\L2.Fun K "_law_bars" "_law_bars" My.uF a d/\L2.Binds K d ["_law_order"] [])/\(∃a d,mg "_law_least"=some (PySem.Value.ref a)/\L2.Fun K "_law_least" "_law_least" My.uB a d/\L2.Binds K d ["_law_order","_law_step"] [])/\(∃a d,mg "_law_which"=some (PySem.Value.ref a)/\L2.Fun K "_law_which" "_law_which" My.tY a d/\L2.Binds K d ["_law_e"] [])/\(∃a d,mg "_law_do"=some (PySem.Value.ref a)/\L2.Fun K "_law_do" "_law_do" My.uD a d/\L2.Binds K d ["_law_keeper","_law_telling"] [])/\(∃a d,mg "_law_words"=some (PySem.Value.ref a)/\L2.Fun K "_law_words" "_law_words" My.tW a d/\L2.Binds K d ["_law_script","_law_town","_law_many","_law_longs","_law_step"] [])/\(∃a d,mg "_law_with"=some (PySem.Value.ref a)/\L2.Fun K "_law_with" "_law_with" My.tX a d/\L2.Binds K d ["_law_past","_law_words_here"] [])/\(∃a d,mg "law"=some (PySem.Value.ref a)/\L2.Fun K "law" "law" My.oE a d/\L2.Binds K d ["_law_script"] [])/\(∃c,mg "Keeper"=some (PySem.Value.ref c)/\L2.Cls K c/\L2.NoAttr K c "kept"/\(∃a d,L2.Fun K "__init__" "Keeper.__init__" My.uJ a d/\L2.Binds K d ["self"] []/\L2.Mk K c a)/\(∃a d,L2.Fun K "order" "Keeper.order" My.uH a d/\L2.Binds K d ["self"] []/\L2.gE K c "order" a)/\(∃a d,L2.Fun K "come" "Keeper.come" My.uK a d/\L2.Binds K d ["self","telling"] []/\L2.gE K c "come" a)/\(∃a d,L2.Fun K "numbers" "Keeper.numbers" My.uI a d/\L2.Binds K d ["self"] []/\L2.gE K c "numbers" a)/\(∃a d,L2.Fun K "undo" "Keeper.undo" My.uG a d/\L2.Binds K d ["self"] []/\L2.gE K c "undo" a))/\(mg "ValueError"=none)/\(mg "abs"=none)/\(mg "all"=none)/\(mg "bool"=none)/\(mg "dict"=none)/\(mg "enumerate"=none)/\(mg "int"=none)/\(mg "isinstance"=none)/\(mg "len"=none)/\(mg "list"=none)/\(mg "max"=none)/\(mg "range"=none)/\(mg "sorted"=none)/\(mg "str"=none)/\(mg "tuple"=none)/\(∃bJ bN dZ dY dX dW bI dU bM eL:PySem.Addr,My.XF K mg bJ bN dZ dY dX dW bI dU bM eL)/\(∃tk,mg "MOST_STEP"=some (PySem.Value.int 999 tk))/\(∃tk,mg "MOST_THINGS"=some (PySem.Value.int 8 tk))/\(∃c:PySem.Addr,mg "TELLING_WORDS"=some (PySem.Value.ref c)/\∀H:L2.Hp,L2.SqT K H c [L2.V.str "less",L2.V.str "more",L2.V.str "beside"])
theorem M9{K:PySem.W.Frag}{mg:Str->Option Value}(TS:LC K mg):∃t:Ad,aR K mg t:=by
 obtain⟨⟨a0,d0,m0,F0,b0⟩,⟨a1,d1,m1,F1,b1⟩,⟨a2,d2,m2,F2,b2⟩,⟨a3,d3,m3,F3,b3⟩,⟨a4,d4,m4,F4,b4⟩,⟨a5,d5,m5,F5,b5⟩,⟨a6,d6,m6,F6,b6⟩,⟨a7,d7,m7,F7,b7⟩,⟨a8,d8,m8,F8,b8⟩,⟨a9,d9,m9,F9,b9⟩,⟨a10,d10,m10,F10,b10⟩,⟨a11,d11,m11,F11,b11⟩,⟨a12,d12,m12,F12,b12⟩,⟨a13,d13,m13,F13,b13⟩,⟨a14,d14,m14,F14,b14⟩,⟨a15,d15,m15,F15,b15⟩,⟨a16,d16,m16,F16,b16⟩,⟨a17,d17,m17,F17,b17⟩,⟨a18,d18,m18,F18,b18⟩,⟨a19,d19,m19,F19,b19⟩,⟨a20,d20,m20,F20,b20⟩,⟨a21,d21,m21,F21,b21⟩,⟨a22,d22,m22,F22,b22⟩,⟨a23,d23,m23,F23,b23⟩,⟨a24,d24,m24,F24,b24⟩,⟨a25,d25,m25,F25,b25⟩,⟨a26,d26,m26,F26,b26⟩,⟨a27,d27,m27,F27,b27⟩,⟨a28,d28,m28,F28,b28⟩,⟨a29,d29,m29,F29,b29⟩,⟨a30,d30,m30,F30,b30⟩,⟨a31,d31,m31,F31,b31⟩,⟨a32,d32,m32,F32,b32⟩,⟨a33,d33,m33,F33,b33⟩,⟨a34,d34,m34,F34,b34⟩,⟨a35,d35,m35,F35,b35⟩,⟨a36,d36,m36,F36,b36⟩,⟨a37,d37,m37,F37,b37⟩,⟨kC_Keeper,kG_Keeper,kL_Keeper,kN_Keeper_kept,⟨ka_Keeper_init,kd_Keeper_init,kF_Keeper_init,kb_Keeper_init,kM_Keeper_init⟩,⟨ka_Keeper_order,kd_Keeper_order,kF_Keeper_order,kb_Keeper_order,kM_Keeper_order⟩,⟨ka_Keeper_come,kd_Keeper_come,kF_Keeper_come,kb_Keeper_come,kM_Keeper_come⟩,⟨ka_Keeper_numbers,kd_Keeper_numbers,kF_Keeper_numbers,kb_Keeper_numbers,kM_Keeper_numbers⟩,⟨ka_Keeper_undo,kd_Keeper_undo,kF_Keeper_undo,kb_Keeper_undo,kM_Keeper_undo⟩⟩,N0,N1,N2,N3,N4,N5,N6,N7,N8,N9,N10,N11,N12,N13,N14,⟨bJ,bN,dZ,dY,dX,dW,bI,dU,bM,eL,X⟩,C0,C1,⟨w0,W0,V0⟩⟩:=TS
 exact⟨⟨a0,d0,a1,d1,a2,d2,a3,d3,a4,d4,a5,d5,a6,d6,a7,d7,a8,d8,a9,d9,a10,d10,a11,d11,a12,d12,a13,d13,a14,d14,a15,d15,a16,d16,a17,d17,a18,d18,a19,d19,a20,d20,a21,d21,a22,d22,a23,d23,a24,d24,a25,d25,a26,d26,ka_Keeper_init,kd_Keeper_init,ka_Keeper_order,kd_Keeper_order,ka_Keeper_come,kd_Keeper_come,ka_Keeper_numbers,kd_Keeper_numbers,ka_Keeper_undo,kd_Keeper_undo,a27,d27,a28,d28,a29,d29,a30,d30,a31,d31,a32,d32,a33,d33,a34,d34,a35,d35,a36,d36,a37,d37,bJ,bN,dZ,dY,dX,dW,bI,dU,bM,eL,w0,kC_Keeper⟩,⟨m0,F0,b0,m1,F1,b1,m2,F2,b2,m3,F3,b3,m4,F4,b4,m5,F5,b5,m6,F6,b6,m7,F7,b7,m8,F8,b8,m9,F9,b9,m10,F10,b10,m11,F11,b11,m12,F12,b12,m13,F13,b13,m14,F14,b14,m15,F15,b15,m16,F16,b16,m17,F17,b17,m18,F18,b18,m19,F19,b19,m20,F20,b20,m21,F21,b21,m22,F22,b22,m23,F23,b23,m24,F24,b24,m25,F25,b25,m26,F26,b26,kF_Keeper_init,kb_Keeper_init,kM_Keeper_init,kF_Keeper_order,kb_Keeper_order,kM_Keeper_order,kF_Keeper_come,kb_Keeper_come,kM_Keeper_come,kF_Keeper_numbers,kb_Keeper_numbers,kM_Keeper_numbers,kF_Keeper_undo,kb_Keeper_undo,kM_Keeper_undo,m27,F27,b27,m28,F28,b28,m29,F29,b29,m30,F30,b30,m31,F31,b31,m32,F32,b32,m33,F33,b33,m34,F34,b34,m35,F35,b35,m36,F36,b36,m37,F37,b37,kG_Keeper,kL_Keeper,kN_Keeper_kept,N0,N1,N2,N3,N4,N5,N6,N7,N8,N9,N10,N11,N12,N13,N14,X.qB,X.qT,X.rS,X.rL,X.wD,X.wC,X.wB,X.wA,X.v0,X.vZ,X.vY,X.vX,X.qA,X.qS,X.rR,X.rK,X.vW,X.vV,X.vU,X.vT,X.vS,X.vR,X.vQ,X.vP,X.yP,X.yO,X.yN,X.yM,X.p9,X.qR,X.rQ,X.rJ,X.vO,X.vN,X.vM,X.vL,X.vK,X.vJ,X.vI,X.vH,X.yL,X.p8,X.qQ,X.rP,X.rH,X.vG,X.vF,X.vE,X.vD,X.vC,X.vB,X.vA,X.u3,X.yK,C0,C1,W0,V0⟩⟩
end My
open PySem PySem.W PyProof.Rows
def PySem.W.Fast.tw12764325411412381655:Nat:=0
def PySem.W.Fast.tw14026520712804169841:Nat:=0
def PySem.W.Fast.tw10678329228018286689:Nat:=0
def PySem.W.Fast.tw16336241566307394299:Nat:=0
def PySem.W.Fast.tw4849177783438000268:Nat:=0
def PySem.W.Fast.tw11784096581789427274:Nat:=0
def PySem.W.Fast.tw6766124975814643740:Nat:=0
def PySem.W.Fast.tw2636897945274922210:Nat:=0
def PySem.W.Fast.tw11402369101202938298:Nat:=0
def PySem.W.Fast.tw7569344569026524738:Nat:=0
def PySem.W.Fast.tw13800930450800292186:Nat:=0
def PySem.W.Fast.tw11927798214891285482:Nat:=0
def PySem.W.Fast.tw10346576409864087491:Nat:=0
def PySem.W.Fast.tw6677250347019935055:Nat:=0
def PySem.W.Fast.tw8801985211414154125:Nat:=0
def PySem.W.Fast.tw6893737090887249179:Nat:=0
def PySem.W.Fast.tw8179035221848648305:Nat:=0
def PySem.W.Fast.tw13461710098700921703:Nat:=0
def PySem.W.Fast.tw11759457334656533388:Nat:=0
def PySem.W.Fast.tw13878474276180502832:Nat:=0
def PySem.W.Fast.tw1805627557938729399:Nat:=0
def PySem.W.Fast.tw11649610686816740237:Nat:=0
def PySem.W.Fast.tw11092832787095716455:Nat:=0
def PySem.W.Fast.tw12568997226537643969:Nat:=0
def PySem.W.Fast.tw17233795892569271717:Nat:=0
def PySem.W.Fast.tw8931669161265668643:Nat:=0
def PySem.W.Fast.tw13840121762469603654:Nat:=0
def PySem.W.Fast.tw9473769492689310627:Nat:=0
def PySem.W.Fast.tw10167507142120072203:Nat:=0
def PySem.W.Fast.tw14881374531540199833:Nat:=0
def PySem.W.Fast.tw12403611862002802780:Nat:=0
def PySem.W.Fast.tw16184144731977558351:Nat:=0
def PySem.W.Fast.tw7164673356915850987:Nat:=0
def PySem.W.Fast.tw7686674366631179528:Nat:=0
def PySem.W.Fast.tw7990448345800269605:Nat:=0
def PySem.W.Fast.tw15223324350317926950:Nat:=0
def PySem.W.Fast.tw17633095977971805924:Nat:=0
def PySem.W.Fast.tw7794710231564674705:Nat:=0
def PySem.W.Fast.tw17540188735107651213:Nat:=0
def PySem.W.Fast.tw5010221462205473185:Nat:=0
def PySem.W.Fast.tw3734565505398413934:Nat:=0
def PySem.W.Fast.tw10223025437167358265:Nat:=0
def PySem.W.Fast.tw3284577611647983842:Nat:=0
def PySem.W.Fast.tw3241922332420722458:Nat:=0
def PySem.W.Fast.tw13015229363479729796:Nat:=0
def PySem.W.Fast.tw2764058606649995773:Nat:=0
def PySem.W.Fast.tw13645775019367457358:Nat:=0
def PySem.W.Fast.tw15874387111747940142:Nat:=0
def PySem.W.Fast.tw285978223727684278:Nat:=0
def PySem.W.Fast.tw14017978199185387502:Nat:=0
def PySem.W.Fast.tw17175658477136238731:Nat:=0
def PySem.W.Fast.tw3713131463489606835:Nat:=0
def PySem.W.Fast.tw16300333626047595308:Nat:=0
def PySem.W.Fast.tw17562987604409116435:Nat:=0
def PySem.W.Fast.tw4044277198821536859:Nat:=0
def PySem.W.Fast.tw6303421234505386157:Nat:=0
def PySem.W.Fast.tw12850693013746687620:Nat:=0
def PySem.W.Fast.tw6424362213163388556:Nat:=0
def PySem.W.Fast.tw16027300590849374638:Nat:=0
def PySem.W.Fast.tw3912981381603035758:Nat:=0
def PySem.W.Fast.tw16835415319516504949:Nat:=0
def PySem.W.Fast.tw17843351161820279112:Nat:=0
def PySem.W.Fast.tw12060391828975279304:Nat:=0
def PySem.W.Fast.tw879008979674035636:Nat:=0
def PySem.W.Fast.tw1516757543593970705:Nat:=0
def PySem.W.Fast.tw5924840245474775074:Nat:=0
def PySem.W.Fast.tw9293724629797549947:Nat:=0
def PySem.W.Fast.tw9613387700950166291:Nat:=0
def PySem.W.Fast.tw16573001053134200414:Nat:=0
def PySem.W.Fast.tw4130296451781135966:Nat:=0
def PySem.W.Fast.tw4784785012644607600:Nat:=0
def PySem.W.Fast.tw9083841956292580300:Nat:=0
def PySem.W.Fast.tw17221736557358252482:Nat:=0
def PySem.W.Fast.tw14000273136519532110:Nat:=0
def PySem.W.Fast.tw10085389433447773865:Nat:=0
def PySem.W.Fast.tw1249641892919904479:Nat:=0
def PySem.W.Fast.tw7712008499060706027:Nat:=0
def PySem.W.Fast.tw16019139272304944962:Nat:=0
def PySem.W.Fast.tw6909987629001231418:Nat:=0
def PySem.W.Fast.tw10534019509907704428:Nat:=0
def PySem.W.Fast.tw1979872942686930100:Nat:=0
def PySem.W.Fast.tw12236728791477721533:Nat:=0
def PySem.W.Fast.tw3579041537748179109:Nat:=0
def PySem.W.Fast.tw15533102779136569074:Nat:=0
def PySem.W.Fast.tw17022617591607116604:Nat:=0
def PySem.W.Fast.tw15897474766409424685:Nat:=0
set_option maxRecDepth 100000 in
set_option maxHeartbeats 0 in
theorem PySem.Challenge.cw_noticed_k08_whole_keepers_holds : PySem.Challenge.rw_noticed_k08_whole_keepers.Holds := by
 w_on;o_law;k_head;(case hw=>w_witness2)
 k_fill
 refine My.MY (l:=PySem.Challenge.rw_noticed_k08_whole_keepers) rfl rfl (λw h Y=>PySem.W.kIn_of Y) ?F
 case F=>
  intro w mg fa h KX G hmg
  have TS:My.LC (L2.bG KX) mg:=by
   refine'⟨?t0,?t1,?t2,?t3,?t4,?t5,?t6,?t7,?t8,?t9,?t10,?t11,?t12,?t13,?t14,?t15,?t16,?t17,?t18,?t19,?t20,?t21,?t22,?t23,?t24,?t25,?t26,?t27,?t28,?t29,?t30,?t31,?t32,?t33,?t34,?t35,?t36,?t37,?t38,?t39,?t40,?t41,?t42,?t43,?t44,?t45,?t46,?t47,?t48,?t49,?t50,?t51,?t52,?t53,?t54,?t55,?t56,?t57⟩
   case t0=>
    dsimp only[L2.bG]
    refine' My.bO KX G ?hb ?e ?l ?c ?k
    (case hb=>exact λ_ _ _ _ _ _=>My.j7 (λ_ _ _=>rfl))
    (case e=>k_is);(case l=>k_is);(case c=>k_is);(case k=>k_is)
   case t1=>
    dsimp only[L2.bG]
    refine' My.bO KX G ?hb ?e ?l ?c ?k
    (case hb=>exact λ_ _ _ _ _ _=>My.c9 (λ_ _=>rfl))
    (case e=>k_is);(case l=>k_is);(case c=>k_is);(case k=>k_is)
   case t2=>
    dsimp only[L2.bG]
    refine' My.bO KX G ?hb ?e ?l ?c ?k
    (case hb=>exact λ_ _ _ _ _ _=>My.c9 (λ_ _=>rfl))
    (case e=>k_is);(case l=>k_is);(case c=>k_is);(case k=>k_is)
   case t3=>
    dsimp only[L2.bG]
    refine' My.bO KX G ?hb ?e ?l ?c ?k
    (case hb=>exact λ_ _ _ _ _ _=>My.dO (λ_=>rfl))
    (case e=>k_is);(case l=>k_is);(case c=>k_is);(case k=>k_is)
   case t4=>
    dsimp only[L2.bG]
    refine' My.bO KX G ?hb ?e ?l ?c ?k
    (case hb=>exact λ_ _ _ _ _ _=>My.dO (λ_=>rfl))
    (case e=>k_is);(case l=>k_is);(case c=>k_is);(case k=>k_is)
   case t5=>
    dsimp only[L2.bG]
    refine' My.bO KX G ?hb ?e ?l ?c ?k
    (case hb=>exact λ_ _ _ _ _ _=>My.dO (λ_=>rfl))
    (case e=>k_is);(case l=>k_is);(case c=>k_is);(case k=>k_is)
   case t6=>
    dsimp only[L2.bG]
    refine' My.bO KX G ?hb ?e ?l ?c ?k
    (case hb=>exact λ_ _ _ _ _ _=>My.c9 (λ_ _=>rfl))
    (case e=>k_is);(case l=>k_is);(case c=>k_is);(case k=>k_is)
   case t7=>
    dsimp only[L2.bG]
    refine' My.bO KX G ?hb ?e ?l ?c ?k
    (case hb=>exact λ_ _ _ _ _ _=>My.dO (λ_=>rfl))
    (case e=>k_is);(case l=>k_is);(case c=>k_is);(case k=>k_is)
   case t8=>
    dsimp only[L2.bG]
    refine' My.bO KX G ?hb ?e ?l ?c ?k
    (case hb=>exact λ_ _ _ _ _ _=>My.dO (λ_=>rfl))
    (case e=>k_is);(case l=>k_is);(case c=>k_is);(case k=>k_is)
   case t9=>
    dsimp only[L2.bG]
    refine' My.bO KX G ?hb ?e ?l ?c ?k
    (case hb=>exact λ_ _ _ _ _ _=>My.c9 (λ_ _=>rfl))
    (case e=>k_is);(case l=>k_is);(case c=>k_is);(case k=>k_is)
   case t10=>
    dsimp only[L2.bG]
    refine' My.bO KX G ?hb ?e ?l ?c ?k
    (case hb=>exact λ_ _ _ _ _ _=>My.c9 (λ_ _=>rfl))
    (case e=>k_is);(case l=>k_is);(case c=>k_is);(case k=>k_is)
   case t11=>
    dsimp only[L2.bG]
    refine' My.bO KX G ?hb ?e ?l ?c ?k
    (case hb=>exact λ_ _ _ _ _ _=>My.wY (λ_ _ _ _ _=>rfl))
    (case e=>k_is);(case l=>k_is);(case c=>k_is);(case k=>k_is)
   case t12=>
    dsimp only[L2.bG]
    refine' My.bO KX G ?hb ?e ?l ?c ?k
    (case hb=>exact λ_ _ _ _ _ _=>My.wY (λ_ _ _ _ _=>rfl))
    (case e=>k_is);(case l=>k_is);(case c=>k_is);(case k=>k_is)
   case t13=>
    dsimp only[L2.bG]
    refine' My.bO KX G ?hb ?e ?l ?c ?k
    (case hb=>exact λ_ _ _ _ _ _=>My.dO (λ_=>rfl))
    (case e=>k_is);(case l=>k_is);(case c=>k_is);(case k=>k_is)
   case t14=>
    dsimp only[L2.bG]
    refine' My.bO KX G ?hb ?e ?l ?c ?k
    (case hb=>exact λ_ _ _ _ _ _=>My.c9 (λ_ _=>rfl))
    (case e=>k_is);(case l=>k_is);(case c=>k_is);(case k=>k_is)
   case t15=>
    dsimp only[L2.bG]
    refine' My.bO KX G ?hb ?e ?l ?c ?k
    (case hb=>exact λ_ _ _ _ _ _=>My.dO (λ_=>rfl))
    (case e=>k_is);(case l=>k_is);(case c=>k_is);(case k=>k_is)
   case t16=>
    dsimp only[L2.bG]
    refine' My.bO KX G ?hb ?e ?l ?c ?k
    (case hb=>exact λ_ _ _ _ _ _=>My.dO (λ_=>rfl))
    (case e=>k_is);(case l=>k_is);(case c=>k_is);(case k=>k_is)
   case t17=>
    dsimp only[L2.bG]
    refine' My.bO KX G ?hb ?e ?l ?c ?k
    (case hb=>exact λ_ _ _ _ _ _=>My.c9 (λ_ _=>rfl))
    (case e=>k_is);(case l=>k_is);(case c=>k_is);(case k=>k_is)
   case t18=>
    dsimp only[L2.bG]
    refine' My.bO KX G ?hb ?e ?l ?c ?k
    (case hb=>exact λ_ _ _ _ _ _=>My.c9 (λ_ _=>rfl))
    (case e=>k_is);(case l=>k_is);(case c=>k_is);(case k=>k_is)
   case t19=>
    dsimp only[L2.bG]
    refine' My.bO KX G ?hb ?e ?l ?c ?k
    (case hb=>exact λ_ _ _ _ _ _=>My.HR (λ_ _ _ _=>rfl))
    (case e=>k_is);(case l=>k_is);(case c=>k_is);(case k=>k_is)
   case t20=>
    dsimp only[L2.bG]
    refine' My.bO KX G ?hb ?e ?l ?c ?k
    (case hb=>exact λ_ _ _ _ _ _=>My.c9 (λ_ _=>rfl))
    (case e=>k_is);(case l=>k_is);(case c=>k_is);(case k=>k_is)
   case t21=>
    dsimp only[L2.bG]
    refine' My.bO KX G ?hb ?e ?l ?c ?k
    (case hb=>exact λ_ _ _ _ _ _=>My.j7 (λ_ _ _=>rfl))
    (case e=>k_is);(case l=>k_is);(case c=>k_is);(case k=>k_is)
   case t22=>
    dsimp only[L2.bG]
    refine' My.bO KX G ?hb ?e ?l ?c ?k
    (case hb=>exact λ_ _ _ _ _ _=>My.j7 (λ_ _ _=>rfl))
    (case e=>k_is);(case l=>k_is);(case c=>k_is);(case k=>k_is)
   case t23=>
    dsimp only[L2.bG]
    refine' My.bO KX G ?hb ?e ?l ?c ?k
    (case hb=>exact λ_ _ _ _ _ _=>My.c9 (λ_ _=>rfl))
    (case e=>k_is);(case l=>k_is);(case c=>k_is);(case k=>k_is)
   case t24=>
    dsimp only[L2.bG]
    refine' My.bO KX G ?hb ?e ?l ?c ?k
    (case hb=>exact λ_ _ _ _ _ _=>My.c9 (λ_ _=>rfl))
    (case e=>k_is);(case l=>k_is);(case c=>k_is);(case k=>k_is)
   case t25=>
    dsimp only[L2.bG]
    refine' My.bO KX G ?hb ?e ?l ?c ?k
    (case hb=>exact λ_ _ _ _ _ _=>My.dO (λ_=>rfl))
    (case e=>k_is);(case l=>k_is);(case c=>k_is);(case k=>k_is)
   case t26=>
    dsimp only[L2.bG]
    refine' My.bO KX G ?hb ?e ?l ?c ?k
    (case hb=>exact λ_ _ _ _ _ _=>My.c9 (λ_ _=>rfl))
    (case e=>k_is);(case l=>k_is);(case c=>k_is);(case k=>k_is)
   case t27=>
    dsimp only[L2.bG]
    refine' My.bO KX G ?hb ?e ?l ?c ?k
    (case hb=>exact λ_ _ _ _ _ _=>My.c9 (λ_ _=>rfl))
    (case e=>k_is);(case l=>k_is);(case c=>k_is);(case k=>k_is)
   case t28=>
    dsimp only[L2.bG]
    refine' My.bO KX G ?hb ?e ?l ?c ?k
    (case hb=>exact λ_ _ _ _ _ _=>My.j7 (λ_ _ _=>rfl))
    (case e=>k_is);(case l=>k_is);(case c=>k_is);(case k=>k_is)
   case t29=>
    dsimp only[L2.bG]
    refine' My.bO KX G ?hb ?e ?l ?c ?k
    (case hb=>exact λ_ _ _ _ _ _=>My.j7 (λ_ _ _=>rfl))
    (case e=>k_is);(case l=>k_is);(case c=>k_is);(case k=>k_is)
   case t30=>
    dsimp only[L2.bG]
    refine' My.bO KX G ?hb ?e ?l ?c ?k
    (case hb=>exact λ_ _ _ _ _ _=>My.j7 (λ_ _ _=>rfl))
    (case e=>k_is);(case l=>k_is);(case c=>k_is);(case k=>k_is)
   case t31=>
    dsimp only[L2.bG]
    refine' My.bO KX G ?hb ?e ?l ?c ?k
    (case hb=>exact λ_ _ _ _ _ _=>My.dO (λ_=>rfl))
    (case e=>k_is);(case l=>k_is);(case c=>k_is);(case k=>k_is)
   case t32=>
    dsimp only[L2.bG]
    refine' My.bO KX G ?hb ?e ?l ?c ?k
    (case hb=>exact λ_ _ _ _ _ _=>My.c9 (λ_ _=>rfl))
    (case e=>k_is);(case l=>k_is);(case c=>k_is);(case k=>k_is)
   case t33=>
    dsimp only[L2.bG]
    refine' My.bO KX G ?hb ?e ?l ?c ?k
    (case hb=>exact λ_ _ _ _ _ _=>My.dO (λ_=>rfl))
    (case e=>k_is);(case l=>k_is);(case c=>k_is);(case k=>k_is)
   case t34=>
    dsimp only[L2.bG]
    refine' My.bO KX G ?hb ?e ?l ?c ?k
    (case hb=>exact λ_ _ _ _ _ _=>My.c9 (λ_ _=>rfl))
    (case e=>k_is);(case l=>k_is);(case c=>k_is);(case k=>k_is)
   case t35=>
    dsimp only[L2.bG]
    refine' My.bO KX G ?hb ?e ?l ?c ?k
    (case hb=>exact λ_ _ _ _ _ _=>My.wY (λ_ _ _ _ _=>rfl))
    (case e=>k_is);(case l=>k_is);(case c=>k_is);(case k=>k_is)
   case t36=>
    dsimp only[L2.bG]
    refine' My.bO KX G ?hb ?e ?l ?c ?k
    (case hb=>exact λ_ _ _ _ _ _=>My.c9 (λ_ _=>rfl))
    (case e=>k_is);(case l=>k_is);(case c=>k_is);(case k=>k_is)
   case t37=>
    dsimp only[L2.bG]
    refine' My.bO KX G ?hb ?e ?l ?c ?k
    (case hb=>exact λ_ _ _ _ _ _=>My.dO (λ_=>rfl))
    (case e=>k_is);(case l=>k_is);(case c=>k_is);(case k=>k_is)
   case t38=>
    dsimp only[L2.bG]
    refine'⟨_,My.gL KX G ?kg,⟨?pg,?hd,?po,?sa⟩,?na0,?me0,?me1,?me2,?me3,?me4⟩
    (case kg=>k_is);(case pg=>k_is);(case hd=>k_is);(case po=>k_is);(case sa=>k_is)
    (case na0=>unfold L2.NoAttr;k_is)
    case me0=>
     refine' My.VA ?hb ?e ?i ?l ?c ?k ?mk ?kc
     (case hb=>exact λ_ _ _ _ _ _=>My.dO (λ_=>rfl))
     (case e=>k_is);(case i=>k_is);(case l=>k_is);(case c=>k_is);(case k=>k_is);(case mk=>k_is);(case kc=>k_is)
    case me1=>
     refine' My.pH ?hb ?e ?i ?l ?c ?k
     (case hb=>exact λ_ _ _ _ _ _=>My.dO (λ_=>rfl))
     (case e=>k_is);(case i=>k_is);(case l=>k_is);(case c=>k_is);(case k=>k_is)
    case me2=>
     refine' My.pH ?hb ?e ?i ?l ?c ?k
     (case hb=>exact λ_ _ _ _ _ _=>My.c9 (λ_ _=>rfl))
     (case e=>k_is);(case i=>k_is);(case l=>k_is);(case c=>k_is);(case k=>k_is)
    case me3=>
     refine' My.pH ?hb ?e ?i ?l ?c ?k
     (case hb=>exact λ_ _ _ _ _ _=>My.dO (λ_=>rfl))
     (case e=>k_is);(case i=>k_is);(case l=>k_is);(case c=>k_is);(case k=>k_is)
    case me4=>
     refine' My.pH ?hb ?e ?i ?l ?c ?k
     (case hb=>exact λ_ _ _ _ _ _=>My.dO (λ_=>rfl))
     (case e=>k_is);(case i=>k_is);(case l=>k_is);(case c=>k_is);(case k=>k_is)
   case t39=>
    refine' My.eW KX G ?e
    (case e=>k_is)
   case t40=>
    refine' My.eW KX G ?e
    (case e=>k_is)
   case t41=>
    refine' My.eW KX G ?e
    (case e=>k_is)
   case t42=>
    refine' My.eW KX G ?e
    (case e=>k_is)
   case t43=>
    refine' My.eW KX G ?e
    (case e=>k_is)
   case t44=>
    refine' My.eW KX G ?e
    (case e=>k_is)
   case t45=>
    refine' My.eW KX G ?e
    (case e=>k_is)
   case t46=>
    refine' My.eW KX G ?e
    (case e=>k_is)
   case t47=>
    refine' My.eW KX G ?e
    (case e=>k_is)
   case t48=>
    refine' My.eW KX G ?e
    (case e=>k_is)
   case t49=>
    refine' My.eW KX G ?e
    (case e=>k_is)
   case t50=>
    refine' My.eW KX G ?e
    (case e=>k_is)
   case t51=>
    refine' My.eW KX G ?e
    (case e=>k_is)
   case t52=>
    refine' My.eW KX G ?e
    (case e=>k_is)
   case t53=>
    refine' My.eW KX G ?e
    (case e=>k_is)
   case t54=>
    dsimp only[L2.bG]
    refine'⟨_,_,_,_,_,_,_,_,_,_,My.XF.mk (My.gL KX G ?kg0) ?kf1 ?kf2 ?kf3 ?kf4 ?kf5 ?kf6 ?kf7 ?kf8 ?kf9 ?kf10 ?kf11 (My.gL KX G ?kg12) ?kf13 ?kf14 ?kf15 ?kf16 ?kf17 ?kf18 ?kf19 ?kf20 ?kf21 ?kf22 ?kf23 (My.gL KX G ?kg24) (My.gL KX G ?kg25) (My.gL KX G ?kg26) (My.gL KX G ?kg27) (My.gL KX G ?kg28) ?kf29 ?kf30 ?kf31 ?kf32 ?kf33 ?kf34 ?kf35 ?kf36 ?kf37 ?kf38 ?kf39 (My.gL KX G ?kg40) (My.gL KX G ?kg41) ?kf42 ?kf43 ?kf44 ?kf45 ?kf46 ?kf47 ?kf48 ?kf49 ?kf50 ?kf51 ?kf52 (My.gL KX G ?kg53)⟩
    (case kg0=>k_is)
    (case kg12=>k_is)
    (case kg24=>k_is)
    (case kg25=>k_is)
    (case kg26=>k_is)
    (case kg27=>k_is)
    (case kg28=>k_is)
    (case kg40=>k_is)
    (case kg41=>k_is)
    (case kg53=>k_is)
    (case kf1=>exact⟨by k_exc,by k_is,by k_is,by k_is,by k_is,by k_is,⟨_,by k_is⟩⟩)
    (case kf2=>exact L2.pQ (by k_is))
    (case kf3=>exact L2.qG (by k_is) (by k_is) (by k_is) (by k_is))
    (case kf4=>exact L2.bU (by decide) (by k_is) (by k_is) (by k_is))
    (case kf5=>exact L2.bU (by decide) (by k_is) (by k_is) (by k_is))
    (case kf6=>exact L2.bU (by decide) (by k_is) (by k_is) (by k_is))
    (case kf7=>exact L2.bU (by decide) (by k_is) (by k_is) (by k_is))
    (case kf8=>exact L2.bU (by decide) (by k_is) (by k_is) (by k_is))
    (case kf9=>exact L2.bU (by decide) (by k_is) (by k_is) (by k_is))
    (case kf10=>exact L2.bU (by decide) (by k_is) (by k_is) (by k_is))
    (case kf11=>exact L2.bU (by decide) (by k_is) (by k_is) (by k_is))
    (case kf13=>exact⟨by k_exc,by k_is,by k_is,by k_is,by k_is,by k_is,⟨_,by k_is⟩⟩)
    (case kf14=>exact L2.pQ (by k_is))
    (case kf15=>exact L2.qG (by k_is) (by k_is) (by k_is) (by k_is))
    (case kf16=>exact L2.bU (by decide) (by k_is) (by k_is) (by k_is))
    (case kf17=>exact L2.bU (by decide) (by k_is) (by k_is) (by k_is))
    (case kf18=>exact L2.bU (by decide) (by k_is) (by k_is) (by k_is))
    (case kf19=>exact L2.bU (by decide) (by k_is) (by k_is) (by k_is))
    (case kf20=>exact L2.bU (by decide) (by k_is) (by k_is) (by k_is))
    (case kf21=>exact L2.bU (by decide) (by k_is) (by k_is) (by k_is))
    (case kf22=>exact L2.bU (by decide) (by k_is) (by k_is) (by k_is))
    (case kf23=>exact L2.bU (by decide) (by k_is) (by k_is) (by k_is))
    (case kf29=>exact⟨by k_exc,by k_is,by k_is,by k_is,by k_is,by k_is,⟨_,by k_is⟩⟩)
    (case kf30=>exact L2.pQ (by k_is))
    (case kf31=>exact L2.qG (by k_is) (by k_is) (by k_is) (by k_is))
    (case kf32=>exact L2.bU (by decide) (by k_is) (by k_is) (by k_is))
    (case kf33=>exact L2.bU (by decide) (by k_is) (by k_is) (by k_is))
    (case kf34=>exact L2.bU (by decide) (by k_is) (by k_is) (by k_is))
    (case kf35=>exact L2.bU (by decide) (by k_is) (by k_is) (by k_is))
    (case kf36=>exact L2.bU (by decide) (by k_is) (by k_is) (by k_is))
    (case kf37=>exact L2.bU (by decide) (by k_is) (by k_is) (by k_is))
    (case kf38=>exact L2.bU (by decide) (by k_is) (by k_is) (by k_is))
    (case kf39=>exact L2.bU (by decide) (by k_is) (by k_is) (by k_is))
    (case kf42=>exact⟨by k_exc,by k_is,by k_is,by k_is,by k_is,by k_is,⟨_,by k_is⟩⟩)
    (case kf43=>exact L2.pQ (by k_is))
    (case kf44=>exact L2.qG (by k_is) (by k_is) (by k_is) (by k_is))
    (case kf45=>exact L2.bU (by decide) (by k_is) (by k_is) (by k_is))
    (case kf46=>exact L2.bU (by decide) (by k_is) (by k_is) (by k_is))
    (case kf47=>exact L2.bU (by decide) (by k_is) (by k_is) (by k_is))
    (case kf48=>exact L2.bU (by decide) (by k_is) (by k_is) (by k_is))
    (case kf49=>exact L2.bU (by decide) (by k_is) (by k_is) (by k_is))
    (case kf50=>exact L2.bU (by decide) (by k_is) (by k_is) (by k_is))
    (case kf51=>exact L2.bU (by decide) (by k_is) (by k_is) (by k_is))
    (case kf52=>exact L2.bU (by decide) (by k_is) (by k_is) (by k_is))
   case t55=>
    refine' My.IA KX G ?e
    (case e=>k_is)
   case t56=>
    refine' My.IA KX G ?e
    (case e=>k_is)
   case t57=>
    dsimp only[L2.bG]
    refine' My.U9 KX G ?e ?l ?z ?v
    (case e=>k_is);(case l=>k_is)
    (case z=>decide)
    (case v=>exact(.cons ⟨_,rfl⟩ (.cons ⟨_,rfl⟩ (.cons ⟨_,rfl⟩ .nil))))
  obtain⟨t,T⟩:=My.M9 TS
  have e:=hmg.symm.trans T.V6
  cases e
  exact⟨_,My.W9 T.LQ,λbase _ _=>My.T0 T⟩
#print axioms PySem.Challenge.cw_noticed_k08_whole_keepers_holds
