import PyProof.Rows.All
import Wide.All
import OpenK.AllK
import Wide.FinOn
import Lean
import PyProof.EqAt
import PyProof.EqKinds
import PyProof.TupleCall
import PyProof.P3Eq
import PyProof.P3In
import PyProof.NeData
import KE.KSortTup
import KE.LcSums
import PyProof.Rows.TupAdd
import KE.KTryMore
import OpenK.KOwn
import PyProof.NsDelKeeps
import PyProof.ExcArgsOwn
import KE.KIsAll
import KE.KDictList
import KE.KLam
import KE.KMinKey
import KE.KNest
import KE.KNestM
import KE.KRevIter
import PyProof.Draws
import PyProof.EnumMake
import PyProof.FactsAll.tuple
import PyProof.ListMulRoad
import PyProof.ListRange
import PyProof.Rows.MinMaxN
import PyProof.Rows.SetFrom
import PyProof.Rows.SumAny
import PyProof.SliceList
import PyProof.TupleOfSeq
import PyProof.WalkInts
import PyProof.WalksMore
import PyProof.ZipIter
import PySem.Challenge.RW_noticed_k40_whole_again_and_kept
open Array renaming length_toList→afF,getD→agV,perm_iff_toList_perm→ag5,getElem?_eq_getElem→ahA,getElem?_toList→ahC,toList_append→ahM
open Bool renaming and_eq_true→afB,false_ne_true→afK,false_eq_true→af1
open Classical renaming byContradiction→afV
open False renaming elim→ah3
open ForInStep renaming yield→ahQ
open Int renaming toNat_natCast→ae6,zero_add→agI,toNat_of_nonneg→ah0
open List renaming getElem?_eq_getElem→aeY,getElem?_eq_some_iff→ae3,getElem?_map→ae4,getD_eq_getElem?_getD→ae9,getElem?_eq_none→af0,mem_of_getElem?→af3,Pairwise→af7,getElem?_append_right→agQ,getElem?_append_left→agU,getElem?_set_ne→ag6,findSome?_eq_none_iff→ahI,getElem?_range→ahL,Nodup→ah4,Perm→ah6,ext_getElem?→aiF
open MonadExcept renaming tryCatch→aiN
open Nat renaming le_refl→aeU,zero_le→ae2,ne_of_lt→ae7,lt_of_lt_of_le→afG,le_trans→afO,lt_succ_of_lt→afZ,lt_irrefl→agJ,le_of_lt→agP,mul_le_mul→ahO,le_succ_of_le→ahY
open Ne renaming symm→afY
open Option renaming some→ahE
open Option.some renaming inj→agK
open Or renaming inl→afM
open PyProof.Rows renaming wpS_bind→ae8,seqObj→afC,wpS_pure→afE,pendingOf→afJ,arrOf→afN,callWith_type1→agM,get?_update_seq→agR,wpS_forRange→agX,firstMet→ahS,IntsAre→ah2,wpS_mono→aiA
open PyProof.Rows.F renaming plain_set_update_loop→ahV
open PySem renaming wpAny_bind→aeS,Shared→aeV,wpAny_pure→aeX,Value→ae5,FuncData→afD,wpAny→afH,Program→afL,SetTable→afQ,model→afT,Around→afU,wpAny_holding→af2,codeAny_builtin→af5,starEach→af6,Builtin→af8,bootBuiltins→af9,World→agC,compareOp→agD,plainId_quiet→agG,PassesOwn→agL,wpAny_tryCatch→agO,wpAny_mono→agS,wpAny_truthy_bool→agT,mainGlobals→agZ,wpAny_updateSeq→ag2,wpAny_seqItems→ag4,wpAny_call_entry→ahB,wpAny_setState_of→ahD,wpAny_ite_split→ahF,wpAny_newObj_type→ahJ,wpAny_newList→ahN,wpAny_loadPart'→ahP,wpAny_letGo→ahT,Spec→ahW,wpAny_pyIter_list→ahX,wpAny_of_eq→ahZ,wpAny_Call_Name_kw→ah5,wpAny_passesOwn→aiC,wpAny_rule→aiG,intKind→aiH,mem_of_lookup→aiI,pyNext→aiO
open PySem.Calls renaming call_function_entry→ah9
open PySem.F renaming plain_max_loop→afR,plainAttrs_list→afX,slot_list_append→agE,type_list_append→agF,entry_max_loop→ag7,plain_min_loop→ag8,called_set→ahG
open PySem.Heap renaming get?_push_of_some→aeT,get?_push_size→aeZ,lt_size→ae1,SameBut→afW,get?_push_ne→agB,get?_update_self→ag0,size_update→ag3,get?_update_ne→ahK,get?_update_other→ah1,size_push→aiL
open PySem.Heap.SameBut renaming update→afS
open PySem.NameKind renaming free→agY
open PySem.Obj renaming mapSeq→afA,data_mapFields→ahH
open PySem.PassesOwn renaming never→afP
open PySem.PyData renaming depthAll→afI,canLayAll0→agA,eqv→agN,depth→ag1,int→aiD,canLay0→aiM
open PySem.Str renaming ofString→agW
open PySem.Value renaming ref→ae0,ref→af4,type→agH,bool→aiK
open PySem.W renaming kia_one→ag9,KatTups→ahR,findIn→ahU,keepIn→ah7,kitOne→ah8,instObj→aiB
open PySem.Walks renaming list→aiE
open ToString renaming toString→aiJ
open True renaming intro→aeW
open List (all_cons all_eq_true all_map any_eq_false any_eq_true append_assoc append_nil countP_cons drop_eq_getElem_cons drop_of_length_le drop_take eq_nil_of_length_eq_zero filterMap_cons filter_append filter_cons flatMap_append flatten_cons foldl_cons getElem_inj getElem_map getElem_mem getElem_of_mem length_append length_cons length_drop length_eq_zero_iff length_filter_le length_map length_nil length_range length_replicate length_set length_take lookup_cons map_append map_cons map_map map_nil mem_append mem_append_left mem_append_right mem_cons mem_cons_of_mem mem_cons_self mem_filter mem_filterMap mem_flatMap mem_iff_getElem mem_map mem_of_mem_drop mem_of_mem_take mem_range mem_singleton nodup_cons nodup_range not_mem_nil of_mem_zip pairwise_append pairwise_cons pairwise_iff_getElem pairwise_lt_range pairwise_map pairwise_singleton perm_append_comm range range_succ replicate replicate_succ size_toArray take_add_one take_append_drop take_length take_of_length_le take_sublist zip_cons_cons)
set_option Elab.async false
set_option linter.all false
set_option maxRecDepth 100000
namespace L2
open PySem PySem.Spec PyProof.Rows
noncomputable abbrev c9:=Sum Int Str
noncomputable def HE:c9->Value->Bool
 | .inl k,v=>Value.isInt k v
 | .inr x,v=>Value.isStrOf x v
noncomputable def ZL(w:agC):c9->Int
 | .inl k=>hashInt k
 | .inr x=>hashStr w x
theorem iC:∀{k:c9}{v:Value},HE k v=true->(∃i t,k=Sum.inl i/\v=Value.int i t)\/(∃x t,k=Sum.inr x/\v=Value.str x t)
 | .inl i,v,h=>by
  obtain⟨t,e⟩:=Value.isInt_shape (k:=i) (v:=v) h
  exact .inl ⟨i,t,rfl,e⟩
 | .inr x,v,h=>by
  obtain⟨t,e⟩:=Value.isStrOf_shape (x:=x) (v:=v) h;exact .inr ⟨x,t,rfl,e⟩
theorem ZJ(a b:Int):decide ((Sum.inl a:c9)=Sum.inl b)=(a==b):=by
 by_cases e:a=b
 ·subst e;simp
 ·have h:¬(Sum.inl a:c9)=Sum.inl b:=λq=>e (Sum.inl.inj q);rw[decide_eq_false h];exact(beq_eq_false_iff_ne.mpr e).symm
theorem ZG(a b:Str):decide ((Sum.inr a:c9)=Sum.inr b)=decide (a=b):=by
 by_cases e:a=b
 ·subst e;simp
 ·have h:¬(Sum.inr a:c9)=Sum.inr b:=λq=>e (Sum.inr.inj q);rw[decide_eq_false h,decide_eq_false e]
theorem ZI(a:Int)(b:Str):decide ((Sum.inl a:c9)=Sum.inr b)=false:=decide_eq_false (λq=>nomatch q)
theorem ZH(a:Str)(b:Int):decide ((Sum.inr a:c9)=Sum.inl b)=false:=decide_eq_false (λq=>nomatch q)
noncomputable def u0(prog:afL)(w:agC):PySem.KeyKind prog w c9 where
 is:=HE
 hash:=ZL w
 inj:=λv a b ha hb=>by
  rcases iC ha with⟨i,t,rfl,rfl⟩|⟨x,t,rfl,rfl⟩
  ·rcases iC hb with⟨j,u,rfl,e⟩|⟨y,u,rfl,e⟩
   ·injection e with e1 _;rw[e1]
   ·exact nomatch e
  ·rcases iC hb with⟨j,u,rfl,e⟩|⟨y,u,rfl,e⟩
   ·exact nomatch e
   ·injection e with e1 _;rw[e1]
 byValue:=λk v h=>by
  rcases iC h with⟨i,t,rfl,rfl⟩|⟨x,t,rfl,rfl⟩ <;> rfl
 pyHash:=λhv h=>by
  rcases iC hv with⟨i,t,rfl,rfl⟩|⟨x,t,rfl,rfl⟩
  ·exact wpAny_pyHash_int h
  ·exact wpAny_pyHash_str h
 eqBool:=λhu hv h=>by
  rcases iC hu with⟨i,t,rfl,rfl⟩|⟨x,t,rfl,rfl⟩
  ·rcases iC hv with⟨j,u,rfl,rfl⟩|⟨y,u,rfl,rfl⟩
   ·rw[ZJ]at h;exact wpAny_eqBool_int h
   ·rw[ZI]at h;exact SeqAt.EqAt.int_str i t y u _ _ _ _ h
  ·rcases iC hv with⟨j,u,rfl,rfl⟩|⟨y,u,rfl,rfl⟩
   ·rw[ZH]at h;exact SeqAt.EqAt.str_int x t j u _ _ _ _ h
   ·rw[ZG]at h;exact wpAny_eqBool_str h
 «strs»:=λk x t v h=>by
  rcases iC h with⟨i,u,rfl,e⟩|⟨y,u,rfl,e⟩
  ·exact nomatch e
  ·injection e with e1 _;subst e1;cases v <;> rfl
inductive V where
 |non|bl (b:Bool)|int (i:Int)|str (x:Str)|byt (b:Array UInt8)|flt (b:UInt64)|ref (a:Addr)|ty (n:String)
 deriving DecidableEq
noncomputable def RelV:V->Value->Prop
 | .non,u=>u=Value.none
 | .bl b,u=>u=aiK b
 | .int i,u=>∃t,u=Value.int i t
 | .str x,u=>∃t,u=Value.str x t
 | .byt b,u=>∃t,u=Value.bytes b t
 | .flt b,u=>∃t,u=Value.float b t
 | .ref a,u=>u=af4 a
 | .ty n,u=>u=agH n
noncomputable abbrev Vals:List V->List Value->Prop:=Paired RelV
theorem Vals.length{xs:List V}{us:List Value}(r:Vals xs us):xs.length=us.length:=Paired.length r
theorem Vals.get:∀{xs:List V}{us:List Value}{i:Nat}{x:V},Vals xs us->xs[i]? =some x->∃u,us[i]? =some u/\RelV x u
 |_,_,_,_,.nil,e=>by simp at e
 |_,_,0,_,.cons r _,e=>by simp at e;subst e;exact⟨_,rfl,r⟩
 |_,_,i+1,x,.cons _ t,e=>by
  obtain⟨u,h1,h2⟩:=Vals.get (i:=i) (x:=x) t (by simpa using e);exact⟨u,by simpa using h1,h2⟩
theorem Vals.set{x:V}{u:Value}(r:RelV x u):∀{xs:List V}{us:List Value}(i:Nat),Vals xs us->Vals (xs.set i x) (us.set i u)
 |_,_,_,.nil=>.nil
 |_,_,0,.cons _ t=>.cons r t
 |_,_,i+1,.cons q t=>.cons q (Vals.set r i t)
theorem Vals.append:∀{xs ys:List V}{us ws:List Value},Vals xs us->Vals ys ws->Vals (xs++ys) (us++ws)
 |_,_,_,_,.nil,s=>s
 |_,_,_,_,.cons r t,s=>.cons r (Vals.append t s)
theorem Vals.take:∀{xs:List V}{us:List Value}(n:Nat),Vals xs us->Vals (xs.take n) (us.take n)
 |_,_,0,_=>.nil
 |_,_,_+1,.nil=>.nil
 |_,_,n+1,.cons r t=>.cons r (Vals.take n t)
theorem Vals.drop:∀{xs:List V}{us:List Value}(n:Nat),Vals xs us->Vals (xs.drop n) (us.drop n)
 |_,_,0,r=>r
 |_,_,_+1,.nil=>.nil
 |_,_,n+1,.cons _ t=>Vals.drop n t
theorem Vals.none_of:∀{xs:List V}{us:List Value}{i:Nat},Vals xs us->xs[i]? =none->us[i]? =none:=λ{xs us i}r e=>by
 have h1:=r.length;have h2:xs.length<=i:=List.getElem?_eq_none_iff.mp e;exact List.getElem?_eq_none_iff.mpr (by lia)
noncomputable def RelO:Option V->Option Value->Prop
 |some v,some u=>RelV v u
 |none,none=>True
 |_,_=>False
noncomputable def KV{κ:Type}:List (κ×V)->List (κ×Value)->Prop:=Paired λ(p:κ×V)(q:κ×Value)=>p.1=q.1/\RelV p.2 q.2
noncomputable def kV:c9->V
 | .inl i=>.int i
 | .inr x=>.str x
inductive HO where
 |lst (xs:List V)
 |tup (xs:List V)
 |dK (kvs:List (c9×V))|dT (kvs:List (List c9×V))
 |set (S:Int->Bool) (n:Nat)
 |ins (C dx:Addr) (fs:List (Str×V))
 |own (x:Addr)
 |xd (fs:List (Str×V))
 |met (f x:Addr)
 |rng (lo hi:Int)
 |frz (o:Obj) (u:HO)
 |tbl (ps:Array Value)
 |ext (φ:Heap->Prop)
noncomputable abbrev Hp:=Addr->Option HO
noncomputable def upd(H:Hp)(a:Addr)(o:HO):Hp:=λb=>if b=a then some o else H b
theorem aB{H:Hp}{a:Addr}{o:HO}:upd H a o a=some o:=by unfold upd;rw[if_pos rfl]
theorem aD{H:Hp}{a b:Addr}{o:HO}(h:b≠a):upd H a o b=H b:=by unfold upd;rw[if_neg h]
theorem bJ{H:Hp}{a b:Addr}{o u:HO}(h:H a=some o)(h':H b=some u)(d:o≠u):a≠b:=by
 intro e;subst e;rw[h]at h';exact d (agK h')
theorem aW{H:Hp}{a b:Addr}{o:HO}(h:H a=some o)(h':H b=none):a≠b:=by
 intro e;subst e;rw[h]at h';cases h'
noncomputable def IsTupN(h:Heap)(a:Addr)(items:Array Value):Prop:=IsTup h a items/\∃o,h.get? a=some o/\o.dict=none
theorem IsTupN.new(h:Heap)(items:Array Value):IsTupN (h.push { cls:=.type "tuple",data:=.seq items }) h.objs.size items:=⟨IsTup.new h items,_,aeZ _ rfl,rfl⟩
section
variable(P:afL)(w:agC)
noncomputable def ObjOk(H:Hp)(h:Heap)(a:Addr):HO->Prop
 | .lst xs=>xs.length<=sizeLine/\∃(its:List Value)(n:Nat),Vals xs its/\h.get? a=some { cls:=.type "list",data:=.seq its.toArray n }
 | .tup xs=>xs.length<=sizeLine/\∃its:List Value,Vals xs its/\IsTupN h a its.toArray
 | .dK kvs=>kvs.length<=sizeLine/\(a==sysModules)=false/\∃vs,KV kvs vs/\h.DictOf (u0 P w) a vs
 | .dT kvs=>kvs.length<=sizeLine/\(a==sysModules)=false/\∃xs:List (List c9×Addr×Value),
   Paired (λ(p:List c9×V)(q:List c9×Addr×Value)=>p.1=q.1/\H q.2.1=some (.tup (p.1.map kV))/\RelV p.2 q.2.2) kvs xs/\
   ∃o es ep,h.get? a=some o/\o.ExactDict/\o.data=.dict es ep/\es.toList=xs.map (entryOfKey (tupleKind (u0 P w)))/\(xs.map (·.1)).Nodup
 | .set S n=>h.SetOf (aiH P w) a S n
 | .ins C dx fs=>H dx=some (.own a)/\fs.length<=1000/\dx≠a/\h.get? a=some (aiB C dx)/\
   ∃mA,h.Ns1 dx mA/\(∀f,RelO (fs.lookup f) (mA f))/\PySem.Within mA (fs.map (·.1))
 | .own _=>∃o,h.get? a=some o
 | .xd fs=>∃mA,h.Ns1 a mA/\∀f,RelO (fs.lookup f) (mA f)
 | .rng lo hi=>∃t u v,h.get? a=some { cls:=.type "range",data:=.fields #[.int lo t,.int hi u,.int 1 v] }
 | .frz o u=>h.get? a=some o/\ObjOk H h a u
 | .tbl ps=>h.get? a=some { cls:=.none,data:=.fields ps }
 | .met f x=>h.get? a=some (PySem.W.methodObj (.ref f) (.ref x))
 | .ext φ=>φ h/\(∃o,h.get? a=some o)/\∀h1 h2:Heap,φ h1->(∀o,h1.get? a=some o->h2.get? a=some o)->φ h2
noncomputable def HOk(H:Hp)(h:Heap):Prop:=∀a o,H a=some o->ObjOk P w H h a o
end
section
variable{P:afL}{w:agC}{H H':Hp}{h h':Heap}{a:Addr}{o:HO}
theorem ObjOk.lt(x:ObjOk P w H h a o):a<h.objs.size:=by
 cases o with
 |lst xs=>obtain⟨_,_,_,_,e⟩:=x;exact ae1 e
 |tup xs=>obtain⟨_,_,_,p⟩:=x;exact p.1.lt
 |dK kvs=>obtain⟨_,_,_,_,o,_,_,e,_⟩:=x;exact ae1 e
 |dT kvs=>obtain⟨_,_,_,_,o,_,_,e,_⟩:=x;exact ae1 e
 |set S n=>obtain⟨o,_,_,_,e,_⟩:=x;exact ae1 e
 |ins C dx fs=>obtain⟨_,_,_,e,_⟩:=x;exact ae1 e
 |own y=>obtain⟨_,e⟩:=x;exact ae1 e
 |xd fs=>obtain⟨_,⟨_,_,_,e,_⟩,_⟩:=x;exact ae1 e
 |rng lo hi=>obtain⟨_,_,_,e⟩:=x;exact ae1 e
 |frz ob u=>obtain⟨e,_⟩:=x;exact ae1 e
 |tbl ps=>exact ae1 (show h.get? a=some _ from x)
 |met f y=>exact ae1 (show h.get? a=some _ from x)
 |ext φ=>obtain⟨_,⟨_,e⟩,_⟩:=x;exact ae1 e
theorem Paired.mapP{α β:Type}{F G:α->β->Prop}:∀{l₁:List α}{l₂:List β},Paired F l₁ l₂->(∀a b,F a b->G a b)->Paired G l₁ l₂
 |_,_,.nil,_=>.nil
 |_,_,.cons r t,f=>.cons (f _ _ r) (Paired.mapP t f)
theorem ObjOk.stay(x:ObjOk P w H h a o)(k:∀b u,(b=a\/H b=some (.own a))->h.get? b=some u->h'.get? b=some u)
  (ho:∀b,H b=some (.own a)->H' b=some (.own a)) (ht:∀b xs,H b=some (.tup xs)->H' b=some (.tup xs)):ObjOk P w H' h' a o:=by
 induction o with
 |lst xs=>obtain⟨z,its,n,r,e⟩:=x;exact⟨z,its,n,r,k _ _ (.inl rfl) e⟩
 |tup xs=>obtain⟨z,its,r,⟨ob,e,c⟩,ob2,e2,c2⟩:=x;exact⟨z,its,r,⟨ob,k _ _ (.inl rfl) e,c⟩,ob2,k _ _ (.inl rfl) e2,c2⟩
 |dK kvs=>obtain⟨z,y,vs,r,ob,es,ep,e,c⟩:=x;exact⟨z,y,vs,r,ob,es,ep,k _ _ (.inl rfl) e,c⟩
 |dT kvs=>
  obtain⟨z,y,xs,r,ob,es,ep,e,c⟩:=x
  exact⟨z,y,xs,Paired.mapP r λp q z=>⟨z.1,ht _ _ z.2.1,z.2.2⟩,ob,es,ep,k _ _ (.inl rfl) e,c⟩
 |set S n=>obtain⟨ob,es,ep,t,e,c⟩:=x;exact⟨ob,es,ep,t,k _ _ (.inl rfl) e,c⟩
 |ins C dx fs=>
  obtain⟨d,z,ne,e,mA,⟨od,es,ep,e2,c⟩,r⟩:=x
  exact⟨ho _ d,z,ne,k _ _ (.inl rfl) e,mA,⟨od,es,ep,k _ _ (.inr d) e2,c⟩,r⟩
 |own y=>obtain⟨ob,e⟩:=x;exact⟨ob,k _ _ (.inl rfl) e⟩
 |xd fs=>obtain⟨mA,⟨od,es,ep,e,c⟩,r⟩:=x;exact⟨mA,⟨od,es,ep,k _ _ (.inl rfl) e,c⟩,r⟩
 |rng lo hi=>obtain⟨t,u,v,e⟩:=x;exact⟨t,u,v,k _ _ (.inl rfl) e⟩
 |frz ob u ih=>obtain⟨e,q⟩:=x;exact⟨k _ _ (.inl rfl) e,ih q⟩
 |tbl ps=>
  have e:h.get? a=some { cls:=.none,data:=.fields ps }:=x;show h'.get? a=some { cls:=.none,data:=.fields ps }
  exact k a _ (.inl rfl) e
 |met f y=>
  have e:h.get? a=some (PySem.W.methodObj (.ref f) (.ref y)):=x;show h'.get? a=some (PySem.W.methodObj (.ref f) (.ref y))
  exact k a _ (.inl rfl) e
 |ext φ=>obtain⟨p,⟨o,e⟩,st⟩:=x;exact⟨st _ _ p λo q=>k _ _ (.inl rfl) q,⟨o,k _ _ (.inl rfl) e⟩,st⟩
theorem HOk.lt(x:HOk P w H h)(e:H a=some o):a<h.objs.size:=(x a o e).lt
theorem HOk.fresh(x:HOk P w H h)(e:h.objs.size<=a):H a=none:=by
 cases q:H a with
 |none=>rfl
 |some u=>exact absurd (afG (x.lt q) e) (agJ _)
theorem HOk.kept(x:HOk P w H h)(k:∀b u,h.get? b=some u->h'.get? b=some u):HOk P w H h':=λa o e=>
 (x a o e).stay (λb u _ q=>k b u q) (λ_ q=>q) λ_ _ q=>q
theorem HOk.laid(x:HOk P w H h)(k:∀b u,h.get? b=some u->h'.get? b=some u)(hp:h.objs.size<=a)(new:ObjOk P w (upd H a o) h' a o):HOk P w (upd H a o) h':=λb u e=>by
 have hn:=x.fresh hp;by_cases hb:b=a
 ·subst hb;rw[aB]at e;cases e;exact new
 ·rw[aD hb]at e;exact(x b u e).stay (λc v _ q=>k c v q) (λc q=>by rw[aD (aW q hn)];exact q) λc xs q=>by rw[aD (aW q hn)];exact q
end
noncomputable def Rd(H:Hp)(a:Addr)(u:HO):Prop:=H a=some u\/∃o,H a=some (.frz o u)
theorem Rd.of{H:Hp}{a:Addr}{u:HO}(h:H a=some u):Rd H a u:=.inl h
theorem Rd.ok{P:afL}{w:agC}{H:Hp}{h:Heap}{a:Addr}{u:HO}(r:Rd H a u)(x:HOk P w H h):ObjOk P w H h a u:=by
 rcases r with r|⟨o,r⟩
 ·exact x a u r
 ·obtain⟨_,q⟩:=x a _ r;exact q
noncomputable def pT:Option HO->Prop
 |some (.lst _)=>True
 |some (.dK _)=>True
 |some (.dT _)=>True
 |some (.set _ _)=>True
 |some (.ins _ _ _)=>True
 |some (.ext _)=>True
 |_=>False
section
variable{P:afL}{w:agC}{H:Hp}{h h':Heap}{x e:Addr}{o':HO}
theorem HOk.write(ok:HOk P w H h)(mu:pT (H x))(he:e=x\/H e=some (.own x))(k:∀b u,b≠e->h.get? b=some u->h'.get? b=some u)(heo:∃u,h'.get? e=some u)
  (new:ObjOk P w (upd H x o') h' x o'):HOk P w (upd H x o') h':=λb u q=>by
 have nown:∀c y,H c=some (.own y)->c≠x:=λc y r z=>by subst z;rw[r]at mu;exact mu
 have ntup:∀c xs,H c=some (.tup xs)->c≠x:=λc xs r z=>by subst z;rw[r]at mu;exact mu
 by_cases hb:b=x
 ·subst hb;rw[aB]at q;cases q;exact new
 ·rw[aD hb]at q;by_cases hbe:b=e
  ·have q':H b=some (.own x):=by
    rcases he with z|z
    ·exact absurd (hbe.trans z) hb
    ·rw[hbe];exact z
   rw[q]at q';cases q';obtain⟨v,hv⟩:=heo;exact⟨v,by rw[hbe];exact hv⟩
  ·refine(ok b u q).stay (λc v hc r=>k c v ?_ r) (λc r=>by rw[aD (nown c b r)];exact r) λc xs r=>by rw[aD (ntup c xs r)];exact r
   rcases hc with rfl|hc
   ·exact hbe
   ·rintro rfl;rcases he with z|z
    ·exact nown c b hc z
    ·rw[hc]at z;cases z;exact hb rfl
end
structure Un (fs ex:List Addr) (H H':Hp) (h h':Heap):Prop where
 keep:∀b o,h.get? b=some o->H b=none->b∉fs->b∉ex->h'.get? b=some o
 slot:∀b o,h.get? b=some o->H b=none->b∈fs->b∉ex->∃sl,h'.get? b=some { o with slots:=sl }
 free:∀b o,h.get? b=some o->H b=none->b∉ex->H' b=none
 there:∀b o,h.get? b=some o->b∉ex->∃o',h'.get? b=some o'
 tups:∀b xs,H b=some (.tup xs)->H' b=some (.tup xs)
 frzs:∀b o u,H b=some (.frz o u)->H' b=some (.frz o u)
 tbls:∀b ps,H b=some (.tbl ps)->∃more,H' b=some (.tbl (ps++more))
section
variable{fs fs' ex ex':List Addr}{H H1 H2:Hp}{h h1 h2 h':Heap}{a x e:Addr}{o:HO}
theorem Un.any(u:Un fs ex H H1 h h1){b:Addr}{ob:Obj}(q:h.get? b=some ob)(n:H b=none)(hx:b∉ex):∃sl,h1.get? b=some { ob with slots:=sl }:=by
 by_cases hb:b∈fs
 ·exact u.slot b ob q n hb hx
 ·exact⟨ob.slots,u.keep b ob q n hb hx⟩
theorem Un.trans(a:Un fs ex H H1 h h1)(b:Un fs ex H1 H2 h1 h2):Un fs ex H H2 h h2 where
 keep:=λc ob q n hc hx=>b.keep c ob (a.keep c ob q n hc hx) (a.free c ob q n hx) hc hx
 slot:=λc ob q n hc hx=>by
  obtain⟨sl,e1⟩:=a.slot c ob q n hc hx;obtain⟨sl',e2⟩:=b.slot c _ e1 (a.free c ob q n hx) hc hx;exact⟨sl',e2⟩
 free:=λc ob q n hx=>by
  obtain⟨o',e1⟩:=a.there c ob q hx;exact b.free c o' e1 (a.free c ob q n hx) hx
 there:=λc ob q hx=>by
  obtain⟨o',e1⟩:=a.there c ob q hx;exact b.there c o' e1 hx
 tups:=λc xs q=>b.tups c xs (a.tups c xs q)
 frzs:=λc ob xs q=>b.frzs c ob xs (a.frzs c ob xs q)
 tbls:=λc ps q=>by
  obtain⟨m1,e1⟩:=a.tbls c ps q;obtain⟨m2,e2⟩:=b.tbls c _ e1;exact⟨m1++m2,by rw[e2,Array.append_assoc]⟩
theorem Un.kept(k:∀b u,h.get? b=some u->h'.get? b=some u):Un fs ex H H h h':=
 ⟨λb ob q _ _ _=>k b ob q,λb ob q _ _ _=>⟨ob.slots,k b ob q⟩,λ_ _ _ n _=>n,λb ob q _=>⟨ob,k b ob q⟩,λ_ _ q=>q,λ_ _ _ q=>q,λ_ ps q=>⟨#[],by rw[q];simp⟩⟩
theorem Un.refl:Un fs ex H H h h:=Un.kept λ_ _ q=>q
theorem Un.laid(k:∀b u,h.get? b=some u->h'.get? b=some u)(hp:h.objs.size<=a)(hn:H a=none):Un fs ex H (upd H a o) h h' where
 keep:=λb u q _ _ _=>k b u q
 slot:=λb u q _ _ _=>⟨u.slots,k b u q⟩
 free:=λb u q n _=>by rw[aD (ae7 (afG (ae1 q) hp))];exact n
 there:=λb u q _=>⟨u,k b u q⟩
 tups:=λb xs q=>by rw[aD (aW q hn)];exact q
 frzs:=λb u xs q=>by rw[aD (aW q hn)];exact q
 tbls:=λb ps q=>⟨#[],by rw[aD (aW q hn),q];simp⟩
theorem Un.write(mu:pT (H x))(he:e=x\/H e=some (.own x))(k:∀b u,b≠e->h.get? b=some u->h'.get? b=some u)(heo:∃u,h'.get? e=some u):Un fs ex H (upd H x o) h h':=by
 have hx:∀b,H b=none->b≠x:=λb n z=>by subst z;rw[n]at mu;exact mu
 have hb:∀b,H b=none->b≠e:=λb n z=>by
  subst z;rcases he with r|r
  ·exact hx b n r
  ·rw[n]at r;cases r
 have hm:∀b u,H b=some u->¬pT (some u)->b≠x:=λb u q nm z=>by subst z;rw[q]at mu;exact nm mu
 refine⟨λb u q n _ _=>k b u (hb b n) q,λb u q n _ _=>⟨u.slots,k b u (hb b n) q⟩,λb u q n _=>by rw[aD (hx b n)];exact n,λb u q _=>?_,
  λb xs q=>by rw[aD (hm b _ q λz=>z)];exact q,λb u xs q=>by rw[aD (hm b _ q λz=>z)];exact q,λb ps q=>⟨#[],by rw[aD (hm b _ q λz=>z),q];simp⟩⟩
 by_cases hbe:b=e
 ·subst hbe;exact heo
 ·exact⟨u,k b u hbe q⟩
theorem Un.mono(u:Un fs ex H H1 h h1)(hs:∀b∈fs,b∈fs')(hx:∀b∈ex,b∈ex'):Un fs' ex' H H1 h h1:=
 ⟨λb ob q n hb he=>u.keep b ob q n (λz=>hb (hs b z)) λz=>he (hx b z),λ_ _ q n _ he=>u.any q n λz=>he (hx _ z),λb ob q n he=>u.free b ob q n λz=>he (hx b z),λb ob q he=>u.there b ob q λz=>he (hx b z),u.tups,u.frzs,u.tbls⟩
end
noncomputable def mY(h:Heap)(H:Hp):List Addr:=(range h.objs.size).filter λa=>(H a).isSome
noncomputable def g6(h:Heap)(H:Hp):Heap:=PySem.W.hideAll h (mY h H)
theorem aaT(h:Heap)(H:Hp):(g6 h H).objs.size=h.objs.size:=PySem.W.hideAll_size _ _
theorem aaU{h:Heap}{H:Hp}{b:Addr}{o:Obj}(e:h.get? b=some o)(n:H b=none):(g6 h H).get? b=some o:=
 PySem.W.hideAll_get _ e λhm=>by
  have q:(H b).isSome=true:=(mem_filter.mp hm).2;rw[n]at q;simp at q
theorem WB{h:Heap}{H:Hp}{b:Addr}{o:Obj}(e:(g6 h H).get? b=some o):h.get? b=some o/\H b=none:=by
 have e':h.get? b=some o:=PySem.W.of_hideAll (mY h H) e;refine⟨e',?_⟩
 cases q:H b with
 |none=>rfl
 |some x=>
  have hm:b∈mY h H:=mem_filter.mpr ⟨mem_range.mpr (ae1 e'),by simp[q]⟩;have z:(g6 h H).get? b=none:=PySem.W.hideAll_none (mY h H) hm;rw[z]at e;cases e
noncomputable def jX(g h:Heap)(L:Addr):List (Addr×Obj):=(range h.objs.size).filterMap λa=>if a=L\/(g.get? a).isSome=true then none else(h.get? a).map λo=>(a,o)
theorem iB{g h:Heap}{L a:Addr}{o:Obj}(h1:a≠L)(h2:g.get? a=none)(h3:h.get? a=some o):(a,o)∈jX g h L:=
 mem_filterMap.mpr ⟨a,mem_range.mpr (ae1 h3),by simp[h1,h2,h3]⟩
theorem WA{g h:Heap}{L:Addr}{p:Addr×Obj}(hp:p∈jX g h L):p.1≠L/\g.get? p.1=none/\h.get? p.1=some p.2:=by
 obtain⟨b,_,e⟩:=mem_filterMap.mp hp;split at e
 ·cases e
 ·rename_i hn
  cases q:h.get? b with
  |none=>rw[q]at e;simp at e
  |some u=>
   rw[q]at e;simp only[Option.map_some,ahE.injEq]at e;subst e;refine⟨λz=>hn (.inl z),?_,q⟩;show g.get? b=none
   cases r:g.get? b with
   |none=>rfl
   |some v=>exact(hn (.inr (by simp[r]))).elim
noncomputable def bM(g h:Heap)(L d:Addr):List (Addr×Obj):=(jX g h L).filter λp=>decide (p.1≠d)
theorem uW{g h:Heap}{L:Addr}:News g L h (jX g h L):=λp hp=>let⟨a,b,c⟩:=WA hp;⟨c,a,b⟩
structure Mod (K:PySem.W.Frag) (mg:Str->Option Value) (base:Heap):Prop where
 kin:K.In base
 glob:base.Ns agZ mg
 blt:∃mb,base.Ns builtinsNs mb/\∀x:Str,x≠"__name__"->mb x=af9 x
 nolimit:base.NoLimit
structure Cx where
 prog:afL
 w:agC
 K:PySem.W.Frag
 mg:Str->Option Value
 base:Heap
 A:afU
 N:List Str
 s₀:aeV
 H₀:Hp
 env:Env
 outer:List Env
 stack:List Env
 ex:List Addr
 fn:Str->Bool
 calm:Bool
 pn:List (Addr×Obj)
 xe:Value->aeV->Prop
noncomputable def cV(l:List Env):List Addr:=l.filterMap (·.frame)
noncomputable abbrev Cx.fs(X:Cx):List Addr:=cV X.outer
noncomputable def mI(sc:Scope)(x:Str):Prop:=sc.names.lookup x=some .local\/sc.names.lookup x=some .cell\/sc.names.lookup x=some .free
noncomputable def Loc(sc:Scope)(x:Str):Prop:=sc.names.lookup x=some .local\/sc.names.lookup x=some .cell
noncomputable def Look(env:Env)(h:Heap)(m:Str->Option Value)(x:Str)(u:Value):Prop:=
 (env.kindOf x=some .local/\m x=some u)\/((env.kindOf x=some .cell\/env.kindOf x=some .free)/\∃c,env.cells.lookup x=some c/\h.IsCell c (some u))
structure Cx.Ok (X:Cx):Prop where
 mod:Mod X.K X.mg X.base
 kind:X.env.scope.kind=.function
 glob:X.env.globals=agZ
 blt:X.env.builtins=builtinsNs
 above:X.s₀.heap.objs.size<=X.env.locals
 inj:∀x y c,X.env.cells.lookup x=some c->X.env.cells.lookup y=some c->x=y
 has:∀x,(X.env.kindOf x=some .cell\/X.env.kindOf x=some .free)->∃c,X.env.cells.lookup x=some c
 cab:∀x c,X.fn x=true->X.env.cells.lookup x=some c->X.s₀.heap.objs.size<=c
 hd:X.calm=true->X.A.handled=none
 frames:X.A.frames=some X.stack
 stk:X.stack=X.outer\/(X.stack=X.env::X.outer/\X.env.frame=some X.env.locals)
 exf:∀b∈X.ex,b≠X.env.locals/\∀x c,X.env.cells.lookup x=some c->c≠b
 bs:∀b o,X.base.get? b=some o->X.s₀.heap.get? b=some o/\X.H₀ b=none
 bsz:X.base.objs.size<=X.s₀.heap.objs.size
 noex:∀b o,X.base.get? b=some o->b∉X.ex
 exfs:∀b∈X.ex,b∉X.fs
 funs:X.s₀.heap.FunFrames X.base X.outer
 frf:∀b∈X.fs,X.H₀ b=none
structure Inv (X:Cx) (pins:List (Addr×Obj)) (σ:List (Option V)) (H:Hp) (s:aeV):Prop where
 ok:X.Ok
 os:s.os=X.s₀.os
 bare:AllBare s.gens
 base:Un X.fs X.ex X.H₀ H X.s₀.heap s.heap
 loc:∃m,s.heap.Ns X.env.locals m/\∀(i:Nat)(x:Str)(v:V),X.N[i]? =some x->σ[i]? =some (some v)->mI X.env.scope x->∃u,RelV v u/\Look X.env s.heap m x u
 cell:∀x c,X.env.cells.lookup x=some c->∃v,s.heap.IsCell c v
 free:H X.env.locals=none
 freeC:∀x c,X.env.cells.lookup x=some c->H c=none
 pin:∀p∈X.pn++pins,s.heap.get? p.1=some p.2/\H p.1=none/\p.1≠X.env.locals/\p.1∉X.fs/\∀v,p.2.data≠.cell v
 hok:HOk X.prog X.w H s.heap
 len:σ.length=X.N.length
section
variable{X:Cx}{pins:List (Addr×Obj)}{σ:List (Option V)}{H H':Hp}{s:aeV}{h':Heap}
theorem Cx.Ok.nofr(ok:X.Ok){b:Addr}{o:Obj}(e:X.base.get? b=some o):b∉X.fs:=λhb=>by
 have:=(ok.funs.mem hb).1;rw[e]at this;cases this
theorem Inv.bs(I:Inv X pins σ H s):∀b o,X.base.get? b=some o->s.heap.get? b=some o/\H b=none:=λb o e=>
 ⟨I.base.keep b o (I.ok.bs b o e).1 (I.ok.bs b o e).2 (I.ok.nofr e) (I.ok.noex b o e),I.base.free b o (I.ok.bs b o e).1 (I.ok.bs b o e).2 (I.ok.noex b o e)⟩
theorem Inv.bk(I:Inv X pins σ H s):∀b o,X.base.get? b=some o->s.heap.get? b=some o:=λb o e=>(I.bs b o e).1
theorem Inv.mod(I:Inv X pins σ H s):Mod X.K X.mg X.base:=I.ok.mod
theorem Inv.kIn(I:Inv X pins σ H s):X.K.In s.heap:=I.ok.mod.kin.keeps I.bk
theorem Inv.nolimit(I:Inv X pins σ H s):s.heap.NoLimit:=I.ok.mod.nolimit.keeps I.bk
theorem Inv.fr(I:Inv X pins σ H s):∃m,Fr X.base X.env.locals s.heap m:=
 let⟨m,hn,_⟩:=I.loc
 ⟨m,hn,I.bk,afO I.ok.bsz I.ok.above⟩
theorem Inv.lt(I:Inv X pins σ H s):X.env.locals<s.heap.objs.size:=let⟨_,hn,_⟩:=I.loc;hn.lt
theorem Inv.sz(I:Inv X pins σ H s):X.s₀.heap.objs.size<=s.heap.objs.size:=afO I.ok.above (agP I.lt)
theorem Inv.nofs(I:Inv X pins σ H s){a:Addr}(h:s.heap.objs.size<=a):a∉X.fs:=λhb=>by
 obtain⟨_,o,ho,_⟩:=I.ok.funs.mem hb;exact absurd (afG (ae1 ho) (afO I.sz h)) (agJ _)
theorem Inv.cne(I:Inv X pins σ H s):∀x c,X.env.cells.lookup x=some c->c≠X.env.locals:=λx c e z=>by
 obtain⟨v,o,ho,hd⟩:=I.cell x c e;obtain⟨m,⟨o',es,ep,ho',hd',_⟩,_⟩:=I.loc;rw[z,ho']at ho;cases ho;rw[hd']at hd;cases hd
theorem Inv.funs(I:Inv X pins σ H s):s.heap.FunFrames X.base X.outer:=by
 have all:∀(l:List Env),(∀b∈cV l,b∈X.fs)->X.s₀.heap.FunFrames X.base l->s.heap.FunFrames X.base l:=by
  intro l
  induction l with
  |nil=>intro _ _;trivial
  |cons env r ih=>
   intro hs hl;obtain⟨hk,⟨L,o,hf,hn,ho,hd⟩,hr⟩:=hl;have hL:L∈X.fs:=hs L (by unfold cV;rw[filterMap_cons,hf];exact mem_cons_self);obtain⟨sl,e⟩:=I.base.slot L o ho (I.ok.frf L hL) hL λz=>I.ok.exfs L z hL;exact⟨hk,⟨L,_,hf,hn,e,hd⟩,ih (λb hb=>hs b (by unfold cV;rw[filterMap_cons,hf];exact mem_cons_of_mem _ hb)) hr⟩
 exact all X.outer (λ_ hb=>hb) I.ok.funs
theorem Inv.stack(I:Inv X pins σ H s):s.heap.FunFrames X.base X.stack:=by
 rcases I.ok.stk with e|⟨e,hf⟩
 ·rw[e];exact I.funs
 ·rw[e];obtain⟨m,hn,_⟩:=I.loc;refine .cons (by rw[I.ok.kind];decide) hf hn ?_ I.funs;exact Heap.get?_none_of_le (afO I.ok.bsz I.ok.above)
theorem Inv.stkSub(I:Inv X pins σ H s):∀b∈cV X.stack,b∈X.env.locals::X.fs:=λb hb=>by
 rcases I.ok.stk with e|⟨e,hf⟩
 ·rw[e]at hb;exact mem_cons_of_mem _ hb
 ·rw[e]at hb;unfold cV at hb;rw[filterMap_cons,hf]at hb;exact hb
theorem Inv.stkFree(I:Inv X pins σ H s):∀b∈cV X.stack,H b=none:=λb hb=>by
 rcases mem_cons.mp (I.stkSub b hb) with e|hb
 ·rw[e];exact I.free
 ·obtain⟨_,o,ho,_⟩:=I.ok.funs.mem hb;exact I.base.free b o ho (I.ok.frf b hb) λz=>I.ok.exfs b z hb
theorem Inv.step{g':Array GenState}{t':Nat}{d':Drawn}{ch:List Addr}(I:Inv X pins σ H s)
  (hch:∀b∈ch,(b∈X.ex\/X.s₀.heap.objs.size<=b)/\b≠X.env.locals/\(∀x c,X.env.cells.lookup x=some c->c≠b)/\∀p∈X.pn++pins,p.1≠b)
  (keep:∀b o,b≠X.env.locals->b∉X.fs->b∉ch->s.heap.get? b=some o->H b=none->h'.get? b=some o)
  (slot:∀b o,b≠X.env.locals->b∈X.fs->b∉ch->s.heap.get? b=some o->H b=none->∃sl,h'.get? b=some { o with slots:=sl }) (free:∀b o,b∉ch->s.heap.get? b=some o->H b=none->H' b=none)
  (there:∀b o,b∉ch->s.heap.get? b=some o->∃o',h'.get? b=some o')
  (tups:∀b xs,H b=some (.tup xs)->H' b=some (.tup xs)) (frzs:∀b o u,H b=some (.frz o u)->H' b=some (.frz o u)) (tbls:∀b ps,H b=some (.tbl ps)->∃more,H' b=some (.tbl (ps++more)))
  (ns:∀m,s.heap.Ns X.env.locals m->h'.Ns X.env.locals m) (hok:HOk X.prog X.w H' h') (hg:AllBare g'):
  Inv X pins σ H' { s with heap:=h',gens:=g',drawn:=d',toks:=t' }:=by
 have neL:∀b o,X.s₀.heap.get? b=some o->b≠X.env.locals:=λb o e=>ae7 (afG (ae1 e) I.ok.above)
 have neC:∀b o,X.s₀.heap.get? b=some o->b∉X.ex->b∉ch:=λb o e hx hb=>by
  rcases(hch b hb).1 with z|z
  ·exact hx z
  ·exact absurd (afG (ae1 e) z) (agJ _)
 have cellK:∀x c,X.env.cells.lookup x=some c->∀v,s.heap.IsCell c v->h'.IsCell c v:=λx c e v⟨o,ho,hd⟩=>by
  have nch:c∉ch:=λz=>(hch c z).2.2.1 x c e rfl;by_cases hc:c∈X.fs
  ·obtain⟨sl,q⟩:=slot c o (I.cne x c e) hc nch ho (I.freeC x c e);exact⟨_,q,hd⟩
  ·exact⟨o,keep c o (I.cne x c e) hc nch ho (I.freeC x c e),hd⟩
 refine⟨I.ok,I.os,hg,⟨λb o e n hb hx=>?_,λb o e n hb hx=>?_,λb o e n hx=>?_,λb o e hx=>?_,λb xs e=>tups b xs (I.base.tups b xs e),λb o xs e=>frzs b o xs (I.base.frzs b o xs e),λb ps e=>?_⟩,?_,λx c e=>?_,?_,λx c e=>?_,λp hp=>?_,hok,I.len⟩
 ·exact keep b o (neL b o e) hb (neC b o e hx) (I.base.keep b o e n hb hx) (I.base.free b o e n hx)
 ·obtain⟨sl,e1⟩:=I.base.slot b o e n hb hx;obtain⟨sl',e2⟩:=slot b _ (neL b o e) hb (neC b o e hx) e1 (I.base.free b o e n hx);exact⟨sl',e2⟩
 ·obtain⟨o',e1⟩:=I.base.there b o e hx;exact free b o' (neC b o e hx) e1 (I.base.free b o e n hx)
 ·obtain⟨o',e1⟩:=I.base.there b o e hx;exact there b o' (neC b o e hx) e1
 ·obtain⟨m1,e1⟩:=I.base.tbls b ps e;obtain⟨m2,e2⟩:=tbls b _ e1;exact⟨m1++m2,by rw[e2,Array.append_assoc]⟩
 ·obtain⟨m,hn,hl⟩:=I.loc;refine⟨m,ns m hn,λi x v e1 e2 e3=>?_⟩;obtain⟨u,r,l⟩:=hl i x v e1 e2 e3;refine⟨u,r,?_⟩;rcases l with l|⟨k,c,e,z⟩
  ·exact .inl l
  ·exact .inr ⟨k,c,e,cellK x c e _ z⟩
 ·obtain⟨v,z⟩:=I.cell x c e;exact⟨v,cellK x c e v z⟩
 ·obtain⟨m,⟨o,_,_,ho,_⟩,_⟩:=I.loc;exact free _ o (λz=>(hch _ z).2.1 rfl) ho I.free
 ·obtain⟨v,o,ho,hd⟩:=I.cell x c e;exact free c o (λz=>(hch c z).2.2.1 x c e rfl) ho (I.freeC x c e)
 ·obtain⟨e,n,ne,nf,d⟩:=I.pin p hp;have nch:p.1∉ch:=λz=>(hch p.1 z).2.2.2 p hp rfl;exact⟨keep p.1 p.2 ne nf nch e n,free p.1 p.2 nch e n,ne,nf,d⟩
theorem Inv.un{t':Nat}(I:Inv X pins σ H s)(u:Un X.fs [] H H' s.heap h')(hok:HOk X.prog X.w H' h'):Inv X pins σ H' { s with heap:=h',toks:=t' }:=by
 obtain⟨m,⟨o,es,ep,ho,r⟩,_⟩:=id I.loc;obtain⟨sl,hL⟩:=u.any ho I.free (by simp)
 exact I.step (g':=s.gens) (d':=s.drawn) (ch:=[]) (λ_ z=>nomatch z) (λb o _ hb _ e n=>u.keep b o e n hb (by simp)) (λb o _ hb _ e n=>u.slot b o e n hb (by simp)) (λb o _ e n=>u.free b o e n (by simp)) (λb o _ e=>u.there b o e (by simp)) u.tups u.frzs u.tbls (λm' hm=>by
  obtain⟨o',es',ep',ho',r'⟩:=hm;rw[ho]at ho';cases ho'
  exact⟨_,es',ep',hL,r'⟩) hok I.bare
theorem Inv.call{g':Array GenState}{t':Nat}{d':Drawn}{ch:List Addr}(I:Inv X pins σ H s)(u:Un (cV X.stack) ch H H' s.heap h')(hok:HOk X.prog X.w H' h')(hg:AllBare g')
  (hch:∀b∈ch,(b∈X.ex\/X.s₀.heap.objs.size<=b)/\b≠X.env.locals/\(∀x c,X.env.cells.lookup x=some c->c≠b)/\∀p∈X.pn++pins,p.1≠b):
  Inv X pins σ H' { s with heap:=h',gens:=g',drawn:=d',toks:=t' }:=by
 obtain⟨m,⟨o,es,ep,ho,r⟩,_⟩:=id I.loc;obtain⟨sl,hL⟩:=u.any ho I.free λz=>(hch _ z).2.1 rfl
 exact I.step (ch:=ch) hch (λb o hL hb hc e n=>u.keep b o e n (λz=>(mem_cons.mp (I.stkSub b z)).elim hL hb) hc) (λb o _ _ hc e n=>u.any e n hc) (λb o hc e n=>u.free b o e n hc) (λb o hc e=>u.there b o e hc) u.tups u.frzs u.tbls (λm' hm=>by
  obtain⟨o',es',ep',ho',r'⟩:=hm;rw[ho]at ho';cases ho'
  exact⟨_,es',ep',hL,r'⟩) hok hg
theorem Inv.turned{t':Nat}{it:Addr}(I:Inv X pins σ H s)(k:∀b o,b≠it->s.heap.get? b=some o->h'.get? b=some o)(hn:H it=none)(hL:it≠X.env.locals)
  (h1:it∈X.ex\/X.s₀.heap.objs.size<=it) (h2:∀x c,X.env.cells.lookup x=some c->c≠it) (h3:∀p∈X.pn++pins,p.1≠it):Inv X pins σ H { s with heap:=h',toks:=t' }:=by
 have nit:∀b u,H b=some u->b≠it:=λb u e z=>by rw[z,hn]at e;cases e
 refine I.step (g':=s.gens) (d':=s.drawn) (ch:=[it]) (λb hb=>?_) (λb o _ _ hc e _=>k b o (λz=>hc (by simp[z])) e) (λb o _ _ hc e _=>⟨o.slots,k b o (λz=>hc (by simp[z])) e⟩) (λ_ _ _ _ n=>n)
  (λb o hc e=>⟨o,k b o (λz=>hc (by simp[z])) e⟩) (λ_ _ e=>e) (λ_ _ _ e=>e) (λb ps e=>⟨#[],by rw[e];simp⟩) (λm hm=>?_) (λb u e=>?_) I.bare
 ·have e:b=it:=by simpa using hb
  subst e;exact⟨h1,hL,h2,h3⟩
 ·obtain⟨o,es,ep,ho,r⟩:=hm;exact⟨o,es,ep,k _ o (afY hL) ho,r⟩
 ·refine(I.hok b u e).stay (λc v hc q=>k c v ?_ q) (λ_ q=>q) λ_ _ q=>q;rcases hc with z|z
  ·rw[z];exact nit b u e
  ·exact nit c _ z
theorem Inv.tok(I:Inv X pins σ H s)(t:Nat):Inv X pins σ H { s with toks:=t }:=I.un (h':=s.heap) (t':=t) Un.refl I.hok
theorem Inv.kept{t':Nat}(I:Inv X pins σ H s)(k:∀b u,s.heap.get? b=some u->h'.get? b=some u):Inv X pins σ H { s with heap:=h',toks:=t' }:=I.un (Un.kept k) (I.hok.kept k)
theorem Inv.laid{a:Addr}{o:HO}{t':Nat}(I:Inv X pins σ H s)(k:∀b u,s.heap.get? b=some u->h'.get? b=some u)(hp:s.heap.objs.size<=a)(new:ObjOk X.prog X.w (upd H a o) h' a o):
  Inv X pins σ (upd H a o) { s with heap:=h',toks:=t' }:=I.un (Un.laid k hp (I.hok.fresh hp)) (I.hok.laid k hp new)
theorem Inv.write{x e:Addr}{o:HO}{t':Nat}(I:Inv X pins σ H s)(mu:pT (H x))(he:e=x\/H e=some (.own x))(k:∀b u,b≠e->s.heap.get? b=some u->h'.get? b=some u)(heo:∃u,h'.get? e=some u)
  (new:ObjOk X.prog X.w (upd H x o) h' x o):Inv X pins σ (upd H x o) { s with heap:=h',toks:=t' }:=I.un (Un.write mu he k heo) (I.hok.write mu he k heo new)
theorem Inv.weak{σ':List (Option V)}(I:Inv X pins σ H s)(hl:σ'.length=σ.length)(w:∀(i:Nat)v,σ'[i]? =some (some v)->σ[i]? =some (some v)):Inv X pins σ' H s:=
 ⟨I.ok,I.os,I.bare,I.base,let⟨m,hn,hl'⟩:=I.loc;⟨m,hn,λi x v e1 e2 e3=>hl' i x v e1 (w i v e2) e3⟩,I.cell,I.free,I.freeC,I.pin,I.hok,hl.trans I.len⟩
theorem Inv.pins_of{pins':List (Addr×Obj)}(I:Inv X pins σ H s)(h:∀p∈pins',s.heap.get? p.1=some p.2/\H p.1=none/\p.1≠X.env.locals/\p.1∉X.fs/\∀v,p.2.data≠.cell v):Inv X pins' σ H s:=
 ⟨I.ok,I.os,I.bare,I.base,I.loc,I.cell,I.free,I.freeC,λp hp=>(mem_append.mp hp).elim (λz=>I.pin p (mem_append_left _ z)) (h p),I.hok,I.len⟩
theorem GB{N:List Str}(hN:N.Nodup){i j:Nat}{x:Str}(a:N[i]? =some x)(b:N[j]? =some x):i=j:=by
 obtain⟨h1,e1⟩:=ae3.mp a;obtain⟨h2,e2⟩:=ae3.mp b;exact(getElem_inj hN).mp (e1.trans e2.symm)
theorem C7{M:Model}{A:afU}{E:Value->aeV->Prop}{i:Nat}{x:Str}{v:V}{u:Value}{Q:Unit->aeV->Prop}(I:Inv X pins σ H s)(hN:X.N.Nodup)(hi:X.N[i]? =some x)(hx:Loc X.env.scope x)(r:RelV v u)
  (h:∀s',Inv X pins (σ.set i (some v)) H s'->(∃a,afW a s.heap s'.heap/\(a=X.env.locals\/X.env.cells.lookup x=some a))->Q () s') (hf:X.fn x=true\/X.env.scope.names.lookup x=some .local:=by first|exact .inl rfl|exact .inr rfl|assumption):afH M A (storeName X.env x u) Q E s:=by
 obtain⟨m,hn,hl⟩:=id I.loc;have hcls:(X.env.scope.kind==.class||(X.env.scope.kind==.module&&X.env.locals != X.env.globals))=false:=by rw[I.ok.kind];rfl
 have hiσ:i<σ.length:=by rw[I.len];exact(ae3.mp hi).1
 have cne:=I.cne
 have tracked:∀{a:Addr}{h':Heap},(∃o,s.heap.get? a=some o/\H a=none)->afW a s.heap h'->HOk X.prog X.w H h':=λ{a h'}ha hs b ob e=>by
  obtain⟨_,_,hfree⟩:=ha;refine(I.hok b ob e).stay (λc w' hc q=>(hs.2 c ?_).trans q) (λ_ q=>q) λ_ _ q=>q;rintro rfl;rcases hc with rfl|hc
  ·rw[hfree]at e;cases e
  ·rw[hfree]at hc;cases hc
 rcases hx with hk|hk
 ·refine wpAny_storeName_local hk hn (λh' hn' hs=>?_) hcls;obtain⟨oL,_,_,hoL,_⟩:=id hn;refine h _ ⟨I.ok,I.os,I.bare,⟨λb o e n hb hx=>?_,λb o e n hb hx=>?_,I.base.free,λb o e hx=>?_,I.base.tups,I.base.frzs,I.base.tbls⟩,⟨_,hn',λj y v' e1 e2 e3=>?_⟩,λy c e=>?_,I.free,I.freeC,λp hp=>?_,tracked ⟨oL,hoL,I.free⟩ hs,by simpa using I.len⟩ ⟨_,hs,.inl rfl⟩
  ·exact(hs.2 b (ae7 (afG (ae1 e) I.ok.above))).trans (I.base.keep b o e n hb hx)
  ·obtain⟨sl,e1⟩:=I.base.slot b o e n hb hx;exact⟨sl,(hs.2 b (ae7 (afG (ae1 e) I.ok.above))).trans e1⟩
  ·obtain⟨o',e1⟩:=I.base.there b o e hx;exact⟨o',(hs.2 b (ae7 (afG (ae1 e) I.ok.above))).trans e1⟩
  ·by_cases hj:j=i
   ·subst hj;rw[hi]at e1;cases e1;rw[List.getElem?_set_self hiσ]at e2;cases e2;exact⟨u,r,.inl ⟨hk,by simp⟩⟩
   ·rw[ag6 (afY hj)]at e2;obtain⟨u',r',q⟩:=hl j y v' e1 e2 e3;refine⟨u',r',?_⟩;rcases q with⟨k,e⟩|⟨k,c,e,z⟩
    ·refine .inl ⟨k,?_⟩;have:y≠x:=λe=>hj (GB hN e1 (e▸hi));simp[this,e]
    ·exact .inr ⟨k,c,e,z.sameBut hs (cne y c e)⟩
  ·obtain⟨w',z⟩:=I.cell y c e;exact⟨w',z.sameBut hs (cne y c e)⟩
  ·obtain⟨e,n,ne,nf,d⟩:=I.pin p hp;exact⟨(hs.2 p.1 ne).trans e,n,ne,nf,d⟩
 ·have hfn:X.fn x=true:=by
   rcases hf with z|z
   ·exact z
   ·rw[z]at hk;cases hk
  obtain⟨c,hc⟩:=I.ok.has x (.inl hk);obtain⟨w',z⟩:=I.cell x c hc;refine wpAny_storeName_cell I.ok.kind hk hc z (λh' hc' hs=>?_);obtain⟨oc,hoc,hocd⟩:=id z;refine h { s with heap:=h' } ⟨I.ok,I.os,I.bare,⟨λb o e n hb hx=>?_,λb o e n hb hx=>?_,I.base.free,λb o e hx=>?_,I.base.tups,I.base.frzs,I.base.tbls⟩,⟨m,hn.sameBut hs (afY (cne x c hc)),λj y v' e1 e2 e3=>?_⟩,λy c' e=>?_,I.free,I.freeC,λp hp=>?_,tracked ⟨oc,hoc,I.freeC x c hc⟩ hs,by simpa using I.len⟩ ⟨c,hs,.inr hc⟩
  ·exact(hs.2 b (ae7 (afG (ae1 e) (I.ok.cab x c hfn hc)))).trans (I.base.keep b o e n hb hx)
  ·obtain⟨sl,e1⟩:=I.base.slot b o e n hb hx;exact⟨sl,(hs.2 b (ae7 (afG (ae1 e) (I.ok.cab x c hfn hc)))).trans e1⟩
  ·obtain⟨o',e1⟩:=I.base.there b o e hx;exact⟨o',(hs.2 b (ae7 (afG (ae1 e) (I.ok.cab x c hfn hc)))).trans e1⟩
  ·by_cases hj:j=i
   ·subst hj;rw[hi]at e1;cases e1;rw[List.getElem?_set_self hiσ]at e2;cases e2;exact⟨u,r,.inr ⟨.inl hk,c,hc,hc'⟩⟩
   ·rw[ag6 (afY hj)]at e2;obtain⟨u',r',q⟩:=hl j y v' e1 e2 e3;refine⟨u',r',?_⟩;rcases q with q|⟨k,c',e,z'⟩
    ·exact .inl q
    ·refine .inr ⟨k,c',e,z'.sameBut hs ?_⟩;rintro rfl;exact hj (GB hN e1 (I.ok.inj _ _ _ e hc▸hi))
  ·by_cases hcc:c'=c
   ·subst hcc;exact⟨_,hc'⟩
   ·obtain⟨w2,z2⟩:=I.cell y c' e;exact⟨w2,z2.sameBut hs hcc⟩
  ·obtain⟨e,n,ne,nf,d⟩:=I.pin p hp;refine⟨(hs.2 p.1 ?_).trans e,n,ne,nf,d⟩;intro q;rw[q,hoc]at e;have q':oc=p.2:=agK e;exact d w' (by rw[<-q'];exact hocd)
theorem C8{M:Model}{A:afU}{E:Value->aeV->Prop}{i:Nat}{x:Str}{v:V}{u:Value}{Q:Unit->aeV->Prop}(I:Inv X pins σ H s)(hN:X.N.Nodup)(hi:X.N[i]? =some x)(hx:Loc X.env.scope x)(r:RelV v u)
  (h:∀s',Inv X pins (σ.set i (some v)) H s'->Q () s') (hf:X.fn x=true\/X.env.scope.names.lookup x=some .local:=by first|exact .inl rfl|exact .inr rfl|assumption):afH M A (storeName X.env x u) Q E s:=
 C7 I hN hi hx r (λs' I' _=>h s' I') hf
theorem Inv.call'{s':aeV}{ch:List Addr}(I:Inv X pins σ H s)(ho:s'.os=s.os)(u:Un (cV X.stack) ch H H' s.heap s'.heap)(hok:HOk X.prog X.w H' s'.heap)(hg:AllBare s'.gens)
  (hch:∀b∈ch,(b∈X.ex\/X.s₀.heap.objs.size<=b)/\b≠X.env.locals/\(∀x c,X.env.cells.lookup x=some c->c≠b)/\∀p∈X.pn++pins,p.1≠b):Inv X pins σ H' s':=by
 obtain⟨h',g',d',t',o'⟩:=s';have e:o'=s.os:=ho;subst e;exact I.call (g':=g') (t':=t') (d':=d') u hok hg hch
end
noncomputable abbrev XK:=Value->Option Addr->Hp->Prop
noncomputable abbrev St:=List (Option V)
noncomputable abbrev VK:=V->Hp->Prop
noncomputable abbrev TE:=St->Hp->VK->Prop
noncomputable abbrev TT:=St->Hp->(Bool->Hp->Prop)->Prop
noncomputable abbrev TA:=St->Hp->(List V->Hp->Prop)->Prop
structure eK where
 nx:St->Hp->Prop
 rt:VK
 bk:St->Hp->Prop:=λ_ _=>False
 ct:St->Hp->Prop:=λ_ _=>False
noncomputable abbrev TS:=eK->St->Hp->Prop
noncomputable def EP(X:Cx)(pins:List (Addr×Obj))(σ:St)(Q:VK)(u:Value)(s':aeV):Prop:=∃v H',Inv X pins σ H' s'/\RelV v u/\Q v H'
noncomputable def TP(X:Cx)(pins:List (Addr×Obj))(σ:St)(Q:Bool->Hp->Prop)(b:Bool)(s':aeV):Prop:=∃H',Inv X pins σ H' s'/\Q b H'
noncomputable def AP(X:Cx)(pins:List (Addr×Obj))(σ:St)(Q:List V->Hp->Prop)(us:List Value)(s':aeV):Prop:=∃vs H',Inv X pins σ H' s'/\Vals vs us/\Q vs H'
noncomputable def SP(X:Cx)(pins:List (Addr×Obj))(D:eK)(f:Flow)(s':aeV):Prop:=
 match f with
 | .next=>∃σ' H',Inv X pins σ' H' s'/\D.nx σ' H'
 | .brk=>∃σ' H',Inv X pins σ' H' s'/\D.bk σ' H'
 | .cont=>∃σ' H',Inv X pins σ' H' s'/\D.ct σ' H'
 | .ret u=>∃v σ' H',Inv X pins σ' H' s'/\RelV v u/\D.rt v H'
noncomputable def PE(X:Cx)(e:Expr)(t:TE):Prop:=
 ∀(pins:List (Addr×Obj))(s:aeV)(σ:St)(H:Hp)(Q:VK),Inv X pins σ H s->t σ H Q->afH (afT X.prog X.w) X.A (eval e X.env) (EP X pins σ Q) X.xe s
noncomputable def PT(X:Cx)(e:Expr)(t:TT):Prop:=
 ∀(pins:List (Addr×Obj))(s:aeV)(σ:St)(H:Hp)(Q:Bool->Hp->Prop),Inv X pins σ H s->t σ H Q->afH (afT X.prog X.w) X.A (isTrue e X.env (eval e X.env)) (TP X pins σ Q) X.xe s
noncomputable def PW(X:Cx)(e:Expr)(t:TT):Prop:=
 ∀(whole:Sem Value)(pins:List (Addr×Obj))(s:aeV)(σ:St)(H:Hp)(Q:Bool->Hp->Prop),Inv X pins σ H s->t σ H Q->afH (afT X.prog X.w) X.A (isTrue e X.env whole) (TP X pins σ Q) X.xe s
theorem PW.pt{X:Cx}{e:Expr}{t:TT}(h:PW X e t):PT X e t:=h _
noncomputable def PA(X:Cx)(es:List Expr)(t:TA):Prop:=
 ∀(pos:Pos)(pins:List (Addr×Obj))(s:aeV)(σ:St)(H:Hp)(Q:List V->Hp->Prop),Inv X pins σ H s->t σ H Q->afH (afT X.prog X.w) X.A (spliced (backTo pos (af6 es X.env))) (AP X pins σ Q) X.xe s
noncomputable def PS(X:Cx)(st:Stmt)(t:TS):Prop:=
 ∀(pins:List (Addr×Obj))(s:aeV)(σ:St)(H:Hp)(D:eK),Inv X pins σ H s->t D σ H->afH (afT X.prog X.w) X.A (exec st X.env) (SP X pins D) X.xe s
noncomputable def PSs(X:Cx)(st:List Stmt)(t:TS):Prop:=
 ∀(pins:List (Addr×Obj))(s:aeV)(σ:St)(H:Hp)(D:eK),Inv X pins σ H s->t D σ H->afH (afT X.prog X.w) X.A (execs st X.env) (SP X pins D) X.xe s
theorem aK{α:Type}{t:Sem α}{Q Q':α->aeV->Prop}{M:Model}{A:afU}{E:Value->aeV->Prop}{s:aeV}(h:afH M A t Q E s)(hQ:∀a s,Q a s->Q' a s):afH M A t Q' E s:=agS h hQ λ_ _ x=>x
section
variable{X:Cx}
noncomputable def qL(i:Nat):TE:=λσ H Q=>∃v,σ[i]? =some (some v)/\Q v H
noncomputable def tC(v:V):TE:=λ_ H Q=>Q v H
theorem UF{i:Nat}{x:Str}{pos:Pos}(hN:X.N[i]? =some x)(hv:mI X.env.scope x)(hd:(x==("__debug__":Str))=false:=by decide)(hcd:(x==("__classdict__":Str))=false:=by decide):PE X (.Name x pos) (qL i):=by
 intro pins s σ H Q I h;obtain⟨v,e,h⟩:=h;obtain⟨m,hn,hl⟩:=I.loc;obtain⟨u,r,l⟩:=hl i x v hN e hv;have fin:EP X pins σ Q u s:=⟨v,H,I,r,h⟩
 rcases l with⟨hk,hm⟩|⟨hk,c,hc,hcell⟩
 ·exact wpAny_Name (wpAny_loadName_local I.ok.kind hk hn hm fin) hd
 ·rcases hk with hk|hk
  ·exact wpAny_Name (wpAny_loadName_cell I.ok.kind hk hc hcell fin) hd
  ·exact wpAny_Name (wpAny_loadName_free I.ok.kind hk hc hcell fin hcd) hd
theorem pe_int{i j pos}:PE X (.Constant (.int i) j pos) (tC (.int i)):=λ_ _ _ H _ I h=>wpAny_Constant_int ⟨.int i,H,I.tok _,⟨_,rfl⟩,h⟩
theorem pe_bl{b j pos}:PE X (.Constant (.bool b) j pos) (tC (.bl b)):=λ_ _ _ H _ I h=>Constant_bool ⟨.bl b,H,I,rfl,h⟩
theorem pe_non{j pos}:PE X (.Constant .none j pos) (tC .non):=λ_ _ _ H _ I h=>Constant_none ⟨.non,H,I,rfl,h⟩
theorem pe_str{x j pos}:PE X (.Constant (.str x) j pos) (tC (.str x)):=λ_ _ _ H _ I h=>Calls.Constant_str ⟨.str x,H,I.tok _,⟨_,rfl⟩,h⟩
noncomputable def Gl(X:Cx)(x:Str):Prop:=X.env.kindOf x=some .globalImplicit
theorem HD{E:Value->aeV->Prop}{pins:List (Addr×Obj)}{s:aeV}{σ:St}{H:Hp}{x:Str}{u:Value}{pos:Pos}{Q:Value->aeV->Prop}(I:Inv X pins σ H s)(hg:Gl X x)(hm:X.mg x=some u)(h:Q u s)
  (hd:(x==("__debug__":Str))=false:=by decide):afH (afT X.prog X.w) X.A (eval (.Name x pos) X.env) Q E s:=
 Calls.Name_function_global I.ok.kind hg (Calls.loadGlobal_global (by rw[I.ok.glob];exact I.mod.glob.keeps I.bk) hm h) hd
theorem fO{E:Value->aeV->Prop}{pins:List (Addr×Obj)}{s:aeV}{σ:St}{H:Hp}{x:Str}{u:Value}{pos:Pos}{Q:Value->aeV->Prop}(I:Inv X pins σ H s)(hg:Gl X x)(hm:X.mg x=none)(hv:af9 x=some u)(h:Q u s)
  (hn:x≠"__name__":=by decide) (hd:(x==("__debug__":Str))=false:=by decide):afH (afT X.prog X.w) X.A (eval (.Name x pos) X.env) Q E s:=by
 obtain⟨mb,h1,h2⟩:=I.mod.blt;exact Calls.Name_function_global I.ok.kind hg (Calls.loadGlobal_builtin (by rw[I.ok.glob];exact I.mod.glob.keeps I.bk) hm (by rw[I.ok.blt];exact h1.keeps I.bk) ((h2 x hn).trans hv) h) hd
theorem hX{x:Str}{v:V}{u:Value}{pos:Pos}(hg:Gl X x)(hm:X.mg x=none)(hv:af9 x=some u)(r:RelV v u)(hn:x≠"__name__":=by decide)(hd:(x==("__debug__":Str))=false:=by decide):PE X (.Name x pos) (tC v):=
 λ_ _ _ H _ I h=>fO I hg hm hv ⟨v,H,I,r,h⟩ hn hd
variable{a b:Expr}{ta tb:TE}{pos:Pos}
noncomputable def tB(t:TE):TT:=λσ H Q=>t σ H λx H1=>∃c,x=.bl c/\Q c H1
theorem bW{e:Expr}{t:TE}(h:PE X e t)(he:∀whole,isTrue e X.env whole=(do let v <-whole;standAt e.pos;holding [v] (truthy v)):=by intro _;rfl):PT X e (tB t):=by
 intro pins s σ H Q I hw;refine isTrue_plain (aK (h pins s σ H _ I hw) λv s1⟨x,H1,I1,r1,q1⟩=>?_) (he _);obtain⟨d,rfl,q⟩:=q1;cases r1;exact agT ⟨H1,I1,q⟩
variable{tA tB':TT}{bM:List Expr}
noncomputable def C4(t u:TT):TT:=λσ H Q=>t σ H λc H1=>if c=true then u σ H1 Q else Q false H1
noncomputable def CJ(t u:TT):TT:=λσ H Q=>t σ H λc H1=>if c=true then Q true H1 else u σ H1 Q
noncomputable def CK(t:TT):TT:=λσ H Q=>t σ H λc H1=>Q (!c) H1
theorem ER(ha:PT X a tA):PW X (.BoolOp .And [a] pos) tA:=by
 intro wh pins s σ H Q I h;refine isTrue_and (aK (ha pins s σ H Q I h) λc s1 e=>?_)
 cases c with
 |true=>exact isTrue_and_nil e
 |false=>exact e
theorem gU(ha:PT X a tA):PW X (.BoolOp .Or [a] pos) tA:=by
 intro wh pins s σ H Q I h;refine isTrue_or (aK (ha pins s σ H Q I h) λc s1 e=>?_)
 cases c with
 |false=>exact isTrue_or_nil e
 |true=>exact e
theorem ES(ha:PT X a tA)(hb:PW X (.BoolOp .And (b::bM) pos) tB'):PW X (.BoolOp .And (a::b::bM) pos) (C4 tA tB'):=by
 intro wh pins s σ H Q I h;refine isTrue_and (aK (ha pins s σ H _ I h) λc s1⟨H1,I1,q1⟩=>?_)
 cases c with
 |true=>exact hb wh pins s1 σ H1 Q I1 q1
 |false=>exact⟨H1,I1,q1⟩
theorem gW(ha:PT X a tA)(hb:PW X (.BoolOp .Or (b::bM) pos) tB'):PW X (.BoolOp .Or (a::b::bM) pos) (CJ tA tB'):=by
 intro wh pins s σ H Q I h;refine isTrue_or (aK (ha pins s σ H _ I h) λc s1⟨H1,I1,q1⟩=>?_)
 cases c with
 |true=>exact⟨H1,I1,q1⟩
 |false=>exact hb wh pins s1 σ H1 Q I1 q1
theorem dF(ha:PT X a tA):PT X (.UnaryOp .Not a pos) (CK tA):=by
 intro pins s σ H Q I h;exact isTrue_not (ha pins s σ H (λc H1=>Q (!c) H1) I h)
noncomputable def CZ(ta tb:TE):TE:=λσ H Q=>ta σ H λx H1=>∃c,x=.bl c/\if c=true then tb σ H1 Q else Q (.bl false) H1
noncomputable def M9(ta tb:TE):TE:=λσ H Q=>ta σ H λx H1=>∃c,x=.bl c/\if c=true then Q (.bl true) H1 else tb σ H1 Q
noncomputable def NA(ta:TE):TE:=λσ H Q=>ta σ H λx H1=>∃c,x=.bl c/\Q (.bl (!c)) H1
theorem jK{op}{t:TE}(h:PE X a t):PE X (.BoolOp op [a] pos) t:=λpins s σ H Q I hw=>BoolOp_one (h pins s σ H Q I hw)
theorem lF(ha:PE X a ta)(hb:PE X (.BoolOp .And (b::bM) pos) tb):PE X (.BoolOp .And (a::b::bM) pos) (CZ ta tb):=by
 intro pins s σ H Q I h;refine BoolOp_and (aK (ha pins s σ H _ I h) λv s1⟨x,H1,I1,r1,q1⟩=>?_);obtain⟨c,rfl,q1⟩:=q1;cases r1;refine agT ?_
 cases c with
 |true=>exact hb pins s1 σ H1 Q I1 q1
 |false=>exact⟨.bl false,H1,I1,rfl,q1⟩
noncomputable def CT(t:TT)(ta tb:TE):TE:=λσ H Q=>t σ H λc H1=>if c=true then ta σ H1 Q else tb σ H1 Q
theorem E4{c:Expr}(hc:PT X c tA)(ha:PE X a ta)(hb:PE X b tb):PE X (.IfExp c a b pos) (CT tA ta tb):=by
 intro pins s σ H Q I h;refine wpAny_IfExp (aK (hc pins s σ H _ I h) λd s1⟨H1,I1,q1⟩=>?_)
 cases d with
 |true=>exact ha pins s1 σ H1 Q I1 q1
 |false=>exact hb pins s1 σ H1 Q I1 q1
end
noncomputable def SqL(K:PySem.W.Frag)(H:Hp)(a:Addr)(xs:List V):Prop:=
 Rd H a (.lst xs)\/
  ∃(o:Obj)(its:Array Value)(n:Nat),K.lookup a=some o/\o.cls=.type "list"/\o.dict=none/\o.data=.seq its n/\its.size<=sizeLine/\Vals xs its.toList
noncomputable def SqT(K:PySem.W.Frag)(H:Hp)(a:Addr)(xs:List V):Prop:=
 Rd H a (.tup xs)\/
  ∃(o:Obj)(its:Array Value)(n:Nat),K.lookup a=some o/\o.cls=.type "tuple"/\o.data=.seq its n/\its.size<=sizeLine/\Vals xs its.toList
noncomputable def aeG:Value->Option V
 | .none=>some .non
 | .bool b=>some (.bl b)
 | .int i _=>some (.int i)
 | .str x _=>some (.str x)
 | .bytes b _=>some (.byt b)
 | .float b _=>some (.flt b)
 | .ref a=>some (.ref a)
 | .type n=>some (.ty n)
 |_=>none
theorem RelV.abs{x:V}{u:Value}(r:RelV x u):aeG u=some x:=by
 cases x with
 |non=>cases r;rfl
 |bl _=>cases r;rfl
 |int _=>obtain⟨t,rfl⟩:=r;rfl
 |str _=>obtain⟨t,rfl⟩:=r;rfl
 |byt _=>obtain⟨t,rfl⟩:=r;rfl
 |flt _=>obtain⟨t,rfl⟩:=r;rfl
 |ref _=>cases r;rfl
 |ty _=>cases r;rfl
theorem RelV.inj{x y:V}{u:Value}(r:RelV x u)(q:RelV y u):x=y:=agK (r.abs.symm.trans q.abs)
theorem Vals.inj:∀{xs ys:List V}{us:List Value},Vals xs us->Vals ys us->xs=ys
 |_,_,_,.nil,.nil=>rfl
 |_,_,_,.cons r t,.cons r' t'=>by rw[r.inj r',Vals.inj t t']
section
variable{X:Cx}{pins:List (Addr×Obj)}{σ:St}{H:Hp}{s:aeV}{a:Addr}{xs ys:List V}
theorem SqL.of{K:PySem.W.Frag}(h:H a=some (.lst xs)):SqL K H a xs:=.inl (.inl h)
theorem SqT.of{K:PySem.W.Frag}(h:H a=some (.tup xs)):SqT K H a xs:=.inl (.inl h)
theorem Inv.list(I:Inv X pins σ H s)(h:SqL X.K H a xs):∃its:List Value,Vals xs its/\PlainL s.heap a its.toArray/\xs.length<=sizeLine:=by
 rcases h with h|⟨o,its,n,hk,hc,hd,hs,hz,r⟩
 ·obtain⟨z,its,n,r,e⟩:=h.ok I.hok;exact⟨its,r,⟨_,n,e,rfl,rfl,rfl⟩,z⟩
 ·refine⟨its.toList,r,⟨o,n,I.kIn a o hk,hc,hd,by simpa using hs⟩,?_⟩;have e:=r.length;simp only[afF]at e;lia
theorem Inv.tuple(I:Inv X pins σ H s)(h:SqT X.K H a xs):∃its:List Value,Vals xs its/\IsTup s.heap a its.toArray/\xs.length<=sizeLine:=by
 rcases h with h|⟨o,its,n,hk,hc,hs,hz,r⟩
 ·obtain⟨z,its,r,p⟩:=h.ok I.hok;exact⟨its,r,p.1,z⟩
 ·refine⟨its.toList,r,⟨o,I.kIn a o hk,hc,n,by simpa using hs⟩,?_⟩;have e:=r.length;simp only[afF]at e;lia
theorem Inv.list_inj(I:Inv X pins σ H s)(h:SqL X.K H a xs)(h':SqL X.K H a ys):xs=ys:=by
 obtain⟨its,r,⟨o,n,e,_,_,d⟩,_⟩:=I.list h;obtain⟨its',r',⟨o',n',e',_,_,d'⟩,_⟩:=I.list h';rw[e]at e';cases e';rw[d]at d';injection d' with d1 _;have:its=its':=by simpa using congrArg Array.toList d1
 subst this;exact r.inj r'
theorem Inv.tuple_inj(I:Inv X pins σ H s)(h:SqT X.K H a xs)(h':SqT X.K H a ys):xs=ys:=by
 obtain⟨its,r,⟨o,e,_,n,d⟩,_⟩:=I.tuple h;obtain⟨its',r',⟨o',e',_,n',d'⟩,_⟩:=I.tuple h';rw[e]at e';cases e';rw[d]at d';injection d' with d1 _;have:its=its':=by simpa using congrArg Array.toList d1
 subst this;exact r.inj r'
end
noncomputable abbrev Cx.wish(X:Cx)(E:Value->aeV->Prop):Cx:={ X with xe:=E }
noncomputable abbrev Cx.nox(X:Cx):Cx:=X.wish λ_ _=>False
theorem Cx.Ok.wish{X:Cx}(ok:X.Ok)(E:Value->aeV->Prop):(X.wish E).Ok:=
 ⟨ok.mod,ok.kind,ok.glob,ok.blt,ok.above,ok.inj,ok.has,ok.cab,ok.hd,ok.frames,ok.stk,ok.exf,ok.bs,ok.bsz,ok.noex,ok.exfs,ok.funs,ok.frf⟩
theorem Cx.Ok.unwish{X:Cx}{E:Value->aeV->Prop}(ok:(X.wish E).Ok):X.Ok:=
 ⟨ok.mod,ok.kind,ok.glob,ok.blt,ok.above,ok.inj,ok.has,ok.cab,ok.hd,ok.frames,ok.stk,ok.exf,ok.bs,ok.bsz,ok.noex,ok.exfs,ok.funs,ok.frf⟩
section
variable{X:Cx}{pins:List (Addr×Obj)}{σ:St}{H:Hp}{s:aeV}{E:Value->aeV->Prop}
theorem Inv.wish(I:Inv X pins σ H s)(E:Value->aeV->Prop):Inv (X.wish E) pins σ H s:=⟨I.ok.wish E,I.os,I.bare,I.base,I.loc,I.cell,I.free,I.freeC,I.pin,I.hok,I.len⟩
theorem Inv.unwish(I:Inv (X.wish E) pins σ H s):Inv X pins σ H s:=⟨I.ok.unwish,I.os,I.bare,I.base,I.loc,I.cell,I.free,I.freeC,I.pin,I.hok,I.len⟩
theorem SP.unwish{D:eK}{f:Flow}{s':aeV}(h:SP (X.wish E) pins D f s'):SP X pins D f s':=by
 cases f with
 |next=>obtain⟨σ',H',I,q⟩:=h;exact⟨σ',H',I.unwish,q⟩
 |brk=>obtain⟨σ',H',I,q⟩:=h;exact⟨σ',H',I.unwish,q⟩
 |cont=>obtain⟨σ',H',I,q⟩:=h;exact⟨σ',H',I.unwish,q⟩
 |ret u=>obtain⟨v,σ',H',I,r,q⟩:=h;exact⟨v,σ',H',I.unwish,r,q⟩
theorem PE.nox{e:Expr}{t:TE}(h:PE X.nox e t):PE X e t:=λpins s σ H Q I hw=>
 agS (h pins s σ H Q (I.wish _) hw) (λ_ _⟨v,H',I',r,q⟩=>⟨v,H',I'.unwish,r,q⟩) λ_ _ z=>ah3 z
theorem PT.nox{e:Expr}{t:TT}(h:PT X.nox e t):PT X e t:=λpins s σ H Q I hw=>
 agS (h pins s σ H Q (I.wish _) hw) (λ_ _⟨H',I',q⟩=>⟨H',I'.unwish,q⟩) λ_ _ z=>ah3 z
theorem PSs.nox{st:List Stmt}{t:TS}(h:PSs X.nox st t):PSs X st t:=λpins s σ H D I hw=>
 agS (h pins s σ H D (I.wish _) hw) (λ_ _ q=>q.unwish) λ_ _ z=>ah3 z
end
section
variable{X:Cx}{st:Stmt}{bM:List Stmt}{t u:TS}{e:Expr}{te:TE}{pos:Pos}
noncomputable def CO:TS:=λD σ H=>D.nx σ H
noncomputable def qO(t u:TS):TS:=λD σ H=>t { D with nx:=u D } σ H
theorem bE:PSs X [] CO:=λ_ _ σ H _ I h=>wpAny_execs_nil ⟨σ,H,I,h⟩
theorem aE(h1:PS X st t)(h2:PSs X bM u):PSs X (st::bM) (qO t u):=by
 intro pins s σ H D I h;refine wpAny_execs_cons (aK (h1 pins s σ H { D with nx:=u D } I h) λf s1 q=>?_)
 cases f with
 |next=>
  obtain⟨σ',H',I',q⟩:=q
  exact h2 pins s1 σ' H' D I' q
 |ret v=>exact q
 |brk=>exact q
 |cont=>exact q
theorem aC(h1:PS X st t):PSs X [st] t:=by
 intro pins s σ H D I h;refine wpAny_execs_cons (aK (h1 pins s σ H D I h) λf s1 q=>?_)
 cases f with
 |next=>exact wpAny_execs_nil q
 |ret v=>exact q
 |brk=>exact q
 |cont=>exact q
theorem Inv.quiet{pins:List (Addr×Obj)}{σ:St}{H:Hp}{s:aeV}(I:Inv X pins σ H s):interactive X.env=false:=by simp[interactive,I.ok.kind]
noncomputable def CV(te:TE):TS:=λD σ H=>te σ H λ_ H1=>D.nx σ H1
theorem cI(he:PE X e te)(hs:swapsWith e none pos.line X.env=pure false:=by rfl):PS X (.Expr e pos) (CV te):=by
 intro pins s σ H D I h;exact wpAny_Expr_any (aK (he pins s σ H _ I h) λv s1⟨x,H1,I1,r1,q1⟩=>⟨σ,H1,I1,q1⟩) I.quiet hs
noncomputable def CH(te:TE):TS:=λD σ H=>te σ H D.rt
theorem aI(he:PE X e te):PS X (.Return (some e) pos) (CH te):=by
 intro pins s σ H D I h;exact wpAny_Return_some (aK (he pins s σ H _ I h) λv s1⟨x,H1,I1,r1,q1⟩=>⟨x,σ,H1,I1,r1,q1⟩)
noncomputable def CS(c:TT)(t u:TS):TS:=λD σ H=>c σ H λb H1=>if b=true then t D σ H1 else u D σ H1
theorem bF{c:Expr}{a b:List Stmt}{tc:TT}(hc:PT X c tc)(ha:PSs X a t)(hb:PSs X b u):PS X (.If c a b pos) (CS tc t u):=by
 intro pins s σ H D I h;refine wpAny_If (aK (hc pins s σ H _ I h) λd s1⟨H1,I1,q1⟩=>?_)
 cases d with
 |true=>exact ha pins s1 σ H1 D I1 q1
 |false=>exact hb pins s1 σ H1 D I1 q1
noncomputable def NB:TS:=λ_ _ _=>False
theorem kF:PS X st NB:=λ_ _ _ _ _ _ h=>h.elim
end
noncomputable abbrev TG:=V->St->Hp->(St->Hp->Prop)->Prop
noncomputable abbrev fD:=List V->St->Hp->(St->Hp->Prop)->Prop
noncomputable def PG(X:Cx)(target:Expr)(t:TG):Prop:=
 ∀(pins:List (Addr×Obj))(s:aeV)(σ:St)(H:Hp)(v:V)(u:Value)(Q:St->Hp->Prop),Inv X pins σ H s->RelV v u->t v σ H Q->
  afH (afT X.prog X.w) X.A (assign target X.env u) (λ_ s'=>∃σ' H',Inv X pins σ' H' s'/\Q σ' H') X.xe s
noncomputable def mO(X:Cx)(ts:List Expr)(t:fD):Prop:=
 ∀(pins:List (Addr×Obj))(s:aeV)(σ:St)(H:Hp)(vs:List V)(us:List Value)(Q:St->Hp->Prop),Inv X pins σ H s->Vals vs us->t vs σ H Q->
  afH (afT X.prog X.w) X.A (assignInOrder ((assignEach ts X.env).map (·.2)) us) (λ_ s'=>∃σ' H',Inv X pins σ' H' s'/\Q σ' H') X.xe s
noncomputable abbrev pR:=V->V->V->Hp->(Hp->Prop)->Prop
noncomputable def KB(X:Cx)(t:pR):Prop:=
 ∀(pins:List (Addr×Obj))(s:aeV)(σ:St)(H:Hp)(o i v:V)(ov iv u:Value)(Q:Hp->Prop),Inv X pins σ H s->RelV o ov->RelV i iv->RelV v u->t o i v H Q->
  afH (afT X.prog X.w) X.A (setItem ov iv u) (λ_ s'=>∃H',Inv X pins σ H' s'/\Q H') X.xe s
section
variable{X:Cx}{pos:Pos}
noncomputable def jR(i:Nat):TG:=λv σ H Q=>Q (σ.set i (some v)) H
theorem aN{i:Nat}{x:Str}(hN:X.N.Nodup)(hi:X.N[i]? =some x)(hx:Loc X.env.scope x)(hf:X.fn x=true\/X.env.scope.names.lookup x=some .local:=by first|exact .inl rfl|exact .inr rfl|assumption):PG X (.Name x pos) (jR i):=by
 intro pins s σ H v u Q I r h;exact wpAny_assign_Name (C8 I hN hi hx r (λs' I'=>⟨_,H,I',h⟩) hf)
noncomputable def vW:fD:=λvs σ H Q=>vs=[]/\Q σ H
noncomputable def vX(t:TG)(u:fD):fD:=λvs σ H Q=>∃v r,vs=v::r/\t v σ H λσ' H'=>u r σ' H' Q
theorem gA:mO X [] vW:=by
 intro pins s σ H vs us Q I r h;obtain⟨e,h⟩:=h;subst e;cases r;exact assignInOrder_nil ⟨σ,H,I,h⟩
theorem cF{e:Expr}{es:List Expr}{t:TG}{u:fD}(h1:PG X e t)(h2:mO X es u)
  (hs:(assignEach (e::es) X.env).map (·.2)=assign e X.env::(assignEach es X.env).map (·.2):=by rfl):mO X (e::es) (vX t u):=by
 intro pins s σ H vs us Q I r h;obtain⟨v,vr,e1,h⟩:=h;subst e1
 cases r with
 |cons r rr=>
  rw[hs];refine assignInOrder_cons (aK (h1 pins s σ H _ _ _ I r h) λ_ s1⟨σ1,H1,I1,q1⟩=>?_);exact h2 pins s1 σ1 H1 _ _ Q I1 rr q1
noncomputable def pC(K:PySem.W.Frag)(n:Nat)(t:fD):TG:=λv σ H Q=>∃a xs,v=.ref a/\SqT K H a xs/\xs.length=n/\t xs σ H Q
theorem UD{es:List Expr}{k:Nat}{t:fD}{n:Nat}(hc:X.calm=true)(h:mO X es t)
  (hn:(assignEach es X.env).length=n:=by rfl) (hst:(assignEach es X.env).findIdx? (·.1)=none:=by rfl):PG X (.Tuple es k pos) (pC X.K n t):=by
 intro pins s σ H v u Q I r hw;obtain⟨a,xs,e1,hq,hl,hw⟩:=hw;subst e1;cases r;obtain⟨its,rv,ht,hz⟩:=I.tuple hq;refine assign_Tuple_tuple (I.ok.hd hc) ht (by simp[hn,<-hl,rv.length]) hst λh' hx=>?_;have I1:Inv X pins σ H { s with heap:=h' }:=I.kept (t':=s.toks) λb o e=>hx b o (ae7 (ae1 e)) e;exact h pins _ σ H xs _ Q I1 (by simpa using rv) hw
noncomputable def IC(to ti:TE)(t:pR):TG:=λv σ H Q=>to σ H λo H1=>ti σ H1 λi H2=>t o i v H2 λH3=>Q σ H3
theorem nV{o i:Expr}{to ti:TE}{t:pR}(ho:PE X o to)(hi:PE X i ti)(hs:KB X t)
  (ha:∀v,assign (.Subscript o i pos) X.env v=(do
   let ov <-holding [v] (eval o X.env)
   let iv <-holding [v,ov] (eval i X.env)
   standAt pos
   holding [v,ov,iv] (setItem ov iv v)
   release [v,ov,iv] []):=by intro _;rfl):PG X (.Subscript o i pos) (IC to ti t):=by
 intro pins s σ H v u Q I r h;rw[ha];refine aeS (af2 (aK (ho pins s σ H _ I h) λov s1⟨x,H1,I1,r1,q1⟩=>?_));refine aeS (af2 (aK (hi pins s1 σ H1 _ I1 q1) λiv s2⟨y,H2,I2,r2,q2⟩=>?_));refine aeS (wpAny_standAt (aeS (af2 (aK (hs pins s2 σ H2 x y v ov iv u _ I2 r1 r2 r q2) λ_ s3⟨H3,I3,q3⟩=>?_))));exact wpAny_release ⟨σ,H3,I3,q3⟩
noncomputable def nE(te:TE)(g:TG):TS:=λD σ H=>te σ H λx H1=>g x σ H1 D.nx
theorem kG{tg e:Expr}{te:TE}{g:TG}(he:PE X e te)(hg:PG X tg g)(hs:swapsWithSole [tg] e pos.line X.env=pure false:=by rfl)(hw:swappedStores [tg] e X.env=pure none:=by rfl)
  (h1:(assignEach [tg] X.env).map (·.2)=[assign tg X.env]:=by rfl):PS X (.Assign [tg] e pos) (nE te g):=by
 intro pins s σ H D I h;refine wpAny_Assign_stores (aK (he pins s σ H _ I h) λv s1⟨x,H1,I1,r1,q1⟩=>?_) hs hw;rw[h1];exact aK (hg pins s1 σ H1 x v _ I1 r1 q1) λ_ s2 q=>q
theorem aT{i:Nat}{x:Str}{e:Expr}{te:TE}{pos':Pos}(hN:X.N.Nodup)(hi:X.N[i]? =some x)(hx:Loc X.env.scope x)(he:PE X e te)(hs:swapsWith e (some (.Name x pos')) pos.line X.env=pure false:=by rfl)(hf:X.fn x=true\/X.env.scope.names.lookup x=some .local:=by first|exact .inl rfl|exact .inr rfl|assumption):
  PS X (.Assign [.Name x pos'] e pos) (nE te (jR i)):=by
 intro pins s σ H D I h;refine wpAny_Assign_Name (aK (he pins s σ H _ I h) λv s1⟨y,H1,I1,r1,q1⟩=>?_) hs;exact C8 I1 hN hi hx r1 (λs2 I2=>⟨_,H1,I2,q1⟩) hf
noncomputable def CC(c:TT)(tb:TS):TS:=λD σ H=>∃W:Nat->St->Hp->Prop,(∃m,W m σ H)/\∀m σ H,W m σ H->
 c σ H λb H1=>if b=true then ∃N:St->Hp->Prop,(∀σ' H',N σ' H'->∃m',m'<m/\W m' σ' H')/\tb { D with nx:=N,ct:=N,bk:=D.nx } σ H1 else D.nx σ H1
theorem uJ{c:Expr}{body:List Stmt}{tc:TT}{tb:TS}(hp:agL (afT X.prog X.w) X.A X.env X.xe)(hc:PT X c tc)(hb:PSs X body tb):PS X (.While c body [] pos) (CC tc tb):=by
 intro pins s σ H D I h;obtain⟨W,⟨m0,w0⟩,turn⟩:=h;refine wpAny_While (codeAny_whileLoop (λn s'=>∃σ' H',Inv X pins σ' H' s'/\W n σ' H') ?_ m0 ⟨σ,H,I,w0⟩);rintro n s1 ⟨σ1,H1,I1,w1⟩;refine aiC hp (aK (hc pins s1 σ1 H1 _ I1 (turn n σ1 H1 w1)) λb s2⟨H2,I2,q2⟩=>?_)
 cases b with
 | true=>
  obtain⟨N,hN,q2⟩:=q2;rw[if_pos rfl];refine aiC hp (aK (hb pins s2 σ1 H2 _ I2 q2) λf s3 q3=>?_)
  cases f with
  |next=>
   obtain⟨σ3,H3,I3,n3⟩:=q3;obtain⟨m',hm,w3⟩:=hN σ3 H3 n3
   exact⟨m',hm,σ3,H3,I3,w3⟩
  |cont=>
   obtain⟨σ3,H3,I3,n3⟩:=q3;obtain⟨m',hm,w3⟩:=hN σ3 H3 n3
   exact⟨m',hm,σ3,H3,I3,w3⟩
  |brk=>exact q3
  |ret v=>exact q3
 |false=>
  rw[if_neg afK];exact wpAny_execs_nil ⟨σ1,H2,I2,q2⟩
end
structure It where
 go:Nat->Hp->Prop
 yld:Nat->Hp->V->Hp->Prop
 stop:Nat->Hp->Prop
noncomputable def fV(X:Cx)(pins:List (Addr×Obj))(H:Hp)(b:Addr):Prop:=
 H b=none/\b≠X.env.locals/\b∉X.fs/\(b∈X.ex\/X.s₀.heap.objs.size<=b)/\(∀x c,X.env.cells.lookup x=some c->c≠b)/\∀p∈X.pn++pins,p.1≠b
theorem Inv.fpOk{X:Cx}{pins:List (Addr×Obj)}{σ:St}{H H':Hp}{s:aeV}{b:Addr}(I:Inv X pins σ H s)(hb:s.heap.objs.size<=b)(hn:H' b=none):fV X pins H' b:=by
 refine⟨hn,Nat.ne_of_gt (afG I.lt hb),I.nofs hb,.inr (afO I.sz hb),λx c e z=>?_,λp hp z=>?_⟩
 ·obtain⟨v,q⟩:=I.cell x c e;exact absurd (afG q.lt (by rw[z];exact hb)) (agJ _)
 ·exact absurd (afG (ae1 (I.pin p hp).1) (by rw[z];exact hb)) (agJ _)
structure kU (P:afL) (w:agC) (K:PySem.W.Frag) (tg:Expr) (J:It) (fp:List Addr) (it:Addr) (tn:Nat->Heap->Prop):Prop where
 mem:it∈fp
 obj:∀i h,tn i h->∀b∈fp,∃o,h.get? b=some o/\∀v,o.data≠.cell v
 keep:∀i h h',tn i h->(∀b∈fp,∀o,h.get? b=some o->h'.get? b=some o)->tn i h'
 item:∀(X:Cx),X.prog=P->X.w=w->X.K=K->X.calm=true->∀(i:Nat)(pins:List (Addr×Obj))(s:aeV)(σ:St)(H:Hp)(E:Value->aeV->Prop),Inv X pins σ H s->(∀b∈fp,fV X pins H b)->tn i s.heap->J.go i H->
  afH (afT P w) X.A (aiO (.ref it)) (λr s1=>∃u,r=some u/\
   afH (afT P w) X.A (letOwnedTupleGo tg (.ref it) u) (λ_ s2=>∃x H',Inv X pins σ H' s2/\RelV x u/\J.yld i H x H'/\tn (i+1) s2.heap/\∀b∈fp,H' b=none) E s1) E s
 done:∀(X:Cx),X.prog=P->X.w=w->X.K=K->X.calm=true->∀(i:Nat)(pins:List (Addr×Obj))(s:aeV)(σ:St)(H:Hp)(E:Value->aeV->Prop),Inv X pins σ H s->(∀b∈fp,fV X pins H b)->tn i s.heap->J.stop i H->
  afH (afT P w) X.A (aiO (.ref it)) (λr s1=>r=none/\Inv X pins σ H s1) E s
 self:∀(A:afU)(i:Nat)(s:aeV)(Q:Value->aeV->Prop)(E:Value->aeV->Prop),tn i s.heap->Q (.ref it) s->afH (afT P w) A (pyIter (.ref it)) Q E s
noncomputable abbrev TI:=St->Hp->(It->Hp->Prop)->Prop
noncomputable def KC(X:Cx)(pins:List (Addr×Obj))(σ:St)(tg:Expr)(R:It->Hp->Prop)(itv:Value)(s2:aeV):Prop:=
 ∃(it:Addr)(fp:List Addr)(tn:Nat->Heap->Prop)(J:It)(H':Hp),itv=.ref it/\Inv X pins σ H' s2/\kU X.prog X.w X.K tg J fp it tn/\tn 0 s2.heap/\(∀b∈fp,fV X pins H' b)/\R J H'
noncomputable def PI(X:Cx)(tg iter:Expr)(wi:TI):Prop:=
 ∀(pins:List (Addr×Obj))(s:aeV)(σ:St)(H:Hp)(R:It->Hp->Prop),Inv X pins σ H s->wi σ H R->
  afH (afT X.prog X.w) X.A (eval iter X.env) (λv s1=>afH (afT X.prog X.w) X.A (pyIter v) (KC X pins σ tg R) X.xe s1) X.xe s
theorem vT{M:Model}{A:afU}{E:Value->aeV->Prop}{s:aeV}{tg:Expr}{it:Addr}{u:Value}{o:Obj}{n:String}{vs:Array Value}{Q:Unit->aeV->Prop}(ho:s.heap.get? it=some o)(hc:o.cls=.type n)(hd:o.data=.fields vs)
    (hn:["enumerate","zip","dict_itemiterator","dict_reverseitemiterator","odict_iterator","itertools.zip_longest","itertools.pairwise"].contains n=false) (hQ:Q () s):afH M A (letOwnedTupleGo tg (.ref it) u) Q E s:=by
  unfold letOwnedTupleGo
  cases tg <;> first
    |exact aeX hQ
    |(cases u <;> first
        |exact aeX hQ
        | (refine aeS (wpAny_load ho ?_)
           rw[hc,hd];show afH M A (if(["enumerate","zip","dict_itemiterator","dict_reverseitemiterator","odict_iterator","itertools.zip_longest","itertools.pairwise"].contains n&&vs[0]? ==some (rawInt _))=true then _ else _) Q E s
           rw[if_neg (by intro h;rw[hn,Bool.false_and]at h;cases h)]
           exact aeX hQ))
noncomputable def iQ(K:PySem.W.Frag)(a:Addr):It:=
 ⟨λi H=>∃xs x,SqL K H a xs/\xs[i]? =some x,λi H x H'=>H'=H/\∀xs,SqL K H a xs->xs[i]? =some x,λi H=>∃xs,SqL K H a xs/\xs.length<=i⟩
noncomputable def iP(K:PySem.W.Frag)(a:Addr):It:=
 ⟨λi H=>∃xs x,SqT K H a xs/\xs[i]? =some x,λi H x H'=>H'=H/\∀xs,SqT K H a xs->xs[i]? =some x,λi H=>∃xs,SqT K H a xs/\xs.length<=i⟩
noncomputable def fU(lo:Int)(n:Nat):It:=⟨λi _=>i<n,λi H x H'=>H'=H/\x=.int (lo+i),λi _=>n<=i⟩
theorem MT{P:afL}{w:agC}{K:PySem.W.Frag}{tg:Expr}(a it:Addr):kU P w K tg (iQ K a) [it] it (λi h=>h.IsListIter it a i) where
 mem:=by simp
 obj:=λi h st b hb=>by
  have e:b=it:=by simpa using hb
  subst e;obtain⟨o,e,c,d⟩:=st;exact⟨o,e,λv z=>by rw[d]at z;cases z⟩
 keep:=λi h h' st k=>st.at λo e=>k it (by simp) o e
 item:=by
  intro X hP hw hK hc i pins s σ H E I hf st hg;subst hP hw hK;obtain⟨xs,x,hq,hx⟩:=hg;obtain⟨its,rv,p,hz⟩:=I.list hq;obtain⟨u,hu,ru⟩:=rv.get hx;obtain⟨f0,f1,f2,f3,f4,f5⟩:=hf it (by simp);refine wpAny_pyNext_list_item st p.isList (x:=u) (by simpa using hu) λh' st' sb=>?_;have I1:Inv X pins σ H { s with heap:=h' }:=I.turned (t':=s.toks) (λb o hb e=>(sb.2 b hb).trans e) f0 f1 f3 f4 f5;obtain⟨o,e,c,d⟩:=id st';exact⟨u,rfl,vT (s:={ s with heap:=h' }) e c d (by decide) ⟨x,H,I1,ru,⟨rfl,λys hy=>by rw[I.list_inj hy hq];exact hx⟩,st',λb hb=>(hf b hb).1⟩⟩
 done:=by
  intro X hP hw hK hc i pins s σ H E I hf st hg;subst hP hw hK;obtain⟨xs,hq,hx⟩:=hg;obtain⟨its,rv,p,hz⟩:=I.list hq;obtain⟨f0,f1,f2,f3,f4,f5⟩:=hf it (by simp);have hl:=rv.length;exact wpAny_pyNext_list_end (I.ok.hd hc) st p.isList (by simp;lia) λh' eb=>⟨rfl,I.turned (t':=s.toks) (λb o hb e=>eb b o hb e) f0 f1 f3 f4 f5⟩
 self:=λ_ _ _ _ _ st h=>wpAny_pyIter_listiter st h
theorem MR{P:afL}{w:agC}{K:PySem.W.Frag}{tg:Expr}(a it:Addr):kU P w K tg (iP K a) [it] it (λi h=>h.IsTupleIter it a i) where
 mem:=by simp
 obj:=λi h st b hb=>by
  have e:b=it:=by simpa using hb
  subst e;obtain⟨o,e,c,d⟩:=st;exact⟨o,e,λv z=>by rw[d]at z;cases z⟩
 keep:=λi h h' st k=>st.at λo e=>k it (by simp) o e
 item:=by
  intro X hP hw hK hc i pins s σ H E I hf st hg;subst hP hw hK;obtain⟨xs,x,hq,hx⟩:=hg;obtain⟨its,rv,p,hz⟩:=I.tuple hq;obtain⟨u,hu,ru⟩:=rv.get hx;obtain⟨f0,f1,f2,f3,f4,f5⟩:=hf it (by simp);refine wpAny_pyNext_tuple_item st (show s.heap.IsTuple a its.toArray from p) (x:=u) (by simpa using hu) λh' st' sb=>?_;have I1:Inv X pins σ H { s with heap:=h' }:=I.turned (t':=s.toks) (λb o hb e=>(sb.2 b hb).trans e) f0 f1 f3 f4 f5;obtain⟨o,e,c,d⟩:=id st';exact⟨u,rfl,vT (s:={ s with heap:=h' }) e c d (by decide) ⟨x,H,I1,ru,⟨rfl,λys hy=>by rw[I.tuple_inj hy hq];exact hx⟩,st',λb hb=>(hf b hb).1⟩⟩
 done:=by
  intro X hP hw hK hc i pins s σ H E I hf st hg;subst hP hw hK;obtain⟨xs,hq,hx⟩:=hg;obtain⟨its,rv,p,hz⟩:=I.tuple hq;obtain⟨f0,f1,f2,f3,f4,f5⟩:=hf it (by simp);have hl:=rv.length;exact wpAny_pyNext_tuple_end (I.ok.hd hc) st (show s.heap.IsTuple a its.toArray from p) (by simp;lia) λh' eb=>⟨rfl,I.turned (t':=s.toks) (λb o hb e=>eb b o hb e) f0 f1 f3 f4 f5⟩
 self:=λ_ _ _ _ _ st h=>wpAny_pyIter_tupleiter st h
theorem MS{P:afL}{w:agC}{K:PySem.W.Frag}{tg:Expr}(it:Addr)(lo:Int)(n:Nat):kU P w K tg (fU lo n) [it] it (λi h=>IsRangeIter h it (lo+(i:Nat)*1) ((n:Int)-(i:Nat)) 1) where
 mem:=by simp
 obj:=λi h st b hb=>by
  have e:b=it:=by simpa using hb
  subst e
  exact⟨_,st,λv z=>by
   have z':Data.fields _=Data.cell v:=z
   cases z'⟩
 keep:=λi h h' st k=>k it (by simp) _ st
 item:=by
  intro X hP hw hK hc i pins s σ H E I hf st hg;subst hP hw hK;obtain⟨f0,f1,f2,f3,f4,f5⟩:=hf it (by simp);have W:=Walks.range (prog:=X.prog) (w:=X.w) (I.ok.hd hc) it lo 1 n;refine W.item i s _ _ hg st λv h' tk hv st' kk=>?_;obtain⟨t,rfl⟩:=hv;have I1:Inv X pins σ H { s with heap:=h',toks:=tk }:=I.turned (λb o hb e=>kk b o (by simpa using hb) e) f0 f1 f3 f4 f5;refine⟨_,rfl,vT (s:={ s with heap:=h',toks:=tk }) (n:="range_iterator") st' rfl rfl (by decide) ⟨.int (lo+i),H,I1,⟨t,?_⟩,⟨rfl,rfl⟩,st',λb hb=>(hf b hb).1⟩⟩;rw[Int.mul_one]
 done:=by
  intro X hP hw hK hc i pins s σ H E I hf st hg;subst hP hw hK;obtain⟨f0,f1,f2,f3,f4,f5⟩:=hf it (by simp);exact wpAny_pyNext_range_end (I.ok.hd hc) st (by have:n<=i:=hg;lia) λh' eb=>⟨rfl,I.turned (t':=s.toks) (λb o hb e=>eb b o hb e) f0 f1 f3 f4 f5⟩
 self:=λ_ _ _ _ _ st h=>wpAny_pyIter_rangeiter st h
section
variable{X:Cx}{tg:Expr}
noncomputable def vR(K:PySem.W.Frag)(tl:TE):TI:=λσ H R=>tl σ H λx H1=>∃a,x=.ref a/\(∃xs,SqL K H1 a xs)/\R (iQ K a) H1
noncomputable def vQ(K:PySem.W.Frag)(tl:TE):TI:=λσ H R=>tl σ H λx H1=>∃a,x=.ref a/\(∃xs,SqT K H1 a xs)/\R (iP K a) H1
theorem UC{l:Expr}{tl:TE}(hl:PE X l tl):PI X tg l (vR X.K tl):=by
 intro pins s σ H R I h;refine aK (hl pins s σ H _ I h) λv s1⟨x,H1,I1,r1,q1⟩=>?_;obtain⟨a,e,⟨xs,hq⟩,q⟩:=q1;subst e;cases r1;obtain⟨its,rv,p,hz⟩:=I1.list hq;refine ahX p.isList ?_;refine⟨s1.heap.objs.size,[s1.heap.objs.size],_,_,H1,rfl,I1.kept (t':=s1.toks) λb o e=>aeT _ e,MT a _,⟨_,aeZ _ rfl,rfl,rfl⟩,λb hb=>?_,q⟩;have e:b=s1.heap.objs.size:=by simpa using hb
 subst e;exact I1.fpOk (aeU _) (I1.hok.fresh (aeU _))
theorem UA{l:Expr}{tl:TE}(hl:PE X l tl):PI X tg l (vQ X.K tl):=by
 intro pins s σ H R I h;refine aK (hl pins s σ H _ I h) λv s1⟨x,H1,I1,r1,q1⟩=>?_;obtain⟨a,e,⟨xs,hq⟩,q⟩:=q1;subst e;cases r1;obtain⟨its,rv,p,hz⟩:=I1.tuple hq;refine wpAny_pyIter_tuple (show s1.heap.IsTuple a its.toArray from p) ?_;refine⟨s1.heap.objs.size,[s1.heap.objs.size],_,_,H1,rfl,I1.kept (t':=s1.toks) λb o e=>aeT _ e,MR a _,⟨_,aeZ _ rfl,rfl,rfl⟩,λb hb=>?_,q⟩;have e:b=s1.heap.objs.size:=by simpa using hb
 subst e;exact I1.fpOk (aeU _) (I1.hok.fresh (aeU _))
theorem ED{pins:List (Addr×Obj)}{σ:St}{H:Hp}{s:aeV}{R:It->Hp->Prop}{E:Value->aeV->Prop}{lo hi:Int}{t u v:Tok}{tk:Nat}(I:Inv X pins σ H s)(h1:-(2^62)<=lo)(h2:lo<2^62)(h3:-(2^62)<=hi)(h4:hi<2^62)
  (q:R (fU lo (hi-lo).toNat) H):afH (afT X.prog X.w) X.A (pyIter (.ref s.heap.objs.size)) (KC X pins σ tg R) E { s with heap:=s.heap.push { cls:=.type "range",data:=.fields #[.int lo t,.int hi u,.int 1 v] },toks:=tk }:=by
 refine wpAny_pyIter_range (IsRange.new ..) (small_one h1 h2 h3 h4) ?_;have I1:Inv X pins σ H { s with heap:=s.heap.push { cls:=.type "range",data:=.fields #[.int lo t,.int hi u,.int 1 v] },toks:=tk }:=I.kept λb o e=>aeT _ e
 refine⟨(s.heap.push { cls:=.type "range",data:=.fields #[.int lo t,.int hi u,.int 1 v] }).objs.size,[(s.heap.push { cls:=.type "range",data:=.fields #[.int lo t,.int hi u,.int 1 v] }).objs.size],_,_,H,rfl,
  I1.kept (t':=tk) λb o e=>aeT _ e,MS _ lo (hi-lo).toNat,?_,λb hb=>?_,q⟩
 ·have e1:lo+((0:Nat):Int)*1=lo:=by simp
  have e2:(((hi-lo).toNat:Nat):Int)-((0:Nat):Int)=af8.Range.rangeSize lo hi 1:=by rw[rangeSize_one];split <;> lia
  show IsRangeIter _ _ (lo+((0:Nat):Int)*1) ((((hi-lo).toNat:Nat):Int)-((0:Nat):Int)) 1;rw[e1,e2];exact aeZ _ rfl
 ·have e:b=(s.heap.push { cls:=.type "range",data:=.fields #[.int lo t,.int hi u,.int 1 v] }).objs.size:=by simpa using hb
  subst e;exact I1.fpOk (aeU _) (I1.hok.fresh (aeU _))
noncomputable def HW(ta:TA):TI:=λσ H R=>ta σ H λvs H1=>∃j:Int,vs=[.int j]/\-(2^62)<=j/\j<2^62/\R (fU 0 j.toNat) H1
noncomputable def HV(ta:TA):TI:=λσ H R=>ta σ H λvs H1=>∃i j:Int,vs=[.int i,.int j]/\(-(2^62)<=i/\i<2^62/\-(2^62)<=j/\j<2^62)/\R (fU i (j-i).toNat) H1
theorem bU{a:Expr}{ta:TA}{p pos:Pos}(hg:Gl X "range")(hm:X.mg "range"=none)(ha:PA X [a] ta)(hs:af6 [a] X.env=[(false,eval a X.env)]:=by rfl):PI X tg (.Call (.Name "range" p) [a] [] pos) (HW ta):=by
 intro pins s σ H R I h;refine Call_ (fO I hg hm boot_range (agM (aK (ha pos pins s σ H _ I h) λus s1⟨vs,H1,I1,r1,q1⟩=>?_) hs rfl));obtain⟨j,e,q1,q2,q⟩:=q1;subst e
 cases r1 with
 |cons r rr=>
  cases rr;obtain⟨t,rfl⟩:=r;exact call_range_1 (ED I1 (by lia) (by lia) q1 q2 (by simpa using q))
theorem UB{a b:Expr}{ta:TA}{p pos:Pos}(hg:Gl X "range")(hm:X.mg "range"=none)(ha:PA X [a,b] ta)(hs:af6 [a,b] X.env=[(false,eval a X.env),(false,eval b X.env)]:=by rfl)(hs2:af6 [b] X.env=[(false,eval b X.env)]:=by rfl):
  PI X tg (.Call (.Name "range" p) [a,b] [] pos) (HV ta):=by
 intro pins s σ H R I h;refine Call_ (fO I hg hm boot_range (agM (aK (ha pos pins s σ H _ I h) λus s1⟨vs,H1,I1,r1,q1⟩=>?_) (by rw[hs,hs2]) (by rw[hs2];rfl)));obtain⟨i,j,e,⟨q1,q2,q3,q4⟩,q⟩:=q1;subst e
 cases r1 with
 | cons r rr=>
  cases rr with
  |cons r' rr=>
   cases rr;obtain⟨t,rfl⟩:=r;obtain⟨t',rfl⟩:=r';exact call_range_2 (ED I1 q1 q2 q3 q4 q)
noncomputable def CU(wi:TI)(g:TG)(tb:TS):TS:=λD σ H=>wi σ H λJ H1=>∃W:Nat->Nat->St->Hp->Prop,(∃m,W 0 m σ H1)/\∀i m σ H,W i m σ H->
 (J.stop i H/\D.nx σ H)\/(J.go i H/\∃N:St->Hp->Prop,(∀σ' H',N σ' H'->∃m',m'<m/\W (i+1) m' σ' H')/\∀x H',J.yld i H x H'->g x σ H' λσ2 H2=>tb { D with nx:=N,ct:=N,bk:=D.nx } σ2 H2)
noncomputable def iT(fp:List Addr)(h:Heap):List (Addr×Obj):=fp.filterMap λb=>(h.get? b).map λo=>(b,o)
theorem oQ{fp:List Addr}{h:Heap}{b:Addr}{o:Obj}(hb:b∈fp)(e:h.get? b=some o):(b,o)∈iT fp h:=mem_filterMap.mpr ⟨b,hb,by rw[e];rfl⟩
theorem FX{fp:List Addr}{h:Heap}{p:Addr×Obj}(hp:p∈iT fp h):p.1∈fp/\h.get? p.1=some p.2:=by
 obtain⟨b,hb,e⟩:=mem_filterMap.mp hp
 cases q:h.get? b with
 |none=>rw[q]at e;cases e
 |some o=>
  rw[q]at e;have e':(b,o)=p:=agK e;subst e';exact⟨hb,q⟩
theorem Inv.pinned{pins:List (Addr×Obj)}{σ:St}{H:Hp}{s:aeV}{fp:List Addr}(I:Inv X pins σ H s)(hf:∀b∈fp,fV X pins H b)(ho:∀b∈fp,∃o,s.heap.get? b=some o/\∀v,o.data≠.cell v):Inv X (pins++iT fp s.heap) σ H s:=
 I.pins_of λp hp=>(mem_append.mp hp).elim (λz=>I.pin p (mem_append_right _ z)) λz=>by
  obtain⟨hb,e⟩:=FX z;obtain⟨f0,f1,f2,_⟩:=hf p.1 hb;obtain⟨o,e',d⟩:=ho p.1 hb;rw[e]at e';cases e';exact⟨e,f0,f1,f2,d⟩
theorem Inv.unpinned{pins pl:List (Addr×Obj)}{σ:St}{H:Hp}{s:aeV}(I:Inv X (pins++pl) σ H s):Inv X pins σ H s:=I.pins_of λp hp=>I.pin p (mem_append_right _ (mem_append_left _ hp))
theorem cE{iter:Expr}{body:List Stmt}{wi:TI}{g:TG}{tb:TS}{pos:Pos}(hp:agL (afT X.prog X.w) X.A X.env X.xe)(hc:X.calm=true)(hi:PI X tg iter wi)(hg:PG X tg g)(hb:PSs X body tb)
  (hs:∀x,foldedSetIterable iter X.env x=pure x:=by intro _;rfl):PS X (.For tg iter body [] pos) (CU wi g tb):=by
 intro pins s σ H D I h;refine wpAny_For (aK (hi pins s σ H _ I h) λv s1 h1=>aK h1 λitv s2 h2=>?_) hs;obtain⟨it,fp,tn,J,H2,e,I2,T,st2,f2,W,⟨m0,w0⟩,turn⟩:=h2;subst e;have stat:∀{H':Hp},(∀b∈fp,H' b=none)->∀b∈fp,fV X pins H' b:=λhn b hb=>⟨hn b hb,(f2 b hb).2⟩
 refine codeAny_forLoop_any (λn s'=>∃i σ' H',Inv X pins σ' H' s'/\tn i s'.heap/\(∀b∈fp,H' b=none)/\W i n σ' H') ?_ m0 ⟨0,σ,H2,I2,st2,λb hb=>(f2 b hb).1,w0⟩;rintro n s3 ⟨i,σ3,H3,I3,st3,fr3,w3⟩;rcases turn i n σ3 H3 w3 with⟨stop,qn⟩|⟨go,N,hN,step⟩
 ·refine aiC hp (aK (T.done X rfl rfl rfl hc i pins s3 σ3 H3 X.xe I3 (stat fr3) st3 stop) λr s4⟨hr,I4⟩=>?_);subst hr;exact wpAny_execs_nil ⟨σ3,H3,I4,qn⟩
 ·refine aiC hp (aK (T.item X rfl rfl rfl hc i pins s3 σ3 H3 X.xe I3 (stat fr3) st3 go) λr s4⟨u,hr,h4⟩=>?_);subst hr;refine aiC hp (aK h4 λ_ s5⟨x,H5,I5,r5,y5,st5,fr5⟩=>?_);have I5':=I5.pinned (stat fr5) (T.obj _ _ st5);refine aiC hp (aK (hg _ s5 σ3 H5 x u _ I5' r5 (step x H5 y5)) λ_ s6⟨σ6,H6,I6,q6⟩=>?_);refine aiC hp (aK (hb _ s6 σ6 H6 _ I6 q6) λf s7 q7=>?_)
  have again:∀{σ7:St}{H7:Hp},Inv X (pins++iT fp s5.heap) σ7 H7 s7->N σ7 H7->∃m,m<n/\∃i σ' H',Inv X pins σ' H' s7/\tn i s7.heap/\(∀b∈fp,H' b=none)/\W i m σ' H':=λ{σ7 H7}I7 n7=>by
   obtain⟨m',hm,w7⟩:=hN σ7 H7 n7;refine⟨m',hm,i+1,σ7,H7,I7.unpinned,T.keep _ _ _ st5 λb hb o e=>(I7.pin (b,o) (mem_append_right _ (mem_append_right _ (oQ hb e)))).1,λb hb=>?_,w7⟩;obtain⟨o,e,d⟩:=T.obj _ _ st5 b hb;exact(I7.pin (b,o) (mem_append_right _ (mem_append_right _ (oQ hb e)))).2.1
  cases f with
  |next=>obtain⟨σ7,H7,I7,n7⟩:=q7;exact again I7 n7
  |cont=>obtain⟨σ7,H7,I7,n7⟩:=q7;exact again I7 n7
  |brk=>obtain⟨σ7,H7,I7,q7⟩:=q7;exact⟨σ7,H7,I7.unpinned,q7⟩
  |ret v=>obtain⟨x7,σ7,H7,I7,r7,q7⟩:=q7;exact⟨x7,σ7,H7,I7.unpinned,r7,q7⟩
end
noncomputable abbrev R2:=V->V->Hp->VK->Prop
noncomputable def OpR(X:Cx)(f:Value->Value->Sem Value)(r:R2):Prop:=
 ∀(pins:List (Addr×Obj))(s:aeV)(σ:St)(H:Hp)(x y:V)(v u:Value)(Q:VK),Inv X pins σ H s->RelV x v->RelV y u->r x y H Q->
  afH (afT X.prog X.w) X.A (f v u) (EP X pins σ Q) X.xe s
noncomputable def AO(X:Cx)(f:Value->Sem Value)(r:V->Hp->VK->Prop):Prop:=
 ∀(pins:List (Addr×Obj))(s:aeV)(σ:St)(H:Hp)(x:V)(v:Value)(Q:VK),Inv X pins σ H s->RelV x v->r x H Q->
  afH (afT X.prog X.w) X.A (f v) (EP X pins σ Q) X.xe s
noncomputable def CallR(X:Cx)(f:Value)(r:List V->Hp->VK->Prop):Prop:=
 ∀(pins:List (Addr×Obj))(s:aeV)(σ:St)(H:Hp)(xs:List V)(us:List Value)(Q:VK),Inv X pins σ H s->Vals xs us->r xs H Q->
  afH (afT X.prog X.w) X.A (call f us) (EP X pins σ Q) X.xe s
noncomputable def aeH(X:Cx)(r:V->Hp->(Bool->Hp->Prop)->Prop):Prop:=
 ∀(pins:List (Addr×Obj))(s:aeV)(σ:St)(H:Hp)(x:V)(v:Value)(Q:Bool->Hp->Prop),Inv X pins σ H s->RelV x v->r x H Q->
  afH (afT X.prog X.w) X.A (truthy v) (TP X pins σ Q) X.xe s
noncomputable def lD(r:R2)(ta tb:TE):TE:=λσ H Q=>ta σ H λx H1=>tb σ H1 λy H2=>r x y H2 Q
noncomputable def CD(r:V->Hp->VK->Prop)(ta:TE):TE:=λσ H Q=>ta σ H λx H1=>r x H1 Q
noncomputable def rI(C:Int->Int->Prop)(g:Int->Int->V):R2:=λx y H Q=>∃i j,x=.int i/\y=.int j/\C i j/\Q (g i j) H
noncomputable def gT(g:Int->Int->V):R2:=λx y H Q=>∃i j,x=.int i/\y=.int j/\Q (g i j) H
noncomputable def rU(g:Int->V):V->Hp->VK->Prop:=λx H Q=>∃i,x=.int i/\Q (g i) H
section
variable{X:Cx}{a b c:Expr}{ta tb tc:TE}{pos:Pos}
theorem yK(ha:PE X a ta)(hb:PE X b tb){pins:List (Addr×Obj)}{s:aeV}{σ:St}{H:Hp}{R:V->V->Hp->Prop}(I:Inv X pins σ H s)
  (h:ta σ H λx H1=>tb σ H1 λy H2=>R x y H2) {Q:Value->aeV->Prop} {f:Value->Value->Sem Value}
  (hf:∀v u s2 x y H2,Inv X pins σ H2 s2->RelV x v->RelV y u->R x y H2->afH (afT X.prog X.w) X.A (f v u) Q X.xe s2):
  afH (afT X.prog X.w) X.A (eval a X.env) (λv s₁=>afH (afT X.prog X.w) X.A (eval b X.env) (λu s₂=>afH (afT X.prog X.w) X.A (f v u) Q X.xe s₂) X.xe s₁) X.xe s:=by
 refine aK (ha pins s σ H _ I h) λv s1⟨x,H1,I1,r1,q1⟩=>?_;refine aK (hb pins s1 σ H1 _ I1 q1) λu s2⟨y,H2,I2,r2,q2⟩=>?_;exact hf v u s2 x y H2 I2 r1 r2 q2
theorem bB{op:Operator}{r:R2}(ho:OpR X (binaryOp op) r)(ha:PE X a ta)(hb:PE X b tb):PE X (.BinOp a op b pos) (lD r ta tb):=by
 intro pins s σ H Q I h;exact wpAny_BinOp (yK ha hb I h λv u s2 x y H2 I2 rx ry q=>ho pins s2 σ H2 x y v u Q I2 rx ry q)
theorem uM{op:UnaryOp}{r:V->Hp->VK->Prop}(ho:AO X (unaryOp op) r)(ha:PE X a ta):PE X (.UnaryOp op a pos) (CD r ta):=by
 intro pins s σ H Q I h;exact UnaryOp_ (aK (ha pins s σ H _ I h) λv s1⟨x,H1,I1,r1,q1⟩=>ho pins s1 σ H1 x v Q I1 r1 q1)
theorem uQ{f:Value->Value->Sem Value}{C:Int->Int->Prop}{g:Int->Int->Int}
  (rule:∀(i j:Int)(t u:Tok)(s:aeV)(Q:Value->aeV->Prop)(E:Value->aeV->Prop),C i j->Q (.int (g i j) s.toks) { s with toks:=s.toks+1 }->afH (afT X.prog X.w) X.A (f (.int i t) (.int j u)) Q E s):
  OpR X f (rI C λi j=>.int (g i j)):=by
 intro pins s σ H x y v u Q I rx ry h;obtain⟨i,j,rfl,rfl,hc,q⟩:=h;obtain⟨t,rfl⟩:=rx;obtain⟨t',rfl⟩:=ry;exact rule i j t t' s _ _ hc ⟨.int (g i j),H,I.tok _,⟨_,rfl⟩,q⟩
theorem FC{f:Value->Value->Sem Value}{g:Int->Int->Int}
  (rule:∀(i j:Int)(t u:Tok)(s:aeV)(Q:Value->aeV->Prop)(E:Value->aeV->Prop),Q (.int (g i j) s.toks) { s with toks:=s.toks+1 }->afH (afT X.prog X.w) X.A (f (.int i t) (.int j u)) Q E s):
  OpR X f (gT λi j=>.int (g i j)):=by
 intro pins s σ H x y v u Q I rx ry h;obtain⟨i,j,rfl,rfl,q⟩:=h;obtain⟨t,rfl⟩:=rx;obtain⟨t',rfl⟩:=ry;exact rule i j t t' s _ _ ⟨.int (g i j),H,I.tok _,⟨_,rfl⟩,q⟩
theorem oB{f:Value->Value->Sem Value}{g:Int->Int->Bool}
  (rule:∀(i j:Int)(t u:Tok)(s:aeV)(Q:Value->aeV->Prop)(E:Value->aeV->Prop),Q (.bool (g i j)) s->afH (afT X.prog X.w) X.A (f (.int i t) (.int j u)) Q E s):
  OpR X f (gT λi j=>.bl (g i j)):=by
 intro pins s σ H x y v u Q I rx ry h;obtain⟨i,j,rfl,rfl,q⟩:=h;obtain⟨t,rfl⟩:=rx;obtain⟨t',rfl⟩:=ry;exact rule i j t t' s _ _ ⟨.bl (g i j),H,I,rfl,q⟩
noncomputable def aeL(i j:Int):Prop:=0<=j/\j<=1000000/\i.natAbs<2^64
noncomputable def CMul(i j:Int):Prop:=(-(2^64)<i/\i<2^64)\/(-(2^64)<j/\j<2^64)
theorem CMul.ok{i j:Int}(h:CMul i j):IntMulOk i j:=by
 rcases h with⟨h1,h2⟩|⟨h1,h2⟩
 ·exact .of_left (intBits_le_64 h1 h2)
 ·exact .of_right (intBits_le_64 h1 h2)
theorem dH:OpR X (binaryOp .Add) (gT λi j=>.int (i+j)):=FC λ_ _ _ _ _ _ _ q=>add_int q
theorem jM:OpR X (binaryOp .Sub) (gT λi j=>.int (i-j)):=FC λ_ _ _ _ _ _ _ q=>sub_int q
theorem n9:OpR X (binaryOp .Mult) (rI CMul λi j=>.int (i*j)):=uQ λ_ _ _ _ _ _ _ hc q=>mul_int q hc.ok
theorem jN:OpR X (binaryOp .Mod) (rI (λ_ j=>0<j) λi j=>.int (i%j)):=uQ λi j _ _ _ _ _ hc q=>by
 have h1:(0:Int)<j:=hc;exact mod_int' (by lia) (by rw[Int.fmod_eq_emod_of_nonneg i (by lia)];exact q)
theorem US:OpR X (binaryOp .Pow) (rI aeL λi j=>.int (i^j.toNat)):=uQ λ_ _ _ _ _ _ _ hc q=>pow_int_small hc.1 hc.2.1 hc.2.2 q
theorem qJ{f:Value->Sem Value}{g:Int->Int}
  (rule:∀(i:Int)(t:Tok)(s:aeV)(Q:Value->aeV->Prop)(E:Value->aeV->Prop),Q (.int (g i) s.toks) { s with toks:=s.toks+1 }->afH (afT X.prog X.w) X.A (f (.int i t)) Q E s):
  AO X f (rU λi=>.int (g i)):=by
 intro pins s σ H x v Q I rx h;obtain⟨i,rfl,q⟩:=h;obtain⟨t,rfl⟩:=rx;exact rule i t s _ _ ⟨.int (g i),H,I.tok _,⟨_,rfl⟩,q⟩
theorem qI:AO X (unaryOp .USub) (rU λi=>.int (-i)):=qJ λ_ _ _ _ _ q=>neg_int q
theorem IJ{pins:List (Addr×Obj)}{σ:St}{H:Hp}{s:aeV}{Q:VK}{k k':Bool}(I:Inv X pins σ H s)(q:Q (.bl k) H)(e:k=k'):EP X pins σ Q (.bool k') s:=by
 subst e;exact⟨.bl k,H,I,rfl,q⟩
theorem uO:OpR X (agD .Lt) (gT λi j=>.bl (decide (i<j))):=oB λ_ _ _ _ _ _ _ q=>lt_int q
theorem lH:OpR X (agD .LtE) (gT λi j=>.bl (decide (i<=j))):=oB λ_ _ _ _ _ _ _ q=>le_int q
theorem jO:OpR X (agD .Gt) (gT λi j=>.bl (decide (j<i))):=oB λ_ _ _ _ _ _ _ q=>gt_int q
theorem UW:OpR X (agD .GtE) (gT λi j=>.bl (decide (j<=i))):=oB λ_ _ _ _ _ _ _ q=>ge_int q
theorem UV:OpR X (agD .Is) (λx y H Q=>y=.non/\Q (.bl (decide (x=.non))) H):=by
 intro pins s σ H x y v u Q I rx ry h;obtain⟨rfl,q⟩:=h;cases ry;refine is_none_gen (IJ I q ?_)
 cases x <;> first
  |(cases rx;rfl)
  |(obtain⟨t,rfl⟩:=rx;rfl)
theorem UT:OpR X (agD .IsNot) (λx y H Q=>y=.non/\Q (.bl (!decide (x=.non))) H):=by
 intro pins s σ H x y v u Q I rx ry h;obtain⟨rfl,q⟩:=h;cases ry;refine isnot_none_gen (IJ I q ?_)
 cases x <;> first
  |(cases rx;rfl)
  |(obtain⟨t,rfl⟩:=rx;rfl)
theorem OpR.or{f:Value->Value->Sem Value}{r r':R2}(h:OpR X f r)(h':OpR X f r'):OpR X f (λx y H Q=>r x y H Q\/r' x y H Q):=by
 intro pins s σ H x y v u Q I rx ry q;rcases q with q|q
 ·exact h pins s σ H x y v u Q I rx ry q
 ·exact h' pins s σ H x y v u Q I rx ry q
theorem bD(b:Expr){op:CmpOp}(h:op≠.In:=by decide)(h2:op≠.NotIn:=by decide):behindInMarks op b=false:=by
 have e1:(op==CmpOp.In)=false:=by cases op <;> first|rfl|exact absurd rfl h
 have e2:(op==CmpOp.NotIn)=false:=by cases op <;> first|rfl|exact absurd rfl h2
 cases b <;> simp[behindInMarks,e1,e2]
theorem eW{op:CmpOp}{r:R2}(ho:OpR X (agD op) r)(ha:PE X a ta)(hb:PE X b tb)(hm:behindInMarks op b=false):PE X (.Compare a [op] [b] pos) (lD r ta tb):=by
 intro pins s σ H Q I h;exact wpAny_Compare1 (yK ha hb I h λv u s2 x y H2 I2 rx ry q=>ho pins s2 σ H2 x y v u Q I2 rx ry q) hm
noncomputable def qM(t:TE):TT:=λσ H Q=>t σ H λx H'=>∃k,x=.bl k/\Q k H'
theorem aZ{op:CmpOp}{r:R2}(ho:OpR X (agD op) r)(ha:PE X a ta)(hb:PE X b tb)(hm:behindInMarks op b=false):PT X (.Compare a [op] [b] pos) (qM (lD r ta tb)):=by
 intro pins s σ H Q I h
 refine wpAny_isTrue_Compare1 (aK (ha pins s σ H _ I h) λv s1⟨x,H1,I1,r1,q1⟩=>aK (hb pins s1 σ H1 _ I1 q1) λu s2⟨y,H2,I2,r2,q2⟩=>
  aK (ho pins s2 σ H2 x y v u _ I2 r1 r2 q2) λc s3⟨z,H3,I3,r3,k,e,q3⟩=>?_) hm
 subst e;cases r3;exact agT ⟨H3,I3,q3⟩
noncomputable def qT(r r':R2)(ta tb tc:TE):TE:=λσ H Q=>ta σ H λx H1=>tb σ H1 λy H2=>r x y H2 λz H3=>∃k,z=.bl k/\
 (if k=true then tc σ H3 λw' H4=>r' y w' H4 Q else Q (.bl false) H3)
theorem UL{op op':CmpOp}{r r':R2}(ho:OpR X (agD op) r)(ho':OpR X (agD op') r')(ha:PE X a ta)(hb:PE X b tb)(hc:PE X c tc)
  (hm:lastMarks [op,op'] [b,c]=false:=by with_unfolding_all rfl):PE X (.Compare a [op,op'] [b,c] pos) (qT r r' ta tb tc):=by
 intro pins s σ H Q I h
 refine Compare_chain (aK (ha pins s σ H _ I h) λv s1⟨x,H1,I1,r1,q1⟩=>chain_link (aK (hb pins s1 σ H1 _ I1 q1) λu s2⟨y,H2,I2,r2,q2⟩=>
  aK (ho pins s2 σ H2 x y v u _ I2 r1 r2 q2) λd s3⟨z,H3,I3,r3,k,e,q3⟩=>?_)) hm
 subst e;cases r3;refine agT ?_
 cases k with
 |false=>exact ite_ff ⟨.bl false,H3,I3,rfl,q3⟩
 |true=>exact ite_tt (chain_last (aK (hc pins s3 σ H3 _ I3 q3) λw' s4⟨z',H4,I4,r4,q4⟩=>ho' pins s4 σ H4 y z' u w' Q I4 r2 r4 q4))
theorem TR{op op':CmpOp}{r r':R2}(ho:OpR X (agD op) r)(ho':OpR X (agD op') r')(ha:PE X a ta)(hb:PE X b tb)(hc:PE X c tc)
  (hm:lastMarks [op,op'] [b,c]=false:=by with_unfolding_all rfl):PT X (.Compare a [op,op'] [b,c] pos) (qM (qT r r' ta tb tc)):=by
 intro pins s σ H Q I h
 refine isTrue_chain (aK (ha pins s σ H _ I h) λv s1⟨x,H1,I1,r1,q1⟩=>test_link (aK (hb pins s1 σ H1 _ I1 q1) λu s2⟨y,H2,I2,r2,q2⟩=>
  aK (ho pins s2 σ H2 x y v u _ I2 r1 r2 q2) λd s3⟨z,H3,I3,r3,k,e,q3⟩=>?_)) hm
 subst e;cases r3;refine agT ?_
 cases k with
 |false=>
  obtain⟨k',e',q'⟩:=q3;cases e'
  exact ite_ff ⟨H3,I3,q'⟩
 |true=>
  refine ite_tt (test_last (aK (hc pins s3 σ H3 _ I3 q3) λw' s4⟨z',H4,I4,r4,q4⟩=>aK (ho' pins s4 σ H4 y z' u w' _ I4 r2 r4 q4) λd' s5⟨z2,H5,I5,r5,k2,e2,q5⟩=>?_));subst e2;cases r5;exact agT ⟨H5,I5,q5⟩
noncomputable def AQ(K:PySem.W.Frag)(x:V)(H:Hp)(k:Bool):Prop:=
 match x with
 | .non=>k=false
 | .bl b=>k=b
 | .int i=>k=(i != 0)
 | .str y=>y.length<=sizeLine/\k=((y.length:Int) != 0)
 | .byt y=>y.size<=sizeLine/\k=((y.size:Int) != 0)
 | .ref p=>(∃xs,SqL K H p xs/\k= !xs.isEmpty)\/(∃xs,SqT K H p xs/\k= !xs.isEmpty)\/∃kvs,H p=some (.dK kvs)/\k= !kvs.isEmpty
 |_=>False
theorem aaB{κ:Type}{kvs:List (κ×V)}{vs:List (κ×Value)}(r:KV kvs vs):(!vs.isEmpty)= !kvs.isEmpty:=by
 cases r <;> rfl
theorem HM{xs:List V}{its:List Value}(r:Vals xs its):(!its.toArray.isEmpty)= !xs.isEmpty:=by
 cases r <;> simp
theorem lR:(sizeLine:Nat)<2^63:=by rw[sizeLine_eq];decide
theorem MX:aeH X (λx H Q=>∃k,AQ X.K x H k/\Q k H):=by
 intro pins s σ H x v Q I rx h;obtain⟨k,e,q⟩:=h;have hl:=lR;have hs:sizeLine=16777216:=sizeLine_eq
 cases x with
 |non=>
  cases rx;have e':k=false:=e;subst e'
  exact truthy_none ⟨H,I,q⟩
 |bl b=>
  cases rx;have e':k=b:=e;subst e'
  exact agT ⟨H,I,q⟩
 |int i=>
  obtain⟨t,rfl⟩:=rx;have e':k=(i != 0):=e;subst e'
  exact PySem.P.truthy_int ⟨H,I,q⟩
 |str y=>
  obtain⟨t,rfl⟩:=rx;obtain⟨hy,e'⟩:y.length<=sizeLine/\k=((y.length:Int) != 0):=e;subst e'
  exact PySem.P.truthy_str (by lia) ⟨H,I.tok _,q⟩
 |byt y=>
  obtain⟨t,rfl⟩:=rx;obtain⟨hy,e'⟩:y.size<=sizeLine/\k=((y.size:Int) != 0):=e;subst e'
  exact PySem.W.truthy_bytes (by lia) ⟨H,I.tok _,q⟩
 | ref p=>
  cases rx;have e':(∃xs,SqL X.K H p xs/\k= !xs.isEmpty)\/(∃xs,SqT X.K H p xs/\k= !xs.isEmpty)\/∃kvs,H p=some (.dK kvs)/\k= !kvs.isEmpty:=e;rcases e' with⟨xs,hx,e'⟩|⟨xs,hx,e'⟩|⟨kvs,hx,e'⟩
  ·subst e';obtain⟨its,r,pl,hz⟩:=I.list hx;have hlen:=r.length;exact wpAny_truthy_list pl.isList (by simp only[size_toArray];lia) ⟨H,I.tok _,by rw[HM r];exact q⟩
  ·subst e';obtain⟨its,r,pl,hz⟩:=I.tuple hx;have hlen:=r.length;exact truthy_tuple pl (by simp only[size_toArray];lia) ⟨H,I.tok _,by rw[HM r];exact q⟩
  ·subst e';obtain⟨hz,hS,vs,r,m⟩:kvs.length<=sizeLine/\(p==sysModules)=false/\∃vs,KV kvs vs/\s.heap.DictOf (u0 X.prog X.w) p vs:=I.hok p _ hx;have hlen:kvs.length=vs.length:=Paired.length r
   exact wpAny_truthy_dict hS m (by lia) ⟨H,I.tok _,by rw[aaB r];exact q⟩
 |_=>exact(show False from e).elim
theorem vals1{x:V}{us:List Value}(r:Vals [x] us):∃u,us=[u]/\RelV x u:=by
 cases r with
 |cons r1 r2=>cases r2;exact⟨_,rfl,r1⟩
end
structure ObjM (h:Heap) (x dx C:Addr) (mA:Str->Option Value):Prop where
 obj:h.get? x=some (aiB C dx)
 ns:h.Ns1 dx mA
 ne:dx≠x
theorem YY{h:Heap}{dx:Addr}{mA:Str->Option Value}(n:h.Ns1 dx mA):∃od,h.get? dx=some od/\∀name,PySem.W.lookIn name od=some (mA name):=by
 obtain⟨o,es,ep,ho,hd,hk,_,hm⟩:=n;refine⟨o,ho,λname=>?_⟩;have e:=hm name;unfold nsFind findBy at e;rw[<-Array.find?_toList]at e;unfold PySem.W.lookIn;rw[hd];dsimp only;split
 ·rename_i y q;rw[q]at e;exact congrArg some e
 ·rename_i q;rw[q]at e
  have a:es.toList.any (·.refKey)=false:=by
   rw[any_eq_false];intro y hy;obtain⟨z,t,hkey⟩:=hk y (Array.mem_toList_iff.mp hy);simp[DictEntry.refKey,hkey]
  have a':¬es.toList.any (·.refKey)=true:=by rw[a];exact afK
  rw[if_neg a'];exact congrArg some e
theorem ObjM.look{h:Heap}{x dx C:Addr}{mA:Str->Option Value}(I:ObjM h x dx C mA):∃od,PySem.W.InstAt h x (aiB C dx) C (some od)/\∀name,PySem.W.lookIn name od=some (mA name):=
 let⟨od,ho,hl⟩:=YY I.ns
 ⟨od,⟨I.obj,rfl,rfl,ho⟩,hl⟩
section
variable{prog:afL}{w:agC}{A:afU}{E:Value->aeV->Prop}{s:aeV}{K:PySem.W.Frag}{x dx C f:Addr}{mA:Str->Option Value}{name:Str}{v:Value}
theorem DF{ns:List Str}{Q:Unit->aeV->Prop}(X:K.In s.heap)(I:ObjM s.heap x dx C mA)
  (hs:ahU K (.ref C) "__setattr__"=some (some (.builtin "object.__setattr__"))) (hp:PySem.W.plainOver K C=true) (ht:PySem.W.takerIn K C name=some none) (hh:PySem.W.hasDictIn K C=true)
  (hw:PySem.Within mA ns) (hsz:ns.length<=sizeLine)
  (h:∀h',ObjM h' x dx C (λy=>if y=name then some v else mA y)->afW dx s.heap h'->Q () { s with heap:=h',toks:=s.toks+2 }):
  afH (afT prog w) A (setAttr (.ref x) name v) Q E s:=by
 obtain⟨od,J,hl⟩:=I.look;refine PySem.W.set_plain X J hs (PySem.W.osa_open (s:={ s with toks:=s.toks+1 }) (r:=none) X J hp ht λb=>?_);obtain⟨cd,hc,hd'⟩:=PySem.W.any_some hh;have hx:s.heap.get? x=some ⟨.ref C,some dx,.plain,#[]⟩:=I.obj;refine aeS (aeX (aeS (aeS (wpAny_loadPart hx (aeS (PySem.W.Looks.here (s:={ s with toks:=s.toks+1 }) (PySem.W.looks_clsIn X hc) ?_))))));rw[hd'];refine aeX (a:=some dx) (aeS (aeX (aeS ?_)));refine wpAny_nsSet1 (s:={ s with toks:=s.toks+1 }) I.ns λh' hn2 hs2=>?_;obtain⟨oD,esD,epD,hoD,hdD,hcD⟩:=hn2.count (PySem.Within.cons name v hw);refine aeS (wpAny_lookBehind hoD (by rw[hdD];exact pastItsLine_dict (afO hcD (by rw[length_cons];lia))) ?_);exact aeX (h _ ⟨(hs2.2 _ (afY I.ne)).trans I.obj,hn2,I.ne⟩ hs2)
end
theorem RelO.none_of{o:Option Value}(r:RelO none o):o=none:=by
 cases o with
 |none=>rfl
 |some u=>exact(show False from r).elim
section
variable{P:afL}{w:agC}{H H':Hp}{h h':Heap}{a C dx:Addr}{fs fs':List (Str×V)}
theorem aaI(hok:HOk P w H h)(e:H a=some (.ins C dx fs)):∃mA,ObjM h a dx C mA/\(∀f,RelO (fs.lookup f) (mA f))/\PySem.Within mA (fs.map (·.1))/\fs.length<=1000/\H dx=some (.own a):=by
 obtain⟨d,z,ne,ob,mA,n,r,q⟩:=(show ObjOk P w H h a (.ins C dx fs) from hok a _ e)
 exact⟨mA,⟨ob,n,ne⟩,r,q,z,d⟩
end
structure Cls (K:PySem.W.Frag) (C:Addr):Prop where
 pg:PySem.W.plainGet K C Str.empty=true
 hd:PySem.W.hasDictIn K C=true
 po:PySem.W.plainOver K C=true
 sa:ahU K (.ref C) "__setattr__"=some (some (.builtin "object.__setattr__"))
theorem Cls.get{K:PySem.W.Frag}{C:Addr}(c:Cls K C)(f:Str):PySem.W.plainGet K C f=true:=c.pg
structure p8 (K:PySem.W.Frag) (C:Addr) (f:Str) (v:V) (u:Value):Prop where
 at_:ahU K (.ref C) f=some (some u)
 rel:RelV v u
 get:PySem.W.specialIn K u "__get__"=some none
 cp:PySem.W.copiedNames.contains f=false
structure aeO (K:PySem.W.Frag) (C:Addr) (m:Str) (f:Addr):Prop where
 at_:ahU K (.ref C) m=some (some (.ref f))
 fn:PySem.W.isFn K (.ref f)=true
 kp:ah7 K (.ref f)=true
section
variable{X:Cx}{pins:List (Addr×Obj)}{σ:St}{H:Hp}{s:aeV}{a C dx:Addr}{fs:List (Str×V)}{f:Str}{v:V}{A:afU}{E:Value->aeV->Prop}
theorem Inv.made(I:Inv X pins σ H s):Inv X pins σ (upd (upd H s.heap.objs.size (.own (s.heap.objs.size+1))) (s.heap.objs.size+1) (.ins C s.heap.objs.size []))
  { s with heap:=(s.heap.push PySem.W.emptyDict).push (aiB C s.heap.objs.size) }:=by
 have e1:(s.heap.push PySem.W.emptyDict).get? s.heap.objs.size=some PySem.W.emptyDict:=aeZ s.heap rfl
 have e2:((s.heap.push PySem.W.emptyDict).push (aiB C s.heap.objs.size)).get? (s.heap.objs.size+1)=some (aiB C s.heap.objs.size):=by
  have:=aeZ (s.heap.push PySem.W.emptyDict) (o:=aiB C s.heap.objs.size) rfl
  rwa [aiL]at this
 have e3:(s.heap.push PySem.W.emptyDict).Ns s.heap.objs.size (λ_=>none):=⟨PySem.W.emptyDict,#[],_,e1,rfl,(λe he=>absurd he (by simp)),λ_=>rfl⟩
 have I1:=I.laid (a:=s.heap.objs.size) (o:=.own (s.heap.objs.size+1)) (h':=s.heap.push PySem.W.emptyDict) (t':=s.toks) (λb u q=>aeT _ q) (aeU _) ⟨_,e1⟩;refine I1.laid (a:=s.heap.objs.size+1) (o:=.ins C s.heap.objs.size []) (t':=s.toks) (λb u q=>aeT _ q) (Nat.le_of_eq (aiL _ _)) ?_;have ne:s.heap.objs.size≠s.heap.objs.size+1:=ae7 (Nat.lt_succ_self _);refine⟨by rw[aD ne,aB],ae2 _,ne,e2,λ_=>none,(Heap.Ns1.of_empty e3).at λo q=>aeT _ q,λ_=>aeW,λy hy=>absurd rfl hy⟩
end
section
variable{X:Cx}{o e value:Expr}{f:Str}{pos pos' tpos:Pos}{ta tv:TE}
end
section
variable{X:Cx}{pins:List (Addr×Obj)}{σ:St}{H:Hp}{s:aeV}{A:afU}{E:Value->aeV->Prop}{Q:Value->aeV->Prop}{c:Value}{b:Bool}
inductive fC (K:PySem.W.Frag) (H:Hp):V->Value->Prop where
 |non:fC K H .non (.type "NoneType")
 |bl (x:Bool):fC K H (.bl x) (.type "bool")
 |int (i:Int):fC K H (.int i) (.type "int")
 |str (x:Str):fC K H (.str x) (.type "str")
 |flt (x:UInt64):fC K H (.flt x) (.type "float")
 |lst {a:Addr} {xs:List V} (e:H a=some (.lst xs)):fC K H (.ref a) (.type "list")
 |frz {a:Addr} {o:Obj} {xs:List V} (e:H a=some (.frz o (.lst xs))):fC K H (.ref a) (.type "list")
 |tup {a:Addr} {xs:List V} (e:H a=some (.tup xs)):fC K H (.ref a) (.type "tuple")
 |dK {a:Addr} {kvs:List (c9×V)} (e:H a=some (.dK kvs)):fC K H (.ref a) (.type "dict")
 |dT {a:Addr} {kvs:List (List c9×V)} (e:H a=some (.dT kvs)):fC K H (.ref a) (.type "dict")
 | ins {a C dx:Addr} {fs:List (Str×V)} (e:H a=some (.ins C dx fs)) (cl:Cls K C) (ha:ahU K (.ref C) "__class__"=some (some (.builtin "object.__class__")))
   (hn:PySem.W.specialIn K (.builtin "object.__class__") "__get__"=some (some (.builtin "getset_descriptor.__get__"))) (htk:PySem.W.takesIn K (.builtin "object.__class__")=some true)
   (hm:PySem.W.mroIn K C (.type "object")=some true):fC K H (.ref a) (.ref C)
theorem Z9{x:V}{u t:Value}(I:Inv X pins σ H s)(rx:RelV x u)(ty:fC X.K H x t)(e:ah8 X.K t c=some b)(h:∀tk,Q (.bool b) { s with toks:=tk }):
  afH (afT X.prog X.w) A (call (.builtin "isinstance") [u,c]) Q E s:=by
 cases ty with
 |non=>cases(show u=Value.none from rx);exact ag9 PySem.W.kitx_none I.kIn aeW e (λz=>nomatch z) h
 |bl y=>cases(show u=aiK y from rx);exact ag9 PySem.W.kitx_bool I.kIn aeW e (λz=>nomatch z) h
 |int i=>obtain⟨t,q⟩:=(show ∃t,u=Value.int i t from rx);cases q;exact ag9 PySem.W.kitx_int I.kIn aeW e (λz=>nomatch z) h
 |str y=>obtain⟨t,q⟩:=(show ∃t,u=Value.str y t from rx);cases q;exact ag9 PySem.W.kitx_str I.kIn aeW e (λz=>nomatch z) h
 |flt y=>obtain⟨t,q⟩:=(show ∃t,u=Value.float y t from rx);cases q;exact ag9 PySem.W.kitx_float I.kIn aeW e (λz=>nomatch z) h
 |@lst a xs ea=>
  cases(show u=af4 a from rx);obtain⟨_,_,n,_,h1⟩:=(show ObjOk X.prog X.w H s.heap a (.lst xs) from I.hok a _ ea)
  exact ag9 PySem.W.kitx_list I.kIn ⟨_,h1,rfl⟩ e (λz=>nomatch z) h
 |@frz a ob xs ea=>
  cases(show u=af4 a from rx);obtain⟨_,_,_,n,_,h1⟩:=(show ObjOk X.prog X.w H s.heap a (.frz ob (.lst xs)) from I.hok a _ ea)
  exact ag9 PySem.W.kitx_list I.kIn ⟨_,h1,rfl⟩ e (λz=>nomatch z) h
 |@tup a xs ea=>
  cases(show u=af4 a from rx);obtain⟨_,_,_,p⟩:=(show ObjOk X.prog X.w H s.heap a (.tup xs) from I.hok a _ ea)
  obtain⟨o,h1,h2,_⟩:=p.1
  exact ag9 PySem.W.kitx_tuple I.kIn ⟨o,h1,h2⟩ e (λz=>nomatch z) h
 |@dK a kvs ea=>
  cases(show u=af4 a from rx);obtain⟨_,_,vs,_,p⟩:=(show ObjOk X.prog X.w H s.heap a (.dK kvs) from I.hok a _ ea)
  obtain⟨o,es,ep,h1,h2,_⟩:=p
  exact ag9 PySem.W.kitx_dict I.kIn ⟨o,h1,h2.1⟩ e (λz=>nomatch z) h
 |@dT a kvs ea=>
  cases(show u=af4 a from rx);obtain⟨_,_,xs,_,o,es,ep,h1,h2,_⟩:=(show ObjOk X.prog X.w H s.heap a (.dT kvs) from I.hok a _ ea)
  exact ag9 PySem.W.kitx_dict I.kIn ⟨o,h1,h2.1⟩ e (λz=>nomatch z) h
 |@ins a C dx fs ea cl ha hn htk hm=>
  cases(show u=af4 a from rx);obtain⟨mA,O,_⟩:=aaI I.hok ea;obtain⟨od,J,_⟩:=O.look;exact ag9 (PySem.W.kitx_own (cl.get _) cl.hd ha hn htk hm) I.kIn J e (λz=>nomatch z) h
end
structure Room (k:Nat) (A:afU):Prop where
 hd:A.handled=none
 dp:A.depth+3*k+5<recursionLimit
 un:A.units+16*k+200<cLine
theorem Room.mono{j k:Nat}{A:afU}(r:Room k A)(h:j<=k):Room j A:=⟨r.hd,by have:=r.dp;lia,by have:=r.un;lia⟩
theorem Room.deeper{k:Nat}{A:afU}(r:Room (k+1) A)(env:Env):Room k (A.deeper env):=
 ⟨r.hd,by have:=r.dp;show A.depth+1+3*k+5<_;lia,by have:=r.un;show A.units+3+16*k+200<_;lia⟩
theorem Room.in1{k:Nat}{A:afU}(r:Room (k+1) A):Room k A.in1:=
 ⟨r.hd,by have:=r.dp;show A.depth+3*k+5<_;lia,by have:=r.un;show A.units+1+16*k+200<_;lia⟩
theorem Room.depth{k:Nat}{A:afU}(r:Room k A):A.depth<recursionLimit:=by have:=r.dp;lia
theorem Room.units{k:Nat}{A:afU}(r:Room k A):A.units+64<cLine:=by have:=r.un;lia
theorem Room.units0{k:Nat}{A:afU}(r:Room k A):A.units<cLine:=by have:=r.un;lia
noncomputable def CN:TA:=λ_ H Q=>Q [] H
noncomputable def CW(ta:TE)(tr:TA):TA:=λσ H Q=>ta σ H λx H1=>tr σ H1 λxs H2=>Q (x::xs) H2
section
variable{X:Cx}{e:Expr}{es:List Expr}{te:TE}{t:TA}{pos:Pos}
theorem pa_nil:PA X [] CN:=λ_ _ _ _ H Q I h=>Calls.spliced_nil ⟨[],H,I,.nil,h⟩
theorem aA(ha:PE X e te)(hr:PA X es t)(hs:af6 (e::es) X.env=(false,eval e X.env)::af6 es X.env:=by rfl):PA X (e::es) (CW te t):=by
 intro pos pins s σ H Q I h;rw[hs];show afH _ _ (spliced ((false,eval e X.env)::backTo pos (af6 es X.env))) _ _ s
 refine Calls.spliced_cons (aK (ha pins s σ H _ I h) λu s1⟨x,H1,I1,r1,q1⟩=>?_);exact aK (hr pos pins s1 σ H1 _ I1 q1) λus s2⟨xs,H2,I2,r2,q2⟩=>⟨x::xs,H2,I2,.cons r1 r2,q2⟩
noncomputable def CF(t:TA):TE:=λσ H Q=>t σ H λxs H1=>xs.length<=sizeLine/\∀p,H1 p=none->Q (.ref p) (upd H1 p (.tup xs))
noncomputable def CQ(t:TA):TE:=λσ H Q=>t σ H λxs H1=>xs.length<=sizeLine/\∀p,H1 p=none->Q (.ref p) (upd H1 p (.lst xs))
theorem bH{x1}(h:PA X es t):PE X (.Tuple es x1 pos) (CF t):=by
 intro pins s σ H Q I hq;refine wpAny_Tuple_spliced (aK (h pos pins s σ H _ I hq) λus s1⟨xs,H1,I1,r,z,q⟩=>⟨by rw[<-r.length];exact z,?_⟩);have hf:H1 s1.heap.objs.size=none:=I1.hok.fresh (aeU _);refine⟨.ref s1.heap.objs.size,upd H1 s1.heap.objs.size (.tup xs),I1.laid (t':=s1.toks) (λb u e=>aeT _ e) (aeU _) ?_,rfl,q _ hf⟩;exact⟨z,us,r,⟨_,aeZ _ rfl,rfl,_,rfl⟩,_,aeZ _ rfl,rfl⟩
theorem cN(h:PA X es t):PE X (.List es pos) (CQ t):=by
 intro pins s σ H Q I hq;refine wpAny_List_spliced (aK (h pos pins s σ H _ I hq) λus s1⟨xs,H1,I1,r,z,q⟩=>⟨by rw[<-r.length];exact z,?_⟩);have hf:H1 s1.heap.objs.size=none:=I1.hok.fresh (aeU _);refine⟨.ref s1.heap.objs.size,upd H1 s1.heap.objs.size (.lst xs),I1.laid (t':=s1.toks) (λb u e=>aeT _ e) (aeU _) ?_,rfl,q _ hf⟩;exact⟨z,us,0,r,aeZ _ rfl⟩
end
noncomputable abbrev Sp:=List V->Hp->VK->XK->Prop
noncomputable abbrev eB:=List Env->Hp->aeV->XK->Value->aeV->Prop
structure Env0 (P:afL) (w:agC) (K:PySem.W.Frag) (mg:Str->Option Value) (base:Heap) (A:afU) (outer:List Env) (s:aeV) (H:Hp):Prop where
 frames:A.frames=some outer
 mod:Mod K mg base
 bs:∀b o,base.get? b=some o->s.heap.get? b=some o/\H b=none
 bsz:base.objs.size<=s.heap.objs.size
 funs:s.heap.FunFrames base outer
 frf:∀b∈cV outer,H b=none
 hok:HOk P w H s.heap
 bare:AllBare s.gens
noncomputable def CE(outer:List Env)(P:afL)(w:agC)(H:Hp)(s:aeV)(Q:VK)(u:Value)(s':aeV):Prop:=
 ∃v H',s'.os=s.os/\AllBare s'.gens/\Un (cV outer) [] H H' s.heap s'.heap/\HOk P w H' s'.heap/\RelV v u/\Q v H'
noncomputable def CR(CX:eB)(outer:List Env)(P:afL)(w:agC)(H:Hp)(s:aeV)(Q:VK)(E:XK)(r:Result)(s':aeV):Prop:=
 match r with
 | .ok (.ret u)=>CE outer P w H s Q u s'
 | .ok _=>False
 | .error e=>CX outer H s E e s'
structure FnOk (P:afL) (w:agC) (K:PySem.W.Frag) (mg:Str->Option Value) (base:Heap) (CX:eB) (k:Nat) (f:Addr) (fd:afD) (ps:List Str) (sp:Sp):Prop where
 len:∀vs H Q E,sp vs H Q E->vs.length=ps.length
 run:∀(A:afU)(outer:List Env)(s:aeV)(H:Hp)(args:Args)(us:List Value)(vs:List V)(Q:VK)(E:XK),Room k A->Env0 P w K mg base A outer s H->BindsTo s fd args (ps.zip us)->Vals vs us->sp vs H Q E->
  codeAny (afT P w) A (.call (.ref f) args) (CR CX outer P w H s Q E) s
theorem FnOk.mono{P:afL}{w:agC}{K:PySem.W.Frag}{mg:Str->Option Value}{base:Heap}{CX:eB}{j k:Nat}{f:Addr}{fd:afD}{ps:List Str}{sp:Sp}(F:FnOk P w K mg base CX j f fd ps sp)(h:j<=k):
  FnOk P w K mg base CX k f fd ps sp:=⟨F.len,λA outer s H args us vs Q E hr=>F.run A outer s H args us vs Q E (hr.mono h)⟩
theorem FnOk.imp{P:afL}{w:agC}{K:PySem.W.Frag}{mg:Str->Option Value}{base:Heap}{CX:eB}{k:Nat}{f:Addr}{fd:afD}{ps:List Str}{sp sp':Sp}(F:FnOk P w K mg base CX k f fd ps sp)
  (h:∀vs H Q E,sp' vs H Q E->sp vs H Q E):FnOk P w K mg base CX k f fd ps sp':=
 ⟨λvs H Q E q=>F.len vs H Q E (h _ _ _ _ q),λA outer s H args us vs Q E hr he hb hv hs=>F.run A outer s H args us vs Q E hr he hb hv (h _ _ _ _ hs)⟩
theorem Env0.in1{P:afL}{w:agC}{K:PySem.W.Frag}{mg:Str->Option Value}{base:Heap}{A:afU}{outer:List Env}{s:aeV}{H:Hp}(e:Env0 P w K mg base A outer s H):
  Env0 P w K mg base A.in1 outer s H:=⟨e.frames,e.mod,e.bs,e.bsz,e.funs,e.frf,e.hok,e.bare⟩
section
variable{X:Cx}{pins:List (Addr×Obj)}{σ:St}{H:Hp}{s s':aeV}
theorem Inv.env0(I:Inv X pins σ H s):Env0 X.prog X.w X.K X.mg X.base X.A X.stack s H:=
 ⟨I.ok.frames,I.ok.mod,I.bs,afO I.ok.bsz I.sz,I.stack,I.stkFree,I.hok,I.bare⟩
theorem Inv.after{Q:VK}{u:Value}(I:Inv X pins σ H s)(h:CE X.stack X.prog X.w H s Q u s'):EP X pins σ Q u s':=by
 obtain⟨v,H',os,bare,un,hok,r,q⟩:=h;obtain⟨hh,g,d,t,os'⟩:=s';obtain rfl:os'=s.os:=os;exact⟨v,H',I.call (h':=hh) (g':=g) (d':=d) (t':=t) (ch:=[]) un hok bare (λb z=>absurd z (by simp)),r,q⟩
end
noncomputable def CY(sp:Sp)(dvs:List V)(E:XK)(t:TA):TE:=λσ H Q=>t σ H λvs H1=>sp (vs++dvs) H1 Q E
noncomputable def Binds(K:PySem.W.Frag)(fd:afD)(ps:List Str)(ds:List Value):Prop:=
 ∀(s:aeV)(us:List Value),K.In s.heap->(us++ds).length=ps.length->BindsTo s fd ⟨us,[]⟩ (ps.zip (us++ds))
theorem Binds.all{K:PySem.W.Frag}{fd:afD}{ps:List Str}(h:∀us:List Value,us.length=ps.length->bindArgs fd ⟨us,[]⟩=pure (ps.zip us)):Binds K fd ps []:=λs us _ hl=>by
 rw[append_nil]at hl ⊢;exact .of_eq (h us hl)
noncomputable def mM(CX:eB)(X:Cx)(E:XK):Prop:=∀(pins:List (Addr×Obj))(σ:St)(H:Hp)(s:aeV)(e:Value)(s':aeV),Inv X pins σ H s->CX X.stack H s E e s'->X.xe e s'
section
variable{X:Cx}{CX:eB}{k:Nat}{f C:Addr}{fd:afD}{ps:List Str}{sp:Sp}{dvs:List V}{ds:List Value}{E:XK}{x m:Str}{p pos apos:Pos}{e o:Expr}{es:List Expr}{ta:TE}{t:TA}
theorem QU{pins:List (Addr×Obj)}{σ:St}{H:Hp}{s:aeV}{Q:VK}{us:List Value}{vs:List V}(F:FnOk X.prog X.w X.K X.mg X.base CX k f fd ps sp)(hr:Room k X.A)(hb:Binds X.K fd ps ds)(hd:Vals dvs ds)(hx:mM CX X E)
  (I:Inv X pins σ H s) (r:Vals vs us) (h:sp (vs++dvs) H Q E):afH (afT X.prog X.w) X.A (call (.ref f) us) (EP X pins σ Q) X.xe s:=by
 have r2:Vals (vs++dvs) (us++ds):=r.append hd;have hl:(us++ds).length=ps.length:=by rw[<-r2.length];exact F.len _ _ _ _ h
 refine wpAny_call (codeAny_mono (F.run X.A X.stack s H ⟨us,[]⟩ (us++ds) (vs++dvs) Q E hr I.env0 (hb s us I.kIn hl) r2 h) λr s' hq=>?_)
 cases r with
 |error e=>exact hx pins σ H s e s' I hq
 |ok fl=>
  cases fl with
  |ret u=>exact I.after hq
  |next=>exact ah3 hq
  |brk=>exact ah3 hq
  |cont=>exact ah3 hq
theorem aG(F:FnOk X.prog X.w X.K X.mg X.base CX k f fd ps sp)(hr:Room k X.A)(hg:Gl X x)(hm:X.mg x=some (.ref f))(hk:ah7 X.K (.ref f)=true)(hb:Binds X.K fd ps ds)(hd:Vals dvs ds)(hx:mM CX X E)
  (ha:PA X (e::es) t) (hdb:(x==("__debug__":Str))=false:=by decide) (he:af6 (e::es) X.env=(false,eval e X.env)::af6 es X.env:=by rfl) (hpl:(backTo pos (af6 es X.env)).any (·.1)=false:=by rfl):
  PE X (.Call (.Name x p) (e::es) [] pos) (CY sp dvs E t):=by
 intro pins s σ H Q I h;refine ah5 (HD I hg hm ?_ hdb);refine PySem.W.callWith_K (h₀:=X.base) I.ok.mod.kin hk (aK (ha pos pins s σ H _ I h) λus s1⟨vs,H1,I1,r,q⟩=>⟨I1.kIn,?_⟩) he hpl;exact QU F hr hb hd hx I1 r q
structure Mk (K:PySem.W.Frag) (C f:Addr):Prop where
 makes:PySem.W.makesIn K C=true
 init:ahU K (.ref C) "__init__"=some (some (.ref f))
 fn:PySem.W.isFn K (.ref f)=true
 kp:ah7 K (.ref C)=true
end
section
variable{X:Cx}{CX:eB}{k:Nat}{f C:Addr}{fd:afD}{ps ks:List Str}{sp:Sp}{E:XK}{x m:Str}{p pos apos kpos:Pos}{e o:Expr}{es:List Expr}{kws:List Keyword}{te ta:TE}{t tk:TA}{nm:Option Str}
structure aeP (K:PySem.W.Frag) (fd:afD) (ps ks:List Str) (g:List Value->List Value->List Value) (gV:List V->List V->List V):Prop where
 to:∀(s:aeV)(us ws:List Value),K.In s.heap->(g us ws).length=ps.length->BindsTo s fd ⟨us,ks.zip ws⟩ (ps.zip (g us ws))
 rel:∀{vs:List V}{us:List Value}{zs:List V}{ws:List Value},Vals vs us->Vals zs ws->Vals (gV vs zs) (g us ws)
variable{g:List Value->List Value->List Value}{gV:List V->List V->List V}
end
structure aO (N P:List Str) (sc:Scope):Prop where
 kind:sc.kind=.function
 co:sc.isCoroutine=false
 gen:sc.isGenerator=false
 nd:N.Nodup
 pre:N.take P.length=P
 par:∀x∈P,sc.names.lookup x=some .local\/sc.names.lookup x=some .cell
 nofree:∀y∈sc.names,y.2≠.free
theorem JA{kindOf:Str->Option NameKind}{x:Str}:∀{binds:List (Str×Value)}{m:Str->Option Value},(∀v,(x,v)∉binds)->bindL kindOf binds m x=m x
 |[],_,_=>rfl
 | (n,v)::r,m,h=>by
  unfold bindL;rw[JA λw hw=>h w (mem_cons_of_mem _ hw)];split
  ·have:x≠n:=by rintro rfl;exact h v mem_cons_self
   simp[this]
  ·rfl
theorem JC{kindOf:Str->Option NameKind}{x:Str}:∀{binds:List (Str×Value)}{m:Str->Option Value},(∀v,(x,v)∉binds)->bindC kindOf binds m x=m x
 |[],_,_=>rfl
 | (n,v)::r,m,h=>by
  unfold bindC;rw[JC λw hw=>h w (mem_cons_of_mem _ hw)];split
  ·rfl
  ·have:x≠n:=by rintro rfl;exact h v mem_cons_self
   simp[this]
theorem JB{kindOf:Str->Option NameKind}{x:Str}{v:Value}:∀{P:List Str}{vs:List Value}{i:Nat}{m:Str->Option Value},P.Nodup->P[i]? =some x->vs[i]? =some v->kindOf x=some .local->
  bindL kindOf (P.zip vs) m x=some v
 |[],_,_,_,_,h,_,_=>by simp at h
 |_::_,[],_,_,_,_,h,_=>by simp at h
 |p::P,w::vs,0,m,nd,h1,h2,hk=>by
  simp at h1 h2;subst h1;subst h2;show bindL kindOf ((p,w)::P.zip vs) m p=_
  unfold bindL;rw[JA λv hv=>(nodup_cons.mp nd).1 (of_mem_zip hv).1,if_pos hk]
  simp
 |p::P,w::vs,i+1,m,nd,h1,h2,hk=>by
  show bindL kindOf ((p,w)::P.zip vs) m x=_;unfold bindL;exact JB (i:=i) (nodup_cons.mp nd).2 (by simpa using h1) (by simpa using h2) hk
theorem JD{kindOf:Str->Option NameKind}{x:Str}{v:Value}:∀{P:List Str}{vs:List Value}{i:Nat}{m:Str->Option Value},P.Nodup->P[i]? =some x->vs[i]? =some v->kindOf x≠some .local->
  bindC kindOf (P.zip vs) m x=some v
 |[],_,_,_,_,h,_,_=>by simp at h
 |_::_,[],_,_,_,_,h,_=>by simp at h
 |p::P,w::vs,0,m,nd,h1,h2,hk=>by
  simp at h1 h2;subst h1;subst h2;show bindC kindOf ((p,w)::P.zip vs) m p=_
  unfold bindC;rw[JC λv hv=>(nodup_cons.mp nd).1 (of_mem_zip hv).1,if_neg hk]
  simp
 |p::P,w::vs,i+1,m,nd,h1,h2,hk=>by
  show bindC kindOf ((p,w)::P.zip vs) m x=_;unfold bindC;exact JD (i:=i) (nodup_cons.mp nd).2 (by simpa using h1) (by simpa using h2) hk
noncomputable def start(N:List Str)(vs:List V):St:=vs.map some++replicate (N.length-vs.length) none
noncomputable def jS(CX:eB)(P:afL)(w:agC)(K:PySem.W.Frag)(mg:Str->Option Value)(base:Heap)(N:List Str)(qual:Str)(scope:Scope)(f:Addr)(cd:Value)(A:afU)(outer:List Env)(s:aeV)(H:Hp)(E:XK):Cx where
 prog:=P
 w:=w
 K:=K
 mg:=mg
 base:=base
 A:=A.deeper (envOfC qual scope s.heap.objs.size f cd)
 N:=N
 s₀:=s
 H₀:=H
 env:=envOfC qual scope s.heap.objs.size f cd
 outer:=outer
 stack:=envOfC qual scope s.heap.objs.size f cd::outer
 ex:=[]
 calm:=true
 fn:=λ_=>true
 pn:=[]
 xe:=λe s'=>afH (afT P w) (A.deeper (envOfC qual scope s.heap.objs.size f cd)) (leaving (envOfC qual scope s.heap.objs.size f cd) e) (λ_ s''=>CX outer H s E e s'') (λe' s''=>CX outer H s E e' s'') s'
theorem IY{sc:Scope}{n:Nat}{x:Str}(h:sc.names.lookup x=some .cell):∃c,(cellsFrom n sc.names []).lookup x=some c:=by
 have q:=PySem.W.cellsFrom_some sc.names n [] (.inl h);exact Option.isSome_iff_exists.mp q
theorem aaC{CX:eB}{P:afL}{w:agC}{K:PySem.W.Frag}{mg:Str->Option Value}{base:Heap}{N ps:List Str}{qual:Str}{scope:Scope}{f:Addr}{cd:Value}{A:afU}{outer:List Env}{s s1:aeV}{H:Hp}{E:XK}{us:List Value}{vs:List V}
  (S:aO N ps scope) (hd:A.handled=none) (e0:Env0 P w K mg base A outer s H) (hl:vs.length=ps.length) (r:Vals vs us)
  (x:InCallC s s.heap.objs.size (bindL (envOfC qual scope s.heap.objs.size f cd).kindOf (ps.zip us) λ_=>none) (cellsFrom (s.heap.objs.size+1) scope.names []) (bindC (envOfC qual scope s.heap.objs.size f cd).kindOf (ps.zip us) λ_=>none) s1):
  Inv (jS CX P w K mg base N qual scope f cd A outer s H E) [] (start N vs) H s1:=by
 have hpl:ps.length<=N.length:=by have:=congrArg List.length S.pre;rw[length_take]at this;lia
 obtain⟨h1,tk,rfl,hk⟩:=x.done;have noA:∀b:Addr,b∉(jS CX P w K mg base N qual scope f cd A outer s H E).ex:=λb z=>absurd (show b∈([]:List Addr) from z) (by simp)
 refine⟨⟨e0.mod,S.kind,rfl,rfl,aeU _,λy z c h1 h2=>?_,λy hy=>?_,λy c _ h=>?_,λ_=>hd,afU.frames_deeper e0.frames,.inr ⟨rfl,rfl⟩,λb z=>absurd z (noA b),e0.bs,e0.bsz,λb _ _=>noA b,λb z=>absurd z (noA b),e0.funs,e0.frf⟩,
  rfl,e0.bare,Un.kept hk,⟨_,x.toInCall.ns,λi y v h1 h2 h3=>?_⟩,λy c h=>⟨_,x.cell y c h⟩,e0.hok.fresh (aeU _),λy c h=>?_,λp hp=>absurd (show p∈([]:List (Addr×Obj)) from hp) (by simp),e0.hok.kept hk,?_⟩
 ·exact name_of_addr x.apart (aiI h1) (aiI h2)
 ·have hy:scope.names.lookup y=some .cell\/scope.names.lookup y=some .free:=hy;rcases hy with hy|hy
  ·exact IY hy
  ·exact absurd rfl (S.nofree _ (aiI hy))
 ·exact agP (x.above y c (aiI h))
 ·have hi:i<vs.length:=by
   unfold start at h2;by_cases hi:i<vs.length
   ·exact hi
   ·rw[agQ (by simpa using hi)]at h2;rw[List.getElem?_replicate]at h2;split at h2 <;> cases h2
  have ha:vs[i]? =some v:=by
   unfold start at h2;rw[agU (by simpa using hi),ae4]at h2
   cases e:vs[i]? with
   |none=>rw[e]at h2;cases h2
   |some a=>rw[e]at h2;cases h2;rfl
  obtain⟨u,hu,rv⟩:=r.get ha
  have hp:ps[i]? =some y:=by
   rw[<-S.pre,List.getElem?_take_of_lt (by lia)];exact h1
  have ndP:ps.Nodup:=by rw[<-S.pre];exact S.nd.sublist (take_sublist _ _)
  refine⟨u,rv,?_⟩;rcases S.par y (af3 hp) with k|k
  ·exact .inl ⟨k,JB ndP hp hu k⟩
  ·obtain⟨c,e⟩:=IY (n:=s.heap.objs.size+1) k;refine .inr ⟨.inl k,c,e,?_⟩;have q:=x.cell y c e;rw[JD ndP hp hu (by show scope.names.lookup y≠_;rw[k];decide)]at q;exact q
 ·exact e0.hok.fresh (agP (x.above y c (aiI h)))
 ·unfold start;show _=N.length
  rw[length_append,length_map,length_replicate];lia
theorem IH{CX:eB}{P:afL}{w:agC}{K:PySem.W.Frag}{mg:Str->Option Value}{base:Heap}{k:Nat}{f:Addr}{name qual:Str}{params:Arguments}{body:List Stmt}{scope:Scope}{dV kV doc pm cdv ct oc:Value}{an od:Option Addr}
  {osl:Array (Option Value)} {N ps:List Str} {sp:Sp} (lk:K.lookup f=some ⟨oc,od,.func (PySem.W.fnOf name qual params body scope dV kV doc pm an cdv ct),osl⟩) (hcd:PySem.W.codeIn K cdv qual=true) (S:aO N ps scope)
  (len:∀vs H Q E,sp vs H Q E->vs.length=ps.length)
  (hbody:∀(A:afU)(outer:List Env)(s:aeV)(H:Hp)(vs:List V)(Q:VK)(E:XK),Room k (A.deeper (envOfC qual scope s.heap.objs.size f cdv))->sp vs H Q E->
   ∃t,PSs (jS CX P w K mg base N qual scope f cdv A outer s H E) body t/\t { nx:=λ_ H'=>Q .non H',rt:=Q } (start N vs) H):
  FnOk P w K mg base CX (k+1) f (PySem.W.fnOf name qual params body scope dV kV doc pm an cdv ct) ps sp:=by
 refine⟨len,λA outer s H args us vs Q E hr e0 hb r hsp=>?_⟩;have hl:=len _ _ _ _ hsp;have KX:K.In s.heap:=e0.mod.kin.keeps λb o e=>(e0.bs b o e).1;have lim:s.heap.NoLimit:=e0.mod.nolimit.keeps λb o e=>(e0.bs b o e).1
 have hkind:∀y∈ps.zip us,scope.names.lookup y.1=some .local\/(scope.names.lookup y.1=some .cell/\((cellsFrom (s.heap.objs.size+1) scope.names []).lookup y.1).isSome=true):=λ⟨n,v⟩hy=>by
  rcases S.par n (of_mem_zip hy).1 with q|q
  ·exact .inl q
  ·exact .inr ⟨q,PySem.W.cellsFrom_some _ _ _ (.inl q)⟩
 refine codeAny_call_function hr.depth (KX _ _ lk) rfl S.co S.gen rfl (PySem.W.codeRec_of KX hcd) (hb _ _ _ _ ?_);refine wpAny_newFunctionEnv_cells S.kind hkind λenv he s1 x=>?_;subst he;refine⟨lim.keeps x.toInCall.keep,codeAny_func ?_⟩;obtain⟨t,ht,hq⟩:=hbody A outer s H vs Q E (hr.deeper _) hsp;have I:Inv (jS CX P w K mg base N qual scope f cdv A outer s H E) [] (start N vs) H s1:=aaC S hr.hd e0 hl r x;refine agS (ht [] s1 (start N vs) H _ I hq) (λfl s' hs=>?_) λe s' hs=>hs
 have fin:∀{σ':St}{H':Hp}{v:V}{u:Value},Inv (jS CX P w K mg base N qual scope f cdv A outer s H E) [] σ' H' s'->RelV v u->Q v H'->CE outer P w H s Q u s':=
  λ{σ' H' v u}J rv q=>⟨v,H',J.os,J.bare,J.base,J.hok,rv,q⟩
 cases fl with
 |ret u=>
  obtain⟨v,σ',H',J,rv,q⟩:=hs
  exact fin J rv q
 |next=>
  obtain⟨σ',H',J,q⟩:=hs
  exact fin (v:=V.non) (u:=Value.none) J rfl q
 |brk=>
  obtain⟨_,_,_,q⟩:=hs
  exact ah3 q
 |cont=>
  obtain⟨_,_,_,q⟩:=hs;exact ah3 q
section
variable{X:Cx}{x:Str}{p pos:Pos}{e:Expr}{es:List Expr}{t:TA}{id T:String}{r:List V->Hp->VK->Prop}
noncomputable def qU(r:List V->Hp->VK->Prop)(t:TA):TE:=λσ H Q=>t σ H λvs H1=>r vs H1 Q
theorem bC(hc:CallR X (.builtin id) r)(hg:Gl X x)(hm:X.mg x=none)(hv:af9 x=some (.builtin id))(ha:PA X (e::es) t)(hn:x≠"__name__":=by decide)(hdb:(x==("__debug__":Str))=false:=by decide)
  (he:af6 (e::es) X.env=(false,eval e X.env)::af6 es X.env:=by rfl) (hpl:(backTo pos (af6 es X.env)).any (·.1)=false:=by rfl):PE X (.Call (.Name x p) (e::es) [] pos) (qU r t):=by
 intro pins s σ H Q I h;refine ah5 (fO I hg hm hv ?_ hn hdb);exact PyProof.Rows.callWith_builtin1 (aK (ha pos pins s σ H _ I h) λus s1⟨vs,H1,I1,r1,q1⟩=>hc pins s1 σ H1 vs us Q I1 r1 q1) he hpl
theorem jL(hc:CallR X (.type T) r)(hg:Gl X x)(hm:X.mg x=none)(hv:af9 x=some (.type T))(ha:PA X (e::es) t)(hn:x≠"__name__":=by decide)(hdb:(x==("__debug__":Str))=false:=by decide)
  (he:af6 (e::es) X.env=(false,eval e X.env)::af6 es X.env:=by rfl) (hpl:(backTo pos (af6 es X.env)).any (·.1)=false:=by rfl):PE X (.Call (.Name x p) (e::es) [] pos) (qU r t):=by
 intro pins s σ H Q I h;refine ah5 (fO I hg hm hv ?_ hn hdb);exact agM (aK (ha pos pins s σ H _ I h) λus s1⟨vs,H1,I1,r1,q1⟩=>hc pins s1 σ H1 vs us Q I1 r1 q1) he hpl
end
end L2
namespace HT
open PySem PyProof.Rows
noncomputable def lexLt:List Int->List Int->Bool
 |[],[]=>false
 |[],_::_=>true
 |_::_,[]=>false
 |x::xs,y::ys=>if x=y then lexLt xs ys else decide (x<y)
theorem eF(x y:Int)(xs ys:List Int):lexLt (x::xs) (y::ys)=if x=y then lexLt xs ys else decide (x<y):=rfl
theorem Y1:lexLt [] []=false:=rfl
theorem Y2(y:Int)(ys:List Int):lexLt [] (y::ys)=true:=rfl
theorem Y3(x:Int)(xs:List Int):lexLt (x::xs) []=false:=rfl
theorem abA(A:afU)(s:aeV)(a:Int)(t:Tok)(c:Int)(u:Tok):∃e,SeqAt.EqAt A s (.int a t) (.int c u) e/\(e=true<->a=c):=
 ⟨(a==c),SeqAt.EqAt.int_int a t c u,by simp⟩
theorem EC(A:afU)(s:aeV)(a:Int)(t:Tok)(c:Int)(u:Tok)(prog:afL)(w:agC)(E:Value->aeV->Prop)(Q:Value->aeV->Prop)(h:Q (.bool (decide (a<c))) s):
  afH (afT prog w) A (richCompare .Lt (.int a t) (.int c u)) Q E s:=
 (PyProof.Rows.lt_int h:afH (afT prog w) A (agD .Lt (.int a t) (.int c u)) Q E s)
section
open PySem.SeqAt
open PySem.AutoSeq1 (wpAny_loadPart')
open PySem.MeetsSeq PySem.MeetsSeq2 PySem.MeetsSeq3
theorem MU(l b:Addr)(items items2:Array Value)(n n2:Nat)(dd dd2:Option Addr)(sl sl2:Array (Option Value))(ns ms:List Int)(hi:ah2 items.toList ns)(hj:ah2 items2.toList ms):
  Meets (af8.«tuple.__lt__» ⟨[.ref l,.ref b],[]⟩)
   (λ_ R s=>s.heap.get? l=some { cls:=.type "tuple",dict:=dd,data:=.seq items n,slots:=sl }/\s.heap.get? b=some { cls:=.type "tuple",dict:=dd2,data:=.seq items2 n2,slots:=sl2 }/\
    R (.ok (.ret (.bool (lexLt ns ms)))) s):=
 .of_wp λprog w A R s h=>by
  obtain⟨hp,g,d,tk,os⟩:=s;obtain⟨hl,hb,h⟩:=h;have f2:=AutoSeq1.sub_tuple_tuple;have z1:items.size=ns.length:=by rw[<-hi.length];simp
  have z2:items2.size=ms.length:=by rw[<-hj.length];simp
  wp_walk using ahP hl,ahP hb,wpAny_forIn_list _ (λbM b s'=>b.1=none/\s'=⟨hp,g,d,tk,os⟩/\∃(vs ws:List Value)(ns' ms':List Int),bM=vs.zip ws/\
   ah2 vs ns'/\ah2 ws ms'/\ns'.length+items2.size=ms'.length+items.size/\R (.ok (.ret (.bool (lexLt ns' ms')))) ⟨hp,g,d,tk,os⟩) _
  case turn=>
   rintro⟨y,x⟩ bM b s' ⟨hb',rfl,vs,ws,ns',ms',hz,hvi,hwi,hlen,hR⟩
   cases hvi with
   |nil=>rw[List.zip_nil_left]at hz;cases hz
   | cons a t hvi'=>
    cases hwi with
    |nil=>rw[List.zip_nil_right]at hz;cases hz
    | cons c u hwi'=>
     rw[zip_cons_cons]at hz;injection hz with hyx hrest;injection hyx with hy hx;subst hy hx;rw[eF]at hR;simp only[length_cons]at hlen;obtain⟨e,he,hiff⟩:=abA A.in1 ⟨hp,g,d,tk,os⟩ a t c u;refine aeS (he prog w _ _ ?_)
     cases e with
     |true=>
      rw[if_pos (hiff.mp rfl)]at hR
      wp_walk
      exact⟨rfl,rfl,_,_,_,_,hrest,hvi',hwi',by lia,hR⟩
     |false=>
      rw[if_neg (λq=>absurd (hiff.mpr q) afK)]at hR;have hri:=EC A.in1 ⟨hp,g,d,tk,os⟩ a t c u prog w
      wp_walk using hri
      exact⟨_,rfl,by simpa using hR⟩
  case fin=>
   rintro⟨b1,b2⟩ s' ⟨hb',rfl,vs,ws,ns',ms',hz,hvi,hwi,hlen,hR⟩;simp only at hb';subst hb'
   have hv:lexLt ns' ms'=decide (items.size<items2.size):=by
    cases hvi with
    | nil=>
     cases hwi with
     |nil=>
      simp only[length_nil]at hlen;rw[Y1]
      exact(decide_eq_false (by lia)).symm
     |cons c u hw=>
      simp only[length_nil,length_cons]at hlen;rw[Y2]
      exact(decide_eq_true (by lia)).symm
    | cons a t hv=>
     cases hwi with
     |nil=>
      simp only[length_nil,length_cons]at hlen;rw[Y3]
      exact(decide_eq_false (by lia)).symm
     |cons c u hw=>
      rw[zip_cons_cons]at hz;cases hz
   rw[hv]at hR
   wp_walk
   exact⟨_,rfl,by simpa[af8.Tuple.tupleCompareSizes]using hR⟩
  case h=>
   exact⟨rfl,rfl,items.toList,items2.toList,ns,ms,rfl,hi,hj,by lia,h⟩
end
section
variable{prog:afL}{w:agC}{A:afU}{E:Value->aeV->Prop}{s:aeV}
theorem YN{l b:Addr}{items items2:Array Value}{ns ms:List Int}{Q:Value->aeV->Prop}(hl:IsTup s.heap l items)(hb:IsTup s.heap b items2)(hi:ah2 items.toList ns)(hj:ah2 items2.toList ms)
  (hu:A.units<cLine) (h:Q (.bool (lexLt ns ms)) s):afH (afT prog w) A (agD .Lt (.ref l) (.ref b)) Q E s:=by
 obtain⟨⟨cls,dd,data,sl⟩,ho,hc,n,hd⟩:=id hl;obtain⟨⟨cls2,dd2,data2,sl2⟩,ho2,hc2,n2,hd2⟩:=id hb;simp only at hc hd hc2 hd2;subst hc hd hc2 hd2
 exact richCompare_meets_room (op:=.Lt) ⟨_,ho,rfl⟩ ⟨_,ho2,rfl⟩ PySem.F.slot_tuple_lt PySem.F.entry_tuple_lt (PySem.F.args_tuple_lt_2 _ _) (MU l b items items2 n n2 dd dd2 sl sl2 ns ms hi hj)
  ⟨ho,ho2,show aiK (lexLt ns ms)≠Value.notImplemented/\Q (.bool (lexLt ns ms)) s from⟨(λx=>nomatch x),h⟩⟩ hu
theorem abV{t b:Addr}{vs ws:List Value}{Q:Value->aeV->Prop}(ht:IsTup s.heap t vs.toArray)(hb:IsTup s.heap b ws.toArray)(hv:vs≠[])
  (h1:ws=[]->Q (.ref t) s) (h2:ws≠[]->Q (.ref s.heap.objs.size) { s with heap:=s.heap.push { cls:=.type "tuple",data:=.seq (vs++ws).toArray } })
  (hsz:vs.length+ws.length<=sizeLine):afH (afT prog w) A (binaryOp .Add (.ref t) (.ref b)) Q E s:=by
 obtain⟨⟨cls,dd,data,sl⟩,ho,hc,n,hd⟩:=id ht;obtain⟨⟨cls2,dd2,data2,sl2⟩,ho2,hc2,n2,hd2⟩:=id hb;simp only at hc hd hc2 hd2;subst hc hd hc2 hd2;have e:vs.toArray++ws.toArray=(vs++ws).toArray:=by simp
 by_cases hw:ws=[]
 ·exact concat_meets ⟨_,ho,rfl⟩ ⟨_,ho2,rfl⟩ noFill_tuple_add seq_tuple_add PySem.F.slot_tuple_add PySem.F.entry_tuple_add (PySem.F.args_tuple_add_2 _ _)
   (tuple_addW1 t b vs.toArray ws.toArray n n2 dd dd2 sl sl2 (by simpa using hv) (by simp[hw])) ⟨ho,ho2,h1 hw⟩
 ·refine concat_meets ⟨_,ho,rfl⟩ ⟨_,ho2,rfl⟩ noFill_tuple_add seq_tuple_add PySem.F.slot_tuple_add PySem.F.entry_tuple_add (PySem.F.args_tuple_add_2 _ _)
   (tuple_addW2 t b vs.toArray ws.toArray n n2 dd dd2 sl sl2 (by simpa using hv) (by simpa using hw) (by rw[size_toArray,size_toArray];exact hsz)) ⟨ho,ho2,?_⟩
  rw[e];exact h2 hw
noncomputable def cS(n d:Nat):Option Int->Nat
 |none=>d
 |some v=>if v<0 then(v+(n:Int)).toNat else min v.toNat n
theorem DH(n d:Nat):cS n d none=d:=rfl
theorem DI(n d k:Nat):cS n d (some (k:Int))=min k n:=by
 show(if(k:Int)<0 then((k:Int)+(n:Int)).toNat else min (k:Int).toNat n)=min k n;rw[if_neg (by lia),ae6]
end
end HT
namespace L2
open PySem PySem.Spec PyProof.Rows
noncomputable abbrev TO:=St->Hp->(Option Int->Hp->Prop)->Prop
noncomputable def PO(X:Cx)(e:Option Expr)(t:TO):Prop:=
 ∀(pins:List (Addr×Obj))(s:aeV)(σ:St)(H:Hp)(Q:Option Int->Hp->Prop),Inv X pins σ H s->t σ H Q->
  afH (afT X.prog X.w) X.A (evalPart e X.env) (λu s'=>∃o H',Inv X pins σ H' s'/\IsPart u o/\Q o H') X.xe s
noncomputable def CM:TO:=λ_ H Q=>Q none H
noncomputable def CI(t:TE):TO:=λσ H Q=>t σ H λx H1=>∃i,x=.int i/\Q (some i) H1
theorem intsAre_of{ns:List Int}:∀{us:List Value},Vals (ns.map V.int) us->ah2 us ns:=by
 induction ns with
 |nil=>intro us r;rw[map_nil]at r;cases r;exact .nil
 | cons n ns ih=>
  intro us r;rw[map_cons]at r
  cases r with
  |cons r1 r2=>
   obtain⟨t,e⟩:=r1;subst e;exact .cons n t (ih r2)
section
variable{X:Cx}{e:Expr}{te:TE}{lo hi:Option Expr}{tl th:TO}{pos p2:Pos}
theorem EY:PO X none CM:=by
 intro pins s σ H Q I h;rw[evalPart_none];exact aeX ⟨none,H,I,.none,h⟩
theorem EX(h:PE X e te):PO X (some e) (CI te):=by
 intro pins s σ H Q I hw;rw[evalPart_some];refine aK (h pins s σ H _ I hw) λu s1⟨x,H1,I1,r1,q1⟩=>?_;obtain⟨i,rfl,q⟩:=q1;obtain⟨t,rfl⟩:=r1;exact⟨some i,H1,I1,.int i t,q⟩
noncomputable def SlR(X:Cx)(r:V->Option Int->Option Int->Hp->VK->Prop):Prop:=
 ∀(pins:List (Addr×Obj))(s:aeV)(σ:St)(H:Hp)(x:V)(v vl vu:Value)(lo hi:Option Int)(sl:Addr)(Q:VK),Inv X pins σ H s->RelV x v->s.heap.IsSliceOf sl vl vu .none->IsPart vl lo->IsPart vu hi->r x lo hi H Q->
  ∃T id,typeLookup (.type T) "__getitem__"=pure (some (.builtin id))/\s.TypeIs v T/\afH (afT X.prog X.w) X.A (getItem v (.ref sl)) (EP X pins σ Q) X.xe s
theorem SlR.or{r r':V->Option Int->Option Int->Hp->VK->Prop}(h:SlR X r)(h':SlR X r'):SlR X (λx lo hi H Q=>r x lo hi H Q\/r' x lo hi H Q):=by
 intro pins s σ H x v vl vu lo hi sl Q I rx hs pl pu q;rcases q with q|q
 ·exact h pins s σ H x v vl vu lo hi sl Q I rx hs pl pu q
 ·exact h' pins s σ H x v vl vu lo hi sl Q I rx hs pl pu q
noncomputable def CG(r:V->Option Int->Option Int->Hp->VK->Prop)(te:TE)(tl th:TO):TE:=λσ H Q=>te σ H λx H1=>tl σ H1 λl H2=>th σ H2 λu H3=>r x l u H3 Q
theorem E3{r:V->Option Int->Option Int->Hp->VK->Prop}(hr:SlR X r)(he:PE X e te)(hl:PO X lo tl)(hu:PO X hi th):PE X (.Subscript e (.Slice lo hi none p2) pos) (CG r te tl th):=by
 intro pins s σ H Q I h;refine Subscript_ (aK (he pins s σ H _ I h) λv s1⟨x,H1,I1,r1,q1⟩=>?_);refine wpAny_Slice (aK (hl pins s1 σ H1 _ I1 q1) λvl s2⟨l,H2,I2,pl,q2⟩=>aK (hu pins s2 σ H2 _ I2 q2) λvu s3⟨u,H3,I3,pu,q3⟩=>?_);rw[evalPart_none];refine aeX ?_;have I4:Inv X pins σ H3 { s3 with heap:=s3.heap.push { cls:=.type "slice",data:=.fields #[vl,vu,.none] } }:=I3.kept (t':=s3.toks) λb ob q=>aeT _ q;obtain⟨T,id,hT,ht,hg⟩:=hr pins { s3 with heap:=s3.heap.push { cls:=.type "slice",data:=.fields #[vl,vu,.none] } } σ H3 x v vl vu l u s3.heap.objs.size Q I4 r1 (Heap.IsSliceOf.new ..) pl pu q3;show afH (afT X.prog X.w) X.A (subscriptTail e (.Slice lo hi none p2) v (.ref s3.heap.objs.size)) (EP X pins σ Q) X.xe { s3 with heap:=s3.heap.push { cls:=.type "slice",data:=.fields #[vl,vu,.none] } }
 exact tail_any (ops:=[.ref s3.heap.objs.size,v]) ht hT hg (by with_unfolding_all rfl)
noncomputable def iJ(xs:List V)(lo hi:Option Int):List V:=(xs.drop (HT.cS xs.length 0 lo)).take (HT.cS xs.length xs.length hi-HT.cS xs.length 0 lo)
theorem abN(xs:List V)(lo hi:Option Int):(iJ xs lo hi).length<=xs.length:=by
 unfold iJ;rw[length_take,length_drop];lia
noncomputable def nR(K:PySem.W.Frag):R2:=λx y H Q=>∃a b ns ms,x=.ref a/\y=.ref b/\SqT K H a (ns.map V.int)/\SqT K H b (ms.map V.int)/\Q (.bl (HT.lexLt ns ms)) H
theorem UU(hu:X.A.units<cLine):OpR X (agD .Lt) (nR X.K):=by
 intro pins s σ H x y v u Q I rx ry h;obtain⟨a,b,ns,ms,rfl,rfl,ha,hb,q⟩:=h;cases rx;cases ry;obtain⟨its,r1,p1,_⟩:=I.tuple ha;obtain⟨its2,r2,p2,_⟩:=I.tuple hb;have i1:ah2 its.toArray.toList ns:=intsAre_of r1;have i2:ah2 its2.toArray.toList ms:=intsAre_of r2;exact HT.YN p1 p2 i1 i2 hu ⟨.bl (HT.lexLt ns ms),H,I,rfl,q⟩
noncomputable def TM(K:PySem.W.Frag):R2:=λx y H Q=>∃a b xs ys,x=.ref a/\y=.ref b/\SqT K H a xs/\SqT K H b ys/\xs≠[]/\xs.length+ys.length<=sizeLine/\
 (ys=[]->Q (.ref a) H)/\(ys≠[]->∀p,H p=none->Q (.ref p) (upd H p (.tup (xs++ys))))
theorem Vals.nil_iff{xs:List V}{us:List Value}(r:Vals xs us):us=[]<->xs=[]:=by
 cases r with
 |nil=>simp
 |cons _ _=>simp
theorem UY:OpR X (binaryOp .Add) (TM X.K):=by
 intro pins s σ H x y v u Q I rx ry h;obtain⟨a,b,xs,ys,rfl,rfl,ha,hb,hx,hz,q1,q2⟩:=h;cases rx;cases ry;obtain⟨its,r1,p1,_⟩:=I.tuple ha;obtain⟨its2,r2,p2,_⟩:=I.tuple hb;refine HT.abV p1 p2 (λz=>hx (r1.nil_iff.mp z)) (λz=>⟨.ref a,H,I,rfl,q1 (r2.nil_iff.mp z)⟩) (λz=>?_) (by rw[<-r1.length,<-r2.length];exact hz);refine⟨.ref s.heap.objs.size,_,I.laid (t':=s.toks) (o:=.tup (xs++ys)) (λb ob q=>aeT _ q) (aeU _) ?_,rfl,q2 (λw=>z (r2.nil_iff.mpr w)) _ (I.hok.fresh (aeU _))⟩;exact⟨by rw[length_append];exact hz,_,r1.append r2,IsTupN.new _ _⟩
end
noncomputable def e7(n:Nat)(i:Int):Option Nat:=if 0<=i then(if i<n then some i.toNat else none) else if -(n:Int)<=i then some (i+n).toNat else none
noncomputable def c5{α:Type}(xs:List α)(i:Int):Option α:=(e7 xs.length i).bind λj=>xs[j]?
theorem HI{n:Nat}{i:Int}{j:Nat}(h:e7 n i=some j):seqIndex? i n=some j/\j<n/\-(n:Int)<=i/\i<n:=by
 unfold e7 at h;by_cases h0:0<=i
 ·rw[if_pos h0]at h;by_cases h1:i<n
  ·rw[if_pos h1]at h;have e:i.toNat=j:=agK h;exact⟨by rw[seqIndex_of h0 h1,e],by lia,by lia,h1⟩
  ·rw[if_neg h1]at h;cases h
 ·rw[if_neg h0]at h;by_cases h1:-(n:Int)<=i
  ·rw[if_pos h1]at h;have e:(i+n).toNat=j:=agK h;exact⟨by rw[seqIndex_neg (by lia) h1,e],by lia,h1,by lia⟩
  ·rw[if_neg h1]at h;cases h
theorem J1{α:Type}{xs:List α}{i:Int}{v:α}(h:c5 xs i=some v):∃j,seqIndex? i xs.length=some j/\xs[j]? =some v/\j<xs.length/\-(xs.length:Int)<=i/\i<xs.length:=by
 unfold c5 at h
 cases e:e7 xs.length i with
 |none=>rw[e]at h;cases h
 |some j=>
  rw[e]at h;obtain⟨h1,h2,h3,h4⟩:=HI e;exact⟨j,h1,h,h2,h3,h4⟩
theorem ad7{α:Type}{xs:List α}{j:Nat}{v:α}(h:xs[j]? =some v):c5 xs (j:Int)=some v:=by
 have hj:j<xs.length:=(ae3.mp h).1
 have e:e7 xs.length (j:Int)=some j:=by
  unfold e7;rw[if_pos (by lia),if_pos (by lia)];simp
 unfold c5;rw[e];exact h
theorem J0{α:Type}(xs:List α)(v:α):c5 (xs++[v]) (-1)=some v:=by
 have hl:(xs++[v]).length=xs.length+1:=by simp
 have e:e7 (xs++[v]).length (-1)=some xs.length:=by
  unfold e7;rw[hl,if_neg (by decide),if_pos (by lia)]
  congr 1
  lia
 unfold c5;rw[e];show(xs++[v])[xs.length]? =some v
 simp
noncomputable def aeJ(b:Expr):Prop:=∀o i,subscripted b false o i=operate [o,i] (getItem o i)
noncomputable def IxR(X:Cx)(r:R2):Prop:=
 ∀(value slice:Expr)(pins:List (Addr×Obj))(s:aeV)(σ:St)(H:Hp)(x y:V)(v u:Value)(Q:VK),Inv X pins σ H s->RelV x v->RelV y u->r x y H Q->
  subscripted slice false v u=operate [v,u] (getItem v u)->afH (afT X.prog X.w) X.A (subscriptTail value slice v u) (EP X pins σ Q) X.xe s
noncomputable def MtR(X:Cx)(id:String)(r:V->List V->Hp->VK->Prop):Prop:=
 ∀(pins:List (Addr×Obj))(s:aeV)(σ:St)(H:Hp)(x:V)(xs:List V)(v:Value)(us:List Value)(Q:VK),Inv X pins σ H s->RelV x v->Vals xs us->r x xs H Q->
  afH (afT X.prog X.w) X.A (call (.builtin id) (v::us)) (EP X pins σ Q) X.xe s
section
variable{X:Cx}{a b:Expr}{ta tb:TE}{pos:Pos}
theorem IxR.or{r r':R2}(h:IxR X r)(h':IxR X r'):IxR X (λx y H Q=>r x y H Q\/r' x y H Q):=by
 intro value slice pins s σ H x y v u Q I rx ry q hs;rcases q with q|q
 ·exact h value slice pins s σ H x y v u Q I rx ry q hs
 ·exact h' value slice pins s σ H x y v u Q I rx ry q hs
theorem MtR.or{id:String}{r r':V->List V->Hp->VK->Prop}(h:MtR X id r)(h':MtR X id r'):MtR X id (λx xs H Q=>r x xs H Q\/r' x xs H Q):=by
 intro pins s σ H x xs v us Q I rx rs q;rcases q with q|q
 ·exact h pins s σ H x xs v us Q I rx rs q
 ·exact h' pins s σ H x xs v us Q I rx rs q
theorem aU{r:R2}(hr:IxR X r)(ha:PE X a ta)(hb:PE X b tb)(hs:aeJ b):PE X (.Subscript a b pos) (lD r ta tb):=by
 intro pins s σ H Q I h;exact Subscript_ (yK ha hb I h λv u s2 x y H2 I2 rx ry q=>hr a b pins s2 σ H2 x y v u Q I2 rx ry q (hs _ _))
noncomputable def TK(K:PySem.W.Frag):R2:=λx y H Q=>∃p xs i v,x=.ref p/\y=.int i/\SqL K H p xs/\c5 xs i=some v/\Q v H
noncomputable def TJ(K:PySem.W.Frag):R2:=λx y H Q=>∃p xs i v,x=.ref p/\y=.int i/\SqT K H p xs/\c5 xs i=some v/\Q v H
theorem Z0:IxR X (TK X.K):=by
 intro value slice pins s σ H x y v u Q I rx ry h hs;obtain⟨p,xs,i,z,rfl,rfl,hq,he,q⟩:=h;cases rx;obtain⟨t,rfl⟩:=ry;obtain⟨its,r,pl,hz⟩:=I.list hq;obtain⟨j,h1,h2,h3,h4,h5⟩:=J1 he;obtain⟨w,ew,rw'⟩:=r.get h2;have hl:=r.length;have hn:=lR;have fin:EP X pins σ Q w s:=⟨z,H,I,rw',q⟩
 by_cases h0:0<=i
 ·have hj:i.toNat=j:=by
   rw[seqIndex_of h0 h5]at h1;exact agK h1
  exact item_listR pl.isList h0 (by lia) (by rw[hj];simpa using ew) fin hs
 ·have hj:(i+(its.toArray.size:Int)).toNat=j:=by
   rw[seqIndex_neg (by lia) h4]at h1;rw[size_toArray,<-hl];exact agK h1
  exact subscriptTail_builtinR (x:=w) pl.isList.typeIs slot_list_getitem.lookup
   (wpAny_getItem_list_neg (Q:=λr s'=>r=w/\EP X pins σ Q r s') pl.isList (by lia) (by rw[size_toArray] <;> lia) (by lia) (by rw[hj];simpa using ew) ⟨rfl,fin⟩) hs
theorem ZZ:IxR X (TJ X.K):=by
 intro value slice pins s σ H x y v u Q I rx ry h hs;obtain⟨p,xs,i,z,rfl,rfl,hq,he,q⟩:=h;cases rx;obtain⟨t,rfl⟩:=ry;obtain⟨its,r,pl,hz⟩:=I.tuple hq;obtain⟨j,h1,h2,h3,h4,h5⟩:=J1 he;obtain⟨w,ew,rw'⟩:=r.get h2;have hl:=r.length;have hn:=lR;have fin:EP X pins σ Q w s:=⟨z,H,I,rw',q⟩
 exact subscriptTail_builtinR (x:=w) pl.typeIs slot_tuple_getitem.lookup
  (getItem_tuple (j:=j) (Q:=λr s'=>r=w/\EP X pins σ Q r s') pl (by lia) (by lia) (by rw[size_toArray,<-hl];exact h1) (by simpa using ew) ⟨rfl,fin⟩) hs
theorem XE(its:List Value)(n j:Nat)(u:Value):afA (·.setIfInBounds j u) { cls:=.type "list",data:=.seq its.toArray n }={ cls:=.type "list",data:=.seq (its.set j u).toArray n }:=by
 simp[afA]
theorem Inv.lst{pins:List (Addr×Obj)}{σ:St}{H:Hp}{s:aeV}{p:Addr}{xs:List V}(I:Inv X pins σ H s)(h:H p=some (.lst xs)):
  ∃(its:List Value)(n:Nat),Vals xs its/\s.heap.get? p=some { cls:=.type "list",data:=.seq its.toArray n }/\xs.length<=sizeLine:=by
 obtain⟨z,its,n,r,e⟩:=I.hok p _ h;exact⟨its,n,r,e,z⟩
theorem Inv.lstUpd{pins:List (Addr×Obj)}{σ:St}{H:Hp}{s:aeV}{p:Addr}{xs ys:List V}{its its':List Value}{n n':Nat}{f:Obj->Obj}(I:Inv X pins σ H s)(h:H p=some (.lst xs))
  (ho:s.heap.get? p=some { cls:=.type "list",data:=.seq its.toArray n }) (hf:f { cls:=.type "list",data:=.seq its.toArray n }={ cls:=.type "list",data:=.seq its'.toArray n' }) (r:Vals ys its') (hz:ys.length<=sizeLine) (t:Nat):
  Inv X pins σ (upd H p (.lst ys)) { s with heap:=s.heap.update p f,toks:=t }:=by
 have e:(s.heap.update p f).get? p=some { cls:=.type "list",data:=.seq its'.toArray n' }:=by
  rw[ag0 f ho (by rw[hf] <;> rfl),hf]
 refine I.write (x:=p) (e:=p) (by rw[h];trivial) (.inl rfl) (λb u hb q=>(ah1 _ _ (afY hb)).trans q) ⟨_,e⟩ ?_;exact⟨hz,its',n',r,e⟩
noncomputable def EF:V->V->V->Hp->(Hp->Prop)->Prop:=λo i v H Q=>∃p xs k j,o=.ref p/\i=.int k/\H p=some (.lst xs)/\e7 xs.length k=some j/\Q (upd H p (.lst (xs.set j v)))
theorem nF:KB X EF:=by
 intro pins s σ H o i v ov iv u Q I ro ri rv h;obtain⟨p,xs,k,j,rfl,rfl,hp,hj,q⟩:=h;cases ro;obtain⟨t,rfl⟩:=ri;obtain⟨its,n,r,ho,hz⟩:=I.lst hp;obtain⟨h1,h2,h3,h4⟩:=HI hj;have hl:=r.length;have hn:=lR
 have I':Inv X pins σ (upd H p (.lst (xs.set j v))) { s with heap:=s.heap.update p (afA (·.setIfInBounds j u)) }:=
  I.lstUpd hp ho (XE its n j u) (r.set rv j) (by rw[length_set];exact hz) s.toks
 by_cases h0:0<=k
 ·have hk:k.toNat=j:=by
   rw[seqIndex_of h0 h4]at h1;exact agK h1
  exact PySem.W.ki_setAt ho h0 (by lia) (by rw[size_toArray,<-hl];exact h4) (by rw[hk];exact⟨_,I',q⟩)
 ·have hk:(k+(its.toArray.size:Int)).toNat=j:=by
   rw[seqIndex_neg (by lia) h3]at h1;rw[size_toArray,<-hl];exact agK h1
  exact PySem.W.ki_setBack ho (by lia) (by rw[size_toArray,<-hl];exact h3) (by lia) (by rw[hk];exact⟨_,I',q⟩)
theorem PJ(lo hi:Option Int)(n:Nat):(sliceBounds lo hi none n).1=((HT.cS n 0 lo:Nat):Int)/\(sliceBounds lo hi none n).2.1=((HT.cS n n hi:Nat):Int)/\(sliceBounds lo hi none n).2.2=1:=by
 refine⟨?_,?_,rfl⟩
 ·cases lo with
  |none=>simp[sliceBounds,HT.cS]
  |some i=>
   simp only[sliceBounds,HT.cS,Option.getD_none,show(1:Int)>0 by decide,if_true];by_cases h:i<0
   ·simp only[h,if_true] <;> lia
   ·simp only[h,if_false] <;> lia
 ·cases hi with
  |none=>simp[sliceBounds,HT.cS]
  |some i=>
   simp only[sliceBounds,HT.cS,Option.getD_none,show(1:Int)>0 by decide,if_true];by_cases h:i<0
   ·simp only[h,if_true] <;> lia
   ·simp only[h,if_false] <;> lia
theorem PK(its:List Value)(lo hi:Option Int):slicePick its.toArray lo hi none=((its.drop (HT.cS its.length 0 lo)).take (HT.cS its.length its.length hi-HT.cS its.length 0 lo)).toArray:=by
 obtain⟨h1,h2,h3⟩:=PJ lo hi its.toArray.size;unfold slicePick;rw[h1,h2,h3];simp only[sliceRange_one,pick_run,size_toArray] <;> rfl
noncomputable def uC(K:PySem.W.Frag):V->Option Int->Option Int->Hp->VK->Prop:=λx lo hi H Q=>∃a xs,x=.ref a/\SqL K H a xs/\∀p,H p=none->Q (.ref p) (upd H p (.lst (iJ xs lo hi)))
theorem PM:SlR X (uC X.K):=by
 intro pins s σ H x v vl vu lo hi sl Q I rx hs pl pu h;obtain⟨a,xs,rfl,hx,q⟩:=h;cases rx;obtain⟨its,r,ht,hz⟩:=I.list hx;have hlen:=r.length;refine⟨"list",_,slot_list_getitem.lookup,ht.isList.typeIs,?_⟩;refine wpAny_getItem_list_slice ht.isList hs pl pu .none (by simp) ?_ (by rw[size_toArray] <;> lia);rw[PK,<-hlen];refine⟨.ref s.heap.objs.size,_,I.laid (t':=s.toks) (o:=.lst (iJ xs lo hi)) (λb ob q=>aeT _ q) (aeU _) ?_,rfl,q _ (I.hok.fresh (aeU _))⟩;exact⟨afO (abN xs lo hi) hz,_,0,(r.drop (HT.cS xs.length 0 lo)).take (HT.cS xs.length xs.length hi-HT.cS xs.length 0 lo),aeZ _ rfl⟩
theorem ab8:CallR X (.builtin "len") (λxs H Q=>∃p ys,xs=[.ref p]/\(SqL X.K H p ys\/SqT X.K H p ys)/\Q (.int ys.length) H):=by
 intro pins s σ H xs us Q I r h;obtain⟨p,ys,rfl,hq,q⟩:=h;obtain⟨u,rfl,rx⟩:=vals1 r;cases rx;have hn:=lR;rcases hq with hq|hq
 ·obtain⟨its,r',pl,hz⟩:=I.list hq;have hlen:=r'.length;exact Calls.call_len_list pl.isList (by simp only[size_toArray] <;> lia) ⟨.int ys.length,H,I.tok _,⟨s.toks+1,by rw[size_toArray,hlen]⟩,q⟩
 ·obtain⟨its,r',pl,hz⟩:=I.tuple hq;have hlen:=r'.length;exact len_tuple pl (by simp only[size_toArray] <;> lia) ⟨.int ys.length,H,I.tok _,⟨s.toks+1,by rw[size_toArray,hlen]⟩,q⟩
theorem CallR.or{f:Value}{r r':List V->Hp->VK->Prop}(h:CallR X f r)(h':CallR X f r'):CallR X f (λxs H Q=>r xs H Q\/r' xs H Q):=by
 intro pins s σ H xs us Q I rs q;rcases q with q|q
 ·exact h pins s σ H xs us Q I rs q
 ·exact h' pins s σ H xs us Q I rs q
theorem ab7:CallR X (.type "list") (λxs H Q=>∃p ys,xs=[.ref p]/\(SqL X.K H p ys\/SqT X.K H p ys)/\∀l,H l=none->Q (.ref l) (upd H l (.lst ys))):=by
 intro pins s σ H xs us Q I r h;obtain⟨p,ys,rfl,hq,q⟩:=h;obtain⟨u,rfl,rx⟩:=vals1 r;cases rx
 have fin:∀(its:List Value),Vals ys its->ys.length<=sizeLine->∀(h':Heap)(c':Nat),(∀b o',s.heap.get? b=some o'->h'.get? b=some o')->
   h'.get? s.heap.objs.size=some { cls:=.type "list",dict:=none,data:=.seq its.toArray c',slots:=#[] }->EP X pins σ Q (.ref s.heap.objs.size) { s with heap:=h' }:=λits r' hz h' c' kp e=>
  ⟨.ref s.heap.objs.size,_,I.laid (t':=s.toks) kp (aeU _) (show ObjOk X.prog X.w _ h' _ (.lst ys) from⟨hz,its,c',r',e⟩),rfl,q _ (I.hok.fresh (aeU _))⟩
 rcases hq with hq|hq
 ·obtain⟨its,r',pl,hz⟩:=I.list hq;have hlen:=r'.length;obtain⟨o,ho,hc,n,hd⟩:=pl.isList;exact call_list_seq p (.inl rfl) ho hc hd (λh' c' kp e=>fin its r' hz h' c' kp e) (by simp only[size_toArray] <;> lia)
 ·obtain⟨its,r',pl,hz⟩:=I.tuple hq;have hlen:=r'.length;obtain⟨o,ho,hc,n,hd⟩:=pl;exact call_list_seq p (.inr rfl) ho hc hd (λh' c' kp e=>fin its r' hz h' c' kp e) (by simp only[size_toArray] <;> lia)
theorem abW:CallR X (.type "tuple") (λxs H Q=>∃p ys,xs=[.ref p]/\((SqL X.K H p ys/\∀l,H l=none->Q (.ref l) (upd H l (.tup ys)))\/(SqT X.K H p ys/\Q (.ref p) H))):=by
 intro pins s σ H xs us Q I r h;obtain⟨p,ys,rfl,h⟩:=h;obtain⟨u,rfl,rx⟩:=vals1 r;cases rx;rcases h with⟨hq,q⟩|⟨hq,q⟩
 ·obtain⟨its,r',pl,hz⟩:=I.list hq;have hlen:=r'.length;refine call_tuple_list pl.isList (λh' kp=>?_) (by simp only[size_toArray] <;> lia);have I1:Inv X pins σ H { s with heap:=h' }:=I.kept (t':=s.toks) kp
  have I2:Inv X pins σ (upd H h'.objs.size (.tup ys)) { s with heap:=h'.push { cls:=.type "tuple",data:=.seq its.toArray } }:=
   I1.laid (t':=s.toks) (λb o e=>aeT _ e) (aeU _) (show ObjOk X.prog X.w _ _ _ (.tup ys) from⟨hz,its,r',IsTupN.new _ _⟩)
  exact⟨.ref h'.objs.size,_,I2,rfl,q _ (I1.hok.fresh (aeU _))⟩
 ·obtain⟨its,r',pl,hz⟩:=I.tuple hq;exact call_tuple_same pl ⟨.ref p,H,I,rfl,q⟩
noncomputable def mX(K:PySem.W.Frag)(T:String)(x:V)(H:Hp):Prop:=match x with
 | .str _=>T="str"
 | .int _=>T="int"
 | .ref p=>(T="list"/\∃xs,SqL K H p xs)\/(T="tuple"/\∃o,K.lookup p=some o/\o.cls=.type "tuple"/\o.dict=none)\/
   (T="dict"/\((∃kvs,H p=some (.dK kvs))\/∃kvs,H p=some (.dT kvs)))\/(T="set"/\∃S n,H p=some (.set S n))
 |_=>False
theorem MN{pins:List (Addr×Obj)}{σ:St}{H:Hp}{s:aeV}{T:String}{x:V}{v:Value}(I:Inv X pins σ H s)(r:RelV x v)(ty:mX X.K T x H):
  s.TypeIs v T/\∀a,v=.ref a->∃ob,s.heap.get? a=some ob/\ob.dict=none:=by
 cases x with
 |str z=>
  obtain⟨t,rfl⟩:=r;cases(show T="str" from ty)
  exact⟨typeIs_str s z t,λ_ e=>nomatch e⟩
 |int i=>
  obtain⟨t,rfl⟩:=r;cases(show T="int" from ty)
  exact⟨typeIs_int s i t,λ_ e=>nomatch e⟩
 | ref p=>
  cases r;rcases ty with⟨rfl,xs,hq⟩|⟨rfl,o,hk,hc,hd⟩|⟨rfl,hk⟩|⟨rfl,S,n,hk⟩
  ·obtain⟨its,_,pl,_⟩:=I.list hq;refine⟨pl.isList.typeIs,λa e=>?_⟩;cases e;obtain⟨o,n,e,c,hd,_⟩:=pl;exact⟨o,e,hd⟩
  ·refine⟨⟨o,I.kIn p o hk,hc⟩,λa e=>?_⟩;cases e;exact⟨o,I.kIn _ o hk,hd⟩
  ·have z:∃o,s.heap.get? p=some o/\o.ExactDict:=by
    rcases hk with⟨kvs,hk⟩|⟨kvs,hk⟩
    ·obtain⟨_,_,_,_,o,_,_,e,ex,_⟩:=I.hok p _ hk;exact⟨o,e,ex⟩
    ·obtain⟨_,_,_,_,o,_,_,e,ex,_⟩:=I.hok p _ hk;exact⟨o,e,ex⟩
   obtain⟨o,e,ex⟩:=z;refine⟨⟨o,e,ex.1⟩,λa e2=>?_⟩;cases e2;exact⟨o,e,ex.2.1⟩
  ·obtain⟨o,_,_,_,e,ex,_⟩:=I.hok p _ hk;refine⟨⟨o,e,ex.1⟩,λa e2=>?_⟩;cases e2
   exact⟨o,e,ex.2.1⟩
 |_=>exact ah3 ty
noncomputable def qV(K:PySem.W.Frag)(T:String)(r:V->List V->Hp->VK->Prop)(to:TE)(t:TA):TE:=λσ H Q=>to σ H λx H1=>mX K T x H1/\t σ H1 λxs H2=>r x xs H2 Q
variable{o e:Expr}{es:List Expr}{to:TE}{t:TA}{name:Str}{apos cpos:Pos}{T id:String}{r:V->List V->Hp->VK->Prop}
theorem UM(pa:PlainAttrs T)(slot:Slot T name id)(hty:typeOf (.builtin id)=pure (.type "method_descriptor"))(hm:MtR X id r)(ho:PE X o to)(ha:PA X (e::es) t)
  (hbase:attributeBase o name X.env (eval o X.env)=eval o X.env:=by rfl)
  (hfew:((backTo cpos (af6 (e::es) X.env)).all (λx=> !x.1)&&(backToKw cpos (keywordEach [] X.env)).all (λx=>x.1.isSome)
   &&decide ((e::es).length+([]:List Keyword).length+(if([]:List Keyword).isEmpty then 0 else 1)<30))=true:=by rfl)
  (hline:(apos.endLine==cpos.line)=true:=by rfl) (hs:af6 (e::es) X.env=(false,eval e X.env)::af6 es X.env:=by rfl) (hplain:(backTo cpos (af6 es X.env)).any (·.1)=false:=by rfl):
  PE X (.Call (.Attribute o name apos) (e::es) [] cpos) (qV X.K T r to t):=by
 intro pins s σ H Q I h;refine wpAny_Call_method_late hbase hfew hline rfl (aK (ho pins s σ H _ I h) λv s1⟨x,H1,I1,r1,ty,q1⟩=>?_);obtain⟨h1,h2⟩:=MN I1 r1 ty;refine⟨T,id,pa,slot,hty,h1,h2,?_⟩;have hA:=ha cpos pins s1 σ H1 _ I1 q1;rw[hs]at hA ⊢;refine Calls.callWith_builtin (by show(false||(backTo cpos (af6 es X.env)).any (·.1))=false;rw[hplain] <;> rfl) (Calls.evalArgs_plain ?_);exact aK hA λus s2⟨vs,H2,I2,r2,q2⟩=>hm pins s2 σ H2 x vs v us Q I2 r1 r2 q2
end
noncomputable def KF(X:Cx)(id:String)(r:V->List V->Hp->VK->Prop):Prop:=
 ∀(pins:List (Addr×Obj))(s:aeV)(σ:St)(H:Hp)(x:V)(xs:List V)(v:Value)(us:List Value)(Q:VK),Inv X pins σ H s->RelV x v->Vals xs us->r x xs H Q->
  afH (afT X.prog X.w) X.A (call (.builtin id) (v::us)) (EP X pins σ Q) X.xe s
theorem Vals.one:∀{x:V}{us:List Value},Vals [x] us->∃u,us=[u]/\RelV x u
 |_,_,.cons r .nil=>⟨_,rfl,r⟩
theorem Vals.two{x y:V}{us:List Value}(h:Vals [x,y] us):∃u v,us=[u,v]/\RelV x u/\RelV y v:=by
 cases h with
 |cons r t=>
 cases t with
 |cons q t=>
 cases t;exact⟨_,_,rfl,r,q⟩
theorem Vals.dropLast{xs:List V}{us:List Value}(h:Vals xs us):Vals xs.dropLast us.dropLast:=by
 induction h with
 |nil=>exact .nil
 |cons r t ih=>
  cases t with
  |nil=>exact .nil
  |cons q t'=>exact .cons r ih
theorem Vals.eraseIdx:∀{xs:List V}{us:List Value}(i:Nat),Vals xs us->Vals (xs.eraseIdx i) (us.eraseIdx i)
 |_,_,_,.nil=>.nil
 |_,_,0,.cons _ t=>t
 |_,_,i+1,.cons r t=>.cons r (Vals.eraseIdx i t)
theorem Vals.reverse{xs:List V}{us:List Value}(h:Vals xs us):Vals xs.reverse us.reverse:=by
 induction h with
 |nil=>exact .nil
 |cons r t ih=>rw[List.reverse_cons,List.reverse_cons];exact Vals.append ih (.cons r .nil)
theorem Vals.rep{xs:List V}{us:List Value}(h:Vals xs us):∀k:Nat,Vals (replicate k xs).flatten (replicate k us).flatten
 |0=>.nil
 |k+1=>by
  rw[replicate_succ,replicate_succ,flatten_cons,flatten_cons];exact Vals.append h (Vals.rep h k)
theorem foldl_rep(its:List Value):∀(k:Nat)(acc:List Value),
  List.foldl (λx1 x2=>x1++x2) acc.toArray (replicate k its.toArray)=(acc++(replicate k its).flatten).toArray
 |0,acc=>by simp
 | k+1,acc=>by
  have e:acc.toArray++its.toArray=(acc++its).toArray:=by simp
  have e2:(acc++its)++(replicate k its).flatten=acc++(replicate (k+1) its).flatten:=by
   rw[replicate_succ,flatten_cons,append_assoc]
  rw[<-e2,<-foldl_rep its k (acc++its),<-e,replicate_succ,foldl_cons]
section
variable{X:Cx}{pins:List (Addr×Obj)}{σ:St}{H:Hp}{s:aeV}{l b:Addr}{xs ys zs:List V}
theorem Inv.lset{its its':List Value}{n:Nat}{f:Array Value->Array Value}{t':Nat}(I:Inv X pins σ H s)(hH:H l=some (.lst xs))
  (e:s.heap.get? l=some { cls:=.type "list",data:=.seq its.toArray n }) (hf:f its.toArray=its'.toArray) (hv:Vals ys its') (hz:ys.length<=sizeLine):
  Inv X pins σ (upd H l (.lst ys)) { s with heap:=s.heap.update l (afA f),toks:=t' }:=by
 have q:=PySem.IsL.update e f;rw[hf]at q;refine I.write (x:=l) (e:=l) (by rw[hH];exact trivial) (.inl rfl) (λb' u hb hu=>(ah1 s.heap (afA f) (afY hb)).trans hu) ⟨_,q⟩ ?_;exact⟨hz,its',_,hv,q⟩
theorem Inv.lnew{its:List Value}{t':Nat}(I:Inv X pins σ H s)(hv:Vals ys its)(hz:ys.length<=sizeLine):
  Inv X pins σ (upd H s.heap.objs.size (.lst ys)) { s with heap:=s.heap.push { cls:=.type "list",data:=.seq its.toArray },toks:=t' }:=
 I.laid (λ_ _ q=>aeT _ q) (aeU _) ⟨hz,its,0,hv,aeZ _ rfl⟩
theorem Inv.fresh(I:Inv X pins σ H s):H s.heap.objs.size=none:=I.hok.fresh (aeU _)
theorem Inv.lstM(I:Inv X pins σ H s)(hH:H l=some (.lst xs)):xs.length<=sizeLine/\∃(its:List Value)(n:Nat),Vals xs its/\xs.length=its.length/\s.heap.get? l=some { cls:=.type "list",data:=.seq its.toArray n }:=by
 obtain⟨z,its,n,r,e⟩:=I.hok l _ hH;exact⟨z,its,n,r,r.length,e⟩
theorem GA{n:Nat}(h:n<=sizeLine):af8.List.listTooLong n=false:=by
 unfold af8.List.listTooLong;exact decide_eq_false (by lia)
end
section
variable{X:Cx}
noncomputable def EQ:V->List V->Hp->VK->Prop:=λx vs H Q=>∃l xs y,x=.ref l/\vs=[y]/\H l=some (.lst xs)/\xs.length<sizeLine/\Q .non (upd H l (.lst (xs++[y])))
theorem iA:KF X "list.append" EQ:=by
 intro pins s σ H x vs v us Q I rx rv h;obtain⟨l,xs,y,rfl,rfl,hH,hz,q⟩:=h;cases rx;obtain⟨u,rfl,ru⟩:=rv.one;obtain⟨z,its,n,r,hl,e⟩:=I.lstM hH;refine call_meets F.slot_list_append ⟨_,e,rfl⟩ F.entry_list_append (F.args_list_append_2 _ _) (PySem.list_append l its.toArray n u (by rw[size_toArray];lia)) ⟨e,?_⟩;refine⟨.non,_,I.lset (its':=its++[u]) hH e (by simp) (r.append (.cons ru .nil)) ?_,rfl,q⟩;rw[length_append,List.length_singleton];lia
noncomputable def EL:V->List V->Hp->VK->Prop:=λx vs H Q=>∃l b xs zs,x=.ref l/\vs=[.ref b]/\H l=some (.lst xs)/\H b=some (.lst zs)/\xs.length+zs.length<=sizeLine/\Q .non (upd H l (.lst (xs++zs)))
theorem oM:KF X "list.extend" EL:=by
 intro pins s σ H x vs v us Q I rx rv h;obtain⟨l,b,xs,zs,rfl,rfl,hH,hB,hz,q⟩:=h;cases rx;obtain⟨u,rfl,ru⟩:=rv.one;cases ru;obtain⟨z,its,n,r,hl,e⟩:=I.lstM hH;obtain⟨z2,its2,n2,r2,hl2,e2⟩:=I.lstM hB;have hsz:its.toArray.size+its2.toArray.size<=sizeLine:=by rw[size_toArray,size_toArray];lia
 have hlong:¬(!its.toArray.isEmpty&&af8.List.listTooLong (its.toArray.size+its2.toArray.size))=true:=by
  rw[GA hsz,Bool.and_false];exact afK
 refine call_meets F.slot_list_extend ⟨_,e,rfl⟩ F.entry_list_extend (F.args_list_extend_2 _ _)
  (AutoSeq1.list_extend_list_list_0 l its.toArray n b its2.toArray n2 hlong (by rw[size_toArray];lia) (by lia)) ⟨e,e2,?_⟩
 refine⟨.non,_,I.lset (its':=its++its2) hH e (by simp) (r.append r2) ?_,rfl,q⟩;rw[length_append];lia
noncomputable def EO:R2:=λx y H Q=>∃l b xs zs,x=.ref l/\y=.ref b/\H l=some (.lst xs)/\H b=some (.lst zs)/\xs.length+zs.length<=sizeLine/\∀p,H p=none->Q (.ref p) (upd H p (.lst (xs++zs)))
theorem FB:OpR X (binaryOp .Add) EO:=by
 intro pins s σ H x y v u Q I rx ry h;obtain⟨l,b,xs,zs,rfl,rfl,hH,hB,hz,q⟩:=h;cases rx;cases ry;obtain⟨z,its,n,r,hl,e⟩:=I.lstM hH;obtain⟨z2,its2,n2,r2,hl2,e2⟩:=I.lstM hB;refine PySem.P.add_list e e2 ?_ (by rw[size_toArray,size_toArray];lia);have ea:its.toArray++its2.toArray=(its++its2).toArray:=by simp
 rw[ea];exact⟨.ref _,_,I.lnew (t':=s.toks) (r.append r2) (by rw[length_append];lia),rfl,q _ I.fresh⟩
noncomputable def EG:R2:=λx y H Q=>∃l k xs,x=.ref l/\y=.int k/\H l=some (.lst xs)/\-(2^63)<=k/\k<2^63/\xs.length*k.toNat<=sizeLine/\
 ∀p,H p=none->Q (.ref p) (upd H p (.lst (replicate k.toNat xs).flatten))
theorem Y4{α:Type}(xs:List α)(k:Nat):(replicate k xs).flatten.length=k*xs.length:=by
 induction k with
 |zero=>simp
 |succ k ih=>rw[replicate_succ,flatten_cons,length_append,ih,Nat.succ_mul,Nat.add_comm]
theorem FA:OpR X (binaryOp .Mult) EG:=by
 intro pins s σ H x y v u Q I rx ry h;obtain⟨l,k,xs,rfl,rfl,hH,h1,h2,hz,q⟩:=h;cases rx;obtain⟨t,rfl⟩:=ry;obtain⟨z,its,n,r,hl,e⟩:=I.lstM hH;have hlen:its.toArray.size*k.toNat<=sizeLine:=by rw[size_toArray,<-hl];exact hz
 have hcap:¬its.toArray.size*k.toNat>(2^63-1)/8:=by
  have:(sizeLine:Nat)<=(2^63-1)/8:=by decide
  lia
 have hfit:¬(!Builtin.List.listFitsIndex k)=true:=by
  rw[fitsIndex_both h1 h2];exact afK
 have hlong:¬af8.List.listTooLong (its.toArray.size*k.toNat)=true:=by
  rw[GA hlen];exact afK
 have hnew:List.foldl (λx1 x2=>x1++x2) #[] (replicate (if its.toArray.isEmpty=true then 0 else k.toNat) its.toArray)=(replicate k.toNat its).flatten.toArray:=by
  have f0:∀m:Nat,List.foldl (λx1 x2=>x1++x2) #[] (replicate m its.toArray)=(replicate m its).flatten.toArray:=λm=>by
   have:=foldl_rep its m [];rw[List.nil_append]at this;exact this
  rw[f0]
  cases its with
  |nil=>simp
  |cons a r'=>rw[if_neg (by simp)]
 refine wpAny_binaryOp_repeat_ref (T:="list") (U:="int") (by decide) ⟨_,e,rfl⟩ (λs'=>typeIs_int s' k t) noFill_list_mul F.fills_int_mul F.slot_int_rmul repeat_list F.slot_int_index.lookup
  (call_meets F.slot_int_rmul (typeIs_int s k t) F.entry_int_rmul (F.args_int_rmul_2 _ _) (int___rmul___int_list k t l its.toArray n)
   ⟨e,rfl,⟨_,e,rfl⟩,call_meets F.slot_list_mul ⟨_,e,rfl⟩ F.entry_list_mul (F.args_list_mul_2 _ _) (AutoListH.list___mul___list_int_3 l its.toArray n k t hfit hcap hlong) ⟨e,?_⟩⟩)
 rw[hnew];exact⟨.ref _,_,I.lnew (t':=s.toks) (r.rep k.toNat) (by rw[Y4,Nat.mul_comm];exact hz),rfl,q _ I.fresh⟩
end
section
variable{prog:afL}{w:agC}{A:afU}{E:Value->aeV->Prop}{s:aeV}
end
section
variable{X:Cx}
end
end L2
namespace Att
open PySem PySem.W PySem.Calls PyProof.Rows
theorem aaE{P:Params}{h:Heap}:∀(ns:List Int)(vs:List Value),WellAll P h vs (ns.map WData.int)->ah2 vs ns:=by
 intro ns
 induction ns with
 |nil=>
  intro vs w;rw[map_nil]at w;cases w
  exact .nil
 | cons n ns ih=>
  intro vs w;rw[map_cons]at w
  cases w with
  |cons a b=>
   cases a;exact .cons _ _ (ih _ b)
theorem PQ{l:OpenLaw}{n:Nat}(hn:l.most=some n){P:Params}{h:Heap}{args:List WData}{vals:List Value}
  (hpre:l.row.toRowW.claim.pre args=true) (hwl:WellAll P h vals args):
  ∃a vs ns,vals=[af4 a]/\args=[WData.list (ns.map WData.int)]/\h.get? a=some { cls:=.type "list",data:=.seq vs.toArray }/\ah2 vs ns/\ns.length<=n:=by
 have hsh:WShape.hasAll [] args [.list .int]=true:=(pre_splitW hpre).1;have hc:l.pre.holds [] { args:=args }=true:=(pre_splitW hpre).2;obtain⟨d,r,rfl,h1,h2⟩:=hasAllW_cons hsh;obtain rfl:=hasAllW_nil h2;obtain⟨xs,rfl,h3⟩:=hasW_list h1;obtain⟨ns,rfl⟩:=items_int h3
 have hlen:ns.length<=n:=by
  unfold OpenLaw.pre at hc
  have h4:(WTm.not (.lt (.lit (.int (n:Int))) (.len (.arg 0)))).holds [] { args:=[.list (ns.map .int)] }=true:=by
   have h4:=(holds_andW hc).1;rw[hn]at h4;exact h4
  have h5:=condW_of h4 (w_not (w_lt w_lit (w_len_list (w_arg rfl))));rw[length_map]at h5;refine Nat.le_of_not_lt λq=>?_;have q':(n:Int)<((ns.length:Nat):Int):=by lia
  first
   |(rw[decide_eq_true q']at h5;exact absurd h5 (by decide))
   |(simp at h5;lia)
 cases hwl with
 |cons w1 w2=>
  cases w2
  cases w1 with
  |list ho hall=>exact⟨_,_,ns,rfl,rfl,ho,aaE ns _ hall,hlen⟩
theorem TU(l:OpenLaw)(args:List WData):l.row.toRowW.claim.post args (.bool true) args=true:=
 postW_of (r:=l.row.toRowW) (X:=(true==true))
  (show WShape.has [] (.bool true) .bool=true by first|rfl|decide|simp[WShape.has,WShape.arms,WShape.armsAll])
  (show(WTm.eq .res (.lit (.bool true))).value [] { args:=args,res:=some (.bool true),after:=args }=some (.bool (true==true)) from w_eq_bool (w_res rfl) w_lit) rfl
theorem attach_call{l:OpenLaw}{n:Nat}{q:afL}{loose:List Str}{XP:(Str->Option Value)->Heap->Prop}{YP:agC->Heap->Prop}{d:DefRec}
  (hn:l.most=some n) (hdf:d.params.defaults=[])
  (call:∀(w:agC)(s₀ s₁:aeV)(mg mb:Str->Option Value)(fa:Addr)(o:Obj)(pm cd doc:Value)(a:Addr)(vs:List Value)(ns:List Int),
   Ground q loose [] XP w s₀ mg mb s₁.heap->YP w s₁.heap->
   s₁.heap.get? fa=some o->o.data=.func (docDef d.name d.params d.body d.scope pm cd doc)->s₁.heap.CodeRec cd d.name->mg d.name=some (.ref fa)->
   s₁.heap.get? a=some { cls:=.type "list",data:=.seq vs.toArray }->ah2 vs ns->ns.length<=n->s₁.gens=#[]->
   codeAny (afT l.prog w) callerA (.call (.ref fa) ⟨[.ref a],[]⟩) (λr s'=>r=.ok (.ret (.bool true))/\OldK s₁.heap s'.heap/\s'.os=s₁.os/\AllBare s'.gens) s₁):
  WalkO q loose XP YP l.row.toRowW d [] (λf vs=>PySem.call f vs):=by
 intro w s₀ s₁ mg mb G Y fa o pm cd doc dV kV ho hd hcd hD hmg hg args vals as hpre hlay hrd hwl hlo;obtain rfl:dV=.none:=Dflts.none hD hdf;obtain rfl:kV=.none:=Dflts.noKw hD;obtain⟨a,vs,ns,rfl,rfl,hobj,hints,hlen⟩:=PQ hn hpre hwl;refine enter_call (codeAny_mono (call w s₀ s₁ mg mb fa o pm cd doc a vs ns G Y ho (fd_plain hd) hcd hmg hobj hints hlen hg) λr s' hq=>?_);obtain⟨rfl,h2,h3,h4⟩:=hq;exact⟨.inl ⟨.bool true,.bool true,[],rfl,λ_=>rfl,.bool true,TU l _,λ_=>⟨af7.nil,λ_ hm=>(nomatch hm)⟩⟩,h2,h3,h4⟩
section
variable{prog:afL}{w:agC}{A:afU}{E:Value->aeV->Prop}{s:aeV}{K:Frag}
end
end Att
namespace L2
open PySem PySem.Spec PyProof.Rows
theorem BT:∀{vs:List Value}{ns:List Int},ah2 vs ns->Vals (ns.map V.int) vs
 |_,_,.nil=>.nil
 |_,_,.cons n t h=>.cons ⟨t,rfl⟩ (BT h)
noncomputable def aeK(H:Hp):Prop:=∀b,H b=none\/∃o xs,H b=some (.frz o (.lst xs))
noncomputable abbrev aQ{K:PySem.W.Frag}{h:Heap}(_:K.In h):PySem.W.Frag:=K
noncomputable def kN(s:Stmt):Arguments:=match s with
 | .FunctionDef _ a _ _ _ _ _ _ _ _=>a
 |_=>{ posonlyargs:=[],args:=[],vararg:=none,kwonlyargs:=[],kw_defaults:=[],kwarg:=none,defaults:=[] }
noncomputable def i7(s:Stmt):List Stmt:=match s with
 | .FunctionDef _ _ b _ _ _ _ _ _ _=>b
 |_=>[]
noncomputable def aL(s:Stmt):Scope:=match s with
 | .FunctionDef _ _ _ _ _ _ sc _ _ _=>sc
 |_=>{ kind:=.function,names:=[],isGenerator:=false,isCoroutine:=false }
noncomputable abbrev aM:eB:=λ_ _ _ _ _ _=>False
noncomputable abbrev E0:XK:=λ_ _ _=>False
theorem aH{X:Cx}:mM aM X E0:=λ_ _ _ _ _ _ _ h=>h.elim
structure Fun (K:PySem.W.Frag) (x qual:Str) (st:Stmt) (f:Addr) (fd:afD):Prop where
 ex:∃(oc:Value)(od:Option Addr)(kV doc pm:Value)(an:Option Addr)(cdv ct:Value)(osl:Array (Option Value)),
  fd=PySem.W.fnOf x qual (kN st) (i7 st) (aL st) .none kV doc pm an cdv ct/\K.lookup f=some ⟨oc,od,.func fd,osl⟩/\PySem.W.codeIn K cdv qual=true
 kp:ah7 K (.ref f)=true
section
variable{P:afL}{w:agC}{K:PySem.W.Frag}{mg:Str->Option Value}{base:Heap}
theorem Fun.ok{x qual:Str}{st:Stmt}{f:Addr}{fd:afD}{N ps:List Str}{k:Nat}{sp:Sp}(F:Fun K x qual st f fd)(S:aO N ps (aL st))(len:∀vs H Q E,sp vs H Q E->vs.length=ps.length)
  (hbody:∀(cdv:Value)(A:afU)(outer:List Env)(s:aeV)(H:Hp)(vs:List V)(Q:VK)(E:XK),Room k (A.deeper (envOfC qual (aL st) s.heap.objs.size f cdv))->sp vs H Q E->
   ∃t,PSs (jS aM P w K mg base N qual (aL st) f cdv A outer s H E).nox (i7 st) t/\t { nx:=λ_ H'=>Q .non H',rt:=Q } (start N vs) H):FnOk P w K mg base aM (k+1) f fd ps sp:=by
 obtain⟨oc,od,kV,doc,pm,an,cdv,ct,osl,rfl,lk,hcd⟩:=F.ex;refine IH lk hcd S len λA outer s H vs Q E hr hsp=>?_;obtain⟨t,h,q⟩:=hbody cdv A outer s H vs Q E hr hsp;exact⟨t,h.nox,q⟩
theorem Fun.binds{x qual:Str}{st:Stmt}{f:Addr}{fd:afD}{ps:List Str}(F:Fun K x qual st f fd)
  (h:∀(kV doc pm:Value)(an:Option Addr)(cdv ct:Value)(us:List Value),us.length=ps.length->bindArgs (PySem.W.fnOf x qual (kN st) (i7 st) (aL st) .none kV doc pm an cdv ct) ⟨us,[]⟩=pure (ps.zip us)):Binds K fd ps []:=by
 obtain⟨oc,od,kV,doc,pm,an,cdv,ct,osl,rfl,lk,hcd⟩:=F.ex;exact .all (h kV doc pm an cdv ct)
theorem aa5{x qual:Str}{st:Stmt}{f:Addr}{oc:Value}{od an:Option Addr}{osl:Array (Option Value)}{kV doc pm cdv ct:Value}(l:K.lookup f=some ⟨oc,od,.func (PySem.W.fnOf x qual (kN st) (i7 st) (aL st) .none kV doc pm an cdv ct),osl⟩)
  (c:PySem.W.codeIn K cdv qual=true) (k:ah7 K (.ref f)=true):Fun K x qual st f (PySem.W.fnOf x qual (kN st) (i7 st) (aL st) .none kV doc pm an cdv ct):=⟨⟨oc,od,kV,doc,pm,an,cdv,ct,osl,rfl,l,c⟩,k⟩
end
theorem dU{n:Nat}(h:n<=1000):n<sizeLine:=Nat.lt_of_le_of_lt h (by decide)
section
variable{X:Cx}
theorem pv(i:Nat){x:Str}{pos:Pos}(hN:X.N[i]? =some x:=by rfl)(hv:mI X.env.scope x:=by first|exact afM rfl|exact Or.inr (afM rfl)|exact Or.inr (Or.inr rfl))(hd:(x==("__debug__":Str))=false:=by decide)
  (hcd:(x==("__classdict__":Str))=false:=by decide):PE X (.Name x pos) (qL i):=UF hN hv hd hcd
end
theorem lY{A B:Prop}(h:B):if false=true then A else B:=by
 rw[if_neg afK];exact h
theorem lX{A B:Prop}(h:A):if true=true then A else B:=by
 rw[if_pos rfl];exact h
noncomputable def Same(H H':Hp):Prop:=∀b o,H b=some o->H' b=some o
theorem Same.refl(H:Hp):Same H H:=λ_ _ h=>h
theorem Same.trans{H H1 H2:Hp}(a:Same H H1)(b:Same H1 H2):Same H H2:=λc o h=>b c o (a c o h)
theorem Same.free{H H':Hp}(e:Same H H'){l:Addr}(h:H' l=Option.none):H l=Option.none:=by
 cases q:H l with
 |none=>rfl
 |some o=>
  rw[e l o q]at h;cases h
theorem Same.seq{K:PySem.W.Frag}{H H':Hp}{a:Addr}{xs:List V}(e:Same H H')(h:SqL K H a xs):SqL K H' a xs:=by
 rcases h with(h|⟨o,h⟩)|h
 ·exact .inl (.inl (e _ _ h))
 ·exact .inl (.inr ⟨o,e _ _ h⟩)
 ·exact .inr h
noncomputable def cZ(env:Env):List (Str×NameKind)->List (Str×Addr)->List (Str×Addr)
 |[],cs=>cs
 |(n,k)::r,cs=>cZ env r (if k==.free then(match env.cells.lookup n with|some a=>(n,a)::cs|none=>cs) else cs)
noncomputable def FrOk(env:Env):List (Str×NameKind)->Prop
 |[]=>True
 |(n,k)::r=>(match k with| .free=>(env.kindOf n=some .cell\/env.kindOf n=some .free)| .cell=>False|_=>True)/\FrOk env r
theorem FrOk.free{env:Env}:∀{ns:List (Str×NameKind)}{n:Str},FrOk env ns->(n,agY)∈ns->env.kindOf n=some .cell\/env.kindOf n=some .free
 |[],_,_,h=>by cases h
 |(m,k)::r,n,f,h=>by
  obtain⟨a,b⟩:=f;rcases mem_cons.mp h with e|e
  ·cases e;exact a
  ·exact b.free e
theorem FrOk.nocell{env:Env}:∀{ns:List (Str×NameKind)},FrOk env ns->∀y∈ns,y.2≠.cell
 |[],_,_,h=>by cases h
 | (m,k)::r,f,y,h=>by
  obtain⟨a,b⟩:=f;rcases mem_cons.mp h with e|e
  ·subst e;intro e;have e':k=.cell:=e;subst e';exact a
  ·exact b.nocell y e
theorem yF{env:Env}:∀(ns:List (Str×NameKind))(cs:List (Str×Addr)),(∀n,(n,agY)∈ns->∃a,env.cells.lookup n=some a)->
  (forIn (m:=Sem) ns cs λx r=>match x with|(name,kind)=>(if(kind==agY)=true then(do let a <-cellOf env name;pure (ahQ ((name,a)::r))) else pure (ahQ r)))=pure (cZ env ns cs)
 |[],cs,_=>rfl
 | (n,k)::r,cs,h=>by
  rw[List.forIn_cons]
  cases hk:(k==agY) with
  |false=>
   simp only[hk,af1,if_false];rw[pure_bind];show forIn (m:=Sem) r cs _=pure (cZ env r (if(k==agY)=true then _ else cs))
   rw[hk]
   exact yF r cs λn hn=>h n (mem_cons_of_mem _ hn)
  |true=>
   have ek:k=.free:=by simpa using hk
   subst ek;obtain⟨a,ha⟩:=h n mem_cons_self;simp only[hk,if_true];unfold cellOf;rw[ha];simp only[pure_bind];show forIn (m:=Sem) r ((n,a)::cs) _=pure (cZ env r (if(agY==agY)=true then(match env.cells.lookup n with|some a=>(n,a)::cs|none=>cs) else cs))
   rw[hk,if_pos rfl,ha];exact yF r _ λn hn=>h n (mem_cons_of_mem _ hn)
theorem yG{env:Env}{sc:Scope}(h:∀n,(n,agY)∈sc.names->∃a,env.cells.lookup n=some a):closureFor sc env=pure (cZ env sc.names []):=by
 unfold closureFor;exact(congrArg (λz=>z >>=λr=>pure r) (yF sc.names [] h)).trans (by simp)
theorem eI{env:Env}:∀{ns:List (Str×NameKind)}{cs:List (Str×Addr)},(∀x c,cs.lookup x=some c->env.cells.lookup x=some c)->∀x c,(cZ env ns cs).lookup x=some c->env.cells.lookup x=some c
 |[],_,h,x,c,e=>h x c e
 | (n,k)::r,cs,h,x,c,e=>by
  refine eI (ns:=r) (λy d q=>?_) x c e;by_cases hk:(k==agY)=true
  ·rw[if_pos hk]at q
   cases hn:env.cells.lookup n with
   |none=>rw[hn]at q;exact h y d q
   | some a=>
    rw[hn]at q;simp only[lookup_cons]at q
    cases hy:(y==n) with
    |true=>
     rw[hy]at q;have:y=n:=by simpa using hy
     subst this
     rw[hn];exact q
    |false=>rw[hy]at q;exact h y d q
  ·rw[if_neg hk]at q;exact h y d q
theorem mE{env:Env}:∀{ns:List (Str×NameKind)}{cs:List (Str×Addr)}{x:Str},((∃c,cs.lookup x=some c)\/((x,agY)∈ns/\∃a,env.cells.lookup x=some a))->∃c,(cZ env ns cs).lookup x=some c
 |[],cs,x,h=>by
  rcases h with h|⟨h,_⟩
  ·exact h
  ·cases h
 | (n,k)::r,cs,x,h=>by
  refine mE (ns:=r) ?_;rcases h with⟨c,h⟩|⟨h,a,ha⟩
  ·left;by_cases hk:(k==agY)=true
   ·rw[if_pos hk]
    cases hn:env.cells.lookup n with
    |none=>exact⟨c,h⟩
    |some a=>
     simp only[lookup_cons]
     cases hy:(x==n) with
     |true=>exact⟨a,rfl⟩
     |false=>exact⟨c,h⟩
   ·rw[if_neg hk];exact⟨c,h⟩
  ·rcases mem_cons.mp h with e|e
   ·left;cases e;rw[if_pos (by rfl),ha];exact⟨a,by simp⟩
   ·exact .inr ⟨e,a,ha⟩
theorem lQ{α:Type}:∀{ns:List (Str×α)}{x:Str}{k:α},ns.lookup x=some k->(x,k)∈ns
 |[],_,_,h=>by cases h
 | (n,j)::r,x,k,h=>by
  simp only[lookup_cons]at h
  cases hx:(x==n) with
  |true=>
   rw[hx]at h;cases h;have:x=n:=by simpa using hx
   subst this
   exact mem_cons_self
  |false=>rw[hx]at h;exact mem_cons_of_mem _ (lQ h)
noncomputable def fI(env:Env)(p:Str×NameKind):Str×NameKind:=if(p.2==agY&&env.scope.kind==.function&&env.kindOf p.1==some .cell) then(p.1,NameKind.cell) else(p.1,p.2)
theorem DR(env:Env)(p:Str×NameKind):(fI env p).1=p.1:=by
 unfold fI;split <;> rfl
theorem Q0(env:Env)(n:Str):(fI env (n,.free)).2=.cell\/(fI env (n,.free)).2=.free:=by
 unfold fI;split
 ·exact .inl rfl
 ·exact .inr rfl
theorem Q1(env:Env)(p:Str×NameKind)(hn:p.2≠.cell)(h:(fI env p).2=.cell\/(fI env p).2=.free):p.2=.free:=by
 unfold fI at h;split at h
 ·rename_i hc;have h1:=(afB _ _).mp hc;have h2:=(afB _ _).mp h1.1;simpa using h2.1
 ·rcases h with h|h
  ·exact absurd h hn
  ·exact h
theorem vH{α:Type}(x:Str)(p:Str×α)(r:List (Str×α)):(p::r).lookup x=if(x==p.1)=true then some p.2 else r.lookup x:=by
 obtain⟨n,k⟩:=p;rw[lookup_cons];cases(x==n) <;> rfl
theorem DW{env:Env}:∀{names:List (Str×NameKind)}{x:Str},names.lookup x=some .free->(names.map (fI env)).lookup x=some .cell\/(names.map (fI env)).lookup x=some .free
 |[],_,h=>by cases h
 | (n,k)::r,x,h=>by
  have ih:=@DW env r x;rw[map_cons,vH,DR];rw[vH]at h;by_cases hx:(x==n)=true
  ·rw[if_pos hx]at h ⊢;cases h;rcases Q0 env n with e|e
   ·exact .inl (congrArg some e)
   ·exact .inr (congrArg some e)
  ·rw[if_neg hx]at h ⊢;exact ih h
theorem DX{env:Env}:∀{names:List (Str×NameKind)}{x:Str},(∀y∈names,y.2≠.cell)->((names.map (fI env)).lookup x=some .cell\/(names.map (fI env)).lookup x=some .free)->(x,agY)∈names
 |[],_,_,h=>by rcases h with h|h <;> cases h
 | (n,k)::r,x,hn,h=>by
  have ih:=@DX env r x (λy hy=>hn y (mem_cons_of_mem _ hy));rw[map_cons,vH,DR]at h;by_cases hx:(x==n)=true
  ·rw[if_pos hx]at h;have ex:x=n:=by simpa using hx
   subst ex;have e:=Q1 env (x,k) (hn _ mem_cons_self) (h.imp agK agK);have e':k=.free:=e;subst e';exact mem_cons_self
  ·rw[if_neg hx]at h;exact mem_cons_of_mem _ (ih h)
noncomputable def cG(X:Cx)(sc:Scope)(M:List Str)(C:Addr)(fp:List Addr)(s:aeV)(H:Hp):Cx:=
 { X with N:=M,s₀:=s,H₀:=H,env:=compEnvC sc (cZ X.env sc.names []) C X.env,outer:=X.stack,stack:=X.stack,ex:=fp,fn:=λ_=>false,pn:=[],xe:=λ_ _=>False }
inductive FmOk (N:List Str) (sc:Scope):List Str->List (Option Nat)->Prop
 |nil:FmOk N sc [] []
 |own {x M fm}:FmOk N sc M fm->FmOk N sc (x::M) (none::fm)
 |free {x M fm} (j:Nat):N[j]? =some x->sc.names.lookup x=some .free->FmOk N sc M fm->FmOk N sc (x::M) (some j::fm)
noncomputable def bR(fm:List (Option Nat))(σ:St):St:=fm.map λo=>match o with|none=>none|some j=>(σ[j]?).join
theorem FmOk.len{N:List Str}{sc:Scope}:∀{M:List Str}{fm:List (Option Nat)},FmOk N sc M fm->fm.length=M.length
 |_,_,.nil=>rfl
 |_,_,.own h=>by simp[h.len]
 |_,_,.free _ _ _ h=>by simp[h.len]
theorem FmOk.get{N:List Str}{sc:Scope}{σ:St}:∀{M:List Str}{fm:List (Option Nat)}{i:Nat}{x:Str}{v:V},FmOk N sc M fm->M[i]? =some x->(bR fm σ)[i]? =some (some v)->∃(j:Nat),N[j]? =some x/\sc.names.lookup x=some .free/\σ[j]? =some (some v)
 |_,_,i,x,v,.nil,e,_=>by simp at e
 |_,_,0,x,v,.own h,e,q=>by simp[bR]at q
 | _,_,0,x,v,.free j a b h,e,q=>by
  simp at e;subst e;refine⟨j,a,b,?_⟩;have q':(σ[j]?).join=some v:=by simpa[bR]using q
  cases hs:σ[j]? with
  |none=>rw[hs]at q';cases q'
  |some o=>
   rw[hs]at q';have:o=some v:=q'
   rw[this]
 |_,_,i+1,x,v,.own h,e,q=>h.get (i:=i) (by simpa using e) (by simpa[bR]using q)
 |_,_,i+1,x,v,.free j a b h,e,q=>h.get (i:=i) (by simpa using e) (by simpa[bR]using q)
section
variable{X:Cx}{pins:List (Addr×Obj)}{σ:St}{H:Hp}{s:aeV}{sc:Scope}{M:List Str}{C:Addr}{fp:List Addr}
theorem acR(I:Inv X pins σ H s)(hf:∀b∈fp,fV X pins H b)(hl:∀b∈fp,b<s.heap.objs.size)(hC:s.heap.objs.size<=C)(fr:FrOk X.env sc.names)(hk:sc.kind=.function):(cG X sc M C fp s H).Ok where
 mod:=I.ok.mod
 kind:=hk
 glob:=I.ok.glob
 blt:=I.ok.blt
 above:=hC
 inj:=λx y c e1 e2=>I.ok.inj x y c (eI (λ_ _ z=>by cases z) x c e1) (eI (λ_ _ z=>by cases z) y c e2)
 has:=λx h=>by
  have hm:(x,agY)∈sc.names:=DX (env:=X.env) fr.nocell h;exact mE (.inr ⟨hm,I.ok.has x (fr.free hm)⟩)
 cab:=λx c h _=>by cases h
 hd:=I.ok.hd
 frames:=I.ok.frames
 stk:=.inl rfl
 exf:=λb hb=>⟨ae7 (afG (hl b hb) hC),λx c e=>(hf b hb).2.2.2.2.1 x c (eI (λ_ _ z=>by cases z) x c e)⟩
 bs:=I.bs
 bsz:=afO I.ok.bsz I.sz
 noex:=λb o e hb=>by
  rcases(hf b hb).2.2.2.1 with z|z
  ·exact I.ok.noex b o e z
  ·exact absurd (afG (ae1 (I.ok.bs b o e).1) z) (agJ _)
 exfs:=λb hb hs=>by
  rcases mem_cons.mp (I.stkSub b hs) with e|e
  ·exact(hf b hb).2.1 e
  ·exact(hf b hb).2.2.1 e
 funs:=I.stack
 frf:=I.stkFree
theorem acS{h₁:Heap}{t:Nat}{pl:List (Addr×Obj)}{m:Str->Option Value}{fm:List (Option Nat)}(I:Inv X pins σ H s)(hf:∀b∈fp,fV X pins H b)(hl:∀b∈fp,b<s.heap.objs.size)(hC:s.heap.objs.size<=C)(fr:FrOk X.env sc.names)(hk:sc.kind=.function)
  (hfm:FmOk X.N sc M fm) (k:∀b o,s.heap.get? b=some o->h₁.get? b=some o) (hn:h₁.Ns C m)
  (hp:∀p∈pl,h₁.get? p.1=some p.2/\H p.1=none/\p.1≠C/\p.1∉cV X.stack/\∀v,p.2.data≠.cell v):Inv (cG X sc M C fp s H) pl (bR fm σ) H { s with heap:=h₁,toks:=t } where
 ok:=acR I hf hl hC fr hk
 os:=rfl
 bare:=I.bare
 base:=Un.kept k
 loc:=⟨m,hn,λi x v e1 e2 e3=>by
  obtain⟨j,a,b,c⟩:=hfm.get e1 e2;obtain⟨m',hn',hl'⟩:=I.loc;have hm:=lQ b;have hk':=fr.free hm
  have vis:mI X.env.scope x:=by
   rcases hk' with z|z
   ·exact .inr (.inl z)
   ·exact .inr (.inr z)
  obtain⟨u,r,l⟩:=hl' j x v a c vis;refine⟨u,r,.inr ⟨DW b,?_⟩⟩;rcases l with⟨z,_⟩|⟨_,cc,hcc,hcell⟩
  ·rcases hk' with y|y <;> (rw[z]at y;cases y)
  ·obtain⟨c2,e2⟩:=mE (env:=X.env) (ns:=sc.names) (cs:=[]) (x:=x) (.inr ⟨hm,cc,hcc⟩);have e3:=eI (λ_ _ z=>by cases z) x c2 e2;rw[hcc]at e3;cases e3;refine⟨cc,e2,?_⟩;obtain⟨o,ho,hd⟩:=hcell
   exact⟨o,k _ _ ho,hd⟩⟩
 cell:=λx c e=>by
  obtain⟨v,o,ho,hd⟩:=I.cell x c (eI (λ_ _ z=>by cases z) x c e);exact⟨v,o,k _ _ ho,hd⟩
 free:=I.hok.fresh hC
 freeC:=λx c e=>I.freeC x c (eI (λ_ _ z=>by cases z) x c e)
 pin:=λp hp'=>by
  have hp':p∈pl:=by simpa[cG]using hp'
  exact hp p hp'
 hok:=I.hok.kept k
 len:=by simp[bR,hfm.len,cG]
end
theorem abO{prog:afL}{w:agC}{A:afU}{R:Result->aeV->Prop}{s:aeV}{elt target iter:Expr}{ifs:List Expr}{scope:Scope}{pos:Pos}{it acc:Value}{env:Env}(I:Nat->aeV->Prop)
  (turn:∀n s,I n s->afH (afT prog w) A (aiO it) (λr s₁=>match r with
   |none=>R (.ok .next) s₁
   | some v=>afH (afT prog w) A (letOwnedTupleGo target it v) (λ_ s₁'=>afH (afT prog w) A (assign target env v) (λ_ s₂=>
     afH (afT prog w) A (forIn ifs true λc r=>if r=true then do let ok <-isTrue c env (eval c env);pure (ahQ ok) else pure (ahQ r)) (λok s₃=>
      if ok=true then afH (afT prog w) A (eval elt env) (λx s₄=>
       afH (afT prog w) A (call (.builtin "list.append") [acc,x]) (λ_ s₅=>∃m,m<n/\I m s₅) (λ_ _=>False) s₄) (λ_ _=>False) s₃
      else ∃m,m<n/\I m s₃) (λ_ _=>False) s₂) (λ_ _=>False) s₁') (λ_ _=>False) s₁) (λ_ _=>False) s)
  (n:Nat) (h:I n s):
  codeAny (afT prog w) A (.compLoop (.ListComp elt [⟨target,iter,ifs,0⟩] scope pos) 0 it acc env) R s:=by
 refine codeAny_loop rfl I (λn s hI=>?_) n h;show afH _ A ((compTurn (.ListComp elt [⟨target,iter,ifs,0⟩] scope pos) 0 it acc env).onRaise (λx=>do noteFrame x env;theTreesLotGoes x)) _ _ s
 refine wpAny_noted ?_;rw[compTurn_list];refine aeS (wpAny_standAt (aeS (agS (turn n s hI) (λr s₁ h₁=>?_) λ_ _ h'=>h'.elim)))
 cases r with
 |none=>exact aeX h₁
 | some v=>
  refine aeS (agS h₁ (λ_ s₁' h₁'=>?_) λ_ _ h'=>h'.elim);refine aeS (agS h₁' (λ_ s₂ h₂=>aeS (agS h₂ (λok s₃ h₃=>?_) λ_ _ h'=>h'.elim)) λ_ _ h'=>h'.elim)
  cases ok with
  |false=>exact aeX ⟨rfl,h₃⟩
  |true=>
   exact aeS (aeS (agS h₃ (λx s₄ h₄=>aeS (agS h₄ (λ_ s₅ h₅=>aeX (aeX ⟨rfl,h₅⟩)) λ_ _ h'=>h'.elim)) λ_ _ h'=>h'.elim))
noncomputable def mN(X:Cx)(ifs:List Expr)(t:TT):Prop:=
 ∀(pins:List (Addr×Obj))(s:aeV)(σ:St)(H:Hp)(Q:Bool->Hp->Prop),Inv X pins σ H s->t σ H Q->
  afH (afT X.prog X.w) X.A (forIn ifs true λc r=>if r=true then do let ok <-isTrue c X.env (eval c X.env);pure (ahQ ok) else pure (ahQ r)) (TP X pins σ Q) X.xe s
noncomputable def CB:TT:=λ_ H Q=>Q true H
theorem dM{X:Cx}:mN X [] CB:=λpins s σ H Q I h=>wpAny_tests_nil ⟨H,I,h⟩
theorem eV{X:Cx}{c:Expr}{t:TT}(h:PT X c t):mN X [c] t:=λpins s σ H Q I hw=>wpAny_tests_one (h pins s σ H Q I hw)
noncomputable def GK(fm:List (Option Nat))(g:TG):Prop:=∀(x:V)(σ:St)(H:Hp)(Q:St->Hp->Prop),g x σ H Q->g x σ H λσ' H'=>Q σ' H'/\∀(i j:Nat),fm[i]? =some (some j)->σ'[i]? =σ[i]?
noncomputable def pX(fm:List (Option Nat))(g:fD):Prop:=∀(xs:List V)(σ:St)(H:Hp)(Q:St->Hp->Prop),g xs σ H Q->g xs σ H λσ' H'=>Q σ' H'/\∀(i j:Nat),fm[i]? =some (some j)->σ'[i]? =σ[i]?
theorem cB{fm:List (Option Nat)}{i:Nat}(h:fm[i]? =some none):GK fm (jR i):=λx σ H Q q=>⟨q,λi' j e=>by
 by_cases hi:i=i'
 ·subst hi;rw[h]at e;cases e
 ·exact ag6 hi⟩
theorem o9{fm:List (Option Nat)}:pX fm vW:=λxs σ H Q⟨e,q⟩=>⟨e,q,λ_ _ _=>rfl⟩
theorem i5{fm:List (Option Nat)}{i:Nat}{u:fD}(h:fm[i]? =some none)(h2:pX fm u):pX fm (vX (jR i) u):=λxs σ H Q⟨v,r,e,q⟩=>⟨v,r,e,by
 have q2:=h2 r (σ.set i (some v)) H Q q
 have mono:∀(σ0 σ1:St),σ1=σ0.set i (some v)->(u r σ1 H λσ' H'=>Q σ' H'/\∀(i j:Nat),fm[i]? =some (some j)->σ'[i]? =σ1[i]?)=(u r σ1 H λσ' H'=>Q σ' H'/\∀(i j:Nat),fm[i]? =some (some j)->σ'[i]? =σ0[i]?):=λσ0 σ1 e1=>by
  subst e1
  congr 1
  funext σ' H'
  apply propext;constructor
  ·rintro⟨a,b⟩;refine⟨a,λi' j e=>(b i' j e).trans ?_⟩;by_cases hi:i=i'
   ·subst hi;rw[h]at e;cases e
   ·exact ag6 hi
  ·rintro⟨a,b⟩;refine⟨a,λi' j e=>(b i' j e).trans ?_⟩;by_cases hi:i=i'
   ·subst hi;rw[h]at e;cases e
   ·exact(ag6 hi).symm
 show u r (σ.set i (some v)) H _;rw[<-mono σ _ rfl]
 exact q2⟩
theorem pA{K:PySem.W.Frag}{fm:List (Option Nat)}{n:Nat}{t:fD}(h:pX fm t):GK fm (pC K n t):=λx σ H Q⟨a,xs,e,q,l,r⟩=>⟨a,xs,e,q,l,h xs σ H Q r⟩
theorem aa8{fm:List (Option Nat)}{σ:St}{i:Nat}{v:V}(e:(bR fm σ)[i]? =some (some v)):∃j,fm[i]? =some (some j):=by
 unfold bR at e;rw[ae4]at e
 cases h:fm[i]? with
 |none=>rw[h]at e;cases e
 |some o=>
  cases o with
  |none=>rw[h]at e;cases e
  |some j=>exact⟨j,rfl⟩
noncomputable def qS(wi:TI)(fm:List (Option Nat))(g:TG)(tt:TT)(te:TE):TE:=λσ H Q=>wi σ H λJ H1=>∃W:Nat->Nat->List V->Hp->Prop,(∃m,W 0 m [] H1)/\∀i m ys H,W i m ys H->
 (J.stop i H/\∀p,H p=none->Q (.ref p) (upd H p (.lst ys)))\/
 (J.go i H/\ys.length<sizeLine/\∃N:List V->Hp->Prop,(∀ys' H',N ys' H'->∃m',m'<m/\W (i+1) m' ys' H')/\
  ∀x H',J.yld i H x H'->g x (bR fm σ) H' λσ2 H2=>tt σ2 H2 λok H3=>if ok=true then te σ2 H3 λv H4=>N (ys++[v]) H4 else N ys H3)
section
variable{X:Cx}{pins:List (Addr×Obj)}{σ:St}{sc:Scope}{M:List Str}{fm:List (Option Nat)}{tg iter elt:Expr}{ifs:List Expr}{pos:Pos}{g:TG}{tt:TT}{te:TE}
theorem IT{it:Addr}{fp:List Addr}{tn:Nat->Heap->Prop}{J:It}{H2:Hp}{s2:aeV}{E:Value->aeV->Prop}{RR:Value->Addr->Result->aeV->Prop}{Q:VK}(hc:X.calm=true)
  (I2:Inv X pins σ H2 s2) (T:kU X.prog X.w X.K tg J fp it tn) (st:tn 0 s2.heap) (hf:∀b∈fp,fV X pins H2 b) (fr:FrOk X.env sc.names) (hk:sc.kind=.function) (hfm:FmOk X.N sc M fm) (hgk:GK fm g)
  (hB:∀C fp s H,PG (cG X sc M C fp s H) tg g/\mN (cG X sc M C fp s H) ifs tt/\PE (cG X sc M C fp s H) elt te)
  (W:Nat->Nat->List V->Hp->Prop) (hw:∃m,W 0 m [] H2)
  (turn:∀i m ys H,W i m ys H->(J.stop i H/\∀p,H p=none->Q (.ref p) (upd H p (.lst ys)))\/
   (J.go i H/\ys.length<sizeLine/\∃N:List V->Hp->Prop,(∀ys' H',N ys' H'->∃m',m'<m/\W (i+1) m' ys' H')/\
    ∀x H',J.yld i H x H'->g x (bR fm σ) H' λσ2 H2=>tt σ2 H2 λok H3=>if ok=true then te σ2 H3 λv H4=>N (ys++[v]) H4 else N ys H3))
  (hRR:∀D C H' m s',s'.heap.Ns C m->Inv X pins σ H' s'->fV X pins H' C->Q (.ref D) H'->RR (.ref D) C (.ok .next) s'):
  afH (afT X.prog X.w) X.A (newList []) (λacc s₃=>afH (afT X.prog X.w) X.A (newFunctionEnv sc X.env.globals (cZ X.env sc.names []) [] X.env.qual none .none (some X.env)) (λcenv s₄=>
   codeAny (afT X.prog X.w) X.A (.compStart (.ListComp elt [⟨tg,iter,ifs,0⟩] sc pos) 0 (.ref it) acc { cenv with scope:=relabel sc X.env }) (RR acc cenv.locals) s₄) E s₃) E s2:=by
 have hl:∀b∈fp,b<s2.heap.objs.size:=λb hb=>by
  obtain⟨o,e,_⟩:=T.obj _ _ st b hb;exact ae1 e
 refine ahJ (wpAny_newFunctionEnv fr.nocell (by intro y hy;simp at hy) (λh₁ hns₁ hsb₁=>?_) hk);dsimp only at hns₁ hsb₁ ⊢;generalize hH2:s2.heap.push { cls:=.type "list",dict:=none,data:=.seq ([]:List Value).toArray }=G2 at hns₁ hsb₁ ⊢;have hC:G2.objs.size=s2.heap.objs.size+1:=by rw[<-hH2,aiL]
 have hCle:s2.heap.objs.size<=G2.objs.size:=by rw[hC];exact Nat.le_succ _
 have hDC:s2.heap.objs.size≠G2.objs.size:=by rw[hC];exact ae7 (Nat.lt_succ_self _)
 have below:∀b,b<s2.heap.objs.size->b≠G2.objs.size:=λb hb=>ae7 (afG hb hCle);have old:∀b o,s2.heap.get? b=some o->h₁.get? b=some o:=λb o e=>hsb₁.extBut b o (below b (ae1 e)) (aeT _ (hH2▸aeT _ e));have hacc:h₁.PlainList s2.heap.objs.size #[]:=⟨_,hsb₁.extBut _ _ hDC (aeT _ (hH2▸aeZ _ rfl))⟩
 have hst₁:tn 0 h₁:=T.keep _ _ _ st λb _ o e=>old b o e;obtain⟨B1,B2,B3⟩:=hB G2.objs.size fp s2 H2
 have hDfs:s2.heap.objs.size∉cV X.stack:=λhb=>by
  rcases mem_cons.mp (I2.stkSub _ hb) with e|e
  ·exact absurd I2.lt (by rw[<-e];exact agJ _)
  ·exact I2.nofs (aeU _) e
 have hDf:s2.heap.objs.size∉fp:=λhb=>agJ _ (hl _ hb)
 have fpB:∀{pl:List (Addr×Obj)}{H':Hp},(∀b∈fp,H' b=none)->(∀p∈pl,p.1∉fp)->∀b∈fp,fV (cG X sc M G2.objs.size fp s2 H2) pl H' b:=λ{pl H'}hn hp b hb=>by
  refine⟨hn b hb,below b (hl b hb),λz=>?_,.inl hb,λx c e=>(hf b hb).2.2.2.2.1 x c (eI (λ_ _ z=>by cases z) x c e),λp hp' z=>?_⟩
  ·rcases mem_cons.mp (I2.stkSub b z) with e|e
   ·exact(hf b hb).2.1 e
   ·exact(hf b hb).2.2.1 e
  ·have hp'':p∈pl:=by simpa[cG]using hp'
   exact hp p hp'' (z▸hb)
 have loop:∀s₃:aeV,s₃={ s2 with heap:=h₁,toks:=s2.toks+([]:List (Str×Value)).length }->
   codeAny (afT X.prog X.w) X.A (.compLoop (.ListComp elt [⟨tg,iter,ifs,0⟩] sc pos) 0 (.ref it) (.ref s2.heap.objs.size) (compEnvC sc (cZ X.env sc.names []) G2.objs.size X.env)) (RR (.ref s2.heap.objs.size) G2.objs.size) s₃:=by
  rintro s₃ rfl;obtain⟨m0,w0⟩:=hw
  refine abO (λn s'=>∃(i:Nat)(ys:List V)(its:List Value)(k:Nat)(H':Hp),Inv (cG X sc M G2.objs.size fp s2 H2) [(s2.heap.objs.size,{ cls:=.type "list",data:=.seq its.toArray k })] (bR fm σ) H' s'/\Vals ys its/\ys.length<=sizeLine/\
   tn i s'.heap/\(∀b∈fp,H' b=none)/\W i n ys H') ?_ m0 ?_
  ·rintro n s' ⟨i,ys,its,k,H',I',rv,hz,st',fn',w'⟩
   have np:∀p∈[((s2.heap.objs.size,{ cls:=.type "list",data:=.seq its.toArray k }):Addr×Obj)],p.1∉fp:=λp hp=>by
    rcases mem_singleton.mp hp with rfl;exact hDf
   rcases turn i n ys H' w' with⟨stop,qn⟩|⟨go,hz',N,hN,step⟩
   ·refine aK (T.done (cG X sc M G2.objs.size fp s2 H2) rfl rfl rfl hc i _ s' _ H' _ I' (fpB fn' np) st' stop) λr s4⟨hr,I4⟩=>?_;subst hr;obtain⟨eD,nD,_,_,_⟩:=I4.pin _ (mem_append_right _ mem_cons_self);obtain⟨m4,hn4,_⟩:=I4.loc;have u4:Un (cV X.stack) fp H2 H' s2.heap s4.heap:=I4.base;have eD':s4.heap.get? s2.heap.objs.size=some { cls:=.type "list",data:=.seq its.toArray k }:=eD;have nD':H' s2.heap.objs.size=none:=nD;have ne:∀b,b<s2.heap.objs.size->b≠s2.heap.objs.size:=λb hb=>ae7 hb
    have hok:HOk X.prog X.w (upd H' s2.heap.objs.size (.lst ys)) s4.heap:=λb ob e=>by
     by_cases hb:b=s2.heap.objs.size
     ·subst hb;rw[aB]at e;cases e;exact⟨hz,its,k,rv,eD'⟩
     ·rw[aD hb]at e;exact(I4.hok b ob e).stay (λ_ _ _ q=>q) (λc q=>by rw[aD (aW q nD')];exact q) λc xs q=>by rw[aD (aW q nD')];exact q
    have u5:Un (cV X.stack) fp H2 (upd H' s2.heap.objs.size (.lst ys)) s2.heap s4.heap:=
     ⟨u4.keep,u4.slot,λb o e n hx=>by rw[aD (ne b (ae1 e))];exact u4.free b o e n hx,u4.there,
      λb xs e=>by have:=u4.tups b xs e;rw[aD (aW this nD')];exact this,
      λb o u e=>by have:=u4.frzs b o u e;rw[aD (aW this nD')];exact this,
      λb ps e=>by obtain⟨mo,this⟩:=u4.tbls b ps e;exact⟨mo,by rw[aD (aW this nD')];exact this⟩⟩
    have I5:Inv X pins σ (upd H' s2.heap.objs.size (.lst ys)) s4:=
     I2.call' I4.os u5 hok I4.bare λb hb=>⟨(hf b hb).2.2.2.1,(hf b hb).2.1,(hf b hb).2.2.2.2.1,(hf b hb).2.2.2.2.2⟩
    refine hRR _ _ _ m4 s4 hn4 I5 (I2.fpOk hCle ?_) (qn _ nD');rw[aD (afY hDC)];exact I4.free
   ·refine aK (T.item (cG X sc M G2.objs.size fp s2 H2) rfl rfl rfl hc i _ s' _ H' _ I' (fpB fn' np) st' go) λr s4⟨u,hr,h4⟩=>?_;subst hr;refine aK h4 λ_ s5⟨x,H5,I5,r5,y5,st5,fr5⟩=>?_;have I5':=I5.pinned (fpB fr5 np) (T.obj _ _ st5);refine aK (B1 _ s5 _ H5 x u _ I5' r5 (hgk _ _ _ _ (step x H5 y5))) λ_ s6⟨σ6,H6,I6,q6,k6⟩=>?_;refine aK (B2 _ s6 σ6 H6 _ I6 q6) λok s7⟨H7,I7,q7⟩=>?_;have len6:(bR fm σ).length=σ6.length:=I'.len.trans I6.len.symm
    have wk:∀(j:Nat)(v:V),(bR fm σ)[j]? =some (some v)->σ6[j]? =some (some v):=λj v e=>by
     obtain⟨j',e'⟩:=aa8 e;rw[k6 j j' e'];exact e
    have back:∀{σ8:St}{H8:Hp}{s8:aeV},Inv (cG X sc M G2.objs.size fp s2 H2) ([(s2.heap.objs.size,{ cls:=.type "list",data:=.seq its.toArray k })]++iT fp s5.heap) σ8 H8 s8->tn (i+1) s8.heap/\∀b∈fp,H8 b=none:=λ{σ8 H8 s8}I8=>by
     refine⟨T.keep _ _ _ st5 λb hb o e=>(I8.pin (b,o) (mem_append_right _ (mem_append_right _ (oQ hb e)))).1,λb hb=>?_⟩;obtain⟨o,e,d⟩:=T.obj _ _ st5 b hb;exact(I8.pin (b,o) (mem_append_right _ (mem_append_right _ (oQ hb e)))).2.1
    cases ok with
    |false=>
     rw[if_neg afK]at q7;rw[if_neg afK];obtain⟨m',hm,w7⟩:=hN ys H7 q7
     exact⟨m',hm,i+1,ys,its,k,H7,(I7.weak len6 wk).unpinned,rv,hz,(back I7).1,(back I7).2,w7⟩
    | true=>
     rw[if_pos rfl]at q7;rw[if_pos rfl];refine aK (B3 _ s7 σ6 H7 _ I7 q7) λy s8⟨v,H8,I8,r8,q8⟩=>?_;obtain⟨st8,fr8⟩:=back I8;obtain⟨m',hm,w8⟩:=hN _ H8 q8;obtain⟨eD,nD,_,_,_⟩:=I8.pin _ (mem_append_right _ (mem_append_left _ mem_cons_self));have hits:its.toArray.size=ys.length:=by simp[rv.length]
     refine wpAny_list_append_plain (items:=its.toArray) ⟨k,eD⟩ (λh' hpl hsb=>?_) (by rw[hits];exact hz);obtain⟨k',ek⟩:=hpl;have ek':h'.get? s2.heap.objs.size=some { cls:=.type "list",data:=.seq (its++[y]).toArray k' }:=by simpa using ek
     have np8:∀p∈iT fp s5.heap,p.1≠s2.heap.objs.size:=λp hp z=>hDf (z▸(FX hp).1);have I9:Inv (cG X sc M G2.objs.size fp s2 H2) (iT fp s5.heap) σ6 H8 s8:=I8.pins_of λp hp=>I8.pin p (mem_append_right _ (mem_append_right _ hp))
     have I10:Inv (cG X sc M G2.objs.size fp s2 H2) (iT fp s5.heap) σ6 H8 { s8 with heap:=h',toks:=s8.toks }:=
      I9.turned (it:=s2.heap.objs.size) (λb o hb e=>hsb.extBut b o hb e) nD hDC (.inr (aeU _)) (λx c e z=>by
       obtain⟨v',q⟩:=I2.cell x c (eI (λ_ _ z=>by cases z) x c e)
       exact absurd (show c<s2.heap.objs.size from q.lt) (by rw[z];exact agJ _)) λp hp=>np8 p (by simpa[cG]using hp)
     have I11:Inv (cG X sc M G2.objs.size fp s2 H2) [(s2.heap.objs.size,{ cls:=.type "list",data:=.seq (its++[y]).toArray k' })] (bR fm σ) H8 { s8 with heap:=h',toks:=s8.toks }:=
      (I10.weak len6 wk).pins_of λp hp=>by
       rcases mem_singleton.mp hp with rfl;exact⟨ek',nD,hDC,hDfs,λ_ z=>nomatch z⟩
     refine⟨m',hm,i+1,ys++[v],its++[y],k',H8,I11,rv.append (.cons r8 .nil),?_,?_,fr8,w8⟩
     ·rw[length_append];exact hz'
     ·exact T.keep _ _ _ st8 λb hb o e=>hsb.extBut b o (λz=>hDf (z▸hb)) e
  ·obtain⟨k0,e0⟩:=hacc;refine⟨0,[],[],k0,H2,acS I2 hf hl hCle fr hk hfm old hns₁ λp hp=>?_,.nil,ae2 _,hst₁,λb hb=>(hf b hb).1,w0⟩;rcases mem_singleton.mp hp with rfl;exact⟨e0,I2.hok.fresh (aeU _),hDC,hDfs,λ_ z=>nomatch z⟩
 exact codeAny_compStart_list (loop _ rfl) (T.self _ 0 _ _ _ hst₁ (loop _ rfl))
end
section
variable{X:Cx}{sc:Scope}{M:List Str}{fm:List (Option Nat)}{tg iter elt:Expr}{ifs:List Expr}{pos:Pos}{g:TG}{tt:TT}{te:TE}{wi:TI}
theorem Inv.letGo{pins:List (Addr×Obj)}{σ:St}{H:Hp}{s:aeV}{C:Addr}{h':Heap}(I:Inv X pins σ H s)(f:fV X pins H C)(hs:afW C s.heap h'):Inv X pins σ H { s with heap:=h' }:=
 I.turned (t':=s.toks) (it:=C) (λb o hb e=>hs.extBut b o hb e) f.1 f.2.1 f.2.2.2.1 f.2.2.2.2.1 f.2.2.2.2.2
theorem cQ(hc:X.calm=true)(fr:FrOk X.env sc.names)(hfm:FmOk X.N sc M fm)(hgk:GK fm g)(hk:sc.kind=.function)(hnm:∀y∈sc.names,y.2=.local->sc.names.lookup y.1=some .local)(hi:PI X tg iter wi)
  (hB:∀C fp s H,PG (cG X sc M C fp s H) tg g/\mN (cG X sc M C fp s H) ifs tt/\PE (cG X sc M C fp s H) elt te) (hs:∀x,foldedSetIterable iter X.env x=pure x:=by intro _;rfl):
  PE X (.ListComp elt [⟨tg,iter,ifs,0⟩] sc pos) (qS wi fm g tt te):=by
 intro pins s σ H Q I h;rw[eval_ListComp];have hclos:=yG (env:=X.env) (sc:=sc) λn hn=>I.ok.has n (fr.free hn);refine wpAny_comprehension_free (use:=none) rfl hs hclos hk hnm (aK (hi pins s σ H _ I h) λv s1 h1=>aK h1 λitv s2 h2=>?_);obtain⟨it,fp,tn,J,H2,e,I2,T,st2,f2,W,w0,turn⟩:=h2;subst e;refine IT (Q:=Q) (RR:=λacc C=>compPost (afT X.prog X.w) X.A X.xe none (EP X pins σ Q) acc C) hc I2 T st2 f2 fr hk hfm hgk hB W w0 turn ?_;intro D C H' m s' hn I' f' q;exact⟨m,hn,λh' hs'=>⟨.ref D,H',I'.letGo f' hs',rfl,q⟩⟩
theorem hV{i:Nat}{x:Str}{px pst:Pos}(hN:X.N.Nodup)(hix:X.N[i]? =some x)(hx:X.env.kindOf x=some .local)(hsw:swapsWith (.ListComp elt [⟨tg,iter,ifs,0⟩] sc pos) (some (.Name x px)) pst.line X.env=pure true)
  (hc:X.calm=true) (fr:FrOk X.env sc.names) (hfm:FmOk X.N sc M fm) (hgk:GK fm g) (hk:sc.kind=.function) (hnm:∀y∈sc.names,y.2=.local->sc.names.lookup y.1=some .local) (hi:PI X tg iter wi)
  (hB:∀C fp s H,PG (cG X sc M C fp s H) tg g/\mN (cG X sc M C fp s H) ifs tt/\PE (cG X sc M C fp s H) elt te) (hs:∀x,foldedSetIterable iter X.env x=pure x:=by intro _;rfl):
  PS X (.Assign [.Name x px] (.ListComp elt [⟨tg,iter,ifs,0⟩] sc pos) pst) (nE (qS wi fm g tt te) (jR i)):=by
 intro pins s σ H D I h;rw[exec_Assign_Name_used _ _ _ _ hsw];refine aeS (wpAny_standAt (aeS ?_));show afH _ _ (do let _ <-comprehension (.ListComp elt [⟨tg,iter,ifs,0⟩] sc pos) sc X.env _ (newList []) false (eval iter X.env) (some (assign (.Name x px) X.env))) _ _ s
 have hclos:=yG (env:=X.env) (sc:=sc) λn hn=>I.ok.has n (fr.free hn)
 refine aeS (agS (wpAny_comprehension_free (use:=some (assign (.Name x px) X.env)) (Q:=λ_ s'=>SP X pins D .next s') rfl hs hclos hk hnm (aK (hi pins s σ H _ I h) λv s1 h1=>aK h1 λitv s2 h2=>?_))
  (λ_ s' hq=>aeX (aeX hq)) λ_ _ e=>e)
 obtain⟨it,fp,tn,J,H2,e,I2,T,st2,f2,W,w0,turn⟩:=h2;subst e;refine IT (Q:=λv H'=>jR i v σ H' D.nx) (RR:=λacc C=>compPost (afT X.prog X.w) X.A X.xe (some (assign (.Name x px) X.env)) (λ_ s'=>SP X pins D .next s') acc C) hc I2 T st2 f2 fr hk hfm hgk hB W w0 turn ?_;intro Da C H' m s' hn I' f' q;show afH _ _ (assign (.Name x px) X.env (.ref Da)) _ _ s'
 refine wpAny_assign_Name (C7 (v:=.ref Da) I' hN hix (.inl hx) rfl (λs2 I2' hs2=>?_) (.inr hx));obtain⟨a,hsb,ha⟩:=hs2
 have hCa:C≠a:=by
  rcases ha with rfl|ha
  ·exact f'.2.1
  ·exact(f'.2.2.2.2.1 x a ha).symm
 exact⟨m,hn.sameBut hsb hCa,λh' hs'=>⟨_,H',I2'.letGo f' hs',q⟩⟩
end
mutual
inductive Is (H:Hp):V->PyData->Prop
 |non:Is H .non .none
 |bl (b:Bool):Is H (.bl b) (.bool b)
 |int (i:Int):Is H (.int i) (.int i)
 |str (x:Str):Is H (.str x) (.str x)
 |tup {a:Addr} {xs:List V} {ds:List PyData}:H a=some (.tup xs)->IsAll H xs ds->Is H (.ref a) (.tuple ds)
 |lst {a:Addr} {xs:List V} {ds:List PyData}:Rd H a (.lst xs)->IsAll H xs ds->Is H (.ref a) (.list ds)
inductive IsAll (H:Hp):List V->List PyData->Prop
 |nil:IsAll H [] []
 |cons {v:V} {d:PyData} {vs:List V} {ds:List PyData}:Is H v d->IsAll H vs ds->IsAll H (v::vs) (d::ds)
end
theorem IsAll.length{H:Hp}:∀{vs:List V}{ds:List PyData},IsAll H vs ds->vs.length=ds.length
 |_,_,.nil=>rfl
 |_,_,.cons _ t=>by simp[t.length]
theorem IsAll.get{H:Hp}:∀{vs:List V}{ds:List PyData}{i:Nat}{d:PyData},IsAll H vs ds->ds[i]? =some d->∃v,vs[i]? =some v/\Is H v d
 |_,_,_,_,.nil,e=>by simp at e
 |_,_,0,_,.cons h t,e=>by simp at e;subst e;exact⟨_,rfl,h⟩
 |_,_,i+1,d,.cons h t,e=>by
  obtain⟨v,a,b⟩:=t.get (i:=i) (d:=d) (by simpa using e);exact⟨v,by simpa using a,b⟩
theorem IsAll.get'{H:Hp}:∀{vs:List V}{ds:List PyData}{i:Nat}{v:V},IsAll H vs ds->vs[i]? =some v->∃d,ds[i]? =some d/\Is H v d
 |_,_,_,_,.nil,e=>by simp at e
 |_,_,0,_,.cons h t,e=>by simp at e;subst e;exact⟨_,rfl,h⟩
 |_,_,i+1,d,.cons h t,e=>by
  obtain⟨v,a,b⟩:=t.get' (i:=i) (v:=d) (by simpa using e);exact⟨v,by simpa using a,b⟩
theorem IsAll.append{H:Hp}:∀{vs:List V}{ds:List PyData}{us:List V}{es:List PyData},IsAll H vs ds->IsAll H us es->IsAll H (vs++us) (ds++es)
 |_,_,_,_,.nil,s=>s
 |_,_,_,_,.cons h t,s=>.cons h (t.append s)
theorem IsAll.snoc{H:Hp}{vs:List V}{ds:List PyData}{v:V}{d:PyData}(h:IsAll H vs ds)(q:Is H v d):IsAll H (vs++[v]) (ds++[d]):=h.append (.cons q .nil)
theorem IsAll.take{H:Hp}:∀{vs:List V}{ds:List PyData}(n:Nat),IsAll H vs ds->IsAll H (vs.take n) (ds.take n)
 |_,_,0,_=>.nil
 |_,_,_+1,.nil=>.nil
 |_,_,n+1,.cons h t=>.cons h (t.take n)
theorem IsAll.drop{H:Hp}:∀{vs:List V}{ds:List PyData}(n:Nat),IsAll H vs ds->IsAll H (vs.drop n) (ds.drop n)
 |_,_,0,h=>h
 |_,_,_+1,.nil=>.nil
 |_,_,n+1,.cons h t=>t.drop n
theorem IsAll.ints{H:Hp}:∀ns:List Int,IsAll H (ns.map V.int) (ns.map aiD)
 |[]=>.nil
 |n::ns=>.cons (.int n) (IsAll.ints ns)
theorem IsAll.of_ints{H:Hp}:∀{vs:List V}{ns:List Int},IsAll H vs (ns.map aiD)->vs=ns.map V.int
 |_,[],h=>by cases h;rfl
 |_,n::ns,h=>by
  rw[map_cons]at h
  cases h with
  |cons h1 t=>
  cases h1;rw[map_cons,t.of_ints]
mutual
theorem Is.mono{H H':Hp}(ht:∀a xs,H a=some (.tup xs)->H' a=some (.tup xs))(hl:∀a xs,Rd H a (.lst xs)->Rd H' a (.lst xs)):∀{v:V}{d:PyData},Is H v d->Is H' v d
 |_,_,.non=>.non
 |_,_,.bl b=>.bl b
 |_,_,.int i=>.int i
 |_,_,.str x=>.str x
 |_,_,.tup e h=>.tup (ht _ _ e) (IsAll.mono ht hl h)
 |_,_,.lst e h=>.lst (hl _ _ e) (IsAll.mono ht hl h)
theorem IsAll.mono{H H':Hp}(ht:∀a xs,H a=some (.tup xs)->H' a=some (.tup xs))(hl:∀a xs,Rd H a (.lst xs)->Rd H' a (.lst xs)):∀{vs:List V}{ds:List PyData},IsAll H vs ds->IsAll H' vs ds
 |_,_,.nil=>.nil
 |_,_,.cons h t=>.cons (Is.mono ht hl h) (IsAll.mono ht hl t)
end
mutual
noncomputable def bO:PyData->Bool
 | .none| .bool _| .int _| .str _=>true
 | .tuple xs=>bA xs
 | .list _| .dict _=>false
noncomputable def bA:List PyData->Bool
 |[]=>true
 |x::xs=>bO x&&bA xs
end
mutual
theorem Is.tmono{H H':Hp}(ht:∀a xs,H a=some (.tup xs)->H' a=some (.tup xs)):∀{v:V}{d:PyData},bO d=true->Is H v d->Is H' v d
 |_,_,_,.non=>.non
 |_,_,_,.bl b=>.bl b
 |_,_,_,.int i=>.int i
 |_,_,_,.str x=>.str x
 |_,_,n,.tup e h=>.tup (ht _ _ e) (IsAll.tmono ht (by simpa[bO]using n) h)
 |_,_,n,.lst e h=>by simp[bO]at n
theorem IsAll.tmono{H H':Hp}(ht:∀a xs,H a=some (.tup xs)->H' a=some (.tup xs)):∀{vs:List V}{ds:List PyData},bA ds=true->IsAll H vs ds->IsAll H' vs ds
 |_,_,_,.nil=>.nil
 |_,_,n,.cons h t=>by
  rw[bA,afB]at n;exact .cons (Is.tmono ht n.1 h) (IsAll.tmono ht n.2 t)
end
theorem Same.rd{H H':Hp}(e:Same H H'){a:Addr}{u:HO}(h:Rd H a u):Rd H' a u:=by
 rcases h with h|⟨o,h⟩
 ·exact .inl (e _ _ h)
 ·exact .inr ⟨o,e _ _ h⟩
theorem Is.same{H H':Hp}(e:Same H H'){v:V}{d:PyData}(h:Is H v d):Is H' v d:=h.mono (λ_ _ q=>e _ _ q) λ_ _ q=>e.rd q
theorem IsAll.same{H H':Hp}(e:Same H H'){v:List V}{d:List PyData}(h:IsAll H v d):IsAll H' v d:=h.mono (λ_ _ q=>e _ _ q) λ_ _ q=>e.rd q
section
variable{X:Cx}{pins:List (Addr×Obj)}{σ:St}{H:Hp}{s:aeV}
mutual
theorem Is.reads(I:Inv X pins σ H s):∀{v:V}{d:PyData}{u:Value},Is H v d->RelV v u->∃as,Reads s.heap u d as
 |_,_,_,.non,r=>by cases(show _=Value.none from r);exact⟨_,.none⟩
 |_,_,_,.bl b,r=>by cases(show _=aiK b from r);exact⟨_,.bool b⟩
 |_,_,_,.int i,r=>by obtain⟨t,rfl⟩:=r;exact⟨_,.int i t⟩
 |_,_,_,.str x,r=>by obtain⟨t,rfl⟩:=r;exact⟨_,.str x t⟩
 |_,_,_,.tup (a:=a) e h,r=>by
  cases(show _=af4 a from r);obtain⟨its,rv,⟨o,h1,h2,n,h3⟩,_⟩:=I.tuple (SqT.of e);obtain⟨as,ra⟩:=IsAll.reads I h rv
  exact⟨_,.tuple h1 h2 h3 (by simpa using ra)⟩
 |_,_,_,.lst (a:=a) e h,r=>by
  cases(show _=af4 a from r);obtain⟨its,rv,⟨o,n,h1,h2,_,h3⟩,_⟩:=I.list (.inl e);obtain⟨as,ra⟩:=IsAll.reads I h rv;exact⟨_,.list h1 h2 h3 (by simpa using ra)⟩
theorem IsAll.reads(I:Inv X pins σ H s):∀{vs:List V}{ds:List PyData}{us:List Value},IsAll H vs ds->Vals vs us->∃as,ReadsAll s.heap us ds as
 |_,_,_,.nil,.nil=>⟨_,.nil⟩
 |_,_,_,.cons h t,.cons r q=>by
  obtain⟨as,ra⟩:=Is.reads I h r;obtain⟨bs,rb⟩:=IsAll.reads I t q;exact⟨_,.cons ra rb⟩
end
end
noncomputable def fL(d:PyData):Prop:=d.canLay0=true/\d.depth<=40
noncomputable def oG(ds:List PyData):Prop:=agA ds=true/\afI ds<=40
section
variable{X:Cx}
noncomputable def jI(neg:Bool):R2:=λx y H Q=>∃d e,Is H x d/\Is H y e/\fL d/\fL e/\Q (.bl (if neg then !PyData.eqv d e else agN d e)) H
theorem eC(hu:X.A.units+64<cLine):OpR X (agD .Eq) (jI false):=by
 intro pins s σ H x y v u Q I rx ry h;obtain⟨d,e,hx,hy,od,oe,q⟩:=h;obtain⟨as,ra⟩:=hx.reads I rx;obtain⟨bs,rb⟩:=hy.reads I ry;exact SeqAt.compareEq_reads ra rb od.1 oe.1 (by have:=od.2;lia) ⟨.bl _,H,I,rfl,q⟩
theorem iW(hu:X.A.units+64<cLine):OpR X (agD .NotEq) (jI true):=by
 intro pins s σ H x y v u Q I rx ry h;obtain⟨d,e,hx,hy,od,oe,q⟩:=h;obtain⟨as,ra⟩:=hx.reads I rx;obtain⟨bs,rb⟩:=hy.reads I ry;exact SeqAt.compareNe_reads ra rb od.1 oe.1 (by have:=od.2;lia) ⟨.bl _,H,I,rfl,q⟩
noncomputable def iE(d:PyData)(ds:List PyData):Bool:=ds.any λy=>agN y d
noncomputable def jH(neg:Bool):R2:=λx y H Q=>∃d ds,Is H x d/\(Is H y (.tuple ds)\/Is H y (.list ds))/\fL d/\oG ds/\Q (.bl (if neg then !iE d ds else iE d ds)) H
theorem oA(hu:X.A.units+64<cLine):OpR X (agD .In) (jH false):=by
 intro pins s σ H x y v u Q I rx ry h;obtain⟨d,ds,hx,hy,od,oe,q⟩:=h;obtain⟨as,ra⟩:=hx.reads I rx;rcases hy with hy|hy
 ·obtain⟨bs,rb⟩:=hy.reads I ry;exact SeqAt.in_tuple_reads rb ra oe.1 od.1 (by have:=od.2;lia) ⟨.bl _,H,I,rfl,q⟩
 ·obtain⟨bs,rb⟩:=hy.reads I ry;exact SeqAt.in_list_reads rb ra oe.1 od.1 (by have:=od.2;lia) ⟨.bl _,H,I,rfl,q⟩
theorem gB(hu:X.A.units+64<cLine):OpR X (agD .NotIn) (jH true):=by
 intro pins s σ H x y v u Q I rx ry h;obtain⟨d,ds,hx,hy,od,oe,q⟩:=h;obtain⟨as,ra⟩:=hx.reads I rx;rcases hy with hy|hy
 ·obtain⟨bs,rb⟩:=hy.reads I ry;exact SeqAt.notIn_tuple_reads rb ra oe.1 od.1 (by have:=od.2;lia) ⟨.bl _,H,I,rfl,q⟩
 ·obtain⟨bs,rb⟩:=hy.reads I ry;exact SeqAt.notIn_list_reads rb ra oe.1 od.1 (by have:=od.2;lia) ⟨.bl _,H,I,rfl,q⟩
end
noncomputable def gP:PyData->String
 | .none=>"NoneType"
 | .bool _=>"bool"
 | .int _=>"int"
 | .str _=>"str"
 | .list _=>"list"
 | .tuple _=>"tuple"
 | .dict _=>"dict"
theorem Is.ty{K:PySem.W.Frag}{H:Hp}{v:V}{d:PyData}(h:Is H v d):fC K H v (.type (gP d)):=by
 cases h with
 |non=>exact .non
 |bl b=>exact .bl b
 |int i=>exact .int i
 |str x=>exact .str x
 |tup e _=>exact .tup e
 |lst e _=>
  rcases e with e|⟨o,e⟩
  ·exact .lst e
  ·exact .frz e
noncomputable def iD(T:String)(d:PyData):Bool:=gP d==T||(T=="int"&&gP d=="bool")
theorem ZF{K:PySem.W.Frag}(d:PyData):ah8 K (.type (gP d)) (.type "bool")=some (iD "bool" d):=by cases d <;> with_unfolding_all rfl
theorem ZD{K:PySem.W.Frag}(d:PyData):ah8 K (.type (gP d)) (.type "int")=some (iD "int" d):=by cases d <;> with_unfolding_all rfl
theorem kit_tuple{K:PySem.W.Frag}(d:PyData):ah8 K (.type (gP d)) (.type "tuple")=some (iD "tuple" d):=by cases d <;> with_unfolding_all rfl
theorem ZC{K:PySem.W.Frag}(d:PyData):ah8 K (.type (gP d)) (.type "list")=some (iD "list" d):=by cases d <;> with_unfolding_all rfl
theorem ZB{K:PySem.W.Frag}(d:PyData):ah8 K (.type (gP d)) (.type "str")=some (iD "str" d):=by cases d <;> with_unfolding_all rfl
theorem ZE{K:PySem.W.Frag}(d:PyData):ah8 K (.type (gP d)) (.type "dict")=some (iD "dict" d):=by cases d <;> with_unfolding_all rfl
section
variable{X:Cx}
theorem ab9:CallR X (.builtin "isinstance") (λxs H Q=>∃x T d,xs=[x,.ty T]/\T∈(["bool","int","tuple","list","str","dict"]:List String)/\Is H x d/\Q (.bl (iD T d)) H):=by
 intro pins s σ H xs us Q I r h;obtain⟨x,T,d,rfl,hT,hx,q⟩:=h;obtain⟨u,v,rfl,rx,ry⟩:=Vals.two r;cases(show v=agH T from ry)
 have fin:∀{b:Bool},ah8 X.K (.type (gP d)) (.type T)=some b->b=iD T d->afH (afT X.prog X.w) X.A (call (.builtin "isinstance") [u,.type T]) (EP X pins σ Q) X.xe s:=λ{b}e eb=>by
  subst eb;exact Z9 I rx hx.ty e λtk=>⟨.bl _,H,I.tok tk,rfl,q⟩
 simp only[mem_cons,not_mem_nil,or_false]at hT;rcases hT with rfl|rfl|rfl|rfl|rfl|rfl
 ·exact fin (ZF d) rfl
 ·exact fin (ZD d) rfl
 ·exact fin (kit_tuple d) rfl
 ·exact fin (ZC d) rfl
 ·exact fin (ZB d) rfl
 ·exact fin (ZE d) rfl
end
end L2
set_option maxHeartbeats 4000000
namespace L2
open PySem PySem.Spec PyProof.Rows
noncomputable def Run{α:Type}(lt:Nat->Nat->Bool)(n:Nat):PySem.W.KasT α->(α->Prop)->Prop
 | .ret a,Q=>Q a
 | .ask i j k,Q=>i<n/\j<n/\Run lt n (k (lt i j)) Q
section
variable{lt:Nat->Nat->Bool}{n:Nat}
theorem Run.mono{α:Type}{Q Q':α->Prop}(h:∀a,Q a->Q' a):∀{t:PySem.W.KasT α},Run lt n t Q->Run lt n t Q'
 | .ret a,q=>h a q
 | .ask i j k,⟨a,b,q⟩=>⟨a,b,Run.mono h q⟩
theorem Run.bind{α β:Type}{f:α->PySem.W.KasT β}{Q:β->Prop}:∀{t:PySem.W.KasT α},Run lt n t (λa=>Run lt n (f a) Q)->Run lt n (t.bind f) Q
 | .ret a,q=>q
 | .ask i j k,⟨a,b,q⟩=>⟨a,b,Run.bind q⟩
theorem Run.wp{α:Type}{cmp:Nat->Nat->(Bool->aeV->Prop)->aeV->Prop}{Q:α->Prop}{R:α->aeV->Prop}{s:aeV}(hc:∀i j C,i<n->j<n->C (lt i j) s->cmp i j C s)(hR:∀a,Q a->R a s):
  ∀{t:PySem.W.KasT α},Run lt n t Q->t.kasWp cmp R s
 | .ret a,q=>hR a q
 | .ask i j k,⟨a,b,q⟩=>hc i j _ a b (Run.wp hc hR q)
structure kX (lt:Nat->Nat->Bool) (n:Nat):Prop where
 tr:∀i j k,i<n->j<n->k<n->lt i j=true->lt j k=true->lt i k=true
 tot:∀i j,i<n->j<n->i≠j->lt i j=false->lt j i=true
 irr:∀i j,i<n->j<n->lt i j=true->lt j i=false
structure c8 (n:Nat) (p:Array Nat):Prop where
 sz:p.size=n
 lt:∀i,i<n->p.getD i 0<n
 ne:∀i j,i<n->j<n->i≠j->p.getD i 0≠p.getD j 0
 pm:p.toList.Perm (range n)
noncomputable def Up(lt:Nat->Nat->Bool)(p:Array Nat)(k:Nat):Prop:=∀i j,i<j->j<k->lt (p.getD i 0) (p.getD j 0)=true
noncomputable def Dn(lt:Nat->Nat->Bool)(p:Array Nat)(k:Nat):Prop:=∀i j,i<j->j<k->lt (p.getD j 0) (p.getD i 0)=true
variable(S:kX lt n)
include S
theorem MI{p:Array Nat}{k:Nat}(P:c8 n p)(h1:1<=k)(hk:k<n)(u:Up lt p k)(h:lt (p.getD (k-1) 0) (p.getD k 0)=true):Up lt p (k+1):=λi j hij hj=>by
 by_cases e:j=k
 ·subst e;by_cases e2:i=j-1
  ·subst e2;exact h
  ·exact S.tr _ _ _ (P.lt _ (by lia)) (P.lt _ (by lia)) (P.lt _ (by lia)) (u i (j-1) (by lia) (by lia)) h
 ·exact u i j hij (by lia)
theorem abF{p:Array Nat}{k:Nat}(P:c8 n p)(h1:1<=k)(hk:k<n)(u:Dn lt p k)(h:lt (p.getD k 0) (p.getD (k-1) 0)=true):Dn lt p (k+1):=λi j hij hj=>by
 by_cases e:j=k
 ·subst e;by_cases e2:i=j-1
  ·subst e2;exact h
  ·exact S.tr _ _ _ (P.lt _ (by lia)) (P.lt _ (by lia)) (P.lt _ (by lia)) h (u i (j-1) (by lia) (by lia))
 ·exact u i j hij (by lia)
theorem tU{p:Array Nat}(P:c8 n p):∀(f k:Nat),1<=k->k+f<=n->Up lt p k->Run lt n (PySem.W.kas_asc p f k) λr=>k<=r/\r<=k+f/\Up lt p r/\(r<k+f->lt (p.getD r 0) (p.getD (r-1) 0)=true)
 |0,k,_,_,u=>⟨aeU _,aeU _,u,λh=>absurd h (agJ _)⟩
 | f+1,k,h1,hn,u=>by
  refine⟨P.lt _ (by lia),P.lt _ (by lia),?_⟩
  cases c:lt (p.getD k 0) (p.getD (k-1) 0) with
  |true=>exact⟨aeU _,by lia,u,λ_=>c⟩
  |false=>
   have c':=S.tot _ _ (P.lt _ (by lia)) (P.lt _ (by lia)) (P.ne k (k-1) (by lia) (by lia) (by lia)) c;exact(tU P f (k+1) (by lia) (by lia) (MI S P h1 (by lia) u c')).mono λr⟨a,b,c,d⟩=>⟨by lia,by lia,c,λh=>d (by lia)⟩
theorem DK{p:Array Nat}(P:c8 n p):∀(f k:Nat),1<=k->k+f<=n->Dn lt p k->Run lt n (PySem.W.kas_desc f p k 0) λr=>r.1=p/\r.2.2=0/\k<=r.2.1/\r.2.1<=k+f/\Dn lt p r.2.1
 |0,k,_,_,u=>⟨rfl,rfl,aeU _,aeU _,u⟩
 | f+1,k,h1,hn,u=>by
  refine⟨P.lt _ (by lia),P.lt _ (by lia),?_⟩
  cases c:lt (p.getD k 0) (p.getD (k-1) 0) with
  |true=>
   show Run lt n (if(0:Nat)>0 then PySem.W.kas_desc f (PySem.W.kas_rev p (k-(0+1)) k) (k+1) 0 else PySem.W.kas_desc f p (k+1) 0) _;rw[if_neg (agJ 0)]
   exact(DK P f (k+1) (by lia) (by lia) (abF S P h1 (by lia) u c)).mono λr⟨a,b,c,d,e⟩=>⟨a,b,by lia,by lia,e⟩
  |false=>
   have c':=S.tot _ _ (P.lt _ (by lia)) (P.lt _ (by lia)) (P.ne k (k-1) (by lia) (by lia) (by lia)) c;refine⟨P.lt _ (by lia),P.lt _ (by lia),?_⟩;rw[c'];exact⟨rfl,rfl,aeU _,Nat.le_add_right _ _,u⟩
omit S in
theorem l5{p:Array Nat}{k:Nat}(hk:k<=p.size)(i:Nat):(PySem.W.kas_rev p 0 k).getD i 0=if i<k then p.getD (k-1-i) 0 else p.getD i 0:=by
 have e:∀(q:Array Nat)(i:Nat),q.getD i 0=(q[i]?).getD 0:=λq i=>by
  by_cases h:i<q.size
  ·simp[agV,h]
  ·simp[agV,h]
 rw[e,e,e];unfold PySem.W.kas_rev;rw[getElem?_mirror hk _ (by lia)];by_cases h:i<k
 ·rw[if_pos h];by_cases h2:(0<=i/\i<0+(k-0)/2)\/(k-(k-0)/2<=i/\i<k)
  ·rw[if_pos h2]
   congr 2
   lia
  ·rw[if_neg h2];have:k-1-i=i:=by lia
   rw[this]
 ·rw[if_neg h,if_neg (by lia)]
omit S in
theorem DU{p:Array Nat}(P:c8 n p){k:Nat}(hk:k<=n):c8 n (PySem.W.kas_rev p 0 k) where
 sz:=(mirror_size _ _ _ _).trans P.sz
 lt:=λi hi=>by
  rw[l5 (by rw[P.sz];exact hk)];split
  ·exact P.lt _ (by lia)
  ·exact P.lt _ hi
 ne:=λi j hi hj hne=>by
  rw[l5 (by rw[P.sz];exact hk),l5 (by rw[P.sz];exact hk)];split <;> split <;> exact P.ne _ _ (by lia) (by lia) (by lia)
 pm:=(ag5.mp (mirror_perm _ _ _ _)).trans P.pm
omit S in
theorem Q4{p:Array Nat}(P:c8 n p){k:Nat}(hk:k<=n)(d:Dn lt p k):Up lt (PySem.W.kas_rev p 0 k) k:=λi j hij hj=>by
 rw[l5 (by rw[P.sz];exact hk),l5 (by rw[P.sz];exact hk),if_pos (by lia),if_pos hj];exact d _ _ (by lia) (by lia)
theorem QT{p:Array Nat}(P:c8 n p){k:Nat}(h1:1<=k)(hk:k<=n)(d:Dn lt p k):Run lt n (PySem.W.kas_tail3 k n p) λr=>1<=r.1/\r.1<=n/\c8 n r.2/\Up lt r.2 r.1:=by
 unfold PySem.W.kas_tail3;refine Run.bind ((tU S (DU P hk) (n-k) k h1 (by lia) (Q4 P hk d)).mono λr⟨a,b,c,_⟩=>?_);exact⟨by lia,by lia,DU P hk,c⟩
theorem QV{p:Array Nat}(P:c8 n p)(h1:1<=n):Run lt n (PySem.W.kas_count n p) λr=>1<=r.1/\r.1<=n/\c8 n r.2/\Up lt r.2 r.1:=by
 unfold PySem.W.kas_count;refine Run.bind ((tU S P (n-1) 1 (aeU _) (by lia) (λi j hij hj=>by lia)).mono λr⟨a,b,u,c⟩=>?_);by_cases hr:(r==n)=true
 ·rw[if_pos hr];exact⟨a,by lia,P,u⟩
 ·rw[if_neg hr];have hr':r≠n:=by simpa using hr
  by_cases h2:r>1
  ·rw[if_pos h2];refine⟨P.lt _ (by lia),P.lt _ (by lia),?_⟩;rw[u 0 (r-1) (by lia) (by lia)];exact⟨a,by lia,P,u⟩
  ·rw[if_neg h2];have er:r=1:=by lia
   subst er;unfold PySem.W.kas_descPart;have c0:=c (by lia)
   have d2:Dn lt p 2:=λi j hij hj=>by
    have ei:i=0:=by lia
    have ej:j=1:=by lia
    subst ei ej;exact c0
   refine Run.bind ((DK S P (n-(1+1)) (1+1) (by lia) (by lia) d2).mono λq⟨e1,e2,e3,e4,e5⟩=>?_);rw[e2,if_neg (agJ 0),e1];exact QT S P (by lia) (by lia) e5
theorem tS{p:Array Nat}(P:c8 n p){k:Nat}(hk:k<n):∀(f l r:Nat),r<=l+f->l<=r->r<=k->(∀i,i<l->lt (p.getD i 0) (p.getD k 0)=true)->(∀i,r<=i->i<k->lt (p.getD k 0) (p.getD i 0)=true)->Up lt p k->
  Run lt n (PySem.W.kas_place p k f l r) λx=>x<=k/\(∀i,i<x->lt (p.getD i 0) (p.getD k 0)=true)/\(∀i,x<=i->i<k->lt (p.getD k 0) (p.getD i 0)=true)
 |0,l,r,h1,h2,h3,hl,hr,_=>by
  have e:l=r:=by lia
  subst e
  exact⟨h3,hl,hr⟩
 | f+1,l,r,h1,h2,h3,hl,hr,u=>by
  unfold PySem.W.kas_place;by_cases h:l>=r
  ·rw[if_pos h];have e:l=r:=by lia
   subst e;exact⟨h3,hl,hr⟩
  ·rw[if_neg h];refine⟨P.lt _ (by lia),P.lt _ (by lia),?_⟩
   cases c:lt (p.getD k 0) (p.getD ((l+r)/2) 0) with
   |true=>
    refine tS P hk f l ((l+r)/2) (by lia) (by lia) (by lia) hl (λi kK gG=>?_) u;by_cases e:i=(l+r)/2
    ·subst e;exact c
    ·exact S.tr _ _ _ (P.lt _ (by lia)) (P.lt _ (by lia)) (P.lt _ (by lia)) c (u _ _ (by lia) (by lia))
   |false=>
    have c':=S.tot _ _ (P.lt _ (by lia)) (P.lt _ (by lia)) (P.ne k ((l+r)/2) (by lia) (by lia) (by lia)) c;refine tS P hk f ((l+r)/2+1) r (by lia) (by lia) h3 (λi hi=>?_) hr u;by_cases e:i=(l+r)/2
    ·subst e;exact c'
    ·exact S.tr _ _ _ (P.lt _ (by lia)) (P.lt _ (by lia)) (P.lt _ (by lia)) (u _ _ (by lia) (by lia)) c'
omit S in
theorem l7{p:Array Nat}{k d:Nat}(hk:k<p.size)(hd:d<=k)(i:Nat):(bubble p k d).getD i 0=if i=k-d then p.getD k 0 else if k-d<i/\i<=k then p.getD (i-1) 0 else p.getD i 0:=by
 have e:∀(q:Array Nat)(i:Nat),q.getD i 0=(q[i]?).getD 0:=λq i=>by
  by_cases h:i<q.size
  ·simp[agV,h]
  ·simp[agV,h]
 rw[e,e,e,e,getElem?_bubble hk d hd];split
 ·rfl
 ·split <;> rfl
omit S in
theorem acJ{p:Array Nat}(P:c8 n p){k d:Nat}(hk:k<n)(hd:d<=k):c8 n (bubble p k d) where
 sz:=(bubble_size _ _ _).trans P.sz
 lt:=λi hi=>by
  rw[l7 (by rw[P.sz];exact hk) hd];split
  ·exact P.lt _ hk
  ·split
   ·exact P.lt _ (by lia)
   ·exact P.lt _ hi
 ne:=λi j hi hj hne=>by
  rw[l7 (by rw[P.sz];exact hk) hd,l7 (by rw[P.sz];exact hk) hd];split <;> split <;> first|(split <;> first|exact P.ne _ _ (by lia) (by lia) (by lia)|(split <;> exact P.ne _ _ (by lia) (by lia) (by lia)))|exact P.ne _ _ (by lia) (by lia) (by lia)|lia
 pm:=(ag5.mp (bubble_perm _ _ _)).trans P.pm
theorem DL:∀(f:Nat)(p:Array Nat)(k:Nat),c8 n p->k+f=n->1<=k->Up lt p k->Run lt n (PySem.W.kas_bin f p k) λq=>c8 n q/\Up lt q n
 |0,p,k,P,e,_,u=>by
  have e':k=n:=by lia
  subst e'
  exact⟨P,u⟩
 | f + 1,p,k,P,e,h1,u=>by
  unfold PySem.W.kas_bin;refine Run.bind ((tS S P (by lia:k<n) k 0 k (by lia) (by lia) (aeU _) (λi hi=>by lia) (λi h1 h2=>by lia) u).mono λl⟨hl,ha,hb⟩=>?_);have hp:k<p.size:=by rw[P.sz];lia
  refine DL f _ (k+1) (acJ P (by lia) (by lia)) (by lia) (by lia) λi j hij hj=>?_;rw[l7 hp (by lia),l7 hp (by lia)];have el:k-(k-l)=l:=by lia
  rw[el];by_cases hi:i=l
  ·rw[if_pos hi];rw[if_neg (by lia:¬j=l),if_pos (by lia)];exact hb _ (by lia) (by lia)
  ·rw [if_neg hi];by_cases hj':j=l
   ·rw[if_pos hj',if_neg (by lia)];exact ha _ (by lia)
   ·rw[if_neg hj'];by_cases c1:l<i/\i<=k
    ·rw[if_pos c1,if_pos (by lia)];exact u _ _ (by lia) (by lia)
    ·rw[if_neg c1];by_cases c2:l<j/\j<=k
     ·rw[if_pos c2];exact u _ _ (by lia) (by lia)
     ·rw[if_neg c2];exact u _ _ (by lia) (by lia)
theorem DJ(h1:1<=n):Run lt n (PySem.W.kas_sort n) λq=>c8 n q/\Up lt q n:=by
 unfold PySem.W.kas_sort
 have P0:c8 n (List.toArray (range n)):=by
  have e:∀i,i<n->(List.toArray (range n)).getD i 0=i:=λi hi=>by simp[agV,hi]
  exact⟨by simp,λi hi=>by rw[e i hi];exact hi,λi j hi hj hne=>by rw[e i hi,e j hj];exact hne,ah6.refl _⟩
 refine Run.bind ((QV S P0 h1).mono λr⟨a,b,P,u⟩=>?_);by_cases h:r.1<n
 ·rw[if_pos h];have em:max r.1 1=r.1:=by lia
  rw[em];exact DL S _ _ _ P (by lia) a u
 ·rw[if_neg h];have e:r.1=n:=by lia
  rw[e]at u;exact⟨P,u⟩
end
theorem WH{h:Heap}{a:Addr}{m m':Str->Option Value}(x:h.Ns a m)(y:h.Ns a m'):m=m':=by
 obtain⟨o,es,ep,e,d,_,f⟩:=x;obtain⟨o',es',ep',e',d',_,f'⟩:=y;rw[e]at e';cases e';rw[d]at d';cases d'
 funext z
 rw[<-f z,<-f' z]
theorem ObjOk.there{P:afL}{w:agC}{H:Hp}{h:Heap}{a:Addr}{o:HO}(x:ObjOk P w H h a o):∃u,h.get? a=some u:=by
 cases o with
 |lst xs=>obtain⟨_,_,_,_,e⟩:=x;exact⟨_,e⟩
 |tup xs=>obtain⟨_,_,_,_,o,e,_⟩:=x;exact⟨_,e⟩
 |dK kvs=>obtain⟨_,_,_,_,o,_,_,e,_⟩:=x;exact⟨_,e⟩
 |dT kvs=>obtain⟨_,_,_,_,o,_,_,e,_⟩:=x;exact⟨_,e⟩
 |set S n=>obtain⟨o,_,_,_,e,_⟩:=x;exact⟨_,e⟩
 |ins C dx fs=>obtain⟨_,_,_,e,_⟩:=x;exact⟨_,e⟩
 |own y=>obtain⟨_,e⟩:=x;exact⟨_,e⟩
 |xd fs=>obtain⟨_,⟨_,_,_,e,_⟩,_⟩:=x;exact⟨_,e⟩
 |rng lo hi=>obtain⟨_,_,_,e⟩:=x;exact⟨_,e⟩
 |frz ob u=>obtain⟨e,_⟩:=x;exact⟨_,e⟩
 |tbl ps=>exact⟨_,show h.get? a=some _ from x⟩
 |met f y=>exact⟨_,show h.get? a=some _ from x⟩
 |ext φ=>obtain⟨_,⟨_,e⟩,_⟩:=x;exact⟨_,e⟩
section
variable{X:Cx}{pins:List (Addr×Obj)}{σ:St}{H:Hp}{s:aeV}
theorem Inv.none_of(I:Inv X pins σ H s){a:Addr}(h:s.heap.get? a=none):H a=none:=by
 cases q:H a with
 |none=>rfl
 |some o=>
  obtain⟨u,e⟩:=(I.hok a o q).there;rw[h]at e;cases e
theorem Inv.laidBut{a:Addr}{xs:List V}{its:List Value}{n t':Nat}{h':Heap}{m:Str->Option Value}(I:Inv X pins σ H s)(k:∀b u,b≠X.env.locals->s.heap.get? b=some u->h'.get? b=some u)(hm:s.heap.Ns X.env.locals m)(hm':h'.Ns X.env.locals m)
  (hp:s.heap.get? a=none) (rv:Vals xs its) (hz:xs.length<=sizeLine) (ho:h'.get? a=some { cls:=.type "list",data:=.seq its.toArray n }):Inv X pins σ (upd H a (.lst xs)) { s with heap:=h',toks:=t' }:=by
 have hn:H a=none:=I.none_of hp;have neL:∀b u,H b=some u->b≠X.env.locals:=λb u e z=>by rw[z,I.free]at e;cases e
 refine I.step (g':=s.gens) (d':=s.drawn) (ch:=[]) (λ_ z=>nomatch z) (λb o h1 _ _ e _=>k b o h1 e) (λb o h1 _ _ e _=>⟨o.slots,k b o h1 e⟩)
  (λb o _ e q=>by rw[aD (λz=>by rw[z,hp]at e;cases e)];exact q) (λb o _ e=>?_)
  (λb xs q=>by rw[aD (aW q hn)];exact q) (λb o u q=>by rw[aD (aW q hn)];exact q) (λb ps q=>⟨#[],by rw[aD (aW q hn),q];simp⟩) (λm2 h2=>?_) (λb u e=>?_) I.bare
 ·by_cases hb:b=X.env.locals
  ·subst hb;obtain⟨o',_,_,e',_⟩:=hm';exact⟨o',e'⟩
  ·exact⟨o,k b o hb e⟩
 ·rw[WH h2 hm];exact hm'
 ·by_cases hb:b=a
  ·subst hb;rw[aB]at e;cases e;exact⟨hz,its,n,rv,ho⟩
  ·rw[aD hb]at e;refine(I.hok b u e).stay (λc v hc q=>k c v ?_ q) (λc q=>by rw[aD (aW q hn)];exact q) λc xs q=>by rw[aD (aW q hn)];exact q
   rcases hc with rfl|hc
   ·exact neL _ _ e
   ·exact neL _ _ hc
end
section
variable{X:Cx}
theorem I0:∀{bs:List Bool}{vs:List Value},Vals (bs.map V.bl) vs->LSm.BoolsAre vs bs
 |[],_,.nil=>.nil
 |b::bs,_,.cons r t=>by
  cases(show _=aiK b from r);exact .cons b (I0 t)
theorem acA(hc:X.calm=true):CallR X (.builtin "all") (λxs H Q=>∃(p:Addr)(bs:List Bool),xs=[.ref p]/\SqL X.K H p (bs.map V.bl)/\Q (.bl (bs.all id)) H):=by
 intro pins s σ H xs us Q I r h;obtain⟨p,bs,rfl,hq,q⟩:=h;obtain⟨u,rfl,rx⟩:=Vals.one r;cases(show u=af4 p from rx);obtain⟨its,rv,pl,hz⟩:=I.list hq;obtain⟨m,F⟩:=I.fr;have hb:=I0 rv;have hl:s.heap.IsList p its.toArray:=pl.isList;have hlt:p<s.heap.objs.size:=by obtain⟨_,e,_⟩:=hl;exact ae1 e
 refine call_all_walk (ahX hl ?_)
 refine⟨s.heap.objs.size,[s.heap.objs.size,p],[s.heap.objs.size],its.toArray.size,_,_,λi=>(bs[i]?).getD true,rfl,aiE (A:=X.A.in1) (I.ok.hd hc) _ p (ae7 hlt) its.toArray,
  ⟨⟨_,aeZ _ rfl,rfl,rfl⟩,hl.push _⟩,λi v s' Q' E' hP hQ=>?_,λh' tk hk=>?_⟩
 ·obtain⟨b,e,rfl⟩:=hb.get i v (by simpa using hP);simp only[e,Option.getD_some]at hQ;exact agT hQ
 ·have e:((range its.toArray.size).all λi=>(bs[i]?).getD true)=bs.all id:=by
   rw[size_toArray,hb.length];exact LSm.range_all bs
  rw[e];exact⟨.bl _,H,I.kept (LSm.kept_iter hk),rfl,q⟩
end
section
variable{prog:afL}{w:agC}{A:afU}{E:Value->aeV->Prop}{s:aeV}
noncomputable def Col(prog:afL)(w:agC)(s:aeV)(l:Addr)(vs:List Value):Prop:=∀(A:afU)(E:Value->aeV->Prop)(Q:List Value->aeV->Prop),
 Q vs { s with heap:=(s.heap.push (afC "list" #[] 0)).update s.heap.objs.size (afA (· ++vs.toArray)) }->afH (afT prog w) A (collect (.ref l)) Q E s
theorem Col.list{l:Addr}{vs:List Value}(hl:s.heap.IsList l vs.toArray)(hz:vs.length<=sizeLine):Col prog w s l vs:=λ_ _ _ h=>collect_list hl h hz
theorem Col.tup{l:Addr}{vs:List Value}(hl:IsTup s.heap l vs.toArray)(hz:vs.length<=sizeLine):Col prog w s l vs:=by
 intro A E Q h;obtain⟨o,ho,hc,n,hd⟩:=hl;have ho':(s.heap.push (afC "list" #[] 0)).get? l=some o:=aeT _ ho;have e0:((#[]:Array Value)++vs.toArray).toList=vs:=by simp
 unfold collect;refine aeS (wpAny_runValue (af5 entry_proto_collect' ?_));show afH _ _ (do again (.builtin "list.__iadd__" ⟨[<-newList [],.ref l],[]⟩)) _ _ s
 refine aeS (ahN (aeX ⟨Code.quiet_builtin _ (by decide +kernel),af5 entry_list_iadd' ?_⟩));show afH _ _ (af8.List.listExtendWith (.ref s.heap.objs.size) (.ref l) (.ref s.heap.objs.size)) _ _ { s with heap:=s.heap.push (afC "list" #[] 0) }
 unfold af8.List.listExtendWith;refine aeS (wpAny_typeOf (T:="tuple") ⟨o,ho',hc⟩ ?_);have ht2:(agH "tuple"==agH "tuple")=true:=by rfl
 rw[if_pos (by rw[ht2];simp)];refine aeS (listItems_at ho' hd ?_);refine aeS (listItems_at (xs:=#[]) (n:=0) (aeZ _ rfl) rfl ?_);rw[if_neg (by simp)];refine aeS (listUpdate_at (xs:=#[]) (n:=0) (aeZ _ rfl) rfl ?_ (ae2 _) (afO (Nat.le_of_eq (by rw[<-afF,e0])) (ahY hz)));refine aeX ?_
 show afH (afT prog w) A (do
   let ob <-load s.heap.objs.size
   match ob.data with
   | .seq xs _=>pure xs.toList
   |_=>unsupported "internal:collect") Q E { s with heap:=(s.heap.push (afC "list" #[] 0)).update s.heap.objs.size (afA (· ++vs.toArray)) }
 refine aeS (wpAny_load (agR (aeZ _ rfl) _) ?_);show afH _ _ (pure ((#[]:Array Value)++vs.toArray).toList) Q E _
 rw[e0];exact aeX h
theorem DD{l:Addr}{vs:List Value}{Q:Value->aeV->Prop}{h₀:Heap}{L:Addr}{m:Str->Option Value}{news:List (Addr×Obj)}(F:Fr h₀ L s.heap m)(N:News h₀ L s.heap news)(hl:Col prog w s l vs)(h2:2<=vs.length)(h64:vs.length<64)
  (h:∀D e1 h',Fr h₀ L h' m->News h₀ L h' ((D,afC "list" #[] e1)::news)->(∀q∈news,q.1<D)->
   afH (afT prog w) A.in1.in1 (keyKind' vs.toArray) (λκ s'=>(PySem.W.kas_sort vs.length).kasWp (PySem.W.kas_ask prog w A.in1.in1 κ vs) (λp s''=>PySem.W.KasFin h₀ L m D e1 (p.toList.map λi=>vs.getD i Value.none) (λs3=>Q (.ref D) s3) s'') s') (λ_ _=>False) { s with heap:=h' }):
  afH (afT prog w) A (call (.builtin "sorted") [.ref l]) Q E s:=by
 have hsl:vs.length<=sizeLine:=by rw[sizeLine_eq];lia
 refine ah9 kind_sorted plain_sorted entry_sorted (args_sorted1 _) ?_;unfold af8.«sorted»;refine aeS (m:=checkCount "sorted" 1 1 _) (aeX ?_);refine aeS (hl _ _ _ ?_);refine aeS (ahN ?_ hsl)
 have hsz:((s.heap.push (afC "list" #[] 0)).update s.heap.objs.size (afA (· ++vs.toArray))).objs.size=s.heap.objs.size+1:=by
  rw[ag3,size_push']
 have hoL:(((s.heap.push (afC "list" #[] 0)).update s.heap.objs.size (afA (· ++vs.toArray))).push (afC "list" vs.toArray 0)).get? (s.heap.objs.size+1)=some (afC "list" vs.toArray 0):=by
  rw[<-hsz];exact aeZ _ rfl
 have keep:∀b o,s.heap.get? b=some o->(((s.heap.push (afC "list" #[] 0)).update s.heap.objs.size (afA (· ++vs.toArray))).push (afC "list" vs.toArray 0)).get? b=some o:=λb o q=>by
  have hlt:b<s.heap.objs.size:=ae1 q;rw[agB _ _ _ (by rw[hsz];exact ae7 (afZ hlt)),ahK _ _ _ _ (ae7 hlt),agB _ _ _ (ae7 hlt)];exact q
 have hL:L<s.heap.objs.size:=F.ns.lt;show afH _ _ _ _ _ { s with heap:=((s.heap.push (afC "list" #[] 0)).update s.heap.objs.size (afA (· ++vs.toArray))).push (afC "list" vs.toArray 0) }
 rw[hsz];refine aeS (af2 (ahB slot_list_sort ⟨_,hoL,rfl⟩ entry_list_sort ?body (args_list_sort _)))
 case body=>
  refine PySem.W.kat_list_sort (s:={ s with heap:=((s.heap.push (afC "list" #[] 0)).update s.heap.objs.size (afA (· ++vs.toArray))).push (afC "list" vs.toArray 0) })
   (F.kept keep) (N.grown keep) hoL (Nat.ne_of_gt (afZ hL)) (Heap.get?_none_of_le (afO F.above (ahY (agP hL))))
   (λp hp=>ae7 (afZ (ae1 (N p hp).1))) h2 h64 λe1 h' F' N'=>?_
  refine agS (h _ e1 h' F' N' λq hq=>afZ (ae1 (N q hq).1)) (λκ s' hk=>?_) λ_ _ x=>x;rw[PySem.W.kat_ask_eq rfl]at hk ⊢;exact PySem.W.kas_wp_mono hk λp s'' hk'=>hk'.mono λs3 hq=>⟨_,rfl,aeX ⟨_,rfl,hq⟩⟩
theorem qX{l:Addr}{vs:List Value}{Q:Value->aeV->Prop}(hl:Col prog w s l vs)(h2:vs.length<2)
  (h:∀D h' n,s.heap.objs.size<=D->(∀b o,s.heap.get? b=some o->h'.get? b=some o)->h'.get? D=some { cls:=.type "list",data:=.seq vs.toArray n }->Q (.ref D) { s with heap:=h' }):
  afH (afT prog w) A (call (.builtin "sorted") [.ref l]) Q E s:=by
 have hsl:vs.length<=sizeLine:=by rw[sizeLine_eq];lia
 refine ah9 kind_sorted plain_sorted entry_sorted (args_sorted1 _) ?_;unfold af8.«sorted»;refine aeS (m:=checkCount "sorted" 1 1 _) (aeX ?_);refine aeS (hl _ _ _ ?_);refine aeS (ahN ?_ hsl)
 have hsz:((s.heap.push (afC "list" #[] 0)).update s.heap.objs.size (afA (· ++vs.toArray))).objs.size=s.heap.objs.size+1:=by
  rw[ag3,size_push']
 have hoL:(((s.heap.push (afC "list" #[] 0)).update s.heap.objs.size (afA (· ++vs.toArray))).push (afC "list" vs.toArray 0)).get? (s.heap.objs.size+1)=some (afC "list" vs.toArray 0):=by
  rw[<-hsz];exact aeZ _ rfl
 have keep:∀b o,s.heap.get? b=some o->(((s.heap.push (afC "list" #[] 0)).update s.heap.objs.size (afA (· ++vs.toArray))).push (afC "list" vs.toArray 0)).get? b=some o:=λb o q=>by
  have hlt:b<s.heap.objs.size:=ae1 q;rw[agB _ _ _ (by rw[hsz];exact ae7 (afZ hlt)),ahK _ _ _ _ (ae7 hlt),agB _ _ _ (ae7 hlt)];exact q
 show afH _ _ _ _ _ { s with heap:=((s.heap.push (afC "list" #[] 0)).update s.heap.objs.size (afA (· ++vs.toArray))).push (afC "list" vs.toArray 0) };rw[hsz];generalize ((s.heap.push (afC "list" #[] 0)).update s.heap.objs.size (afA (· ++vs.toArray))).push (afC "list" vs.toArray 0)=g at hoL keep ⊢;refine aeS (af2 (ahB slot_list_sort ⟨_,hoL,rfl⟩ entry_list_sort ?body (args_list_sort _)))
 case body=>
  rw[list_sort_plain];have ha:s.heap.objs.size+1<g.objs.size:=ae1 hoL;refine aeS (listItems_at hoL rfl ?_);refine aeS (listUpdate_at hoL rfl ?_ (by rw[size_toArray];exact hsl) (ae2 _));obtain⟨e1,ho1⟩:∃e1,(g.update (s.heap.objs.size+1) (afA λ_=>(#[]:Array Value))).get? (s.heap.objs.size+1)=some (afC "list" #[] e1):=⟨_,agR hoL (λ_=>#[])⟩
  refine aeS (seqEpoch_at ho1 rfl ?_);refine aeS (wpAny_newTuple ?_ hsl);refine aeS (ahN ?_ (ae2 _));refine af2 ?_
  have ho6:(((g.update (s.heap.objs.size+1) (afA λ_=>(#[]:Array Value))).push (afC "tuple" vs.toArray 0)).push (afC "list" #[] 0)).get? (s.heap.objs.size+1)=some (afC "list" #[] e1):=by
   rw[agB _ _ _ (by rw[size_push',ag3];exact ae7 (afZ ha)),agB _ _ _ (by rw[ag3];exact ae7 ha)];exact ho1
  show afH (afT prog w) _ _ _ _ { s with heap:=((g.update (s.heap.objs.size+1) (afA λ_=>(#[]:Array Value))).push (afC "tuple" vs.toArray 0)).push (afC "list" #[] 0) };dsimp only;have h2':vs.toArray.size<2:=by simpa using h2
  rw[if_pos h2',if_pos h2'];refine aeS (aeX ?_);rw[StateT.run_pure];refine aeS (aeX ?_);dsimp only;refine aeS (seqEpoch_at ho6 rfl ?_)
  have earr:(afN (SortSt.mk' general' (vs.toArray.zip vs.toArray) #[] 7 none)).map (·.2)=vs.toArray:=by
   show(pairsOf vs).map (·.2)=vs.toArray;apply Array.toList_inj.mp;rw[Array.toList_map,pairsOf_toList]
   have e:∀l:List Value,(l.zip l).map (·.2)=l:=λl=>by
    induction l with
    |nil=>rfl
    |cons a r ih=>rw[zip_cons_cons,map_cons,ih]
   rw[e]
  refine aeS (listUpdate_at ho6 rfl ?_ (ae2 _) (hsz2:=by rw[earr,size_toArray];exact ahY hsl));simp only[bne_self_eq_false,af1,if_false];refine aeX ⟨_,rfl,aeX ⟨_,rfl,?_⟩⟩;have s2:=agR ho6 λ_=>vs.toArray;rw[earr];refine h _ _ _ (Nat.le_succ _) (λb o q=>?_) s2;have hlt:b<s.heap.objs.size:=ae1 q;have hlt2:b<g.objs.size:=ae1 (keep b o q)
  rw[ahK _ _ _ _ (ae7 (afZ hlt)),agB _ _ _ (by rw[size_push',ag3];exact ae7 (afZ hlt2)),agB _ _ _ (by rw[ag3];exact ae7 hlt2),
   ahK _ _ _ _ (ae7 (afZ hlt))]
  exact keep b o q
end
theorem oY:∀a:List Int,HT.lexLt a a=false
 |[]=>rfl
 |x::a=>by rw[HT.eF,if_pos rfl];exact oY a
theorem iY:∀{a b:List Int},HT.lexLt a b=true->HT.lexLt b a=false
 |[],[],h=>by cases h
 |[],_::_,_=>rfl
 |_::_,[],h=>by cases h
 | x::a,y::b,h=>by
  rw[HT.eF]at h ⊢;by_cases e:x=y
  ·rw[if_pos e]at h;rw[if_pos e.symm];exact iY h
  ·rw[if_neg e]at h;rw[if_neg (afY e)];have:=of_decide_eq_true h;exact decide_eq_false (by lia)
theorem lU:∀{a b:List Int},a≠b->HT.lexLt a b=false->HT.lexLt b a=true
 |[],[],h,_=>(h rfl).elim
 |[],_::_,_,h=>by cases h
 |_::_,[],_,_=>rfl
 | x::a,y::b,hne,h=>by
  rw[HT.eF]at h ⊢;by_cases e:x=y
  ·rw[if_pos e]at h;rw[if_pos e.symm];exact lU (λz=>hne (by rw[e,z])) h
  ·rw[if_neg e]at h;rw[if_neg (afY e)];have:=of_decide_eq_false h;exact decide_eq_true (by lia)
theorem lT:∀{a b c:List Int},HT.lexLt a b=true->HT.lexLt b c=true->HT.lexLt a c=true
 |[],_,[],h1,h2=>by
  rename_i b;cases b
  ·exact h1
  ·cases h2
 |[],_,_::_,_,_=>rfl
 |_::_,[],_,h,_=>by cases h
 |_::_,_::_,[],_,h=>by cases h
 | x::a,y::b,z::c,h1,h2=>by
  rw[HT.eF]at h1 h2 ⊢;by_cases e1:x=y
  ·rw[if_pos e1]at h1;by_cases e2:y=z
   ·rw[if_pos e2]at h2;rw[if_pos (e1.trans e2)];exact lT h1 h2
   ·rw[if_neg e2]at h2;rw[if_neg (by rw[e1];exact e2),e1];exact h2
  ·rw[if_neg e1]at h1;by_cases e2:y=z
   ·rw[if_pos e2]at h2;rw[if_neg (by rw[<-e2];exact e1),<-e2];exact h1
   ·rw[if_neg e2]at h2;have p:=of_decide_eq_true h1;have q:=of_decide_eq_true h2;rw[if_neg (by lia)];exact decide_eq_true (by lia)
section
variable{prog:afL}{w:agC}{A:afU}{E:Value->aeV->Prop}{s:aeV}
theorem G8{b:Bool}{Q:Bool->aeV->Prop}:∀{ns ms:List Int}{vs us:List Value}(i:Nat),Vals (ns.map V.int) vs->Vals (ms.map V.int) us->ns.length=ms.length->Q (HT.lexLt ns ms) s->
  PySem.W.KatLex prog w A b false Q (vs.zip us) i s
 |[],[],_,_,_,.nil,.nil,_,q=>q
 |[],_::_,_,_,_,_,_,h,_=>by simp at h
 |_::_,[],_,_,_,_,_,h,_=>by simp at h
 | n::ns,m::ms,_,_,i,.cons r1 t1,.cons r2 t2,h,q=>by
  obtain⟨t,rfl⟩:=r1;obtain⟨u,rfl⟩:=r2;rw[zip_cons_cons];refine PySem.W.kat_cons (SeqAt.EqAt.int_int n t m u prog w _ _ ?_);rw[HT.eF]at q;by_cases e:n=m
  ·rw[if_pos e]at q;rw[show(n==m)=true by simpa using e];exact PySem.W.kat_yes (G8 (i+1) t1 t2 (by simpa using h) q)
  ·rw[if_neg e]at q;rw[show(n==m)=false by simpa using e];refine PySem.W.kat_no ?_
   cases hb:(b&&i==0) with
   |true=>exact oneLt_int q
   |false=>exact PySem.W.kat_one _ _ (lt_int (show PySem.W.BoolBack Q (.bool (decide (n<m))) s from q))
theorem G7{b:Bool}{Q:Bool->aeV->Prop}{ns ms:List Int}:∀{ps:List Str}{vs us:List Value}(i:Nat),Vals (ps.map V.str++ns.map V.int) vs->Vals (ps.map V.str++ms.map V.int) us->ns.length=ms.length->Q (HT.lexLt ns ms) s->
  PySem.W.KatLex prog w A b false Q (vs.zip us) i s
 |[],_,_,i,h1,h2,h,q=>G8 i h1 h2 h q
 |p::ps,_,_,i,.cons r1 t1,.cons r2 t2,h,q=>by
  obtain⟨t,rfl⟩:=r1;obtain⟨u,rfl⟩:=r2;rw[zip_cons_cons];refine PySem.W.kat_cons (SeqAt.EqAt.str_str p t p u prog w _ _ ?_);rw[beq_self_eq_true];exact PySem.W.kat_yes (G7 (i+1) t1 t2 h q)
end
noncomputable def cC(ps:List Str)(ns:List Int):PyData:=.tuple (ps.map .str++ns.map .int)
theorem IsAll.preInts{H:Hp}{ns:List Int}:∀{ps:List Str}{vs:List V},IsAll H vs (ps.map PyData.str++ns.map aiD)->vs=ps.map V.str++ns.map V.int
 |[],_,h=>h.of_ints
 |p::ps,_,h=>by
  rw[map_cons,List.cons_append]at h
  cases h with
  |cons h1 t=>
  cases h1;have:=IsAll.preInts (ps:=ps) t;rw[this];rfl
theorem o4{h:Heap}{G:Value->Prop}:∀(its:List Value),(∀(i:Nat)u,its[i]? =some u->∃(a:Addr)(o:Obj)(zs:Array Value)(n:Nat)(f:Value),u=.ref a/\h.get? a=some o/\o.cls=.type "tuple"/\o.data=.seq zs n/\zs[0]? =some f/\G f)->
  ∃fs,ahR h its fs/\fs.length=its.length/\∀v∈fs,G v
 |[],_=>⟨[],ahR.nil,rfl,λ_ h=>nomatch h⟩
 |u::its,hi=>by
  obtain⟨fs,t,l,g⟩:=o4 its λi u e=>hi (i+1) u (by simpa using e);obtain⟨a,o,zs,n,f,rfl,h1,h2,h3,h4,h5⟩:=hi 0 u rfl;refine⟨f::fs,ahR.cons h1 h2 h3 h4 t,by simp[l],λv hv=>?_⟩;rcases mem_cons.mp hv with rfl|hv
  ·exact h5
  ·exact g v hv
theorem vB{α:Type}(d:α)(l:List α):(range l.length).map (λi=>l.getD i d)=l:=by
 apply aiF;intro i;rw[ae4];by_cases h:i<l.length
 ·rw[ahL h];simp[h]
 ·rw[af0 (by simpa using h),af0 (by simpa using h)];rfl
section
variable{X:Cx}
noncomputable def EE(K:PySem.W.Frag):List V->Hp->VK->Prop:=λxs H Q=>∃(p:Addr)(vs:List V)(ps:List Str)(nss:List (List Int))(k:Nat),xs=[.ref p]/\(SqL K H p vs\/SqT K H p vs)/\IsAll H vs (nss.map (cC ps))/\(∀ns∈nss,ns.length=k)/\0<ps.length+k/\nss.Nodup/\nss.length<64/\
 ∀(l:Addr)(vs':List V)(nss':List (List Int)),H l=none->IsAll H vs' (nss'.map (cC ps))->nss'.Perm nss->nss'.Pairwise (λa b=>HT.lexLt a b=true)->Q (.ref l) (upd H l (.lst vs'))
theorem abX:CallR X (.builtin "sorted") (EE X.K):=by
 intro pins s σ H xs us Q I r h;obtain⟨p,vs,ps,nss,k,rfl,hq,ha,hk,hpos,hnd,h64,q⟩:=h;obtain⟨u,rfl,rx⟩:=Vals.one r;cases(show u=af4 p from rx)
 obtain⟨its,rv,hl,hz⟩:∃its,Vals vs its/\Col X.prog X.w s p its/\vs.length<=sizeLine:=by
  rcases hq with hq|hq
  ·obtain⟨its,rv,pl,hz⟩:=I.list hq;exact⟨its,rv,Col.list pl.isList (by rw[<-rv.length];exact hz),hz⟩
  ·obtain⟨its,rv,pl,hz⟩:=I.tuple hq;exact⟨its,rv,Col.tup pl (by rw[<-rv.length];exact hz),hz⟩
 have e1:vs.length=nss.length:=by rw[ha.length,length_map]
 have e2:its.length=nss.length:=by rw[<-rv.length,e1]
 by_cases h2:its.length<2
 ·refine qX hl h2 λD h' n hD hkeep ho=>?_;refine⟨.ref D,_,I.laid (t':=s.toks) (o:=.lst vs) hkeep hD ⟨hz,its,n,rv,ho⟩,rfl,q D vs nss (I.hok.fresh hD) ha (ah6.refl _) ?_⟩
  match nss,e2,h2 with
  |[],_,_=>exact .nil
  |[a],_,_=>exact pairwise_singleton _ _
  |a::b::r,e2,h2=>simp at e2;lia
 ·obtain⟨m,F⟩:=I.fr;refine DD F (news:=jX X.base s.heap X.env.locals) uW hl (by lia) (by lia) λD e0 h' F' N' hD=>?_
  have hkeep:∀b o,b≠X.env.locals->s.heap.get? b=some o->h'.get? b=some o:=λb o hb e=>by
   cases qb:X.base.get? b with
   |some u=>
    have:=I.bk b u qb;rw[e]at this;cases this
    exact F'.keep b _ qb
   |none=>exact(N' (b,o) (mem_cons_of_mem _ (iB hb qb e))).1
  have item:∀(i:Nat)(ns:List Int),nss[i]? =some ns->∃(a:Addr)(o:Obj)(zs:List Value)(n:Nat),its.getD i Value.none=.ref a/\h'.get? a=some o/\o.cls=.type "tuple"/\o.data=.seq zs.toArray n/\Vals (ps.map V.str++ns.map V.int) zs:=λi ns e=>by
   obtain⟨v,ev,iv⟩:=ha.get (i:=i) (d:=cC ps ns) (by rw[ae4,e];rfl);obtain⟨u,eu,ru⟩:=rv.get ev;unfold cC at iv
   cases iv with
   |@tup a xs _ ea hxs=>
    obtain rfl:=hxs.preInts;obtain⟨zs,rz,⟨o,h1,h2,n,h3⟩,_⟩:=I.tuple (SqT.of ea);have hL:a≠X.env.locals:=λz=>by rw[z,I.free]at ea;cases ea
    refine⟨a,o,zs,n,?_,hkeep a o hL h1,h2,h3,rz⟩;rw[ae9,eu];exact ru
  obtain⟨T,fs,tups,hfl,hT,hTT⟩:∃(T:String)(fs:List Value),ahR h' its fs/\fs.length=its.length/\(∀v∈fs,typeOf v=pure (agH T))/\(agH T==agH T)=true:=by
   have go:∀T:String,(∀(ns:List Int)(zs:List Value),ns.length=k->Vals (ps.map V.str++ns.map V.int) zs->∃f,zs.toArray[0]? =some f/\typeOf f=pure (agH T))->
     ∃(fs:List Value),ahR h' its fs/\fs.length=its.length/\(∀v∈fs,typeOf v=pure (agH T)):=λT hf=>
    o4 its λi u eu=>by
     have hi:i<nss.length:=by rw[<-e2];exact(ae3.mp eu).1
     obtain⟨a,o,zs,n,g1,g2,g3,g4,g5⟩:=item i nss[i] (aeY hi);rw[ae9,eu]at g1;obtain⟨f,f1,f2⟩:=hf _ zs (hk _ (getElem_mem hi)) g5;exact⟨a,o,zs.toArray,n,f,g1,g2,g3,g4,f1,f2⟩
   cases hps:ps with
   | nil=>
    obtain⟨fs,a,b,c⟩:=go "int" λns zs hn rz=>by
     subst hps
     match ns,zs,rz,hn with
     |[],_,_,hn=>simp at hpos;subst hn;simp at hpos
     |n::ns,_,.cons r _,_=>
      obtain⟨t,rfl⟩:=r;exact⟨_,rfl,rfl⟩
    exact⟨"int",fs,a,b,c,rfl⟩
   | cons p1 pr=>
    obtain⟨fs,a,b,c⟩:=go "str" λns zs hn rz=>by
     subst hps
     match zs,rz with
     |_,.cons r _=>
      obtain⟨t,rfl⟩:=r;exact⟨_,rfl,rfl⟩
    exact⟨"str",fs,a,b,c,rfl⟩
  refine PySem.W.kat_kind tups (by lia) (λv hv=>PySem.W.Looks.of_pure (hT v hv)) hTT ?_;have S:kX (λi j=>HT.lexLt (nss.getD i []) (nss.getD j [])) its.length:=⟨λi j k _ _ _ a b=>lT a b,λi j hi hj hne a=>lU (λz=>hne ?_) a,λi j _ _ a=>iY a⟩
  ·rw [e2];rw[e2]at S;refine Run.wp (λi j C hi hj hC=>?_) (λpq hpq=>?_) (DJ S (by lia))
   ·show afH _ _ (keyLt' _ (its.getD i Value.none) (its.getD j Value.none)) C _ _;obtain⟨a,o,zs,n,g1,g2,g3,g4,g5⟩:=item i nss[i] (aeY hi);obtain⟨a',o',zs',n',g1',g2',g3',g4',g5'⟩:=item j nss[j] (aeY hj);rw[g1,g1'];refine PySem.W.kat_lt g2 g4 g2' g4' ?_;have hn1:=hk _ (getElem_mem hi);have hn2:=hk _ (getElem_mem hj)
    have ez:decide (zs.toArray.size<zs'.toArray.size)=false:=by
     have l1:=g5.length;have l2:=g5'.length;simp only[length_append,length_map]at l1 l2;simp only[size_toArray];exact decide_eq_false (by lia)
    rw[ez];refine G7 0 (by simpa using g5) (by simpa using g5') (by lia) ?_;have e1':nss.getD i []=nss[i]:=by simp[hi]
    have e2':nss.getD j []=nss[j]:=by simp[hj]
    rw[<-e1',<-e2'];exact hC
   ·obtain⟨P,up⟩:=hpq;refine PySem.W.KasFin.intro F' N' (.head λx hx=>ae7 (hD x hx)) λh'' c F'' N''=>?_
    have hnD:s.heap.get? D=none:=by
     cases qd:s.heap.get? D with
     |none=>rfl
     |some o=>
      have hh:=N' (D,_) mem_cons_self;have hm:=hD (D,o) (iB hh.2.1 hh.2.2 qd);exact absurd hm (agJ _)
    have hkeep2:∀b o,b≠X.env.locals->s.heap.get? b=some o->h''.get? b=some o:=λb o hb e=>by
     cases qb:X.base.get? b with
     |some u=>
      have:=I.bk b u qb;rw[e]at this;cases this
      exact F''.keep b _ qb
     |none=>exact(N'' (b,o) (mem_cons_of_mem _ (iB hb qb e))).1
    have hlt:∀x∈pq.toList,x<nss.length:=λx hx=>mem_range.mp (P.pm.mem_iff.mp hx)
    have rv2:∀l:List Nat,(∀x∈l,x<nss.length)->Vals (l.map λi=>vs.getD i .non) (l.map λi=>its.getD i Value.none)/\IsAll H (l.map λi=>vs.getD i .non) ((l.map λi=>nss.getD i []).map (cC ps)):=λl=>by
     induction l with
     |nil=>exact λ_=>⟨.nil,.nil⟩
     |cons x l ih=>
      intro hx;obtain⟨ih1,ih2⟩:=ih λy hy=>hx y (mem_cons_of_mem _ hy);have hxn:=hx x mem_cons_self;obtain⟨v,ev,iv⟩:=ha.get (i:=x) (d:=cC ps nss[x]) (by rw[ae4,aeY hxn];rfl);obtain⟨u,eu,ru⟩:=rv.get ev;have a1:vs.getD x .non=v:=by rw[ae9,ev];rfl
      have a2:its.getD x Value.none=u:=by rw[ae9,eu];rfl
      have a3:nss.getD x []=nss[x]:=by simp[hxn]
      simp only[map_cons,a1,a2,a3];exact⟨.cons ru ih1,.cons iv ih2⟩
    obtain⟨rv3,ia3⟩:=rv2 pq.toList hlt;have ho:=(N'' (D,_) mem_cons_self).1;have hpl:pq.toList.length=nss.length:=by rw[afF];exact P.sz
    refine⟨.ref D,_,I.laidBut (t':=s.toks) hkeep2 F.ns F''.ns hnD rv3 (by rw[length_map,hpl,sizeLine_eq];lia) ho,rfl,q D _ _ (I.none_of hnD) ia3 ?_ ?_⟩
    ·have:=P.pm.map λi=>nss.getD i [];rw[vB]at this;exact this
    ·rw[pairwise_iff_getElem];intro i j hi hj hij;simp only[length_map]at hi hj;have:=up i j hij (by rw[<-hpl];exact hj)
     have z:∀x(hx:x<pq.toList.length),pq.getD x 0=pq.toList[x]:=λx hx=>by
      have hx':x<pq.size:=by simpa using hx
      simp[agV,hx']
     rw[z i hi,z j hj]at this;simpa using this
  ·rw[e2]at hi hj;have e1':nss.getD i []=nss[i]:=by simp[hi]
   have e2':nss.getD j []=nss[j]:=by simp[hj]
   rw[e1',e2']at z;exact(getElem_inj hnd).mp z
end
theorem cL:af9 "len"=some (.builtin "len"):=by decide +kernel
theorem iL:af9 "isinstance"=some (.builtin "isinstance"):=by decide +kernel
theorem mF:af9 "all"=some (.builtin "all"):=by decide +kernel
theorem pM:af9 "sorted"=some (.builtin "sorted"):=by decide +kernel
theorem yJ:af9 "max"=some (.builtin "max"):=by decide +kernel
theorem IZ:af9 "min"=some (.builtin "min"):=by decide +kernel
theorem acK:af9 "zip"=some (.type "zip"):=by decide +kernel
theorem i9:af9 "tuple"=some (.type "tuple"):=by decide +kernel
theorem kP:af9 "list"=some (.type "list"):=by decide +kernel
theorem acO:af9 "int"=some (.type "int"):=by decide +kernel
theorem acP:af9 "bool"=some (.type "bool"):=by decide +kernel
theorem acL:af9 "set"=some (.type "set"):=by decide +kernel
theorem acN:af9 "range"=some (.type "range"):=by decide +kernel
theorem acM:af9 "reversed"=some (.type "reversed"):=by decide +kernel
theorem nW{X:Cx}{x:Str}{n:Int}{pos:Pos}(hg:Gl X x)(hm:∃tk,X.mg x=some (.int n tk))(hd:(x==("__debug__":Str))=false:=by decide):PE X (.Name x pos) (tC (.int n)):=
 λ_ _ _ H _ I h=>let⟨tk,e⟩:=hm;HD I hg e ⟨.int n,H,I,⟨tk,rfl⟩,h⟩ hd
noncomputable def kD(K:PySem.W.Frag):R2:=λx y H Q=>∃p xs i v,x=.ref p/\y=.int i/\(SqL K H p xs\/SqT K H p xs)/\c5 xs i=some v/\Q v H
theorem Z1{X:Cx}:IxR X (kD X.K):=by
 intro value slice pins s σ H x y v u Q I rx ry h hs;obtain⟨p,xs,i,w,e1,e2,hq,ha,q⟩:=h;rcases hq with hq|hq
 ·exact Z0 value slice pins s σ H x y v u Q I rx ry ⟨p,xs,i,w,e1,e2,hq,ha,q⟩ hs
 ·exact ZZ value slice pins s σ H x y v u Q I rx ry ⟨p,xs,i,w,e1,e2,hq,ha,q⟩ hs
noncomputable def kE:List V->Hp->VK->Prop:=λxs H Q=>∃x T d,xs=[x,.ty T]/\T∈(["bool","int","tuple","list","str","dict"]:List String)/\Is H x d/\Q (.bl (iD T d)) H
noncomputable def kC(K:PySem.W.Frag):List V->Hp->VK->Prop:=λxs H Q=>∃p ys,xs=[.ref p]/\(SqL K H p ys\/SqT K H p ys)/\Q (.int ys.length) H
noncomputable def uH(K:PySem.W.Frag):List V->Hp->VK->Prop:=λxs H Q=>∃(p:Addr)(bs:List Bool),xs=[.ref p]/\SqL K H p (bs.map V.bl)/\Q (.bl (bs.all id)) H
noncomputable def TN(K:PySem.W.Frag):List V->Hp->VK->Prop:=λxs H Q=>∃(p:Addr)(bs:List Bool),xs=[.ref p]/\SqL K H p (bs.map V.bl)/\Q (.bl (bs.any id)) H
noncomputable def EK:R2:=λx y H Q=>y=.non/\Q (.bl (decide (x=.non))) H
noncomputable def EH:R2:=λx y H Q=>y=.non/\Q (.bl (!decide (x=.non))) H
section
variable{X:Cx}
theorem iK:CallR X (.builtin "isinstance") kE:=ab9
theorem acD:CallR X (.builtin "len") (kC X.K):=ab8
theorem acE(hc:X.calm=true):CallR X (.builtin "all") (uH X.K):=acA hc
theorem lJ:OpR X (agD .Is) EK:=UV
theorem uV:OpR X (agD .IsNot) EH:=UT
noncomputable def uA(K:PySem.W.Frag):List V->Hp->VK->Prop:=λxs H Q=>∃p ys,xs=[.ref p]/\((SqL K H p ys/\∀l,H l=none->Q (.ref l) (upd H l (.tup ys)))\/(SqT K H p ys/\Q (.ref p) H))
noncomputable def uG(K:PySem.W.Frag):List V->Hp->VK->Prop:=λxs H Q=>∃p ys,xs=[.ref p]/\(SqL K H p ys\/SqT K H p ys)/\∀l,H l=none->Q (.ref l) (upd H l (.lst ys))
theorem acC:CallR X (.type "list") (uG X.K):=ab7
theorem acB:CallR X (.type "tuple") (uA X.K):=abW
noncomputable def TH:List V->Hp->VK->Prop:=λxs H Q=>∃i j:Int,xs=[.int i,.int j]/\Q (.int (if j>i then j else i)) H
noncomputable def TL:List V->Hp->VK->Prop:=λxs H Q=>(∃i,xs=[.int i]/\Q (.int i) H)\/∃k,xs=[.bl k]/\Q (.int (if k then 1 else 0)) H
end
@[reducible] def isBoolD:PyData->Bool| .bool _=>true|_=>false
@[reducible] def isIntD:PyData->Bool| .bool _=>true| .int _=>true|_=>false
@[reducible] def isTupD:PyData->Bool| .tuple _=>true|_=>false
@[reducible] def isLstD:PyData->Bool| .list _=>true|_=>false
@[reducible] def isStrD:PyData->Bool| .str _=>true|_=>false
section
variable{σ:St}{H:Hp}{Q:VK}{D:eK}{K:PySem.W.Frag}
theorem RJ{t u:TS}(h:t { D with nx:=u D } σ H):qO t u D σ H:=h
theorem RW(h:D.nx σ H):CO D σ H:=h
theorem SQ{c:TT}{t u:TS}(h:c σ H λb H1=>if b=true then t D σ H1 else u D σ H1):CS c t u D σ H:=h
theorem RM{te:TE}(h:te σ H D.rt):CH te D σ H:=h
theorem EA{te:TE}(h:te σ H λ_ H1=>D.nx σ H1):CV te D σ H:=h
theorem S7{te:TE}{g:TG}(h:te σ H λx H1=>g x σ H1 D.nx):nE te g D σ H:=h
theorem SU{i:Nat}{v:V}{P:St->Hp->Prop}(h:P (σ.set i (some v)) H):jR i v σ H P:=h
theorem RA{i:Nat}{v:V}(e:σ[i]? =some (some v))(h:Q v H):qL i σ H Q:=⟨v,e,h⟩
theorem TD{v:V}(h:Q v H):tC v σ H Q:=h
theorem RF{te:TE}{P:Bool->Hp->Prop}(h:te σ H λx H'=>∃k,x=.bl k/\P k H'):qM te σ H P:=h
theorem TF{te:TE}{P:Bool->Hp->Prop}(h:te σ H λx H'=>∃k,x=.bl k/\P k H'):tB te σ H P:=h
theorem S6{b:Bool}{P:Bool->Hp->Prop}(h:P b H):∃k,V.bl b=.bl k/\P k H:=⟨b,rfl,h⟩
theorem RQ{r:R2}{ta tb:TE}(h:ta σ H λx H1=>tb σ H1 λy H2=>r x y H2 Q):lD r ta tb σ H Q:=h
theorem RC{r:V->Hp->VK->Prop}{ta:TE}(h:ta σ H λx H1=>r x H1 Q):CD r ta σ H Q:=h
theorem TC{g:Int->Int->V}{i j:Int}(h:Q (g i j) H):gT g (.int i) (.int j) H Q:=⟨i,j,rfl,rfl,h⟩
theorem fJ{C:Int->Int->Prop}{g:Int->Int->V}{i j:Int}(hc:C i j)(h:Q (g i j) H):rI C g (.int i) (.int j) H Q:=⟨i,j,rfl,rfl,hc,h⟩
theorem TB{t u:TT}{P:Bool->Hp->Prop}(h:t σ H λc H1=>if c=true then u σ H1 P else P false H1):C4 t u σ H P:=h
theorem RP{t u:TT}{P:Bool->Hp->Prop}(h:t σ H λc H1=>if c=true then P true H1 else u σ H1 P):CJ t u σ H P:=h
theorem RU{t:TT}{P:Bool->Hp->Prop}(h:t σ H λc H1=>P (!c) H1):CK t σ H P:=h
theorem S9{ta tb:TE}(h:ta σ H λx H1=>∃c,x=.bl c/\if c=true then tb σ H1 Q else Q (.bl false) H1):CZ ta tb σ H Q:=h
theorem RO{ta tb:TE}(h:ta σ H λx H1=>∃c,x=.bl c/\if c=true then Q (.bl true) H1 else tb σ H1 Q):M9 ta tb σ H Q:=h
theorem RS{ta:TE}(h:ta σ H λx H1=>∃c,x=.bl c/\Q (.bl (!c)) H1):NA ta σ H Q:=h
theorem S5{b:Bool}{P:Bool->Prop}(h:P b):∃c,V.bl b=.bl c/\P c:=⟨b,rfl,h⟩
theorem RV{P:List V->Hp->Prop}(h:P [] H):CN σ H P:=h
theorem S0{ta:TE}{tr:TA}{P:List V->Hp->Prop}(h:ta σ H λx H1=>tr σ H1 λxs H2=>P (x::xs) H2):CW ta tr σ H P:=h
theorem RE{t:TA}(h:t σ H λxs H1=>xs.length<=sizeLine/\∀p,H1 p=none->Q (.ref p) (upd H1 p (.tup xs))):CF t σ H Q:=h
theorem SB{t:TA}(h:t σ H λxs H1=>xs.length<=sizeLine/\∀p,H1 p=none->Q (.ref p) (upd H1 p (.lst xs))):CQ t σ H Q:=h
theorem S3{sp:Sp}{dvs:List V}{E:XK}{t:TA}(h:t σ H λvs H1=>sp (vs++dvs) H1 Q E):CY sp dvs E t σ H Q:=h
theorem S2{r:List V->Hp->VK->Prop}{t:TA}(h:t σ H λvs H1=>r vs H1 Q):qU r t σ H Q:=h
theorem tY{p:Addr}{xs:List V}{i:Int}{v:V}(e:H p=some (.tup xs))(a:c5 xs i=some v)(h:Q v H):kD K (.ref p) (.int i) H Q:=⟨p,xs,i,v,rfl,rfl,.inr (SqT.of e),a,h⟩
theorem dX{p:Addr}{xs:List V}{i:Int}{v:V}(e:H p=some (.lst xs))(a:c5 xs i=some v)(h:Q v H):kD K (.ref p) (.int i) H Q:=⟨p,xs,i,v,rfl,rfl,.inl (SqL.of e),a,h⟩
theorem S1{r r':R2}{ta tb tc:TE}(h:ta σ H λx H1=>tb σ H1 λy H2=>r x y H2 λz H3=>∃k,z=.bl k/\(if k=true then tc σ H3 λw' H4=>r' y w' H4 Q else Q (.bl false) H3)):qT r r' ta tb tc σ H Q:=h
theorem iF{b:Bool}{A B:Prop}(h:b=true)(x:A):if b=true then A else B:=by rw[if_pos h];exact x
theorem bY{b:Bool}{A B:Prop}(h:b=false)(x:B):if b=true then A else B:=by rw[if_neg (by rw[h];exact afK)];exact x
theorem bK{b:Bool}{A B:Prop}(h1:b=true->A)(h0:b=false->B):if b=true then A else B:=by
 cases b with
 |true=>rw[if_pos rfl];exact h1 rfl
 |false=>rw[if_neg afK];exact h0 rfl
theorem SJ{x:V}(h:Q (.bl (decide (x=.non))) H):EK x .non H Q:=⟨rfl,h⟩
theorem RT{x:V}(h:Q (.bl (!decide (x=.non))) H):EH x .non H Q:=⟨rfl,h⟩
theorem SL{x:V}{d:PyData}(hx:Is H x d)(h:Q (.bl (isBoolD d)) H):kE [x,.ty "bool"] H Q:=⟨x,"bool",d,rfl,by decide,hx,by cases d <;> exact h⟩
theorem SK{x:V}{d:PyData}(hx:Is H x d)(h:Q (.bl (isIntD d)) H):kE [x,.ty "int"] H Q:=⟨x,"int",d,rfl,by decide,hx,by cases d <;> exact h⟩
theorem SH{x:V}{d:PyData}(hx:Is H x d)(h:Q (.bl (isTupD d)) H):kE [x,.ty "tuple"] H Q:=⟨x,"tuple",d,rfl,by decide,hx,by cases d <;> exact h⟩
theorem nM{x:V}{d:PyData}(hx:Is H x d)(h:Q (.bl (isLstD d)) H):kE [x,.ty "list"] H Q:=⟨x,"list",d,rfl,by decide,hx,by cases d <;> exact h⟩
theorem SI{x:V}{d:PyData}(hx:Is H x d)(h:Q (.bl (isStrD d)) H):kE [x,.ty "str"] H Q:=⟨x,"str",d,rfl,by decide,hx,by cases d <;> exact h⟩
theorem aaP{A B:Prop}(h:B):if(!true)=true then A else B:=lY h
theorem aaQ{A B:Prop}(h:A):if(!false)=true then A else B:=lX h
theorem kB{p:Addr}{bs:List Bool}(e:H p=some (.lst (bs.map V.bl)))(h:Q (.bl (bs.all id)) H):uH K [.ref p] H Q:=⟨p,bs,rfl,SqL.of e,h⟩
theorem S8{p:Addr}{bs:List Bool}(e:H p=some (.lst (bs.map V.bl)))(h:Q (.bl (bs.any id)) H):TN K [.ref p] H Q:=⟨p,bs,rfl,SqL.of e,h⟩
theorem R7{i j:Int}(h:Q (.int (if j>i then j else i)) H):TH [.int i,.int j] H Q:=⟨i,j,rfl,h⟩
theorem SM{k:Bool}(h:Q (.int (if k then 1 else 0)) H):TL [.bl k] H Q:=.inr ⟨k,rfl,h⟩
theorem RD{p:Addr}{ys:List V}(e:H p=some (.lst ys))(h:∀l,H l=none->Q (.ref l) (upd H l (.tup ys))):uA K [.ref p] H Q:=⟨p,ys,rfl,.inl ⟨SqL.of e,h⟩⟩
theorem SY{neg:Bool}{x y:V}{d e:PyData}(hx:Is H x d)(hy:Is H y e)(od:fL d)(oe:fL e)(h:Q (.bl (if neg then !PyData.eqv d e else agN d e)) H):jI neg x y H Q:=⟨d,e,hx,hy,od,oe,h⟩
theorem SX{x y:Int}(h:Q (.bl (x==y)) H):jI false (.int x) (.int y) H Q:=⟨.int x,.int y,.int x,.int y,⟨rfl,ae2 _⟩,⟨rfl,ae2 _⟩,h⟩
theorem RX{x y:Int}(h:Q (.bl (!(x==y))) H):jI true (.int x) (.int y) H Q:=⟨.int x,.int y,.int x,.int y,⟨rfl,ae2 _⟩,⟨rfl,ae2 _⟩,h⟩
theorem SZ{x y:Bool}(h:Q (.bl (x==y)) H):jI false (.bl x) (.bl y) H Q:=⟨.bool x,.bool y,.bl x,.bl y,⟨rfl,ae2 _⟩,⟨rfl,ae2 _⟩,h⟩
theorem RY{x y:Bool}(h:Q (.bl (!(x==y))) H):jI true (.bl x) (.bl y) H Q:=⟨.bool x,.bool y,.bl x,.bl y,⟨rfl,ae2 _⟩,⟨rfl,ae2 _⟩,h⟩
theorem D9{neg:Bool}{x y:V}{d:PyData}{ds:List PyData}(hx:Is H x d)(hy:Is H y (.tuple ds))(od:fL d)(oe:oG ds)(h:Q (.bl (if neg then !iE d ds else iE d ds)) H):jH neg x y H Q:=⟨d,ds,hx,.inl hy,od,oe,h⟩
theorem SD{p:Addr}{xs:List V}(e:H p=some (.tup xs))(h:Q (.int xs.length) H):kC K [.ref p] H Q:=⟨p,xs,rfl,.inr (SqT.of e),h⟩
theorem SE{p:Addr}{xs:List V}(e:H p=some (.lst xs))(h:Q (.int xs.length) H):kC K [.ref p] H Q:=⟨p,xs,rfl,.inl (SqL.of e),h⟩
end
section
variable{σ:St}{H:Hp}{Q:VK}{D:eK}{K:PySem.W.Frag}{R:It->Hp->Prop}
theorem SW{wi:TI}{g:TG}{tb:TS}(h:wi σ H λJ H1=>∃W:Nat->Nat->St->Hp->Prop,(∃m,W 0 m σ H1)/\∀i m σ H,W i m σ H->
 (J.stop i H/\D.nx σ H)\/(J.go i H/\∃N:St->Hp->Prop,(∀σ' H',N σ' H'->∃m',m'<m/\W (i+1) m' σ' H')/\∀x H',J.yld i H x H'->g x σ H' λσ2 H2=>tb { D with nx:=N,ct:=N,bk:=D.nx } σ2 H2)):CU wi g tb D σ H:=h
theorem SF{wi:TI}{fm:List (Option Nat)}{g:TG}{tt:TT}{te:TE}(h:wi σ H λJ H1=>∃W:Nat->Nat->List V->Hp->Prop,(∃m,W 0 m [] H1)/\∀i m ys H,W i m ys H->
 (J.stop i H/\∀p,H p=none->Q (.ref p) (upd H p (.lst ys)))\/
 (J.go i H/\ys.length<sizeLine/\∃N:List V->Hp->Prop,(∀ys' H',N ys' H'->∃m',m'<m/\W (i+1) m' ys' H')/\
  ∀x H',J.yld i H x H'->g x (bR fm σ) H' λσ2 H2=>tt σ2 H2 λok H3=>if ok=true then te σ2 H3 λv H4=>N (ys++[v]) H4 else N ys H3)):qS wi fm g tt te σ H Q:=h
theorem RL{ta:TA}(h:ta σ H λvs H1=>∃j:Int,vs=[.int j]/\-(2^62)<=j/\j<2^62/\R (fU 0 j.toNat) H1):HW ta σ H R:=h
theorem SG{tl:TE}(h:tl σ H λx H1=>∃a,x=.ref a/\(∃xs,SqT K H1 a xs)/\R (iP K a) H1):vQ K tl σ H R:=h
theorem SO{tl:TE}(h:tl σ H λx H1=>∃a,x=.ref a/\(∃xs,SqL K H1 a xs)/\R (iQ K a) H1):vR K tl σ H R:=h
theorem Q8{P:Bool->Hp->Prop}(h:P true H):CB σ H P:=h
theorem fY{n:Nat}{t:fD}{a:Addr}{xs:List V}{P:St->Hp->Prop}(e:H a=some (.tup xs))(l:xs.length=n)(h:t xs σ H P):pC K n t (.ref a) σ H P:=⟨a,xs,rfl,SqT.of e,l,h⟩
theorem SV{t:TG}{u:fD}{v:V}{r:List V}{P:St->Hp->Prop}(h:t v σ H λσ' H'=>u r σ' H' P):vX t u (v::r) σ H P:=⟨v,r,rfl,h⟩
theorem ST{P:St->Hp->Prop}(h:P σ H):vW [] σ H P:=⟨rfl,h⟩
end
theorem Same.upd{H:Hp}{l:Addr}{o:HO}(h:H l=none):Same H (upd H l o):=λb u e=>by rw[aD (aW e h)];exact e
theorem Same.tup{H H':Hp}(e:Same H H'){a:Addr}{xs:List V}(h:H a=some (.tup xs)):H' a=some (.tup xs):=e _ _ h
section
variable{X:Cx}
theorem aV(K:PySem.W.Frag)(h:X.K=K:=by rfl):IxR X (kD K):=h▸Z1
theorem cK(K:PySem.W.Frag)(h:X.K=K:=by rfl):CallR X (.builtin "len") (kC K):=h▸acD
theorem lW(K:PySem.W.Frag)(hc:X.calm=true:=by rfl)(h:X.K=K:=by rfl):CallR X (.builtin "all") (uH K):=h▸acE hc
theorem o5(K:PySem.W.Frag)(h:X.K=K:=by rfl):CallR X (.type "tuple") (uA K):=h▸acB
theorem ZX(K:PySem.W.Frag)(h:X.K=K:=by rfl):CallR X (.type "list") (uG K):=h▸acC
theorem ZN(K:PySem.W.Frag)(h:X.K=K:=by rfl):CallR X (.builtin "sorted") (EE K):=h▸abX
theorem HH(K:PySem.W.Frag)(hu:X.A.units<cLine)(h:X.K=K:=by rfl):OpR X (agD .Lt) (nR K):=h▸UU hu
theorem HF(K:PySem.W.Frag)(h:X.K=K:=by rfl):SlR X (uC K):=h▸PM
theorem i3(K:PySem.W.Frag){tg l:Expr}{tl:TE}(hl:PE X l tl)(h:X.K=K:=by rfl):PI X tg l (vQ K tl):=h▸UA hl
theorem dZ(K:PySem.W.Frag){tg l:Expr}{tl:TE}(hl:PE X l tl)(h:X.K=K:=by rfl):PI X tg l (vR K tl):=h▸UC hl
theorem gF(K:PySem.W.Frag){pos:Pos}{es:List Expr}{k:Nat}{t:fD}{n:Nat}(hc:X.calm=true)(hh:mO X es t)
  (hn:(assignEach es X.env).length=n:=by rfl) (hst:(assignEach es X.env).findIdx? (·.1)=none:=by rfl) (h:X.K=K:=by rfl):PG X (.Tuple es k pos) (pC K n t):=h▸UD hc hh hn hst
theorem eZ(K:PySem.W.Frag){o e:Expr}{es:List Expr}{to:TE}{t:TA}{name:Str}{apos cpos:Pos}{T id:String}{r:V->List V->Hp->VK->Prop}(pa:PlainAttrs T)(slot:Slot T name id)(hty:typeOf (.builtin id)=pure (.type "method_descriptor"))(hm:MtR X id r)(ho:PE X o to)(ha:PA X (e::es) t)
  (hbase:attributeBase o name X.env (eval o X.env)=eval o X.env:=by rfl)
  (hfew:((backTo cpos (af6 (e::es) X.env)).all (λx=> !x.1)&&(backToKw cpos (keywordEach [] X.env)).all (λx=>x.1.isSome)
   &&decide ((e::es).length+([]:List Keyword).length+(if([]:List Keyword).isEmpty then 0 else 1)<30))=true:=by rfl)
  (hline:(apos.endLine==cpos.line)=true:=by rfl) (hs:af6 (e::es) X.env=(false,eval e X.env)::af6 es X.env:=by rfl) (hplain:(backTo cpos (af6 es X.env)).any (·.1)=false:=by rfl) (h:X.K=K:=by rfl):
  PE X (.Call (.Attribute o name apos) (e::es) [] cpos) (qV K T r to t):=h▸UM pa slot hty hm ho ha hbase hfew hline hs hplain
end
section
variable{σ:St}{H:Hp}{Q:VK}{D:eK}{K:PySem.W.Frag}
theorem R8{a b:Addr}{i j k l:Int}(h1:H a=some (.tup [.int i,.int j]))(h2:H b=some (.tup [.int k,.int l]))(h:Q (.bl (HT.lexLt [i,j] [k,l])) H):nR K (.ref a) (.ref b) H Q:=
 ⟨a,b,[i,j],[k,l],rfl,rfl,SqT.of h1,SqT.of h2,h⟩
theorem S4{T:String}{r:V->List V->Hp->VK->Prop}{to:TE}{t:TA}(h:to σ H λx H1=>mX K T x H1/\t σ H1 λxs H2=>r x xs H2 Q):qV K T r to t σ H Q:=h
theorem fZ{l:Addr}{xs:List V}{v:V}(e:H l=some (.lst xs))(hz:xs.length<sizeLine)(h:Q .non (upd H l (.lst (xs++[v])))):EQ (.ref l) [v] H Q:=⟨l,xs,v,rfl,rfl,e,hz,h⟩
theorem eO{l:Addr}{xs:List V}(e:H l=some (.lst xs)):mX K "list" (.ref l) H:=.inl ⟨rfl,_,SqL.of e⟩
end
theorem aaM{A B:Prop}(h:A):if decide (V.non=V.non)=true then A else B:=by rw[decide_eq_true rfl];exact lX h
theorem aaK{a:Addr}{A B:Prop}(h:B):if decide (V.ref a=V.non)=true then A else B:=by rw[decide_eq_false (λz=>nomatch z)];exact lY h
theorem aaO{a:Int}{A B:Prop}(h:B):if decide (V.int a=V.non)=true then A else B:=by rw[decide_eq_false (λz=>nomatch z)];exact lY h
theorem aaL{A B:Prop}(h:B):if(!decide (V.non=V.non))=true then A else B:=by rw[decide_eq_true rfl];exact lY h
theorem aaJ{a:Addr}{A B:Prop}(h:A):if(!decide (V.ref a=V.non))=true then A else B:=by rw[decide_eq_false (λz=>nomatch z)];exact lX h
theorem aaN{a:Int}{A B:Prop}(h:A):if(!decide (V.int a=V.non))=true then A else B:=by rw[decide_eq_false (λz=>nomatch z)];exact lX h
section
variable{σ:St}{H:Hp}{Q:VK}{D:eK}
theorem Q9{c:TT}{tb:TS}(h:∃W:Nat->St->Hp->Prop,(∃m,W m σ H)/\∀m σ H,W m σ H->c σ H λb H1=>if b=true then ∃N:St->Hp->Prop,(∀σ' H',N σ' H'->∃m',m'<m/\W m' σ' H')/\tb { D with nx:=N,ct:=N,bk:=D.nx } σ H1 else D.nx σ H1):CC c tb D σ H:=h
theorem SS{to ti:TE}{t:pR}{v:V}{P:St->Hp->Prop}(h:to σ H λo H1=>ti σ H1 λi H2=>t o i v H2 λH3=>P σ H3):IC to ti t v σ H P:=h
theorem Z2{n j:Nat}{k:Int}(hk:k=(j:Int))(hj:j<n):e7 n k=some j:=by
 subst hk;unfold e7;rw[if_pos (Int.natCast_nonneg _),if_pos (by lia),ae6]
theorem tW{p:Addr}{xs:List V}{k:Int}{j:Nat}{v:V}{P:Hp->Prop}(e:H p=some (.lst xs))(hk:k=(j:Int))(hj:j<xs.length)(h:P (upd H p (.lst (xs.set j v)))):EF (.ref p) (.int k) v H P:=⟨p,xs,k,j,rfl,rfl,e,Z2 hk hj,h⟩
theorem DV{α:Type}(x:α):∀n:Nat,(replicate n [x]).flatten=replicate n x
 |0=>rfl
 |n+1=>by rw[replicate_succ,flatten_cons,DV x n];rfl
theorem D0{l:Addr}{v:V}{n:Nat}(e:H l=some (.lst [v]))(hn:n<=1000)(h:∀p,H p=none->Q (.ref p) (upd H p (.lst (replicate n v)))):EG (.ref l) (.int n) H Q:=
 ⟨l,n,[v],rfl,rfl,e,by lia,by lia,by rw[ae6];have:=dU hn;simp;lia,λp hp=>by rw[ae6,DV];exact h p hp⟩
end
section
variable{H:Hp}{K:PySem.W.Frag}
theorem fN{lo:Int}{n:Nat}{G:List V->Hp->Prop}{B:(List V->Hp->Prop)->List V->V->Hp->Prop}(hn:n<=sizeLine)(Pv:Nat->List V->Hp->Prop)(h0:Pv 0 [] H)(hlen:∀i ys H,Pv i ys H->ys.length<=i)
  (hs:∀i ys H,i<n->Pv i ys H->B (Pv (i+1)) ys (.int (lo+i)) H) (hd:∀ys H,Pv n ys H->G ys H):
  ∃W:Nat->Nat->List V->Hp->Prop,(∃m,W 0 m [] H)/\∀i m ys H,W i m ys H->((fU lo n).stop i H/\G ys H)\/((fU lo n).go i H/\ys.length<sizeLine/\
   ∃N:List V->Hp->Prop,(∀ys' H',N ys' H'->∃m',m'<m/\W (i+1) m' ys' H')/\∀x H',(fU lo n).yld i H x H'->B N ys x H'):=by
 refine⟨λi m ys H=>m=n-i/\i<=n/\Pv i ys H,⟨n,by simp,ae2 _,h0⟩,?_⟩;rintro i m ys H ⟨rfl,hi,p⟩;have hl:=hlen i ys H p;by_cases hlt:i<n
 ·refine .inr ⟨hlt,by lia,Pv (i+1),λys' H' p'=>⟨n-(i+1),by lia,rfl,hlt,p'⟩,λx H' y=>?_⟩;obtain⟨e,y⟩:=y;subst e y;exact hs i ys _ hlt p
 ·have e:i=n:=by lia
  subst e;exact .inl ⟨aeU _,hd ys H p⟩
theorem lO{a:Addr}{xs:List V}{G:List V->Hp->Prop}{B:(List V->Hp->Prop)->List V->V->Hp->Prop}(hn:xs.length<=sizeLine)(Pv:Nat->List V->Hp->Prop)(h0:Pv 0 [] H)(hlen:∀i ys H,Pv i ys H->ys.length<=i)
  (hl:∀i ys H,i<=xs.length->Pv i ys H->SqT K H a xs) (hs:∀i x ys H,xs[i]? =some x->Pv i ys H->B (Pv (i+1)) ys x H) (hd:∀ys H,Pv xs.length ys H->G ys H):
  ∃W:Nat->Nat->List V->Hp->Prop,(∃m,W 0 m [] H)/\∀i m ys H,W i m ys H->((iP K a).stop i H/\G ys H)\/((iP K a).go i H/\ys.length<sizeLine/\
   ∃N:List V->Hp->Prop,(∀ys' H',N ys' H'->∃m',m'<m/\W (i+1) m' ys' H')/\∀x H',(iP K a).yld i H x H'->B N ys x H'):=by
 refine⟨λi m ys H=>m=xs.length-i/\i<=xs.length/\Pv i ys H,⟨xs.length,by simp,ae2 _,h0⟩,?_⟩;rintro i m ys H ⟨rfl,hi,p⟩;have hly:=hlen i ys H p;have q:=hl i ys H hi p;by_cases hlt:i<xs.length
 ·refine .inr ⟨⟨xs,xs[i],q,by simp[hlt]⟩,by lia,Pv (i+1),λys' H' p'=>⟨xs.length-(i+1),by lia,rfl,hlt,p'⟩,λx H' y=>?_⟩;obtain⟨e,y⟩:=y;subst e;exact hs i x ys _ (y xs q) p
 ·have e:i=xs.length:=by lia
  subst e;exact .inl ⟨⟨xs,q,aeU _⟩,hd ys H p⟩
theorem gE{a:Addr}{xs:List V}{G:List V->Hp->Prop}{B:(List V->Hp->Prop)->List V->V->Hp->Prop}(hn:xs.length<=sizeLine)(Pv:Nat->List V->Hp->Prop)(h0:Pv 0 [] H)(hlen:∀i ys H,Pv i ys H->ys.length<=i)
  (hl:∀i ys H,i<=xs.length->Pv i ys H->SqL K H a xs) (hs:∀i x ys H,xs[i]? =some x->Pv i ys H->B (Pv (i+1)) ys x H) (hd:∀ys H,Pv xs.length ys H->G ys H):
  ∃W:Nat->Nat->List V->Hp->Prop,(∃m,W 0 m [] H)/\∀i m ys H,W i m ys H->((iQ K a).stop i H/\G ys H)\/((iQ K a).go i H/\ys.length<sizeLine/\
   ∃N:List V->Hp->Prop,(∀ys' H',N ys' H'->∃m',m'<m/\W (i+1) m' ys' H')/\∀x H',(iQ K a).yld i H x H'->B N ys x H'):=by
 refine⟨λi m ys H=>m=xs.length-i/\i<=xs.length/\Pv i ys H,⟨xs.length,by simp,ae2 _,h0⟩,?_⟩;rintro i m ys H ⟨rfl,hi,p⟩;have hly:=hlen i ys H p;have q:=hl i ys H hi p;by_cases hlt:i<xs.length
 ·refine .inr ⟨⟨xs,xs[i],q,by simp[hlt]⟩,by lia,Pv (i+1),λys' H' p'=>⟨xs.length-(i+1),by lia,rfl,hlt,p'⟩,λx H' y=>?_⟩;obtain⟨e,y⟩:=y;subst e;exact hs i x ys _ (y xs q) p
 ·have e:i=xs.length:=by lia
  subst e;exact .inl ⟨⟨xs,q,aeU _⟩,hd ys H p⟩
theorem dQ{σ:St}{lo:Int}{n:Nat}{G:St->Hp->Prop}{B:(St->Hp->Prop)->V->St->Hp->Prop}(Pv:Nat->St->Hp->Prop)(h0:Pv 0 σ H)(hs:∀i σ H,i<n->Pv i σ H->B (Pv (i+1)) (.int (lo+i)) σ H)(hd:∀σ H,Pv n σ H->G σ H):
  ∃W:Nat->Nat->St->Hp->Prop,(∃m,W 0 m σ H)/\∀i m σ H,W i m σ H->((fU lo n).stop i H/\G σ H)\/((fU lo n).go i H/\
   ∃N:St->Hp->Prop,(∀σ' H',N σ' H'->∃m',m'<m/\W (i+1) m' σ' H')/\∀x H',(fU lo n).yld i H x H'->B N x σ H'):=by
 refine⟨λi m σ H=>m=n-i/\i<=n/\Pv i σ H,⟨n,by simp,ae2 _,h0⟩,?_⟩;rintro i m σ H ⟨rfl,hi,p⟩;by_cases hlt:i<n
 ·refine .inr ⟨hlt,Pv (i+1),λσ' H' p'=>⟨n-(i+1),by lia,rfl,hlt,p'⟩,λx H' y=>?_⟩;obtain⟨e,y⟩:=y;subst e y;exact hs i σ _ hlt p
 ·have e:i=n:=by lia
  subst e;exact .inl ⟨aeU _,hd σ H p⟩
theorem vZ{σ:St}{a:Addr}{xs:List V}{G:St->Hp->Prop}{B:(St->Hp->Prop)->V->St->Hp->Prop}(Pv:Nat->St->Hp->Prop)(h0:Pv 0 σ H)(hl:∀i σ H,i<=xs.length->Pv i σ H->SqT K H a xs)
  (hs:∀i x σ H,xs[i]? =some x->Pv i σ H->B (Pv (i+1)) x σ H) (hd:∀σ H,Pv xs.length σ H->G σ H):
  ∃W:Nat->Nat->St->Hp->Prop,(∃m,W 0 m σ H)/\∀i m σ H,W i m σ H->((iP K a).stop i H/\G σ H)\/((iP K a).go i H/\
   ∃N:St->Hp->Prop,(∀σ' H',N σ' H'->∃m',m'<m/\W (i+1) m' σ' H')/\∀x H',(iP K a).yld i H x H'->B N x σ H'):=by
 refine⟨λi m σ H=>m=xs.length-i/\i<=xs.length/\Pv i σ H,⟨xs.length,by simp,ae2 _,h0⟩,?_⟩;rintro i m σ H ⟨rfl,hi,p⟩;have q:=hl i σ H hi p;by_cases hlt:i<xs.length
 ·refine .inr ⟨⟨xs,xs[i],q,by simp[hlt]⟩,Pv (i+1),λσ' H' p'=>⟨xs.length-(i+1),by lia,rfl,hlt,p'⟩,λx H' y=>?_⟩;obtain⟨e,y⟩:=y;subst e;exact hs i x σ _ (y xs q) p
 ·have e:i=xs.length:=by lia
  subst e;exact .inl ⟨⟨xs,q,aeU _⟩,hd σ H p⟩
theorem pD{σ:St}{a:Addr}{xs:List V}{G:St->Hp->Prop}{B:(St->Hp->Prop)->V->St->Hp->Prop}(Pv:Nat->St->Hp->Prop)(h0:Pv 0 σ H)(hl:∀i σ H,i<=xs.length->Pv i σ H->SqL K H a xs)
  (hs:∀i x σ H,xs[i]? =some x->Pv i σ H->B (Pv (i+1)) x σ H) (hd:∀σ H,Pv xs.length σ H->G σ H):
  ∃W:Nat->Nat->St->Hp->Prop,(∃m,W 0 m σ H)/\∀i m σ H,W i m σ H->((iQ K a).stop i H/\G σ H)\/((iQ K a).go i H/\
   ∃N:St->Hp->Prop,(∀σ' H',N σ' H'->∃m',m'<m/\W (i+1) m' σ' H')/\∀x H',(iQ K a).yld i H x H'->B N x σ H'):=by
 refine⟨λi m σ H=>m=xs.length-i/\i<=xs.length/\Pv i σ H,⟨xs.length,by simp,ae2 _,h0⟩,?_⟩;rintro i m σ H ⟨rfl,hi,p⟩;have q:=hl i σ H hi p;by_cases hlt:i<xs.length
 ·refine .inr ⟨⟨xs,xs[i],q,by simp[hlt]⟩,Pv (i+1),λσ' H' p'=>⟨xs.length-(i+1),by lia,rfl,hlt,p'⟩,λx H' y=>?_⟩;obtain⟨e,y⟩:=y;subst e;exact hs i x σ _ (y xs q) p
 ·have e:i=xs.length:=by lia
  subst e;exact .inl ⟨⟨xs,q,aeU _⟩,hd σ H p⟩
end
noncomputable def EM(K:PySem.W.Frag):R2:=λx y H Q=>∃p q ns,x=.ref p/\y=.ref q/\SqL K H p (ns.map V.int)/\SqL K H q []/\Q (.bl (decide (ns=[]))) H
theorem UX{X:Cx}(hu:X.A.units<cLine):OpR X (agD .Eq) (EM X.K):=by
 intro pins s σ H x y v u Q I rx ry h;obtain⟨p,q,ns,rfl,rfl,h1,h2,hq⟩:=h;cases(show v=af4 p from rx);cases(show u=af4 q from ry);obtain⟨its,r1,p1,_⟩:=I.list h1;obtain⟨its2,r2,p2,_⟩:=I.list h2;have e2:its2=[]:=by cases r2;rfl
 subst e2;have hl:=r1.length;rw[length_map]at hl
 match ns,hl with
 | [],hl=>
  have e1:its=[]:=by
   have:its.length=0:=by simpa using hl.symm
   exact length_eq_zero_iff.mp this
  subst e1
  exact SeqAt.eq_listAt (e:=λ_=>true) p1.isList p2.isList rfl hu (λj g _=>absurd g (Nat.not_lt_zero _)) ⟨.bl true,H,I,rfl,hq⟩
 |n::ns,hl=>
  refine SeqAt.eq_list_lengthsAt p1.isList p2.isList ?_ hu ⟨.bl false,H,I,rfl,hq⟩;have:its.length=ns.length+1:=by simpa using hl.symm
  simp[this]
theorem ZY{X:Cx}(K:PySem.W.Frag)(hu:X.A.units<cLine)(h:X.K=K:=by rfl):OpR X (agD .Eq) (EM K):=h▸UX hu
section
variable{σ:St}{H:Hp}{Q:VK}{K:PySem.W.Frag}
theorem RK{ta:TA}{R:It->Hp->Prop}(h:ta σ H λvs H1=>∃i j:Int,vs=[.int i,.int j]/\(-(2^62)<=i/\i<2^62/\-(2^62)<=j/\j<2^62)/\R (fU i (j-i).toNat) H1):HV ta σ H R:=h
theorem D4{p:Addr}{xs:List V}(e:SqL K H p xs)(h:Q (.int xs.length) H):kC K [.ref p] H Q:=⟨p,xs,rfl,.inl e,h⟩
theorem D5{p:Addr}{xs:List V}{i:Int}{v:V}(e:SqL K H p xs)(a:c5 xs i=some v)(h:Q v H):kD K (.ref p) (.int i) H Q:=⟨p,xs,i,v,rfl,rfl,.inl e,a,h⟩
theorem nN{l b:Addr}{xs zs:List V}(e:H l=some (.lst xs))(e2:H b=some (.lst zs))(hz:xs.length+zs.length<=sizeLine)(h:Q .non (upd H l (.lst (xs++zs)))):EL (.ref l) [.ref b] H Q:=⟨l,b,xs,zs,rfl,rfl,e,e2,hz,h⟩
end
noncomputable def Scr(K:PySem.W.Frag)(H:Hp)(a:Addr)(ns:List Int):Prop:=(∃o,H a=some (.frz o (.lst (ns.map V.int))))\/
 ∃(o:Obj)(its:Array Value)(n:Nat),K.lookup a=some o/\o.cls=.type "list"/\o.dict=none/\o.data=.seq its n/\its.size<=sizeLine/\Vals (ns.map V.int) its.toList
theorem Scr.sq{K:PySem.W.Frag}{H:Hp}{a:Addr}{ns:List Int}(h:Scr K H a ns):SqL K H a (ns.map V.int):=by
 rcases h with⟨o,h⟩|h
 ·exact .inl (.inr ⟨o,h⟩)
 ·exact .inr h
theorem Scr.of{K:PySem.W.Frag}{H:Hp}{a:Addr}{ns:List Int}(hO:aeK H)(h:SqL K H a (ns.map V.int)):Scr K H a ns:=by
 rcases h with(h|⟨o,h⟩)|h
 ·rcases hO a with g|⟨o,xs,g⟩
  ·rw[g]at h;cases h
  ·rw[g]at h;cases h
 ·exact .inl ⟨o,h⟩
 ·exact .inr h
noncomputable def SameT(w:Addr)(H H':Hp):Prop:=∀b u,H b=some u->b≠w->H' b=some u
theorem SameT.refl(w:Addr)(H:Hp):SameT w H H:=λ_ _ h _=>h
theorem SameT.trans{w:Addr}{H H1 H2:Hp}(a:SameT w H H1)(b:SameT w H1 H2):SameT w H H2:=λc u h g=>b c u (a c u h g) g
theorem Same.t{w:Addr}{H H':Hp}(h:Same H H'):SameT w H H':=λb u e _=>h b u e
theorem Scr.t{K:PySem.W.Frag}{H H':Hp}{w a:Addr}{ns:List Int}{ts:List V}(hw:H w=some (.lst ts))(s:SameT w H H')(h:Scr K H a ns):Scr K H' a ns:=by
 rcases h with⟨o,h⟩|h
 ·exact .inl ⟨o,s _ _ h (bJ h hw (by intro z;cases z))⟩
 ·exact .inr h
theorem Scr.same{K:PySem.W.Frag}{H H':Hp}{a:Addr}{ns:List Int}(s:Same H H')(h:Scr K H a ns):Scr K H' a ns:=by
 rcases h with⟨o,h⟩|h
 ·exact .inl ⟨o,s _ _ h⟩
 ·exact .inr h
noncomputable def EN:R2:=λx y H Q=>∃a b xs ys,x=.ref a/\y=.ref b/\H a=some (.tup xs)/\H b=some (.tup ys)/\xs.length+ys.length<=sizeLine/\∀r H',Same H H'->H' r=some (.tup (xs++ys))->Q (.ref r) H'
theorem uP{X:Cx}:OpR X (binaryOp .Add) EN:=by
 intro pins s σ H x y v u Q I rx ry h;obtain⟨a,b,xs,ys,rfl,rfl,ha,hb,hz,q⟩:=h;by_cases hx:xs=[]
 ·subst hx;cases(show v=af4 a from rx);cases(show u=af4 b from ry);obtain⟨its,r1,p1,_⟩:=I.tuple (SqT.of ha);obtain⟨its2,r2,p2,_⟩:=I.tuple (SqT.of hb);obtain⟨⟨cls,dd,data,sl⟩,ho,hc,n,hd⟩:=p1;obtain⟨⟨cls2,dd2,data2,sl2⟩,ho2,hc2,n2,hd2⟩:=p2;simp only at hc hd hc2 hd2;subst hc hd hc2 hd2;have e0:its=[]:=r1.nil_iff.mpr rfl
  exact concat_meets ⟨_,ho,rfl⟩ ⟨_,ho2,rfl⟩ noFill_tuple_add seq_tuple_add PySem.F.slot_tuple_add PySem.F.entry_tuple_add (PySem.F.args_tuple_add_2 _ _)
   (tuple_addW0 a b its.toArray its2.toArray n n2 dd dd2 sl sl2 (by simp[e0])) ⟨ho,ho2,⟨.ref b,H,I,rfl,q b H (Same.refl H) hb⟩⟩
 ·refine UY pins s σ H _ _ v u Q I rx ry ⟨a,b,xs,ys,rfl,rfl,SqT.of ha,SqT.of hb,hx,hz,λe=>?_,λe p hp=>?_⟩
  ·subst e;exact q a H (Same.refl H) (by rw[append_nil];exact ha)
  ·exact q p _ (λb u e=>by rw[aD (aW e hp)];exact e) aB
section
variable{σ:St}{H:Hp}{Q:VK}{D:eK}{K:PySem.W.Frag}
theorem SR{t:TT}{ta tb:TE}(h:t σ H λc H1=>if c=true then ta σ H1 Q else tb σ H1 Q):CT t ta tb σ H Q:=h
theorem tZ{a b:Addr}{xs ys:List V}(ha:H a=some (.tup xs))(hb:H b=some (.tup ys))(hz:xs.length+ys.length<=sizeLine)(h:∀r H',Same H H'->H' r=some (.tup (xs++ys))->Q (.ref r) H'):EN (.ref a) (.ref b) H Q:=
 ⟨a,b,xs,ys,rfl,rfl,ha,hb,hz,h⟩
theorem EB{a b:Addr}{xs ys:List V}(ha:H a=some (.lst xs))(hb:H b=some (.lst ys))(hz:xs.length+ys.length<=sizeLine)(h:∀p,H p=none->Q (.ref p) (upd H p (.lst (xs++ys)))):EO (.ref a) (.ref b) H Q:=
 ⟨a,b,xs,ys,rfl,rfl,ha,hb,hz,h⟩
theorem SA{p:Addr}{ys:List V}(e:H p=some (.lst ys))(h:∀l,H l=none->Q (.ref l) (upd H l (.lst ys))):uG K [.ref p] H Q:=⟨p,ys,rfl,.inl (SqL.of e),h⟩
end
end L2
namespace Nt
section
variable{n:Nat}{R:Nat->Nat->Prop}
noncomputable def p8(n:Nat)(R:Nat->Nat->Prop)(s:Int)(x:Nat->Int):Prop:=∀i j,i<n->j<n->(x j-x i>=s<->R i j)
structure TP (n:Nat) (R:Nat->Nat->Prop) (s:Int) (x:Nat->Int) (N:Nat) (v:Nat->Nat) (k:Nat->Bool):Prop where
 lt:∀t,t<=N->v t<n
 st:x (v 0)=0
 up:∀t,t<N->k t=true->R (v t) (v (t+1))/\x (v (t+1))=x (v t)+s
 dn:∀t,t<N->k t=false->¬R (v (t+1)) (v t)/\x (v (t+1))=x (v t)+1-s
noncomputable def D(k:Nat->Bool):Nat->Int
 |0=>0
 |t+1=>D k t+(if k t=true then 1 else -1)
noncomputable def Mc(k:Nat->Bool):Nat->Int
 |0=>0
 |t+1=>Mc k t+(if k t=true then 0 else 1)
theorem dm(k:Nat->Bool):∀t:Nat,D k t+2*Mc k t=t
 |0=>rfl
 |t+1=>by
  have:=dm k t;simp only[D,Mc];split <;> lia
theorem met(f:Nat->Int)(c:Int):∀m:Nat,f 0<c->c<=f m->(∀j,f (j+1)<=f j+1)->∃j,j<=m/\f j=c
 |0,h1,h2,_=>by lia
 | m+1,h1,h2,h3=>by
  by_cases h:c<=f m
  ·obtain⟨j,a,b⟩:=met f c m h1 h h3;exact⟨j,by lia,b⟩
  ·have:=h3 m;exact⟨m+1,aeU _,by lia⟩
theorem WI{s:Int}{x:Nat->Int}(h:p8 n R s x){a b c d:Nat}(ha:a<n)(hb:b<n)(hc:c<n)(hd:d<n)(h1:R a b)(h2:R c d)(h3:¬R a d)(h4:¬R c b):False:=by
 have g1:=(h a b ha hb).mpr h1;have g2:=(h c d hc hd).mpr h2;have g3:¬(x d-x a>=s):=λz=>h3 ((h a d ha hd).mp z);have g4:¬(x b-x c>=s):=λz=>h4 ((h c b hc hb).mp z);lia
theorem WJ{s:Int}{x:Nat->Int}(h:p8 n R s x){a b c d:Nat}(ha:a<n)(hb:b<n)(hc:c<n)(hd:d<n)(h1:R a b)(h2:R b c)(h3:¬R a d)(h4:¬R d c):False:=by
 have g1:=(h a b ha hb).mpr h1;have g2:=(h b c hb hc).mpr h2;have g3:¬(x d-x a>=s):=λz=>h3 ((h a d ha hd).mp z);have g4:¬(x c-x d>=s):=λz=>h4 ((h d c hd hc).mp z);lia
end
theorem pK{p q:Nat->Bool}:∀{l:List Nat}{v:Nat},(∀i∈l,p i=true->q i=true)->v∈l->p v=false->q v=true->l.countP p<l.countP q
 |[],v,_,hv,_,_=>by cases hv
 | a::l,v,h,hv,h1,h2=>by
  have le:∀m:List Nat,(∀i∈m,p i=true->q i=true)->m.countP p<=m.countP q:=λm=>by
   induction m with
   |nil=>intro _;exact aeU _
   |cons b m ih=>
    intro g;have i1:=ih λi hi=>g i (mem_cons_of_mem _ hi);have i2:=g b mem_cons_self;simp only[countP_cons]
    cases hb:p b with
    |true=>rw[i2 hb];simp;exact i1
    |false=>simp;lia
  simp only[countP_cons];by_cases e:v=a
  ·subst e;have i1:=le l λi hi=>h i (mem_cons_of_mem _ hi);rw[h1,h2];simp;lia
  ·have hv':v∈l:=by
    rcases mem_cons.mp hv with g|g
    ·exact absurd g e
    ·exact g
   have ih:=pK (l:=l) (λi hi=>h i (mem_cons_of_mem _ hi)) hv' h1 h2;have i2:=h a mem_cons_self
   cases ha:p a with
   |true=>rw[i2 ha];simp;exact ih
   |false=>simp;lia
end Nt
namespace L2
open PySem PySem.Spec PyProof.Rows
noncomputable def C2(h:Heap)(e:Addr)(v:Value):Prop:=∃oe vs,h.get? e=some oe/\oe.data=.fields vs/\vs[2]? =some v
theorem C2.of{h h':Heap}{e:Addr}{v:Value}(c:C2 h e v)(k:h'.get? e=h.get? e):C2 h' e v:=by
 obtain⟨oe,vs,a,b,d⟩:=c;exact⟨oe,vs,k.trans a,b,d⟩
section
variable{M:Model}{A:afU}{E:Value->aeV->Prop}{s:aeV}{base:Heap}{l:List Env}{env:Env}{outer:List Env}{e L:Addr}{cls a0 fl:Value}{Q:Unit->aeV->Prop}
structure Moved (base:Heap) (l:List Env) (e:Addr) (cls a0 fl:Value) (h h':Heap):Prop where
 stays:base.StaysIn h'
 fun_:h'.FunFrames base l
 tr:h'.TracedAtW base e cls a0 fl
 up:h.UpToSlots h'
 c2:∀v,C2 h e v->C2 h' e v
end
structure XEnd (P:afL) (w:agC) (outer:List Env) (H:Hp) (s:aeV) (e C t:Addr) (H':Hp) (B:Heap) (s':aeV):Prop where
 os:s'.os=s.os
 bare:AllBare s'.gens
 un:Un (cV outer) [] H H' s.heap s'.heap
 cov:∀b o,s.heap.get? b=some o->H b=none->b∉cV outer->B.get? b=some o
 thr:∀b o,s.heap.get? b=some o->b∉cV outer->∃o',B.get? b=some o'
 hok:HOk P w H' B
 fl:Heap.FlyingW B outer e (.ref C) (.ref t) s'.heap
section
variable{CX:eB}{P:afL}{w:agC}{K:PySem.W.Frag}{mg:Str->Option Value}{base:Heap}{N:List Str}{qual:Str}{scope:Scope}{f:Addr}{cd:Value}{A:afU}{outer:List Env}{s₀:aeV}{H₀:Hp}{E:XK}
 {pins:List (Addr×Obj)} {σ:St} {H:Hp} {s:aeV}
abbrev bmV:List Value:=[.type "ValueError",.type "Exception",.type "BaseException",.type "object"]
noncomputable def M8(E:XK)(C:Addr)(t:TA):TS:=λ_ σ H=>t σ H λvs H1=>vs.length<=sizeLine/\E (.ref C) none H1
end
section
variable{P:afL}{w:agC}{l:List Env}{H H':Hp}{s s':aeV}{e C t:Addr}{B h':Heap}
theorem XEnd.new(x:XEnd P w l H s e C t H' B s'):s.heap.get? e=none:=by
 cases q:s.heap.get? e with
 |none=>rfl
 | some o=>
  exfalso;by_cases nb:e∈cV l
  ·obtain⟨_,o3,e3,d3⟩:=x.fl.2.2.1.mem nb;obtain⟨oe,vs,he,_,hd,_⟩:=x.fl.first
   rw[e3]at he;cases he;exact d3 vs hd
  ·obtain⟨o',e1⟩:=x.thr e o q nb;rw[x.fl.2.1]at e1;cases e1
theorem XEnd.free(x:XEnd P w l H s e C t H' B s'):H' e=none:=by
 cases q:H' e with
 |none=>rfl
 |some o=>
  obtain⟨u,e1⟩:=(x.hok e o q).there;rw[x.fl.2.1]at e1;cases e1
end
section
variable{X:Cx}{pins:List (Addr×Obj)}{σ:St}{H H':Hp}{s s':aeV}{e C t:Addr}{B:Heap}
noncomputable abbrev Cx.pinned(X:Cx)(pn:List (Addr×Obj))(E1:Value->aeV->Prop):Cx:={ X with pn:=pn,xe:=E1 }
theorem Inv.unpn1{E1:Value->aeV->Prop}{pins':List (Addr×Obj)}(I:Inv (X.pinned (X.pn++pins) E1) pins' σ H s):Inv X pins σ H s:=
 ⟨⟨I.ok.mod,I.ok.kind,I.ok.glob,I.ok.blt,I.ok.above,I.ok.inj,I.ok.has,I.ok.cab,I.ok.hd,I.ok.frames,I.ok.stk,I.ok.exf,I.ok.bs,I.ok.bsz,I.ok.noex,I.ok.exfs,I.ok.funs,I.ok.frf⟩,I.os,I.bare,I.base,I.loc,I.cell,I.free,I.freeC,λp hp=>I.pin p (mem_append_left _ hp),I.hok,I.len⟩
theorem SP.unpinned{E1:Value->aeV->Prop}{pins':List (Addr×Obj)}{D:eK}{f:Flow}(h:SP (X.pinned (X.pn++pins) E1) pins' D f s'):SP X pins D f s':=by
 cases f with
 |next=>obtain⟨σ',H',I,q⟩:=h;exact⟨σ',H',I.unpn1,q⟩
 |brk=>obtain⟨σ',H',I,q⟩:=h;exact⟨σ',H',I.unpn1,q⟩
 |cont=>obtain⟨σ',H',I,q⟩:=h;exact⟨σ',H',I.unpn1,q⟩
 |ret u=>obtain⟨v,σ',H',I,r,q⟩:=h;exact⟨v,σ',H',I.unpn1,r,q⟩
end
structure aeR (K:PySem.W.Frag) (C:Addr):Prop where
 exc:PySem.W.excIn K C bmV "ValueError.__new__"=true
 ga:ahU K (.ref C) "__getattribute__"=some (some (.builtin "BaseException.__getattribute__"))
 gn:ahU K (.ref C) "__getattr__"=some none
 gc:ahU K (.ref C) "__class__"=some (some (.builtin "object.__class__"))
 sb:PySem.W.subIn K (.ref C) (.type "BaseException")=some true
 so:PySem.W.subIn K (.ref C) (.type "object")=some true
 cl:∃cd,PySem.W.clsIn K C=some cd
section
variable{prog:afL}{w:agC}{A:afU}{E:Value->aeV->Prop}{h:Heap}{g:Array GenState}{d:Drawn}{t:Nat}{os:OsState}{a C:Addr}{o:Obj}{K:PySem.W.Frag}
end
section
variable{X:Cx}
end
structure RoomH (k:Nat) (A:afU):Prop where
 dp:A.depth+3*k+5<recursionLimit
 un:A.units+16*k+200<cLine
theorem RoomH.mono{j k:Nat}{A:afU}(r:RoomH k A)(h:j<=k):RoomH j A:=⟨by have:=r.dp;lia,by have:=r.un;lia⟩
theorem RoomH.deeper{k:Nat}{A:afU}(r:RoomH (k+1) A)(env:Env):RoomH k (A.deeper env):=⟨by have:=r.dp;show A.depth+1+3*k+5<_;lia,by have:=r.un;show A.units+3+16*k+200<_;lia⟩
theorem RoomH.units{k:Nat}{A:afU}(r:RoomH k A):A.units+64<cLine:=by have:=r.un;lia
theorem RoomH.units0{k:Nat}{A:afU}(r:RoomH k A):A.units<cLine:=by have:=r.un;lia
structure aeQ (P:afL) (w:agC) (K:PySem.W.Frag) (mg:Str->Option Value) (base:Heap) (k:Nat) (f:Addr) (fd:afD) (ps:List Str) (sp:Sp):Prop where
 len:∀vs H Q E,sp vs H Q E->vs.length=ps.length
 run:∀(A:afU)(outer:List Env)(s:aeV)(H:Hp)(args:Args)(us:List Value)(vs:List V)(Q:VK),RoomH k A->Env0 P w K mg base A outer s H->BindsTo s fd args (ps.zip us)->Vals vs us->sp vs H Q E0->
  codeAny (afT P w) A (.call (.ref f) args) (CR aM outer P w H s Q E0) s
section
variable{P:afL}{w:agC}{K:PySem.W.Frag}{mg:Str->Option Value}{base:Heap}
end
section
variable{X:Cx}{k:Nat}{f:Addr}{fd:afD}{ps:List Str}{sp:Sp}{x:Str}{p pos:Pos}{e:Expr}{es:List Expr}{t:TA}
end
section
variable{σ:St}{H:Hp}{Q:VK}{D:eK}{K:PySem.W.Frag}
theorem RN{E:XK}{C:Addr}{t:TA}(h:t σ H λvs H1=>vs.length<=sizeLine/\E (.ref C) none H1):M8 E C t D σ H:=h
end
noncomputable def Fresh(H H':Hp)(v:V)(d:PyData):Prop:=∀H2:Hp,(∀a u,H a=none->H' a=some u->H2 a=some u)->Is H2 v d
inductive FreshAll (H H':Hp):List V->List PyData->Prop
 |nil:FreshAll H H' [] []
 |cons {v:V} {d:PyData} {vs:List V} {ds:List PyData}:Fresh H H' v d->FreshAll H H' vs ds->FreshAll H H' (v::vs) (d::ds)
theorem Fresh.mono{H H1 H2 H3:Hp}{v:V}{d:PyData}(s1:Same H H1)(s2:Same H2 H3)(h:Fresh H1 H2 v d):Fresh H H3 v d:=λK k=>h K λa u n e=>k a u (by
 cases q:H a with
 |none=>rfl
 |some w=>rw[s1 _ _ q]at n;cases n) (s2 _ _ e)
theorem FreshAll.mono{H H1 H2 H3:Hp}(s1:Same H H1)(s2:Same H2 H3):∀{vs:List V}{ds:List PyData},FreshAll H1 H2 vs ds->FreshAll H H3 vs ds
 |_,_,.nil=>.nil
 |_,_,.cons h t=>.cons (h.mono s1 s2) (t.mono s1 s2)
theorem FreshAll.length{H H':Hp}:∀{vs:List V}{ds:List PyData},FreshAll H H' vs ds->vs.length=ds.length
 |_,_,.nil=>rfl
 |_,_,.cons _ t=>by rw[length_cons,length_cons,t.length]
theorem FreshAll.is{H H' H2:Hp}(k:∀a u,H a=none->H' a=some u->H2 a=some u):∀{vs:List V}{ds:List PyData},FreshAll H H' vs ds->IsAll H2 vs ds
 |_,_,.nil=>.nil
 |_,_,.cons h t=>.cons (h H2 k) (t.is k)
theorem FreshAll.mem{H H':Hp}:∀{vs:List V}{ds:List PyData}{v:V},FreshAll H H' vs ds->v∈vs->∃d∈ds,Fresh H H' v d
 |_,_,_,.nil,h=>nomatch h
 | _,_,_,.cons h t,hv=>by
  rcases mem_cons.mp hv with rfl|hv
  ·exact⟨_,mem_cons_self,h⟩
  ·obtain⟨d,hd,f⟩:=t.mem hv;exact⟨d,mem_cons_of_mem _ hd,f⟩
noncomputable def iS(d:PyData):TE:=λ_ H Q=>∀v H',Same H H'->Fresh H H' v d->Q v H'
noncomputable def j9(ds:List PyData):TA:=λ_ H P=>∀vs H',Same H H'->FreshAll H H' vs ds->P vs H'
section
variable{X:Cx}{e:Expr}{es:List Expr}{pos:Pos}{d:PyData}{ds:List PyData}
theorem PE.imp{t t':TE}(h:PE X e t)(k:∀σ H Q,t' σ H Q->t σ H Q):PE X e t':=λpins s σ H Q I q=>h pins s σ H Q I (k σ H Q q)
theorem PA.imp{t t':TA}(h:PA X es t)(k:∀σ H Q,t' σ H Q->t σ H Q):PA X es t':=λpos pins s σ H Q I q=>h pos pins s σ H Q I (k σ H Q q)
theorem T5{i:Int}{j}:PE X (.Constant (.int i) j pos) (iS (.int i)):=pe_int.imp λ_ H Q q=>q _ H (Same.refl H) λ_ _=>.int i
theorem T6{b:Bool}{j}:PE X (.Constant (.bool b) j pos) (iS (.bool b)):=pe_bl.imp λ_ H Q q=>q _ H (Same.refl H) λ_ _=>.bl b
theorem T2{j}:PE X (.Constant .none j pos) (iS .none):=pe_non.imp λ_ H Q q=>q _ H (Same.refl H) λ_ _=>.non
theorem T0{x:Str}{j}:PE X (.Constant (.str x) j pos) (iS (.str x)):=pe_str.imp λ_ H Q q=>q _ H (Same.refl H) λ_ _=>.str x
theorem T3{i:Int}{j p2}:PE X (.UnaryOp .USub (.Constant (.int i) j p2) pos) (iS (.int (-i))):=(uM qI pe_int).imp λ_ H Q q=>⟨i,rfl,q _ H (Same.refl H) λ_ _=>.int (-i)⟩
theorem TV:PA X [] (j9 []):=pa_nil.imp λ_ H P q=>q [] H (Same.refl H) .nil
theorem jJ(ha:PE X e (iS d))(hr:PA X es (j9 ds))(hs:af6 (e::es) X.env=(false,eval e X.env)::af6 es X.env:=by rfl):PA X (e::es) (j9 (d::ds)):=
 (aA ha hr hs).imp λ_ H P q v H1 s1 f1 vs H2 s2 f2=>q (v::vs) H2 (s1.trans s2) (.cons (f1.mono (Same.refl _) s2) (f2.mono s1 (Same.refl _)))
theorem TZ{x1}(h:PA X es (j9 ds))(hz:ds.length<=sizeLine:=by decide):PE X (.Tuple es x1 pos) (iS (.tuple ds)):=
 (bH h).imp λ_ H Q q vs H1 s1 f1=>⟨by rw[f1.length];exact hz,λp hp=>q _ _ (s1.trans (Same.upd hp)) λH2 k=>.tup (k p _ (by
  cases e:H p with
  |none=>rfl
  |some u=>rw[s1 _ _ e]at hp;cases hp) aB) (f1.is λa u n e=>k a u n (by rw[aD (aW e hp)];exact e))⟩
theorem T4(h:PA X es (j9 ds))(hz:ds.length<=sizeLine:=by decide):PE X (.List es pos) (iS (.list ds)):=
 (cN h).imp λ_ H Q q vs H1 s1 f1=>⟨by rw[f1.length];exact hz,λp hp=>q _ _ (s1.trans (Same.upd hp)) λH2 k=>.lst (Rd.of (k p _ (by
  cases e:H p with
  |none=>rfl
  |some u=>rw[s1 _ _ e]at hp;cases hp) aB)) (f1.is λa u n e=>k a u n (by rw[aD (aW e hp)];exact e))⟩
end
inductive CallL (X:Cx) (E:XK):List (Addr×Sp)->Prop
 |nil:CallL X E []
 |cons {CX:eB} {k:Nat} {f:Addr} {fd:afD} {ps:List Str} {sp:Sp} {l:List (Addr×Sp)} (F:FnOk X.prog X.w X.K X.mg X.base CX k f fd ps sp) (hr:Room k X.A) (hk:ah7 X.K (.ref f)=true) (hb:Binds X.K fd ps []) (hx:mM CX X E) (r:CallL X E l):CallL X E ((f,sp)::l)
theorem CallL.get{X:Cx}{E:XK}:∀{l:List (Addr×Sp)}{i:Nat}{f:Addr}{sp:Sp},CallL X E l->l[i]? =some (f,sp)->∃(CX:eB)(k:Nat)(fd:afD)(ps:List Str),FnOk X.prog X.w X.K X.mg X.base CX k f fd ps sp/\Room k X.A/\ah7 X.K (.ref f)=true/\Binds X.K fd ps []/\mM CX X E
 |_,_,_,_,.nil,e=>by simp at e
 |_,0,_,_,.cons F hr hk hb hx r,e=>by simp at e;obtain⟨rfl,rfl⟩:=e;exact⟨_,_,_,_,F,hr,hk,hb,hx⟩
 |_,i+1,_,_,.cons F hr hk hb hx r,e=>r.get (i:=i) (by simpa using e)
section
variable{prog:afL}{w:agC}{A:afU}{E:Value->aeV->Prop}{s:aeV}
end
theorem MF{us:List Value}{ns:List Int}(h:ah2 us ns):Vals (ns.map V.int) us:=by
 induction h with
 |nil=>exact .nil
 |cons _ _ _ ih=>exact .cons ⟨_,rfl⟩ ih
section
variable{X:Cx}
noncomputable def EI:List V->Hp->VK->Prop:=λxs H Q=>∃j:Int,xs=[.int j]/\∀p,H p=none->Q (.ref p) (upd H p (.rng 0 j))
theorem ab1:CallR X (.type "range") EI:=by
 intro pins s σ H xs us Q I r h;obtain⟨j,rfl,q⟩:=h;obtain⟨u,rfl,rx⟩:=Vals.one r;obtain⟨t,rfl⟩:=rx;refine call_range_1 ⟨.ref s.heap.objs.size,_,I.laid (o:=.rng 0 j) (λb o e=>aeT _ e) (aeU _) ⟨_,_,_,aeZ _ rfl⟩,rfl,q _ (I.hok.fresh (aeU _))⟩
noncomputable def upTo(n:Nat):List Int:=(range n).map λ(i:Nat)=>(i:Int)
theorem j5(n:Nat):(upTo n).length=n:=by unfold upTo;simp
theorem Z4{acc:Array Value}{n:Nat}(h:ItemsOf (λi v=>∃t,v=.int (0+(i:Int)*1) t) acc n):Vals ((upTo n).map V.int) acc.toList:=by
 obtain⟨hs,hv⟩:=h
 have key:∀(l:List Value)(k:Nat),(∀j v,l[j]? =some v->∃t,v=Value.int (((k+j:Nat)):Int) t)->Vals (((List.range' k l.length).map λ(i:Nat)=>(i:Int)).map V.int) l:=λl=>by
  induction l with
  |nil=>intro k _;exact .nil
  |cons x l ih=>
   intro k hk;rw[length_cons,List.range'_succ,map_cons,map_cons];obtain⟨t,rfl⟩:=hk 0 x rfl;refine .cons ⟨t,rfl⟩ (ih (k+1) λj v e=>?_);obtain⟨t,rfl⟩:=hk (j+1) v (by simpa using e);exact⟨t,by rw[show k+1+j=k+(j+1) by lia]⟩
 have:=key acc.toList 0 λj v e=>by
  obtain⟨t,rfl⟩:=hv j v (by simpa using e);exact⟨t,by simp⟩
 rw[afF,hs,<-List.range_eq_range']at this;exact this
noncomputable def EJ:List V->Hp->VK->Prop:=λxs H Q=>∃(p:Addr)(n:Nat),xs=[.ref p]/\H p=some (.rng 0 n)/\n<=1000/\∀l,H l=none->Q (.ref l) (upd H l (.lst ((upTo n).map V.int)))
theorem ab5(hc:X.calm=true):CallR X (.type "list") EJ:=by
 intro pins s σ H xs us Q I r h;obtain⟨p,n,rfl,hp,hn,q⟩:=h;obtain⟨u,rfl,rx⟩:=Vals.one r;cases(show u=af4 p from rx);obtain⟨t,u,v,ho⟩:=I.hok p _ hp;refine call_list_range (I.ok.hd hc) ho (small_one (by lia) (by lia) (by lia) (by lia)) (n:=n) (by rw[rangeSize_one];split <;> lia) (by lia) λh' tk acc c hk hS hacc=>?_;have hv:=Z4 hacc;refine⟨.ref s.heap.objs.size,_,I.laid (t':=tk) (o:=.lst ((upTo n).map V.int)) hk (aeU _) ⟨?_,acc.toList,c,hv,by simpa using hS⟩,rfl,q _ (I.hok.fresh (aeU _))⟩;rw[length_map,j5];exact agP (dU hn)
end
end L2
namespace L2
open PySem PySem.Spec PyProof.Rows
open AutoSeq1 (wpAny_loadPart')
section
variable{prog:afL}{w:agC}{A:afU}{E:Value->aeV->Prop}{s:aeV}
end
section
variable{X:Cx}
end
section
variable{σ:St}{H:Hp}{Q:VK}{K:PySem.W.Frag}
theorem RZ{j:Int}(h:∀p,H p=none->Q (.ref p) (upd H p (.rng 0 j))):EI [.int j] H Q:=⟨j,rfl,h⟩
theorem R9{p:Addr}{n:Nat}(e:H p=some (.rng 0 n))(hn:n<=1000)(h:∀l,H l=none->Q (.ref l) (upd H l (.lst ((upTo n).map V.int)))):EJ [.ref p] H Q:=⟨p,n,rfl,e,hn,h⟩
end
end L2
namespace L2
open PySem PySem.Spec PyProof.Rows
section
variable{K:PySem.W.Frag}{σ:St}{H:Hp}{Q:VK}
theorem DZ{r:V->Option Int->Option Int->Hp->VK->Prop}{te:TE}{tl th:TO}(h:te σ H λx H1=>tl σ H1 λl H2=>th σ H2 λu H3=>r x l u H3 Q):CG r te tl th σ H Q:=h
theorem D3{P:Option Int->Hp->Prop}(h:P none H):CM σ H P:=h
theorem D1{te:TE}{P:Option Int->Hp->Prop}(h:te σ H λx H1=>∃i,x=.int i/\P (some i) H1):CI te σ H P:=h
theorem FreshAll.append{H H':Hp}:∀{vs:List V}{ds:List PyData}{ws:List V}{es:List PyData},FreshAll H H' vs ds->FreshAll H H' ws es->FreshAll H H' (vs++ws) (ds++es)
 |_,_,_,_,.nil,h=>h
 |_,_,_,_,.cons a t,h=>.cons a (t.append h)
theorem mem_upTo{n:Nat}{i:Int}:i∈upTo n<->0<=i/\i<n:=by
 unfold upTo;rw[mem_map];constructor
 ·rintro⟨k,hk,rfl⟩;have:=mem_range.mp hk;lia
 ·intro h;exact⟨i.toNat,mem_range.mpr (by lia),by lia⟩
theorem BW(n:Nat):(upTo n).Nodup:=by
 unfold upTo ah4;rw[pairwise_map];refine af7.imp (λh=>?_) (nodup_range (n:=n));lia
end
inductive Lit:List Expr->List PyData->Prop
 |nil:Lit [] []
 |int {i:Int} {j p es ds}:Lit es ds->Lit (.Constant (.int i) j p::es) (.int i::ds)
 |bl {b:Bool} {j p es ds}:Lit es ds->Lit (.Constant (.bool b) j p::es) (.bool b::ds)
 |non {j p es ds}:Lit es ds->Lit (.Constant .none j p::es) (.none::ds)
 |str {x:Str} {j p es ds}:Lit es ds->Lit (.Constant (.str x) j p::es) (.str x::ds)
 |neg {i:Int} {j p p2 es ds}:Lit es ds->Lit (.UnaryOp .USub (.Constant (.int i) j p2) p::es) (.int (-i)::ds)
 |tup {es' ds' x p es ds}:Lit es' ds'->ds'.length<=100->Lit es ds->Lit (.Tuple es' x p::es) (.tuple ds'::ds)
 |lst {es' ds' p es ds}:Lit es' ds'->ds'.length<=100->Lit es ds->Lit (.List es' p::es) (.list ds'::ds)
theorem Lit.pa{X:Cx}{es:List Expr}{ds:List PyData}(h:Lit es ds):PA X es (j9 ds):=by
 have hz:100<=sizeLine:=by decide
 induction h with
 |nil=>exact TV
 |int _ ih=>exact jJ T5 ih
 |bl _ ih=>exact jJ T6 ih
 |non _ ih=>exact jJ T2 ih
 |str _ ih=>exact jJ T0 ih
 |neg _ ih=>exact jJ T3 ih
 |tup _ h _ ih1 ih2=>exact jJ (TZ ih1 (afO h hz)) ih2
 |lst _ h _ ih1 ih2=>exact jJ (T4 ih1 (afO h hz)) ih2
section
variable{P:afL}{w:agC}{A:afU}{E:Value->aeV->Prop}
end
section
variable{X:Cx}
end
section
variable{K:PySem.W.Frag}{σ:St}{H:Hp}
end
section
variable{P:afL}{w:agC}{A:afU}{E:Value->aeV->Prop}{s:aeV}
theorem W0{l:Addr}{us:List Value}{ns:List Int}{Q:Value->aeV->Prop}(hh:A.handled=none)(hl:s.heap.IsList l us.toArray)(hi:ah2 us ns)(ne:0<ns.length)
  (q:∀g M(t:Tok)tk,(∀b o,s.heap.get? b=some o->g.get? b=some o)->M∈ns->(∀a∈ns,M<=a)->Q (.int M t) { s with heap:=g,toks:=tk }):afH (afT P w) A (call (.builtin "min") [.ref l]) Q E s:=by
 obtain⟨zs,e⟩:=hi.allInts.items;have en:ns=zs.toList.map (·.1):=by rw[<-hi.numsOf,<-nums_intItems,<-e]
 have zz:0<zs.size:=by rw[en,length_map,afF]at ne;exact ne
 rw[e]at hl;refine min_intList hh hl zz λv g tk hv hk=>?_;obtain⟨t,rfl⟩:=intItems_at hv;obtain⟨k1,k2⟩:=argBest_lt (numAt zs) (zs.size-1);refine q g _ t tk hk ?_ λa ha=>?_
 ·rw[en,numAt_eq];exact getD_mem (by rw[length_map,afF];lia)
 ·rw[en]at ha;obtain⟨j,hj,rfl⟩:=mem_getD ha;rw[length_map,afF]at hj;rw[<-numAt_eq];exact k2 j (by lia)
theorem W8{l:Addr}{us:List Value}{ns:List Int}{Q:Value->aeV->Prop}(hh:A.handled=none)(hl:s.heap.IsList l us.toArray)(hi:ah2 us ns)(ne:0<ns.length)
  (q:∀g M(t:Tok)tk,(∀b o,s.heap.get? b=some o->g.get? b=some o)->M∈ns->(∀a∈ns,a<=M)->Q (.int M t) { s with heap:=g,toks:=tk }):afH (afT P w) A (call (.builtin "max") [.ref l]) Q E s:=by
 obtain⟨zs,e⟩:=hi.allInts.items;have en:ns=zs.toList.map (·.1):=by rw[<-hi.numsOf,<-nums_intItems,<-e]
 have zz:0<zs.size:=by rw[en,length_map,afF]at ne;exact ne
 rw[e]at hl;refine max_intList hh hl zz λv g tk hv hk=>?_;obtain⟨t,rfl⟩:=intItems_at hv;obtain⟨k1,k2⟩:=argBest_gt (numAt zs) (zs.size-1);refine q g _ t tk hk ?_ λa ha=>?_
 ·rw[en,numAt_eq];exact getD_mem (by rw[length_map,afF];lia)
 ·rw[en]at ha;obtain⟨j,hj,rfl⟩:=mem_getD ha;rw[length_map,afF]at hj;rw[<-numAt_eq];exact k2 j (by lia)
end
section
variable{X:Cx}
noncomputable def uE(K:PySem.W.Frag):List V->Hp->VK->Prop:=λxs H Q=>∃(p:Addr)(ns:List Int),xs=[.ref p]/\SqL K H p (ns.map V.int)/\0<ns.length/\∀M,M∈ns->(∀a∈ns,M<=a)->Q (.int M) H
noncomputable def uF(K:PySem.W.Frag):List V->Hp->VK->Prop:=λxs H Q=>∃(p:Addr)(ns:List Int),xs=[.ref p]/\SqL K H p (ns.map V.int)/\0<ns.length/\∀M,M∈ns->(∀a∈ns,a<=M)->Q (.int M) H
theorem ab3(hc:X.calm=true):CallR X (.builtin "min") (uE X.K):=by
 intro pins s σ H xs us Q I r h;obtain⟨p,ns,rfl,hq,ne,q⟩:=h;obtain⟨u,rfl,rx⟩:=Vals.one r;cases(show u=af4 p from rx);obtain⟨its,rv,pl,hz⟩:=I.list hq;exact W0 (I.ok.hd hc) pl.isList (intsAre_of rv) ne λg M t tk hk hM hA=>⟨.int M,H,I.kept (t':=tk) hk,⟨t,rfl⟩,q M hM hA⟩
theorem ab4(hc:X.calm=true):CallR X (.builtin "max") (uF X.K):=by
 intro pins s σ H xs us Q I r h;obtain⟨p,ns,rfl,hq,ne,q⟩:=h;obtain⟨u,rfl,rx⟩:=Vals.one r;cases(show u=af4 p from rx);obtain⟨its,rv,pl,hz⟩:=I.list hq;exact W8 (I.ok.hd hc) pl.isList (intsAre_of rv) ne λg M t tk hk hM hA=>⟨.int M,H,I.kept (t':=tk) hk,⟨t,rfl⟩,q M hM hA⟩
theorem ZT(K:PySem.W.Frag)(hc:X.calm=true:=by rfl)(h:X.K=K:=by rfl):CallR X (.builtin "min") (uE K):=h▸ab3 hc
theorem ZU(K:PySem.W.Frag)(hc:X.calm=true:=by rfl)(h:X.K=K:=by rfl):CallR X (.builtin "max") (uF K):=h▸ab4 hc
end
section
variable{K:PySem.W.Frag}{σ:St}{H:Hp}{Q:VK}
theorem R1{p:Addr}{ns:List Int}(e:H p=some (.lst (ns.map V.int)))(ne:0<ns.length)(h:∀M,M∈ns->(∀a∈ns,M<=a)->Q (.int M) H):uE K [.ref p] H Q:=⟨p,ns,rfl,SqL.of e,ne,h⟩
theorem R4{p:Addr}{ns:List Int}(e:H p=some (.lst (ns.map V.int)))(ne:0<ns.length)(h:∀M,M∈ns->(∀a∈ns,a<=M)->Q (.int M) H):uF K [.ref p] H Q:=⟨p,ns,rfl,SqL.of e,ne,h⟩
theorem D6{p:Addr}{xs:List V}{i:Int}{v:V}(e:H p=some (.lst xs)\/H p=some (.tup xs))(a:c5 xs i=some v)(h:Q v H):kD K (.ref p) (.int i) H Q:=⟨p,xs,i,v,rfl,rfl,e.imp SqL.of SqT.of,a,h⟩
theorem tX{p:Addr}{xs:List V}(e:H p=some (.lst xs)\/H p=some (.tup xs))(h:Q (.int xs.length) H):kC K [.ref p] H Q:=⟨p,xs,rfl,e.imp SqL.of SqT.of,h⟩
end
end L2
namespace L2
open PySem PyProof.Rows
noncomputable def kY(A:afU)(s:aeV)(u v:Value)(r:Bool):Prop:=∀(prog:afL)(w:agC)(E Q:Value->aeV->Prop),Q (.bool r) s->afH (afT prog w) A (richCompare .Lt u v) Q E s
inductive hE (A:afU) (s:aeV):List Value->List Value->Bool->Prop
 |nn:hE A s [] [] false
 |nc {v vs}:hE A s [] (v::vs) true
 |cn {u us}:hE A s (u::us) [] false
 |eq {u v us vs r}:SeqAt.EqAt A s u v true->hE A s us vs r->hE A s (u::us) (v::vs) r
 |ne {u v us vs r}:SeqAt.EqAt A s u v false->kY A s u v r->hE A s (u::us) (v::vs) r
section
open PySem.SeqAt
open PySem.AutoSeq1 (wpAny_loadPart')
open PySem.MeetsSeq PySem.MeetsSeq2 PySem.MeetsSeq3
theorem MV(l b:Addr)(items items2:Array Value)(n n2:Nat)(dd dd2:Option Addr)(sl sl2:Array (Option Value))(r:Bool):
  Meets (af8.«tuple.__lt__» ⟨[.ref l,.ref b],[]⟩)
   (λA R s=>s.heap.get? l=some { cls:=.type "tuple",dict:=dd,data:=.seq items n,slots:=sl }/\s.heap.get? b=some { cls:=.type "tuple",dict:=dd2,data:=.seq items2 n2,slots:=sl2 }/\
    hE A.in1 s items.toList items2.toList r/\R (.ok (.ret (.bool r))) s):=
 .of_wp λprog w A R s h=>by
  obtain⟨hp,g,d,tk,os⟩:=s;obtain⟨hl,hb,hlt,h⟩:=h;have f2:=AutoSeq1.sub_tuple_tuple
  wp_walk using ahP hl,ahP hb,wpAny_forIn_list _ (λbM b s'=>b.1=none/\s'=⟨hp,g,d,tk,os⟩/\∃(vs ws:List Value),bM=vs.zip ws/\
   hE A.in1 ⟨hp,g,d,tk,os⟩ vs ws r/\vs.length+items2.size=ws.length+items.size) _
  case turn=>
   rintro⟨y,x⟩ bM b s' ⟨hb',rfl,vs,ws,hz,hlt',hlen⟩
   cases hlt' with
   |nn=>cases hz
   |nc=>rw[List.zip_nil_left]at hz;cases hz
   |cn=>rw[List.zip_nil_right]at hz;cases hz
   |eq he hr=>
    rw[zip_cons_cons]at hz;injection hz with hyx hrest;injection hyx with hy hx;subst hy hx;simp only[length_cons]at hlen;refine aeS (he prog w _ _ ?_)
    wp_walk
    exact⟨rfl,rfl,_,_,hrest,hr,by lia⟩
   |ne he hri0=>
    rw[zip_cons_cons]at hz;injection hz with hyx hrest;injection hyx with hy hx;subst hy hx;refine aeS (he prog w _ _ ?_);have hri:=hri0 prog w
    wp_walk using hri
    exact⟨_,rfl,by simpa using h⟩
  case fin=>
   rintro⟨b1,b2⟩ s' ⟨hb',rfl,vs,ws,hz,hlt',hlen⟩;simp only at hb';subst hb'
   have hv:r=decide (items.size<items2.size):=by
    cases hlt' with
    |nn=>
     simp only[length_nil]at hlen
     exact(decide_eq_false (by lia)).symm
    |nc=>
     simp only[length_nil,length_cons]at hlen
     exact(decide_eq_true (by lia)).symm
    |cn=>
     simp only[length_nil,length_cons]at hlen
     exact(decide_eq_false (by lia)).symm
    |eq _ _=>rw[zip_cons_cons]at hz;cases hz
    |ne _ _=>rw[zip_cons_cons]at hz;cases hz
   rw[hv]at h
   wp_walk
   exact⟨_,rfl,by simpa[af8.Tuple.tupleCompareSizes]using h⟩
  case h=>
   exact⟨rfl,rfl,items.toList,items2.toList,rfl,hlt,by simp;lia⟩
end
theorem YO{A:afU}{s:aeV}{l b:Addr}{us vs:List Value}{r:Bool}(hl:IsTup s.heap l us.toArray)(hb:IsTup s.heap b vs.toArray)(hu:A.units<cLine)(h:hE A.in1 s us vs r):kY A s (.ref l) (.ref b) r:=by
 intro prog w E Q q;obtain⟨⟨cls,dd,data,sl⟩,ho,hc,n,hd⟩:=id hl;obtain⟨⟨cls2,dd2,data2,sl2⟩,ho2,hc2,n2,hd2⟩:=id hb;simp only at hc hd hc2 hd2;subst hc hd hc2 hd2
 exact richCompare_meets_room (op:=.Lt) ⟨_,ho,rfl⟩ ⟨_,ho2,rfl⟩ PySem.F.slot_tuple_lt PySem.F.entry_tuple_lt (PySem.F.args_tuple_lt_2 _ _) (MV l b us.toArray vs.toArray n n2 dd dd2 sl sl2 r)
  ⟨ho,ho2,by simpa using h,show aiK r≠Value.notImplemented/\Q (.bool r) s from⟨(λx=>nomatch x),q⟩⟩ hu
theorem YQ{A:afU}{s:aeV}{a c:Int}{t u:Tok}:kY A s (.int a t) (.int c u) (decide (a<c)):=λprog w E Q h=>HT.EC A s a t c u prog w E Q h
end L2
namespace L2
open PySem PySem.Spec PyProof.Rows
noncomputable abbrev Cx.in1(X:Cx):Cx:={ X with A:=X.A.in1 }
section
variable{X:Cx}{pins:List (Addr×Obj)}{σ:St}{H:Hp}{s:aeV}
theorem Cx.Ok.in1(ok:X.Ok):X.in1.Ok:=⟨ok.mod,ok.kind,ok.glob,ok.blt,ok.above,ok.inj,ok.has,ok.cab,ok.hd,ok.frames,ok.stk,ok.exf,ok.bs,ok.bsz,ok.noex,ok.exfs,ok.funs,ok.frf⟩
theorem Cx.Ok.out1(ok:X.in1.Ok):X.Ok:=⟨ok.mod,ok.kind,ok.glob,ok.blt,ok.above,ok.inj,ok.has,ok.cab,ok.hd,ok.frames,ok.stk,ok.exf,ok.bs,ok.bsz,ok.noex,ok.exfs,ok.funs,ok.frf⟩
theorem Inv.in1(I:Inv X pins σ H s):Inv X.in1 pins σ H s:=⟨I.ok.in1,I.os,I.bare,I.base,I.loc,I.cell,I.free,I.freeC,I.pin,I.hok,I.len⟩
theorem Inv.out1(I:Inv X.in1 pins σ H s):Inv X pins σ H s:=⟨I.ok.out1,I.os,I.bare,I.base,I.loc,I.cell,I.free,I.freeC,I.pin,I.hok,I.len⟩
end
noncomputable abbrev vK(X:Cx)(qual:Str)(sc:Scope)(L q:Addr)(cd:Value):Env:=PySem.W.envX qual sc L q cd (cZ X.env sc.names [])
noncomputable def iZ(X:Cx)(qual:Str)(sc:Scope)(M:List Str)(q:Addr)(cd:Value)(s:aeV)(H:Hp):Cx:=
 { X with A:=X.A.deeper (vK X qual sc s.heap.objs.size q cd),N:=M,s₀:=s,H₀:=H,env:=vK X qual sc s.heap.objs.size q cd,outer:=X.stack,stack:=vK X qual sc s.heap.objs.size q cd::X.stack,ex:=[],fn:=λ_=>false,pn:=[],calm:=true,xe:=λ_ _=>False }
section
variable{X:Cx}{pins:List (Addr×Obj)}{σ:St}{H:Hp}{s:aeV}{qual:Str}{sc:Scope}{M:List Str}{q:Addr}{cd:Value}
theorem Y7(I:Inv X pins σ H s)(hd:X.A.handled=none)(fr:FrOk X.env sc.names)(hk:sc.kind=.function):(iZ X qual sc M q cd s H).Ok where
 mod:=I.ok.mod
 kind:=hk
 glob:=rfl
 blt:=rfl
 above:=aeU _
 inj:=λx y c e1 e2=>I.ok.inj x y c (eI (λ_ _ z=>by cases z) x c e1) (eI (λ_ _ z=>by cases z) y c e2)
 has:=λx h=>by
  have hm:(x,agY)∈sc.names:=by
   rcases h with h|h
   ·exact absurd rfl (fr.nocell _ (lQ h))
   ·exact lQ h
  exact mE (.inr ⟨hm,I.ok.has x (fr.free hm)⟩)
 cab:=λx c h _=>by cases h
 hd:=λ_=>hd
 frames:=afU.frames_deeper I.ok.frames
 stk:=.inr ⟨rfl,rfl⟩
 exf:=λb hb=>absurd (show b∈([]:List Addr) from hb) (by simp)
 bs:=I.bs
 bsz:=afO I.ok.bsz I.sz
 noex:=λb o e hb=>absurd (show b∈([]:List Addr) from hb) (by simp)
 exfs:=λb hb=>absurd (show b∈([]:List Addr) from hb) (by simp)
 funs:=I.stack
 frf:=I.stkFree
theorem Y9{h₁:Heap}{t:Nat}{m:Str->Option Value}{fm:List (Option Nat)}{y:Str}{v:V}{u:Value}(I:Inv X pins σ H s)(hd:X.A.handled=none)(fr:FrOk X.env sc.names)(hk:sc.kind=.function)
  (hfm:FmOk X.N sc M fm) (hM:M[0]? =some y) (hy:sc.names.lookup y=some .local) (k:∀b o,s.heap.get? b=some o->h₁.get? b=some o) (hn:h₁.Ns s.heap.objs.size m) (hm:m y=some u) (r:RelV v u):
  Inv (iZ X qual sc M q cd s H) [] ((bR fm σ).set 0 (some v)) H { s with heap:=h₁,toks:=t } where
 ok:=Y7 I hd fr hk
 os:=rfl
 bare:=I.bare
 base:=Un.kept k
 loc:=⟨m,hn,λi x v' e1 e2 e3=>by
  cases i with
  | zero=>
   have e1':M[0]? =some x:=e1;rw[hM]at e1';cases e1'
   have hl:0<(bR fm σ).length:=by
    rw[show(bR fm σ).length=fm.length by simp[bR],hfm.len];exact(ae3.mp hM).1
   rw[List.getElem?_set_self hl]at e2;cases e2
   exact⟨u,r,.inl ⟨hy,hm⟩⟩
  | succ i=>
   rw[ag6 (by lia)]at e2;obtain⟨j,a,b,c⟩:=hfm.get e1 e2;obtain⟨m',hn',hl'⟩:=I.loc;have hmm:=lQ b;have hk':=fr.free hmm
   have vis:mI X.env.scope x:=by
    rcases hk' with z|z
    ·exact .inr (.inl z)
    ·exact .inr (.inr z)
   obtain⟨u',r',l⟩:=hl' j x v' a c vis;refine⟨u',r',.inr ⟨.inr b,?_⟩⟩;rcases l with⟨z,_⟩|⟨_,cc,hcc,hcell⟩
   ·rcases hk' with y|y <;> (rw[z]at y;cases y)
   ·obtain⟨c2,e2⟩:=mE (env:=X.env) (ns:=sc.names) (cs:=[]) (x:=x) (.inr ⟨hmm,cc,hcc⟩);have e3:=eI (λ_ _ z=>by cases z) x c2 e2;rw[hcc]at e3;cases e3;refine⟨cc,e2,?_⟩;obtain⟨o,ho,hd⟩:=hcell
    exact⟨o,k _ _ ho,hd⟩⟩
 cell:=λx c e=>by
  obtain⟨v,o,ho,hd⟩:=I.cell x c (eI (λ_ _ z=>by cases z) x c e);exact⟨v,o,k _ _ ho,hd⟩
 free:=I.hok.fresh (aeU _)
 freeC:=λx c e=>I.freeC x c (eI (λ_ _ z=>by cases z) x c e)
 pin:=λp hp'=>absurd (show p∈([]:List (Addr×Obj)) from hp') (by simp)
 hok:=I.hok.kept k
 len:=by simp[bR,hfm.len,iZ]
theorem ZA{fm:List (Option Nat)}{y:Str}{v:V}{u:Value}{nm:Str}{params:Arguments}{body:Expr}{pm ct:Value}{te:TE}{Q:VK}(I:Inv X pins σ H s)(hd:X.A.handled=none)(hroom:X.A.depth<recursionLimit)(fr:FrOk X.env sc.names)(hk:sc.kind=.function)
  (hco:sc.isCoroutine=false) (hgen:sc.isGenerator=false) (hfm:FmOk X.N sc M fm) (hM:M[0]? =some y) (hy:sc.names.lookup y=some .local)
  (hq:s.heap.get? q=some { cls:=.type "function",data:=.func (PySem.W.kla_fn nm qual params body sc (cZ X.env sc.names []) pm cd ct) }) (hcd:s.heap.CodeRec cd qual)
  (hb:∀u,bindArgs (PySem.W.kla_fn nm qual params body sc (cZ X.env sc.names []) pm cd ct) ⟨[u],[]⟩=pure [(y,u)]) (B:PE (iZ X qual sc M q cd s H) body te) (r:RelV v u) (h:te ((bR fm σ).set 0 (some v)) H Q):
  afH (afT X.prog X.w) X.A (call (.ref q) [u]) (EP X pins σ Q) (λ_ _=>False) s:=by
 refine wpAny_call (PySem.W.kla_callFunE hroom hq rfl hco hgen rfl hcd ?_);rw[hb u];refine aeX (wpAny_newFunctionEnv fr.nocell (by intro z hz;rcases mem_singleton.mp hz with rfl;exact hy) (λh₁ hns hsb=>?_) hk);dsimp only at hns hsb ⊢;have keep:∀b o,s.heap.get? b=some o->h₁.get? b=some o:=λb o e=>hsb.extBut b o (ae7 (ae1 e)) (aeT _ e);have J:Inv (iZ X qual sc M q cd s H) [] ((bR fm σ).set 0 (some v)) H { s with heap:=h₁,toks:=s.toks+[(y,u)].length }:=Y9 I hd fr hk hfm hM hy keep hns (by simp) r;refine⟨J.nolimit,PySem.W.kla_codeExpr ?_⟩;refine agS (B [] _ _ H Q J h) (λu' s'⟨v',H',J',r',q'⟩=>?_) λe s' z=>(show False from z).elim;exact⟨v',H',I.call' J'.os J'.base J'.hok J'.bare (ch:=[]) (λb z=>absurd z (by simp)),r',q'⟩
end
noncomputable def i8(c:Addr)(qual:Str):Heap->Prop:=λh=>h.CodeRec (.ref c) qual
noncomputable abbrev jD(pos:Pos)(c:Addr):Array Value:=#[rawInt pos.line,rawInt pos.col,.ref c]
noncomputable def jZ(H:Hp)(P:Addr)(qual:Str)(pos:Pos)(c:Addr):Prop:=H P=some (.tbl (jD pos c))/\H c=some (.ext (i8 c qual))
noncomputable def cO(H:Hp)(P:Addr)(qual:Str)(pos:Pos):Prop:=H P=some (.tbl #[])\/∃c,jZ H P qual pos c
structure mL (base:Heap) (mg:Str->Option Value) (c P:Addr):Prop where
 hd:PySem.W.CodeHd base c P
 bl:base.BuiltinsAt mg P
theorem aeD(pos:Pos)(c:Addr):codeAmong pos (jD pos c).toList=some (.ref c):=by
 simp[codeAmong,rawInt]
theorem MY(pos:Pos)(c:Addr):TriplesOk (jD pos c).toList:=by simp[TriplesOk,rawInt]
section
variable{X:Cx}{pins:List (Addr×Obj)}{σ:St}{H:Hp}{s:aeV}
theorem IU{h h':Heap}{c:Addr}{qual:Str}(x:h.CodeRec (.ref c) qual)(k:∀o,h.get? c=some o->h'.get? c=some o):h'.CodeRec (.ref c) qual:=by
 obtain⟨c2,oc,vs,t,e,e1,r⟩:=x;cases e;exact⟨c,oc,vs,t,rfl,k _ e1,r⟩
theorem abQ{P:afL}{w:agC}{H:Hp}{h:Heap}{c:Addr}{qual:Str}(x:h.CodeRec (.ref c) qual):ObjOk P w H h c (.ext (i8 c qual)):=by
 refine⟨x,?_,λh1 h2 p k=>IU p k⟩;obtain⟨c2,oc,vs,t,e,e1,r⟩:=x;cases e;exact⟨oc,e1⟩
theorem Inv.codeRec(I:Inv X pins σ H s){c:Addr}{qual:Str}(h:H c=some (.ext (i8 c qual))):s.heap.CodeRec (.ref c) qual:=(I.hok c _ h).1
theorem Inv.pinNew{H0:Hp}(I:Inv X pins σ H0 s){q:Addr}{o:Obj}{h':Heap}{t':Nat}(I':Inv X pins σ H { s with heap:=h',toks:=t' })(hq:h'.get? q=some o)(hs:s.heap.objs.size<=q)(hn:H q=none)(hd:∀v,o.data≠.cell v):Inv X ((q,o)::pins) σ H { s with heap:=h',toks:=t' }:=
 ⟨I'.ok,I'.os,I'.bare,I'.base,I'.loc,I'.cell,I'.free,I'.freeC,λp hp=>by
  rcases mem_append.mp hp with z|z
  ·exact I'.pin p (mem_append_left _ z)
  ·rcases mem_cons.mp z with rfl|z
   ·exact⟨hq,hn,Nat.ne_of_gt (afG I.lt hs),I.nofs hs,hd⟩
   ·exact I'.pin p (mem_append_right _ z),I'.hok,I'.len⟩
theorem abJ{params:Arguments}(h1:params.defaults=[])(h2:params.kw_defaults=[])(env:Env):defaultsOf params env=([],[]):=by
 rw[defaultsOf_eq,h1,h2];rfl
theorem Y8{sc:Scope}{params:Arguments}{body:Expr}{pos:Pos}{c P:Addr}{E:Value->aeV->Prop}{R:Value->aeV->Prop}(I:Inv X pins σ H s)(fr:FrOk X.env sc.names)(B:mL X.base X.mg c P)(hcode:X.env.code=.ref c)(hd1:params.defaults=[])(hd2:params.kw_defaults=[])
  (tb:cO H P (X.env.qual++"<lambda>") pos)
  (h:∀(q c':Addr)(ct:Value)(H':Hp)(s':aeV),Inv X ((q,{ cls:=.type "function",data:=.func (PySem.W.kla_fn "<lambda>" (X.env.qual++"<lambda>") params body sc (cZ X.env sc.names []) ((X.mg "__name__").getD .none) (.ref c') ct) })::pins) σ H' s'->
   SameT P H H'->jZ H' P (X.env.qual++"<lambda>") pos c'->R (.ref q) s'):
  afH (afT X.prog X.w) X.A (eval (.Lambda params body sc pos) X.env) R E s:=by
 rw[arm_eval_Lambda,abJ hd1 hd2];refine aeS (aeX (aeS (af2 (aeX ?_))));have hcl:=yG (env:=X.env) (sc:=sc) λn hn=>I.ok.has n (fr.free hn);have hg:=I.mod.glob.keeps I.bk;have hC:=B.hd.keeps I.bk
 have nP:X.base.get? P=none:=by
  cases e:X.base.get? P with
  |none=>rfl
  |some o=>
   have:=(I.bs P o e).2;rcases tb with z|⟨_,z,_⟩ <;> (rw[this]at z;cases z)
 have hgP:agZ≠P:=λz=>by
  obtain⟨o,es,ep,e,_⟩:=I.mod.glob;rw[z,nP]at e;cases e
 have hbl:s.heap.BuiltinsAt X.mg P:=B.bl.keeps I.bk;rcases tb with z|⟨c',z,zc⟩
 ·have hP:s.heap.get? P=some (PySem.W.tabObj #[]):=I.hok P _ z;refine PySem.W.kla_makeFunction hcl I.ok.glob hg hcode hC hP (by simp[TriplesOk]) (by simp[codeAmong]) hgP hbl λc' ctv h' tk hx hge hlt hrec htab=>?_;have hcP:c'≠P:=λe=>absurd (ae1 hP) (by rw[<-e];exact Nat.not_lt.mpr hge);have hn:H c'=none:=I.hok.fresh hge;have ntup:∀b o,H b=some o->(∀ps,o≠.tbl ps)->b≠P:=λb o e n e2=>by subst e2;rw[z]at e;cases e;exact n _ rfl
  have hH:∀b,b≠P->b≠c'->upd (upd H P (.tbl (jD pos c'))) c' (.ext (i8 c' (X.env.qual++"<lambda>"))) b=H b:=λb h1 h2=>by rw[aD h2,aD h1]
  have keep:∀b o,b≠P->s.heap.get? b=some o->(h'.push (PySem.W.kla_obj "<lambda>" (X.env.qual++"<lambda>") params body sc (cZ X.env sc.names []) ((X.mg "__name__").getD .none) c' ctv)).get? b=some o:=λb o hb e=>aeT _ (hx b o hb e);have nc:∀b o,s.heap.get? b=some o->b≠c':=λb o e=>ae7 (afG (ae1 e) hge);have ncH:∀b o,H b=some o->b≠c':=λb o e=>aW e hn
  have J:Inv X pins σ (upd (upd H P (.tbl (jD pos c'))) c' (.ext (i8 c' (X.env.qual++"<lambda>")))) { s with heap:=h'.push (PySem.W.kla_obj "<lambda>" (X.env.qual++"<lambda>") params body sc (cZ X.env sc.names []) ((X.mg "__name__").getD .none) c' ctv),toks:=tk }:=by
   refine I.un ⟨λb o e n _ _=>keep b o (λq=>by rw[q,z]at n;cases n) e,λb o e n _ _=>⟨o.slots,keep b o (λq=>by rw[q,z]at n;cases n) e⟩,λb o e n _=>?_,λb o e _=>?_,λb xs e=>?_,λb o u e=>?_,λb ps e=>?_⟩ λb o e=>?_
   ·rw[hH b (λq=>by rw[q,z]at n;cases n) (nc b o e)];exact n
   ·by_cases hb:b=P
    ·subst hb;exact⟨_,aeT _ htab⟩
    ·exact⟨o,keep b o hb e⟩
   ·rw[hH b (ntup b _ e λ_ q=>by cases q) (ncH b _ e)];exact e
   ·rw[hH b (ntup b _ e λ_ q=>by cases q) (ncH b _ e)];exact e
   ·by_cases hb:b=P
    ·subst hb;rw[z]at e;cases e;exact⟨jD pos c',by rw[aD (afY hcP),aB];simp⟩
    ·exact⟨#[],by rw[hH b hb (ncH b _ e),e];simp⟩
   ·by_cases h1:b=c'
    ·subst h1;rw[aB]at e;cases e;exact abQ (IU hrec λo e=>aeT _ e)
    ·rw[aD h1]at e;by_cases h2:b=P
     ·subst h2;rw[aB]at e;cases e;exact aeT _ (by rw[htab];simp)
     ·rw[aD h2]at e;refine(I.hok b o e).stay (λa u ha q=>keep a u ?_ q) (λa q=>?_) λa xs q=>?_
      ·rcases ha with rfl|ha
       ·exact h2
       ·exact ntup a _ ha λ_ q=>by cases q
      ·rw[hH a (ntup a _ q λ_ q=>by cases q) (ncH a _ q)];exact q
      ·rw[hH a (ntup a _ q λ_ q=>by cases q) (ncH a _ q)];exact q
  refine h h'.objs.size c' ctv _ _ (I.pinNew J (aeZ _ rfl) (agP (Nat.lt_of_le_of_lt hge hlt)) ?_ λv q=>by cases q) (λb u e hb=>?_) ⟨?_,aB⟩
  ·rw[hH _ (λe=>absurd (ae1 hP) (by rw[<-e];exact Nat.not_lt.mpr (agP (Nat.lt_of_le_of_lt hge hlt)))) (Nat.ne_of_gt hlt)];exact I.hok.fresh (agP (Nat.lt_of_le_of_lt hge hlt))
  ·rw[hH b hb (ncH b _ e)];exact e
  ·rw[aD (afY hcP),aB]
 ·have hP:s.heap.get? P=some (PySem.W.tabObj (jD pos c')):=I.hok P _ z;refine PySem.W.kla_makeFunctionHit (cv:=.ref c') hcl I.ok.glob hg hcode hC hP (MY _ _) (aeD _ _) hbl λctv h' tk hk hsz=>?_;have J:Inv X pins σ H { s with heap:=h'.push { cls:=.type "function",data:=.func (PySem.W.kla_fn "<lambda>" (X.env.qual++"<lambda>") params body sc (cZ X.env sc.names []) ((X.mg "__name__").getD .none) (.ref c') ctv) },toks:=tk }:=I.kept λb o e=>aeT _ (hk b o e);exact h h'.objs.size c' ctv _ _ (I.pinNew J (aeZ _ rfl) hsz (I.hok.fresh hsz) λv q=>by cases q) (SameT.refl _ _) ⟨z,zc⟩
end
structure Ow (X:Cx) (pins:List (Addr×Obj)) (a:Addr):Prop where
 loc:a≠X.env.locals
 fs:a∉X.fs
 new:a∈X.ex\/X.s₀.heap.objs.size<=a
 cel:∀x c,X.env.cells.lookup x=some c->c≠a
 pin:∀p∈X.pn++pins,p.1≠a
section
variable{X:Cx}{pins p1 p2:List (Addr×Obj)}{σ:St}{H:Hp}{s:aeV}
theorem Inv.ow(I:Inv X pins σ H s){a:Addr}(h:s.heap.objs.size<=a):Ow X pins a where
 loc:=Nat.ne_of_gt (afG I.lt h)
 fs:=I.nofs h
 new:=.inr (afO I.sz h)
 cel:=λx c e z=>by
  obtain⟨v,o,ho,_⟩:=I.cell x c e;exact absurd (ae1 ho) (by rw[z];exact Nat.not_lt.mpr h)
 pin:=λp hp z=>absurd (ae1 (I.pin p hp).1) (by rw[z];exact Nat.not_lt.mpr h)
theorem Ow.sub{a:Addr}{pl:List (Addr×Obj)}(o:Ow X pins a)(h:∀p∈pl,p∈pins\/p.1≠a):Ow X pl a:=
 ⟨o.loc,o.fs,o.new,o.cel,λp hp=>by
  rcases mem_append.mp hp with z|z
  ·exact o.pin p (mem_append_left _ z)
  ·rcases h p z with y|y
   ·exact o.pin p (mem_append_right _ y)
   ·exact y⟩
theorem Inv.repin{a:Addr}{o o':Obj}{h':Heap}{t':Nat}(I:Inv X (p1++(a,o)::p2) σ H s)(ow:Ow X (p1++p2) a)(k:∀b u,b≠a->s.heap.get? b=some u->h'.get? b=some u)(e:h'.get? a=some o')(hd:∀v,o'.data≠.cell v):
  Inv X (p1++(a,o')::p2) σ H { s with heap:=h',toks:=t' }:=by
 have me:=I.pin (a,o) (mem_append_right _ (mem_append_right _ mem_cons_self))
 have I1:Inv X (p1++p2) σ H s:=I.pins_of λp hp=>I.pin p (mem_append_right _ (by
  rcases mem_append.mp hp with z|z
  ·exact mem_append_left _ z
  ·exact mem_append_right _ (mem_cons_of_mem _ z)))
 have I2:=I1.turned (h':=h') (t':=t') k me.2.1 ow.loc ow.new ow.cel ow.pin;refine⟨I2.ok,I2.os,I2.bare,I2.base,I2.loc,I2.cell,I2.free,I2.freeC,λp hp=>?_,I2.hok,I2.len⟩;rcases mem_append.mp hp with z|z
 ·exact I2.pin p (mem_append_left _ z)
 ·rcases mem_append.mp z with z|z
  ·exact I2.pin p (mem_append_right _ (mem_append_left _ z))
  ·rcases mem_cons.mp z with rfl|z
   ·exact⟨e,me.2.1,ow.loc,ow.fs,hd⟩
   ·exact I2.pin p (mem_append_right _ (mem_append_right _ z))
structure AS (K:PySem.W.Frag) (σ:St) (l:Addr) (xs:List V) (lt:R2) (te:TE) (f:V->St) (G:Hp->Prop) (W:Nat->Nat->V->Hp->Prop) (Q:VK):Prop where
 lst:∀j b k H,W j b k H->H l=some (.lst xs)/\G H
 turn:∀j b k H x,W j b k H->xs[j]? =some x->te (f x) H λk' H'=>lt k' k H' λz H''=>∃c,z=.bl c/\if c=true then W (j+1) j k' H'' else W (j+1) b k H''
 fin:∀b k H x,W xs.length b k H->xs[b]? =some x->Q x H
end
theorem Y5{P:afL}{w:agC}{K:PySem.W.Frag}{mg mb:Str->Option Value}{k:Nat}{fa a c Pt:Addr}{fd:afD}{x:Str}{sp:Sp}{s₁:aeV}{vs:List Value}{ns:List Int}
  (KX:K.In s₁.heap) (hns:s₁.heap.Ns agZ mg) (hb:s₁.heap.Ns builtinsNs mb) (hbb:∀x:Str,x≠"__name__"->mb x=af9 x) (hlim:s₁.heap.NoLimit) (hg:s₁.gens=#[])
  (bm:∃bm ob,mg "__builtins__"=some (.ref bm)/\bm≠builtinsNs/\s₁.heap.get? bm=some ob/\ob.cls=.type "module"/\ob.dict=some builtinsNs/\ob.data=.plain)
  (hC:PySem.W.CodeHd s₁.heap c Pt) (hP:s₁.heap.get? Pt=some (PySem.W.tabObj #[])) (hKP:K.lookup Pt=none)
  (ha:s₁.heap.get? a=some { cls:=.type "list",data:=.seq vs.toArray }) (hi:ah2 vs ns) (hl:ns.length<=sizeLine) (hr:Room k callerA)
  (F:∀base:Heap,K.In base->base.Ns agZ mg->mL base mg c Pt->FnOk P w K mg base aM k fa fd [x] sp) (hbind:∀(s:aeV)(u:Value),BindsTo s fd ⟨[u],[]⟩ [(x,u)])
  (hsp:∀H:Hp,Scr K H a ns->H Pt=some (.tbl #[])->sp [.ref a] H (λv _=>v=.bl true) λ_ _ _=>False):
  codeAny (afT P w) callerA (.call (.ref fa) ⟨[.ref a],[]⟩) (λr s'=>r=.ok (.ret (.bool true))/\OldK s₁.heap s'.heap/\s'.os=s₁.os/\AllBare s'.gens) s₁:=by
 have rv:=BT hi;have lenV:=hi.length;have haP:a≠Pt:=λz=>by rw[z,hP]at ha;cases ha
 have core:∀H:Hp,Scr K H a ns->H Pt=some (.tbl #[])->HOk P w H s₁.heap->(∀b,H b≠none->b=a\/b=Pt)->(H a≠none->K.lookup a=none)->(∀b,b≠Pt->H b=none\/∃o xs,H b=some (.frz o (.lst xs)))->
   codeAny (afT P w) callerA (.call (.ref fa) ⟨[.ref a],[]⟩) (λr s'=>r=.ok (.ret (.bool true))/\OldK s₁.heap s'.heap/\s'.os=s₁.os/\AllBare s'.gens) s₁:=by
  intro H hS hT hok hA hK hO;have base_of:∀{b:Addr}{o:Obj},s₁.heap.get? b=some o->H b=none->(g6 s₁.heap H).get? b=some o:=λe n=>aaU e n
  have noB:∀{b:Addr}{o:Obj},s₁.heap.get? b=some o->(∀vs k,o.data=.seq vs k->False)->(∀vs,o.data=.fields vs->o.cls=.none->False)->H b=none:=λ{b o}e d1 d2=>by
   cases q:H b with
   |none=>rfl
   | some u=>
    rcases hA b (by rw[q];simp) with e'|e'
    ·subst e';rw[ha]at e;cases e;exact(d1 _ _ rfl).elim
    ·subst e';rw[hP]at e;cases e;exact(d2 _ rfl rfl).elim
  have nsK:∀{b:Addr}{m:Str->Option Value},s₁.heap.Ns b m->(g6 s₁.heap H).Ns b m:=λ{b m}⟨o,es,ep,e,d,r⟩=>⟨o,es,ep,base_of e (noB e (λ_ _ z=>by rw[d]at z;cases z) λ_ z=>by rw[d]at z;cases z),d,r⟩
  have hKb:K.In (g6 s₁.heap H):=λb o e=>base_of (KX b o e) (by
   cases q:H b with
   |none=>rfl
   | some u=>
    rcases hA b (by rw[q];simp) with e'|e'
    ·subst e';rw[hK (by rw[q];simp)]at e;cases e
    ·subst e'
     rw[hKP]at e;cases e)
  have hM:Mod K mg (g6 s₁.heap H):=⟨hKb,nsK hns,⟨mb,nsK hb,hbb⟩,let⟨mc,h1,h2⟩:=hlim;⟨mc,nsK h1,h2⟩⟩
  have e0:Env0 P w K mg (g6 s₁.heap H) callerA [] s₁ H:=⟨rfl,hM,λb o e=>WB e,Nat.le_of_eq (aaT _ _),trivial,λb hb=>absurd (show b∈([]:List Addr) from hb) (by simp),hok,.of_eq hg⟩
  have hTB:mL (g6 s₁.heap H) mg c Pt:=by
   constructor
   ·obtain⟨o,vs,file,tf,flags,tg,inF,text,tt,e,e2,e3,r⟩:=hC;exact⟨o,vs,file,tf,flags,tg,inF,text,tt,base_of e (noB e (λ_ _ z=>by rw[e3]at z;cases z) λ_ _ z=>by rw[e2]at z;cases z),e2,e3,r⟩
   ·obtain⟨b,ob,h1,h2,h3,h4,h5,h6⟩:=bm;refine⟨b,ob,h1,h2,λz=>?_,λz=>?_,base_of h3 (noB h3 (λ_ _ z=>by rw[h6]at z;cases z) λ_ z=>by rw[h6]at z;cases z),h4,h5,h6⟩
    ·obtain⟨o,es,ep,e,d,_⟩:=hns;rw[z,e]at h3;cases h3;rw[d]at h6;cases h6
    ·rw[z,hP]at h3;cases h3;cases h6
  refine codeAny_mono ((F _ hKb (nsK hns) hTB).run callerA [] s₁ H ⟨[.ref a],[]⟩ [.ref a] [.ref a] _ _ hr e0 (hbind s₁ (.ref a)) (.cons rfl .nil) (hsp H hS hT)) λr s' h=>?_
  cases r with
  |error e=>exact ah3 h
  | ok fl=>
   cases fl with
   |next=>exact ah3 h
   |brk=>exact ah3 h
   |cont=>exact ah3 h
   | ret u=>
    obtain⟨v,H',os,bare,un,hok',r',q⟩:=h;have q':v=.bl true:=q;subst q';obtain rfl:u=aiK true:=r'
    have keep:∀b o,b≠Pt->s₁.heap.get? b=some o->s'.heap.get? b=some o:=λb o hbP e=>by
     rcases hO b hbP with z|⟨ob,xs,z⟩
     ·exact un.keep b o e z (by intro z;exact absurd (show b∈([]:List Addr) from z) (by simp)) (by simp)
     ·have z2:=un.frzs b ob _ z;obtain⟨e1,_⟩:=hok b _ z;obtain⟨e2,_⟩:=hok' b _ z2;rw[e]at e1;cases e1;exact e2
    obtain⟨more,z⟩:=un.tbls Pt _ hT;have hP':s'.heap.get? Pt=some (PySem.W.tabObj (#[]++more)):=hok' Pt _ z;refine⟨rfl,⟨λb o e=>?_,λb o e=>?_⟩,os,bare⟩
    ·by_cases hbP:b=Pt
     ·subst hbP;rw[hP]at e;cases e;exact .inr (.inl ⟨(hC.tab hP).isCodeTable,rfl,#[],more,rfl,hP'⟩)
     ·exact .inl (keep b o hbP e)
    ·by_cases hbP:b=Pt
     ·subst hbP;exact⟨_,hP'⟩
     ·exact⟨o,keep b o hbP e⟩
 cases hk:K.lookup a with
 | some o=>
  have e:=KX a o hk;rw[ha]at e;cases e;refine core (λb=>if b=Pt then some (.tbl #[]) else none) ?_ (if_pos rfl) (λb u z=>?_) (λb z=>?_) (λz=>absurd (if_neg haP) z) λb hb=>.inl (if_neg hb)
  ·exact .inr ⟨_,vs.toArray,_,hk,rfl,rfl,rfl,by rw[size_toArray,lenV];exact hl,by simpa using rv⟩
  ·by_cases hb:b=Pt
   ·have z':=(if_pos hb).symm.trans z;cases z';subst hb;exact hP
   ·have z':=(if_neg hb).symm.trans z;cases z'
  ·by_cases hb:b=Pt
   ·exact .inr hb
   ·exact absurd (if_neg hb) z
 | none=>
  refine core (λb=>if b=Pt then some (.tbl #[]) else if b=a then some (.frz { cls:=.type "list",data:=.seq vs.toArray } (.lst (ns.map V.int))) else none) ?_ (if_pos rfl) (λb u z=>?_) (λb z=>?_) (λ_=>hk) λb hb=>?_
  ·exact .inl ⟨{ cls:=.type "list",data:=.seq vs.toArray },(if_neg haP).trans (if_pos rfl)⟩
  ·by_cases hb:b=Pt
   ·have z':=(if_pos hb).symm.trans z;cases z';subst hb;exact hP
   ·have z':=(if_neg hb).symm.trans z;by_cases hb2:b=a
    ·have z'':=(if_pos hb2).symm.trans z';cases z'';subst hb2;exact⟨ha,by rw[length_map];exact hl,vs,_,rv,ha⟩
    ·have z'':=(if_neg hb2).symm.trans z';cases z''
  ·by_cases hb:b=Pt
   ·exact .inr hb
   ·by_cases hb2:b=a
    ·exact .inl hb2
    ·exact absurd ((if_neg hb).trans (if_neg hb2)) z
  ·by_cases hb2:b=a
   ·exact .inr ⟨_,_,(if_neg hb).trans (if_pos hb2)⟩
   ·exact .inl ((if_neg hb).trans (if_neg hb2))
structure jY (K:PySem.W.Frag) (base:Heap) (mg:Str->Option Value) (x:Str) (c P:Addr):Prop where
 kin:K.In base
 ns:base.Ns agZ mg
 tab:PySem.W.tabIn K x=some (c,P)
 b:mL base mg c P
noncomputable def nB(K:PySem.W.Frag)(x:Str)(ts:List Addr):Bool:=match PySem.W.tabIn K x with
 |some (c,P)=>(K.lookup P).isNone&&ts.contains P&&PySem.W.codeHdIn K c P
 |none=>false
theorem M7{K:PySem.W.Frag}{x:Str}{ts:List Addr}(h:nB K x ts=true):∃c P,PySem.W.tabIn K x=some (c,P)/\K.lookup P=none/\P∈ts/\PySem.W.codeHdIn K c P=true:=by
 unfold nB at h;split at h
 ·rename_i c P e;rw[afB,afB]at h;exact⟨c,P,e,Option.isNone_iff_eq_none.mp h.1.1,by simpa using h.1.2,h.2⟩
 ·cases h
theorem L7{l:PySem.W.OpenLaw}{n k:Nat}{q:afL}{loose:List Str}{XP:(Str->Option Value)->Heap->Prop}{YP:agC->Heap->Prop}{d:DefRec}{K:Params->PySem.W.Frag}{ts:List Addr}{sp:agC->Addr->Sp}{x xt:Str}
  (hn:l.most=some n) (hn2:n<=sizeLine) (hdf:d.params.defaults=[]) (hr:Room k callerA)
  (hY:∀(w:agC)(h:Heap),YP w h->(K w.params).In h) (hT:∀(w:agC)(h:Heap),YP w h->∀P∈ts,h.get? P=some (PySem.W.tabObj #[])) (htab:∀p,nB (K p) xt ts=true)
  (F:∀(w:agC)(mg:Str->Option Value)(fa:Addr)(h:Heap),(K w.params).In h->h.Ns agZ mg->mg d.name=some (.ref fa)->
   ∃fd:afD,(∀(s:aeV)(u:Value),BindsTo s fd ⟨[u],[]⟩ [(x,u)])/\
    ∀(base:Heap)(c P:Addr),jY (K w.params) base mg xt c P->FnOk l.prog w (K w.params) mg base aM k fa fd [x] (sp w P))
  (hsp:∀(w:agC)(H:Hp)(a P:Addr)(ns:List Int),ns.length<=n->Scr (K w.params) H a ns->H P=some (.tbl #[])->sp w P [.ref a] H (λv _=>v=.bl true) λ_ _ _=>False):
  PySem.W.WalkO q loose XP YP l.row.toRowW d [] (λf vs=>PySem.call f vs):=by
 refine Att.attach_call hn hdf λw s₀ s₁ mg mb fa o pm cd doc a vs ns G Y ho hd hcd hmg hobj hints hlen hg=>?_;have KX:=hY w _ Y;obtain⟨fd,hb,hF⟩:=F w mg fa _ KX G.T.g hmg;obtain⟨c,P,ht,hKP,hm,hH⟩:=M7 (htab w.params);exact Y5 KX G.T.g G.T.b G.T.builtins G.T.nolimit hg G.T.bmain (PySem.W.codeHd_of_K KX hH) (hT w _ Y P hm) hKP hobj hints (afO hlen hn2) hr (λbase kb nb tb=>hF base c P ⟨kb,nb,ht,tb⟩) hb (λH hS hT=>hsp w H a P ns hlen hS hT)
theorem Fun.okC{P:afL}{w:agC}{K:PySem.W.Frag}{mg:Str->Option Value}{base:Heap}{x qual:Str}{st:Stmt}{f c Pt:Addr}{fd:afD}{N ps:List Str}{k:Nat}{sp:Sp}(F:Fun K x qual st f fd)(B:jY K base mg x c Pt)(hm:mg x=some (.ref f))(S:aO N ps (aL st))(len:∀vs H Q E,sp vs H Q E->vs.length=ps.length)
  (hbody:∀(A:afU)(outer:List Env)(s:aeV)(H:Hp)(vs:List V)(Q:VK)(E:XK),Room k (A.deeper (envOfC qual (aL st) s.heap.objs.size f (.ref c)))->sp vs H Q E->
   ∃t,PSs (jS aM P w K mg base N qual (aL st) f (.ref c) A outer s H E).nox (i7 st) t/\t { nx:=λ_ H'=>Q .non H',rt:=Q } (start N vs) H):FnOk P w K mg base aM (k+1) f fd ps sp:=by
 obtain⟨oc,od,kV,doc,pm,an,cdv,ct,osl,rfl,lk,hcd⟩:=F.ex;have e:cdv=.ref c:=PySem.W.law_code B.kin B.ns B.tab hm (B.kin _ _ lk) rfl;subst e;refine IH lk hcd S len λA outer s H vs Q E hr hsp=>?_;obtain⟨t,h,q⟩:=hbody A outer s H vs Q E hr hsp;exact⟨t,h.nox,q⟩
mutual
noncomputable def dI:PyData->PyData->Bool
 | .int i,.int j=>decide (i<j)
 | .tuple ds,.tuple es=>eY ds es
 |_,_=>false
noncomputable def eY:List PyData->List PyData->Bool
 |[],[]=>false
 |[],_::_=>true
 |_::_,[]=>false
 |d::ds,e::es=>if agN d e=true then eY ds es else dI d e
end
mutual
noncomputable def fB:PyData->PyData->Bool
 | .int _,.int _=>true
 | .tuple ds,.tuple es=>cY ds es
 |_,_=>false
noncomputable def cY:List PyData->List PyData->Bool
 |[],_=>true
 |_::_,[]=>true
 |d::ds,e::es=>if agN d e=true then cY ds es else fB d e
end
section
variable{X:Cx}{pins:List (Addr×Obj)}{σ:St}{H:Hp}{s:aeV}
theorem IV{d e:PyData}(h:fB d e=true):(∃i j,d=.int i/\e=.int j)\/∃ds es,d=.tuple ds/\e=.tuple es/\cY ds es=true:=by
 unfold fB at h;split at h
 ·exact .inl ⟨_,_,rfl,rfl⟩
 ·exact .inr ⟨_,_,rfl,rfl,h⟩
 ·cases h
theorem G4{A:afU}{i j:Int}{x y:V}{u v:Value}(hx:Is H x (.int i))(hy:Is H y (.int j))(ru:RelV x u)(rv:RelV y v):kY A s u v (dI (.int i) (.int j)):=by
 cases hx;cases hy;obtain⟨t,rfl⟩:=ru;obtain⟨t2,rfl⟩:=rv;rw[dI];exact YQ
theorem wB(ds:List PyData):(PyData.tuple ds).depth=afI ds+1:=by rw[ag1]
end
section
open PySem.AutoSeq1 (wpAny_loadPart')
variable{prog:afL}{w:agC}{A:afU}{E:Value->aeV->Prop}{s:aeV}
end
section
variable{H:Hp}{K:PySem.W.Frag}
end
end L2
namespace L2
open PySem PySem.Spec PyProof.Rows
section
open PySem.F
theorem YU:typeLookup (.type "list_reverseiterator") "__len__"=pure none:=by rw[typeLookup_type,builtinLookup_eq_fast];kernel_rfl
theorem YV:typeLookup (.type "list_reverseiterator") "__length_hint__"=pure (some (.builtin "list_reverseiterator.__length_hint__")):=by rw[typeLookup_type,builtinLookup_eq_fast];kernel_rfl
theorem ND:isSubtype (.type "list_reverseiterator") (.type "list_reverseiterator")=pure true:=by rw[isSubtype_type];kernel_rfl
variable{prog:afL}{w:agC}{A:afU}{E:Value->aeV->Prop}{s:aeV}
theorem aaS{it l:Addr}{i:Int}{Q:Bool->aeV->Prop}(hr:s.heap.IsRevIter it l i)(h:Q false s):afH (afT prog w) A (af8.List.listLengthHint (.ref it)) Q E s:=by
 unfold af8.List.listLengthHint;refine aeS (wpAny_specialOf hr.typeIs YU ?_);show afH _ _ (specialOf (af4 it) (agW "__length_hint__") >>=_) _ _ _
 refine aeS (wpAny_specialOf hr.typeIs YV ?_);generalize hid:("list_reverseiterator.__length_hint__":String)=id0
 wp_delta
 rw[show splitId id0=some ("list_reverseiterator","__length_hint__") from by subst hid;decide +kernel];subst hid;refine aeS (wpAny_isInstance (T:="list_reverseiterator") (b:=true) hr.typeIs ND ?_);refine ahF (λhab=>absurd hab (by decide)) (λ_=>?_);refine ahF (λ_=>?_) (λhab=>absurd (by decide +kernel) hab);refine ahF (λhab=>absurd hab (by decide +kernel)) (λ_=>?_);exact aeX h
theorem aa9{R:Result->aeV->Prop}{it l:Addr}{items:Array Value}(hh:A.handled=none)(hr:s.heap.IsRevIter it l ((items.size:Int)-1))(hl:s.heap.IsList l items)(hlen:items.size<=1000)(S:Addr)(res:Value)(c₀:Nat)
  (hS:s.heap.get? S=some { cls:=.type "list",data:=.seq #[] c₀ }) (hne:l≠it) (hSl:S≠l)
  (hR:∀h' tk acc' c',(∀b o,b≠S->b≠it->s.heap.get? b=some o->h'.get? b=some o)->h'.get? S=some { cls:=.type "list",dict:=none,data:=.seq acc' c',slots:=#[] }->
   ItemsOf (λi v=>items[items.size-1-i]? =some v) acc' items.size->R (.ok (.ret res)) { s with heap:=h',toks:=tk }):
  afH (afT prog w) A.in1 (af8.List.listExtendWith (.ref S) (.ref it) res)
   (λfin s'=>match fin with| .done f=>R (.ok f) s'| .again c'=>c'.quiet=true/\codeAny (afT prog w) A c' R s') (λe s'=>R (.error e) s') s:=by
 have hSr:S≠it:=λe=>by
  obtain⟨o,ho,hc,_⟩:=hr;rw[e,ho]at hS;cases hS;simp at hc
 have hSf:S∉[it,l]:=λhm=>by
  rcases mem_cons.mp hm with e|e
  ·exact hSr e
  ·exact hSl (mem_singleton.mp e)
 have W:=(Walks.listRev (prog:=prog) (w:=w) (A:=A.in1) hh it l hne items).toS;unfold af8.List.listExtendWith;refine aeS (wpAny_typeOf hr.typeIs ?_);have h1:af8.List.listSameRef (.ref S) (.ref it)=false:=by simp[af8.List.listSameRef,hSr]
 have h2:(agH "list_reverseiterator"==agH "list")=false:=by decide
 have h3:(agH "list_reverseiterator"==agH "tuple")=false:=by decide
 simp only[h1,h2,h3,Bool.or_false,af1,if_false];refine aeS (wpAny_pyIter_revIter hr ?_);refine aeS (af2 (aaS hr ?_));refine ahF (λhab=>absurd hab (by decide)) (λ_=>aeX ⟨agG F.plain_extend_loop _,?_⟩);have e0:(items.size:Int)-1-((0:Nat):Int)=(items.size:Int)-1:=by lia
 refine codeAny_extend_loopS W (agP (dU hlen)) S hSf res items.size 0 _ #[] c₀ rfl (ae2 _) ⟨ae2 _,by rw[e0];exact hr,hl⟩ hS (ItemsOf.nil _) λs' acc' c' hm hS' hacc=>?_;rw[Moved.eq_with hm];refine hR s'.heap s'.toks acc' c' (λb o hb hb2 e=>hm.heap b o (λhmem=>?_) e) hS' hacc;rcases mem_cons.mp hmem with e'|hmem
 ·exact hb e'
 ·exact hb2 (mem_singleton.mp hmem)
theorem ab6{Q:Value->aeV->Prop}{it l:Addr}{items:Array Value}(hh:A.handled=none)(hr:s.heap.IsRevIter it l ((items.size:Int)-1))(hl:s.heap.IsList l items)(hlen:items.size<=1000)(hne:l≠it)
  (hQ:∀h' tk acc' c',(∀b o,b≠it->s.heap.get? b=some o->h'.get? b=some o)->
   h'.get? s.heap.objs.size=some { cls:=.type "list",dict:=none,data:=.seq acc' c',slots:=#[] }->ItemsOf (λi v=>items[items.size-1-i]? =some v) acc' items.size->Q (.ref s.heap.objs.size) { s with heap:=h',toks:=tk }):
  afH (afT prog w) A (call (.type "list") [.ref it]) Q E s:=by
 refine callType_codes (Q₁:=λobj s₁=>obj=.ref s.heap.objs.size/\s₁={ s with heap:=s.heap.push { cls:=.type "list",data:=.seq #[] } }) F.called_list (F.typeCall_list_1 _) F.entry_list_init
  (code_list_new _ ⟨rfl,rfl⟩) λobj s₁ h₁=>?_
 obtain⟨rfl,rfl⟩:=h₁;have hS:(s.heap.push { cls:=.type "list",data:=.seq #[] }).get? s.heap.objs.size=some { cls:=.type "list",data:=.seq #[] }:=aeZ _ rfl;refine⟨⟨_,hS,rfl⟩,F.args_list_init_2 _ _,?_⟩;generalize hSS:s.heap.objs.size=S at *;have hlS:∀b o,s.heap.get? b=some o->b≠S:=λb o e=>hSS▸ae7 (ae1 e);show afH _ _ (do let old <-af8.List.listItems (.ref S);af8.List.listUpdate (.ref S) (λ_=>#[]);letGo old.toList.reverse;af8.List.listExtendWith (.ref S) (.ref it) .none) _ _ _
 refine aeS ?_;unfold af8.List.listItems;refine aeS (ag4 hS rfl (aeX ?_));show afH _ _ (updateSeq S (λ_=>#[]) >>=λ_=>letGo (#[]:Array Value).toList.reverse >>=λ_=>af8.List.listExtendWith (.ref S) (.ref it) .none) _ _ _
 refine aeS (ag2 hS rfl ?_);have hS₂:=ag0 (afA (λ_=>(#[]:Array Value))) hS rfl
 have oth:∀b o,s.heap.get? b=some o->((s.heap.push { cls:=.type "list",data:=.seq #[] }).update S (afA (λ_=>(#[]:Array Value)))).get? b=some o:=
  λb o e=>(ah1 _ _ (afY (hlS b o e))).trans (aeT _ e)
 refine aeS (ahT ?_);have nl:S≠l:=by obtain⟨o,ho,_⟩:=id hl;exact afY (hlS l o ho)
 refine aa9 (A:=A.in1) hh (hr.at λo e=>oth it o e) (hl.at λo e=>oth l o e) hlen S .none _ hS₂ hne nl λh' tk acc' c' hk hS' hacc=>?_;exact⟨rfl,hQ h' tk acc' c' (λb o hb e=>hk b o (hlS b o e) hb (oth b o e)) hS' hacc⟩
end
section
variable{X:Cx}
theorem Z5{its:List Value}{acc:Array Value}(h:ItemsOf (λi v=>its.toArray[its.toArray.size-1-i]? =some v) acc its.toArray.size):acc.toList=its.reverse:=by
 obtain⟨h1,h2⟩:=h;have h1':acc.size=its.length:=by rw[h1,size_toArray]
 refine aiF λi=>?_;by_cases hi:i<its.length
 ·have e1:i<acc.size:=by lia
  have g:=h2 i acc[i] (by simp[e1]);rw[List.getElem?_reverse hi];rw[size_toArray]at g;rw[show acc.toList[i]? =some acc[i] by simp[e1],<-g];simp
 ·rw[af0 (by simp;lia),af0 (by simp;lia)]
noncomputable def qR(K:PySem.W.Frag)(ta:TA):TE:=λσ H Q=>ta σ H λvs H1=>∃a xs,vs=[.ref a]/\SqL K H1 a xs/\xs.length<=1000/\∀p,H1 p=none->Q (.ref p) (upd H1 p (.lst xs.reverse))
theorem UK{e:Expr}{ta:TA}{p1 p2 p3 p4:Pos}(hc:X.calm=true)(hg:Gl X "list")(hm:X.mg "list"=none)(hg2:Gl X "reversed")(hm2:X.mg "reversed"=none)(ha:PA X [e] ta)(hs:af6 [e] X.env=[(false,eval e X.env)]:=by rfl)
  (hs2:af6 [Expr.Call (.Name "reversed" p2) [e] [] p3] X.env=[(false,eval (.Call (.Name "reversed" p2) [e] [] p3) X.env)]:=by rfl):
  PE X (.Call (.Name "list" p1) [.Call (.Name "reversed" p2) [e] [] p3] [] p4) (qR X.K ta):=by
 intro pins s σ H Q I h;refine Call_ (fO I hg hm kP (agM ?_ hs2 rfl));rw[hs2];show afH _ _ (spliced ((false,eval (.Call (.Name "reversed" p2) [e] [] p3) X.env)::backTo p4 [])) _ _ s
 refine Calls.spliced_cons (Call_ (fO I hg2 hm2 acM (agM (aK (ha p3 pins s σ H _ I h) λus s1⟨vs,H1,I1,r1,q1⟩=>?_) hs rfl)));obtain⟨b,xs,e,hq,hz1,q⟩:=q1;subst e;obtain⟨u,rfl,rx⟩:=Vals.one r1;obtain rfl:u=af4 b:=rx;obtain⟨its,rv,pl,hz⟩:=I1.list hq;refine call_reversed_list pl.isList ?_;refine Calls.spliced_nil ?_;have hsz:its.toArray.size=xs.length:=by rw[size_toArray];exact rv.length.symm
 have hblt:b<s1.heap.objs.size:=by obtain⟨o,ho,_⟩:=pl.isList;exact ae1 ho
 have I2:Inv X pins σ H1 { s1 with heap:=s1.heap.push (revObj b ((its.toArray.size:Int)-1)) }:=I1.kept (t':=s1.toks) λc o e=>aeT _ e;have hit:Heap.IsRevIter (s1.heap.push (revObj b ((its.toArray.size:Int)-1))) s1.heap.objs.size b ((its.toArray.size:Int)-1):=⟨_,aeZ _ rfl,rfl,rfl⟩
 have hl2:Heap.IsList (s1.heap.push (revObj b ((its.toArray.size:Int)-1))) b its.toArray:=pl.isList.at λo e=>aeT _ e;refine ab6 (s:={ s1 with heap:=s1.heap.push (revObj b ((its.toArray.size:Int)-1)) }) (I2.ok.hd hc) hit hl2 (by rw[hsz];exact hz1) (ae7 hblt) λh' tk acc c hk hS hacc=>?_;have hv:=Z5 hacc;have hz2:(s1.heap.push (revObj b ((its.toArray.size:Int)-1))).objs.size=s1.heap.objs.size+1:=aiL ..;rw[hz2]at hS;show EP X pins σ Q (.ref (s1.heap.push (revObj b ((its.toArray.size:Int)-1))).objs.size) _
 rw[hz2];refine⟨.ref (s1.heap.objs.size+1),_,I1.laid (t':=tk) (o:=.lst xs.reverse) (λc o e=>hk c o (ae7 (ae1 e)) (aeT _ e)) (Nat.le_succ _) ⟨?_,its.reverse,c,rv.reverse,?_⟩,rfl,q _ (I1.hok.fresh (Nat.le_succ _))⟩
 ·rw[List.length_reverse];exact hz
 ·rw[<-hv];simpa using hS
theorem ZW(K:PySem.W.Frag){e:Expr}{ta:TA}{p1 p2 p3 p4:Pos}(hg:Gl X "list")(hm:X.mg "list"=none)(hg2:Gl X "reversed")(hm2:X.mg "reversed"=none)(ha:PA X [e] ta)(hc:X.calm=true:=by rfl)(h:X.K=K:=by rfl)(hs:af6 [e] X.env=[(false,eval e X.env)]:=by rfl)
  (hs2:af6 [Expr.Call (.Name "reversed" p2) [e] [] p3] X.env=[(false,eval (.Call (.Name "reversed" p2) [e] [] p3) X.env)]:=by rfl):
  PE X (.Call (.Name "list" p1) [.Call (.Name "reversed" p2) [e] [] p3] [] p4) (qR K ta):=h▸UK hc hg hm hg2 hm2 ha hs hs2
theorem SC{K:PySem.W.Frag}{σ:St}{H:Hp}{Q:VK}{ta:TA}(h:ta σ H λvs H1=>∃a xs,vs=[.ref a]/\SqL K H1 a xs/\xs.length<=1000/\∀p,H1 p=none->Q (.ref p) (upd H1 p (.lst xs.reverse))):qR K ta σ H Q:=h
end
end L2
namespace L2
open PySem PySem.Spec PyProof.Rows
noncomputable def kZ(K:PySem.W.Frag)(a b:Addr):It:=
 ⟨λi H=>∃xs ys x y,SqL K H a xs/\SqL K H b ys/\xs[i]? =some x/\ys[i]? =some y,λi H v H'=>∃T x y,v=.ref T/\H T=none/\(∀xs,SqL K H a xs->xs[i]? =some x)/\(∀ys,SqL K H b ys->ys[i]? =some y)/\H'=upd H T (.tup [x,y]),λi H=>∃xs ys,SqL K H a xs/\SqL K H b ys/\xs.length<=i⟩
structure J7 (z TI TO i1 i2:Addr):Prop where
 TIz:TI≠z
 TOz:TO≠z
 i1z:i1≠z
 i2z:i2≠z
 TITO:TI≠TO
 TIi1:TI≠i1
 TIi2:TI≠i2
 TOi1:TO≠i1
 TOi2:TO≠i2
 i12:i1≠i2
noncomputable def BF(a b z TI TO i1 i2:Addr)(i:Nat)(h:Heap):Prop:=IsZip h z TI TO .none/\IsPair h TI (.ref i1) (.ref i2)/\(∃u v,IsPair h TO u v)/\h.IsListIter i1 a i/\h.IsListIter i2 b i
theorem BE{a b z TI TO i1 i2:Addr}{i:Nat}{h:Heap}{us ws:Array Value}(D:J7 z TI TO i1 i2)(st:BF a b z TI TO i1 i2 i h)(ha:h.IsList a us)(hb:h.IsList b ws):ZipApart z TI TO i1 i2 a b:=by
 obtain⟨hz,hTI,⟨u,v,hTO⟩,⟨o1,e1,c1,_⟩,⟨o2,e2,c2,_⟩⟩:=st
 have ne:∀(l:Addr)(us:Array Value),h.IsList l us->∀b,(∃o,h.get? b=some o/\o.cls≠.type "list")->l≠b:=λl us hl b⟨o,eo,co⟩z=>by
  obtain⟨o',e',c',_⟩:=hl;rw[z,eo]at e';cases e';exact co c'
 have nz:∃o,h.get? z=some o/\o.cls≠.type "list":=⟨_,hz,λx=>by simp at x⟩
 have nO:∃o,h.get? TO=some o/\o.cls≠.type "list":=⟨_,hTO,λx=>by simp at x⟩
 have n1:∃o,h.get? i1=some o/\o.cls≠.type "list":=⟨_,e1,λx=>by rw[c1]at x;simp at x⟩
 have n2:∃o,h.get? i2=some o/\o.cls≠.type "list":=⟨_,e2,λx=>by rw[c2]at x;simp at x⟩
 exact⟨D.TIz,D.TOz,D.i1z,D.i2z,D.TITO,D.TIi1,D.TIi2,D.TOi1,D.TOi2,D.i12,ne a us ha z nz,ne a us ha TO nO,ne a us ha i1 n1,ne a us ha i2 n2,ne b ws hb z nz,ne b ws hb TO nO,ne b ws hb i1 n1,ne b ws hb i2 n2⟩
theorem MQ{P:afL}{w:agC}{K:PySem.W.Frag}{elts:List Expr}{k:Nat}{pos:Pos}(a b z TI TO i1 i2:Addr)(D:J7 z TI TO i1 i2):kU P w K (.Tuple elts k pos) (kZ K a b) [z,TI,TO,i1,i2] z (BF a b z TI TO i1 i2) where
 mem:=by simp
 obj:=λi h st c hc=>by
  obtain⟨hz,hTI,⟨u,v,hTO⟩,⟨o1,e1,c1,d1⟩,⟨o2,e2,c2,d2⟩⟩:=st;simp only[mem_cons,not_mem_nil,or_false]at hc;rcases hc with rfl|rfl|rfl|rfl|rfl
  ·exact⟨_,hz,λv z=>by cases z⟩
  ·exact⟨_,hTI,λv z=>by cases z⟩
  ·exact⟨_,hTO,λv z=>by cases z⟩
  ·exact⟨_,e1,λv z=>by rw[d1]at z;cases z⟩
  ·exact⟨_,e2,λv z=>by rw[d2]at z;cases z⟩
 keep:=λi h h' st kk=>by
  obtain⟨hz,hTI,⟨u,v,hTO⟩,h1,h2⟩:=st;exact⟨kk z (by simp) _ hz,kk TI (by simp) _ hTI,⟨u,v,kk TO (by simp) _ hTO⟩,h1.at λo x=>kk i1 (by simp) o x,h2.at λo x=>kk i2 (by simp) o x⟩
 item:=by
  intro X hP hw hK hc i pins s σ H E I hf st hg;subst hP hw hK;obtain⟨xs,ys,x,y,hqa,hqb,hx,hy⟩:=hg;obtain⟨ia,ra,pa,_⟩:=I.list hqa;obtain⟨ib,rb,pb,_⟩:=I.list hqb;obtain⟨ux,hux,rux⟩:=ra.get hx;obtain⟨uy,huy,ruy⟩:=rb.get hy;have A:=BE D st pa.isList pb.isList;obtain⟨hz,hTI,⟨u,v,hTO⟩,h1,h2⟩:=id st;have zlt:z<s.heap.objs.size:=ae1 hz;have TOlt:TO<s.heap.objs.size:=ae1 hTO;have TIlt:TI<s.heap.objs.size:=ae1 hTI;have i1lt:i1<s.heap.objs.size:=by obtain⟨_,e,_⟩:=h1;exact ae1 e
  have i2lt:i2<s.heap.objs.size:=by obtain⟨_,e,_⟩:=h2;exact ae1 e
  refine wpAny_pyNext_zip_item A hz hTI hTO h1 h2 pa.isList pb.isList (x:=ux) (y:=uy) (by simpa using hux) (by simpa using huy) λh' a1 a2 a3 a4 a5 a6 hk=>?_;have hTH:H s.heap.objs.size=none:=I.hok.fresh (aeU _);generalize hTT:s.heap.objs.size=T at *;refine⟨_,rfl,?_⟩;refine wpAny_letOwnedTupleGo_zip a1 λh2' hz' hs'=>?_;have keep:∀c o,c≠z->c≠TO->c≠i1->c≠i2->s.heap.get? c=some o->h2'.get? c=some o:=λc o c1 c2 c3 c4 e=>hs'.extBut _ _ c1 (hk c o c1 c2 c3 c4 e);have nT:∀c,c<T->T≠c:=λc hc z=>absurd hc (by rw[z];exact agJ _);have eT:IsPair h2' T ux uy:=hs'.extBut _ _ (nT z zlt) a5
  have J:Inv X pins σ (upd H T (.tup [x,y])) { s with heap:=h2',toks:=s.toks }:=by
   refine I.step (g':=s.gens) (d':=s.drawn) (ch:=[z,TO,i1,i2]) (λc hc=>?_) (λc o _ _ hc eo _=>?_) (λc o _ _ hc eo _=>⟨o.slots,?_⟩) (λc o _ eo n=>?_)
    (λc o hc eo=>⟨o,?_⟩) (λc xs q=>?_) (λc o u q=>?_) (λc ps q=>?_) (λm hm=>?_) (λc u q=>?_) I.bare
   ·obtain⟨f0,f1,f2,f3,f4,f5⟩:=hf c (by simp only[mem_cons,not_mem_nil,or_false]at hc ⊢;rcases hc with h|h|h|h <;> simp[h]);exact⟨f3,f1,f4,f5⟩
   ·exact keep c o (λz=>hc (by simp[z])) (λz=>hc (by simp[z])) (λz=>hc (by simp[z])) (λz=>hc (by simp[z])) eo
   ·exact keep c o (λz=>hc (by simp[z])) (λz=>hc (by simp[z])) (λz=>hc (by simp[z])) (λz=>hc (by simp[z])) eo
   ·rw[aD (ae7 (hTT▸ae1 eo))];exact n
   ·exact keep c o (λz=>hc (by simp[z])) (λz=>hc (by simp[z])) (λz=>hc (by simp[z])) (λz=>hc (by simp[z])) eo
   ·rw[aD (aW q hTH)];exact q
   ·rw[aD (aW q hTH)];exact q
   ·exact⟨#[],by rw[aD (aW q hTH),q];simp⟩
   ·obtain⟨o,es,ep,eo,r⟩:=hm;exact⟨o,es,ep,keep _ o (afY (hf z (by simp)).2.1) (afY (hf TO (by simp)).2.1) (afY (hf i1 (by simp)).2.1) (afY (hf i2 (by simp)).2.1) eo,r⟩
   ·by_cases hb:c=T
    ·subst hb;rw[aB]at q;cases q;exact⟨by show 2<=sizeLine;decide,[ux,uy],.cons rux (.cons ruy .nil),⟨_,eT,rfl,_,rfl⟩,_,eT,rfl⟩
    ·rw[aD hb]at q
     have ap:∀d∈[z,TI,TO,i1,i2],∀c',(c'=c\/H c'=some (.own c))->c'≠d:=λd hd c' hc' e=>by
      have f0:=(hf d hd).1;subst e;rcases hc' with rfl|hc'
      ·rw[f0]at q;cases q
      ·rw[f0]at hc';cases hc'
     refine(I.hok c u q).stay (λc' v hc' r=>keep c' v (ap z (by simp) c' hc') (ap TO (by simp) c' hc') (ap i1 (by simp) c' hc') (ap i2 (by simp) c' hc') r) (λc r=>by rw[aD (aW r hTH)];exact r) λc xs r=>by rw[aD (aW r hTH)];exact r
  refine⟨.ref T,_,J,rfl,⟨T,x,y,rfl,hTH,λzs hz=>by rw[I.list_inj hz hqa];exact hx,λzs hz=>by rw[I.list_inj hz hqb];exact hy,rfl⟩,⟨hz',?_,⟨_,_,hs'.extBut _ _ D.TOz a2⟩,a3.extBut hs'.extBut D.i1z,a4.extBut hs'.extBut D.i2z⟩,λc hb=>?_⟩
  ·exact keep _ _ D.TIz D.TITO D.TIi1 D.TIi2 hTI
  ·rw[aD (λe=>?_)]
   ·exact(hf c hb).1
   ·subst e;simp only[mem_cons,not_mem_nil,or_false]at hb;rcases hb with rfl|rfl|rfl|rfl|rfl
    ·exact nT _ zlt rfl
    ·exact nT _ TIlt rfl
    ·exact nT _ TOlt rfl
    ·exact nT _ i1lt rfl
    ·exact nT _ i2lt rfl
 done:=by
  intro X hP hw hK hc i pins s σ H E I hf st hg;subst hP hw hK;obtain⟨xs,ys,hqa,hqb,hx⟩:=hg;obtain⟨ia,ra,pa,_⟩:=I.list hqa;obtain⟨ib,rb,pb,_⟩:=I.list hqb;have A:=BE D st pa.isList pb.isList;obtain⟨hz,hTI,⟨u,v,hTO⟩,h1,h2⟩:=id st;have hl:=ra.length;refine wpAny_pyNext_zip_end (I.ok.hd hc) A hz hTI hTO h1 h2 pa.isList pb.isList (.inl (by simp;lia)) λh' hk=>⟨rfl,?_⟩
  show Inv X pins σ H { s with heap:=h',toks:=s.toks }
  refine I.step (g':=s.gens) (d':=s.drawn) (ch:=[z,TO,i1,i2]) (λc hc=>?_) (λc o _ _ hc eo _=>?_) (λc o _ _ hc eo _=>⟨o.slots,?_⟩) (λc o _ eo n=>n)
   (λc o hc eo=>⟨o,?_⟩) (λc xs q=>q) (λc o u q=>q) (λc ps q=>⟨#[],by rw[q];simp⟩) (λm hm=>?_) (λc u q=>?_) I.bare
  ·obtain⟨f0,f1,f2,f3,f4,f5⟩:=hf c (by simp only[mem_cons,not_mem_nil,or_false]at hc ⊢;rcases hc with h|h|h|h <;> simp[h]);exact⟨f3,f1,f4,f5⟩
  ·exact hk c o (λz=>hc (by simp[z])) (λz=>hc (by simp[z])) (λz=>hc (by simp[z])) (λz=>hc (by simp[z])) eo
  ·exact hk c o (λz=>hc (by simp[z])) (λz=>hc (by simp[z])) (λz=>hc (by simp[z])) (λz=>hc (by simp[z])) eo
  ·exact hk c o (λz=>hc (by simp[z])) (λz=>hc (by simp[z])) (λz=>hc (by simp[z])) (λz=>hc (by simp[z])) eo
  ·obtain⟨o,es,ep,eo,r⟩:=hm;exact⟨o,es,ep,hk _ o (afY (hf z (by simp)).2.1) (afY (hf TO (by simp)).2.1) (afY (hf i1 (by simp)).2.1) (afY (hf i2 (by simp)).2.1) eo,r⟩
  ·have ap:∀d∈[z,TI,TO,i1,i2],∀c',(c'=c\/H c'=some (.own c))->c'≠d:=λd hd c' hc' e=>by
    have f0:=(hf d hd).1;subst e;rcases hc' with rfl|hc'
    ·rw[f0]at q;cases q
    ·rw[f0]at hc';cases hc'
   exact(I.hok c u q).stay (λc' v hc' r=>hk c' v (ap z (by simp) c' hc') (ap TO (by simp) c' hc') (ap i1 (by simp) c' hc') (ap i2 (by simp) c' hc') r) (λc r=>r) λc xs r=>r
 self:=λA i s Q E st h=>wpAny_pyIter_zip st.1 h
noncomputable def vP(K:PySem.W.Frag)(ta:TA):TI:=λσ H R=>ta σ H λvs H1=>∃a b,vs=[.ref a,.ref b]/\(∃xs,SqL K H1 a xs)/\(∃ys,SqL K H1 b ys)/\R (kZ K a b) H1
theorem gY{a b:Nat}(h:¬a=b):@Ne Addr a b:=h
theorem T9{X:Cx}{elts:List Expr}{k:Nat}{tp:Pos}{a b:Expr}{ta:TA}{p pos:Pos}(hg:Gl X "zip")(hm:X.mg "zip"=none)(ha:PA X [a,b] ta)(hs:af6 [a,b] X.env=[(false,eval a X.env),(false,eval b X.env)]:=by rfl)(hs2:af6 [b] X.env=[(false,eval b X.env)]:=by rfl):
  PI X (.Tuple elts k tp) (.Call (.Name "zip" p) [a,b] [] pos) (vP X.K ta):=by
 intro pins s σ H R I h;refine Call_ (fO I hg hm acK (agM (aK (ha pos pins s σ H _ I h) λus s1⟨vs,H1,I1,r1,q1⟩=>?_) (by rw[hs,hs2]) (by rw[hs2];rfl)));obtain⟨x,y,e,⟨xs,hqa⟩,⟨ys,hqb⟩,q⟩:=q1;subst e
 cases r1 with
 |@cons _ u _ us rx r2=>
 cases r2 with
 |@cons _ u2 _ us2 ry r3=>
 cases r3;obtain rfl:u=af4 x:=rx;obtain rfl:u2=af4 y:=ry;obtain⟨ia,ra,pa,_⟩:=I1.list hqa;obtain⟨ib,rb,pb,_⟩:=I1.list hqb;refine call_zip_2 pa.isList pb.isList λh' hz hTI hTO kK gG hsz hk=>?_;refine wpAny_pyIter_zip hz ?_;have I2:Inv X pins σ H1 { s1 with heap:=h',toks:=s1.toks }:=I1.kept hk;refine⟨s1.heap.objs.size+4,[s1.heap.objs.size+4,s1.heap.objs.size+2,s1.heap.objs.size+3,s1.heap.objs.size,s1.heap.objs.size+1],_,_,H1,rfl,I2,MQ x y (s1.heap.objs.size+4) (s1.heap.objs.size+2) (s1.heap.objs.size+3) s1.heap.objs.size (s1.heap.objs.size+1) ⟨gY (by lia),gY (by lia),gY (by lia),gY (by lia),gY (by lia),gY (by lia),gY (by lia),gY (by lia),gY (by lia),gY (by lia)⟩,⟨hz,hTI,⟨_,_,hTO⟩,kK,gG⟩,λc hb=>?_,q⟩
 have hc:s1.heap.objs.size<=c:=by
  simp only[mem_cons,not_mem_nil,or_false]at hb;rcases hb with rfl|rfl|rfl|rfl|rfl
  ·exact Nat.le_add_right _ _
  ·exact Nat.le_add_right _ _
  ·exact Nat.le_add_right _ _
  ·exact aeU _
  ·exact Nat.le_add_right _ _
 exact I1.fpOk hc (I1.hok.fresh hc)
section
variable{H:Hp}{K:PySem.W.Frag}
theorem ZR(K:PySem.W.Frag){X:Cx}{elts:List Expr}{k:Nat}{tp:Pos}{a b:Expr}{ta:TA}{p pos:Pos}(hg:Gl X "zip")(hm:X.mg "zip"=none)(ha:PA X [a,b] ta)(hs:af6 [a,b] X.env=[(false,eval a X.env),(false,eval b X.env)]:=by rfl)(hs2:af6 [b] X.env=[(false,eval b X.env)]:=by rfl)(h:X.K=K:=by rfl):
  PI X (.Tuple elts k tp) (.Call (.Name "zip" p) [a,b] [] pos) (vP K ta):=h▸T9 hg hm ha hs hs2
theorem Q7{σ:St}{ta:TA}{R:It->Hp->Prop}(h:ta σ H λvs H1=>∃a b,vs=[.ref a,.ref b]/\(∃xs,SqL K H1 a xs)/\(∃ys,SqL K H1 b ys)/\R (kZ K a b) H1):vP K ta σ H R:=h
theorem YW{a b:Addr}{xs ys:List V}{G:List V->Hp->Prop}{B:(List V->Hp->Prop)->List V->V->Hp->Prop}(hn:xs.length<=sizeLine)(he:ys.length=xs.length)(Pv:Nat->List V->Hp->Prop)(h0:Pv 0 [] H)(hlen:∀i zs H,Pv i zs H->zs.length<=i)
  (hl:∀i zs H,i<=xs.length->Pv i zs H->SqL K H a xs/\SqL K H b ys) (hs:∀i x y zs H T,xs[i]? =some x->ys[i]? =some y->Pv i zs H->H T=none->B (Pv (i+1)) zs (.ref T) (upd H T (.tup [x,y]))) (hd:∀zs H,Pv xs.length zs H->G zs H):
  ∃W:Nat->Nat->List V->Hp->Prop,(∃m,W 0 m [] H)/\∀i m zs H,W i m zs H->((kZ K a b).stop i H/\G zs H)\/((kZ K a b).go i H/\zs.length<sizeLine/\
   ∃N:List V->Hp->Prop,(∀zs' H',N zs' H'->∃m',m'<m/\W (i+1) m' zs' H')/\∀x H',(kZ K a b).yld i H x H'->B N zs x H'):=by
 refine⟨λi m zs H=>m=xs.length-i/\i<=xs.length/\Pv i zs H,⟨xs.length,by simp,ae2 _,h0⟩,?_⟩;rintro i m zs H ⟨rfl,hi,p⟩;have hly:=hlen i zs H p;obtain⟨qa,qb⟩:=hl i zs H hi p;by_cases hlt:i<xs.length
 ·have hlt2:i<ys.length:=by lia
  refine .inr ⟨⟨xs,ys,xs[i],ys[i],qa,qb,by simp[hlt],by simp[hlt2]⟩,by lia,Pv (i+1),λzs' H' p'=>⟨xs.length-(i+1),by lia,rfl,hlt,p'⟩,λx H' y=>?_⟩;obtain⟨T,u,v,e,hT,hu,hv,e2⟩:=y;subst e e2;exact hs i u v zs _ T (hu xs qa) (hv ys qb) p hT
 ·have e:i=xs.length:=by lia
  subst e;exact .inl ⟨⟨xs,ys,qa,qb,aeU _⟩,hd zs H p⟩
end
section
variable{X:Cx}{pins p1 p2:List (Addr×Obj)}{σ:St}{H:Hp}{s:aeV}
theorem XC{K:PySem.W.Frag}{l q S It:Addr}{oq:Obj}{xs:List V}{lt:R2}{te:TE}{f:V->St}{G:Hp->Prop}{W:Nat->Nat->V->Hp->Prop}{Q:VK}{R:Result->aeV->Prop}(hh:X.A.handled=none)
  (M:AS K σ l xs lt te f G W Q) (hlt:OpR X.in1.nox (agD .Gt) lt) (oS:Ow X ((It,oq)::(q,oq)::pins) S) (oI:Ow X ((S,oq)::(q,oq)::pins) It)
  (iZ:∀(pl:List (Addr×Obj))(H:Hp)(s:aeV)(v:V)(u:Value)(Q:VK),(q,oq)∈pl->Inv X.in1 pl σ H s->G H->RelV v u->te (f v) H Q->afH (afT X.prog X.w) X.A.in1 (call (.ref q) [u]) (EP X.in1 pl σ Q) (λ_ _=>False) s)
  (hR:∀(v:V)(u:Value)(H:Hp)(s:aeV),Inv X pins σ H s->RelV v u->Q v H->R (.ok (.ret u)) s):
  ∀(r j b:Nat)(H:Hp)(s:aeV)(xb k:V)(vb kb:Value)(c:Nat)(ob:Obj),xs.length-j=r->j<=xs.length->Inv X.in1 ((S,afC "list" #[vb,kb] c)::(It,ob)::(q,oq)::pins) σ H s->s.heap.IsListIter It l j->xs[b]? =some xb->RelV xb vb->RelV k kb->W j b k H->
   codeAny (afT X.prog X.w) X.A (.builtin "max.loop" ⟨[.ref It,.ref q,.ref S],[]⟩) R s:=by
 have hname:(aiJ "max"++aiJ ".loop":String)="max.loop":=by decide
 have hSI:S≠It:=λz=>oS.pin (It,oq) (mem_append_right _ mem_cons_self) z.symm;intro r
 induction r with
 | zero=>
  intro j b H s xb k vb kb c ob hr hj I hit hxb rb rk w;have hin:j=xs.length:=by lia
  subst hin;obtain⟨hl,hG⟩:=M.lst _ _ _ _ w;obtain⟨its,rv,pl,_⟩:=I.list (SqL.of hl);have lenI:its.length=xs.length:=rv.length.symm
  have hlI:l≠It:=λz=>by
   have:=(I.pin (It,ob) (mem_append_right _ (mem_cons_of_mem _ mem_cons_self))).2.1;rw[<-z,hl]at this;cases this
  have Wk:=aiE (prog:=X.prog) (w:=X.w) (A:=X.A.in1) hh It l hlI its.toArray;have nS:=(I.pin (S,afC "list" #[vb,kb] c) (mem_append_right _ mem_cons_self)).1;refine af5 ag7 ?_;rw[afU.under_plainId afR _];show afH _ X.A.in1 (seqItems? (.ref S) >>=_) _ _ _
  refine aeS (ag4 nS rfl ?_);show afH _ X.A.in1 (aiN (aiO (.ref It)) _ >>=_) _ _ _
  refine aeS (agO (Wk.done _ _ _ ⟨by rw[size_toArray,lenI];exact hit,pl.isList⟩ λh' tk' hk'=>?_));have hk:∀b u,b≠It->s.heap.get? b=some u->h'.get? b=some u:=λb u hb e=>hk' b u (by simpa using hb) e
  have I1:Inv X.in1 ((S,afC "list" #[vb,kb] c)::(q,oq)::pins) σ H s:=I.pins_of λp hp=>I.pin p (mem_append_right _ (by
   rcases mem_cons.mp hp with rfl|z
   ·exact mem_cons_self
   ·exact mem_cons_of_mem _ (mem_cons_of_mem _ z)))
  have oI':Ow X.in1 ((S,afC "list" #[vb,kb] c)::(q,oq)::pins) It:=⟨oI.loc,oI.fs,oI.new,oI.cel,λp hp=>by
   rcases mem_append.mp hp with z|z
   ·exact oI.pin p (mem_append_left _ z)
   ·rcases mem_cons.mp z with rfl|z
    ·exact hSI
    ·exact oI.pin p (mem_append_right _ (mem_cons_of_mem _ z))⟩
  have I2:=I1.turned (h':=h') (t':=tk') hk (I.pin (It,ob) (mem_append_right _ (mem_cons_of_mem _ mem_cons_self))).2.1 oI'.loc oI'.new oI'.cel oI'.pin;have hS':=hk S _ hSI nS;have s1:=afS h' S (afA λ_=>(#[]:Array Value));show afH _ X.A.in1 (updateSeq S (λ_=>#[]) >>=_) _ _ _
  refine aeS ?_;refine ag2 hS' rfl (aeS (ahT (aeX ?_)));have I3:Inv X.in1 ((q,oq)::pins) σ H { s with heap:=h',toks:=tk' }:=I2.pins_of λp hp=>I2.pin p (mem_append_right _ (mem_cons_of_mem _ hp));have hSn:=(I2.pin (S,afC "list" #[vb,kb] c) (mem_append_right _ mem_cons_self)).2.1
  have oS':Ow X.in1 ((q,oq)::pins) S:=⟨oS.loc,oS.fs,oS.new,oS.cel,λp hp=>by
   rcases mem_append.mp hp with z|z
   ·exact oS.pin p (mem_append_left _ z)
   ·exact oS.pin p (mem_append_right _ (mem_cons_of_mem _ z))⟩
  have I4:=I3.turned (h':=h'.update S (afA λ_=>(#[]:Array Value))) (t':=tk') (λb u hb e=>s1.extBut b u hb e) hSn oS'.loc oS'.new oS'.cel oS'.pin;have I5:Inv X.in1 pins σ H { s with heap:=h'.update S (afA λ_=>(#[]:Array Value)),toks:=tk' }:=I4.pins_of λp hp=>I4.pin p (mem_append_right _ (mem_cons_of_mem _ hp))
  exact hR xb vb H _ I5.out1 rb (M.fin b k H xb w hxb)
 | succ r ih=>
  intro j b H s xb k vb kb c ob hr hj I hit hxb rb rk w;have hlt':j<xs.length:=by lia
  obtain⟨hl,hG⟩:=M.lst _ _ _ _ w;obtain⟨its,rv,pl,_⟩:=I.list (SqL.of hl);have lenI:its.length=xs.length:=rv.length.symm
  have hlI:l≠It:=λz=>by
   have:=(I.pin (It,ob) (mem_append_right _ (mem_cons_of_mem _ mem_cons_self))).2.1;rw[<-z,hl]at this;cases this
  have Wk:=aiE (prog:=X.prog) (w:=X.w) (A:=X.A.in1) hh It l hlI its.toArray;have nS:=(I.pin (S,afC "list" #[vb,kb] c) (mem_append_right _ mem_cons_self)).1;refine af5 ag7 ?_;rw[afU.under_plainId afR _];show afH _ X.A.in1 (seqItems? (.ref S) >>=_) _ _ _
  refine aeS (ag4 nS rfl ?_);show afH _ X.A.in1 (aiN (aiO (.ref It)) _ >>=_) _ _ _
  refine aeS (agO (Wk.item j _ _ _ (by rw[size_toArray,lenI];exact hlt') ⟨hit,pl.isList⟩ λv h' tk' hP hst' hk'=>?_));have hv:its[j]? =some v:=by simpa using hP
  obtain⟨x,hx⟩:∃x,xs[j]? =some x:=⟨_,aeY hlt'⟩
  have rx:RelV x v:=by
   obtain⟨u,hu,ru⟩:=rv.get hx;rw[hv]at hu;cases hu;exact ru
  obtain⟨oI',hoI',hoc,hod⟩:=id hst'.1;have hk:∀b u,b≠It->s.heap.get? b=some u->h'.get? b=some u:=λb u hb e=>hk' b u (by simpa using hb) e
  have I1:Inv X.in1 ((S,afC "list" #[vb,kb] c)::(It,oI')::(q,oq)::pins) σ H { s with heap:=h',toks:=tk' }:=
   Inv.repin (p1:=[(S,afC "list" #[vb,kb] c)]) I ⟨oI.loc,oI.fs,oI.new,oI.cel,λp hp=>by
    rcases mem_append.mp hp with z|z
    ·exact oI.pin p (mem_append_left _ z)
    ·rcases mem_cons.mp z with rfl|z
     ·exact hSI
     ·exact oI.pin p (mem_append_right _ (mem_cons_of_mem _ z))⟩ hk hoI' (λv z=>by rw[hod]at z;cases z)
  have mq:(q,oq)∈((S,afC "list" #[vb,kb] c)::(It,oI')::(q,oq)::pins):=mem_cons_of_mem _ (mem_cons_of_mem _ mem_cons_self);show afH _ X.A.in1 (aiN (holding [v] (call (.ref q) [v])) _ >>=_) _ _ _
  refine aeS (agO (af2 (agS (iZ _ H _ x v _ mq I1 hG rx (M.turn j b k H x w hx)) (λu2 s2⟨k2,H2,I2,r2,q2⟩=>?_) λ_ _ hF=>(show False from hF).elim)));show afH _ X.A.in1 (aiN (holding [v,u2] (richCompare .Gt u2 kb >>=_)) _ >>=_) _ _ _
  refine aeS (agO (af2 (aeS (agS (hlt _ s2 σ H2 k2 k u2 kb _ (I2.wish _) r2 rk q2) (λu3 s3⟨z,H3,I3w,r3,cc,ez,q3⟩=>?_) λe s' hF=>(show False from hF).elim))))
  ·have I3:=I3w.unwish;subst ez;obtain rfl:u3=aiK cc:=r3;refine aeS (af2 (agT ?_));refine aeS (ahT (aeX ?_));have nS3:=(I3.pin (S,afC "list" #[vb,kb] c) (mem_append_right _ mem_cons_self)).1;have nI3:=(I3.pin (It,oI') (mem_append_right _ (mem_cons_of_mem _ mem_cons_self))).1;have hit3:s3.heap.IsListIter It l (j+1):=⟨oI',nI3,hoc,hod⟩
   cases cc with
   | true=>
    have s1:=afS s3.heap S (afA λ_=>#[v,u2]);obtain⟨c2,hc2⟩:∃c2,(s3.heap.update S (afA λ_=>#[v,u2])).get? S=some (afC "list" #[v,u2] c2):=⟨_,agR nS3 λ_=>#[v,u2]⟩
    simp only[if_true];refine aeS ?_;refine ag2 nS3 rfl (aeS (ahT ?_));rw[hname];rw[if_pos rfl]at q3
    have I4:Inv X.in1 ((S,afC "list" #[v,u2] c2)::(It,oI')::(q,oq)::pins) σ H3 { s3 with heap:=s3.heap.update S (afA λ_=>#[v,u2]),toks:=s3.toks }:=
     Inv.repin (p1:=[]) I3 ⟨oS.loc,oS.fs,oS.new,oS.cel,λp hp=>by
      rcases mem_append.mp hp with z|z
      ·exact oS.pin p (mem_append_left _ z)
      ·rcases mem_cons.mp z with rfl|z
       ·exact afY hSI
       ·exact oS.pin p (mem_append_right _ (mem_cons_of_mem _ z))⟩ (λb u hb e=>s1.extBut b u hb e) hc2 (λv z=>by cases z)
    exact aeX ⟨agG afR _,ih (j+1) j H3 _ x k2 v u2 c2 oI' (by lia) hlt' I4 ⟨oI',(s1.2 It (afY hSI)).trans nI3,hoc,hod⟩ hx rx r2 q3⟩
   |false=>
    simp only[af1,if_false];refine aeS (ahT ?_);rw[hname];rw[if_neg afK]at q3;exact aeX ⟨agG afR _,ih (j+1) b H3 _ xb k vb kb c oI' (by lia) hlt' I3 hit3 hxb rb rk q3⟩
noncomputable def CP(K:PySem.W.Frag)(P:Addr)(qual:Str)(pos:Pos)(fm:List (Option Nat))(lt:R2)(ta:TA)(te:TE):TE:=λσ H Q=>ta σ H λvs H1=>cO H1 P qual pos/\∃l xs x0,vs=[.ref l]/\xs[0]? =some x0/\
 ∀(c:Addr)(H2:Hp),SameT P H1 H2->jZ H2 P qual pos c->H2 l=some (.lst xs)/\∃W:Nat->Nat->V->Hp->Prop,AS K σ l xs lt te (λv=>(bR fm σ).set 0 (some v)) (λH=>H c=some (.ext (i8 c qual))) W Q/\
  te ((bR fm σ).set 0 (some x0)) H2 λk H3=>W 1 0 k H3
theorem UI{e:Expr}{params:Arguments}{body:Expr}{sc:Scope}{p pos lpos kpos:Pos}{c P:Addr}{lt:R2}{tl:TA}{te:TE}{M:List Str}{fm:List (Option Nat)}{y:Str}(hc:X.calm=true)(hroom:X.A.depth<recursionLimit)(hg:Gl X "max")(hm:X.mg "max"=none)
  (hl:PA X [e] tl) (B:mL X.base X.mg c P) (hcode:X.env.code=.ref c) (hd1:params.defaults=[]) (hd2:params.kw_defaults=[]) (fr:FrOk X.env sc.names) (hk:sc.kind=.function) (hco:sc.isCoroutine=false) (hgen:sc.isGenerator=false) (hfm:FmOk X.N sc M fm) (hM:M[0]? =some y) (hy:sc.names.lookup y=some .local)
  (hb:∀(cl:List (Str×Addr))(pm cd ct u:Value),bindArgs (PySem.W.kla_fn "<lambda>" (X.env.qual++"<lambda>") params body sc cl pm cd ct) ⟨[u],[]⟩=pure [(y,u)]) (hlt:OpR X.in1.nox (agD .Gt) lt)
  (hB:∀q cd s H,PE (iZ X.in1 (X.env.qual++"<lambda>") sc M q cd s H) body te)
  (he:af6 [e] X.env=[(false,eval e X.env)]:=by rfl):
  PE X (.Call (.Name "max" p) [e] [⟨some "key",.Lambda params body sc lpos,kpos⟩] pos) (CP X.K P (X.env.qual++"<lambda>") lpos fm lt tl te):=by
 intro pins s σ H Q I h;have hname:(aiJ "max"++aiJ ".loop":String)="max.loop":=by decide
 refine ah5 (fO I hg hm (show af9 "max"=some (.builtin "max") by first|rfl|exact yJ) ?_ (by decide) (by decide));refine callWith_kw ?_ (by rw[he];rfl) (by rw[he];rfl) rfl rfl;refine aK (hl pos pins s σ H _ I h) λus s1⟨vs,H1,I1,r1,tb,l,xs,x0,ex,hx0,hW⟩=>?_;subst ex;obtain⟨u,rfl,rx1⟩:=Vals.one r1;obtain rfl:u=af4 l:=rx1;show afH _ _ (evalAll [(do let v <-eval (.Lambda params body sc lpos) X.env;standAt pos;pure v)]) _ _ s1
 refine wpAny_evalAll_cons (aeS (Y8 (body:=body) I1 fr B hcode hd1 hd2 tb λq c' ct H2 s2 I2 sm tc=>aeS (wpAny_standAt (aeX (wpAny_evalAll_nil ?_)))));obtain⟨hl2,W,MW,w0⟩:=hW c' H2 sm tc;have hh:X.A.handled=none:=I.ok.hd hc;generalize hoq:({ cls:=.type "function",data:=.func (PySem.W.kla_fn "<lambda>" (X.env.qual++"<lambda>") params body sc (cZ X.env sc.names []) ((X.mg "__name__").getD .none) (.ref c') ct) }:Obj)=oq at I2;have I2':=I2.in1;obtain⟨its,rv,pl,_⟩:=I2'.list (SqL.of hl2);have lenI:its.length=xs.length:=rv.length.symm
 have hlc:∀(pl:List (Addr×Obj))(H:Hp)(s:aeV)(v:V)(u:Value)(Q:VK),(q,oq)∈pl->Inv X.in1 pl σ H s->H c'=some (.ext (i8 c' (X.env.qual++"<lambda>")))->RelV v u->te ((bR fm σ).set 0 (some v)) H Q->
   afH (afT X.prog X.w) X.A.in1 (call (.ref q) [u]) (EP X.in1 pl σ Q) (λ_ _=>False) s:=λpl H s v u Q mq J hG r ht=>
  ZA (X:=X.in1) J hh hroom fr hk hco hgen hfm hM hy (by rw[hoq];exact(J.pin _ (mem_append_right _ mq)).1) (J.codeRec hG) (λu=>hb _ _ _ _ u) (hB q (.ref c') s H) r ht
 show afH _ _ (call (.builtin "max") [.ref l] [(agW "key",.ref q)]) _ _ s2;refine kmk_tree PySem.F.kind_max PySem.F.plain_max PySem.F.entry_max (kmk_max_key _ _) ?_;show afH _ X.A.in1 (af8.Builtins.bindParams "max" ["key","default"] 0 ⟨[],[(agW "key",.ref q)]⟩ >>=_) _ _ s2
 refine aeS (ahZ (show af8.Builtins.bindParams "max" ["key","default"] 0 ⟨[],[(agW "key",.ref q)]⟩=pure [some (.ref q),none] from rfl) ?_);refine aeS (aeX ?_);refine aeS (ahX pl.isList ?_);refine aeS (ahN ?_ (ae2 _));rw[hname];refine aeX ⟨agG afR _,?_⟩;have gI:(s2.heap.push { cls:=.type "list_iterator",data:=.fields #[.ref l,.int 0 0] }).get? s2.heap.objs.size=some { cls:=.type "list_iterator",data:=.fields #[.ref l,.int 0 0] }:=aeZ _ rfl
 have I3:Inv X.in1 ((s2.heap.objs.size,{ cls:=.type "list_iterator",data:=.fields #[.ref l,.int 0 0] })::(q,oq)::pins) σ H2 { s2 with heap:=s2.heap.push { cls:=.type "list_iterator",data:=.fields #[.ref l,.int 0 0] },toks:=s2.toks }:=
  I2'.pinNew (I2'.kept (t':=s2.toks) λb o e=>aeT _ e) gI (aeU _) (I2'.hok.fresh (aeU _)) λv z=>by cases z
 have oI0:Ow X.in1 ((q,oq)::pins) s2.heap.objs.size:=I2'.ow (aeU _);generalize hh3:s2.heap.push { cls:=.type "list_iterator",data:=.fields #[.ref l,.int 0 0] }=h3 at I3 gI ⊢
 have I4:Inv X.in1 ((h3.objs.size,afC "list" #[] 0)::(s2.heap.objs.size,{ cls:=.type "list_iterator",data:=.fields #[.ref l,.int 0 0] })::(q,oq)::pins) σ H2 { s2 with heap:=h3.push (afC "list" #[] 0),toks:=s2.toks }:=
  I3.pinNew (I3.kept (t':=s2.toks) λb o e=>aeT _ e) (aeZ _ rfl) (aeU _) (I3.hok.fresh (aeU _)) λv z=>by cases z
 have oS0:Ow X.in1 ((s2.heap.objs.size,{ cls:=.type "list_iterator",data:=.fields #[.ref l,.int 0 0] })::(q,oq)::pins) h3.objs.size:=I3.ow (aeU _);have gS:(h3.push (afC "list" #[] 0)).get? h3.objs.size=some (afC "list" #[] 0):=aeZ _ rfl;have gI2:(h3.push (afC "list" #[] 0)).get? s2.heap.objs.size=some { cls:=.type "list_iterator",data:=.fields #[.ref l,.int 0 0] }:=aeT _ gI;have hSI:h3.objs.size≠s2.heap.objs.size:=λz=>oS0.pin _ (mem_append_right _ mem_cons_self) z.symm
 have pl4:(h3.push (afC "list" #[] 0)).IsList l its.toArray:=by
  obtain⟨o,e,r⟩:=pl.isList;exact⟨o,aeT _ (by rw[<-hh3];exact aeT _ e),r⟩
 have hlI:l≠s2.heap.objs.size:=λz=>by
  have:=I2'.hok.fresh (a:=s2.heap.objs.size) (aeU _);rw[<-z,hl2]at this;cases this
 generalize h3.objs.size=S at *;generalize s2.heap.objs.size=It at *;generalize h3.push (afC "list" #[] 0)=h4 at *;have Wk:=aiE (prog:=X.prog) (w:=X.w) (A:=X.A.in1) hh It l hlI its.toArray;have hpos:0<xs.length:=(ae3.mp hx0).1;refine af5 ag7 ?_;rw[afU.under_plainId afR _];show afH _ X.A.in1 (seqItems? (.ref S) >>=_) _ _ _
 refine aeS (ag4 gS rfl ?_);show afH _ X.A.in1 (aiN (aiO (.ref It)) _ >>=_) _ _ _
 refine aeS (agO (Wk.item 0 _ _ _ (by rw[size_toArray,lenI];exact hpos) ⟨⟨_,gI2,rfl,rfl⟩,pl4⟩ λv h' tk' hP hst' hk'=>?_));have hv:its[0]? =some v:=by simpa using hP
 have rx:RelV x0 v:=by
  obtain⟨u,hu,ru⟩:=rv.get hx0;rw[hv]at hu;cases hu;exact ru
 obtain⟨oI',hoI',hoc,hod⟩:=id hst'.1;have hk2:∀b u,b≠It->h4.get? b=some u->h'.get? b=some u:=λb u hb e=>hk' b u (by simpa using hb) e
 have I5:Inv X.in1 ((S,afC "list" #[] 0)::(It,oI')::(q,oq)::pins) σ H2 { s2 with heap:=h',toks:=tk' }:=
  Inv.repin (s:={ s2 with heap:=h4,toks:=s2.toks }) (p1:=[(S,afC "list" #[] 0)]) I4 ⟨oI0.loc,oI0.fs,oI0.new,oI0.cel,λp hp=>by
   rcases mem_append.mp hp with z|z
   ·exact oI0.pin p (mem_append_left _ z)
   ·rcases mem_cons.mp z with rfl|z
    ·exact hSI
    ·exact oI0.pin p (mem_append_right _ z)⟩ hk2 hoI' (λv z=>by rw[hod]at z;cases z)
 have mq:(q,oq)∈((S,afC "list" #[] 0)::(It,oI')::(q,oq)::pins):=mem_cons_of_mem _ (mem_cons_of_mem _ mem_cons_self);show afH _ X.A.in1 (aiN (holding [v] (call (.ref q) [v])) _ >>=_) _ _ _
 refine aeS (agO (af2 (agS (hlc _ H2 _ x0 v _ mq I5 tc.2 rx w0) (λu2 s3⟨k2,H3,I6,r2,q2⟩=>?_) λ_ _ hF=>(show False from hF).elim)));have nS3:=(I6.pin (S,afC "list" #[] 0) (mem_append_right _ mem_cons_self)).1;have nI3:=(I6.pin (It,oI') (mem_append_right _ (mem_cons_of_mem _ mem_cons_self))).1;have s1':=afS s3.heap S (afA λ_=>#[v,u2]);obtain⟨c2,hc2⟩:∃c2,(s3.heap.update S (afA λ_=>#[v,u2])).get? S=some (afC "list" #[v,u2] c2):=⟨_,agR nS3 λ_=>#[v,u2]⟩
 show afH _ X.A.in1 (updateSeq S (λ_=>#[v,u2]) >>=_) _ _ _;refine aeS ?_;refine ag2 nS3 rfl ?_;rw[hname]
 have I7:Inv X.in1 ((S,afC "list" #[v,u2] c2)::(It,oI')::(q,oq)::pins) σ H3 { s3 with heap:=s3.heap.update S (afA λ_=>#[v,u2]),toks:=s3.toks }:=
  Inv.repin (p1:=[]) I6 ⟨oS0.loc,oS0.fs,oS0.new,oS0.cel,λp hp=>by
   rcases mem_append.mp hp with z|z
   ·exact oS0.pin p (mem_append_left _ z)
   ·rcases mem_cons.mp z with rfl|z
    ·exact afY hSI
    ·exact oS0.pin p (mem_append_right _ (mem_cons_of_mem _ z))⟩ (λb u hb e=>s1'.extBut b u hb e) hc2 (λv z=>by cases z)
 refine aeX ⟨agG afR _,XC (K:=X.K) (q:=q) (oq:=oq) (pins:=pins) (Q:=Q) hh MW hlt ?_ ?_ hlc (λv u H s J r hq=>⟨v,H,J,r,hq⟩) _ 1 0 H3 _ x0 k2 v u2 c2 oI' rfl hpos I7 ⟨oI',(s1'.2 It (afY hSI)).trans nI3,hoc,hod⟩ hx0 rx r2 q2⟩
 ·exact⟨oS0.loc,oS0.fs,oS0.new,oS0.cel,λp hp=>by
   rcases mem_append.mp hp with z|z
   ·exact oS0.pin p (mem_append_left _ z)
   ·rcases mem_cons.mp z with rfl|z
    ·exact afY hSI
    ·exact oS0.pin p (mem_append_right _ (mem_cons_of_mem _ z))⟩
 ·exact⟨oI0.loc,oI0.fs,oI0.new,oI0.cel,λp hp=>by
   rcases mem_append.mp hp with z|z
   ·exact oI0.pin p (mem_append_left _ z)
   ·rcases mem_cons.mp z with rfl|z
    ·exact hSI
    ·exact oI0.pin p (mem_append_right _ z)⟩
end
section
variable{X:Cx}
end
section
variable{P:afL}{w:agC}{K:PySem.W.Frag}{mg:Str->Option Value}{base:Heap}{CX:eB}{k:Nat}{f:Addr}{fd:afD}{ps:List Str}{sp sp':Sp}
theorem FnOk.or(F:FnOk P w K mg base CX k f fd ps sp)(G:FnOk P w K mg base CX k f fd ps sp'):FnOk P w K mg base CX k f fd ps (λvs H Q E=>sp vs H Q E\/sp' vs H Q E):=
 ⟨λvs H Q E h=>h.elim (F.len vs H Q E) (G.len vs H Q E),λA outer s H args us vs Q E hr he hb hv hs=>hs.elim (F.run A outer s H args us vs Q E hr he hb hv) (G.run A outer s H args us vs Q E hr he hb hv)⟩
end
structure k5 (l:Addr) (xs:List V) (lt:R2) (te:V->Hp->VK->Prop) (W:Nat->Nat->V->Hp->Prop) (Q:VK):Prop where
 lst:∀j b k H,W j b k H->H l=some (.lst xs)
 turn:∀j b k H x,W j b k H->xs[j]? =some x->te x H λk' H'=>lt k' k H' λz H''=>∃c,z=.bl c/\if c=true then W (j+1) j k' H'' else W (j+1) b k H''
 fin:∀b k H x,W xs.length b k H->xs[b]? =some x->Q x H
noncomputable def dO:Obj:=afC "list" #[] 0
section
variable{X:Cx}{pins p1 p2:List (Addr×Obj)}{σ:St}{H:Hp}{s:aeV}
theorem W1{l S It:Addr}{xs:List V}{lt:R2}{te:V->Hp->VK->Prop}{W:Nat->Nat->V->Hp->Prop}{Q:VK}{kw:List (Str×Value)}{R:Result->aeV->Prop}(hh:X.A.handled=none)
  (M:k5 l xs lt te W Q) (hlt:OpR X.in1.nox (agD .Lt) lt) (hte:∀x H Q,te x H Q->Q x H) (oS:Ow X.in1 ((It,dO)::pins) S) (oI:Ow X.in1 ((S,dO)::pins) It)
  (hR:∀(v:V)(u:Value)(H:Hp)(s:aeV),Inv X pins σ H s->RelV v u->Q v H->R (.ok (.ret u)) s):
  ∀(r j b:Nat)(H:Hp)(s:aeV)(xb k:V)(vb kb:Value)(c:Nat)(ob:Obj),xs.length-j=r->j<=xs.length->Inv X.in1 ((S,afC "list" #[vb,kb] c)::(It,ob)::pins) σ H s->s.heap.IsListIter It l j->xs[b]? =some xb->RelV xb vb->RelV k kb->W j b k H->
   codeAny (afT X.prog X.w) X.A (.builtin "min.loop" ⟨[.ref It,.none,.ref S],kw⟩) R s:=by
 have hname:(aiJ "min"++aiJ ".loop":String)="min.loop":=by decide
 have hSI:S≠It:=λz=>oS.pin (It,dO) (mem_append_right _ mem_cons_self) z.symm
 have ofS:∀{d:Obj},Ow X.in1 ((It,d)::pins) S:=⟨oS.loc,oS.fs,oS.new,oS.cel,λp hp=>by
  rcases mem_append.mp hp with z|z
  ·exact oS.pin p (mem_append_left _ z)
  ·rcases mem_cons.mp z with rfl|z
   ·exact afY hSI
   ·exact oS.pin p (mem_append_right _ (mem_cons_of_mem _ z))⟩
 have ofI:∀{d:Obj},Ow X.in1 ((S,d)::pins) It:=⟨oI.loc,oI.fs,oI.new,oI.cel,λp hp=>by
  rcases mem_append.mp hp with z|z
  ·exact oI.pin p (mem_append_left _ z)
  ·rcases mem_cons.mp z with rfl|z
   ·exact hSI
   ·exact oI.pin p (mem_append_right _ (mem_cons_of_mem _ z))⟩
 have ofS0:Ow X.in1 pins S:=⟨oS.loc,oS.fs,oS.new,oS.cel,λp hp=>by
  rcases mem_append.mp hp with z|z
  ·exact oS.pin p (mem_append_left _ z)
  ·exact oS.pin p (mem_append_right _ (mem_cons_of_mem _ z))⟩
 intro r
 induction r with
 | zero=>
  intro j b H s xb k vb kb c ob hr hj I hit hxb rb rk w;have hin:j=xs.length:=by lia
  subst hin;have hl:=M.lst _ _ _ _ w;obtain⟨its,rv,pl,_⟩:=I.list (SqL.of hl);have lenI:its.length=xs.length:=rv.length.symm
  have hlI:l≠It:=λz=>by
   have:=(I.pin (It,ob) (mem_append_right _ (mem_cons_of_mem _ mem_cons_self))).2.1;rw[<-z,hl]at this;cases this
  have Wk:=aiE (prog:=X.prog) (w:=X.w) (A:=X.A.in1) hh It l hlI its.toArray;have nS:=(I.pin (S,afC "list" #[vb,kb] c) (mem_append_right _ mem_cons_self)).1;refine af5 PySem.F.entry_min_loop ?_;rw[afU.under_plainId ag8 _];show afH _ X.A.in1 (seqItems? (.ref S) >>=_) _ _ _
  refine aeS (ag4 nS rfl ?_);show afH _ X.A.in1 (aiN (aiO (.ref It)) _ >>=_) _ _ _
  refine aeS (agO (Wk.done _ _ _ ⟨by rw[size_toArray,lenI];exact hit,pl.isList⟩ λh' tk' hk'=>?_));have hk:∀b u,b≠It->s.heap.get? b=some u->h'.get? b=some u:=λb u hb e=>hk' b u (by simpa using hb) e
  have I1:Inv X.in1 ((S,afC "list" #[vb,kb] c)::pins) σ H s:=I.pins_of λp hp=>I.pin p (mem_append_right _ (by
   rcases mem_cons.mp hp with rfl|z
   ·exact mem_cons_self
   ·exact mem_cons_of_mem _ (mem_cons_of_mem _ z)))
  have oI':=ofI (d:=afC "list" #[vb,kb] c);have I2:=I1.turned (h':=h') (t':=tk') hk (I.pin (It,ob) (mem_append_right _ (mem_cons_of_mem _ mem_cons_self))).2.1 oI'.loc oI'.new oI'.cel oI'.pin;have hS':=hk S _ hSI nS;have s1:=afS h' S (afA λ_=>(#[]:Array Value));show afH _ X.A.in1 (updateSeq S (λ_=>#[]) >>=_) _ _ _
  refine aeS ?_;refine ag2 hS' rfl (aeS (ahT (aeX ?_)));have I3:Inv X.in1 pins σ H { s with heap:=h',toks:=tk' }:=I2.pins_of λp hp=>I2.pin p (mem_append_right _ (mem_cons_of_mem _ hp));have hSn:=(I2.pin (S,afC "list" #[vb,kb] c) (mem_append_right _ mem_cons_self)).2.1;have I4:=I3.turned (h':=h'.update S (afA λ_=>(#[]:Array Value))) (t':=tk') (λb u hb e=>s1.extBut b u hb e) hSn ofS0.loc ofS0.new ofS0.cel ofS0.pin
  exact hR xb vb H _ I4.out1 rb (M.fin b k H xb w hxb)
 | succ r ih=>
  intro j b H s xb k vb kb c ob hr hj I hit hxb rb rk w;have hlt':j<xs.length:=by lia
  have hl:=M.lst _ _ _ _ w;obtain⟨its,rv,pl,_⟩:=I.list (SqL.of hl);have lenI:its.length=xs.length:=rv.length.symm
  have hlI:l≠It:=λz=>by
   have:=(I.pin (It,ob) (mem_append_right _ (mem_cons_of_mem _ mem_cons_self))).2.1;rw[<-z,hl]at this;cases this
  have Wk:=aiE (prog:=X.prog) (w:=X.w) (A:=X.A.in1) hh It l hlI its.toArray;have nS:=(I.pin (S,afC "list" #[vb,kb] c) (mem_append_right _ mem_cons_self)).1;refine af5 PySem.F.entry_min_loop ?_;rw[afU.under_plainId ag8 _];show afH _ X.A.in1 (seqItems? (.ref S) >>=_) _ _ _
  refine aeS (ag4 nS rfl ?_);show afH _ X.A.in1 (aiN (aiO (.ref It)) _ >>=_) _ _ _
  refine aeS (agO (Wk.item j _ _ _ (by rw[size_toArray,lenI];exact hlt') ⟨hit,pl.isList⟩ λv h' tk' hP hst' hk'=>?_));have hv:its[j]? =some v:=by simpa using hP
  obtain⟨x,hx⟩:∃x,xs[j]? =some x:=⟨_,aeY hlt'⟩
  have rx:RelV x v:=by
   obtain⟨u,hu,ru⟩:=rv.get hx;rw[hv]at hu;cases hu;exact ru
  obtain⟨oI',hoI',hoc,hod⟩:=id hst'.1;have hk:∀b u,b≠It->s.heap.get? b=some u->h'.get? b=some u:=λb u hb e=>hk' b u (by simpa using hb) e
  have I1:Inv X.in1 ((S,afC "list" #[vb,kb] c)::(It,oI')::pins) σ H { s with heap:=h',toks:=tk' }:=
   Inv.repin (p1:=[(S,afC "list" #[vb,kb] c)]) I ofI hk hoI' (λv z=>by rw[hod]at z;cases z)
  have mt:=M.turn j b k H x w hx;refine aeS (aeX ?_);have q2:=hte _ _ _ mt;have I2:=I1;show afH _ X.A.in1 (aiN (holding [v,v] (richCompare .Lt v kb >>=_)) _ >>=_) _ _ _
  refine aeS (agO (af2 (aeS (agS (hlt _ ({ s with heap:=h',toks:=tk' }:aeV) σ H x k v kb _ (I2.wish _) rx rk q2) (λu3 s3⟨z,H3,I3w,r3,cc,ez,q3⟩=>?_) λe s' hF=>(show False from hF).elim))));have I3:=I3w.unwish;subst ez;obtain rfl:u3=aiK cc:=r3;refine aeS (af2 (agT ?_));refine aeS (ahT (aeX ?_));have nS3:=(I3.pin (S,afC "list" #[vb,kb] c) (mem_append_right _ mem_cons_self)).1;have nI3:=(I3.pin (It,oI') (mem_append_right _ (mem_cons_of_mem _ mem_cons_self))).1;have hit3:s3.heap.IsListIter It l (j+1):=⟨oI',nI3,hoc,hod⟩
  cases cc with
  | true=>
   have s1:=afS s3.heap S (afA λ_=>#[v,v]);obtain⟨c2,hc2⟩:∃c2,(s3.heap.update S (afA λ_=>#[v,v])).get? S=some (afC "list" #[v,v] c2):=⟨_,agR nS3 λ_=>#[v,v]⟩
   simp only[if_true];refine aeS ?_;refine ag2 nS3 rfl (aeS (ahT ?_));rw[hname];rw[if_pos rfl]at q3
   have I4:Inv X.in1 ((S,afC "list" #[v,v] c2)::(It,oI')::pins) σ H3 { s3 with heap:=s3.heap.update S (afA λ_=>#[v,v]),toks:=s3.toks }:=
    Inv.repin (p1:=[]) I3 ofS (λb u hb e=>s1.extBut b u hb e) hc2 (λv z=>by cases z)
   exact aeX ⟨agG ag8 _,ih (j+1) j H3 _ x x v v c2 oI' (by lia) hlt' I4 ⟨oI',(s1.2 It (afY hSI)).trans nI3,hoc,hod⟩ hx rx rx q3⟩
  |false=>
   simp only[af1,if_false];refine aeS (ahT ?_);rw[hname];rw[if_neg afK]at q3;exact aeX ⟨agG ag8 _,ih (j+1) b H3 _ xb k vb kb c oI' (by lia) hlt' I3 hit3 hxb rb rk q3⟩
theorem W2{l:Addr}{xs:List V}{lt:R2}{te:V->Hp->VK->Prop}{W:Nat->Nat->V->Hp->Prop}{Q:VK}{kw:List (Str×Value)}{x0:V}(hh:X.A.handled=none)
  (M:k5 l xs lt te W Q) (hlt:OpR X.in1.nox (agD .Lt) lt) (hte:∀x H Q,te x H Q->Q x H) (I2:Inv X pins σ H s) (hl2:H l=some (.lst xs)) (hx0:xs[0]? =some x0) (w0:te x0 H λk H3=>W 1 0 k H3):
  afH (afT X.prog X.w) X.A.in1 (do let it <-pyIter (.ref l);again (.builtin "min.loop" ⟨[it,.none,<-newList []],kw⟩)) (λfin s'=>match fin with
   | .done f=>(match (Except.ok f:Result) with| .ok (.ret v)=>EP X pins σ Q v s'| .ok _=>False| .error e=>X.xe e s')
   | .again c'=>c'.quiet=true/\codeAny (afT X.prog X.w) X.A c' (λr s'=>match r with| .ok (.ret v)=>EP X pins σ Q v s'| .ok _=>False| .error e=>X.xe e s') s') X.xe s:=by
 have hname:(aiJ "min"++aiJ ".loop":String)="min.loop":=by decide
 have I2':=I2.in1;obtain⟨its,rv,pl,_⟩:=I2'.list (SqL.of hl2);have lenI:its.length=xs.length:=rv.length.symm;refine aeS (ahX pl.isList ?_);refine aeS (ahN ?_ (ae2 _));refine aeX ⟨agG ag8 _,?_⟩;have gI:(s.heap.push { cls:=.type "list_iterator",data:=.fields #[.ref l,.int 0 0] }).get? s.heap.objs.size=some { cls:=.type "list_iterator",data:=.fields #[.ref l,.int 0 0] }:=aeZ _ rfl
 have I3:Inv X.in1 ((s.heap.objs.size,{ cls:=.type "list_iterator",data:=.fields #[.ref l,.int 0 0] })::pins) σ H { s with heap:=s.heap.push { cls:=.type "list_iterator",data:=.fields #[.ref l,.int 0 0] },toks:=s.toks }:=
  I2'.pinNew (I2'.kept (t':=s.toks) λb o e=>aeT _ e) gI (aeU _) (I2'.hok.fresh (aeU _)) λv z=>by cases z
 have oI0:Ow X.in1 pins s.heap.objs.size:=I2'.ow (aeU _);generalize hh3:s.heap.push { cls:=.type "list_iterator",data:=.fields #[.ref l,.int 0 0] }=h3 at I3 gI ⊢
 have I4:Inv X.in1 ((h3.objs.size,afC "list" #[] 0)::(s.heap.objs.size,{ cls:=.type "list_iterator",data:=.fields #[.ref l,.int 0 0] })::pins) σ H { s with heap:=h3.push (afC "list" #[] 0),toks:=s.toks }:=
  I3.pinNew (I3.kept (t':=s.toks) λb o e=>aeT _ e) (aeZ _ rfl) (aeU _) (I3.hok.fresh (aeU _)) λv z=>by cases z
 have oS0:Ow X.in1 ((s.heap.objs.size,{ cls:=.type "list_iterator",data:=.fields #[.ref l,.int 0 0] })::pins) h3.objs.size:=I3.ow (aeU _);have gS:(h3.push (afC "list" #[] 0)).get? h3.objs.size=some (afC "list" #[] 0):=aeZ _ rfl;have gI2:(h3.push (afC "list" #[] 0)).get? s.heap.objs.size=some { cls:=.type "list_iterator",data:=.fields #[.ref l,.int 0 0] }:=aeT _ gI;have hSI:h3.objs.size≠s.heap.objs.size:=λz=>oS0.pin _ (mem_append_right _ mem_cons_self) z.symm
 have pl4:(h3.push (afC "list" #[] 0)).IsList l its.toArray:=by
  obtain⟨o,e,r⟩:=pl.isList;exact⟨o,aeT _ (by rw[<-hh3];exact aeT _ e),r⟩
 have hlI:l≠s.heap.objs.size:=λz=>by
  have:=I2'.hok.fresh (a:=s.heap.objs.size) (aeU _);rw[<-z,hl2]at this;cases this
 generalize h3.objs.size=S at *;generalize s.heap.objs.size=It at *;generalize h3.push (afC "list" #[] 0)=h4 at *
 have ofS:∀{d:Obj},Ow X.in1 ((It,d)::pins) S:=⟨oS0.loc,oS0.fs,oS0.new,oS0.cel,λp hp=>by
  rcases mem_append.mp hp with z|z
  ·exact oS0.pin p (mem_append_left _ z)
  ·rcases mem_cons.mp z with rfl|z
   ·exact afY hSI
   ·exact oS0.pin p (mem_append_right _ (mem_cons_of_mem _ z))⟩
 have ofI:∀{d:Obj},Ow X.in1 ((S,d)::pins) It:=⟨oI0.loc,oI0.fs,oI0.new,oI0.cel,λp hp=>by
  rcases mem_append.mp hp with z|z
  ·exact oI0.pin p (mem_append_left _ z)
  ·rcases mem_cons.mp z with rfl|z
   ·exact hSI
   ·exact oI0.pin p (mem_append_right _ z)⟩
 have Wk:=aiE (prog:=X.prog) (w:=X.w) (A:=X.A.in1) hh It l hlI its.toArray;have hpos:0<xs.length:=(ae3.mp hx0).1;refine af5 PySem.F.entry_min_loop ?_;rw[afU.under_plainId ag8 _];show afH _ X.A.in1 (seqItems? (.ref S) >>=_) _ _ _
 refine aeS (ag4 gS rfl ?_);show afH _ X.A.in1 (aiN (aiO (.ref It)) _ >>=_) _ _ _
 refine aeS (agO (Wk.item 0 _ _ _ (by rw[size_toArray,lenI];exact hpos) ⟨⟨_,gI2,rfl,rfl⟩,pl4⟩ λv h' tk' hP hst' hk'=>?_));have hv:its[0]? =some v:=by simpa using hP
 have rx:RelV x0 v:=by
  obtain⟨u,hu,ru⟩:=rv.get hx0;rw[hv]at hu;cases hu;exact ru
 obtain⟨oI',hoI',hoc,hod⟩:=id hst'.1;have hk2:∀b u,b≠It->h4.get? b=some u->h'.get? b=some u:=λb u hb e=>hk' b u (by simpa using hb) e
 have I1:Inv X.in1 ((S,afC "list" #[] 0)::(It,oI')::pins) σ H { s with heap:=h',toks:=tk' }:=
  Inv.repin (s:={ s with heap:=h4,toks:=s.toks }) (p1:=[(S,afC "list" #[] 0)]) I4 ofI hk2 hoI' (λv z=>by rw[hod]at z;cases z)
 have mt:=w0;refine aeS (aeX ?_);have q2:=hte _ _ _ mt;have I2:=I1;have nS3:=(I2.pin (S,afC "list" #[] 0) (mem_append_right _ mem_cons_self)).1;have nI3:=(I2.pin (It,oI') (mem_append_right _ (mem_cons_of_mem _ mem_cons_self))).1;have s1':=afS h' S (afA λ_=>#[v,v]);obtain⟨c2,hc2⟩:∃c2,(h'.update S (afA λ_=>#[v,v])).get? S=some (afC "list" #[v,v] c2):=⟨_,agR nS3 λ_=>#[v,v]⟩
 show afH _ X.A.in1 (updateSeq S (λ_=>#[v,v]) >>=_) _ _ _;refine aeS ?_;refine ag2 nS3 rfl ?_;rw[hname]
 have I7:Inv X.in1 ((S,afC "list" #[v,v] c2)::(It,oI')::pins) σ H { s with heap:=h'.update S (afA λ_=>#[v,v]),toks:=tk' }:=
  Inv.repin (s:=({ s with heap:=h',toks:=tk' }:aeV)) (p1:=[]) I2 ofS (λb u hb e=>s1'.extBut b u hb e) hc2 (λv z=>by cases z)
 exact aeX ⟨agG ag8 _,W1 (pins:=pins) (Q:=Q) hh M hlt hte ofS ofI (λv u H s J r hq=>⟨v,H,J,r,hq⟩) _ 1 0 H _ x0 x0 v v c2 oI' rfl hpos I7 ⟨oI',(s1'.2 It (afY hSI)).trans nI3,hoc,hod⟩ hx0 rx rx q2⟩
theorem XA{l S It:Addr}{xs:List V}{lt:R2}{te:V->Hp->VK->Prop}{W:Nat->Nat->V->Hp->Prop}{Q:VK}{kw:List (Str×Value)}{R:Result->aeV->Prop}(hh:X.A.handled=none)
  (M:k5 l xs lt te W Q) (hlt:OpR X.in1.nox (agD .Gt) lt) (hte:∀x H Q,te x H Q->Q x H) (oS:Ow X.in1 ((It,dO)::pins) S) (oI:Ow X.in1 ((S,dO)::pins) It)
  (hR:∀(v:V)(u:Value)(H:Hp)(s:aeV),Inv X pins σ H s->RelV v u->Q v H->R (.ok (.ret u)) s):
  ∀(r j b:Nat)(H:Hp)(s:aeV)(xb k:V)(vb kb:Value)(c:Nat)(ob:Obj),xs.length-j=r->j<=xs.length->Inv X.in1 ((S,afC "list" #[vb,kb] c)::(It,ob)::pins) σ H s->s.heap.IsListIter It l j->xs[b]? =some xb->RelV xb vb->RelV k kb->W j b k H->
   codeAny (afT X.prog X.w) X.A (.builtin "max.loop" ⟨[.ref It,.none,.ref S],kw⟩) R s:=by
 have hname:(aiJ "max"++aiJ ".loop":String)="max.loop":=by decide
 have hSI:S≠It:=λz=>oS.pin (It,dO) (mem_append_right _ mem_cons_self) z.symm
 have ofS:∀{d:Obj},Ow X.in1 ((It,d)::pins) S:=⟨oS.loc,oS.fs,oS.new,oS.cel,λp hp=>by
  rcases mem_append.mp hp with z|z
  ·exact oS.pin p (mem_append_left _ z)
  ·rcases mem_cons.mp z with rfl|z
   ·exact afY hSI
   ·exact oS.pin p (mem_append_right _ (mem_cons_of_mem _ z))⟩
 have ofI:∀{d:Obj},Ow X.in1 ((S,d)::pins) It:=⟨oI.loc,oI.fs,oI.new,oI.cel,λp hp=>by
  rcases mem_append.mp hp with z|z
  ·exact oI.pin p (mem_append_left _ z)
  ·rcases mem_cons.mp z with rfl|z
   ·exact hSI
   ·exact oI.pin p (mem_append_right _ (mem_cons_of_mem _ z))⟩
 have ofS0:Ow X.in1 pins S:=⟨oS.loc,oS.fs,oS.new,oS.cel,λp hp=>by
  rcases mem_append.mp hp with z|z
  ·exact oS.pin p (mem_append_left _ z)
  ·exact oS.pin p (mem_append_right _ (mem_cons_of_mem _ z))⟩
 intro r
 induction r with
 | zero=>
  intro j b H s xb k vb kb c ob hr hj I hit hxb rb rk w;have hin:j=xs.length:=by lia
  subst hin;have hl:=M.lst _ _ _ _ w;obtain⟨its,rv,pl,_⟩:=I.list (SqL.of hl);have lenI:its.length=xs.length:=rv.length.symm
  have hlI:l≠It:=λz=>by
   have:=(I.pin (It,ob) (mem_append_right _ (mem_cons_of_mem _ mem_cons_self))).2.1;rw[<-z,hl]at this;cases this
  have Wk:=aiE (prog:=X.prog) (w:=X.w) (A:=X.A.in1) hh It l hlI its.toArray;have nS:=(I.pin (S,afC "list" #[vb,kb] c) (mem_append_right _ mem_cons_self)).1;refine af5 ag7 ?_;rw[afU.under_plainId afR _];show afH _ X.A.in1 (seqItems? (.ref S) >>=_) _ _ _
  refine aeS (ag4 nS rfl ?_);show afH _ X.A.in1 (aiN (aiO (.ref It)) _ >>=_) _ _ _
  refine aeS (agO (Wk.done _ _ _ ⟨by rw[size_toArray,lenI];exact hit,pl.isList⟩ λh' tk' hk'=>?_));have hk:∀b u,b≠It->s.heap.get? b=some u->h'.get? b=some u:=λb u hb e=>hk' b u (by simpa using hb) e
  have I1:Inv X.in1 ((S,afC "list" #[vb,kb] c)::pins) σ H s:=I.pins_of λp hp=>I.pin p (mem_append_right _ (by
   rcases mem_cons.mp hp with rfl|z
   ·exact mem_cons_self
   ·exact mem_cons_of_mem _ (mem_cons_of_mem _ z)))
  have oI':=ofI (d:=afC "list" #[vb,kb] c);have I2:=I1.turned (h':=h') (t':=tk') hk (I.pin (It,ob) (mem_append_right _ (mem_cons_of_mem _ mem_cons_self))).2.1 oI'.loc oI'.new oI'.cel oI'.pin;have hS':=hk S _ hSI nS;have s1:=afS h' S (afA λ_=>(#[]:Array Value));show afH _ X.A.in1 (updateSeq S (λ_=>#[]) >>=_) _ _ _
  refine aeS ?_;refine ag2 hS' rfl (aeS (ahT (aeX ?_)));have I3:Inv X.in1 pins σ H { s with heap:=h',toks:=tk' }:=I2.pins_of λp hp=>I2.pin p (mem_append_right _ (mem_cons_of_mem _ hp));have hSn:=(I2.pin (S,afC "list" #[vb,kb] c) (mem_append_right _ mem_cons_self)).2.1;have I4:=I3.turned (h':=h'.update S (afA λ_=>(#[]:Array Value))) (t':=tk') (λb u hb e=>s1.extBut b u hb e) hSn ofS0.loc ofS0.new ofS0.cel ofS0.pin
  exact hR xb vb H _ I4.out1 rb (M.fin b k H xb w hxb)
 | succ r ih=>
  intro j b H s xb k vb kb c ob hr hj I hit hxb rb rk w;have hlt':j<xs.length:=by lia
  have hl:=M.lst _ _ _ _ w;obtain⟨its,rv,pl,_⟩:=I.list (SqL.of hl);have lenI:its.length=xs.length:=rv.length.symm
  have hlI:l≠It:=λz=>by
   have:=(I.pin (It,ob) (mem_append_right _ (mem_cons_of_mem _ mem_cons_self))).2.1;rw[<-z,hl]at this;cases this
  have Wk:=aiE (prog:=X.prog) (w:=X.w) (A:=X.A.in1) hh It l hlI its.toArray;have nS:=(I.pin (S,afC "list" #[vb,kb] c) (mem_append_right _ mem_cons_self)).1;refine af5 ag7 ?_;rw[afU.under_plainId afR _];show afH _ X.A.in1 (seqItems? (.ref S) >>=_) _ _ _
  refine aeS (ag4 nS rfl ?_);show afH _ X.A.in1 (aiN (aiO (.ref It)) _ >>=_) _ _ _
  refine aeS (agO (Wk.item j _ _ _ (by rw[size_toArray,lenI];exact hlt') ⟨hit,pl.isList⟩ λv h' tk' hP hst' hk'=>?_));have hv:its[j]? =some v:=by simpa using hP
  obtain⟨x,hx⟩:∃x,xs[j]? =some x:=⟨_,aeY hlt'⟩
  have rx:RelV x v:=by
   obtain⟨u,hu,ru⟩:=rv.get hx;rw[hv]at hu;cases hu;exact ru
  obtain⟨oI',hoI',hoc,hod⟩:=id hst'.1;have hk:∀b u,b≠It->s.heap.get? b=some u->h'.get? b=some u:=λb u hb e=>hk' b u (by simpa using hb) e
  have I1:Inv X.in1 ((S,afC "list" #[vb,kb] c)::(It,oI')::pins) σ H { s with heap:=h',toks:=tk' }:=
   Inv.repin (p1:=[(S,afC "list" #[vb,kb] c)]) I ofI hk hoI' (λv z=>by rw[hod]at z;cases z)
  have mt:=M.turn j b k H x w hx;refine aeS (aeX ?_);have q2:=hte _ _ _ mt;have I2:=I1;show afH _ X.A.in1 (aiN (holding [v,v] (richCompare .Gt v kb >>=_)) _ >>=_) _ _ _
  refine aeS (agO (af2 (aeS (agS (hlt _ ({ s with heap:=h',toks:=tk' }:aeV) σ H x k v kb _ (I2.wish _) rx rk q2) (λu3 s3⟨z,H3,I3w,r3,cc,ez,q3⟩=>?_) λe s' hF=>(show False from hF).elim))));have I3:=I3w.unwish;subst ez;obtain rfl:u3=aiK cc:=r3;refine aeS (af2 (agT ?_));refine aeS (ahT (aeX ?_));have nS3:=(I3.pin (S,afC "list" #[vb,kb] c) (mem_append_right _ mem_cons_self)).1;have nI3:=(I3.pin (It,oI') (mem_append_right _ (mem_cons_of_mem _ mem_cons_self))).1;have hit3:s3.heap.IsListIter It l (j+1):=⟨oI',nI3,hoc,hod⟩
  cases cc with
  | true=>
   have s1:=afS s3.heap S (afA λ_=>#[v,v]);obtain⟨c2,hc2⟩:∃c2,(s3.heap.update S (afA λ_=>#[v,v])).get? S=some (afC "list" #[v,v] c2):=⟨_,agR nS3 λ_=>#[v,v]⟩
   simp only[if_true];refine aeS ?_;refine ag2 nS3 rfl (aeS (ahT ?_));rw[hname];rw[if_pos rfl]at q3
   have I4:Inv X.in1 ((S,afC "list" #[v,v] c2)::(It,oI')::pins) σ H3 { s3 with heap:=s3.heap.update S (afA λ_=>#[v,v]),toks:=s3.toks }:=
    Inv.repin (p1:=[]) I3 ofS (λb u hb e=>s1.extBut b u hb e) hc2 (λv z=>by cases z)
   exact aeX ⟨agG afR _,ih (j+1) j H3 _ x x v v c2 oI' (by lia) hlt' I4 ⟨oI',(s1.2 It (afY hSI)).trans nI3,hoc,hod⟩ hx rx rx q3⟩
  |false=>
   simp only[af1,if_false];refine aeS (ahT ?_);rw[hname];rw[if_neg afK]at q3;exact aeX ⟨agG afR _,ih (j+1) b H3 _ xb k vb kb c oI' (by lia) hlt' I3 hit3 hxb rb rk q3⟩
theorem XB{l:Addr}{xs:List V}{lt:R2}{te:V->Hp->VK->Prop}{W:Nat->Nat->V->Hp->Prop}{Q:VK}{kw:List (Str×Value)}{x0:V}(hh:X.A.handled=none)
  (M:k5 l xs lt te W Q) (hlt:OpR X.in1.nox (agD .Gt) lt) (hte:∀x H Q,te x H Q->Q x H) (I2:Inv X pins σ H s) (hl2:H l=some (.lst xs)) (hx0:xs[0]? =some x0) (w0:te x0 H λk H3=>W 1 0 k H3):
  afH (afT X.prog X.w) X.A.in1 (do let it <-pyIter (.ref l);again (.builtin "max.loop" ⟨[it,.none,<-newList []],kw⟩)) (λfin s'=>match fin with
   | .done f=>(match (Except.ok f:Result) with| .ok (.ret v)=>EP X pins σ Q v s'| .ok _=>False| .error e=>X.xe e s')
   | .again c'=>c'.quiet=true/\codeAny (afT X.prog X.w) X.A c' (λr s'=>match r with| .ok (.ret v)=>EP X pins σ Q v s'| .ok _=>False| .error e=>X.xe e s') s') X.xe s:=by
 have hname:(aiJ "max"++aiJ ".loop":String)="max.loop":=by decide
 have I2':=I2.in1;obtain⟨its,rv,pl,_⟩:=I2'.list (SqL.of hl2);have lenI:its.length=xs.length:=rv.length.symm;refine aeS (ahX pl.isList ?_);refine aeS (ahN ?_ (ae2 _));refine aeX ⟨agG afR _,?_⟩;have gI:(s.heap.push { cls:=.type "list_iterator",data:=.fields #[.ref l,.int 0 0] }).get? s.heap.objs.size=some { cls:=.type "list_iterator",data:=.fields #[.ref l,.int 0 0] }:=aeZ _ rfl
 have I3:Inv X.in1 ((s.heap.objs.size,{ cls:=.type "list_iterator",data:=.fields #[.ref l,.int 0 0] })::pins) σ H { s with heap:=s.heap.push { cls:=.type "list_iterator",data:=.fields #[.ref l,.int 0 0] },toks:=s.toks }:=
  I2'.pinNew (I2'.kept (t':=s.toks) λb o e=>aeT _ e) gI (aeU _) (I2'.hok.fresh (aeU _)) λv z=>by cases z
 have oI0:Ow X.in1 pins s.heap.objs.size:=I2'.ow (aeU _);generalize hh3:s.heap.push { cls:=.type "list_iterator",data:=.fields #[.ref l,.int 0 0] }=h3 at I3 gI ⊢
 have I4:Inv X.in1 ((h3.objs.size,afC "list" #[] 0)::(s.heap.objs.size,{ cls:=.type "list_iterator",data:=.fields #[.ref l,.int 0 0] })::pins) σ H { s with heap:=h3.push (afC "list" #[] 0),toks:=s.toks }:=
  I3.pinNew (I3.kept (t':=s.toks) λb o e=>aeT _ e) (aeZ _ rfl) (aeU _) (I3.hok.fresh (aeU _)) λv z=>by cases z
 have oS0:Ow X.in1 ((s.heap.objs.size,{ cls:=.type "list_iterator",data:=.fields #[.ref l,.int 0 0] })::pins) h3.objs.size:=I3.ow (aeU _);have gS:(h3.push (afC "list" #[] 0)).get? h3.objs.size=some (afC "list" #[] 0):=aeZ _ rfl;have gI2:(h3.push (afC "list" #[] 0)).get? s.heap.objs.size=some { cls:=.type "list_iterator",data:=.fields #[.ref l,.int 0 0] }:=aeT _ gI;have hSI:h3.objs.size≠s.heap.objs.size:=λz=>oS0.pin _ (mem_append_right _ mem_cons_self) z.symm
 have pl4:(h3.push (afC "list" #[] 0)).IsList l its.toArray:=by
  obtain⟨o,e,r⟩:=pl.isList;exact⟨o,aeT _ (by rw[<-hh3];exact aeT _ e),r⟩
 have hlI:l≠s.heap.objs.size:=λz=>by
  have:=I2'.hok.fresh (a:=s.heap.objs.size) (aeU _);rw[<-z,hl2]at this;cases this
 generalize h3.objs.size=S at *;generalize s.heap.objs.size=It at *;generalize h3.push (afC "list" #[] 0)=h4 at *
 have ofS:∀{d:Obj},Ow X.in1 ((It,d)::pins) S:=⟨oS0.loc,oS0.fs,oS0.new,oS0.cel,λp hp=>by
  rcases mem_append.mp hp with z|z
  ·exact oS0.pin p (mem_append_left _ z)
  ·rcases mem_cons.mp z with rfl|z
   ·exact afY hSI
   ·exact oS0.pin p (mem_append_right _ (mem_cons_of_mem _ z))⟩
 have ofI:∀{d:Obj},Ow X.in1 ((S,d)::pins) It:=⟨oI0.loc,oI0.fs,oI0.new,oI0.cel,λp hp=>by
  rcases mem_append.mp hp with z|z
  ·exact oI0.pin p (mem_append_left _ z)
  ·rcases mem_cons.mp z with rfl|z
   ·exact hSI
   ·exact oI0.pin p (mem_append_right _ z)⟩
 have Wk:=aiE (prog:=X.prog) (w:=X.w) (A:=X.A.in1) hh It l hlI its.toArray;have hpos:0<xs.length:=(ae3.mp hx0).1;refine af5 ag7 ?_;rw[afU.under_plainId afR _];show afH _ X.A.in1 (seqItems? (.ref S) >>=_) _ _ _
 refine aeS (ag4 gS rfl ?_);show afH _ X.A.in1 (aiN (aiO (.ref It)) _ >>=_) _ _ _
 refine aeS (agO (Wk.item 0 _ _ _ (by rw[size_toArray,lenI];exact hpos) ⟨⟨_,gI2,rfl,rfl⟩,pl4⟩ λv h' tk' hP hst' hk'=>?_));have hv:its[0]? =some v:=by simpa using hP
 have rx:RelV x0 v:=by
  obtain⟨u,hu,ru⟩:=rv.get hx0;rw[hv]at hu;cases hu;exact ru
 obtain⟨oI',hoI',hoc,hod⟩:=id hst'.1;have hk2:∀b u,b≠It->h4.get? b=some u->h'.get? b=some u:=λb u hb e=>hk' b u (by simpa using hb) e
 have I1:Inv X.in1 ((S,afC "list" #[] 0)::(It,oI')::pins) σ H { s with heap:=h',toks:=tk' }:=
  Inv.repin (s:={ s with heap:=h4,toks:=s.toks }) (p1:=[(S,afC "list" #[] 0)]) I4 ofI hk2 hoI' (λv z=>by rw[hod]at z;cases z)
 have mt:=w0;refine aeS (aeX ?_);have q2:=hte _ _ _ mt;have I2:=I1;have nS3:=(I2.pin (S,afC "list" #[] 0) (mem_append_right _ mem_cons_self)).1;have nI3:=(I2.pin (It,oI') (mem_append_right _ (mem_cons_of_mem _ mem_cons_self))).1;have s1':=afS h' S (afA λ_=>#[v,v]);obtain⟨c2,hc2⟩:∃c2,(h'.update S (afA λ_=>#[v,v])).get? S=some (afC "list" #[v,v] c2):=⟨_,agR nS3 λ_=>#[v,v]⟩
 show afH _ X.A.in1 (updateSeq S (λ_=>#[v,v]) >>=_) _ _ _;refine aeS ?_;refine ag2 nS3 rfl ?_;rw[hname]
 have I7:Inv X.in1 ((S,afC "list" #[v,v] c2)::(It,oI')::pins) σ H { s with heap:=h'.update S (afA λ_=>#[v,v]),toks:=tk' }:=
  Inv.repin (s:=({ s with heap:=h',toks:=tk' }:aeV)) (p1:=[]) I2 ofS (λb u hb e=>s1'.extBut b u hb e) hc2 (λv z=>by cases z)
 exact aeX ⟨agG afR _,XA (pins:=pins) (Q:=Q) hh M hlt hte ofS ofI (λv u H s J r hq=>⟨v,H,J,r,hq⟩) _ 1 0 H _ x0 x0 v v c2 oI' rfl hpos I7 ⟨oI',(s1'.2 It (afY hSI)).trans nI3,hoc,hod⟩ hx0 rx rx q2⟩
end
section
variable{X:Cx}
noncomputable def uD(lt:R2):List V->Hp->VK->Prop:=λvs H Q=>∃l xs x0 W,vs=[.ref l]/\H l=some (.lst xs)/\xs[0]? =some x0/\k5 l xs lt (λx H Q=>Q x H) W Q/\W 1 0 x0 H
theorem ab2{lt:R2}(hc:X.calm=true)(hlt:OpR X.in1.nox (agD .Lt) lt):CallR X (.builtin "min") (uD lt):=by
 intro pins s σ H xs us Q I r h;have hname:(aiJ "min"++aiJ ".loop":String)="min.loop":=by decide
 obtain⟨l,xs,x0,W,rfl,hl,hx0,M,w0⟩:=h;obtain⟨u,rfl,rx⟩:=Vals.one r;cases(show u=af4 l from rx);refine kmk_tree PySem.F.kind_min PySem.F.plain_min PySem.F.entry_min (PySem.F.args_min1 _) ?_;show afH _ X.A.in1 (af8.Builtins.bindParams "min" ["key","default"] 0 ⟨[],[]⟩ >>=_) _ _ s
 refine aeS (ahZ (show af8.Builtins.bindParams "min" ["key","default"] 0 ⟨[],[]⟩=pure [none,none] from rfl) ?_);refine aeS (aeX ?_);rw[hname];exact W2 (kw:=[]) (I.ok.hd hc) M hlt (λ_ _ _ h=>h) I hl hx0 w0
theorem ZS{lt:R2}(hlt:OpR X.in1.nox (agD .Lt) lt)(hc:X.calm=true:=by rfl):CallR X (.builtin "min") (uD lt):=ab2 hc hlt
noncomputable def qQ(tl:TA)(td:TE):TE:=λσ H Q=>tl σ H λvs H1=>td σ H1 λd H2=>∃l ns,vs=[.ref l]/\H2 l=some (.lst (ns.map V.int))/\(ns=[]->Q d H2)/\∀M:Int,M∈ns->(∀a∈ns,a<=M)->Q (.int M) H2
theorem W9(a v:Value):argsOk "max" ⟨[a],[(agW "default",v)]⟩:=by unfold argsOk;kernel_rfl
theorem acV{l:Addr}{ns:List Int}{H:Hp}{Q:VK}(hl:H l=some (.lst (ns.map V.int)))(q:∀M:Int,M∈ns->(∀a∈ns,a<=M)->Q (.int M) H):
  k5 l (ns.map V.int) (gT λi j=>.bl (decide (j<i))) (λx H Q=>Q x H) (λj b k H'=>H'=H/\∃B:Int,ns[b]? =some B/\k=.int B/\∀i(z:Int),i<j->ns[i]? =some z->z<=B) Q where
 lst:=λj b k H' w=>w.1▸hl
 turn:=λj b k H' x w hx=>by
  obtain⟨rfl,B,hb,rfl,hB⟩:=w;rw[ae4]at hx
  cases hz:ns[j]? with
  |none=>rw[hz]at hx;cases hx
  | some z=>
   rw[hz]at hx;cases hx;refine⟨z,B,rfl,rfl,_,rfl,?_⟩;by_cases g:B<z
   ·rw[if_pos (decide_eq_true g)];refine⟨rfl,z,by first|exact hz|rfl,rfl,λi y hi hy=>?_⟩;by_cases e:i=j
    ·subst e;rw[hz]at hy;cases hy;exact Int.le_refl _
    ·have:=hB i y (by lia) hy;lia
   ·rw[if_neg (by simpa using g)];refine⟨rfl,B,hb,rfl,λi y hi hy=>?_⟩;by_cases e:i=j
    ·subst e;rw[hz]at hy;cases hy;lia
    ·exact hB i y (by lia) hy
 fin:=λb k H' x w hx=>by
  obtain⟨rfl,B,hb,rfl,hB⟩:=w;rw[ae4,hb]at hx;cases hx;refine q B (af3 hb) λa ha=>?_;obtain⟨i,hi,e⟩:=mem_iff_getElem.mp ha;exact hB i a (by rw[length_map];exact hi) (by rw[aeY hi,e])
theorem UJ{e de:Expr}{p pos kpos:Pos}{tl:TA}{td:TE}(hc:X.calm=true)(hg:Gl X "max")(hm:X.mg "max"=none)(hl:PA X [e] tl)(hd:PE X de td)(he:af6 [e] X.env=[(false,eval e X.env)]:=by rfl):
  PE X (.Call (.Name "max" p) [e] [⟨some "default",de,kpos⟩] pos) (qQ tl td):=by
 intro pins s σ H Q I h;have hname:(aiJ "max"++aiJ ".loop":String)="max.loop":=by decide
 refine ah5 (fO I hg hm (show af9 "max"=some (.builtin "max") by first|rfl|exact yJ) ?_ (by decide) (by decide));refine callWith_kw ?_ (by rw[he];rfl) (by rw[he];rfl) rfl rfl;refine aK (hl pos pins s σ H _ I h) λus s1⟨vs,H1,I1,r1,q1⟩=>?_;show afH _ _ (evalAll [(do let v <-eval de X.env;standAt pos;pure v)]) _ _ s1
 refine wpAny_evalAll_cons (aeS (aK (hd pins s1 σ H1 _ I1 q1) λdv s2⟨d,H2,I2,rd,l,ns,ex,hl2,q0,q⟩=>?_));subst ex;obtain⟨u,rfl,rx1⟩:=Vals.one r1;obtain rfl:u=af4 l:=rx1;refine aeS (wpAny_standAt (aeX (wpAny_evalAll_nil ?_)));show afH _ _ (call (.builtin "max") [.ref l] [(agW "default",dv)]) _ _ s2
 refine kmk_tree PySem.F.kind_max PySem.F.plain_max PySem.F.entry_max (W9 _ _) ?_;show afH _ X.A.in1 (af8.Builtins.bindParams "max" ["key","default"] 0 ⟨[],[(agW "default",dv)]⟩ >>=_) _ _ s2
 refine aeS (ahZ (show af8.Builtins.bindParams "max" ["key","default"] 0 ⟨[],[(agW "default",dv)]⟩=pure [none,some dv] from rfl) ?_);refine aeS (aeX ?_);rw[hname]
 cases hns:ns with
 |cons n0 ns'=>
  refine XB (kw:=[(agW "default",dv)]) (I2.ok.hd hc) (acV hl2 q) jO (λ_ _ _ h=>h) I2 hl2 (x0:=.int n0) (by rw[hns];rfl) ⟨rfl,n0,by rw[hns];rfl,rfl,λi z hi hz=>?_⟩;have:i=0:=by lia
  subst this;rw[hns]at hz;cases hz
  exact Int.le_refl _
 | nil=>
  rw[hns]at hl2;have I2':=I2.in1;have hh:X.A.handled=none:=I2.ok.hd hc;obtain⟨its,rv,pl,_⟩:=I2'.list (SqL.of hl2);have e0:its.toArray.size=0:=by rw[size_toArray];exact rv.length.symm
  refine aeS (ahX pl.isList ?_);refine aeS (ahN ?_ (ae2 _));refine aeX ⟨agG afR _,?_⟩;have ltl:l<s2.heap.objs.size:=by obtain⟨o,e,_⟩:=pl.isList;exact ae1 e
  have gI:((s2.heap.push { cls:=.type "list_iterator",data:=.fields #[.ref l,.int 0 0] }).push (afC "list" #[] 0)).get? s2.heap.objs.size=some { cls:=.type "list_iterator",data:=.fields #[.ref l,.int 0 0] }:=aeT _ (aeZ _ rfl);have gS:((s2.heap.push { cls:=.type "list_iterator",data:=.fields #[.ref l,.int 0 0] }).push (afC "list" #[] 0)).get? (s2.heap.push { cls:=.type "list_iterator",data:=.fields #[.ref l,.int 0 0] }).objs.size=some (afC "list" #[] 0):=aeZ _ rfl;have up:∀b o,s2.heap.get? b=some o->((s2.heap.push { cls:=.type "list_iterator",data:=.fields #[.ref l,.int 0 0] }).push (afC "list" #[] 0)).get? b=some o:=λb o e=>aeT _ (aeT _ e)
  have pl4:((s2.heap.push { cls:=.type "list_iterator",data:=.fields #[.ref l,.int 0 0] }).push (afC "list" #[] 0)).IsList l its.toArray:=by
   obtain⟨o,e,r⟩:=pl.isList;exact⟨o,up _ _ e,r⟩
  refine af5 ag7 ?_;rw[afU.under_plainId afR _];show afH _ X.A.in1 (seqItems? (.ref (s2.heap.push { cls:=.type "list_iterator",data:=.fields #[.ref l,.int 0 0] }).objs.size) >>=_) _ _ _
  refine aeS (ag4 gS rfl ?_);have Wk:=aiE (prog:=X.prog) (w:=X.w) (A:=X.A.in1) hh s2.heap.objs.size l (ae7 ltl) its.toArray;show afH _ X.A.in1 (aiN (aiO (.ref s2.heap.objs.size)) _ >>=_) _ _ _
  refine aeS (agO (Wk.done _ _ _ ⟨by rw[e0];exact⟨_,gI,rfl,rfl⟩,pl4⟩ λh' tk' hk'=>?_));refine aeS (aiG (aeX ?_));refine⟨d,H2,I2.kept (t':=tk') λb o e=>hk' b o ?_ (up b o e),rd,q0 hns⟩;intro hm;rcases mem_singleton.mp hm with z;exact absurd (ae1 e) (by rw[z];exact agJ _)
theorem ZV{e de:Expr}{p pos kpos:Pos}{tl:TA}{td:TE}(hg:Gl X "max")(hm:X.mg "max"=none)(hl:PA X [e] tl)(hd:PE X de td)(hc:X.calm=true:=by rfl)(he:af6 [e] X.env=[(false,eval e X.env)]:=by rfl):
  PE X (.Call (.Name "max" p) [e] [⟨some "default",de,kpos⟩] pos) (qQ tl td):=UJ hc hg hm hl hd he
section
variable{σ:St}{H:Hp}{Q:VK}{K:PySem.W.Frag}
theorem R6{tl:TA}{td:TE}(h:tl σ H λvs H1=>td σ H1 λd H2=>∃l ns,vs=[.ref l]/\H2 l=some (.lst (ns.map V.int))/\(ns=[]->Q d H2)/\∀M:Int,M∈ns->(∀a∈ns,a<=M)->Q (.int M) H2):qQ tl td σ H Q:=h
theorem R0{l:Addr}{vs:List V}{ps:List (List Int)}(hl:H l=some (.lst vs))(hv:∀(i:Nat)(p:List Int),ps[i]? =some p->∃a,vs[i]? =some (V.ref a)/\H a=some (.tup (p.map V.int)))(hn:vs.length=ps.length)(h0:0<ps.length)
  (q:∀(i:Nat)(p:List Int),ps[i]? =some p->(∀r∈ps,HT.lexLt r p=false)->∀x,vs[i]? =some x->Q x H):uD (nR K) [.ref l] H Q:=by
 obtain⟨p0,hp0⟩:∃p0,ps[0]? =some p0:=⟨_,aeY h0⟩
 obtain⟨a0,hv0,ha0⟩:=hv 0 p0 hp0;refine⟨l,vs,.ref a0,λj b k H'=>H'=H/\∃p,ps[b]? =some p/\vs[b]? =some k/\∀i r,i<j->ps[i]? =some r->HT.lexLt r p=false,rfl,hl,hv0,⟨?_,?_,?_⟩,rfl,p0,hp0,hv0,λi r hi hr=>?_⟩
 ·rintro j b k H' ⟨rfl,_⟩;exact hl
 ·rintro j b k H' x ⟨rfl,p,hp,hk,hB⟩ hx;have hj:j<ps.length:=by rw[<-hn];exact(ae3.mp hx).1
  obtain⟨r,hr⟩:∃r,ps[j]? =some r:=⟨_,aeY hj⟩
  obtain⟨a1,e1,t1⟩:=hv j r hr;obtain⟨a2,e2,t2⟩:=hv b p hp;rw[hx]at e1;rw[hk]at e2;cases e1;cases e2;refine⟨a1,a2,r,p,rfl,rfl,SqT.of t1,SqT.of t2,_,rfl,?_⟩
  cases g:HT.lexLt r p with
  | true=>
   rw[if_pos rfl];refine⟨rfl,r,hr,hx,λi y hi hy=>?_⟩;by_cases e:i=j
   ·subst e;rw[hr]at hy;cases hy;exact oY _
   ·have h1:=hB i y (by lia) hy
    cases g2:HT.lexLt y r with
    |false=>rfl
    |true=>rw[lT g2 g]at h1;cases h1
  |false=>
   rw[if_neg afK];refine⟨rfl,p,hp,hk,λi y hi hy=>?_⟩;by_cases e:i=j
   ·subst e;rw[hr]at hy;cases hy;exact g
   ·exact hB i y (by lia) hy
 ·rintro b k H' x ⟨rfl,p,hp,hk,hB⟩ hx;refine q b p hp (λr hr=>?_) x hx;obtain⟨i,hi,e⟩:=mem_iff_getElem.mp hr;exact hB i r (by rw[hn];exact hi) (by rw[aeY hi,e])
 ·have:i=0:=by lia
  subst this;rw[hp0]at hr;cases hr;exact oY _
end
end
section
variable{prog:afL}{w:agC}{A:afU}{E:Value->aeV->Prop}{s:aeV}
theorem G9{b:Bool}{Q:Bool->aeV->Prop}:∀{ns ms:List Int}{vs us:List Value}(i:Nat),Vals (ns.map V.int) vs->Vals (ms.map V.int) us->Q (HT.lexLt ns ms) s->
  PySem.W.KatLex prog w A b (decide (ns.length<ms.length)) Q (vs.zip us) i s
 |[],[],_,_,_,.nil,.nil,q=>q
 |[],_::_,_,_,_,.nil,.cons _ _,q=>q
 |_::_,[],_,_,_,.cons _ _,.nil,q=>q
 | n::ns,m::ms,_,_,i,.cons r1 t1,.cons r2 t2,q=>by
  obtain⟨t,rfl⟩:=r1;obtain⟨u,rfl⟩:=r2;rw[zip_cons_cons];refine PySem.W.kat_cons (SeqAt.EqAt.int_int n t m u prog w _ _ ?_);rw[HT.eF]at q;by_cases e:n=m
  ·rw[if_pos e]at q;rw[show(n==m)=true by simpa using e];have:=G9 (b:=b) (i+1) t1 t2 q;rw[show decide ((n::ns).length<(m::ms).length)=decide (ns.length<ms.length) by simp];exact PySem.W.kat_yes this
  ·rw[if_neg e]at q;rw[show(n==m)=false by simpa using e];refine PySem.W.kat_no ?_
   cases hb:(b&&i==0) with
   |true=>exact oneLt_int q
   |false=>exact PySem.W.kat_one _ _ (lt_int (show PySem.W.BoolBack Q (.bool (decide (n<m))) s from q))
end
section
variable{X:Cx}
noncomputable def uB(K:PySem.W.Frag):List V->Hp->VK->Prop:=λxs H Q=>∃(p:Addr)(vs:List V)(nss:List (List Int)),xs=[.ref p]/\(SqL K H p vs\/SqT K H p vs)/\IsAll H vs (nss.map (cC []))/\(∀ns∈nss,ns≠[])/\nss.Nodup/\nss.length<64/\
 ∀(l:Addr)(vs':List V)(nss':List (List Int)),H l=none->IsAll H vs' (nss'.map (cC []))->nss'.Perm nss->nss'.Pairwise (λa b=>HT.lexLt a b=true)->Q (.ref l) (upd H l (.lst vs'))
theorem abY:CallR X (.builtin "sorted") (uB X.K):=by
 intro pins s σ H xs us Q I r h;obtain⟨p,vs,nss,rfl,hq,ha,hk,hnd,h64,q⟩:=h;obtain⟨ps,hps0⟩:∃ps:List Str,ps=[]:=⟨_,rfl⟩
 rw[<-hps0]at ha q;obtain⟨u,rfl,rx⟩:=Vals.one r;cases(show u=af4 p from rx)
 obtain⟨its,rv,hl,hz⟩:∃its,Vals vs its/\Col X.prog X.w s p its/\vs.length<=sizeLine:=by
  rcases hq with hq|hq
  ·obtain⟨its,rv,pl,hz⟩:=I.list hq;exact⟨its,rv,Col.list pl.isList (by rw[<-rv.length];exact hz),hz⟩
  ·obtain⟨its,rv,pl,hz⟩:=I.tuple hq;exact⟨its,rv,Col.tup pl (by rw[<-rv.length];exact hz),hz⟩
 have e1:vs.length=nss.length:=by rw[ha.length,length_map]
 have e2:its.length=nss.length:=by rw[<-rv.length,e1]
 by_cases h2:its.length<2
 ·refine qX hl h2 λD h' n hD hkeep ho=>?_;refine⟨.ref D,_,I.laid (t':=s.toks) (o:=.lst vs) hkeep hD ⟨hz,its,n,rv,ho⟩,rfl,q D vs nss (I.hok.fresh hD) ha (ah6.refl _) ?_⟩
  match nss,e2,h2 with
  |[],_,_=>exact .nil
  |[a],_,_=>exact pairwise_singleton _ _
  |a::b::r,e2,h2=>simp at e2;lia
 ·obtain⟨m,F⟩:=I.fr;refine DD F (news:=jX X.base s.heap X.env.locals) uW hl (by lia) (by lia) λD e0 h' F' N' hD=>?_
  have hkeep:∀b o,b≠X.env.locals->s.heap.get? b=some o->h'.get? b=some o:=λb o hb e=>by
   cases qb:X.base.get? b with
   |some u=>
    have:=I.bk b u qb;rw[e]at this;cases this
    exact F'.keep b _ qb
   |none=>exact(N' (b,o) (mem_cons_of_mem _ (iB hb qb e))).1
  have item:∀(i:Nat)(ns:List Int),nss[i]? =some ns->∃(a:Addr)(o:Obj)(zs:List Value)(n:Nat),its.getD i Value.none=.ref a/\h'.get? a=some o/\o.cls=.type "tuple"/\o.data=.seq zs.toArray n/\Vals (ps.map V.str++ns.map V.int) zs:=λi ns e=>by
   obtain⟨v,ev,iv⟩:=ha.get (i:=i) (d:=cC ps ns) (by rw[ae4,e];rfl);obtain⟨u,eu,ru⟩:=rv.get ev;unfold cC at iv
   cases iv with
   |@tup a xs _ ea hxs=>
    obtain rfl:=hxs.preInts;obtain⟨zs,rz,⟨o,h1,h2,n,h3⟩,_⟩:=I.tuple (SqT.of ea);have hL:a≠X.env.locals:=λz=>by rw[z,I.free]at ea;cases ea
    refine⟨a,o,zs,n,?_,hkeep a o hL h1,h2,h3,rz⟩;rw[ae9,eu];exact ru
  obtain⟨T,fs,tups,hfl,hT,hTT⟩:∃(T:String)(fs:List Value),ahR h' its fs/\fs.length=its.length/\(∀v∈fs,typeOf v=pure (agH T))/\(agH T==agH T)=true:=by
   have go:∀T:String,(∀(ns:List Int)(zs:List Value),ns≠[]->Vals (ps.map V.str++ns.map V.int) zs->∃f,zs.toArray[0]? =some f/\typeOf f=pure (agH T))->
     ∃(fs:List Value),ahR h' its fs/\fs.length=its.length/\(∀v∈fs,typeOf v=pure (agH T)):=λT hf=>
    o4 its λi u eu=>by
     have hi:i<nss.length:=by rw[<-e2];exact(ae3.mp eu).1
     obtain⟨a,o,zs,n,g1,g2,g3,g4,g5⟩:=item i nss[i] (aeY hi);rw[ae9,eu]at g1;obtain⟨f,f1,f2⟩:=hf _ zs (hk _ (getElem_mem hi)) g5;exact⟨a,o,zs.toArray,n,f,g1,g2,g3,g4,f1,f2⟩
   cases hps:ps with
   | nil=>
    obtain⟨fs,a,b,c⟩:=go "int" λns zs hn rz=>by
     subst hps
     match ns,zs,rz,hn with
     |[],_,_,hn=>exact absurd rfl hn
     |n::ns,_,.cons r _,_=>
      obtain⟨t,rfl⟩:=r;exact⟨_,rfl,rfl⟩
    exact⟨"int",fs,a,b,c,rfl⟩
   |cons p1 pr=>rw[hps0]at hps;cases hps
  refine PySem.W.kat_kind tups (by lia) (λv hv=>PySem.W.Looks.of_pure (hT v hv)) hTT ?_;have S:kX (λi j=>HT.lexLt (nss.getD i []) (nss.getD j [])) its.length:=⟨λi j k _ _ _ a b=>lT a b,λi j hi hj hne a=>lU (λz=>hne ?_) a,λi j _ _ a=>iY a⟩
  ·rw [e2];rw[e2]at S;refine Run.wp (λi j C hi hj hC=>?_) (λpq hpq=>?_) (DJ S (by lia))
   ·show afH _ _ (keyLt' _ (its.getD i Value.none) (its.getD j Value.none)) C _ _;obtain⟨a,o,zs,n,g1,g2,g3,g4,g5⟩:=item i nss[i] (aeY hi);obtain⟨a',o',zs',n',g1',g2',g3',g4',g5'⟩:=item j nss[j] (aeY hj);rw[g1,g1'];refine PySem.W.kat_lt g2 g4 g2' g4' ?_;have g5a:Vals (nss[i].map V.int) zs:=by rw[hps0]at g5;exact g5
    have g5b:Vals (nss[j].map V.int) zs':=by rw[hps0]at g5';exact g5'
    have ez:decide (zs.toArray.size<zs'.toArray.size)=decide (nss[i].length<nss[j].length):=by
     have l1:=g5a.length;have l2:=g5b.length;rw[length_map]at l1 l2;rw[size_toArray,size_toArray,l1,l2]
    rw[ez];refine G9 0 (by simpa using g5a) (by simpa using g5b) ?_;have e1':nss.getD i []=nss[i]:=by simp[hi]
    have e2':nss.getD j []=nss[j]:=by simp[hj]
    rw[<-e1',<-e2'];exact hC
   ·obtain⟨P,up⟩:=hpq;refine PySem.W.KasFin.intro F' N' (.head λx hx=>ae7 (hD x hx)) λh'' c F'' N''=>?_
    have hnD:s.heap.get? D=none:=by
     cases qd:s.heap.get? D with
     |none=>rfl
     |some o=>
      have hh:=N' (D,_) mem_cons_self;have hm:=hD (D,o) (iB hh.2.1 hh.2.2 qd);exact absurd hm (agJ _)
    have hkeep2:∀b o,b≠X.env.locals->s.heap.get? b=some o->h''.get? b=some o:=λb o hb e=>by
     cases qb:X.base.get? b with
     |some u=>
      have:=I.bk b u qb;rw[e]at this;cases this
      exact F''.keep b _ qb
     |none=>exact(N'' (b,o) (mem_cons_of_mem _ (iB hb qb e))).1
    have hlt:∀x∈pq.toList,x<nss.length:=λx hx=>mem_range.mp (P.pm.mem_iff.mp hx)
    have rv2:∀l:List Nat,(∀x∈l,x<nss.length)->Vals (l.map λi=>vs.getD i .non) (l.map λi=>its.getD i Value.none)/\IsAll H (l.map λi=>vs.getD i .non) ((l.map λi=>nss.getD i []).map (cC ps)):=λl=>by
     induction l with
     |nil=>exact λ_=>⟨.nil,.nil⟩
     |cons x l ih=>
      intro hx;obtain⟨ih1,ih2⟩:=ih λy hy=>hx y (mem_cons_of_mem _ hy);have hxn:=hx x mem_cons_self;obtain⟨v,ev,iv⟩:=ha.get (i:=x) (d:=cC ps nss[x]) (by rw[ae4,aeY hxn];rfl);obtain⟨u,eu,ru⟩:=rv.get ev;have a1:vs.getD x .non=v:=by rw[ae9,ev];rfl
      have a2:its.getD x Value.none=u:=by rw[ae9,eu];rfl
      have a3:nss.getD x []=nss[x]:=by simp[hxn]
      simp only[map_cons,a1,a2,a3];exact⟨.cons ru ih1,.cons iv ih2⟩
    obtain⟨rv3,ia3⟩:=rv2 pq.toList hlt;have ho:=(N'' (D,_) mem_cons_self).1;have hpl:pq.toList.length=nss.length:=by rw[afF];exact P.sz
    refine⟨.ref D,_,I.laidBut (t':=s.toks) hkeep2 F.ns F''.ns hnD rv3 (by rw[length_map,hpl,sizeLine_eq];lia) ho,rfl,q D _ _ (I.none_of hnD) ia3 ?_ ?_⟩
    ·have:=P.pm.map λi=>nss.getD i [];rw[vB]at this;exact this
    ·rw[pairwise_iff_getElem];intro i j hi hj hij;simp only[length_map]at hi hj;have:=up i j hij (by rw[<-hpl];exact hj)
     have z:∀x(hx:x<pq.toList.length),pq.getD x 0=pq.toList[x]:=λx hx=>by
      have hx':x<pq.size:=by simpa using hx
      simp[agV,hx']
     rw[z i hi,z j hj]at this;simpa using this
  ·rw[e2]at hi hj;have e1':nss.getD i []=nss[i]:=by simp[hi]
   have e2':nss.getD j []=nss[j]:=by simp[hj]
   rw[e1',e2']at z;exact(getElem_inj hnd).mp z
theorem ZP(K:PySem.W.Frag)(h:X.K=K:=by rfl):CallR X (.builtin "sorted") (uB K):=h▸abY
end
section
variable{H:Hp}{Q:VK}{K:PySem.W.Frag}
theorem RH{p:Addr}{vs:List V}{nss:List (List Int)}(e:H p=some (.lst vs))(ha:IsAll H vs (nss.map (cC [])))(hk:∀ns∈nss,ns≠[])(nd:nss.Nodup)(h64:nss.length<64)
  (h:∀(l:Addr)(vs':List V)(nss':List (List Int)),H l=none->IsAll H vs' (nss'.map (cC []))->nss'.Perm nss->nss'.Pairwise (λa b=>HT.lexLt a b=true)->Q (.ref l) (upd H l (.lst vs'))):uB K [.ref p] H Q:=⟨p,vs,nss,rfl,.inl (SqL.of e),ha,hk,nd,h64,h⟩
end
end L2
namespace GM
noncomputable abbrev bL:=Int->Int->Bool
noncomputable def dJ(n:Nat)(p:List Int):Prop:=∀t∈p,0<=t/\t<(n:Int)
theorem mf{α:Type}{p:α->Bool}{a:α}{l:List α}(h:a∈l.filter p):a∈l:=(mem_filter.mp h).1
noncomputable def Pt(al:bL)(p:List Int):Prop:=p.Pairwise λa b=>al a b=true
structure fF (al:bL):Prop where
 irr:∀a,al a a=false
 asy:∀a b,al a b=true->al b a=false
theorem Pt.nd{al:bL}(h:fF al){p:List Int}(q:Pt al p):p.Nodup:=af7.imp (λ{a b}g z=>by
 subst z;rw[h.irr]at g
 cases g) q
theorem B5{al:bL}(h:fF al):∀{p q:List Int},Pt al p->Pt al q->(∀t,t∈p<->t∈q)->p=q
 |[],[],_,_,_=>rfl
 |[],b::q,_,_,e=>by have:=(e b).mpr mem_cons_self;cases this
 |a::p,[],_,_,e=>by have:=(e a).mp mem_cons_self;cases this
 | a::p,b::q,hp,hq,e=>by
  obtain⟨hp1,hp2⟩:=pairwise_cons.mp hp;obtain⟨hq1,hq2⟩:=pairwise_cons.mp hq;by_cases ab:a=b
  ·subst ab;have np:a∉p:=λz=>by have:=hp1 a z;rw[h.irr]at this;cases this
   have nq:a∉q:=λz=>by have:=hq1 a z;rw[h.irr]at this;cases this
   rw[B5 h hp2 hq2 λt=>⟨λht=>?_,λht=>?_⟩]
   ·rcases mem_cons.mp ((e t).mp (mem_cons_of_mem _ ht)) with z|z
    ·subst z;exact absurd ht np
    ·exact z
   ·rcases mem_cons.mp ((e t).mpr (mem_cons_of_mem _ ht)) with z|z
    ·subst z;exact absurd ht nq
    ·exact z
  ·have h1:a∈q:=by
    rcases mem_cons.mp ((e a).mp mem_cons_self) with z|z
    ·exact absurd z ab
    ·exact z
   have h2:b∈p:=by
    rcases mem_cons.mp ((e b).mpr mem_cons_self) with z|z
    ·exact absurd z.symm ab
    ·exact z
   have:=h.asy _ _ (hp1 b h2);rw[hq1 a h1]at this;cases this
noncomputable def gC:List Int->Nat
 |[]=>0
 |t::p=>(1 <<< t.toNat)|||gC p
theorem vA:∀(p:List Int)(i:Nat),(gC p).testBit i=decide (∃t∈p,t.toNat=i)
 |[],i=>by simp[gC]
 | t::p,i=>by
  have e:(1 <<< t.toNat).testBit i=decide (t.toNat=i):=by
   rw[Nat.one_shiftLeft,Nat.testBit_two_pow]
  rw[gC,Nat.testBit_or,vA p i,e];simp[mem_cons,or_and_right,exists_or,Bool.decide_or]
theorem u9{n:Nat}{p:List Int}(hp:dJ n p)(t:Int)(h0:0<=t):(gC p).testBit t.toNat=decide (t∈p):=by
 rw[vA]
 congr 1
 apply propext;constructor
 ·rintro⟨u,hu,e⟩;have:=hp u hu;have:u=t:=by lia
  subst this;exact hu
 ·intro h;exact⟨t,h,rfl⟩
theorem XD{n:Nat}{p:List Int}(hp:dJ n p):gC p<2^n:=by
 refine Nat.lt_pow_two_of_testBit _ λi hi=>?_;rw[vA];refine decide_eq_false ?_;rintro⟨t,ht,e⟩;have:=hp t ht;lia
theorem u8{n:Nat}{p:List Int}(hp:dJ n p)(ne:p≠[]):0<gC p:=by
 cases p with
 |nil=>exact absurd rfl ne
 |cons t p=>
  refine Nat.pos_of_ne_zero λz=>?_;have h:=u9 hp t (hp t mem_cons_self).1;rw[z,Nat.zero_testBit]at h;simp at h
theorem GD{m:Nat}:∀(l:List Nat),l.Nodup->(∀x∈l,x<m)->l.length<=m:=by
 induction m with
 |zero=>
  intro l _ h
  cases l with
  |nil=>exact aeU _
  |cons x l=>exact absurd (h x mem_cons_self) (Nat.not_lt_zero _)
 | succ m ih=>
  intro l nd h;by_cases hm:m∈l
  ·have h1:=ih (l.erase m) (nd.erase _) λx hx=>by
    have h2:=h x (List.mem_of_mem_erase hx)
    have h3:x≠m:=λz=>by
     subst z;exact(ah4.not_mem_erase nd) hx
    lia
   rw[List.length_erase_of_mem hm]at h1;lia
  ·have:=ih l nd λx hx=>by
    have h2:=h x hx;have h3:x≠m:=λz=>hm (z▸hx);lia
   lia
theorem many{al:bL}(h:fF al){n:Nat}{L:List (List Int)}(nd:L.Nodup)(hL:∀p∈L,p≠[]/\dJ n p/\Pt al p):L.length<2^n:=by
 have h1:(L.map λp=>gC p-1).Nodup:=by
  unfold ah4;rw[pairwise_map];refine af7.imp_of_mem (λ{p q}hp hq ne e=>?_) nd;obtain⟨p1,p2,p3⟩:=hL p hp;obtain⟨q1,q2,q3⟩:=hL q hq;have a:=u8 p2 p1;have b:=u8 q2 q1;have em:gC p=gC q:=by lia
  refine ne (B5 h p3 q3 λt=>?_);by_cases h0:0<=t
  ·have x:=u9 p2 t h0;have y:=u9 q2 t h0;rw[em,y]at x;exact(decide_eq_decide.mp x).symm
  ·exact⟨λz=>absurd (p2 t z).1 h0,λz=>absurd (q2 t z).1 h0⟩
 have h2:=GD (m:=2^n-1) _ h1 λx hx=>by
  obtain⟨p,hp,rfl⟩:=mem_map.mp hx;have a:=XD (hL p hp).2.1;have b:=u8 (hL p hp).2.1 (hL p hp).1;show gC p-1<2^n-1
  lia
 rw[length_map]at h2;have:0<2^n:=Nat.two_pow_pos n;lia
theorem Pt.len{al:bL}(h:fF al){n:Nat}{p:List Int}(q:Pt al p)(hp:dJ n p):p.length<=n:=by
 have nd:=q.nd h
 have h1:(p.map Int.toNat).Nodup:=by
  unfold ah4;rw[pairwise_map];refine af7.imp_of_mem (λ{a b}ha hb ne e=>ne ?_) nd;have:=hp a ha;have:=hp b hb;lia
 have h2:=GD (m:=n) _ h1 λx hx=>by
  obtain⟨t,ht,rfl⟩:=mem_map.mp hx;have:=hp t ht;lia
 rw[length_map]at h2;exact h2
noncomputable def i4(n:Nat)(al:bL)(p:List Int):List (List Int):=((L2.upTo n).filter λt=>p.all λb=>al b t).map λt=>p++[t]
noncomputable def grow(n:Nat)(al:bL)(ps:List (List Int)):List (List Int):=ps.flatMap (i4 n al)
theorem mem_growOne{n:Nat}{al:bL}{p q:List Int}:q∈i4 n al p<->∃t:Int,q=p++[t]/\0<=t/\t<(n:Int)/\∀b∈p,al b t=true:=by
 unfold i4;rw[mem_map];constructor
 ·rintro⟨t,ht,rfl⟩;obtain⟨h1,h2⟩:=mem_filter.mp ht;obtain⟨a,b⟩:=L2.mem_upTo.mp h1;exact⟨t,rfl,a,b,λb hb=>all_eq_true.mp h2 b hb⟩
 ·rintro⟨t,rfl,a,b,c⟩;exact⟨t,mem_filter.mpr ⟨L2.mem_upTo.mpr ⟨a,b⟩,all_eq_true.mpr c⟩,rfl⟩
structure Lvl (n:Nat) (al:bL) (k:Nat) (ps:List (List Int)):Prop where
 nd:ps.Nodup
 mem:∀p,p∈ps<->p.length=k+1/\dJ n p/\Pt al p
theorem YL(n:Nat)(al:bL):Lvl n al 0 ((L2.upTo n).map λt=>[t]) where
 nd:=by
  unfold ah4;rw[pairwise_map];exact af7.imp (λ{a b}h z=>h (by injection z)) (L2.BW n)
 mem:=λp=>by
  rw[mem_map];constructor
  ·rintro⟨t,ht,rfl⟩;refine⟨rfl,λu hu=>?_,pairwise_singleton _ _⟩;rcases mem_singleton.mp hu with rfl;exact L2.mem_upTo.mp ht
  ·rintro⟨h1,h2,h3⟩
   match p,h1 with
   |[t],_=>exact⟨t,L2.mem_upTo.mpr (h2 t mem_cons_self),rfl⟩
theorem Lvl.grow{n:Nat}{al:bL}{k:Nat}{ps:List (List Int)}(h:Lvl n al k ps):Lvl n al (k+1) (grow n al ps) where
 nd:=by
  unfold ah4 GM.grow;rw[List.pairwise_flatMap];refine⟨λp _=>?_,af7.imp (λ{p q}ne x hx y hy z=>?_) h.nd⟩
  ·unfold i4;rw[pairwise_map];refine af7.imp (λ{a b}h z=>h ?_) (af7.filter _ (L2.BW n));have:=List.append_cancel_left z;injection this
  ·obtain⟨t,rfl,_⟩:=mem_growOne.mp hx;obtain⟨u,rfl,_⟩:=mem_growOne.mp hy;have:=List.append_inj' z rfl;exact ne this.1
 mem:=λq=>by
  unfold GM.grow;rw[mem_flatMap];constructor
  ·rintro⟨p,hp,hq⟩;obtain⟨t,rfl,t0,t1,ha⟩:=mem_growOne.mp hq;obtain⟨h1,h2,h3⟩:=(h.mem p).mp hp;refine⟨by rw[length_append,h1];rfl,λu hu=>?_,?_⟩
   ·rcases mem_append.mp hu with z|z
    ·exact h2 u z
    ·rcases mem_singleton.mp z with rfl;exact⟨t0,t1⟩
   ·unfold Pt;rw[pairwise_append];refine⟨h3,pairwise_singleton _ _,λa ha' b hb=>?_⟩;rcases mem_singleton.mp hb with rfl;exact ha a ha'
  ·rintro⟨h1,h2,h3⟩;have ne:q≠[]:=λz=>by subst z;cases h1
   have e:=(List.dropLast_concat_getLast ne).symm;rw[e]at h1 h2 h3;unfold Pt at h3;rw[pairwise_append]at h3;refine⟨q.dropLast,(h.mem _).mpr ⟨by rw[length_append]at h1;simpa using h1,λu hu=>h2 u (mem_append_left _ hu),h3.1⟩,?_⟩;rw[mem_growOne];obtain⟨a,b⟩:=h2 (q.getLast ne) (mem_append_right _ mem_cons_self);exact⟨q.getLast ne,e,a,b,λb hb=>h3.2.2 b hb _ mem_cons_self⟩
structure Fnd (n:Nat) (al:bL) (k:Nat) (fs:List (List Int)):Prop where
 nd:fs.Nodup
 mem:∀p,p∈fs<->p≠[]/\p.length<=k/\dJ n p/\Pt al p
theorem aa7(n:Nat)(al:bL):Fnd n al 0 []:=⟨.nil,λp=>⟨λh=>(by cases h),λ⟨h1,h2,_⟩=>absurd (length_eq_zero_iff.mp (Nat.le_zero.mp h2)) h1⟩⟩
theorem Fnd.next{n:Nat}{al:bL}{k:Nat}{fs ps:List (List Int)}(h:Fnd n al k fs)(l:Lvl n al k ps):Fnd n al (k+1) (fs++ps) where
 nd:=by
  unfold ah4;rw[pairwise_append];refine⟨h.nd,l.nd,λp hp q hq z=>?_⟩;subst z;have:=((h.mem p).mp hp).2.1;have:=((l.mem p).mp hq).1;lia
 mem:=λp=>by
  rw[mem_append,h.mem,l.mem];constructor
  ·rintro(⟨a,b,c⟩|⟨a,b⟩)
   ·exact⟨a,by lia,c⟩
   ·exact⟨λz=>(by subst z;cases a),by lia,b⟩
  ·rintro⟨a,b,c⟩;by_cases e:p.length=k+1
   ·exact .inr ⟨e,c⟩
   ·exact .inl ⟨a,by lia,c⟩
structure Parts (n:Nat) (al:bL) (L:List (List Int)):Prop where
 nd:L.Nodup
 mem:∀p,p∈L<->p≠[]/\dJ n p/\Pt al p
theorem Fnd.all{n:Nat}{al:bL}{k:Nat}{fs:List (List Int)}(h:Fnd n al k fs)(l:Lvl n al k []):Parts n al fs where
 nd:=h.nd
 mem:=λp=>by
  rw[h.mem];refine⟨λ⟨a,_,b⟩=>⟨a,b⟩,λ⟨a,b,c⟩=>⟨a,Nat.le_of_not_lt λhk=>?_,b,c⟩⟩;have:p.take (k+1)∈([]:List (List Int)):=(l.mem _).mpr ⟨by rw[length_take];lia,λt ht=>b t (mem_of_mem_take ht),af7.sublist (take_sublist _ _) c⟩;cases this
theorem Lvl.few{n:Nat}{al:bL}(h:fF al){k:Nat}{ps:List (List Int)}(l:Lvl n al k ps)(ne:ps≠[]):k<n:=by
 cases ps with
 |nil=>exact absurd rfl ne
 |cons p ps=>
  obtain⟨a,b,c⟩:=(l.mem p).mp mem_cons_self;have:=c.len h b;lia
theorem Parts.perm{n:Nat}{al:bL}{L L':List (List Int)}(h:Parts n al L)(p:L'.Perm L):Parts n al L':=⟨p.nodup_iff.mpr h.nd,λq=>(p.mem_iff).trans (h.mem q)⟩
noncomputable def wi(S c:List Int):Bool:=c.all λt=>decide (t∈S)
theorem wi_iff{S c:List Int}:wi S c=true<->∀t∈c,t∈S:=by
 unfold wi;rw[all_eq_true];exact⟨λh t ht=>of_decide_eq_true (h t ht),λh t ht=>decide_eq_true (h t ht)⟩
noncomputable def bV(S p:List Int):List Int:=S.filter λt=> !decide (t∈p)
theorem mem_sans{S p:List Int}{t:Int}:t∈bV S p<->t∈S/\t∉p:=by
 unfold bV;rw[mem_filter];simp
noncomputable def gZ(C:List (List Int))(S:List Int):List Nat:=(C.filter λc=>wi S c).map List.length
noncomputable def mx:List Nat->Nat
 |[]=>0
 |a::l=>max a (mx l)
theorem vI:∀{l:List Nat}{a:Nat},a∈l->a<=mx l
 |b::l,a,h=>by
  rw[mx];rcases mem_cons.mp h with rfl|h
  ·exact Nat.le_max_left _ _
  ·exact afO (vI h) (Nat.le_max_right _ _)
theorem uZ:∀{l:List Nat},l≠[]->mx l∈l
 |[a],_=>by simp[mx]
 |a::b::l,_=>by
  rw[mx];have:=uZ (l:=b::l) (by simp);rcases Nat.le_total a (mx (b::l)) with h|h
  ·rw[Nat.max_eq_right h];exact mem_cons_of_mem _ this
  ·rw[Nat.max_eq_left h];exact mem_cons_self
noncomputable def most(C:List (List Int))(S:List Int):Nat:=mx (gZ C S)
theorem lV{C:List (List Int)}{S c:List Int}(h:c∈C)(hs:∀t∈c,t∈S):c.length<=most C S:=
 vI (mem_map.mpr ⟨c,mem_filter.mpr ⟨h,wi_iff.mpr hs⟩,rfl⟩)
theorem GG{C:List (List Int)}{S:List Int}:most C S=0\/∃c∈C,(∀t∈c,t∈S)/\c.length=most C S:=by
 by_cases h:gZ C S=[]
 ·left;unfold most;rw[h];rfl
 ·right;obtain⟨c,hc,e⟩:=mem_map.mp (uZ h);obtain⟨h1,h2⟩:=mem_filter.mp hc;exact⟨c,h1,wi_iff.mp h2,e⟩
theorem GF{C:List (List Int)}{S p:List Int}(pos:0<most C S)(hit:∀c∈C,(∀t∈c,t∈S)->c.length=most C S->∃t∈c,t∈p):most C (bV S p)<most C S:=by
 rcases GG (C:=C) (S:=bV S p) with h|⟨c,hc,hs,e⟩
 ·rw[h];exact pos
 ·have hs':∀t∈c,t∈S:=λt ht=>(mem_sans.mp (hs t ht)).1;have le:=lV hc hs';refine Nat.lt_of_le_of_ne (by rw[<-e];exact le) λz=>?_;obtain⟨t,ht,hp⟩:=hit c hc hs' (by rw[e,z]);exact(mem_sans.mp (hs t ht)).2 hp
structure Semi (n:Nat) (lt:bL):Prop where
 inn:∀a b,lt a b=true->(0<=a/\a<(n:Int))/\0<=b/\b<(n:Int)
 irr:∀a,lt a a=false
 two:∀a b c d,lt a b=true->lt c d=true->lt a d=true\/lt c b=true
 three:∀a b c d,lt a b=true->lt b c=true->0<=d->d<(n:Int)->lt a d=true\/lt d c=true
section
variable{n:Nat}{lt:bL}
theorem Semi.tr(h:Semi n lt){a b c:Int}(h1:lt a b=true)(h2:lt b c=true):lt a c=true:=by
 rcases h.two a b b c h1 h2 with z|z
 ·exact z
 ·rw[h.irr]at z;cases z
theorem Semi.asy(h:Semi n lt):fF lt:=⟨h.irr,λa b h1=>by
 cases h2:lt b a with
 |false=>rfl
 |true=>have:=h.tr h1 h2;rw[h.irr]at this;cases this⟩
noncomputable def eJ(lt:bL)(a b:Int):Bool:= !lt a b&& !lt b a
noncomputable def gr(lt:bL)(a b:Int):Bool:=decide (a<b)&&eJ lt a b
theorem kL(lt:bL):fF (gr lt):=⟨λa=>by unfold gr;simp,λa b h=>by
 unfold gr at *;rw[afB]at h;have:=of_decide_eq_true h.1;rw[decide_eq_false (by lia)]
 rfl⟩
noncomputable def le(lt:bL)(x y:Int):Prop:=(∀z,lt z x=true->lt z y=true)/\∀z,lt y z=true->lt x z=true
theorem le_refl(x:Int):le lt x x:=⟨λ_ h=>h,λ_ h=>h⟩
theorem le_trans{x y z:Int}(a:le lt x y)(b:le lt y z):le lt x z:=⟨λw h=>b.1 w (a.1 w h),λw h=>a.2 w (b.2 w h)⟩
theorem le_total(h:Semi n lt){x y:Int}(hx:0<=x/\x<(n:Int))(hy:0<=y/\y<(n:Int)):le lt x y\/le lt y x:=by
 by_cases c1:le lt x y
 ·exact .inl c1
 ·by_cases c2:le lt y x
  ·exact .inr c2
  ·exfalso
   have d1:(∃z,lt z x=true/\¬lt z y=true)\/∃z,lt y z=true/\¬lt x z=true:=by
    by_cases q:∀z,lt z x=true->lt z y=true
    ·refine .inr ?_;apply afV;intro w;refine c1 ⟨q,λz hz=>?_⟩;apply afV;intro v;exact w ⟨z,hz,v⟩
    ·refine .inl ?_;apply afV;intro w;refine q λz hz=>?_;apply afV;intro v;exact w ⟨z,hz,v⟩
   have d2:(∃z,lt z y=true/\¬lt z x=true)\/∃z,lt x z=true/\¬lt y z=true:=by
    by_cases q:∀z,lt z y=true->lt z x=true
    ·refine .inr ?_;apply afV;intro w;refine c2 ⟨q,λz hz=>?_⟩;apply afV;intro v;exact w ⟨z,hz,v⟩
    ·refine .inl ?_;apply afV;intro w;refine q λz hz=>?_;apply afV;intro v;exact w ⟨z,hz,v⟩
   rcases d1 with⟨z,z1,z2⟩|⟨z,z1,z2⟩
   ·rcases d2 with⟨v,v1,v2⟩|⟨v,v1,v2⟩
    ·rcases h.two _ _ _ _ z1 v1 with g|g
     ·exact z2 g
     ·exact v2 g
    ·rcases h.three _ _ _ y z1 v1 hy.1 hy.2 with g|g
     ·exact z2 g
     ·exact v2 g
   ·rcases d2 with⟨v,v1,v2⟩|⟨v,v1,v2⟩
    ·rcases h.three _ _ _ x v1 z1 hx.1 hx.2 with g|g
     ·exact v2 g
     ·exact z2 g
    ·rcases h.two _ _ _ _ z1 v1 with g|g
     ·exact v2 g
     ·exact z2 g
theorem vJ(h:Semi n lt):∀{S:List Int},S≠[]->dJ n S->∃m∈S,∀y∈S,le lt m y
 |[x],_,_=>⟨x,mem_cons_self,λy hy=>by rcases mem_singleton.mp hy with rfl;exact le_refl _⟩
 | x::y::S,_,hi=>by
  obtain⟨m,hm,hl⟩:=vJ h (S:=y::S) (by simp) λt ht=>hi t (mem_cons_of_mem _ ht);rcases le_total h (hi x mem_cons_self) (hi m (mem_cons_of_mem _ hm)) with g|g
  ·refine⟨x,mem_cons_self,λz hz=>?_⟩;rcases mem_cons.mp hz with rfl|hz
   ·exact le_refl _
   ·exact le_trans g (hl z hz)
  ·refine⟨m,mem_cons_of_mem _ hm,λz hz=>?_⟩;rcases mem_cons.mp hz with rfl|hz
   ·exact g
   ·exact hl z hz
theorem HA(h:Semi n lt):∀{S:List Int},S≠[]->∃m∈S,∀y∈S,lt y m=false
 |[x],_=>⟨x,mem_cons_self,λy hy=>by rcases mem_singleton.mp hy with rfl;exact h.irr _⟩
 | x::y::S,_=>by
  obtain⟨m,hm,hl⟩:=HA h (S:=y::S) (by simp)
  cases g:lt x m with
  | true=>
   refine⟨x,mem_cons_self,λz hz=>?_⟩;rcases mem_cons.mp hz with rfl|hz
   ·exact h.irr _
   ·cases g2:lt z x with
    |false=>rfl
    |true=>have:=hl z hz;rw[h.tr g2 g]at this;cases this
  |false=>
   refine⟨m,mem_cons_of_mem _ hm,λz hz=>?_⟩;rcases mem_cons.mp hz with rfl|hz
   ·exact g
   ·exact hl z hz
theorem FD{al:bL}{C:List (List Int)}(hC:Parts n al C){S:List Int}(ne:S≠[])(hi:dJ n S):0<most C S:=by
 cases S with
 |nil=>exact absurd rfl ne
 |cons t S=>
  have:[t]∈C:=(hC.mem _).mpr ⟨by simp,λu hu=>by rcases mem_singleton.mp hu with rfl;exact hi u mem_cons_self,pairwise_singleton _ _⟩;have:=lV this (S:=t::S) λu hu=>by rcases mem_singleton.mp hu with rfl;exact mem_cons_self
  exact this
theorem WP(h:Semi n lt){G L:List (List Int)}(hG:Parts n (gr lt) G)(hL:Parts n lt L){S:List Int}(ne:S≠[])(hi:dJ n S)(up:S.Pairwise (· < ·)):
  ∃p∈G,(∀t∈p,t∈S)/\most L (bV S p)<most L S:=by
 obtain⟨m,hm,hl⟩:=HA h ne;refine⟨S.filter λx=>S.all λy=> !lt y x,(hG.mem _).mpr ⟨?_,λt ht=>hi t (mf ht),?_⟩,λt ht=>mf ht,GF (FD hL ne hi) λc hc hs e=>?_⟩
 ·intro z;have:m∈S.filter λx=>S.all λy=> !lt y x:=mem_filter.mpr ⟨hm,all_eq_true.mpr λy hy=>by rw[hl y hy];rfl⟩;rw[z]at this;cases this
 ·unfold Pt;refine af7.imp_of_mem (λ{a b}ha hb g=>?_) (af7.filter _ up);obtain⟨a1,a2⟩:=mem_filter.mp ha;obtain⟨b1,b2⟩:=mem_filter.mp hb;have p1:=all_eq_true.mp a2 b b1;have p2:=all_eq_true.mp b2 a a1;unfold gr eJ;rw[decide_eq_true g];simp only[Bool.not_eq_true']at p1 p2;rw[p1,p2];rfl
 ·obtain⟨c1,c2,c3⟩:=(hL.mem c).mp hc
  cases c with
  |nil=>exact absurd rfl c1
  | cons x r=>
   refine⟨x,mem_cons_self,mem_filter.mpr ⟨hs x mem_cons_self,all_eq_true.mpr λy hy=>?_⟩⟩
   cases g:lt y x with
   |false=>rfl
   | true=>
    exfalso
    have:(y::x::r)∈L:=(hL.mem _).mpr ⟨by simp,λt ht=>by
     rcases mem_cons.mp ht with rfl|ht
     ·exact hi t hy
     ·exact c2 t ht,pairwise_cons.mpr ⟨λz hz=>by
     rcases mem_cons.mp hz with rfl|hz
     ·exact g
     ·exact h.tr g ((pairwise_cons.mp c3).1 z hz),c3⟩⟩
    have:=lV this (S:=S) λt ht=>by
     rcases mem_cons.mp ht with rfl|ht
     ·exact hy
     ·exact hs t ht
    rw[length_cons,e]at this;lia
noncomputable def ins(x:Int):List Int->List Int
 |[]=>[x]
 |a::l=>if x<a then x::a::l else a::ins x l
theorem mem_ins{x t:Int}:∀{l:List Int},t∈ins x l<->t=x\/t∈l
 |[]=>by simp[ins]
 | a::l=>by
  rw[ins];split
  ·simp
  ·rw[mem_cons,mem_ins,mem_cons];constructor
   ·rintro(h|h|h)
    ·exact .inr (.inl h)
    ·exact .inl h
    ·exact .inr (.inr h)
   ·rintro(h|h|h)
    ·exact .inr (.inl h)
    ·exact .inl h
    ·exact .inr (.inr h)
theorem vN(x:Int):∀l:List Int,(ins x l).length=l.length+1
 |[]=>rfl
 |a::l=>by
  rw[ins];split
  ·rfl
  ·rw[length_cons,vN x l,length_cons]
theorem HR{x:Int}:∀{l:List Int},Pt (gr lt) l->x∉l->(∀a∈l,eJ lt x a=true)->Pt (gr lt) (ins x l)
 |[],_,_,_=>pairwise_singleton _ _
 | a::l,h,nx,hb=>by
  obtain⟨h1,h2⟩:=pairwise_cons.mp h;have sym:∀{a b:Int},eJ lt a b=true->eJ lt b a=true:=λ{a b}g=>by unfold eJ at *;rw[Bool.and_comm];exact g
  rw[ins];split
  ·rename_i g;refine pairwise_cons.mpr ⟨λt ht=>?_,h⟩
   have lt1:x<t:=by
    rcases mem_cons.mp ht with rfl|ht
    ·exact g
    ·have:=h1 t ht;unfold gr at this;rw[afB]at this;have:=of_decide_eq_true this.1;lia
   show(decide (x<t)&&eJ lt x t)=true;rw[decide_eq_true lt1,hb t ht];rfl
  ·rename_i g;refine pairwise_cons.mpr ⟨λt ht=>?_,HR h2 (λz=>nx (mem_cons_of_mem _ z)) λb hb'=>hb b (mem_cons_of_mem _ hb')⟩;rcases mem_ins.mp ht with rfl|ht
   ·have:a<t:=by
     have:t≠a:=λz=>nx (z▸mem_cons_self);lia
    show(decide (a<t)&&eJ lt a t)=true;rw[decide_eq_true this,sym (hb a mem_cons_self)];rfl
   ·exact h1 t ht
theorem vS{G:List (List Int)}(hG:Parts n (gr lt) G){S A:List Int}{x:Int}(hi:dJ n S)(hx:x∈S)(hA:A∈G)(hs:∀t∈A,t∈S)(e:A.length=most G S)(hb:∀a∈A,eJ lt x a=true):x∈A:=by
 apply afV;intro nx;obtain⟨_,a2,a3⟩:=(hG.mem A).mp hA
 have:ins x A∈G:=(hG.mem _).mpr ⟨λz=>by have:=vN x A;rw[z]at this;simp at this,λt ht=>by
  rcases mem_ins.mp ht with rfl|ht
  ·exact hi t hx
  ·exact a2 t ht,HR a3 nx hb⟩
 have:=lV this (S:=S) λt ht=>by
  rcases mem_ins.mp ht with rfl|ht
  ·exact hx
  ·exact hs t ht
 rw[vN,e]at this;lia
theorem HS{G:List (List Int)}(hG:Parts n (gr lt) G){A:List Int}(hA:A∈G){a b:Int}(h:Semi n lt)(ha:a∈A)(hb:b∈A):lt a b=false:=by
 obtain⟨_,_,a3⟩:=(hG.mem A).mp hA
 have sub:∀{l:List Int},Pt (gr lt) l->a∈l->b∈l->lt a b=false:=λ{l}=>by
  induction l with
  |nil=>intro _ h;cases h
  | cons x l ih=>
   intro hp h1 h2;obtain⟨p1,p2⟩:=pairwise_cons.mp hp;rcases mem_cons.mp h1 with rfl|g1
   ·rcases mem_cons.mp h2 with rfl|g2
    ·exact h.irr _
    ·have:=p1 b g2;unfold gr eJ at this;simp at this;exact this.2.1
   ·rcases mem_cons.mp h2 with rfl|g2
    ·have:=p1 a g1;unfold gr eJ at this;simp at this;exact this.2.2
    ·exact ih p2 g1 g2
 exact sub a3 ha hb
theorem YZ(h:Semi n lt){G:List (List Int)}(hG:Parts n (gr lt) G){S:List Int}(hi:dJ n S):∀(k:Nat)(x:Int),x∈S->(S.filter λy=>lt x y).length<=k->
  ∃r:List Int,Pt lt (x::r)/\(∀t∈r,t∈S)/\∀A∈G,(∀t∈A,t∈S)->A.length=most G S->(∀a∈A,le lt x a)->∃t∈x::r,t∈A:=by
 intro k
 induction k with
 | zero=>
  intro x hx hk;refine⟨[],pairwise_singleton _ _,(λt ht=>by cases ht),λA hA hs e hl=>⟨x,mem_cons_self,vS hG hi hx hA hs e λa ha=>?_⟩⟩
  have no:∀y∈S,lt x y=false:=λy hy=>by
   cases g:lt x y with
   |false=>rfl
   |true=>
    have:y∈S.filter λy=>lt x y:=mem_filter.mpr ⟨hy,g⟩;rw[length_eq_zero_iff.mp (Nat.le_zero.mp hk)]at this;cases this
  unfold eJ;rw[no a (hs a ha)]
  cases g:lt a x with
  |false=>rfl
  |true=>have:=(hl a ha).1 a g;rw[h.irr]at this;cases this
 | succ k ih=>
  intro x hx hk;by_cases ex:∃y∈S,lt x y=true
  ·obtain⟨y0,hy0,g0⟩:=ex
   have ne:(S.filter λy=>lt x y)≠[]:=λz=>by
    have:y0∈S.filter λy=>lt x y:=mem_filter.mpr ⟨hy0,g0⟩;rw[z]at this;cases this
   obtain⟨y,hy,hmin⟩:=vJ h ne λt ht=>hi t (mf ht);obtain⟨y1,y2⟩:=mem_filter.mp hy
   have sm:(S.filter λz=>lt y z).length<=k:=by
    have e1:(S.filter λz=>lt y z)=(S.filter λz=>lt x z).filter λz=>lt y z:=by
     rw[List.filter_filter];refine List.filter_congr λz hz=>?_
     cases g:lt y z with
     |false=>rfl
     |true=>rw[h.tr y2 g];rfl
    have e2:((S.filter λz=>lt x z).filter λz=>lt y z).length<(S.filter λz=>lt x z).length:=by
     refine Nat.lt_of_le_of_ne (length_filter_le _ _) λz=>?_;have:=(List.length_filter_eq_length_iff.mp z) y hy;rw[h.irr]at this;cases this
    rw[e1];lia
   obtain⟨r,r1,r2,r3⟩:=ih y y1 sm;refine⟨y::r,pairwise_cons.mpr ⟨λt ht=>?_,r1⟩,λt ht=>?_,λA hA hs e hl=>?_⟩
   ·rcases mem_cons.mp ht with rfl|ht
    ·exact y2
    ·exact h.tr y2 ((pairwise_cons.mp r1).1 t ht)
   ·rcases mem_cons.mp ht with rfl|ht
    ·exact y1
    ·exact r2 t ht
   ·by_cases ally:∀a∈A,le lt y a
    ·obtain⟨t,ht,hA'⟩:=r3 A hA hs e ally;exact⟨t,mem_cons_of_mem _ ht,hA'⟩
    ·obtain⟨a0,ha0,na0⟩:∃a0∈A,¬le lt y a0:=by
      apply afV;intro w;refine ally λa ha=>?_;apply afV;intro v;exact w ⟨a,ha,v⟩
     by_cases up:∃b∈A,lt x b=true
     ·obtain⟨b,hb,gb⟩:=up;have yb:le lt y b:=hmin b (mem_filter.mpr ⟨hs b hb,gb⟩)
      have a0y:le lt a0 y:=by
       rcases le_total h (hi a0 (hs a0 ha0)) (hi y y1) with g|g
       ·exact g
       ·exact absurd g na0
      refine⟨y,mem_cons_of_mem _ mem_cons_self,vS hG hi y1 hA hs e λc hc=>?_⟩;unfold eJ
      cases g1:lt y c with
      |true=>have:=a0y.2 c g1;rw[HS hG hA h ha0 hc]at this;cases this
      |false=>
       cases g2:lt c y with
       |true=>have:=yb.1 c g2;rw[HS hG hA h hc hb]at this;cases this
       |false=>rfl
     ·refine⟨x,mem_cons_self,vS hG hi hx hA hs e λa ha=>?_⟩;unfold eJ
      cases g1:lt x a with
      |true=>exact absurd ⟨a,ha,g1⟩ up
      |false=>
       cases g2:lt a x with
       |true=>have:=(hl a ha).1 a g2;rw[h.irr]at this;cases this
       |false=>rfl
  ·exact ih x hx (by
    have:(S.filter λy=>lt x y)=[]:=List.filter_eq_nil_iff.mpr λy hy g=>ex ⟨y,hy,g⟩;rw[this]
    exact ae2 _)
theorem WO(h:Semi n lt){G L:List (List Int)}(hG:Parts n (gr lt) G)(hL:Parts n lt L){S:List Int}(ne:S≠[])(hi:dJ n S):
  ∃p∈L,(∀t∈p,t∈S)/\most G (bV S p)<most G S:=by
 obtain⟨x,hx,hl⟩:=vJ h ne hi;obtain⟨r,r1,r2,r3⟩:=YZ h hG hi _ x hx (aeU _)
 have hs:∀t∈x::r,t∈S:=λt ht=>by
  rcases mem_cons.mp ht with rfl|ht
  ·exact hx
  ·exact r2 t ht
 exact⟨x::r,(hL.mem _).mpr ⟨by simp,λt ht=>hi t (hs t ht),r1⟩,hs,GF (FD hG ne hi) λA hA hA2 e=>let⟨t,a,b⟩:=r3 A hA hA2 e λa ha=>hl a (hA2 a ha);⟨t,b,a⟩⟩
end
end GM
namespace L2
open PySem PySem.Spec PyProof.Rows
section
open PySem.SeqAt
open PySem.AutoSeq1 (wpAny_loadPart')
open PySem.MeetsSeq PySem.MeetsSeq2 PySem.MeetsSeq3
end
end L2
namespace GM
open L2
structure Cov (PL:List (List Int)) (S:List Int) (res:List (List Int)):Prop where
 mem:∀p∈res,p∈PL/\∀t∈p,t∈S
 all:∀t∈S,∃p∈res,t∈p
 dis:res.Pairwise λp q=>∀t∈p,t∉q
noncomputable def Srt(res:List (List Int)):Prop:=res.Pairwise λp q=>HT.lexLt p q=true
end GM
namespace TS
open PySem PySem.Spec PyProof.Rows
noncomputable def fQ:Bool->Keyed->Array Keyed->Nat->Nat->Nat->StateT SortSt Sem (Option Nat):=sortPriv% PySem.Builtin.gallop
noncomputable def jU(left:Bool)(key:Keyed)(arr:Array Keyed)(base i:Nat):StateT SortSt Sem (Option Bool):=do
 let x <-elem' arr (base+i)
 if left then lt' x key else return (<-lt' key x).map (!·)
theorem aa3(left:Bool)(key:Keyed)(arr:Array Keyed)(base n hint:Nat):fQ left key arr base n hint=(do
 let mut lastofs:=0
 let mut ofs:=1
 let mut lo:=0
 let mut hi:=0
 let some right <-jU left key arr base hint|return none
 if right then
  let maxofs:=n-hint
  for _ in [0:n] do
   if ofs>=maxofs then break
   let some more <-jU left key arr base (hint+ofs)|return none
   if !more then break
   lastofs:=ofs
   ofs:=2*ofs+1
  lo:=hint+lastofs+1
  hi:=hint+min ofs maxofs
 else
  let maxofs:=hint+1
  for _ in [0:n] do
   if ofs>=maxofs then break
   let some found <-jU left key arr base (hint-ofs)|return none
   if found then break
   lastofs:=ofs
   ofs:=2*ofs+1
  lo:=hint+1-min ofs maxofs
  hi:=hint-lastofs
 for _ in [0:n] do
  if lo>=hi then break
  let m:=lo+(hi-lo)/2
  let some more <-jU left key arr base m|return none
  if more then lo:=m+1 else hi:=m
 return some hi):=rfl
noncomputable def dA(prog:afL)(w:agC)(A:afU)(s:aeV)(κ:SortKind)(r:Keyed->Nat)(S:Keyed->Prop):Prop:=
 ∀x y:Keyed,S x->S y->∀Q:Bool->aeV->Prop,Q (decide (r x<r y)) s->afH (afT prog w) A (keyLt' κ x.1 y.1) Q (λ_ _=>False) s
section
variable{prog:afL}{w:agC}{A:afU}{E:Value->aeV->Prop}{s:aeV}{κ:SortKind}{r:Keyed->Nat}{S:Keyed->Prop}
theorem k8(C:dA prog w A s κ r S){st:SortSt}{x y:Keyed}{Q:Option Bool->SortSt->Prop}(hk:kindOf st=κ)(hx:S x)(hy:S y)(h:Q (some (decide (r x<r y))) st):wpS (afT prog w) A E s (lt' x y) Q st:=by
 rw[lt'_eq];refine ae8 (wpS_get ?_);rw[hk];refine ae8 (wpS_lift (wpAny_attempt (agS (C x y hx hy (λb s'=>s'=s/\b=decide (r x<r y)) ⟨rfl,rfl⟩) (λb s' hb=>?_) λ_ _ e=>e.elim)));obtain⟨rfl,rfl⟩:=hb;exact⟨rfl,afE h⟩
theorem cD{st:SortSt}{arr:Array Keyed}{i:Nat}{x:Keyed}{Q:Keyed->SortSt->Prop}(e:arr[i]? =some x)(h:Q x st):wpS (afT prog w) A E s (elem' arr i) Q st:=by
 rw[elem'_eq,e];exact afE h
noncomputable def bG(left:Bool)(r:Keyed->Nat)(key x:Keyed):Bool:=if left then decide (r x<r key) else !decide (r key<r x)
theorem mT(C:dA prog w A s κ r S){left:Bool}{st:SortSt}{key x:Keyed}{arr:Array Keyed}{base i:Nat}{Q:Option Bool->SortSt->Prop}(hk:kindOf st=κ)(hx:S x)(hy:S key)
  (e:arr[base+i]? =some x) (h:Q (some (bG left r key x)) st):wpS (afT prog w) A E s (jU left key arr base i) Q st:=by
 unfold jU;refine ae8 (cD e ?_)
 cases left with
 |true=>
  simp only[if_true]
  exact k8 C hk hx hy h
 |false=>
  simp only[af1,if_false];refine ae8 (k8 C hk hy hx ?_);exact afE h
theorem BI(C:dA prog w A s κ r S){left:Bool}{st:SortSt}{key:Keyed}{arr:Array Keyed}{base n lo hi:Nat}{Q:Option (Option Nat)×Nat×Nat->SortSt->Prop}(hk:kindOf st=κ)(hy:S key)(g:Nat->Keyed)
  (hg:∀i,i<n->arr[base+i]? =some (g i)/\S (g i)) (mono:∀i j,i<=j->j<n->bG left r key (g j)=true->bG left r key (g i)=true)
  (h1:lo<=hi) (h2:hi<=n) (h3:∀i,i<lo->bG left r key (g i)=true) (h4:∀i,hi<=i->i<n->bG left r key (g i)=false)
  (h:∀l k,k<=n->(∀i,i<k->bG left r key (g i)=true)->(∀i,k<=i->i<n->bG left r key (g i)=false)->Q (none,l,k) st):
  wpS (afT prog w) A E s (forIn [:n] ((none,lo,hi):Option (Option Nat)×Nat×Nat) λx __s=>
        if __s.snd.fst>=__s.snd.snd then pure (ForInStep.done (none,__s.snd.fst,__s.snd.snd))
        else do
         let __x <-jU left key arr base (__s.snd.fst+(__s.snd.snd-__s.snd.fst)/2)
         match __x with
          | some more=>
           if more=true then
            pure (ahQ (none,__s.snd.fst+(__s.snd.snd-__s.snd.fst)/2+1,__s.snd.snd))
           else pure (ahQ (none,__s.snd.fst,__s.snd.fst+(__s.snd.snd-__s.snd.fst)/2))
          |x=>pure (ForInStep.done (some none,__s.snd.fst,__s.snd.snd))) Q st:=by
 refine agX (I:=λx c st'=>st'=st/\∃l k,c=(none,l,k)/\l<=k/\k<=n/\k-l<=n-x/\(∀i,i<l->bG left r key (g i)=true)/\(∀i,k<=i->i<n->bG left r key (g i)=false)) ?step ?fin ⟨rfl,lo,hi,rfl,h1,h2,by lia,h3,h4⟩
 case fin=>
  rintro c st' ⟨rfl,l,k,rfl,a1,a2,a3,a4,a5⟩;have:l=k:=by lia
  subst this;exact h l l a2 a4 a5
 case step=>
  rintro x c st' _ hx ⟨rfl,l,k,rfl,a1,a2,a3,a4,a5⟩;dsimp only;by_cases hge:l>=k
  ·rw[if_pos hge];have:l=k:=by lia
   subst this;exact afE (h l l a2 a4 a5)
  ·rw[if_neg hge];have hm:l+(k-l)/2<n:=by lia
   refine ae8 (mT C hk (hg _ hm).2 hy (hg _ hm).1 ?_)
   cases e:bG left r key (g (l+(k-l)/2)) with
   |true=>
    dsimp only;rw[if_pos rfl]
    exact afE ⟨rfl,_,_,rfl,by lia,a2,by lia,λi hi=>mono i _ (by lia) hm e,a5⟩
   |false=>
    dsimp only;rw[if_neg (by simp)];refine afE ⟨rfl,_,_,rfl,by lia,by lia,by lia,a4,λi h5 h6=>?_⟩
    cases q:bG left r key (g i) with
    |false=>rfl
    |true=>rw[mono _ i h5 h6 q]at e;cases e
theorem j4(C:dA prog w A s κ r S){left:Bool}{st:SortSt}{key:Keyed}{arr:Array Keyed}{base n hint:Nat}{Q:Option Nat->SortSt->Prop}(hk:kindOf st=κ)(hy:S key)(g:Nat->Keyed)
  (hg:∀i,i<n->arr[base+i]? =some (g i)/\S (g i)) (hm:∀i j,i<=j->j<n->r (g i)<=r (g j)) (hh:hint<n)
  (h:∀k,k<=n->(∀i,i<k->bG left r key (g i)=true)->(∀i,k<=i->i<n->bG left r key (g i)=false)->Q (some k) st):wpS (afT prog w) A E s (fQ left key arr base n hint) Q st:=by
 have mono:∀i j,i<=j->j<n->bG left r key (g j)=true->bG left r key (g i)=true:=λi j hij hj e=>by
  have:=hm i j hij hj;unfold bG at e ⊢;cases left <;> simp at e ⊢ <;> lia
 have monoF:∀i j,i<=j->j<n->bG left r key (g i)=false->bG left r key (g j)=false:=λi j hij hj e=>by
  cases q:bG left r key (g j) with
  |false=>rfl
  |true=>rw[mono i j hij hj q]at e;cases e
 rw[aa3];refine ae8 (mT C hk (hg hint hh).2 hy (hg hint hh).1 ?_)
 cases e0:bG left r key (g hint) with
 | true=>
  simp only[if_true]
  refine ae8 (aiA (agX (I:=λx c st'=>st'=st/\∃l o,c=(none,l,o)/\l<o/\x<o/\hint+l<n/\bG left r key (g (hint+l))=true)
   (Q:=λc st'=>st'=st/\∃l o,c=(none,l,o)/\l<o/\hint+l<n/\bG left r key (g (hint+l))=true/\∀i,hint+min o (n-hint)<=i->i<n->bG left r key (g i)=false) ?step ?fin ⟨rfl,0,1,rfl,by lia,by lia,hh,e0⟩) ?post)
  case fin=>
   rintro c st' ⟨rfl,l,o,rfl,a1,a2,a3,a4⟩;exact⟨rfl,l,o,rfl,a1,a3,a4,λi h5 h6=>by lia⟩
  case step=>
   rintro x c st' _ hx ⟨rfl,l,o,rfl,a1,a2,a3,a4⟩;dsimp only;by_cases hge:o>=n-hint
   ·rw[if_pos hge];exact afE ⟨rfl,l,o,rfl,a1,a3,a4,λi h5 h6=>by lia⟩
   ·rw[if_neg hge];have hn:hint+o<n:=by lia
    refine ae8 (mT C hk (hg _ hn).2 hy (hg _ hn).1 ?_)
    cases e:bG left r key (g (hint+o)) with
    |true=>
     dsimp only;rw[if_neg (by simp)]
     exact afE ⟨rfl,_,_,rfl,by lia,by lia,hn,e⟩
    |false=>
     dsimp only;rw[if_pos (by simp)];exact afE ⟨rfl,l,o,rfl,a1,a3,a4,λi h5 h6=>monoF _ i (by lia) h6 e⟩
  case post=>
   rintro c st' ⟨rfl,l,o,rfl,a1,a3,a4,a5⟩;dsimp only;refine ae8 (BI C hk hy g hg mono (by lia) (by lia) (λi hi=>mono i _ (by lia) a3 a4) a5 λl k b1 b2 b3=>?_)
   exact afE (h k b1 b2 b3)
 | false=>
  simp only[af1,if_false]
  refine ae8 (aiA (agX (I:=λx c st'=>st'=st/\∃l o,c=(none,l,o)/\l<o/\x<o/\l<=hint/\bG left r key (g (hint-l))=false)
   (Q:=λc st'=>st'=st/\∃l o,c=(none,l,o)/\l<o/\l<=hint/\bG left r key (g (hint-l))=false/\∀i,i<hint+1-min o (hint+1)->bG left r key (g i)=true) ?step ?fin ⟨rfl,0,1,rfl,by lia,by lia,by lia,e0⟩) ?post)
  case fin=>
   rintro c st' ⟨rfl,l,o,rfl,a1,a2,a3,a4⟩;exact⟨rfl,l,o,rfl,a1,a3,a4,λi h5=>by lia⟩
  case step=>
   rintro x c st' _ hx ⟨rfl,l,o,rfl,a1,a2,a3,a4⟩;dsimp only;by_cases hge:o>=hint+1
   ·rw[if_pos hge];exact afE ⟨rfl,l,o,rfl,a1,a3,a4,λi h5=>by lia⟩
   ·rw[if_neg hge];have hn:hint-o<n:=by lia
    refine ae8 (mT C hk (hg _ hn).2 hy (hg _ hn).1 ?_)
    cases e:bG left r key (g (hint-o)) with
    |false=>
     dsimp only;rw[if_neg (by simp)]
     exact afE ⟨rfl,_,_,rfl,by lia,by lia,by lia,e⟩
    |true=>
     dsimp only;rw[if_pos rfl];exact afE ⟨rfl,l,o,rfl,a1,a3,a4,λi h5=>mono i _ (by lia) hn e⟩
  case post=>
   rintro c st' ⟨rfl,l,o,rfl,a1,a3,a4,a5⟩;dsimp only;refine ae8 (BI C hk hy g hg mono (by lia) (by lia) a5 (λi hi h6=>monoF _ i hi h6 a4) λl k b1 b2 b3=>?_);exact afE (h k b1 b2 b3)
end
noncomputable def vF:Array Keyed->Array Keyed->StateT SortSt Sem (Array Keyed):=sortPriv% PySem.Builtin.mergeLo
noncomputable def vG:Array Keyed->Array Keyed->StateT SortSt Sem (Array Keyed):=sortPriv% PySem.Builtin.mergeHi
noncomputable abbrev sg(st:SortSt)(g:Nat):SortSt:=SortSt.mk' (kindOf st) (afN st) (afJ st) g (failedOf st)
noncomputable def jE(g:Nat):StateT SortSt Sem Unit:=modify λs=>sg s g
theorem YJ(a b:Array Keyed):vF a b=(do
 rule "list.sort.merge-lo"
 let total:=a.size+b.size
 let done (out:Array Keyed) (ia ib:Nat):=out++a.extract ia a.size++b.extract ib b.size
 let lastOfA (out:Array Keyed) (ia ib:Nat):=out++b.extract ib b.size++a.extract ia a.size
 let mut out:Array Keyed:=#[<-elem' b 0]
 let mut ia:=0
 let mut ib:=1
 if ib==b.size then return done out ia ib
 if ia+1==a.size then return lastOfA out ia ib
 let mut minGallop:=gallopOf (<-get)
 for _ in [0:total] do
  let mut acount:=0
  let mut bcount:=0
  for _ in [0:total] do
   let some bWins <-lt' (<-elem' b ib) (<-elem' a ia)|return done out ia ib
   if bWins then
    out:=out.push (<-elem' b ib);ib:=ib+1;bcount:=bcount+1;acount:=0
    if ib==b.size then return done out ia ib
    if bcount>=minGallop then break
   else
    out:=out.push (<-elem' a ia);ia:=ia+1;acount:=acount+1;bcount:=0
    if ia+1==a.size then return lastOfA out ia ib
    if acount>=minGallop then break
  rule "list.sort.gallop"
  minGallop:=minGallop+1
  for _ in [0:total] do
   if minGallop>1 then minGallop:=minGallop-1
   jE minGallop
   let some k <-fQ false (<-elem' b ib) a ia (a.size-ia) 0|return done out ia ib
   acount:=k
   if k>0 then
    out:=out++a.extract ia (ia+k);ia:=ia+k
    if ia+1==a.size then return lastOfA out ia ib
    if ia==a.size then return done out ia ib
   out:=out.push (<-elem' b ib);ib:=ib+1
   if ib==b.size then return done out ia ib
   let some k <-fQ true (<-elem' a ia) b ib (b.size-ib) 0|return done out ia ib
   bcount:=k
   if k>0 then
    out:=out++b.extract ib (ib+k);ib:=ib+k
    if ib==b.size then return done out ia ib
   out:=out.push (<-elem' a ia);ia:=ia+1
   if ia+1==a.size then return lastOfA out ia ib
   if acount<7&&bcount<7 then break
  minGallop:=minGallop+1
  jE minGallop
 unsupported "internal:list.sort.merge-bound"):=rfl
theorem YK(a b:Array Keyed):vG a b=(do
 rule "list.sort.merge-hi"
 let total:=a.size+b.size
 let done (out:Array Keyed) (na nb:Nat):=a.extract 0 na++b.extract 0 nb++out.reverse
 let firstOfB (out:Array Keyed) (na nb:Nat):=b.extract 0 nb++a.extract 0 na++out.reverse
 let mut na:=a.size-1
 let mut nb:=b.size
 let mut out:Array Keyed:=#[<-elem' a na]
 if na==0 then return done out na nb
 if nb==1 then return firstOfB out na nb
 let mut minGallop:=gallopOf (<-get)
 for _ in [0:total] do
  let mut acount:=0
  let mut bcount:=0
  for _ in [0:total] do
   let some aWins <-lt' (<-elem' b (nb-1)) (<-elem' a (na-1))|return done out na nb
   if aWins then
    na:=na-1;out:=out.push (<-elem' a na);acount:=acount+1;bcount:=0
    if na==0 then return done out na nb
    if acount>=minGallop then break
   else
    nb:=nb-1;out:=out.push (<-elem' b nb);bcount:=bcount+1;acount:=0
    if nb==1 then return firstOfB out na nb
    if bcount>=minGallop then break
  rule "list.sort.gallop"
  minGallop:=minGallop+1
  for _ in [0:total] do
   if minGallop>1 then minGallop:=minGallop-1
   jE minGallop
   let some at_ <-fQ false (<-elem' b (nb-1)) a 0 na (na-1)|return done out na nb
   let k:=na-at_
   acount:=k
   if k>0 then
    out:=out++(a.extract at_ na).reverse;na:=at_
    if na==0 then return done out na nb
   nb:=nb-1;out:=out.push (<-elem' b nb)
   if nb==1 then return firstOfB out na nb
   let some at_ <-fQ true (<-elem' a (na-1)) b 0 nb (nb-1)|return done out na nb
   let k:=nb-at_
   bcount:=k
   if k>0 then
    out:=out++(b.extract at_ nb).reverse;nb:=at_
    if nb==1 then return firstOfB out na nb
    if nb==0 then return done out na nb
   na:=na-1;out:=out.push (<-elem' a na)
   if na==0 then return done out na nb
   if acount<7&&bcount<7 then break
  minGallop:=minGallop+1
  jE minGallop
 unsupported "internal:list.sort.merge-bound"):=rfl
noncomputable def Ml(r:Keyed->Nat)(a b out:List Keyed)(ia ib:Nat):Prop:=
 out.Perm (a.take ia++b.take ib)/\out.Pairwise (λx y=>r x<=r y)/\∀u∈out,∀v,v∈a.drop ia\/v∈b.drop ib->r u<=r v
theorem Ml.swap{r:Keyed->Nat}{a b out:List Keyed}{ia ib:Nat}(h:Ml r a b out ia ib):Ml r b a out ib ia:=
 ⟨h.1.trans perm_append_comm,h.2.1,λu hu v hv=>h.2.2 u hu v hv.symm⟩
theorem Ml.a{r:Keyed->Nat}{a b out:List Keyed}{ia ib:Nat}(h:Ml r a b out ia ib)(sa:a.Pairwise λx y=>r x<=r y)(k:Nat)(hk:∀u∈(a.drop ia).take k,∀v∈b.drop ib,r u<=r v):
  Ml r a b (out++(a.drop ia).take k) (ia+k) ib:=by
 obtain⟨h1,h2,h3⟩:=h;have sd:(a.drop ia).Pairwise λx y=>r x<=r y:=sa.sublist (List.drop_sublist _ _);have st:((a.drop ia).take k++(a.drop ia).drop k).Pairwise λx y=>r x<=r y:=by rw[take_append_drop];exact sd
 rw[pairwise_append]at st;refine⟨?_,?_,?_⟩
 ·rw[List.take_add];refine(ah6.append_right _ h1).trans ?_;rw[append_assoc,append_assoc];exact ah6.append_left _ perm_append_comm
 ·rw[pairwise_append];exact⟨h2,st.1,λu hu v hv=>h3 u hu v (.inl (mem_of_mem_take hv))⟩
 ·intro u hu v hv;rw[<-List.drop_drop]at hv;rcases mem_append.mp hu with hu|hu
  ·exact h3 u hu v (hv.imp mem_of_mem_drop id)
  ·rcases hv with hv|hv
   ·exact st.2.2 u hu v hv
   ·exact hk u hu v hv
theorem Ml.b{r:Keyed->Nat}{a b out:List Keyed}{ia ib:Nat}(h:Ml r a b out ia ib)(sb:b.Pairwise λx y=>r x<=r y)(k:Nat)(hk:∀u∈(b.drop ib).take k,∀v∈a.drop ia,r u<=r v):
  Ml r a b (out++(b.drop ib).take k) ia (ib+k):=(h.swap.a sb k hk).swap
noncomputable def dS(r:Keyed->Nat)(a b out:Array Keyed):Prop:=out.toList.Perm (a.toList++b.toList)/\out.toList.Pairwise λx y=>r x<=r y
theorem Ml.all{r:Keyed->Nat}{a b out:List Keyed}{ia ib:Nat}(h:Ml r a b out ia ib)(h1:a.length<=ia)(h2:b.length<=ib):out.Perm (a++b)/\out.Pairwise λx y=>r x<=r y:=by
 obtain⟨p,q,_⟩:=h;rw[take_of_length_le h1,take_of_length_le h2]at p;exact⟨p,q⟩
theorem ext_toList(a:Array Keyed)(i j:Nat):(a.extract i j).toList=(a.toList.drop i).take (j-i):=by simp[Array.toList_extract,List.extract_eq_take_drop]
theorem Ml.done{r:Keyed->Nat}{a b out:Array Keyed}{ia ib:Nat}(h:Ml r a.toList b.toList out.toList ia ib)(sa:a.toList.Pairwise λx y=>r x<=r y)(sb:b.toList.Pairwise λx y=>r x<=r y)(e:a.size<=ia\/b.size<=ib):
  dS r a b (out++a.extract ia a.size++b.extract ib b.size):=by
 have h1:=h.a sa (a.size-ia) λu hu v hv=>by
  rcases e with e|e
  ·rw[drop_of_length_le (by simpa using e)]at hu;simp at hu
  ·rw[drop_of_length_le (by simpa using e)]at hv;simp at hv
 have h2:=h1.b sb (b.size-ib) λu hu v hv=>by
  rw[drop_of_length_le (by simp;lia)]at hv;simp at hv
 have:=h2.all (by simp;lia) (by simp;lia);unfold dS;rw[ahM,ahM,ext_toList,ext_toList];exact this
theorem Ml.last{r:Keyed->Nat}{a b out:Array Keyed}{ia ib:Nat}(h:Ml r a.toList b.toList out.toList ia ib)(sa:a.toList.Pairwise λx y=>r x<=r y)(sb:b.toList.Pairwise λx y=>r x<=r y)
  (e:∀u∈b.toList,∀v∈a.toList.drop ia,r u<=r v):dS r a b (out++b.extract ib b.size++a.extract ia a.size):=by
 have h1:=h.b sb (b.size-ib) λu hu v hv=>e u (mem_of_mem_drop (mem_of_mem_take hu)) v hv
 have h2:=h1.a sa (a.size-ia) λu hu v hv=>by
  rw[drop_of_length_le (by simp;lia)]at hv;simp at hv
 have:=h2.all (by simp;lia) (by simp;lia);unfold dS;rw[ahM,ahM,ext_toList,ext_toList];exact this
noncomputable def it(a:Array Keyed)(i:Nat):Keyed:=a.getD i (Value.none,Value.none)
theorem bQ{a:Array Keyed}{i:Nat}(h:i<a.size):a[i]? =some (it a i):=by
 unfold it;rw[getElem?_pos a i h];simp[agV,h]
theorem e8{a:Array Keyed}{i:Nat}(h:i<a.size):it a i=a[i]:=by unfold it;simp[agV,h]
theorem eG{a:Array Keyed}{i:Nat}(h:i<a.size):it a i∈a.toList:=by rw[e8 h];simp
noncomputable def Srt(r:Keyed->Nat)(a:Array Keyed):Prop:=∀i j,i<=j->j<a.size->r (it a i)<=r (it a j)
theorem Srt.pw{r:Keyed->Nat}{a:Array Keyed}(h:Srt r a):a.toList.Pairwise λx y=>r x<=r y:=by
 rw[pairwise_iff_getElem];intro i j hi hj hij;have:=h i j (by lia) (by simpa using hj);rw[e8 (by simpa using hi),e8 (by simpa using hj)]at this;simpa using this
theorem Srt.of{r:Keyed->Nat}{a:Array Keyed}(h:a.toList.Pairwise λx y=>r x<=r y):Srt r a:=by
 intro i j hij hj;rw[e8 hj,e8 (by lia:i<a.size)];by_cases e:i=j
 ·subst e;exact aeU _
 ·rw[pairwise_iff_getElem]at h;have:=h i j (by simp;lia) (by simpa using hj) (by lia);simpa using this
theorem jQ{a:Array Keyed}{i:Nat}{v:Keyed}(h:v∈a.toList.drop i):∃j,i<=j/\j<a.size/\v=it a j:=by
 obtain⟨k,hk,e⟩:=mem_iff_getElem.mp h;rw[length_drop,afF]at hk;refine⟨i+k,by lia,by lia,?_⟩;rw[e8 (by lia),<-e];simp
theorem u6{a:Array Keyed}{i k:Nat}{v:Keyed}(h:v∈(a.toList.drop i).take k):∃j,i<=j/\j<i+k/\j<a.size/\v=it a j:=by
 obtain⟨m,hm,e⟩:=mem_iff_getElem.mp h;rw[length_take,length_drop,afF]at hm;refine⟨i+m,by lia,by lia,by lia,?_⟩;rw[e8 (by lia),<-e];simp
noncomputable abbrev MA(r:Keyed->Nat)(a b out:Array Keyed)(ia ib:Nat):Prop:=Ml r a.toList b.toList out.toList ia ib
section
variable{r:Keyed->Nat}{a b out:Array Keyed}{ia ib:Nat}
theorem MA.ext(h:MA r a b out ia ib)(sa:Srt r a)(k:Nat)(hk:∀j,ia<=j->j<ia+k->j<a.size->∀i,ib<=i->i<b.size->r (it a j)<=r (it b i)):MA r a b (out++a.extract ia (ia+k)) (ia+k) ib:=by
 have:=Ml.a h sa.pw k λu hu v hv=>by
  obtain⟨j,h1,h2,h3,rfl⟩:=u6 hu;obtain⟨i,h4,h5,rfl⟩:=jQ hv;exact hk j h1 h2 h3 i h4 h5
 unfold MA;rw[ahM,ext_toList,show ia+k-ia=k by lia];exact this
theorem MA.exb(h:MA r a b out ia ib)(sb:Srt r b)(k:Nat)(hk:∀j,ib<=j->j<ib+k->j<b.size->∀i,ia<=i->i<a.size->r (it b j)<=r (it a i)):MA r a b (out++b.extract ib (ib+k)) ia (ib+k):=
 Ml.swap (MA.ext (Ml.swap h) sb k hk)
theorem ET{a out:Array Keyed}{i:Nat}(h:i<a.size):out.push (it a i)=out++a.extract i (i+1):=by
 apply Array.toList_inj.mp;rw[ahM,ext_toList,Array.toList_push,e8 h]
 congr 1
 rw[show i+1-i=1 by lia,List.take_one];simp[List.head?_drop,h]
theorem MA.pa(h:MA r a b out ia ib)(sa:Srt r a)(hi:ia<a.size)(hk:∀i,ib<=i->i<b.size->r (it a ia)<=r (it b i)):MA r a b (out.push (it a ia)) (ia+1) ib:=by
 rw[ET hi]
 exact h.ext sa 1 λj h1 h2 h3 i h4 h5=>by
  obtain rfl:j=ia:=by lia
  exact hk i h4 h5
theorem MA.pb(h:MA r a b out ia ib)(sb:Srt r b)(hi:ib<b.size)(hk:∀i,ia<=i->i<a.size->r (it b ib)<=r (it a i)):MA r a b (out.push (it b ib)) ia (ib+1):=
 Ml.swap (MA.pa (Ml.swap h) sb hi hk)
theorem MA.lst(h:MA r a b out ia ib)(sa:Srt r a)(sb:Srt r b)(e:ia+1=a.size)(hl:∀i,i<b.size->r (it b i)<=r (it a (a.size-1))):dS r a b (out++b.extract ib b.size++a.extract ia a.size):=
 Ml.last h sa.pw sb.pw λu hu v hv=>by
  obtain⟨i,h4,h5,rfl⟩:=jQ hv;obtain⟨j,h1,h2,rfl⟩:=jQ (i:=0) (a:=b) (by simpa using hu);obtain rfl:i=a.size-1:=by lia
  exact hl j h2
end
noncomputable abbrev pU:=Option (Array Keyed)×Array Keyed×Nat×Nat×Nat×Nat×Nat
noncomputable def oW(a b out:Array Keyed)(ia ib mg ac k:Nat):StateT SortSt Sem (ForInStep pU):=do
 let x <-elem' a ia
 if ia+1+1==a.size then pure (.done (some (out.push x++b.extract ib b.size++a.extract (ia+1) a.size),out.push x,ia+1,ib,mg,ac,k))
 else if decide (ac<7)&&decide (k<7) then pure (.done (none,out.push x,ia+1,ib,mg,ac,k))
 else pure (.yield (none,out.push x,ia+1,ib,mg,ac,k))
noncomputable def oX(a b out:Array Keyed)(ia ib mg ac bc:Nat):StateT SortSt Sem (ForInStep pU):=do
 let x <-elem' b ib
 if ib+1==b.size then pure (.done (some (out.push x++a.extract ia a.size++b.extract (ib+1) b.size),out.push x,ia,ib+1,mg,ac,bc))
 else do
  let y <-elem' a ia
  match <-fQ true y b (ib+1) (b.size-(ib+1)) 0 with
  | some k=>
   if k>0 then
    if ib+1+k==b.size then pure (.done (some (out.push x++b.extract (ib+1) (ib+1+k)++a.extract ia a.size++b.extract (ib+1+k) b.size),out.push x++b.extract (ib+1) (ib+1+k),ia,ib+1+k,mg,ac,k))
    else oW a b (out.push x++b.extract (ib+1) (ib+1+k)) ia (ib+1+k) mg ac k
   else oW a b (out.push x) ia (ib+1) mg ac k
  |_=>pure (.done (some (out.push x++a.extract ia a.size++b.extract (ib+1) b.size),out.push x,ia,ib+1,mg,ac,bc))
noncomputable def lo1(a b out:Array Keyed)(ia ib mg ac bc:Nat):StateT SortSt Sem (ForInStep pU):=do
 jE mg
 let y <-elem' b ib
 match <-fQ false y a ia (a.size-ia) 0 with
 | some k=>
  if k>0 then
   if ia+k+1==a.size then pure (.done (some (out++a.extract ia (ia+k)++b.extract ib b.size++a.extract (ia+k) a.size),out++a.extract ia (ia+k),ia+k,ib,mg,k,bc))
   else if ia+k==a.size then pure (.done (some (out++a.extract ia (ia+k)++a.extract (ia+k) a.size++b.extract ib b.size),out++a.extract ia (ia+k),ia+k,ib,mg,k,bc))
   else oX a b (out++a.extract ia (ia+k)) (ia+k) ib mg k bc
  else oX a b out ia ib mg k bc
 |_=>pure (.done (some (out++a.extract ia a.size++b.extract ib b.size),out,ia,ib,mg,ac,bc))
noncomputable def iO(r:Keyed->Nat)(a b:Array Keyed)(x:Nat)(o:Option (Array Keyed))(out:Array Keyed)(ia ib:Nat):Prop:=
 match o with
 |some res=>dS r a b res
 |none=>MA r a b out ia ib/\ia+1<a.size/\ib<b.size/\x<=ia+ib
noncomputable def pS(r:Keyed->Nat)(a b:Array Keyed)(x:Nat)(st:SortSt)(c:ForInStep pU)(st':SortSt):Prop:=
 (∃g,st'=sg st g)/\match c with
 | .done (o,out,ia,ib,_)=>iO r a b x o out ia ib
 | .yield (o,out,ia,ib,_)=>o=none/\iO r a b x o out ia ib
section
variable{prog:afL}{w:agC}{A:afU}{E:Value->aeV->Prop}{s:aeV}{κ:SortKind}{r:Keyed->Nat}{S:Keyed->Prop}{a b out:Array Keyed}{ia ib:Nat}{st:SortSt}
theorem mS{g:Nat}{Q:Unit->SortSt->Prop}(h:Q () (sg st g)):wpS (afT prog w) A E s (jE g) Q st:=wpS_modify h
theorem BJ(sa:Srt r a)(sb:Srt r b)(hl:∀i,i<b.size->r (it b i)<=r (it a (a.size-1))){x mg ac k g:Nat}(M:MA r a b out ia ib)(h1:ia+1<a.size)(h2:ib<b.size)(h3:x<=ia+ib)
  (hk:∀i,ib<=i->i<b.size->r (it a ia)<=r (it b i)):wpS (afT prog w) A E s (oW a b out ia ib mg ac k) (pS r a b x st) (sg st g):=by
 unfold oW;refine ae8 (cD (bQ (by lia:ia<a.size)) ?_);have M':=M.pa sa (by lia) hk;by_cases e1:ia+1+1=a.size
 ·rw[if_pos (by simpa using e1)];exact afE ⟨⟨g,rfl⟩,M'.lst sa sb e1 hl⟩
 ·rw[if_neg (by simpa using e1)];split
  ·exact afE ⟨⟨g,rfl⟩,M',by lia,h2,by lia⟩
  ·exact afE ⟨⟨g,rfl⟩,rfl,M',by lia,h2,by lia⟩
theorem BK(C:dA prog w A s κ r S)(hkd:kindOf st=κ)(hS:∀x,x∈a.toList\/x∈b.toList->S x)(sa:Srt r a)(sb:Srt r b)(hl:∀i,i<b.size->r (it b i)<=r (it a (a.size-1))){x mg ac bc g:Nat}(M:MA r a b out ia ib)(h1:ia+1<a.size)(h2:ib<b.size)(h3:x<=ia+ib)
  (hk:∀i,ia<=i->i<a.size->r (it b ib)<=r (it a i)):wpS (afT prog w) A E s (oX a b out ia ib mg ac bc) (pS r a b x st) (sg st g):=by
 unfold oX;refine ae8 (cD (bQ h2) ?_);have M':=M.pb sb h2 hk;by_cases e1:ib+1=b.size
 ·rw[if_pos (by simpa using e1)];exact afE ⟨⟨g,rfl⟩,Ml.done M' sa.pw sb.pw (.inr (by lia))⟩
 ·rw[if_neg (by simpa using e1)];refine ae8 (cD (bQ (by lia:ia<a.size)) ?_);refine ae8 (j4 C hkd (hS _ (.inl (eG (by lia)))) (λi=>it b (ib+1+i)) (λi hi=>⟨bQ (by lia),hS _ (.inr (eG (by lia)))⟩) (λi j hij hj=>sb _ _ (by lia) (by lia)) (by lia) λk k1 k2 k3=>?_);dsimp only;have c2:∀i,i<k->r (it b (ib+1+i))<r (it a ia):=λi hi=>by have:=k2 i hi;unfold bG at this;simpa using this
  have c3:∀i,k<=i->i<b.size-(ib+1)->r (it a ia)<=r (it b (ib+1+i)):=λi hi hj=>by have:=k3 i hi hj;unfold bG at this;simpa using this
  have cb:∀i,ib+1+k<=i->i<b.size->r (it a ia)<=r (it b i):=λi h5 h6=>by
   have:=c3 (i-(ib+1)) (by lia) (by lia)
   rwa [show ib+1+(i-(ib+1))=i by lia]at this
  by_cases k0:k>0
  ·rw[if_pos k0]
   have M2:=M'.exb sb k λj h5 h6 h7 i h8 h9=>by
    have:=c2 (j-(ib+1)) (by lia);rw[show ib+1+(j-(ib+1))=j by lia]at this;have:=sa ia i h8 h9;lia
   by_cases e2:ib+1+k=b.size
   ·rw[if_pos (by simpa using e2)];exact afE ⟨⟨g,rfl⟩,Ml.done M2 sa.pw sb.pw (.inr (by lia))⟩
   ·rw[if_neg (by simpa using e2)];exact BJ sa sb hl M2 h1 (by lia) (by lia) cb
  ·rw[if_neg k0];obtain rfl:k=0:=by lia
   exact BJ sa sb hl M' h1 (by lia) (by lia) (by simpa using cb)
theorem BL(C:dA prog w A s κ r S)(hkd:kindOf st=κ)(hS:∀x,x∈a.toList\/x∈b.toList->S x)(sa:Srt r a)(sb:Srt r b)(hl:∀i,i<b.size->r (it b i)<=r (it a (a.size-1))){x mg ac bc g:Nat}(M:MA r a b out ia ib)(h1:ia+1<a.size)(h2:ib<b.size)(h3:x<=ia+ib):
  wpS (afT prog w) A E s (lo1 a b out ia ib mg ac bc) (pS r a b x st) (sg st g):=by
 unfold lo1;refine ae8 (mS ?_);refine ae8 (cD (bQ h2) ?_);refine ae8 (j4 C hkd (hS _ (.inr (eG h2))) (λi=>it a (ia+i)) (λi hi=>⟨bQ (by lia),hS _ (.inl (eG (by lia)))⟩) (λi j hij hj=>sa _ _ (by lia) (by lia)) (by lia) λk k1 k2 k3=>?_);dsimp only;have c2:∀i,i<k->r (it a (ia+i))<=r (it b ib):=λi hi=>by have:=k2 i hi;unfold bG at this;simpa using this
 have c3:∀i,k<=i->i<a.size-ia->r (it b ib)<r (it a (ia+i)):=λi hi hj=>by have:=k3 i hi hj;unfold bG at this;simpa using this
 have cb:∀i,ia+k<=i->i<a.size->r (it b ib)<=r (it a i):=λi h5 h6=>by
  have:=c3 (i-ia) (by lia) (by lia);rw[show ia+(i-ia)=i by lia]at this;lia
 by_cases k0:k>0
 ·rw[if_pos k0]
  have M2:=M.ext sa k λj h5 h6 h7 i h8 h9=>by
   have:=c2 (j-ia) (by lia);rw[show ia+(j-ia)=j by lia]at this;have:=sb ib i h8 h9;lia
  by_cases e2:ia+k+1=a.size
  ·rw[if_pos (by simpa using e2)];exact afE ⟨⟨mg,rfl⟩,M2.lst sa sb e2 hl⟩
  ·rw[if_neg (by simpa using e2)];by_cases e3:ia+k=a.size
   ·rw[if_pos (by simpa using e3)];exact afE ⟨⟨mg,rfl⟩,Ml.done M2 sa.pw sb.pw (.inl (by lia))⟩
   ·rw[if_neg (by simpa using e3)];exact BK C hkd hS sa sb hl M2 (by lia) h2 (by lia) cb
 ·rw[if_neg k0];obtain rfl:k=0:=by lia
  exact BK C hkd hS sa sb hl M h1 h2 h3 (by simpa using cb)
theorem LY(C:dA prog w A s κ r S){Q:Array Keyed->SortSt->Prop}(hkd:kindOf st=κ)(hS:∀x,x∈a.toList\/x∈b.toList->S x)
  (sa:Srt r a) (sb:Srt r b) (ha:0<a.size) (hb:0<b.size) (h0:r (it b 0)<=r (it a 0)) (hl:∀i,i<b.size->r (it b i)<=r (it a (a.size-1)))
  (h:∀out g,dS r a b out->Q out (sg st g)):wpS (afT prog w) A E s (vF a b) Q st:=by
 rw[YJ];refine ae8 (wpS_lift (aiG ⟨rfl,?_⟩));refine ae8 (cD (bQ hb) ?_);have M0:MA r a b #[] 0 0:=⟨by simp,.nil,λu hu=>by simp at hu⟩
 have M1:MA r a b #[it b 0] 0 1:=by
  have:=M0.pb sb hb λi _ hi=>afO h0 (sa 0 i (by lia) hi);simpa using this
 dsimp only;by_cases e1:1=b.size
 ·rw[if_pos (by simpa using e1)];exact afE (h _ (gallopOf st) (Ml.done M1 sa.pw sb.pw (.inr (by lia))))
 rw[if_neg (by simpa using e1)];by_cases e2:0+1=a.size
 ·rw[if_pos (by simpa using e2)];exact afE (h _ (gallopOf st) (M1.lst sa sb e2 hl))
 rw[if_neg (by simpa using e2)];refine ae8 (wpS_get ?_)
 refine ae8 (aiA (agX (I:=λx c st'=>(∃g,st'=sg st g)/\∃out ia ib mg,c=(none,out,ia,ib,mg)/\iO r a b (1+x) none out ia ib)
  (Q:=λc st'=>(∃g,st'=sg st g)/\∃res out ia ib mg,c=(some res,out,ia,ib,mg)/\dS r a b res) ?step ?fin ⟨⟨gallopOf st,rfl⟩,_,_,_,_,rfl,M1,by lia,by lia,by lia⟩) ?post)
 case fin=>
  rintro c st' ⟨hg,out,ia,ib,mg,rfl,M,q1,q2,q3⟩;lia
 case post=>
  rintro c st' ⟨⟨g,rfl⟩,res,out,ia,ib,mg,rfl,M⟩;exact afE (h _ g M)
 case step=>
  rintro x c st' _ hx ⟨⟨g,rfl⟩,out,ia,ib,mg,rfl,M,q1,q2,q3⟩;dsimp only
  refine ae8 (aiA (agX (I:=λy c st'=>st'=sg st g/\∃out ia ib ac bc,c=(none,out,ia,ib,ac,bc)/\iO r a b (1+x+min y 1) none out ia ib)
   (Q:=λc st'=>st'=sg st g/\∃o out ia ib ac bc,c=(o,out,ia,ib,ac,bc)/\iO r a b (1+(x+1)) o out ia ib) ?step1 ?fin1 ⟨rfl,_,_,_,_,_,rfl,M,q1,q2,by lia⟩) ?post1)
  case fin1=>
   rintro c st' ⟨rfl,out,ia,ib,ac,bc,rfl,M,q1,q2,q3⟩;exact⟨rfl,_,_,_,_,_,_,rfl,M,q1,q2,by lia⟩
  case step1=>
   rintro y c st' _ hy ⟨rfl,out,ia,ib,ac,bc,rfl,M,q1,q2,q3⟩;dsimp only;refine ae8 (cD (bQ q2) ?_);refine ae8 (cD (bQ (by lia:ia<a.size)) ?_);refine ae8 (k8 C hkd (hS _ (.inr (eG q2))) (hS _ (.inl (eG (by lia)))) ?_);dsimp only;by_cases lt:r (it b ib)<r (it a ia)
   ·rw[if_pos (by simpa using lt)];refine ae8 (cD (bQ q2) ?_);have M2:=M.pb sb q2 λi h1 h2=>by have:=sa ia i h1 h2;lia
    by_cases e3:ib+1=b.size
    ·rw[if_pos (by simpa using e3)];exact afE ⟨rfl,_,_,_,_,_,_,rfl,Ml.done M2 sa.pw sb.pw (.inr (by lia))⟩
    ·rw[if_neg (by simpa using e3)];split
     ·exact afE ⟨rfl,_,_,_,_,_,_,rfl,M2,q1,by lia,by lia⟩
     ·exact afE ⟨rfl,_,_,_,_,_,rfl,M2,q1,by lia,by lia⟩
   ·rw[if_neg (by simpa using lt)];refine ae8 (cD (bQ (by lia:ia<a.size)) ?_);have M2:=M.pa sa (by lia) λi h1 h2=>by have:=sb ib i h1 h2;lia
    by_cases e3:ia+1+1=a.size
    ·rw[if_pos (by simpa using e3)];exact afE ⟨rfl,_,_,_,_,_,_,rfl,M2.lst sa sb e3 hl⟩
    ·rw[if_neg (by simpa using e3)];split
     ·exact afE ⟨rfl,_,_,_,_,_,_,rfl,M2,by lia,by lia,by lia⟩
     ·exact afE ⟨rfl,_,_,_,_,_,rfl,M2,by lia,by lia,by lia⟩
  case post1=>
   rintro c st' ⟨rfl,o,out,ia,ib,ac,bc,rfl,M⟩
   cases o with
   |some res=>
    dsimp only
    exact afE ⟨⟨g,rfl⟩,_,_,_,_,_,rfl,M⟩
   | none=>
    obtain⟨M,q1,q2,q3⟩:=M;dsimp only;refine ae8 (wpS_lift (aiG ⟨rfl,?_⟩))
    refine ae8 (aiA (agX (I:=λy c st'=>(∃g,st'=sg st g)/\∃out ia ib mg ac bc,c=(none,out,ia,ib,mg,ac,bc)/\iO r a b (1+(x+1)) none out ia ib)
     (Q:=λc st'=>(∃g,st'=sg st g)/\∃o out ia ib mg ac bc,c=(o,out,ia,ib,mg,ac,bc)/\iO r a b (1+(x+1)) o out ia ib) ?step2 ?fin2 ⟨⟨g,rfl⟩,_,_,_,_,_,_,rfl,M,q1,q2,by lia⟩) ?post2)
    case fin2=>
     rintro c st' ⟨hg,out,ia,ib,mg,ac,bc,rfl,M⟩;exact⟨hg,_,_,_,_,_,_,_,rfl,M⟩
    case step2=>
     rintro y c st' _ hy ⟨⟨g,rfl⟩,out,ia,ib,mg,ac,bc,rfl,M,q1,q2,q3⟩;refine aiA (Q:=pS r a b (1+(x+1)) st) ?code λc st' hc=>?_
     case code=>
      dsimp only;by_cases m1:mg>1
      ·rw[if_pos m1];exact BL (mg:=mg-1) (ac:=ac) (bc:=bc) C hkd hS sa sb hl M q1 q2 q3
      ·rw[if_neg m1];exact BL (mg:=mg) (ac:=ac) (bc:=bc) C hkd hS sa sb hl M q1 q2 q3
     ·obtain⟨hg,hc⟩:=hc
      match c,hc with
      | .done (o,out,ia,ib,mg,ac,bc),hc=>exact⟨hg,_,_,_,_,_,_,_,rfl,hc⟩
      | .yield (o,out,ia,ib,mg,ac,bc),⟨h1,hc⟩=>
       subst h1;exact⟨hg,_,_,_,_,_,_,rfl,hc⟩
    case post2=>
     rintro c st' ⟨⟨g',rfl⟩,o,out,ia,ib,mg',ac,bc,rfl,M⟩
     cases o with
     |some res=>
      dsimp only
      exact afE ⟨⟨g',rfl⟩,_,_,_,_,_,rfl,M⟩
     |none=>
      dsimp only;refine ae8 (mS ?_);exact afE ⟨⟨_,rfl⟩,_,_,_,_,rfl,M⟩
end
noncomputable def Mr(r:Keyed->Nat)(a b o:List Keyed)(na nb:Nat):Prop:=
 o.Perm (a.drop na++b.drop nb)/\o.Pairwise (λx y=>r x<=r y)/\∀u∈o,∀v,v∈a.take na\/v∈b.take nb->r v<=r u
theorem Mr.swap{r:Keyed->Nat}{a b o:List Keyed}{na nb:Nat}(h:Mr r a b o na nb):Mr r b a o nb na:=
 ⟨h.1.trans perm_append_comm,h.2.1,λu hu v hv=>h.2.2 u hu v hv.symm⟩
theorem Mr.a{r:Keyed->Nat}{a b o:List Keyed}{na nb:Nat}(h:Mr r a b o na nb)(sa:a.Pairwise λx y=>r x<=r y)(k:Nat)(hkn:k<=na)(hk:∀u∈(a.take na).drop k,∀v∈b.take nb,r v<=r u):
  Mr r a b ((a.take na).drop k++o) k nb:=by
 obtain⟨h1,h2,h3⟩:=h;have sd:(a.take na).Pairwise λx y=>r x<=r y:=sa.sublist (take_sublist _ _);have st:((a.take na).take k++(a.take na).drop k).Pairwise λx y=>r x<=r y:=by rw[take_append_drop];exact sd
 rw[pairwise_append]at st;have ek:(a.take na).take k=a.take k:=by rw[List.take_take,Nat.min_eq_left hkn]
 have ed:a.drop k=(a.take na).drop k++a.drop na:=by
  conv=>lhs;rw[<-take_append_drop na a]
  rw[List.drop_append]
  congr 1
  by_cases q:na<=a.length
  ·rw[length_take,Nat.min_eq_left q,show k-na=0 by lia,List.drop_zero]
  ·rw[drop_of_length_le (by lia:a.length<=na),List.drop_nil]
 refine⟨?_,?_,?_⟩
 ·rw[ed,append_assoc];exact ah6.append_left _ h1
 ·rw[pairwise_append];exact⟨st.2.1,h2,λu hu v hv=>h3 v hv u (.inl (mem_of_mem_drop hu))⟩
 ·intro u hu v hv;rcases mem_append.mp hu with hu|hu
  ·rcases hv with hv|hv
   ·rw[<-ek]at hv;exact st.2.2 v hv u hu
   ·exact hk u hu v hv
  ·refine h3 u hu v (hv.imp (λhv=>?_) id);rw[<-ek]at hv;exact mem_of_mem_take hv
theorem Mr.b{r:Keyed->Nat}{a b o:List Keyed}{na nb:Nat}(h:Mr r a b o na nb)(sb:b.Pairwise λx y=>r x<=r y)(k:Nat)(hkn:k<=nb)(hk:∀u∈(b.take nb).drop k,∀v∈a.take na,r v<=r u):
  Mr r a b ((b.take nb).drop k++o) na k:=(h.swap.a sb k hkn hk).swap
noncomputable abbrev MB(r:Keyed->Nat)(a b out:Array Keyed)(na nb:Nat):Prop:=Mr r a.toList b.toList out.toList.reverse na nb
theorem W5{a:Array Keyed}{n:Nat}{v:Keyed}(h:v∈a.toList.take n):∃j,j<n/\j<a.size/\v=it a j:=by
 obtain⟨j,_,h2,h3,e⟩:=u6 (i:=0) (k:=n) (a:=a) (by simpa using h);exact⟨j,by lia,h3,e⟩
theorem W6{a:Array Keyed}{n k:Nat}{v:Keyed}(h:v∈(a.toList.take n).drop k):∃j,k<=j/\j<n/\j<a.size/\v=it a j:=by
 rw[drop_take]at h;obtain⟨j,h1,h2,h3,e⟩:=u6 h;exact⟨j,h1,by lia,h3,e⟩
section
variable{r:Keyed->Nat}{a b out:Array Keyed}{na nb:Nat}
theorem MB.ext(h:MB r a b out na nb)(sa:Srt r a)(k:Nat)(hkn:k<=na)(hk:∀j,k<=j->j<na->j<a.size->∀i,i<nb->i<b.size->r (it b i)<=r (it a j)):MB r a b (out++(a.extract k na).reverse) k nb:=by
 have:=Mr.a h sa.pw k hkn λu hu v hv=>by
  obtain⟨j,h1,h2,h3,rfl⟩:=W6 hu;obtain⟨i,h4,h5,rfl⟩:=W5 hv;exact hk j h1 h2 h3 i h4 h5
 unfold MB;rw[ahM,List.reverse_append,Array.toList_reverse,List.reverse_reverse,ext_toList,<-drop_take];exact this
theorem MB.exb(h:MB r a b out na nb)(sb:Srt r b)(k:Nat)(hkn:k<=nb)(hk:∀j,k<=j->j<nb->j<b.size->∀i,i<na->i<a.size->r (it a i)<=r (it b j)):MB r a b (out++(b.extract k nb).reverse) na k:=
 Mr.swap (MB.ext (Mr.swap h) sb k hkn hk)
theorem TQ{a out:Array Keyed}{i:Nat}(h:i<a.size):out.push (it a i)=out++(a.extract i (i+1)).reverse:=by
 rw[ET h]
 congr 1
 apply Array.toList_inj.mp;rw[Array.toList_reverse,ext_toList,show i+1-i=1 by lia]
 cases q:a.toList.drop i with
 |nil=>rfl
 |cons x l=>rfl
theorem MB.pa(h:MB r a b out na nb)(sa:Srt r a)(hp:0<na)(hi:na-1<a.size)(hk:∀i,i<nb->i<b.size->r (it b i)<=r (it a (na-1))):MB r a b (out.push (it a (na-1))) (na-1) nb:=by
 rw[TQ hi,show na-1+1=na by lia]
 exact h.ext sa (na-1) (by lia) λj h1 h2 h3 i h4 h5=>by
  obtain rfl:j=na-1:=by lia
  exact hk i h4 h5
theorem MB.pb(h:MB r a b out na nb)(sb:Srt r b)(hp:0<nb)(hi:nb-1<b.size)(hk:∀i,i<na->i<a.size->r (it a i)<=r (it b (nb-1))):MB r a b (out.push (it b (nb-1))) na (nb-1):=
 Mr.swap (MB.pa (Mr.swap h) sb hp hi hk)
theorem Mr.all{a b o:List Keyed}(h:Mr r a b o 0 0):o.Perm (a++b)/\o.Pairwise λx y=>r x<=r y:=by
 obtain⟨p,q,_⟩:=h;exact⟨by simpa using p,q⟩
theorem MB.done(h:MB r a b out na nb)(sa:Srt r a)(sb:Srt r b)(e:na=0\/nb=0):dS r a b (a.extract 0 na++b.extract 0 nb++out.reverse):=by
 have h1:=h.exb sb 0 (ae2 _) λj _ h2 _ i h4 h5=>by lia
 have h2:=h1.ext sa 0 (ae2 _) λj _ h2 _ i h4 h5=>by lia
 have:=h2.all;unfold dS;simpa using this
theorem MB.fst(h:MB r a b out na nb)(sa:Srt r a)(sb:Srt r b)(hn:nb=1)(h0:r (it b 0)<=r (it a 0)):dS r a b (b.extract 0 nb++a.extract 0 na++out.reverse):=by
 have h1:=h.ext sa 0 (ae2 _) λj _ h2 h3 i h4 h5=>by
  obtain rfl:i=0:=by lia
  have:=sa 0 j (by lia) h3;lia
 have h2:=h1.exb sb 0 (ae2 _) λj _ h2 _ i h4 h5=>by lia
 have:=h2.all;unfold dS;simpa using this
end
noncomputable abbrev pW:=Option (Array Keyed)×Nat×Nat×Array Keyed×Nat×Nat×Nat
noncomputable def o7(a b out:Array Keyed)(na nb mg ac k:Nat):StateT SortSt Sem (ForInStep pW):=do
 let x <-elem' a (na-1)
 if na-1==0 then pure (.done (some (a.extract 0 (na-1)++b.extract 0 nb++(out.push x).reverse),na-1,nb,out.push x,mg,ac,k))
 else if decide (ac<7)&&decide (k<7) then pure (.done (none,na-1,nb,out.push x,mg,ac,k))
 else pure (.yield (none,na-1,nb,out.push x,mg,ac,k))
noncomputable def gG(a b out:Array Keyed)(na nb mg ac bc:Nat):StateT SortSt Sem (ForInStep pW):=do
 let x <-elem' b (nb-1)
 if nb-1==1 then pure (.done (some (b.extract 0 (nb-1)++a.extract 0 na++(out.push x).reverse),na,nb-1,out.push x,mg,ac,bc))
 else do
  let y <-elem' a (na-1)
  match <-fQ true y b 0 (nb-1) (nb-1-1) with
  | some k=>
   if nb-1-k>0 then
    if k==1 then pure (.done (some (b.extract 0 k++a.extract 0 na++(out.push x++(b.extract k (nb-1)).reverse).reverse),na,k,out.push x++(b.extract k (nb-1)).reverse,mg,ac,nb-1-k))
    else if k==0 then pure (.done (some (a.extract 0 na++b.extract 0 k++(out.push x++(b.extract k (nb-1)).reverse).reverse),na,k,out.push x++(b.extract k (nb-1)).reverse,mg,ac,nb-1-k))
    else o7 a b (out.push x++(b.extract k (nb-1)).reverse) na k mg ac (nb-1-k)
   else o7 a b (out.push x) na (nb-1) mg ac (nb-1-k)
  |_=>pure (.done (some (a.extract 0 na++b.extract 0 (nb-1)++(out.push x).reverse),na,nb-1,out.push x,mg,ac,bc))
noncomputable def kK(a b out:Array Keyed)(na nb mg ac bc:Nat):StateT SortSt Sem (ForInStep pW):=do
 jE mg
 let y <-elem' b (nb-1)
 match <-fQ false y a 0 na (na-1) with
 | some k=>
  if na-k>0 then
   if k==0 then pure (.done (some (a.extract 0 k++b.extract 0 nb++(out++(a.extract k na).reverse).reverse),k,nb,out++(a.extract k na).reverse,mg,na-k,bc))
   else gG a b (out++(a.extract k na).reverse) k nb mg (na-k) bc
  else gG a b out na nb mg (na-k) bc
 |_=>pure (.done (some (a.extract 0 na++b.extract 0 nb++out.reverse),na,nb,out,mg,ac,bc))
noncomputable def j3(r:Keyed->Nat)(a b:Array Keyed)(x:Nat)(o:Option (Array Keyed))(out:Array Keyed)(na nb:Nat):Prop:=
 match o with
 |some res=>dS r a b res
 |none=>MB r a b out na nb/\0<na/\na<=a.size/\1<nb/\nb<=b.size/\na+nb+x<=a.size+b.size
noncomputable def pV(r:Keyed->Nat)(a b:Array Keyed)(x:Nat)(st:SortSt)(c:ForInStep pW)(st':SortSt):Prop:=
 (∃g,st'=sg st g)/\match c with
 | .done (o,na,nb,out,_)=>j3 r a b x o out na nb
 | .yield (o,na,nb,out,_)=>o=none/\j3 r a b x o out na nb
section
variable{prog:afL}{w:agC}{A:afU}{E:Value->aeV->Prop}{s:aeV}{κ:SortKind}{r:Keyed->Nat}{S:Keyed->Prop}{a b out:Array Keyed}{na nb:Nat}{st:SortSt}
theorem BM(sa:Srt r a)(sb:Srt r b){x mg ac k g:Nat}(M:MB r a b out na nb)(h1:0<na)(h1':na<=a.size)(h2:1<nb)(h2':nb<=b.size)(h3:na+nb+x<=a.size+b.size)
  (hk:∀i,i<nb->i<b.size->r (it b i)<=r (it a (na-1))):wpS (afT prog w) A E s (o7 a b out na nb mg ac k) (pV r a b x st) (sg st g):=by
 unfold o7;refine ae8 (cD (bQ (by lia:na-1<a.size)) ?_);have M':=M.pa sa h1 (by lia) hk;by_cases e1:na-1=0
 ·rw[if_pos (by simpa using e1)];exact afE ⟨⟨g,rfl⟩,M'.done sa sb (.inl e1)⟩
 ·rw[if_neg (by simpa using e1)];split
  ·exact afE ⟨⟨g,rfl⟩,M',by lia,by lia,by lia,by lia,by lia⟩
  ·exact afE ⟨⟨g,rfl⟩,rfl,M',by lia,by lia,by lia,by lia,by lia⟩
theorem BN(C:dA prog w A s κ r S)(hkd:kindOf st=κ)(hS:∀x,x∈a.toList\/x∈b.toList->S x)(sa:Srt r a)(sb:Srt r b)(h0:r (it b 0)<=r (it a 0)){x mg ac bc g:Nat}(M:MB r a b out na nb)(h1:0<na)(h1':na<=a.size)(h2:1<nb)(h2':nb<=b.size)(h3:na+nb+x<=a.size+b.size)
  (hk:∀i,i<na->i<a.size->r (it a i)<=r (it b (nb-1))):wpS (afT prog w) A E s (gG a b out na nb mg ac bc) (pV r a b x st) (sg st g):=by
 unfold gG;refine ae8 (cD (bQ (by lia:nb-1<b.size)) ?_);have M':=M.pb sb (by lia) (by lia) hk;by_cases e1:nb-1=1
 ·rw[if_pos (by simpa using e1)];exact afE ⟨⟨g,rfl⟩,M'.fst sa sb e1 h0⟩
 ·rw [if_neg (by simpa using e1)];refine ae8 (cD (bQ (by lia:na-1<a.size)) ?_);refine ae8 (j4 C hkd (hS _ (.inl (eG (by lia)))) (λi=>it b i) (λi hi=>⟨by rw[Nat.zero_add];exact bQ (by lia),hS _ (.inr (eG (by lia)))⟩) (λi j hij hj=>sb _ _ (by lia) (by lia)) (by lia) λk k1 k2 k3=>?_);dsimp only;have c2:∀i,i<k->r (it b i)<r (it a (na-1)):=λi hi=>by have:=k2 i hi;unfold bG at this;simpa using this
  have c3:∀i,k<=i->i<nb-1->r (it a (na-1))<=r (it b i):=λi hi hj=>by have:=k3 i hi hj;unfold bG at this;simpa using this
  have cb:∀i,i<k->i<b.size->r (it b i)<=r (it a (na-1)):=λi h5 h6=>by have:=c2 i h5;lia
  by_cases k0:nb-1-k>0
  ·rw[if_pos k0]
   have M2:=M'.exb sb k (by lia) λj h5 h6 h7 i h8 h9=>by
    have:=c3 j h5 h6;have:=sa i (na-1) (by lia) (by lia);lia
   by_cases e2:k=1
   ·rw[if_pos (by simpa using e2)];exact afE ⟨⟨g,rfl⟩,M2.fst sa sb e2 h0⟩
   ·rw[if_neg (by simpa using e2)];by_cases e3:k=0
    ·rw[if_pos (by simpa using e3)];exact afE ⟨⟨g,rfl⟩,M2.done sa sb (.inr e3)⟩
    ·rw[if_neg (by simpa using e3)];exact BM sa sb M2 h1 h1' (by lia) (by lia) (by lia) cb
  ·rw[if_neg k0];obtain rfl:k=nb-1:=by lia
   exact BM sa sb M' h1 h1' (by lia) (by lia) (by lia) cb
theorem BO(C:dA prog w A s κ r S)(hkd:kindOf st=κ)(hS:∀x,x∈a.toList\/x∈b.toList->S x)(sa:Srt r a)(sb:Srt r b)(h0:r (it b 0)<=r (it a 0)){x mg ac bc g:Nat}(M:MB r a b out na nb)(h1:0<na)(h1':na<=a.size)(h2:1<nb)(h2':nb<=b.size)(h3:na+nb+x<=a.size+b.size):
  wpS (afT prog w) A E s (kK a b out na nb mg ac bc) (pV r a b x st) (sg st g):=by
 unfold kK;refine ae8 (mS ?_);refine ae8 (cD (bQ (by lia:nb-1<b.size)) ?_);refine ae8 (j4 C hkd (hS _ (.inr (eG (by lia)))) (λi=>it a i) (λi hi=>⟨by rw[Nat.zero_add];exact bQ (by lia),hS _ (.inl (eG (by lia)))⟩) (λi j hij hj=>sa _ _ (by lia) (by lia)) (by lia) λk k1 k2 k3=>?_);dsimp only;have c2:∀i,i<k->r (it a i)<=r (it b (nb-1)):=λi hi=>by have:=k2 i hi;unfold bG at this;simpa using this
 have c3:∀i,k<=i->i<na->r (it b (nb-1))<r (it a i):=λi hi hj=>by have:=k3 i hi hj;unfold bG at this;simpa using this
 by_cases k0:na-k>0
 ·rw[if_pos k0]
  have M2:=M.ext sa k (by lia) λj h5 h6 h7 i h8 h9=>by
   have:=c3 j h5 h6;have:=sb i (nb-1) (by lia) (by lia);lia
  by_cases e2:k=0
  ·rw[if_pos (by simpa using e2)];exact afE ⟨⟨mg,rfl⟩,M2.done sa sb (.inl e2)⟩
  ·rw[if_neg (by simpa using e2)];exact BN C hkd hS sa sb h0 M2 (by lia) (by lia) h2 h2' (by lia) λi hi _=>c2 i hi
 ·rw[if_neg k0];obtain rfl:k=na:=by lia
  exact BN C hkd hS sa sb h0 M h1 h1' h2 h2' h3 λi hi _=>c2 i hi
theorem LZ(C:dA prog w A s κ r S){Q:Array Keyed->SortSt->Prop}(hkd:kindOf st=κ)(hS:∀x,x∈a.toList\/x∈b.toList->S x)
  (sa:Srt r a) (sb:Srt r b) (ha:0<a.size) (hb:0<b.size) (h0:r (it b 0)<=r (it a 0)) (hl:∀i,i<b.size->r (it b i)<=r (it a (a.size-1)))
  (h:∀out g,dS r a b out->Q out (sg st g)):wpS (afT prog w) A E s (vG a b) Q st:=by
 rw[YK];refine ae8 (wpS_lift (aiG ⟨rfl,?_⟩));refine ae8 (cD (bQ (by lia:a.size-1<a.size)) ?_);have M0:MB r a b #[] a.size b.size:=⟨by simp,.nil,λu hu=>by simp at hu⟩
 have M1:MB r a b #[it a (a.size-1)] (a.size-1) b.size:=by
  have:=M0.pa sa ha (by lia) λi _ hi=>hl i hi;simpa using this
 dsimp only;by_cases e1:a.size-1=0
 ·rw[if_pos (by simpa using e1)];exact afE (h _ (gallopOf st) (M1.done sa sb (.inl e1)))
 rw[if_neg (by simpa using e1)];by_cases e2:b.size=1
 ·rw[if_pos (by simpa using e2)];exact afE (h _ (gallopOf st) (M1.fst sa sb e2 h0))
 rw[if_neg (by simpa using e2)];refine ae8 (wpS_get ?_)
 refine ae8 (aiA (agX (I:=λx c st'=>(∃g,st'=sg st g)/\∃out na nb mg,c=(none,na,nb,out,mg)/\j3 r a b (1+x) none out na nb)
  (Q:=λc st'=>(∃g,st'=sg st g)/\∃res out na nb mg,c=(some res,na,nb,out,mg)/\dS r a b res) ?step ?fin ⟨⟨gallopOf st,rfl⟩,_,_,_,_,rfl,M1,by lia,by lia,by lia,by lia,by lia⟩) ?post)
 case fin=>
  rintro c st' ⟨hg,out,na,nb,mg,rfl,M,q1,q1',q2,q2',q3⟩;lia
 case post=>
  rintro c st' ⟨⟨g,rfl⟩,res,out,na,nb,mg,rfl,M⟩;exact afE (h _ g M)
 case step=>
  rintro x c st' _ hx ⟨⟨g,rfl⟩,out,na,nb,mg,rfl,M,q1,q1',q2,q2',q3⟩;dsimp only
  refine ae8 (aiA (agX (I:=λy c st'=>st'=sg st g/\∃out na nb ac bc,c=(none,na,nb,out,ac,bc)/\j3 r a b (1+x+min y 1) none out na nb)
   (Q:=λc st'=>st'=sg st g/\∃o out na nb ac bc,c=(o,na,nb,out,ac,bc)/\j3 r a b (1+(x+1)) o out na nb) ?step1 ?fin1 ⟨rfl,_,_,_,_,_,rfl,M,q1,q1',q2,q2',by lia⟩) ?post1)
  case fin1=>
   rintro c st' ⟨rfl,out,na,nb,ac,bc,rfl,M,q1,q1',q2,q2',q3⟩;exact⟨rfl,_,_,_,_,_,_,rfl,M,q1,q1',q2,q2',by lia⟩
  case step1=>
   rintro y c st' _ hy ⟨rfl,out,na,nb,ac,bc,rfl,M,q1,q1',q2,q2',q3⟩;dsimp only;have ib:nb-1<b.size:=by lia
   have ia:na-1<a.size:=by lia
   refine ae8 (cD (bQ ib) ?_);refine ae8 (cD (bQ ia) ?_);refine ae8 (k8 C hkd (hS _ (.inr (eG ib))) (hS _ (.inl (eG ia))) ?_);dsimp only;by_cases lt:r (it b (nb-1))<r (it a (na-1))
   ·rw[if_pos (by simpa using lt)];refine ae8 (cD (bQ ia) ?_);have M2:=M.pa sa q1 ia λi h1 h2=>by have:=sb i (nb-1) (by lia) ib;lia
    by_cases e3:na-1=0
    ·rw[if_pos (by simpa using e3)];exact afE ⟨rfl,_,_,_,_,_,_,rfl,M2.done sa sb (.inl e3)⟩
    ·rw[if_neg (by simpa using e3)];split
     ·exact afE ⟨rfl,_,_,_,_,_,_,rfl,M2,by lia,by lia,q2,q2',by lia⟩
     ·exact afE ⟨rfl,_,_,_,_,_,rfl,M2,by lia,by lia,q2,q2',by lia⟩
   ·rw[if_neg (by simpa using lt)];refine ae8 (cD (bQ ib) ?_);have M2:=M.pb sb (by lia) ib λi h1 h2=>by have:=sa i (na-1) (by lia) ia;lia
    by_cases e3:nb-1=1
    ·rw[if_pos (by simpa using e3)];exact afE ⟨rfl,_,_,_,_,_,_,rfl,M2.fst sa sb e3 h0⟩
    ·rw[if_neg (by simpa using e3)];split
     ·exact afE ⟨rfl,_,_,_,_,_,_,rfl,M2,q1,q1',by lia,by lia,by lia⟩
     ·exact afE ⟨rfl,_,_,_,_,_,rfl,M2,q1,q1',by lia,by lia,by lia⟩
  case post1=>
   rintro c st' ⟨rfl,o,out,na,nb,ac,bc,rfl,M⟩
   cases o with
   |some res=>
    dsimp only
    exact afE ⟨⟨g,rfl⟩,_,_,_,_,_,rfl,M⟩
   | none=>
    obtain⟨M,q1,q1',q2,q2',q3⟩:=M;dsimp only;refine ae8 (wpS_lift (aiG ⟨rfl,?_⟩))
    refine ae8 (aiA (agX (I:=λy c st'=>(∃g,st'=sg st g)/\∃out na nb mg ac bc,c=(none,na,nb,out,mg,ac,bc)/\j3 r a b (1+(x+1)) none out na nb)
     (Q:=λc st'=>(∃g,st'=sg st g)/\∃o out na nb mg ac bc,c=(o,na,nb,out,mg,ac,bc)/\j3 r a b (1+(x+1)) o out na nb) ?step2 ?fin2 ⟨⟨g,rfl⟩,_,_,_,_,_,_,rfl,M,q1,q1',q2,q2',by lia⟩) ?post2)
    case fin2=>
     rintro c st' ⟨hg,out,na,nb,mg,ac,bc,rfl,M⟩;exact⟨hg,_,_,_,_,_,_,_,rfl,M⟩
    case step2=>
     rintro y c st' _ hy ⟨⟨g,rfl⟩,out,na,nb,mg,ac,bc,rfl,M,q1,q1',q2,q2',q3⟩;refine aiA (Q:=pV r a b (1+(x+1)) st) ?code λc st' hc=>?_
     case code=>
      dsimp only;by_cases m1:mg>1
      ·rw[if_pos m1];exact BO (mg:=mg-1) (ac:=ac) (bc:=bc) C hkd hS sa sb h0 M q1 q1' q2 q2' q3
      ·rw[if_neg m1];exact BO (mg:=mg) (ac:=ac) (bc:=bc) C hkd hS sa sb h0 M q1 q1' q2 q2' q3
     ·obtain⟨hg,hc⟩:=hc
      match c,hc with
      | .done (o,na,nb,out,mg,ac,bc),hc=>exact⟨hg,_,_,_,_,_,_,_,rfl,hc⟩
      | .yield (o,na,nb,out,mg,ac,bc),⟨h1,hc⟩=>
       subst h1;exact⟨hg,_,_,_,_,_,_,rfl,hc⟩
    case post2=>
     rintro c st' ⟨⟨g',rfl⟩,o,out,na,nb,mg',ac,bc,rfl,M⟩
     cases o with
     |some res=>
      dsimp only
      exact afE ⟨⟨g',rfl⟩,_,_,_,_,_,rfl,M⟩
     |none=>
      dsimp only;refine ae8 (mS ?_);exact afE ⟨⟨_,rfl⟩,_,_,_,_,rfl,M⟩
end
noncomputable def wr(arr:Array Keyed)(sa:Nat)(l:List Keyed):Array Keyed:=l.zipIdx.foldl (λa(p,j)=>a.setIfInBounds (sa+j) p) arr
theorem W4(i:Nat):mergeAt' i=(do
 let s <-get
 let(some (sa,na,power),some (sb,nb,_)):=((afJ s)[i]?,(afJ s)[i+1]?)|unsupported "internal:list.sort.pending"
 set (setPending s (((afJ s).setIfInBounds i (sa,na+nb,power)).eraseIdxIfInBounds (i+1)))
 let some k <-fQ false (<-elem' (afN s) sb) (afN s) sa na 0|return false
 let(sa,na):=(sa+k,na-k)
 if na==0 then return true
 let some nb <-fQ true (<-elem' (afN s) (sa+na-1)) (afN s) sb nb (nb-1)|return false
 if nb==0 then return true
 let x:=(afN s).extract sa sb
 let y:=(afN s).extract sb (sb+nb)
 let merged <-if na<=nb then vF x y else vG x y
 modify λs=>setArr s (wr (afN s) sa merged.toList)
 return (failedOf (<-get)).isNone):=rfl
theorem BH(sa:Nat):∀(l:List Keyed)(k:Nat)(arr:Array Keyed),sa+k+l.length<=arr.size->
  ((l.zipIdx k).foldl (λa(p,j)=>a.setIfInBounds (sa+j) p) arr).toList=arr.toList.take (sa+k)++l++arr.toList.drop (sa+k+l.length)
 |[],k,arr,_=>by simp
 | x::l,k,arr,h=>by
  rw[length_cons]at h;rw[List.zipIdx_cons,foldl_cons];rw[BH sa l (k+1) (arr.setIfInBounds (sa+k) x) (by rw[Array.size_setIfInBounds];lia)];rw[Array.toList_setIfInBounds]
  have h1:(arr.toList.set (sa+k) x).take (sa+(k+1))=arr.toList.take (sa+k)++[x]:=by
   rw[show sa+(k+1)=sa+k+1 by lia,List.take_succ,List.take_set_of_le (aeU _)];simp[show sa+k<arr.size by lia]
  have h2:(arr.toList.set (sa+k) x).drop (sa+(k+1)+l.length)=arr.toList.drop (sa+k+(x::l).length):=by
   rw[List.drop_set_of_lt (by lia),length_cons]
   congr 1
   lia
  rw[h1,h2];simp
theorem BG{arr:Array Keyed}{sa:Nat}{l:List Keyed}(h:sa+l.length<=arr.size):(wr arr sa l).toList=arr.toList.take sa++l++arr.toList.drop (sa+l.length):=by
 have:=BH sa l 0 arr (by lia);rw[Nat.add_zero]at this;exact this
theorem vL(a:Array Keyed)(i:Nat):it a i=a.toList.getD i (Value.none,Value.none):=by
 unfold it;by_cases h:i<a.size
 ·simp[agV,h]
 ·simp[agV,h]
theorem LU{arr:Array Keyed}{sa:Nat}{m:Array Keyed}(h:sa+m.size<=arr.size)(i:Nat):it (wr arr sa m.toList) i=if sa<=i/\i<sa+m.size then it m (i-sa) else it arr i:=by
 rw[vL,BG (by simpa using h),vL,vL];simp only[ae9,afF];by_cases h1:i<sa
 ·rw[if_neg (by lia),append_assoc,agU (by simp;lia),List.getElem?_take_of_lt h1]
 ·by_cases h2:i<sa+m.size
  ·rw[if_pos ⟨by lia,h2⟩,append_assoc,agQ (by simp;lia),agU (by simp;lia)]
   congr 2
   simp;lia
  ·rw[if_neg (by lia),agQ (by simp;lia),List.getElem?_drop]
   congr 2
   simp;lia
theorem LT{arr:Array Keyed}{sa:Nat}{m:Array Keyed}{e:Nat}(h:e<=arr.size)(hse:sa<=e)(hm:m.toList.Perm (arr.extract sa e).toList):(wr arr sa m.toList).Perm arr:=by
 have hl:m.toList.length=e-sa:=by rw[hm.length_eq,ext_toList];simp;lia
 rw[ag5,BG (by rw[hl];lia)]
 have e1:arr.toList=arr.toList.take sa++(arr.extract sa e).toList++arr.toList.drop (sa+m.toList.length):=by
  rw[hl,ext_toList,show sa+(e-sa)=e by lia]
  conv=>lhs;rw[<-take_append_drop e arr.toList]
  congr 1
  conv=>lhs;rw[<-take_append_drop sa (arr.toList.take e)]
  rw[List.take_take,Nat.min_eq_left hse,drop_take]
 conv=>rhs;rw[e1]
 exact ah6.append_right _ (ah6.append_left _ hm)
noncomputable def c6(r:Keyed->Nat)(a:Array Keyed)(lo hi:Nat):Prop:=∀i j,lo<=i->i<=j->j<hi->r (it a i)<=r (it a j)
theorem HK{arr:Array Keyed}{u v i:Nat}(h:u+i<v)(hv:v<=arr.size):it (arr.extract u v) i=it arr (u+i):=by
 rw[e8 (by simp;lia),e8 (by lia)];simp
structure Iv (κ:SortKind) (a₀:Array Keyed) (st:SortSt):Prop where
 perm:(afN st).Perm a₀
 kind:kindOf st=κ
 ok:failedOf st=none
theorem Iv.size{κ:SortKind}{a₀:Array Keyed}{st:SortSt}(h:Iv κ a₀ st):(afN st).size=a₀.size:=h.perm.size_eq
theorem Iv.mem{κ:SortKind}{a₀:Array Keyed}{st:SortSt}(h:Iv κ a₀ st){i:Nat}(hi:i<a₀.size):it (afN st) i∈a₀.toList:=
 (ag5.mp h.perm).mem_iff.mp (eG (by rw[h.size];exact hi))
section
variable{prog:afL}{w:agC}{A:afU}{E:Value->aeV->Prop}{s:aeV}{κ:SortKind}{r:Keyed->Nat}{a₀:Array Keyed}{st:SortSt}
theorem LV{st':SortSt}{Q:PUnit->SortSt->Prop}(h:Q ⟨⟩ st'):wpS (afT prog w) A E s (set st':StateT SortSt Sem PUnit) Q st:=by
 unfold wpS;rw[StateT.run_set];exact aeX ⟨rfl,h⟩
theorem LX(C:dA prog w A s κ r (· ∈a₀.toList))(V:Iv κ a₀ st){i sa na sb nb pw pw':Nat}{Q:Bool->SortSt->Prop}(e1:(afJ st)[i]? =some (sa,na,pw))(e2:(afJ st)[i+1]? =some (sb,nb,pw'))
  (hs:sb=sa+na) (hn:0<na) (hm:0<nb) (hz:sb+nb<=a₀.size) (s1:c6 r (afN st) sa sb) (s2:c6 r (afN st) sb (sb+nb))
  (h:∀st',Iv κ a₀ st'->afJ st'=((afJ st).setIfInBounds i (sa,na+nb,pw)).eraseIdxIfInBounds (i+1)->c6 r (afN st') sa (sb+nb)->(∀j,j<sa\/sb+nb<=j->it (afN st') j=it (afN st) j)->Q true st'):
  wpS (afT prog w) A E s (mergeAt' i) Q st:=by
 have hz':sb+nb<=(afN st).size:=by rw[V.size];exact hz
 rw[W4];refine ae8 (wpS_get ?_);rw[e1,e2];dsimp only;refine ae8 (LV ?_);obtain⟨st1,hst1⟩:∃st1,st1=setPending st (((afJ st).setIfInBounds i (sa,na+nb,pw)).eraseIdxIfInBounds (i+1)):=⟨_,rfl⟩
 rw[<-hst1];have V1:Iv κ a₀ st1:=by subst hst1;exact⟨V.perm,V.kind,V.ok⟩
 have ea:afN st1=afN st:=by subst hst1;rfl
 have ep:afJ st1=((afJ st).setIfInBounds i (sa,na+nb,pw)).eraseIdxIfInBounds (i+1):=by subst hst1;rfl
 refine ae8 (cD (bQ (by lia:sb<(afN st).size)) ?_);refine ae8 (j4 C V1.kind (V.mem (by lia)) (λi=>it (afN st) (sa+i)) (λi hi=>⟨bQ (by lia),V.mem (by lia)⟩) (λi j hij hj=>s1 _ _ (by lia) (by lia) (by lia)) (by lia) λk k1 k2 k3=>?_);dsimp only
 have c2:∀i,sa<=i->i<sa+k->r (it (afN st) i)<=r (it (afN st) sb):=λi h1 h2=>by
  have:=k2 (i-sa) (by lia);unfold bG at this;rw[show sa+(i-sa)=i by lia]at this;simpa using this
 have c3:∀i,sa+k<=i->i<sb->r (it (afN st) sb)<r (it (afN st) i):=λi h1 h2=>by
  have:=k3 (i-sa) (by lia) (by lia);unfold bG at this;rw[show sa+(i-sa)=i by lia]at this;simpa using this
 by_cases n0:na-k=0
 ·rw[if_pos (by simpa using n0)];refine afE (h st1 V1 ep ?_ λj _=>by rw[ea]);rw[ea];intro i j h1 h2 h3;by_cases q1:j<sb
  ·exact s1 i j h1 h2 q1
  ·by_cases q2:i<sb
   ·have:=c2 i h1 (by lia);have:=s2 sb j (aeU _) (by lia) h3;lia
   ·exact s2 i j (by lia) h2 h3
 rw[if_neg (by simpa using n0)];have hl:sa+k+(na-k)-1=sb-1:=by lia
 rw[hl];refine ae8 (cD (bQ (by lia:sb-1<(afN st).size)) ?_);refine ae8 (j4 C V1.kind (V.mem (by lia)) (λi=>it (afN st) (sb+i)) (λi hi=>⟨bQ (by lia),V.mem (by lia)⟩) (λi j hij hj=>s2 _ _ (by lia) (by lia) (by lia)) (by lia) λm m1 m2 m3=>?_);dsimp only
 have d2:∀i,sb<=i->i<sb+m->r (it (afN st) i)<r (it (afN st) (sb-1)):=λi h1 h2=>by
  have:=m2 (i-sb) (by lia);unfold bG at this;rw[show sb+(i-sb)=i by lia]at this;simpa using this
 have d3:∀i,sb+m<=i->i<sb+nb->r (it (afN st) (sb-1))<=r (it (afN st) i):=λi h1 h2=>by
  have:=m3 (i-sb) (by lia) (by lia);unfold bG at this;rw[show sb+(i-sb)=i by lia]at this;simpa using this
 by_cases n1:m=0
 ·rw[if_pos (by simpa using n1)];refine afE (h st1 V1 ep ?_ λj _=>by rw[ea]);rw[ea];intro i j h1 h2 h3;by_cases q1:j<sb
  ·exact s1 i j h1 h2 q1
  ·by_cases q2:i<sb
   ·have:=d3 j (by lia) h3;have:=s1 i (sb-1) h1 (by lia) (by lia);lia
   ·exact s2 i j (by lia) h2 h3
 rw[if_neg (by simpa using n1)];obtain⟨x,hx⟩:∃x,x=(afN st).extract (sa+k) sb:=⟨_,rfl⟩
 obtain⟨y,hy⟩:∃y,y=(afN st).extract sb (sb+m):=⟨_,rfl⟩
 rw[<-hx,<-hy];have xz:x.size=sb-(sa+k):=by rw[hx];simp;lia
 have yz:y.size=m:=by rw[hy];simp;lia
 have xi:∀j,j<x.size->it x j=it (afN st) (sa+k+j):=λj hj=>by rw[xz]at hj;rw[hx];exact HK (by lia) (by lia)
 have yi:∀j,j<y.size->it y j=it (afN st) (sb+j):=λj hj=>by rw[yz]at hj;rw[hy];exact HK (by lia) (by lia)
 have sx:Srt r x:=λi j hij hj=>by rw[xi i (by lia),xi j hj];rw[xz]at hj;exact s1 _ _ (by lia) (by lia) (by lia)
 have sy:Srt r y:=λi j hij hj=>by rw[yi i (by lia),yi j hj];rw[yz]at hj;exact s2 _ _ (by lia) (by lia) (by lia)
 have hS:∀v,v∈x.toList\/v∈y.toList->v∈a₀.toList:=λv hv=>by
  rcases hv with hv|hv
  ·obtain⟨j,_,h2,rfl⟩:=jQ (i:=0) (a:=x) (by simpa using hv);rw[xi j h2];exact V.mem (by lia)
  ·obtain⟨j,_,h2,rfl⟩:=jQ (i:=0) (a:=y) (by simpa using hv);rw[yi j h2];exact V.mem (by lia)
 have g0:r (it y 0)<=r (it x 0):=by
  rw[xi 0 (by lia),yi 0 (by lia)];have:=c3 (sa+k) (by lia) (by lia);simp only[Nat.add_zero];lia
 have gl:∀i,i<y.size->r (it y i)<=r (it x (x.size-1)):=λi hi=>by
  rw[xi _ (by lia),yi i hi,show sa+k+(x.size-1)=sb-1 by lia];exact agP (d2 _ (by lia) (by lia))
 have fin:∀(out:Array Keyed)(g:Nat),dS r x y out->wpS (afT prog w) A E s (do
   modify λs=>setArr s (wr (afN s) (sa+k) out.toList)
   return (failedOf (<-get)).isNone) Q (sg st1 g):=λout g M=>by
  refine ae8 (wpS_modify ?_);refine ae8 (wpS_get ?_);have oz:out.size=x.size+y.size:=by have:=M.1.length_eq;simpa using this
  have wi:=λi=>LU (arr:=afN st) (sa:=sa+k) (m:=out) (by lia) i
  have from':∀i,sa+k<=i->i<sb+m->∃j,sa+k<=j/\j<sb+m/\it (wr (afN st) (sa+k) out.toList) i=it (afN st) j:=λi h1 h2=>by
   rw[wi,if_pos ⟨h1,by lia⟩];have hmem:=M.1.mem_iff.mp (eG (a:=out) (i:=i-(sa+k)) (by lia));rcases mem_append.mp hmem with hv|hv
   ·obtain⟨j,_,h2,e⟩:=jQ (i:=0) (a:=x) (by simpa using hv);exact⟨sa+k+j,by lia,by lia,by rw[e,xi j h2]⟩
   ·obtain⟨j,_,h2,e⟩:=jQ (i:=0) (a:=y) (by simpa using hv);exact⟨sb+j,by lia,by lia,by rw[e,yi j h2]⟩
  have so:Srt r out:=Srt.of M.2
  have lowb:∀i j,sa<=i->i<sa+k->sa+k<=j->j<sb+nb->r (it (afN st) i)<=r (it (afN st) j):=λi j h1 h2 h3 h4=>by
   by_cases q:j<sb
   ·exact s1 i j h1 (by lia) q
   ·have:=c2 i h1 h2;have:=s2 sb j (aeU _) (by lia) h4;lia
  have hib:∀i j,sa+k<=i->i<sb+m->sb+m<=j->j<sb+nb->r (it (afN st) i)<=r (it (afN st) j):=λi j h1 h2 h3 h4=>by
   by_cases q:i<sb
   ·have:=s1 i (sb-1) (by lia) (by lia) (by lia);have:=d3 j h3 h4;lia
   ·exact s2 i j (by lia) (by lia) h4
  have S':c6 r (wr (afN st) (sa+k) out.toList) sa (sb+nb):=by
   intro i j h1 h2 h3;by_cases qi:i<sa+k
   ·rw[wi i,if_neg (by lia)];by_cases qj:j<sa+k
    ·rw[wi j,if_neg (by lia)];exact s1 i j h1 h2 (by lia)
    ·by_cases qm:j<sb+m
     ·obtain⟨j',a1,a2,a3⟩:=from' j (by lia) qm;rw[a3];exact lowb i j' h1 qi a1 (by lia)
     ·rw[wi j,if_neg (by lia)];exact lowb i j h1 qi (by lia) h3
   ·by_cases qm:i<sb+m
    ·by_cases qj:j<sb+m
     ·rw[wi i,if_pos (by lia),wi j,if_pos (by lia)];exact so _ _ (by lia) (by lia)
     ·obtain⟨i',a1,a2,a3⟩:=from' i (by lia) qm;rw[a3,wi j,if_neg (by lia)];exact hib i' j a1 a2 (by lia) h3
    ·rw[wi i,if_neg (by lia),wi j,if_neg (by lia)];exact s2 i j (by lia) h2 h3
  have P':(wr (afN st) (sa+k) out.toList).Perm (afN st):=LT (e:=sb+m) (by lia) (by lia) (by
   have e:((afN st).extract (sa+k) (sb+m)).toList=x.toList++y.toList:=by
    rw[hx,hy,ext_toList,ext_toList,ext_toList];rw[show sb+m-(sa+k)=(sb-(sa+k))+m by lia,List.take_add,List.drop_drop,show sa+k+(sb-(sa+k))=sb by lia,show sb+m-sb=m by lia]
   rw[e]
   exact M.1)
  have hf:(failedOf (setArr (sg st1 g) (wr (afN (sg st1 g)) (sa+k) out.toList))).isNone=true:=by
   show(failedOf st1).isNone=true;rw[V1.ok];rfl
  rw[hf]
  have ar:afN (setArr (sg st1 g) (wr (afN (sg st1 g)) (sa+k) out.toList))=wr (afN st) (sa+k) out.toList:=by
   show wr (afN st1) (sa+k) out.toList=_;rw[ea]
  refine afE (h _ ⟨?_,V1.kind,V1.ok⟩ ep ?_ ?_)
  ·rw[ar];exact P'.trans V.perm
  ·rw[ar];exact S'
  ·intro j hj;rw[ar,wi j,if_neg (by lia)]
 by_cases le:na-k<=m
 ·rw[if_pos le];exact ae8 (LY C V1.kind hS sx sy (by lia) (by lia) g0 gl λout g M=>fin out g M)
 ·rw[if_neg le];exact ae8 (LZ C V1.kind hS sx sy (by lia) (by lia) g0 gl λout g M=>fin out g M)
end
theorem lZ(a:Array Keyed)(i:Nat):it a i=(a[i]?).getD (Value.none,Value.none):=by
 unfold it;by_cases h:i<a.size
 ·simp[agV,h]
 ·simp[agV,h]
theorem Z7{xs:Array Keyed}{i j:Nat}(hj:j<=xs.size)(k:Nat):it (mirror xs i j ((j-i)/2)) k=if i<=k/\k<j then it xs (i+j-1-k) else it xs k:=by
 rw[lZ,getElem?_mirror_all (i:=i) hj k];split <;> rw[lZ]
theorem Z8{xs:Array Keyed}{src d:Nat}(hs:src<xs.size)(hd:d<=src)(k:Nat):it (bubble xs src d) k=if k=src-d then it xs src else if src-d<k/\k<=src then it xs (k-1) else it xs k:=by
 rw[lZ,getElem?_bubble hs d hd k];split
 ·rw[lZ]
 ·split <;> rw[lZ]
section
variable{prog:afL}{w:agC}{A:afU}{E:Value->aeV->Prop}{s:aeV}{κ:SortKind}{r:Keyed->Nat}{a₀:Array Keyed}{st:SortSt}
theorem Iv.setArr(V:Iv κ a₀ st){xs:Array Keyed}(hp:xs.Perm (afN st)):Iv κ a₀ (setArr st xs):=⟨hp.trans V.perm,V.kind,V.ok⟩
theorem Iv.inj(V:Iv κ a₀ st)(hd:(a₀.toList.map r).Nodup){i j:Nat}(hi:i<a₀.size)(hj:j<a₀.size)(e:r (it (afN st) i)=r (it (afN st) j)):i=j:=by
 have p:((afN st).toList.map r).Perm (a₀.toList.map r):=(ag5.mp V.perm).map r;have nd:((afN st).toList.map r).Nodup:=p.nodup_iff.mpr hd;have hz:=V.size;have a1:((afN st).toList.map r)[i]'(by simp;lia)=r (it (afN st) i):=by rw[e8 (by lia)];simp
 have a2:((afN st).toList.map r)[j]'(by simp;lia)=r (it (afN st) j):=by rw[e8 (by lia)];simp
 exact(getElem_inj nd).mp (a1.trans (e.trans a2.symm))
theorem k7(C:dA prog w A s κ r (· ∈a₀.toList))(V:Iv κ a₀ st){i j:Nat}{Q:Option Bool->SortSt->Prop}(hi:i<a₀.size)(hj:j<a₀.size)(h:Q (some (decide (r (it (afN st) i)<r (it (afN st) j)))) st):
  wpS (afT prog w) A E s (ltAt' i j) Q st:=by
 rw[ltAt'_eq];refine ae8 (wpS_get ?_);dsimp only;have hz:=V.size;refine ae8 (cD (bQ (by lia)) (ae8 (cD (bQ (by lia)) ?_)));exact k8 C V.kind (V.mem hi) (V.mem hj) h
theorem BP(C:dA prog w A s κ r (· ∈a₀.toList))(V:Iv κ a₀ st){lo a nrem:Nat}{Q:Option (Option Nat)×Nat->SortSt->Prop}(hz:lo+nrem<=a₀.size)(h1:1<=a)(h2:a<=nrem)(hs:c6 r (afN st) lo (lo+a))
  (h:∀n,a<=n->n<=nrem->c6 r (afN st) lo (lo+n)->(n=nrem\/r (it (afN st) (lo+n))<r (it (afN st) (lo+n-1)))->Q (none,n) st):
  wpS (afT prog w) A E s (forIn [a:nrem] ((none,a):Option (Option Nat)×Nat) λx __s=>do
    let __x <-ltAt' (lo+__s.snd) (lo+__s.snd-1)
    match __x with
     |some smaller=>if smaller=true then pure (ForInStep.done (none,__s.snd)) else pure (ahQ (none,__s.snd+1))
     |x=>pure (ForInStep.done (some none,__s.snd))) Q st:=by
 refine agX (I:=λx c st'=>st'=st/\c=(none,x)/\c6 r (afN st) lo (lo+x)) ?step ?fin ⟨rfl,rfl,hs⟩
 case fin=>
  rintro c st' ⟨rfl,rfl,hs⟩;rw[Nat.max_eq_right h2]at hs ⊢;exact h nrem h2 (aeU _) hs (.inl rfl)
 case step=>
  rintro x c st' hx1 hx2 ⟨rfl,rfl,hs⟩;dsimp only;refine ae8 (k7 C V (by lia) (by lia) ?_);dsimp only;by_cases q:r (it (afN st') (lo+x))<r (it (afN st') (lo+x-1))
  ·rw[if_pos (by simpa using q)];exact afE (h x hx1 (by lia) hs (.inr q))
  ·rw[if_neg (by simpa using q)];refine afE ⟨rfl,rfl,λi j h3 h4 h5=>?_⟩;by_cases qj:j<lo+x
   ·exact hs i j h3 h4 qj
   ·obtain rfl:j=lo+x:=by lia
    by_cases qi:i=lo+x
    ·subst qi;exact aeU _
    ·have:=hs i (lo+x-1) h3 (by lia) (by lia);lia
theorem L0(C:dA prog w A s κ r (· ∈a₀.toList))(hd:(a₀.toList.map r).Nodup)(V:Iv κ a₀ st){lo nrem:Nat}{Q:Option Nat->SortSt->Prop}(hz:lo+nrem<=a₀.size)(h1:1<=nrem)
  (h:∀n st',Iv κ a₀ st'->afJ st'=afJ st->1<=n->n<=nrem->c6 r (afN st') lo (lo+n)->(∀j,j<lo->it (afN st') j=it (afN st) j)->Q (some n) st'):
  wpS (afT prog w) A E s (countRun' lo nrem) Q st:=by
 rw[countRun'_eq];refine ae8 (BP C V hz (aeU 1) h1 (λi j h3 h4 h5=>by obtain rfl:i=j:=(by lia);exact aeU _) λn n1 n2 n3 n4=>?_);dsimp only;by_cases e1:n=nrem
 ·rw[if_pos (by simpa using e1)];exact afE (h n st V rfl n1 n2 n3 λ_ _=>rfl)
 rw[if_neg (by simpa using e1)];by_cases e2:n>1
 ·rw[if_pos e2];refine ae8 (k7 C V (by lia) (by lia) ?_);dsimp only
  have q:r (it (afN st) lo)<r (it (afN st) (lo+n-1)):=by
   have:=n3 lo (lo+n-1) (aeU _) (by lia) (by lia);rcases Nat.lt_or_ge (r (it (afN st) lo)) (r (it (afN st) (lo+n-1))) with q|q
   ·exact q
   ·have:=V.inj hd (i:=lo) (j:=lo+n-1) (by lia) (by lia) (by lia);lia
  rw[if_pos (by simpa using q)];exact afE (h n st V rfl n1 n2 n3 λ_ _=>rfl)
 rw[if_neg e2];obtain rfl:n=1:=by lia
 have hlt:=n4.resolve_left e1;refine ae8 (wpS_lift (aiG ⟨rfl,?_⟩))
 refine ae8 (aiA (agX (I:=λx c st'=>st'=st/\c=(none,x,0)/\∀i j,lo<=i->i<=j->j<lo+x->r (it (afN st) j)<=r (it (afN st) i))
  (Q:=λc st'=>st'=st/\∃x,c=(none,x,0)/\2<=x/\x<=nrem/\∀i j,lo<=i->i<=j->j<lo+x->r (it (afN st) j)<=r (it (afN st) i)) ?step ?fin ⟨rfl,rfl,?init⟩) ?post)
 case init=>
  intro i j h3 h4 h5;by_cases q:i=j
  ·subst q;exact aeU _
  ·obtain rfl:i=lo:=by lia
   obtain rfl:j=i+1:=by lia
   rw[show i+1-1=i by lia]at hlt;lia
 case fin=>
  rintro c st' ⟨rfl,rfl,hs⟩;exact⟨rfl,_,rfl,by lia,by lia,hs⟩
 case step=>
  rintro x c st' hx1 hx2 ⟨rfl,rfl,hs⟩;dsimp only;refine ae8 (k7 C V (by lia) (by lia) ?_);dsimp only;by_cases q:r (it (afN st') (lo+x))<r (it (afN st') (lo+x-1))
  ·rw[if_pos (by simpa using q),if_neg (by lia)];refine afE ⟨rfl,rfl,λi j h3 h4 h5=>?_⟩;by_cases qj:j<lo+x
   ·exact hs i j h3 h4 qj
   ·obtain rfl:j=lo+x:=by lia
    by_cases qi:i=lo+x
    ·subst qi;exact aeU _
    ·have:=hs i (lo+x-1) h3 (by lia) (by lia);lia
  ·rw[if_neg (by simpa using q)];refine ae8 (k7 C V (by lia) (by lia) ?_);dsimp only
   have q':r (it (afN st') (lo+x-1))<r (it (afN st') (lo+x)):=by
    rcases Nat.lt_or_ge (r (it (afN st') (lo+x-1))) (r (it (afN st') (lo+x))) with q|q
    ·exact q
    ·have:=V.inj hd (i:=lo+x) (j:=lo+x-1) (by lia) (by lia) (by lia);lia
   rw[if_pos (by simpa using q')];exact afE ⟨rfl,x,rfl,by lia,by lia,hs⟩
 case post=>
  rintro c st' ⟨rfl,x,rfl,x1,x2,hs⟩;dsimp only;rw[if_neg (by lia)];have hzz:=V.size;have mi:=λk=>Z7 (xs:=afN st') (i:=lo) (j:=lo+x) (by lia) k;refine ae8 (wpS_reverse ?_);have V':Iv κ a₀ (PyProof.Rows.setArr st' (mirror (afN st') lo (lo+x) ((lo+x-lo)/2))):=V.setArr (mirror_perm _ _ _ _);refine ae8 (BP C V' hz (by lia) x2 (λi j h3 h4 h5=>?_) λn m1 m2 m3 m4=>?_)
  ·show r (it (mirror (afN st') lo (lo+x) ((lo+x-lo)/2)) i)<=r (it (mirror (afN st') lo (lo+x) ((lo+x-lo)/2)) j);rw[mi i,if_pos (by lia),mi j,if_pos (by lia)];exact hs _ _ (by lia) (by lia) (by lia)
  ·refine afE (h n _ V' rfl (by lia) m2 m3 λj hj=>?_);show it (mirror (afN st') lo (lo+x) ((lo+x-lo)/2)) j=_
   rw[mi j,if_neg (by lia)]
theorem L1(C:dA prog w A s κ r (· ∈a₀.toList))(V:Iv κ a₀ st){lo n ok:Nat}{Q:Bool->SortSt->Prop}(hz:lo+n<=a₀.size)(hok:ok<=n)(h1:1<=ok)(hs:c6 r (afN st) lo (lo+ok))
  (h:∀st',Iv κ a₀ st'->afJ st'=afJ st->c6 r (afN st') lo (lo+n)->(∀j,j<lo->it (afN st') j=it (afN st) j)->Q true st'):
  wpS (afT prog w) A E s (binarySort' lo n ok) Q st:=by
 rw[binarySort'_eq,Nat.max_eq_left h1]
 refine ae8 (aiA (agX (I:=λk c st'=>c=(none,())/\Iv κ a₀ st'/\afJ st'=afJ st/\c6 r (afN st') lo (lo+k)/\∀j,j<lo->it (afN st') j=it (afN st) j)
  (Q:=λc st'=>c=(none,())/\Iv κ a₀ st'/\afJ st'=afJ st/\c6 r (afN st') lo (lo+n)/\∀j,j<lo->it (afN st') j=it (afN st) j) ?step ?fin ⟨rfl,V,rfl,hs,λ_ _=>rfl⟩) ?post)
 case post=>
  rintro c st' ⟨rfl,V',e,hs',hj⟩;exact afE (h st' V' e hs' hj)
 case fin=>
  rintro c st' hh
  rwa [Nat.max_eq_right hok]at hh
 case step=>
  rintro k c st' hk1 hk2 ⟨rfl,V',ep,hs',hj'⟩
  refine ae8 (aiA (agX (I:=λx c st''=>st''=st'/\∃l u,c=(none,l,u)/\l<=u/\u<=k/\u-l<=k-x/\
    (∀i,i<l->r (it (afN st') (lo+i))<=r (it (afN st') (lo+k)))/\(∀i,u<=i->i<k->r (it (afN st') (lo+k))<r (it (afN st') (lo+i))))
   (Q:=λc st''=>st''=st'/\∃l u,c=(none,l,u)/\l<=k/\
    (∀i,i<l->r (it (afN st') (lo+i))<=r (it (afN st') (lo+k)))/\(∀i,l<=i->i<k->r (it (afN st') (lo+k))<r (it (afN st') (lo+i)))) ?istep ?ifin ?iinit) ?ipost)
  case iinit=>exact⟨rfl,0,k,rfl,by lia,by lia,by lia,λi hi=>by lia,λi h1 h2=>by lia⟩
  case ifin=>
   rintro c st'' ⟨rfl,l,u,rfl,hlr,hrk,hm,hlo,hhi⟩;have:l=u:=by lia
   subst this;exact⟨rfl,l,l,rfl,hrk,hlo,hhi⟩
  case istep=>
   rintro x c st'' _ hxk ⟨rfl,l,u,rfl,hlr,hrk,hm,hlo,hhi⟩;dsimp only;by_cases hge:l>=u
   ·rw[if_pos hge];have:l=u:=by lia
    subst this;exact afE ⟨rfl,l,l,rfl,hrk,hlo,hhi⟩
   ·rw[if_neg hge];refine ae8 (k7 C V' (by lia) (by lia) ?_);dsimp only;by_cases q:r (it (afN st'') (lo+k))<r (it (afN st'') (lo+(l+u)/2))
    ·rw[if_pos (by simpa using q)];refine afE ⟨rfl,l,(l+u)/2,rfl,by lia,by lia,by lia,hlo,λi h1 h2=>?_⟩;have:=hs' (lo+(l+u)/2) (lo+i) (by lia) (by lia) (by lia);lia
    ·rw[if_neg (by simpa using q)];refine afE ⟨rfl,(l+u)/2+1,u,rfl,by lia,by lia,by lia,λi h1=>?_,hhi⟩;have:=hs' (lo+i) (lo+(l+u)/2) (by lia) (by lia) (by lia);lia
  case ipost=>
   rintro c st'' ⟨rfl,l,u,rfl,hlk,hlo,hhi⟩;dsimp only;rw[moveDown'_eq];have hzz:=V'.size;have bi:=λi=>Z8 (xs:=afN st'') (src:=lo+k) (d:=lo+k-(lo+l)) (by lia) (by lia) i;rw[show lo+k-(lo+k-(lo+l))=lo+l by lia]at bi;refine ae8 (wpS_modify (afE ⟨rfl,V'.setArr (bubble_perm _ _ _),ep,λi j h3 h4 h5=>?_,λj hj=>?_⟩))
   ·show r (it (bubble (afN st'') (lo+k) (lo+k-(lo+l))) i)<=r (it (bubble (afN st'') (lo+k) (lo+k-(lo+l))) j);rw[bi i,bi j]
    have lo':∀i,lo<=i->i<lo+l->r (it (afN st'') i)<=r (it (afN st'') (lo+k)):=λi h1 h2=>by
     have:=hlo (i-lo) (by lia)
     rwa [show lo+(i-lo)=i by lia]at this
    have hi':∀i,lo+l<=i->i<lo+k->r (it (afN st'') (lo+k))<=r (it (afN st'') i):=λi h1 h2=>by
     have:=hhi (i-lo) (by lia) (by lia);rw[show lo+(i-lo)=i by lia]at this;lia
    repeat' split
    all_goals first
     |(exfalso;lia)
     |exact aeU _
     |exact lo' _ (by lia) (by lia)
     |exact hi' _ (by lia) (by lia)
     |exact hs' _ _ (by lia) (by lia) (by lia)
   ·show it (bubble (afN st'') (lo+k) (lo+k-(lo+l))) j=_;rw[bi j,if_neg (by lia),if_neg (by lia)];exact hj' j hj
end
noncomputable def Cov(r:Keyed->Nat)(a:Array Keyed):Nat->List (Nat×Nat)->Nat->Prop
 |s,[],e=>s=e
 |s,(q,n)::l,e=>q=s/\0<n/\c6 r a s (s+n)/\Cov r a (s+n) l e
theorem Cov.le{r:Keyed->Nat}{a:Array Keyed}:∀{l:List (Nat×Nat)}{s e:Nat},Cov r a s l e->s+l.length<=e
 |[],_,_,h=>by rw[show _=_ from h];simp
 |(q,n)::l,s,e,⟨_,h2,_,h4⟩=>by
  have:=h4.le;rw[length_cons];lia
theorem Cov.congr{r:Keyed->Nat}{a b:Array Keyed}:∀{l:List (Nat×Nat)}{s e:Nat},Cov r a s l e->(∀j,s<=j->j<e->it b j=it a j)->Cov r b s l e
 |[],_,_,h,_=>h
 |(q,n)::l,s,e,⟨h1,h2,h3,h4⟩,hc=>by
  have hl:=h4.le;refine⟨h1,h2,λi j a1 a2 a3=>?_,h4.congr λj a1 a2=>hc j (by lia) a2⟩;rw[hc i (by lia) (by lia),hc j (by lia) (by lia)];exact h3 i j a1 a2 a3
theorem Cov.split{r:Keyed->Nat}{a:Array Keyed}:∀{l l':List (Nat×Nat)}{s e:Nat},Cov r a s (l++l') e->∃m,Cov r a s l m/\Cov r a m l' e
 |[],_,s,_,h=>⟨s,rfl,h⟩
 |(q,n)::l,l',s,e,⟨h1,h2,h3,h4⟩=>by
  obtain⟨m,a1,a2⟩:=h4.split;exact⟨m,⟨h1,h2,h3,a1⟩,a2⟩
theorem Cov.join{r:Keyed->Nat}{a:Array Keyed}:∀{l l':List (Nat×Nat)}{s m e:Nat},Cov r a s l m->Cov r a m l' e->Cov r a s (l++l') e
 |[],_,s,m,_,h,h'=>by cases(show s=m from h);exact h'
 |(q,n)::l,l',s,m,e,⟨h1,h2,h3,h4⟩,h'=>⟨h1,h2,h3,h4.join h'⟩
noncomputable abbrev p2(st:SortSt):List (Nat×Nat):=(afJ st).toList.map λt=>(t.1,t.2.1)
theorem E8(st:SortSt):(p2 st).length=(afJ st).size:=by simp
section
variable{prog:afL}{w:agC}{A:afU}{E:Value->aeV->Prop}{s:aeV}{κ:SortKind}{r:Keyed->Nat}{a₀:Array Keyed}{st:SortSt}
theorem p9(C:dA prog w A s κ r (· ∈a₀.toList))(V:Iv κ a₀ st){i lo:Nat}{Q:Bool->SortSt->Prop}(hi:i+1<(afJ st).size)(hc:Cov r (afN st) 0 (p2 st) lo)(hz:lo<=a₀.size)
  (h:∀st',Iv κ a₀ st'->(afJ st').size+1=(afJ st).size->Cov r (afN st') 0 (p2 st') lo->(∀j,lo<=j->it (afN st') j=it (afN st) j)->Q true st'):
  wpS (afT prog w) A E s (mergeAt' i) Q st:=by
 obtain⟨⟨sa,na,pw⟩,e1⟩:∃u,(afJ st)[i]? =some u:=⟨_,getElem?_pos _ i (by lia)⟩
 obtain⟨⟨sb,nb,pw'⟩,e2⟩:∃u,(afJ st)[i+1]? =some u:=⟨_,getElem?_pos _ (i+1) (by lia)⟩
 have sp:(afJ st).toList=(afJ st).toList.take i++(sa,na,pw)::(sb,nb,pw')::(afJ st).toList.drop (i+2):=by
  conv=>lhs;rw[<-take_append_drop i (afJ st).toList]
  congr 1
  have f1:(afJ st).toList[i]? =some (sa,na,pw):=by rw[ahC];exact e1
  have f2:(afJ st).toList[i+1]? =some (sb,nb,pw'):=by rw[ahC];exact e2
  obtain⟨g1,g1'⟩:=ae3.mp f1;obtain⟨g2,g2'⟩:=ae3.mp f2;rw[drop_eq_getElem_cons g1,g1',drop_eq_getElem_cons g2,g2']
 obtain⟨pre,hpre⟩:∃pre,pre=(afJ st).toList.take i:=⟨_,rfl⟩
 obtain⟨post,hpost⟩:∃post,post=(afJ st).toList.drop (i+2):=⟨_,rfl⟩
 have hl:pre.length=i:=by rw[hpre];simp;lia
 rw[<-hpre,<-hpost]at sp;have hc':=hc;unfold p2 at hc';rw[sp,map_append]at hc';obtain⟨m,c1,c2⟩:=hc'.split;simp only[map_cons]at c2;obtain⟨q1,q2,q3,q4,q5,q6,q7⟩:=c2;have q2:0<na:=q2;have q5:0<nb:=q5;have q7:Cov r (afN st) (m+na+nb) (List.map (λt:Nat×Nat×Nat=>(t.1,t.2.1)) post) lo:=q7;have l1:=c1.le;have l2:=q7.le;subst q1;have es:sb=sa+na:=q4;refine LX C V e1 e2 es q2 q5 (by lia) (by rw[es];exact q3) (by rw[es];exact q6) λst' V' ep S' hj=>?_
 have et:(afJ st').toList=pre++(sa,na+nb,pw)::post:=by
  rw[ep];rw[Array.toList_eraseIdxIfInBounds,Array.toList_setIfInBounds,sp];rw[List.set_append_right _ _ (by lia),hl,Nat.sub_self,List.set_cons_zero,List.eraseIdx_append_of_length_le (by lia),hl,show i+1-i=1 by lia];rfl
 refine h st' V' ?_ ?_ λj hj'=>hj j (.inr (by lia))
 ·have a1:=congrArg List.length et;have a2:=congrArg List.length sp;simp only[afF,length_append,length_cons]at a1 a2;lia
 ·unfold p2;rw[et,map_append];refine Cov.join (c1.congr λj _ a2=>hj j (.inl a2)) ⟨rfl,(show 0<na+nb by lia),?_,?_⟩
  ·rw[<-Nat.add_assoc,<-es];exact S'
  ·rw[<-Nat.add_assoc];exact q7.congr λj a1 _=>hj j (.inr (by lia))
theorem E7(p:Array (Nat×Nat×Nat))(i pw:Nat):(p.modify i λx=>(x.1,x.2.1,pw)).toList.map (λt=>(t.1,t.2.1))=p.toList.map λt=>(t.1,t.2.1):=by
 apply List.ext_getElem
 ·simp
 ·intro j h1 h2;simp only[getElem_map,Array.getElem_toList,Array.getElem_modify];split <;> rfl
theorem nU{st1:SortSt}{lo n:Nat}(h1:1<=n)(c1:Cov r (afN st1) 0 (p2 st1) lo)(s1:c6 r (afN st1) lo (lo+n)):Cov r (afN st1) 0 (p2 (setPending st1 ((afJ st1).push (lo,n,0)))) (lo+n):=by
 show Cov r (afN st1) 0 (((afJ st1).push (lo,n,0)).toList.map λt=>(t.1,t.2.1)) (lo+n);rw[Array.toList_push,map_append];exact Cov.join c1 ⟨rfl,h1,s1,rfl⟩
theorem LW(C:dA prog w A s κ r (· ∈a₀.toList))(hd:(a₀.toList.map r).Nodup)(V:Iv κ a₀ st){Q:Unit->SortSt->Prop}(h1:1<=a₀.size)(hp:afJ st=#[])
  (h:∀st',Iv κ a₀ st'->c6 r (afN st') 0 a₀.size->Q () st'):wpS (afT prog w) A E s sortRuns' Q st:=by
 rw[sortRuns'_eq];refine ae8 (wpS_get ?_);dsimp only;simp only[V.size];obtain⟨mr,hmr⟩:∃mr,mr=minRun' a₀.size a₀.size 0:=⟨_,rfl⟩
 rw[<-hmr]
 refine ae8 (aiA (agX (I:=λx c st'=>∃lo,c=(none,lo)/\Iv κ a₀ st'/\x<=lo/\lo<=a₀.size/\Cov r (afN st') 0 (p2 st') lo)
  (Q:=λc st'=>c=(none,a₀.size)/\Iv κ a₀ st'/\Cov r (afN st') 0 (p2 st') a₀.size) ?step ?fin ⟨0,rfl,V,by lia,by lia,?init⟩) ?post)
 case init=>
  unfold p2;rw[hp];exact rfl
 case fin=>
  rintro c st' ⟨lo,rfl,V',a1,a2,a3⟩;obtain rfl:lo=a₀.size:=by lia
  exact⟨rfl,V',a3⟩
 case step=>
  rintro x c st' _ hx ⟨lo,rfl,V',a1,a2,a3⟩;dsimp only;by_cases q:lo>=a₀.size
  ·rw[if_pos q];obtain rfl:lo=a₀.size:=by lia
   exact afE ⟨rfl,V',a3⟩
  rw[if_neg q];refine ae8 (L0 C hd V' (by lia) (by lia) λn st1 V1 ep n1 n2 n3 n4=>?_);dsimp only
  have cv1:Cov r (afN st1) 0 (p2 st1) lo:=by
   unfold p2;rw[ep];exact a3.congr λj _ hj=>n4 j hj
  by_cases e1:n<mr
  ·rw [if_pos e1];refine ae8 (wpS_lift (aiG ⟨rfl,?_⟩));refine ae8 (L1 C V1 (by lia) (by lia) n1 n3 λst2 V2 ep2 m3 m4=>?_);rw[if_neg (by simp)]
   have cv2:Cov r (afN st2) 0 (p2 st2) lo:=by
    unfold p2;rw[ep2];exact cv1.congr λj _ hj=>m4 j hj
   refine ae8 (wpS_get ?_)
   cases eb:(afJ st2).back? with
   |none=>
    dsimp only
    exact ae8 (wpS_modify (afE ⟨_,rfl,⟨V2.perm,V2.kind,V2.ok⟩,by lia,by lia,nU (by lia) cv2 m3⟩))
   | some u=>
    obtain⟨s1,n1,pw1⟩:=u;dsimp only
    refine ae8 (aiA (agX (I:=λx c st'=>c=(none,())/\Iv κ a₀ st'/\Cov r (afN st') 0 (p2 st') lo/\∀j,lo<=j->it (afN st') j=it (afN st2) j)
     (Q:=λc st'=>c=(none,())/\Iv κ a₀ st'/\Cov r (afN st') 0 (p2 st') lo/\∀j,lo<=j->it (afN st') j=it (afN st2) j) ?stepA (λ_ _ hh=>hh) ⟨rfl,V2,cv2,λ_ _=>rfl⟩) ?postA)
    case stepA=>
     rintro x c st' _ hx ⟨rfl,V',cv',hj⟩;refine ae8 (wpS_get ?_);by_cases q:(afJ st').size>1
     ·rw[if_pos q];obtain⟨⟨u1,u2,older⟩,e1⟩:∃u,(afJ st')[(afJ st').size-2]? =some u:=⟨_,getElem?_pos _ _ (by lia)⟩
      rw[e1];dsimp only;split
      ·exact afE ⟨rfl,V',cv',hj⟩
      ·refine ae8 (p9 C V' (by lia) cv' (by lia) λst3 V3 _ cv3 hj3=>?_);rw[if_neg (by simp)];exact afE ⟨rfl,V3,cv3,λj hj'=>by rw[hj3 j hj',hj j hj']⟩
     ·rw[if_neg q];dsimp only;exact afE ⟨rfl,V',cv',hj⟩
    case postA=>
     rintro c st' ⟨rfl,V',cv',hj⟩;dsimp only;refine ae8 (wpS_modify (ae8 (wpS_modify (afE ⟨_,rfl,⟨V'.perm,V'.kind,V'.ok⟩,by lia,by lia,nU (st1:=setPending st' ((afJ st').modify ((afJ st').size-1) λx=>(x.fst,x.2.fst,power' a₀.size (2*s1+n1) (2*s1+n1+n1+min (a₀.size-lo) mr) a₀.size))) (by lia) ?_ λi j h3 h4 h5=>?_⟩))))
     ·show Cov r (afN st') 0 (((afJ st').modify ((afJ st').size-1) λx=>(x.fst,x.2.fst,power' a₀.size (2*s1+n1) (2*s1+n1+n1+min (a₀.size-lo) mr) a₀.size)).toList.map λt=>(t.1,t.2.1)) lo;rw[E7];exact cv'
     ·show r (it (afN st') i)<=r (it (afN st') j);rw[hj i h3,hj j (by lia)];exact m3 i j h3 h4 h5
  ·rw [if_neg e1];refine ae8 (wpS_get ?_)
   cases eb:(afJ st1).back? with
   |none=>
    dsimp only
    exact ae8 (wpS_modify (afE ⟨_,rfl,⟨V1.perm,V1.kind,V1.ok⟩,by lia,by lia,nU (by lia) cv1 n3⟩))
   | some u=>
    obtain⟨s1,n1,pw1⟩:=u;dsimp only
    refine ae8 (aiA (agX (I:=λx c st'=>c=(none,())/\Iv κ a₀ st'/\Cov r (afN st') 0 (p2 st') lo/\∀j,lo<=j->it (afN st') j=it (afN st1) j)
     (Q:=λc st'=>c=(none,())/\Iv κ a₀ st'/\Cov r (afN st') 0 (p2 st') lo/\∀j,lo<=j->it (afN st') j=it (afN st1) j) ?stepB (λ_ _ hh=>hh) ⟨rfl,V1,cv1,λ_ _=>rfl⟩) ?postB)
    case stepB=>
     rintro x c st' _ hx ⟨rfl,V',cv',hj⟩;refine ae8 (wpS_get ?_);by_cases q:(afJ st').size>1
     ·rw[if_pos q];obtain⟨⟨u1,u2,older⟩,e1⟩:∃u,(afJ st')[(afJ st').size-2]? =some u:=⟨_,getElem?_pos _ _ (by lia)⟩
      rw[e1];dsimp only;split
      ·exact afE ⟨rfl,V',cv',hj⟩
      ·refine ae8 (p9 C V' (by lia) cv' (by lia) λst2 V2 _ cv2 hj2=>?_);rw[if_neg (by simp)];exact afE ⟨rfl,V2,cv2,λj hj'=>by rw[hj2 j hj',hj j hj']⟩
     ·rw[if_neg q];dsimp only;exact afE ⟨rfl,V',cv',hj⟩
    case postB=>
     rintro c st' ⟨rfl,V',cv',hj⟩;dsimp only;refine ae8 (wpS_modify (ae8 (wpS_modify (afE ⟨_,rfl,⟨V'.perm,V'.kind,V'.ok⟩,by lia,by lia,nU (st1:=setPending st' ((afJ st').modify ((afJ st').size-1) λx=>(x.fst,x.2.fst,power' a₀.size (2*s1+n1) (2*s1+n1+n1+n) a₀.size))) (by lia) ?_ λi j h3 h4 h5=>?_⟩))))
     ·show Cov r (afN st') 0 (((afJ st').modify ((afJ st').size-1) λx=>(x.fst,x.2.fst,power' a₀.size (2*s1+n1) (2*s1+n1+n1+n) a₀.size)).toList.map λt=>(t.1,t.2.1)) lo;rw[E7];exact cv'
     ·show r (it (afN st') i)<=r (it (afN st') j);rw[hj i h3,hj j (by lia)];exact n3 i j h3 h4 h5
 case post=>
  rintro c st' ⟨rfl,V',cv⟩;dsimp only
  have one:∀st2,Iv κ a₀ st2->Cov r (afN st2) 0 (p2 st2) a₀.size->(afJ st2).size<=1->c6 r (afN st2) 0 a₀.size:=λst2 V2 cv2 hle=>by
   have hl:=E8 st2
   match hq:p2 st2,cv2 with
   |[],c=>have:(0:Nat)=a₀.size:=c;lia
   |[(q,n)],c=>
    obtain⟨c1,c2,c3,c4⟩:=c;have c4:0+n=a₀.size:=c4
    rw[<-c4];exact c3
   |_::_::_,c=>rw[hq]at hl;simp at hl;lia
  have hlen:(afJ st').size<=a₀.size:=by have:=cv.le;rw[E8]at this;lia
  refine ae8 (aiA (agX (I:=λx c st2=>c=(none,())/\Iv κ a₀ st2/\Cov r (afN st2) 0 (p2 st2) a₀.size/\((afJ st2).size<=1\/(afJ st2).size+x<=a₀.size))
   (Q:=λc st2=>c=(none,())/\Iv κ a₀ st2/\c6 r (afN st2) 0 a₀.size) ?step3 ?fin3 ⟨rfl,V',cv,.inr (by lia)⟩) ?post3)
  case fin3=>
   rintro c st2 ⟨rfl,V2,cv2,hh⟩;exact⟨rfl,V2,one st2 V2 cv2 (by lia)⟩
  case post3=>
   rintro c st2 ⟨rfl,V2,sn⟩;exact afE (h st2 V2 sn)
  case step3=>
   rintro x c st2 _ hx ⟨rfl,V2,cv2,hh⟩;refine ae8 (wpS_get ?_);by_cases q:(afJ st2).size<=1
   ·rw[if_pos q];exact afE ⟨rfl,V2,one st2 V2 cv2 q⟩
   ·rw[if_neg q];refine ae8 (p9 C V2 ?_ cv2 (aeU _) λst3 V3 e3 cv3 _=>?_)
    ·repeat' split
     all_goals lia
    ·rw[if_neg (by simp)];exact afE ⟨rfl,V3,cv3,.inr (by lia)⟩
end
end TS
namespace TS
open PySem PySem.Spec PyProof.Rows L2
theorem pK{α:Type}{p q:α->Bool}:∀{l:List α},(∀x∈l,p x=true->q x=true)->(∃x∈l,q x=true/\p x=false)->l.countP p<l.countP q
 |[],_,⟨_,h,_⟩=>nomatch h
 | a::l,h1,⟨x,hx,h2,h3⟩=>by
  have le:l.countP p<=l.countP q:=List.countP_mono_left λy hy hp=>h1 y (mem_cons_of_mem _ hy) hp;rw[countP_cons,countP_cons];rcases mem_cons.mp hx with rfl|hx
  ·rw[h2,h3];simp;lia
  ·have ih:=pK (λy hy=>h1 y (mem_cons_of_mem _ hy)) ⟨x,hx,h2,h3⟩;have ha:=h1 a mem_cons_self;cases ep:p a <;> cases eq:q a <;> simp[ep,eq]at ha ⊢ <;> lia
noncomputable def rk(lt:Nat->Nat->Bool)(n i:Nat):Nat:=(range n).countP λj=>lt j i
section
variable{lt:Nat->Nat->Bool}{n:Nat}(S:kX lt n)
include S
theorem lE{i j:Nat}(hi:i<n)(hj:j<n)(h:lt i j=true):rk lt n i<rk lt n j:=
 pK (λk hk hp=>S.tr k i j (mem_range.mp hk) hi hj hp h) ⟨i,mem_range.mpr hi,h,by
  cases e:lt i i with
  |false=>rfl
  |true=>have:=S.irr i i hi hi e;rw[e]at this;cases this⟩
theorem Q3{i j:Nat}(hi:i<n)(hj:j<n):decide (rk lt n i<rk lt n j)=lt i j:=by
 cases e:lt i j with
 |true=>simpa using lE S hi hj e
 | false=>
  by_cases q:i=j
  ·subst q;simp
  ·have:=lE S hj hi (S.tot i j hi hj q e);simp;lia
theorem Q2{i j:Nat}(hi:i<n)(hj:j<n)(h:rk lt n i=rk lt n j):i=j:=by
 by_cases q:i=j
 ·exact q
 ·cases e:lt i j with
  |true=>have:=lE S hi hj e;lia
  |false=>have:=lE S hj hi (S.tot i j hi hj q e);lia
end
theorem UE{α β:Type}{f:α->β}{l₁ m:List β}(h:l₁.Perm m):∀l₂:List α,m=l₂.map f->∃l:List α,l.Perm l₂/\l₁=l.map f:=by
 induction h with
 |nil=>intro l₂ e;exact⟨[],by cases l₂ with|nil=>exact .nil|cons=>simp at e,rfl⟩
 | cons x _ ih=>
  intro l₂ e
  cases l₂ with
  |nil=>simp at e
  |cons a t=>
   rw[map_cons]at e;obtain⟨rfl,e2⟩:=List.cons.inj e;obtain⟨l,p,q⟩:=ih t e2
   exact⟨a::l,p.cons a,by rw[q];rfl⟩
 | swap x y t=>
  intro l₂ e
  match l₂,e with
  |a::b::t',e=>
   rw[map_cons,map_cons]at e;obtain⟨rfl,e2⟩:=List.cons.inj e;obtain⟨rfl,rfl⟩:=List.cons.inj e2
   exact⟨b::a::t',.swap a b t',rfl⟩
 |trans _ _ ih1 ih2=>
  intro l₂ e;obtain⟨l,p,q⟩:=ih2 l₂ e;obtain⟨l',p',q'⟩:=ih1 l q;exact⟨l',p'.trans p,q'⟩
noncomputable def jG(lt:Nat->Nat->Bool)(vs:List Value)(x:Keyed):Nat:=
 open Classical in if h:∃i,i<vs.length/\vs.getD i Value.none=x.1 then rk lt vs.length (Classical.choose h) else 0
theorem nK{lt:Nat->Nat->Bool}{vs:List Value}(nd:vs.Nodup){i:Nat}(hi:i<vs.length)(v:Value):jG lt vs (vs.getD i Value.none,v)=rk lt vs.length i:=by
 have h:∃j,j<vs.length/\vs.getD j Value.none=vs.getD i Value.none:=⟨i,hi,rfl⟩
 unfold jG;rw[dif_pos h]
 congr 1
 obtain⟨h1,h2⟩:=Classical.choose_spec h;generalize Classical.choose h=c at h1 h2 ⊢;rw[ae9,ae9,aeY h1,aeY hi]at h2;exact(getElem_inj nd).mp h2
theorem uN(vs:List Value):(pairsOf vs).toList=(range vs.length).map λi=>(vs.getD i Value.none,vs.getD i Value.none):=by
 rw[pairsOf_toList];apply List.ext_getElem
 ·simp
 ·intro i h1 h2;simp at h1 h2 ⊢;simp[h2]
section
variable{prog:afL}{w:agC}{A:afU}{E:Value->aeV->Prop}{s:aeV}{h₀:Heap}{L a:Addr}{m:Str->Option Value}{news:List (Addr×Obj)}{vs:List Value}
structure KD (prog:afL) (w:agC) (A:afU) (vs:List Value) (s:aeV) (R:List Nat->Prop):Prop where
 need:∃κ lt,kX lt vs.length/\(∀Q:SortKind->aeV->Prop,Q κ s->afH (afT prog w) A (keyKind' vs.toArray) Q (λ_ _=>False) s)/\
  (∀i j,i<vs.length->j<vs.length->∀Q:Bool->aeV->Prop,Q (lt i j) s->afH (afT prog w) A (keyLt' κ (vs.getD i Value.none) (vs.getD j Value.none)) Q (λ_ _=>False) s)/\
  ∀p:List Nat,p.Perm (range vs.length)->p.Pairwise (λi j=>lt i j=true)->R p
theorem acU{n:Nat}{P:PySem.Fin->aeV->Prop}(F:Fr h₀ L s.heap m)(N:News h₀ L s.heap news)(ho:s.heap.get? a=some (afC "list" vs.toArray n))(haL:a≠L)(ha0:h₀.get? a=none)(hna:∀p∈news,p.1≠a)
  (h2:2<=vs.length) (hz:vs.length<=sizeLine) (nd:vs.Nodup)
  (h:∀e1 h',Fr h₀ L h' m->News h₀ L h' ((a,afC "list" #[] e1)::news)->
   KD prog w A vs { s with heap:=h' } λp=>PySem.W.KasFin h₀ L m a e1 (p.map λi=>vs.getD i Value.none) (λs3=>P (.done (.ret .none)) s3) { s with heap:=h' }):
  afH (afT prog w) A (af8.«list.sort» ⟨[.ref a],[]⟩) P E s:=by
 have same:=afS s.heap a (afA λ_=>(#[]:Array Value));obtain⟨e1,ho1⟩:∃e1,(s.heap.update a (afA λ_=>(#[]:Array Value))).get? a=some (afC "list" #[] e1):=⟨_,agR ho λ_=>#[]⟩
 obtain⟨hp,hhp⟩:∃hp,hp=((s.heap.update a (afA λ_=>(#[]:Array Value))).push (afC "tuple" vs.toArray 0)).push (afC "list" #[] 0):=⟨_,rfl⟩
 have F3:Fr h₀ L hp m:=by rw[hhp];exact((PySem.W.kas_fr F same haL ha0).push _).push _
 have N3:News h₀ L hp ((a,afC "list" #[] e1)::news):=by
  rw[hhp];intro p hp;rcases mem_cons.mp hp with rfl|hp
  ·exact⟨aeT _ (aeT _ ho1),haL,ha0⟩
  ·exact(PySem.W.kas_news N same hna).grown (λb x e=>aeT _ (aeT _ e)) p hp
 obtain⟨κ,lt,S,hκ,hlt,hfin⟩:=(h e1 hp F3 N3).need;rw[list_sort_plain];refine aeS (listItems_at ho rfl ?_);refine aeS (listUpdate_at ho rfl ?_ (by rw[size_toArray];exact hz) (ae2 _));refine aeS (seqEpoch_at ho1 rfl ?_);refine aeS (wpAny_newTuple ?_ (by show vs.length<=_;exact hz));refine aeS (ahN ?_ (ae2 _));refine af2 ?_;show afH (afT prog w) A _ P E { s with heap:=((s.heap.update a (afA λ_=>(#[]:Array Value))).push (afC "tuple" vs.toArray 0)).push (afC "list" #[] 0) }
 rw[<-hhp];dsimp only;have hn2:¬vs.toArray.size<2:=by rw[size_toArray];lia
 rw[if_neg hn2,if_neg hn2];refine aeS (agS (hκ (λk s'=>k=κ/\s'={ s with heap:=hp }) ⟨rfl,rfl⟩) (λk s0 hk=>?_) λ_ _ x=>x.elim);obtain⟨rfl,rfl⟩:=hk;have pz:(pairsOf vs).size=vs.length:=pairsOf_size vs
 have C:dA prog w A { s with heap:=hp } k (jG lt vs) (· ∈(pairsOf vs).toList):=λx y hx hy Q q=>by
  rw[uN]at hx hy;obtain⟨i,hi,rfl⟩:=mem_map.mp hx;obtain⟨j,hj,rfl⟩:=mem_map.mp hy;have hi:=mem_range.mp hi;have hj:=mem_range.mp hj;rw[nK nd hi,nK nd hj,Q3 S hi hj]at q;exact hlt i j hi hj Q q
 have rm:(pairsOf vs).toList.map (jG lt vs)=(range vs.length).map (rk lt vs.length):=by
  rw[uN,map_map];exact List.map_congr_left λi hi=>nK nd (mem_range.mp hi) _
 have ndr:((pairsOf vs).toList.map (jG lt vs)).Nodup:=by
  rw[rm,ah4,pairwise_map];exact(nodup_range (n:=vs.length)).imp_of_mem λhi hj ne e=>ne (Q2 S (mem_range.mp hi) (mem_range.mp hj) e)
 have run:=LW (E:=E) (a₀:=pairsOf vs) (st:=SortSt.mk' k (pairsOf vs) #[] 7 none) (Q:=λ_ st'=>Iv k (pairsOf vs) st'/\c6 (jG lt vs) (afN st') 0 (pairsOf vs).size) C ndr ⟨Array.Perm.refl _,rfl,rfl⟩ (by rw[pz];lia) rfl λst' V sn=>⟨V,sn⟩
 refine aeS (agS run ?_ λ_ _ e=>e);rintro⟨⟨⟩,st'⟩ s' ⟨rfl,V,sn⟩;dsimp only;obtain⟨p,pp,pe⟩:=UE (ag5.mp V.perm) _ (uN vs);have plt:∀i∈p,i<vs.length:=λi hi=>mem_range.mp (pp.mem_iff.mp hi);have pl:p.length=vs.length:=by rw[pp.length_eq,length_range]
 have up:p.Pairwise λi j=>lt i j=true:=by
  rw[pairwise_iff_getElem];intro i j hi hj hij
  have ei:∀x(hx:x<p.length),jG lt vs (it (afN st') x)=rk lt vs.length p[x]:=λx hx=>by
   have hx':x<(afN st').size:=by rw[V.size,pz,<-pl];exact hx
   rw[e8 hx',<-Array.getElem_toList hx']
   have e:(afN st').toList[x]'(by simpa using hx')=(vs.getD p[x] Value.none,vs.getD p[x] Value.none):=by
    rw[List.getElem_of_eq pe,getElem_map]
   rw[e,nK nd (plt _ (getElem_mem hx))]
  have:=sn i j (ae2 _) (by lia) (by rw[pz,<-pl];exact hj);rw[ei i hi,ei j hj]at this;have a1:=plt _ (getElem_mem hi);have a2:=plt _ (getElem_mem hj);have pn:p.Nodup:=pp.nodup_iff.mpr nodup_range;have ne:p[i]≠p[j]:=λe=>by have:=(getElem_inj pn).mp e;lia
  cases e:lt p[i] p[j]with
  |true=>rfl
  |false=>have:=lE S a2 a1 (S.tot _ _ a1 a2 ne e);lia
 obtain⟨news',g,F',N',U,kk⟩:=hfin p pp up;obtain⟨pre,post,e0,hg,x1,x2⟩:=U.split;rw[e0]at N';have na:=N' (a,afC "list" #[] e1) (mem_append_right _ (.head _))
 have hout:(afN st').map (·.2)=List.toArray (p.map λi=>vs.getD i Value.none):=by
  apply Array.toList_inj.mp;rw[Array.toList_map,pe,map_map];rfl
 have hsz:(List.toArray (p.map λi=>vs.getD i Value.none)).size=vs.length:=by rw[size_toArray,length_map,pl]
 rw[hout];have s2:=afS hp a (afA λ_=>List.toArray (p.map λi=>vs.getD i Value.none));obtain⟨c2,hc2⟩:∃c2,(hp.update a (afA λ_=>List.toArray (p.map λi=>vs.getD i Value.none))).get? a=some (afC "list" (List.toArray (p.map λi=>vs.getD i Value.none)) c2):=⟨_,agR na.1 λ_=>List.toArray (p.map λi=>vs.getD i Value.none)⟩
 refine aeS (seqEpoch_at na.1 rfl ?_);refine aeS (listUpdate_at na.1 rfl ?_ (ae2 _) (afO (Nat.le_of_eq hsz) (ahY hz)));rw[V.ok];simp only[bne_self_eq_false,af1,if_false];refine aeX (kk _ c2 (PySem.W.kas_fr F' s2 na.2.1 na.2.2) ?_);rw[hg];exact PySem.W.news_set N' x1 x2 s2 hc2
theorem O9{l:Addr}{Q:Value->aeV->Prop}(F:Fr h₀ L s.heap m)(N:News h₀ L s.heap news)(hl:Col prog w s l vs)(h2:2<=vs.length)(hz:vs.length<=sizeLine)(nd:vs.Nodup)
  (h:∀D e1 h',Fr h₀ L h' m->News h₀ L h' ((D,afC "list" #[] e1)::news)->(∀q∈news,q.1<D)->
   KD prog w A.in1.in1 vs { s with heap:=h' } λp=>PySem.W.KasFin h₀ L m D e1 (p.map λi=>vs.getD i Value.none) (λs3=>Q (.ref D) s3) { s with heap:=h' }):
  afH (afT prog w) A (call (.builtin "sorted") [.ref l]) Q E s:=by
 refine ah9 kind_sorted plain_sorted entry_sorted (args_sorted1 _) ?_;unfold af8.«sorted»;refine aeS (m:=checkCount "sorted" 1 1 _) (aeX ?_);refine aeS (hl _ _ _ ?_);refine aeS (ahN ?_ hz)
 have hsz:((s.heap.push (afC "list" #[] 0)).update s.heap.objs.size (afA (· ++vs.toArray))).objs.size=s.heap.objs.size+1:=by
  rw[ag3,size_push']
 have hoL:(((s.heap.push (afC "list" #[] 0)).update s.heap.objs.size (afA (· ++vs.toArray))).push (afC "list" vs.toArray 0)).get? (s.heap.objs.size+1)=some (afC "list" vs.toArray 0):=by
  rw[<-hsz];exact aeZ _ rfl
 have keep:∀b o,s.heap.get? b=some o->(((s.heap.push (afC "list" #[] 0)).update s.heap.objs.size (afA (· ++vs.toArray))).push (afC "list" vs.toArray 0)).get? b=some o:=λb o q=>by
  have hlt:b<s.heap.objs.size:=ae1 q;rw[agB _ _ _ (by rw[hsz];exact ae7 (afZ hlt)),ahK _ _ _ _ (ae7 hlt),agB _ _ _ (ae7 hlt)];exact q
 have hL:L<s.heap.objs.size:=F.ns.lt;show afH _ _ _ _ _ { s with heap:=((s.heap.push (afC "list" #[] 0)).update s.heap.objs.size (afA (· ++vs.toArray))).push (afC "list" vs.toArray 0) }
 rw[hsz];refine aeS (af2 (ahB slot_list_sort ⟨_,hoL,rfl⟩ entry_list_sort ?body (args_list_sort _)))
 case body=>
  refine acU (s:={ s with heap:=((s.heap.push (afC "list" #[] 0)).update s.heap.objs.size (afA (· ++vs.toArray))).push (afC "list" vs.toArray 0) })
   (F.kept keep) (N.grown keep) hoL (Nat.ne_of_gt (afZ hL)) (Heap.get?_none_of_le (afO F.above (ahY (agP hL))))
   (λp hp=>ae7 (afZ (ae1 (N p hp).1))) h2 hz nd λe1 h' F' N'=>?_
  obtain⟨κ,lt,S,hκ,hlt,hfin⟩:=(h _ e1 h' F' N' λq hq=>afZ (ae1 (N q hq).1)).need;exact⟨κ,lt,S,hκ,hlt,λp pp up=>(hfin p pp up).mono λs3 hq=>⟨_,rfl,aeX ⟨_,rfl,hq⟩⟩⟩
end
end TS
namespace L2
open PySem PySem.Spec PyProof.Rows
section
variable{X:Cx}
end
section
variable{H:Hp}{Q:VK}{K:PySem.W.Frag}
end
noncomputable def kW(H:Hp)(h:Heap):Prop:=∀a xs,H a=some (.tup xs)->∃its,Vals xs its/\IsTup h a its.toArray
section
variable{H:Hp}{h:Heap}
mutual
theorem Is.readsT(T:kW H h):∀{v:V}{d:PyData}{u:Value},Is H v d->bO d=true->RelV v u->∃as,Reads h u d as
 |_,_,_,.non,_,r=>by cases(show _=Value.none from r);exact⟨_,.none⟩
 |_,_,_,.bl b,_,r=>by cases(show _=aiK b from r);exact⟨_,.bool b⟩
 |_,_,_,.int i,_,r=>by obtain⟨t,rfl⟩:=r;exact⟨_,.int i t⟩
 |_,_,_,.str x,_,r=>by obtain⟨t,rfl⟩:=r;exact⟨_,.str x t⟩
 |_,_,_,.tup (a:=a) e hs,hn,r=>by
  cases(show _=af4 a from r);obtain⟨its,rv,⟨o,h1,h2,n,h3⟩⟩:=T _ _ e;obtain⟨as,ra⟩:=IsAll.readsT T hs (by simpa[bO]using hn) rv
  exact⟨_,.tuple h1 h2 h3 (by simpa using ra)⟩
 |_,_,_,.lst e hs,hn,r=>by cases hn
theorem IsAll.readsT(T:kW H h):∀{vs:List V}{ds:List PyData}{us:List Value},IsAll H vs ds->bA ds=true->Vals vs us->∃as,ReadsAll h us ds as
 |_,_,_,.nil,_,.nil=>⟨_,.nil⟩
 |_,_,_,.cons h1 t1,hn,.cons r1 q1=>by
  rw[bA,afB]at hn;obtain⟨as,ra⟩:=Is.readsT T h1 hn.1 r1;obtain⟨bs,rb⟩:=IsAll.readsT T t1 hn.2 q1;exact⟨_,.cons ra rb⟩
end
mutual
theorem Is.fn:∀{v:V}{d e:PyData},bO d=true->bO e=true->Is H v d->Is H v e->d=e
 |_,_,_,_,_,.non,.non=>rfl
 |_,_,_,_,_,.bl _,.bl _=>rfl
 |_,_,_,_,_,.int _,.int _=>rfl
 |_,_,_,_,_,.str _,.str _=>rfl
 |_,_,_,n1,n2,.tup e1 h1,.tup e2 h2=>by
  rw[e1]at e2;cases e2
  rw[IsAll.fn (by simpa[bO]using n1) (by simpa[bO]using n2) h1 h2]
 |_,_,_,n1,n2,.tup e1 h1,.lst e2 h2=>by cases n2
 |_,_,_,n1,n2,.lst e1 h1,_=>by cases n1
theorem IsAll.fn:∀{vs:List V}{ds es:List PyData},bA ds=true->bA es=true->IsAll H vs ds->IsAll H vs es->ds=es
 |_,_,_,_,_,.nil,.nil=>rfl
 |_,_,_,n1,n2,.cons h1 t1,.cons h2 t2=>by
  rw[bA,afB]at n1 n2;rw[Is.fn n1.1 n2.1 h1 h2,IsAll.fn n1.2 n2.2 t1 t2]
end
end
section
variable{H:Hp}{s:aeV}
theorem YS(T:kW H s.heap){A:afU}{k:Nat}(hA:A.units+k+3<cLine)(one:∀(d e:PyData)(x y:V)(u v:Value),Is H x d->Is H y e->RelV x u->RelV y v->fB d e=true->d.canLay0=true->e.canLay0=true->bO d=true->bO e=true->d.depth<=k->kY A.in1 s u v (dI d e)):
  ∀(ds es:List PyData)(xs ys:List V)(us vs:List Value),IsAll H xs ds->IsAll H ys es->Vals xs us->Vals ys vs->cY ds es=true->agA ds=true->agA es=true->bA ds=true->bA es=true->afI ds<=k->hE A.in1 s us vs (eY ds es):=by
 intro ds
 induction ds with
 |nil=>
  intro es xs ys us vs h1 h2 r1 r2 hc o1 o2 _ _ hz;cases h1;cases r1
  cases es with
  |nil=>cases h2;cases r2;exact .nn
  |cons e es=>cases h2 with|cons _ _=>cases r2 with|cons _ _=>exact .nc
 | cons d ds ih=>
  intro es xs ys us vs h1 h2 r1 r2 hc o1 o2 n1 n2 hz
  cases h1 with
  |cons i1 t1=>
  cases r1 with
  |cons q1 s1=>
  cases es with
  |nil=>cases h2;cases r2;exact .cn
  | cons e es=>
   cases h2 with
   |cons i2 t2=>
   cases r2 with
   |cons q2 s2=>
   rw[agA,afB]at o1 o2;rw[bA,afB]at n1 n2;rw[afI]at hz;have hd1:d.depth<=k:=afO (Nat.le_max_left _ _) hz;have hd2:afI ds<=k:=afO (Nat.le_max_right _ _) hz;obtain⟨as,ra⟩:=i1.readsT T n1.1 q1;obtain⟨bs,rb⟩:=i2.readsT T n2.1 q2;have he:=SeqAt.eqAt_reads d e A.in1 s _ _ as bs ra rb o1.1 o2.1 (by show A.units+1+_<_;lia);rw[cY]at hc;rw[eY];by_cases g:agN d e=true
   ·rw[if_pos g]at hc ⊢;rw[g]at he;exact .eq he (ih es _ _ _ _ t1 t2 s1 s2 hc o1.2 o2.2 n1.2 n2.2 hd2)
   ·rw[if_neg g]at hc ⊢;rw[Bool.not_eq_true]at g;rw[g]at he;exact .ne he (one d e _ _ _ _ i1 i2 q1 q2 hc o1.1 o2.1 n1.1 n2.1 hd1)
theorem YT(T:kW H s.heap):∀(k:Nat)(d e:PyData)(x y:V)(u v:Value)(A:afU),Is H x d->Is H y e->RelV x u->RelV y v->fB d e=true->d.canLay0=true->e.canLay0=true->bO d=true->bO e=true->d.depth<=k->A.units+k+2<cLine->kY A s u v (dI d e):=by
 intro k
 induction k with
 | zero=>
  intro d e x y u v A hx hy ru rv hc od oe _ _ hk hA;rcases IV hc with⟨i,j,rfl,rfl⟩|⟨ds,es,rfl,rfl,_⟩
  ·exact G4 hx hy ru rv
  ·rw[wB]at hk
   exact absurd hk (Nat.not_succ_le_zero _)
 | succ k ih=>
  intro d e x y u v A hx hy ru rv hc od oe nd ne hk hA;rcases IV hc with⟨i,j,rfl,rfl⟩|⟨ds,es,rfl,rfl,hcs⟩
  ·exact G4 hx hy ru rv
  ·rw[wB]at hk
   cases hx with
   |tup ea ha=>
   cases hy with
   |tup eb hb=>
   obtain rfl:=(show u=af4 _ from ru)
   obtain rfl:=(show v=af4 _ from rv)
   obtain⟨its,r1,p1⟩:=T _ _ ea;obtain⟨its2,r2,p2⟩:=T _ _ eb;rw[dI];rw[aiM]at od oe;rw[bO]at nd ne;refine YO p1 p2 (by lia) (YS (k:=k) T (by lia) (λd e x y u v h1 h2 h3 h4 h5 h6 h7 h9 h10 h8=>ih d e x y u v A.in1 h1 h2 h3 h4 h5 h6 h7 h9 h10 h8 (by show A.units+1+k+2<_;lia)) ds es _ _ _ _ ha hb r1 r2 hcs od oe nd ne (Nat.le_of_succ_le_succ hk))
theorem ZM{prog:afL}{w:agC}{A:afU}(T:kW H s.heap)(hA:A.units+50<cLine){b:Bool}{Q:Bool->aeV->Prop}:
  ∀(ds es:List PyData)(xs ys:List V)(us vs:List Value)(i:Nat),IsAll H xs ds->IsAll H ys es->Vals xs us->Vals ys vs->cY ds es=true->agA ds=true->agA es=true->bA ds=true->bA es=true->afI ds<=40->
   (i=0->∀d e dr er,ds=d::dr->es=e::er->(∃m n,d=.int m/\e=.int n)\/agN d e=true)->Q (eY ds es) s->PySem.W.KatLex prog w A b (decide (ds.length<es.length)) Q (us.zip vs) i s:=by
 intro ds
 induction ds with
 |nil=>
  intro es xs ys us vs i h1 h2 r1 r2 hc o1 o2 _ _ hz hh q;cases h1;cases r1
  cases es with
  |nil=>cases h2;cases r2;exact q
  |cons e es=>cases h2 with|cons _ _=>cases r2 with|cons _ _=>exact q
 | cons d ds ih=>
  intro es xs ys us vs i h1 h2 r1 r2 hc o1 o2 n1 n2 hz hh q
  cases h1 with
  |cons i1 t1=>
  cases r1 with
  |cons q1 s1=>
  cases es with
  |nil=>cases h2;cases r2;exact q
  | cons e es=>
   cases h2 with
   |cons i2 t2=>
   cases r2 with
   |cons q2 s2=>
   rw[agA,afB]at o1 o2;rw[bA,afB]at n1 n2;rw[afI]at hz;have hd1:d.depth<=40:=afO (Nat.le_max_left _ _) hz;have hd2:afI ds<=40:=afO (Nat.le_max_right _ _) hz;obtain⟨as,ra⟩:=i1.readsT T n1.1 q1;obtain⟨bs,rb⟩:=i2.readsT T n2.1 q2;have he:=SeqAt.eqAt_reads d e A s _ _ as bs ra rb o1.1 o2.1 (by lia);rw[cY]at hc;rw[eY]at q;rw[zip_cons_cons];refine PySem.W.kat_cons (he prog w _ _ ?_);by_cases g:agN d e=true
   ·rw[if_pos g]at hc q;rw[g];have:=ih es _ _ _ _ (i+1) t1 t2 s1 s2 hc o1.2 o2.2 n1.2 n2.2 hd2 (λz=>by lia) q;rw[show decide ((d::ds).length<(e::es).length)=decide (ds.length<es.length) by simp];exact PySem.W.kat_yes this
   ·rw[if_neg g]at hc q;rw[Bool.not_eq_true]at g;rw[g];refine PySem.W.kat_no ?_;have lt:=YT T 40 d e _ _ _ _ A i1 i2 q1 q2 hc o1.1 o2.1 n1.1 n2.1 hd1 (by lia)
    cases hb:(b&&i==0) with
    | true=>
     have i0:i=0:=by
      rw[afB]at hb;simpa using hb.2
     rcases hh i0 d e ds es rfl rfl with⟨m,n,rfl,rfl⟩|z
     ·cases i1;cases i2;obtain⟨t,rfl⟩:=q1;obtain⟨t2,rfl⟩:=q2;rw[dI]at q;exact oneLt_int q
     ·rw[g]at z;cases z
    |false=>exact PySem.W.kat_one _ _ (lt prog w _ _ (show PySem.W.BoolBack Q (.bool (dI d e)) s from q))
end
noncomputable def KG(ds:List PyData):Prop:=(∀d∈ds,∃n r,d=.tuple (.int n::r))\/∃x,∀d∈ds,∃r,d=.tuple (.str x::r)
noncomputable def nQ(K:PySem.W.Frag):List V->Hp->VK->Prop:=λxs H Q=>∃(p:Addr)(vs:List V)(ds:List PyData)(key:PyData->List Int),xs=[.ref p]/\(SqL K H p vs\/SqT K H p vs)/\IsAll H vs ds/\KG ds/\(∀d∈ds,fL d/\bO d=true)/\
 (∀d∈ds,∀e∈ds,fB d e=true/\dI d e=HT.lexLt (key d) (key e))/\(ds.map key).Nodup/\
 ∀(l:Addr)(vs':List V)(ds':List PyData),H l=none->IsAll H vs' ds'->ds'.Perm ds->ds'.Pairwise (λa b=>HT.lexLt (key a) (key b)=true)->Q (.ref l) (upd H l (.lst vs'))
section
variable{X:Cx}
theorem abZ(hu:X.A.units+64<cLine):CallR X (.builtin "sorted") (nQ X.K):=by
 intro pins s σ H xs us Q I r h;obtain⟨p,vs,ds,key,rfl,hq,ha,hH,hk,hc,hnd,q⟩:=h;obtain⟨u,rfl,rx⟩:=Vals.one r;cases(show u=af4 p from rx)
 obtain⟨its,rv,hl,hz⟩:∃its,Vals vs its/\Col X.prog X.w s p its/\vs.length<=sizeLine:=by
  rcases hq with hq|hq
  ·obtain⟨its,rv,pl,hz⟩:=I.list hq;exact⟨its,rv,Col.list pl.isList (by rw[<-rv.length];exact hz),hz⟩
  ·obtain⟨its,rv,pl,hz⟩:=I.tuple hq;exact⟨its,rv,Col.tup pl (by rw[<-rv.length];exact hz),hz⟩
 have e1:vs.length=ds.length:=ha.length;have e2:its.length=ds.length:=by rw[<-rv.length,e1]
 by_cases h2:its.length<2
 ·refine qX hl h2 λD h' n hD hkeep ho=>?_;refine⟨.ref D,_,I.laid (t':=s.toks) (o:=.lst vs) hkeep hD ⟨hz,its,n,rv,ho⟩,rfl,q D vs ds (I.hok.fresh hD) ha (ah6.refl _) ?_⟩
  match ds,e2,h2 with
  |[],_,_=>exact .nil
  |[a],_,_=>exact pairwise_singleton _ _
  |a::b::r,e2,h2=>simp at e2;lia
 ·obtain⟨m,F⟩:=I.fr
  have atD:∀(i:Nat)(hi:i<ds.length),∃v u,vs[i]? =some v/\its[i]? =some u/\Is H v ds[i]/\RelV v u:=λi hi=>by
   obtain⟨v,ev,iv⟩:=ha.get (i:=i) (d:=ds[i]) (aeY hi);obtain⟨u,eu,ru⟩:=rv.get ev;exact⟨v,u,ev,eu,iv,ru⟩
  have ndi:its.Nodup:=by
   rw[ah4,pairwise_iff_getElem];intro i j hi hj hij e;have hi':i<ds.length:=by lia
   have hj':j<ds.length:=by lia
   obtain⟨v,u,ev,eu,iv,ru⟩:=atD i hi';obtain⟨v',u',ev',eu',iv',ru'⟩:=atD j hj';rw[aeY hi]at eu;rw[aeY hj]at eu';have ee:u=u':=by rw[<-agK eu,<-agK eu',e]
   have tup:∀(d:PyData)(v:V)(u:Value),d∈ds->Is H v d->RelV v u->∃a,v=.ref a/\u=.ref a:=λd v u hd iv ru=>by
    have:∃r,d=.tuple r:=by
     rcases hH with z|⟨x,z⟩
     ·obtain⟨n,r,e⟩:=z d hd;exact⟨_,e⟩
     ·obtain⟨r,e⟩:=z d hd;exact⟨_,e⟩
    obtain⟨r,rfl⟩:=this
    cases iv with
    |tup _ _=>exact⟨_,rfl,ru⟩
   obtain⟨a,rfl,rfl⟩:=tup _ _ _ (getElem_mem hi') iv ru;obtain⟨a',rfl,rfl⟩:=tup _ _ _ (getElem_mem hj') iv' ru';cases ee;have ed:=Is.fn (hk _ (getElem_mem hi')).2 (hk _ (getElem_mem hj')).2 iv iv';have:=pairwise_iff_getElem.mp hnd i j (by simpa using hi') (by simpa using hj') hij;simp only[getElem_map]at this;exact this (by rw[ed])
  refine TS.O9 F (news:=jX X.base s.heap X.env.locals) uW hl (by lia) (by rw[<-rv.length];exact hz) ndi λD e0 h' F' N' hD=>?_
  have hkeep:∀b o,b≠X.env.locals->s.heap.get? b=some o->h'.get? b=some o:=λb o hb e=>by
   cases qb:X.base.get? b with
   |some u=>
    have:=I.bk b u qb;rw[e]at this;cases this
    exact F'.keep b _ qb
   |none=>exact(N' (b,o) (mem_cons_of_mem _ (iB hb qb e))).1
  have TT:kW H ({ s with heap:=h' }:aeV).heap:=λa xs ea=>by
   obtain⟨zs,rz,⟨o,h1,h2,n,h3⟩,_⟩:=I.tuple (SqT.of (K:=X.K) ea);have hL:a≠X.env.locals:=λz=>by rw[z,I.free]at ea;cases ea
   exact⟨zs,rz,o,hkeep a o hL h1,h2,n,h3⟩
  have item:∀(i:Nat)(hi:i<ds.length),∃(a:Addr)(xs:List V)(es:List PyData)(o:Obj)(zs:List Value)(n:Nat),its.getD i Value.none=.ref a/\ds[i]=.tuple es/\IsAll H xs es/\h'.get? a=some o/\o.cls=.type "tuple"/\o.data=.seq zs.toArray n/\Vals xs zs:=λi hi=>by
   obtain⟨v,u,ev,eu,iv,ru⟩:=atD i hi
   have:∃r,ds[i]=.tuple r:=by
    rcases hH with z|⟨x,z⟩
    ·obtain⟨n,r,e⟩:=z _ (getElem_mem hi);exact⟨_,e⟩
    ·obtain⟨r,e⟩:=z _ (getElem_mem hi);exact⟨_,e⟩
   obtain⟨es,ee⟩:=this;rw[ee]at iv
   cases iv with
   |@tup a xs _ ea hxs=>
    obtain⟨zs,rz,o,g1,g2,n,g3⟩:=TT a xs ea;refine⟨a,xs,es,o,zs,n,?_,ee,hxs,g1,g2,g3,rz⟩;rw[ae9,eu];exact ru
  obtain⟨T,fs,tups,hfl,hT,hTT⟩:∃(T:String)(fs:List Value),ahR h' its fs/\fs.length=its.length/\(∀v∈fs,typeOf v=pure (agH T))/\(agH T==agH T)=true:=by
   have go:∀T:String,(∀(es:List PyData)(xs:List V)(zs:List Value),.tuple es∈ds->IsAll H xs es->Vals xs zs->∃f,zs.toArray[0]? =some f/\typeOf f=pure (agH T))->
     ∃(fs:List Value),ahR h' its fs/\fs.length=its.length/\(∀v∈fs,typeOf v=pure (agH T)):=λT hf=>
    o4 its λi u eu=>by
     have hi:i<ds.length:=by rw[<-e2];exact(ae3.mp eu).1
     obtain⟨a,xs,es,o,zs,n,g1,ge,gx,g2,g3,g4,g5⟩:=item i hi;rw[ae9,eu]at g1;obtain⟨f,f1,f2⟩:=hf es xs zs (by rw[<-ge];exact getElem_mem hi) gx g5;exact⟨a,o,zs.toArray,n,f,g1,g2,g3,g4,f1,f2⟩
   rcases hH with z|⟨x,z⟩
   ·obtain⟨fs,a,b,c⟩:=go "int" λes xs zs hm ix rz=>by
     obtain⟨n,r,e⟩:=z _ hm;cases e
     cases ix with
     | cons i1 t1=>
      cases i1
      cases rz with
      |cons r1 _=>
       obtain⟨t,rfl⟩:=r1;exact⟨_,rfl,rfl⟩
    exact⟨"int",fs,a,b,c,rfl⟩
   ·obtain⟨fs,a,b,c⟩:=go "str" λes xs zs hm ix rz=>by
     obtain⟨r,e⟩:=z _ hm;cases e
     cases ix with
     | cons i1 t1=>
      cases i1
      cases rz with
      |cons r1 _=>
       obtain⟨t,rfl⟩:=r1;exact⟨_,rfl,rfl⟩
    exact⟨"str",fs,a,b,c,rfl⟩
  have S:kX (λi j=>HT.lexLt (key (ds.getD i .none)) (key (ds.getD j .none))) its.length:=⟨λi j k _ _ _ a b=>lT a b,λi j hi hj hne a=>lU (λz=>hne ?_) a,λi j _ _ a=>iY a⟩
  ·refine⟨_,_,S,λQ q=>PySem.W.kat_kind tups (by lia) (λv hv=>PySem.W.Looks.of_pure (hT v hv)) hTT q,λi j hi hj C hC=>?_,λpq pm up=>?_⟩;rw[e2]at hi hj
   ·show afH _ _ (keyLt' _ (its.getD i Value.none) (its.getD j Value.none)) C _ _;obtain⟨a,xs,es,o,zs,n,g1,ge,gx,g2,g3,g4,g5⟩:=item i hi;obtain⟨a',xs',es',o',zs',n',g1',ge',gx',g2',g3',g4',g5'⟩:=item j hj;rw[g1,g1'];refine PySem.W.kat_lt g2 g4 g2' g4' ?_
    have ez:decide (zs.toArray.size<zs'.toArray.size)=decide (es.length<es'.length):=by
     have l1:=g5.length;have l2:=g5'.length;rw[gx.length]at l1;rw[gx'.length]at l2;rw[size_toArray,size_toArray,l1,l2]
    rw[ez];have mi:=getElem_mem hi;have mj:=getElem_mem hj;have cij:=hc _ mi _ mj;have ki:=hk _ mi;have kj:=hk _ mj;rw[ge]at ki;rw[ge']at kj;have e1':ds.getD i .none=ds[i]:=by simp[hi]
    have e2':ds.getD j .none=ds[j]:=by simp[hj]
    have hC':C (HT.lexLt (key ds[i]) (key ds[j])) { s with heap:=h' }:=by rw[<-e1',<-e2'];exact hC
    rw[<-cij.2,ge,ge',dI]at hC';rw[ge,ge',fB]at cij;have o1:=ki.1.1;have o2:=kj.1.1;have d1:=ki.1.2;rw[aiM]at o1 o2;rw[wB]at d1;have n1:=ki.2;have n2:=kj.2;rw[bO]at n1 n2;refine ZM (s:={ s with heap:=h' }) TT (show X.A.units+1+1+50<cLine by lia) es es' xs xs' zs zs' 0 gx gx' g5 g5' cij.1 o1 o2 n1 n2 (by lia) (λ_ d e dr er ed ee=>?_) hC';rcases hH with z|⟨x,z⟩
    ·obtain⟨m,r,f1⟩:=z _ mi;obtain⟨m',r',f2⟩:=z _ mj;rw[ge,ed]at f1;rw[ge',ee]at f2;cases f1;cases f2;exact .inl ⟨_,_,rfl,rfl⟩
    ·obtain⟨r,f1⟩:=z _ mi;obtain⟨r',f2⟩:=z _ mj;rw[ge,ed]at f1;rw[ge',ee]at f2;cases f1;cases f2;exact .inr (by simp[agN])
   ·rw[e2]at pm;refine PySem.W.KasFin.intro F' N' (.head λx hx=>ae7 (hD x hx)) λh'' c F'' N''=>?_
    have hnD:s.heap.get? D=none:=by
     cases qd:s.heap.get? D with
     |none=>rfl
     |some o=>
      have hh:=N' (D,_) mem_cons_self;have hm:=hD (D,o) (iB hh.2.1 hh.2.2 qd);exact absurd hm (agJ _)
    have hkeep2:∀b o,b≠X.env.locals->s.heap.get? b=some o->h''.get? b=some o:=λb o hb e=>by
     cases qb:X.base.get? b with
     |some u=>
      have:=I.bk b u qb;rw[e]at this;cases this
      exact F''.keep b _ qb
     |none=>exact(N'' (b,o) (mem_cons_of_mem _ (iB hb qb e))).1
    have hlt:∀x∈pq,x<ds.length:=λx hx=>mem_range.mp (pm.mem_iff.mp hx)
    have rv2:∀l:List Nat,(∀x∈l,x<ds.length)->Vals (l.map λi=>vs.getD i .non) (l.map λi=>its.getD i Value.none)/\IsAll H (l.map λi=>vs.getD i .non) (l.map λi=>ds.getD i .none):=λl=>by
     induction l with
     |nil=>exact λ_=>⟨.nil,.nil⟩
     |cons x l ih=>
      intro hx;obtain⟨ih1,ih2⟩:=ih λy hy=>hx y (mem_cons_of_mem _ hy);have hxn:=hx x mem_cons_self;obtain⟨v,u,ev,eu,iv,ru⟩:=atD x hxn;have a1:vs.getD x .non=v:=by rw[ae9,ev];rfl
      have a2:its.getD x Value.none=u:=by rw[ae9,eu];rfl
      have a3:ds.getD x .none=ds[x]:=by simp[hxn]
      simp only[map_cons,a1,a2,a3];exact⟨.cons ru ih1,.cons iv ih2⟩
    obtain⟨rv3,ia3⟩:=rv2 pq hlt;have ho:=(N'' (D,_) mem_cons_self).1;have hpl:pq.length=ds.length:=by rw[pm.length_eq,length_range]
    refine⟨.ref D,_,I.laidBut (t':=s.toks) hkeep2 F.ns F''.ns hnD rv3 (by rw[length_map,hpl,<-e1];exact hz) ho,rfl,q D _ _ (I.none_of hnD) ia3 ?_ ?_⟩
    ·have:=pm.map λi=>ds.getD i .none;rw[vB]at this;exact this
    ·rw[pairwise_map];exact up
  ·rw[e2]at hi hj;have e1':ds.getD i .none=ds[i]:=by simp[hi]
   have e2':ds.getD j .none=ds[j]:=by simp[hj]
   rw[e1',e2']at z;have:=(getElem_inj (i:=i) (j:=j) (h₀:=by simpa using hi) (h₁:=by simpa using hj) hnd).mp (by simpa using z);exact this
theorem ZQ(K:PySem.W.Frag)(hu:X.A.units+64<cLine)(h:X.K=K:=by rfl):CallR X (.builtin "sorted") (nQ K):=h▸abZ hu
end
section
variable{H:Hp}{Q:VK}{K:PySem.W.Frag}
theorem RI{p:Addr}{vs:List V}{ds:List PyData}(key:PyData->List Int)(e:H p=some (.lst vs))(ha:IsAll H vs ds)(hH:KG ds)(hk:∀d∈ds,fL d/\bO d=true)(hc:∀d∈ds,∀e∈ds,fB d e=true/\dI d e=HT.lexLt (key d) (key e))(nd:(ds.map key).Nodup)
  (h:∀(l:Addr)(vs':List V)(ds':List PyData),H l=none->IsAll H vs' ds'->ds'.Perm ds->ds'.Pairwise (λa b=>HT.lexLt (key a) (key b)=true)->Q (.ref l) (upd H l (.lst vs'))):nQ K [.ref p] H Q:=⟨p,vs,ds,key,rfl,.inl (SqL.of e),ha,hH,hk,hc,nd,h⟩
end
noncomputable def g9(t:afQ):Prop:=t.place.toList.Pairwise (· < ·)/\t.dummies=#[]
structure LS (xs:Array Nat) (j k:Nat):Prop where
 le:k<=xs.size
 lo:∀i,i<k->xs.getD i j<j
 hi:∀i,k<=i->i<xs.size->j<=xs.getD i j
theorem mW{xs:Array Nat}(h:xs.toList.Pairwise (· < ·)){i k j:Nat}(hik:i<k)(hk:k<xs.size):xs.getD i j<xs.getD k j:=by
 have:=pairwise_iff_getElem.mp h i k (by simpa using Nat.lt_trans hik hk) (by simpa using hk) hik;have e1:xs.getD i j=xs[i]'(Nat.lt_trans hik hk):=by simp[agV,Nat.lt_trans hik hk]
 have e2:xs.getD k j=xs[k]'hk:=by simp[agV,hk]
 rw[e1,e2];simpa using this
theorem yM{xs:Array Nat}(h:xs.toList.Pairwise (· < ·))(j:Nat):∀(f lo hi:Nat),hi-lo<=f->lo<=hi->hi<=xs.size->(∀i,i<lo->xs.getD i j<j)->(∀i,hi<=i->i<xs.size->j<=xs.getD i j)->LS xs j (afQ.below.go xs j f lo hi)
 |0,lo,hi,hf,h1,h2,h3,h4=>by
  have:lo=hi:=by lia
  subst this
  exact⟨h2,h3,h4⟩
 | f + 1,lo,hi,hf,h1,h2,h3,h4=>by
  unfold afQ.below.go;by_cases g:lo<hi
  ·rw[if_pos g];dsimp only;have hm:(lo+hi)/2<hi:=by lia
   have hm2:lo<=(lo+hi)/2:=by lia
   split
   ·rename_i g2;refine yM h j f _ _ (by lia) (by lia) h2 (λi hi'=>?_) h4;by_cases e:i=(lo+hi)/2
    ·rw[e];exact g2
    ·exact Nat.lt_trans (mW h (show i<(lo+hi)/2 by lia) (by lia)) g2
   ·rename_i g2;refine yM h j f _ _ (by lia) (by lia) (by lia) h3 (λi hi' gG=>?_);by_cases e:i=(lo+hi)/2
    ·rw[e];lia
    ·have:=mW (j:=j) h (show(lo+hi)/2<i by lia) gG;lia
  ·rw[if_neg g];have:lo=hi:=by lia
   subst this;exact⟨h2,h3,h4⟩
theorem JF{xs:Array Nat}(h:xs.toList.Pairwise (· < ·))(j:Nat):LS xs j (afQ.below xs j):=
 yM h j xs.size 0 xs.size (by lia) (ae2 _) (aeU _) (λi z=>by lia) (λi z1 z2=>by lia)
theorem aaH{xs:Array Nat}(h:xs.toList.Pairwise (· < ·)){j:Nat}(hn:xs[afQ.below xs j]? ≠some j):(afQ.insertAt xs (afQ.below xs j) j).toList.Pairwise (· < ·):=by
 have B:=JF h j;generalize afQ.below xs j=k at B hn;rw[afQ.toList_insertAt,pairwise_append];have len:xs.toList.length=xs.size:=afF;refine⟨h.sublist (take_sublist _ _),?_,?_⟩
 ·rw[pairwise_cons];refine⟨λy hy=>?_,h.sublist (List.drop_sublist _ _)⟩;obtain⟨i,hi,e⟩:=getElem_of_mem hy;rw[length_drop,len]at hi;rw[List.getElem_drop]at e;have h1:=B.hi (k+i) (by lia) (by lia)
  have e1:xs.getD (k+i) j=y:=by
   rw[<-e];simp[agV,show k+i<xs.size by lia]
  rw[e1]at h1;refine Nat.lt_of_le_of_ne h1 λz=>?_;subst z;by_cases i0:i=0
  ·subst i0;apply hn;rw[ahA (show k<xs.size by lia)]
   congr 1
  ·have h2:=B.hi k (aeU _) (by lia);have h3:=mW (j:=j) h (show k<k+i by lia) (by lia);lia
 ·intro a ha b hb;obtain⟨i,hi,e⟩:=getElem_of_mem ha;rw[length_take,len]at hi;rw[List.getElem_take]at e;have h1:=B.lo i (by lia)
  have e1:xs.getD i j=a:=by
   rw[<-e];simp[agV,show i<xs.size by lia]
  rw[e1]at h1;rcases mem_cons.mp hb with rfl|hb
  ·exact h1
  ·obtain⟨i2,gG,e2⟩:=getElem_of_mem hb;rw[length_drop,len]at gG;rw[List.getElem_drop]at e2;have h2:=B.hi (k+i2) (by lia) (by lia)
   have e3:xs.getD (k+i2) j=b:=by
    rw[<-e2];simp[agV,show k+i2<xs.size by lia]
   lia
theorem mV(t:afQ)(n:Nat):g9 (t.standIn n):=by
 refine⟨?_,rfl⟩;show(Array.range n).toList.Pairwise (· < ·)
 rw[Array.toList_range];exact pairwise_lt_range
theorem MH{t:afQ}(h:g9 t)(n:Nat):g9 (t.orStandIn n):=by
 unfold afQ.orStandIn;split
 ·exact h
 ·exact mV t n
theorem EV{t:afQ}(hd:t.dummies=#[]){f:Nat->Int}{h:Int}:∀(n:Nat)(p:afQ.Probe)(j:Nat)(d:Option Nat),p.dummy=none->afQ.probe.go t f h n p=some (.empty j d)->d=none/\t.slot j=.empty
 |0,p,j,d,hp,e=>by cases e
 | n + 1,p,j,d,hp,e=>by
  unfold afQ.probe.go at e
  have nd:t.slot p.j≠.dummy:=by
   unfold afQ.slot;dsimp only;split
   ·exact λz=>nomatch z
   ·have:afQ.has t.dummies p.j=false:=by
     unfold afQ.has;rw[hd];simp
    rw[this];exact λz=>nomatch z
  have ad:(t.advance p).dummy=none:=by
   unfold afQ.advance;split
   ·exact hp
   ·exact hp
  split at e
  ·rename_i g;cases e;exact⟨hp,g⟩
  ·rename_i g;exact absurd g nd
  ·split at e
   ·cases e
   ·exact EV hd n _ j d ad e
theorem PH{t:afQ}{j:Nat}(h:t.slot j=.empty):t.place[afQ.below t.place j]? ≠some j:=by
 intro z;unfold afQ.slot at h;dsimp only at h;rw[z]at h;simp at h
theorem MK{t:afQ}(u:g9 t)(es:Array (Int×Value))(h:Int)(x:Value):g9 (layNew t es h x).2.1/\(layNew t es h x).2.1.led=t.led:=by
 unfold layNew;split
 ·rename_i slot wd e;dsimp only;unfold afQ.freeSlot at e;split at e
  ·rename_i j d g;unfold afQ.probe at g;obtain⟨rfl,g2⟩:=EV u.2 _ _ j d rfl g;cases e
   have up:g9 (t.put j).1:=by
    unfold afQ.put;refine⟨aaH u.1 (PH g2),?_⟩;dsimp only
    have:afQ.has t.dummies j=false:=by
     unfold afQ.has;rw[u.2];simp
    rw[this];exact u.2
   refine⟨MH up _,?_⟩;show(afQ.orStandIn (t.put j).1 _).led=t.led
   unfold afQ.orStandIn;split <;> rfl
  ·cases e
 ·exact⟨mV t _,rfl⟩
theorem MG(t:afQ)(es:Array (Int×Value))(n:Nat):g9 (relayAll t es n).2.1/\(relayAll t es n).2.1.led=t.led:=by
 unfold relayAll;split
 ·rename_i t' order e;dsimp only;split
  ·unfold afQ.relaid afQ.laid at e;simp only[Option.bind_eq_bind,Option.bind_eq_some_iff]at e;obtain⟨owner,_,e⟩:=e;cases e;refine⟨⟨?_,rfl⟩,rfl⟩;dsimp only
   have sub:((List.filterMap (λj=>Option.map (λx=>(j,x)) (owner.getD j none)) (range (afQ.sizeAbove n-1+1))).map (·.1)).Sublist (range (afQ.sizeAbove n-1+1)):=by
    generalize range (afQ.sizeAbove n-1+1)=l
    induction l with
    |nil=>exact List.Sublist.refl _
    |cons a l ih=>
     rw[filterMap_cons]
     cases owner.getD a none with
     |none=>exact ih.cons a
     |some y=>exact ih.cons₂ a
   exact pairwise_lt_range.sublist sub
  ·exact⟨mV t _,rfl⟩
 ·exact⟨mV t _,rfl⟩
noncomputable def gK(w:agC):Bool:=w.params.followText "set-order"
noncomputable def mK(w:agC)(t:afQ):Prop:=g9 t/\t.led= !gK w
noncomputable def SetU(prog:afL)(w:agC)(h:Heap)(a:Addr)(S:Int->Bool)(n:Nat):Prop:=
 ∃o es ep t,(h.get? a=some o/\o.ExactSet/\o.data=.set es ep t)/\ElemsOf (aiH prog w) es.toList/\(∀k,S k=true<->∃e∈es.toList,(aiH prog w).is k e.2=true)/\es.size<scanBound/\t.fits es.size=true/\es.size=n/\mK w t
section
variable{prog:afL}{w:agC}{A:afU}{E:Value->aeV->Prop}{s:aeV}
theorem SetU.of{h h':Heap}{a:Addr}{S:Int->Bool}{n:Nat}(x:SetU prog w h a S n)(k:∀o,h.get? a=some o->h'.get? a=some o):SetU prog w h' a S n:=by
 obtain⟨o,es,ep,t,⟨h1,h2,h3⟩,r⟩:=x;exact⟨o,es,ep,t,⟨k o h1,h2,h3⟩,r⟩
theorem SetU.congr{h:Heap}{a:Addr}{S S':Int->Bool}{n n':Nat}(x:SetU prog w h a S n)(e:∀k,S k=S' k)(en:n=n'):SetU prog w h a S' n':=by
 have:S=S':=funext e;subst this en;exact x
theorem J6{g:Bool->Sem Unit}(hg:∀(b:Bool)(s₁:aeV)(Q':Unit->aeV->Prop),Q' () s₁->afH (afT prog w) A (g b) Q' E s₁){a:Addr}{o:Obj}{es:Array (Int×Value)}{ep:Nat}{t:afQ}(ho:s.heap.get? a=some o/\o.ExactSet/\o.data=.set es ep t)
  {es1:Array (Int×Value)} {t2:afQ} {S':Int->Bool} (hel1:ElemsOf (aiH prog w) es1.toList) (hm:∀k',S' k'=true<->∃e∈es1.toList,(aiH prog w).is k' e.2=true) (hb1:es1.size<scanBound) (hf2:t2.fits es1.size=true) (hU:mK w t2) {wd:Bool} {R:Option Bool->aeV->Prop}
  (h:∀h',afW a s.heap h'->SetU prog w h' a S' es1.size->R (some true) { s with heap:=h' }):
  afH (afT prog w) A (do
   storeSet a es1 t2
   if(!wd&&t2.tooFull)=true then do
     g (relayAll t2 es1 (afQ.grown es1.size)).2.2
     storeSet a (relayAll t2 es1 (afQ.grown es1.size)).1 (relayAll t2 es1 (afQ.grown es1.size)).2.1
     pure (some true)
    else pure (some true)) R E s:=by
 refine aeS (wpAny_storeSet_of ho.1 ho.2.2 ?_ (fits_of_scanBound hb1));have st:=SetOf_store (knd:=aiH prog w) ho.1 ho.2.1 ho.2.2 hel1 hm hb1 hf2;have sb:=afS s.heap a (Obj.putSet es1 t2);by_cases hc:(!wd&&t2.tooFull)=true
 ·rw[if_pos hc];have hp:=relayAll_perm t2 es1 (afQ.grown es1.size);have hfr:=relayAll_fits t2 es1 (afQ.grown es1.size);have hur:=MG t2 es1 (afQ.grown es1.size);generalize relayAll t2 es1 (afQ.grown es1.size)=R3 at hp hfr hur ⊢;obtain⟨es2,t3,gv⟩:=R3;dsimp only at hp hfr hur ⊢;have hz:es2.size=es1.size:=by rw[<-afF,hp.length_eq,afF]
  have hm2:∀k',S' k'=true<->∃e∈es2.toList,(aiH prog w).is k' e.2=true:=λk'=>(hm k').trans ⟨λ⟨e,he,q⟩=>⟨e,hp.mem_iff.mpr he,q⟩,λ⟨e,he,q⟩=>⟨e,hp.mem_iff.mp he,q⟩⟩;have hb2:es2.size<scanBound:=by lia
  refine aeS (hg _ _ _ ?_);refine aeS (wpAny_storeSet_of st.1 rfl ?_ (fits_of_scanBound hb2));have st2:=SetOf_store (knd:=aiH prog w) (es:=es1) (ep:=ep+1) (t:=t2) st.1 ho.2.1 rfl (hel1.perm hp) hm2 hb2 hfr;refine aeX (h _ (sb.trans (afS _ a _)) ?_);exact⟨_,es2,_,t3,⟨st2.1,ho.2.1,rfl⟩,hel1.perm hp,hm2,hb2,hfr,hz,hur.1,hur.2.trans hU.2⟩
 ·rw[if_neg hc];exact aeX (h _ sb ⟨_,es1,_,t2,⟨st.1,ho.2.1,rfl⟩,hel1,hm,hb1,hf2,rfl,hU⟩)
theorem gave{b:Bool}{Q':Unit->aeV->Prop}(hq:Q' () s):afH (afT prog w) A (match b with|true=>rule "set.scan.the-table-gave-way"|false=>pure ()) Q' E s:=by
 cases b
 ·exact aeX hq
 ·exact aiG hq
theorem add_int{a:Addr}{S:Int->Bool}{n:Nat}{k:Int}{tk:Tok}{Q:Bool->aeV->Prop}(hS:SetU prog w s.heap a S n)(hr:n+1<scanBound)
  (h:∀h',afW a s.heap h'->SetU prog w h' a (λk'=>S k'||decide (k'=k)) (if S k then n else n+1)->Q (!S k) { s with heap:=h' }):
  afH (afT prog w) A (setAddHashed a (.int k tk) ((aiH prog w).hash k)) Q E s:=by
 obtain⟨o,es,ep,t,ho,hel,hm,hb,hf,hn,hU⟩:=hS;have hk:(aiH prog w).is k (.int k tk)=true:=intKind_is _ _ _ _;have hsc:(Value.int k tk).scannable=true:=rfl;unfold setAddHashed setAddHashedIn;refine af2 (aeS (ahD ho.1 ho.2.2 hf ?_));dsimp only;rw[byScan_of hsc hb hel];simp only[↓reduceIte];unfold setAddByScan;refine aeS ?_;refine aeS (aiG ?_);refine aeS (wpAny_setScan_of hk ho.1 ho.2.2 hf hel ?_)
 cases hi:List.findIdx? (λe=>(aiH prog w).is k e.2) es.toList with
 | some j=>
  dsimp only;obtain⟨hj,hpj,_⟩:=List.findIdx?_eq_some_iff_getElem.mp hi;have hSk:S k=true:=(hm k).mpr ⟨es.toList[j],getElem_mem hj,hpj⟩;refine aeX (aeX ?_);have e:s={ s with heap:=s.heap }:=by cases s;rfl
  have q:=h s.heap (afW.refl a s.heap) ⟨o,es,ep,t,ho,hel,λk'=>by
   rw[Bool.or_eq_true,decide_eq_true_eq,<-hm k']
   exact⟨λz=>z.elim id (λe=>e▸hSk),.inl⟩,hb,hf,by rw[hSk];exact hn,hU⟩
  rw[hSk]at q;rw[e];exact q
 | none=>
  dsimp only
  have hSk:S k=false:=by
   cases z:S k with
   |false=>rfl
   |true=>
    obtain⟨e,he,hp⟩:=(hm k).mp z;have:=List.findIdx?_eq_none_iff.mp hi e he;rw[hp]at this;cases this
  have hp:=layNew_perm t es ((aiH prog w).hash k) (.int k tk);have hfit:=layNew_fits t es ((aiH prog w).hash k) (.int k tk);have hup:=MK hU.1 es ((aiH prog w).hash k) (.int k tk);generalize layNew t es ((aiH prog w).hash k) (.int k tk)=L at hp hfit hup ⊢;obtain⟨es1,t1,wd,gv⟩:=L;dsimp only at hp hfit hup ⊢;rw[Array.toList_push]at hp;have hel1:ElemsOf (aiH prog w) es1.toList:=(hel.push hk hsc).perm hp;have hm1:=mem_push_iff hk hm hp;have hz1:es1.size=n+1:=by rw[<-afF,hp.length_eq,length_append,afF,hn];rfl
  have hb1:es1.size<scanBound:=by lia
  have hU1:mK w t1:=⟨hup.1,hup.2.trans hU.2⟩
  have fin:∀h',afW a s.heap h'->SetU prog w h' a (λk'=>S k'||decide (k'=k)) es1.size->Q true { s with heap:=h' }:=λh' sb x=>by
   have:=h h' sb;rw[hSk]at this;rw[hz1]at x;exact this x
  refine aeS (gave ?_)
  ·split
   ·refine aeS ?_;rw[hashByValue_scannable 8 hsc];refine aeX ?_;refine J6 (λb s₁ Q' hq=>by cases b <;> first|exact aeX hq|exact aiG hq) ho hel1 hm1 hb1 ?_ ?_ λh' sb x=>by(dsimp only;exact aeX (fin h' sb x))
    ·split
     ·exact hfit
     ·exact afQ.fits_plain_off hfit
    ·split
     ·exact hU1
     ·exact hU1
   ·refine aeS (aeX ?_);simp only[↓reduceIte];exact J6 (λb s₁ Q' hq=>by cases b <;> first|exact aeX hq|exact aiG hq) ho hel1 hm1 hb1 hfit hU1 λh' sb x=>by(dsimp only;exact aeX (fin h' sb x))
end
noncomputable def gQ(w:agC):Obj:={ cls:=.type "set",dict:=none,data:=.set #[] 0 (.fresh 0 0 (!gK w)) }
section
variable{prog:afL}{w:agC}{A:afU}{E:Value->aeV->Prop}{s:aeV}
theorem WQ(a:Value){Q₁:Value->aeV->Prop}(h:Q₁ (.ref s.heap.objs.size) { s with heap:=s.heap.push (gQ w) }):
  codeAny (afT prog w) A (.call (.builtin "set.__new__") ⟨[.type "set",a],[]⟩) (wants Q₁ E) s:=by
 refine codeAny_of_tree ?_;show afH _ A.in1 (checkBuiltinCall "set.__new__" ⟨[.type "set",a],[]⟩ >>=λ_=>again (.builtin "set.__new__" ⟨[.type "set",a],[]⟩)) _ _ s
 refine aeS (ahZ (PySem.F.newCall_set_1 a) (aeX ⟨agG PySem.F.plain_set_new _,af5 PySem.F.entry_set_new ?_⟩));rw[afU.under_plainId PySem.F.plain_set_new _];unfold af8.«set.__new__» af8.Frozenset.newClass;have hsub:=sub_set_self;obtain⟨hp,g,d,tk,os⟩:=s;dsimp only
 wp_walk
 refine wpAny_askSetting (aeX ?_);dsimp only;simp only[newObj];refine aeS (wpAny_alloc (aeX ?_));exact aeX h
theorem PN{h:Heap}{a:Addr}(e:h.get? a=some (gQ w))(val:Nat->Int):SetU prog w h a (λk=>(ahS val 0).any (· ==k)) (ahS val 0).length:=by
 obtain⟨o,es,ep,t,ho,h1,h2,h3,h4,h5,h6,h7⟩:=((setObjOf_fresh (knd:=aiH prog w) (!gK w)).setOf e (by unfold scanBound;lia))
 rw[e]at ho;cases ho;cases h2;exact⟨_,_,_,_,⟨e,h1,rfl⟩,h3,h4,h5,h6,h7,⟨af7.nil,rfl⟩,rfl⟩
theorem YX{I l S:Addr}{items:Array Value}{ns:List Int}{R:Result->aeV->Prop}(hh:A.in1.handled=none)(hI:ah2 items.toList ns)(hb:items.size+1<scanBound)(hl:l≠I)(hSI:S≠I)(hSl:S≠l):
  ∀(k i:Nat)(s:aeV),items.size-i=k->i<=items.size->s.heap.IsListIter I l i->s.heap.IsList l items->SetU prog w s.heap S (λk=>(ahS (λi=>ns.getD i 0) i).any (· ==k)) (ahS (λi=>ns.getD i 0) i).length->
   (∀h' tk,(∀b o,b≠I->b≠S->s.heap.get? b=some o->h'.get? b=some o)->SetU prog w h' S (λk=>(ahS (λi=>ns.getD i 0) items.size).any (· ==k)) (ahS (λi=>ns.getD i 0) items.size).length->R (.ok (.ret .none)) { s with heap:=h',toks:=tk })->
   codeAny (afT prog w) A (.builtin "set.update.loop" ⟨[.ref S,.ref I],[]⟩) R s:=by
 have W:=aiE (prog:=prog) (w:=w) (A:=A.in1) hh I l hl items;intro k
 induction k with
 |zero=>
  intro i s hk hi hit hls hS hR;obtain rfl:i=items.size:=by lia
  refine af5 PyProof.Rows.F.entry_set_update_loop ?_;rw[afU.under_plainId ahV _];show afH _ A.in1 (aiO (.ref I) >>=_) _ _ s
  refine aeS (W.done s _ _ ⟨hit,hls⟩ λh' tk hk=>?_);show afH _ A.in1 (ret Value.none) _ _ _
  exact aeX (hR h' tk (λb o h1 _ e=>hk b o (by simpa using h1) e) (hS.of λo e=>hk S o (by simpa using hSI) e))
 | succ k ih=>
  intro i s hk hi hit hls hS hR;have hlt:i<items.size:=by lia
  refine af5 PyProof.Rows.F.entry_set_update_loop ?_;rw[afU.under_plainId ahV _];show afH _ A.in1 (aiO (.ref I) >>=_) _ _ s
  refine aeS (W.item i s _ _ hlt ⟨hit,hls⟩ λv h1 tk1 hP hst k1=>?_);obtain⟨t,rfl⟩:=hI.int_at i v (by rw[ahC];exact hP);have hS1:=hS.of λo e=>k1 S o (by simpa using hSI) e;show afH _ A.in1 (holding [Value.int (ns.getD i 0) t] (setAdd S (.int (ns.getD i 0) t)) >>=_) _ _ _
  refine aeS (af2 ?_);unfold setAdd;refine af2 ?_;refine aeS ((aiH prog w).pyHash (k:=ns.getD i 0) (intKind_is _ _ _ _) ?_);have hroom:(ahS (λi=>ns.getD i 0) i).length+1<scanBound:=by have:=firstMet_length_le (λi=>ns.getD i 0) i;lia
  refine add_int (s:={ s with heap:=h1,toks:=tk1+1 }) hS1 hroom λh2 sb hS2=>?_
  have hS3:SetU prog w h2 S (λk=>(ahS (λi=>ns.getD i 0) (i+1)).any (· ==k)) (ahS (λi=>ns.getD i 0) (i+1)).length:=
   hS2.congr (λk'=>by rw[firstMet_succ,step_any]) (by rw[firstMet_succ,step_length])
  refine aeX ⟨agG ahV _,ih (i+1) { s with heap:=h2,toks:=tk1+1 } (by lia) hlt (hst.1.at λo e=>?_) (hst.2.at λo e=>?_) hS3 λh' tk k2 hS'=>hR h' tk (λb o h1 h2 e=>k2 b o h1 h2 ?_) hS'⟩
  ·rw[sb.2 I hSI.symm];exact e
  ·rw[sb.2 l hSl.symm];exact e
  ·show Heap.get? _ b=_;rw[sb.2 b h2];exact k1 b o (by simpa using h1) e
theorem ab0{l:Addr}{items:Array Value}{ns:List Int}{Q:Value->aeV->Prop}(hh:A.handled=none)(hl:s.heap.IsList l items)(hi:ah2 items.toList ns)(hb:items.size+1<scanBound)
  (h:∀(h':Heap)(tk:Nat),SetU prog w h' s.heap.objs.size (λk=>(ahS (λi=>ns.getD i 0) items.size).any (· ==k)) (ahS (λi=>ns.getD i 0) items.size).length->
   (∀b o,s.heap.get? b=some o->h'.get? b=some o)->Q (.ref s.heap.objs.size) { s with heap:=h',toks:=tk }):
  afH (afT prog w) A (call (.type "set") [.ref l]) Q E s:=by
 obtain⟨c,tl,hmro⟩:=ahG.mro;have hmade:=ahG.made;have hsub:=ahG.sub;have h1:=ahG.notType;have h2:=ahG.canCreate;have hct:=PySem.F.typeCall_set_1 (.ref l);refine wpAny_call (codeAny_of_tree ?_);show afH _ _ (callAny (.type "set") _) _ _ _
 refine aeX ⟨Code.quiet_builtin _ (by decide +kernel),af5 PySem.F.entry_type_call ?_⟩;rw[afU.under_plain (weight_type_call_type "set" [.ref l] []) rfl]
 repeat (any_goals (first|assumption|wp_step))
 refine codeAny_mono (WQ (.ref l) (E:=E) (Q₁:=λobj s₁=>obj=.ref s.heap.objs.size/\s₁={ s with heap:=s.heap.push (gQ w) }) ⟨rfl,rfl⟩) λr s₁ hr=>?_;rcases r with e|fl
 ·exact hr
 rcases fl with _|_|_|obj
 all_goals first
  |exact hr.elim
  |skip
 obtain⟨rfl,rfl⟩:=hr;have hS:(s.heap.push (gQ w)).get? s.heap.objs.size=some (gQ w):=aeZ _ rfl;have hT:aeV.TypeIs { s with heap:=s.heap.push (gQ w) } (.ref s.heap.objs.size) "set":=⟨_,hS,rfl⟩
 have hli:=ahG.init.lookup;have hbi:=ahG.init.bind (.ref s.heap.objs.size)
 repeat (any_goals (first|assumption|wp_step))
 refine codeAny_mono (codeAny_call_builtin (R:=wants (λr s₂=>r=.none/\∃h' tk,s₂={ s with heap:=h',toks:=tk }/\
   SetU prog w h' s.heap.objs.size (λk=>(ahS (λi=>ns.getD i 0) items.size).any (· ==k)) (ahS (λi=>ns.getD i 0) items.size).length/\
   (∀b o,s.heap.get? b=some o->h'.get? b=some o)) E) ahG.init.plain PySem.F.entry_set_init (check_set_init_1 hT ?_)) λr₂ s₂ hr₂=>?_
 ·obtain⟨ol,hol,hcl,nl,hdl⟩:=hl;obtain⟨ocls,odict,odata,oslots⟩:=ol;dsimp only at hcl hdl;subst hcl hdl;have hol':(s.heap.push (gQ w)).get? l=some { cls:=.type "list",dict:=odict,data:=.seq items nl,slots:=oslots }:=aeT _ hol;have hl1:(s.heap.push (gQ w)).IsList l items:=⟨_,hol',rfl,nl,rfl⟩
  have hsls:=PySem.F.sub_list_set;have hslf:=PySem.F.sub_list_frozenset;have hne:(agH "list"==agH "dict")=false:=by decide
  have hlS:l<s.heap.objs.size:=ae1 hol;have hS0:(s.heap.push (gQ w)).get? s.heap.objs.size=some { cls:=.type "set",dict:=none,data:=.set #[] 0 (.fresh 0 0 (!gK w)) }:=hS;have hh3:A.in1.in1.in1.handled=none:=by simp[hh]
  unfold af8.«set.__init__» noKeywords af8.Frozenset.updateFrom;generalize hPI:pyIter=PI
  wp_walk
  subst hPI;refine ahX hl1 ?_;refine aeS (wpAny_runValue ?_);have e1:(s.heap.push (gQ w)).objs.size=s.heap.objs.size+1:=aiL _ _;refine YX (l:=l) (items:=items) (ns:=ns) hh3 hi hb (by rw[e1];exact ae7 (afZ hlS)) (by rw[e1];exact ae7 (Nat.lt_succ_self _)) (Nat.ne_of_gt hlS) (items.size-0) 0 _ (by lia) (ae2 _) ⟨_,aeZ _ rfl,rfl,rfl⟩ (hl1.push _) (PN (aeT _ hS) _) λh' tk k2 hS'=>?_;show afH _ _ _ _ _ _
  refine aeX ?_;show afH _ _ (ret Value.none) _ _ _
  refine aeX ⟨rfl,h',tk,rfl,hS',λb o e=>?_⟩;have hb:=ae1 e;exact k2 b o (by rw[e1];exact ae7 (afZ hb)) (ae7 hb) (aeT _ (aeT _ e))
 ·rcases r₂ with e|fl
  ·exact hr₂
  rcases fl with _|_|_|r
  all_goals first
   |exact hr₂.elim
   |skip
  obtain⟨rfl,h',tk,rfl,hS',hk'⟩:=hr₂
  repeat (any_goals (first|assumption|wp_step))
  exact h _ _ hS' hk'
end
theorem slot_sin:Slot "set_iterator" "__next__" "set_iterator.__next__":=
 .of (owner:="set_iterator") (n:="__next__") (by rw[typeLookup_type,builtinLookup_eq_fast];kernel_rfl) (by decide +kernel) (by decide +kernel) (by decide +kernel)
  (by first|exact .inl (by decide +kernel)|exact .inr (by decide +kernel)) (by rw[isSubtype_type];kernel_rfl)
theorem pH:entryFor table "set_iterator.__next__"=some af8.«set_iterator.__next__»:=entryFor_of_tree (by kernel_rfl)
theorem pO(a:Value):argsOk "set_iterator.__next__" ⟨[a],[]⟩:=by unfold argsOk;kernel_rfl
noncomputable def slotAt(t:afQ)(i:Nat):Nat:=match i with
 |0=>0
 |i+1=>t.place.getD i 0+1
theorem acW{t:afQ}(u:g9 t){i:Nat}(hi:i<=t.place.size):afQ.below t.place (slotAt t i)=i:=by
 have B:=JF u.1 (slotAt t i);generalize afQ.below t.place (slotAt t i)=k at B;have g:∀m d,m<t.place.size->t.place.getD m d=t.place.getD m 0:=λm d hm=>by simp[agV,hm]
 cases i with
 |zero=>
  cases k with
  |zero=>rfl
  |succ k=>have:=B.lo 0 (by lia);exact absurd this (Nat.not_lt_zero _)
 | succ i=>
  rcases Nat.lt_trichotomy k (i+1) with h|h|h
  ·have h1:=B.hi i (by lia) (by lia);rw[g _ _ (by lia)]at h1;show k=i+1
   have:slotAt t (i+1)=t.place.getD i 0+1:=rfl;lia
  ·exact h
  ·have h1:=B.lo (i+1) h;have hz:i+1<t.place.size:=afG h B.le;rw[g _ _ hz]at h1;have h2:=mW (j:=0) u.1 (show i<i+1 by lia) hz;have:slotAt t (i+1)=t.place.getD i 0+1:=rfl;lia
noncomputable def SAt(h:Heap)(a:Addr)(es:Array (Int×Value))(ep:Nat)(t:afQ):Prop:=∃o,h.get? a=some o/\o.data=.set es ep t
noncomputable def mD(es:Array (Int×Value))(t:afQ):Bool:= !t.plain&&decide (es.size>1)
section
variable{prog:afL}{w:agC}{A:afU}{E:Value->aeV->Prop}{s:aeV}{a:Addr}{es:Array (Int×Value)}{ep:Nat}{t:afQ}
theorem pL{Q:Bool->aeV->Prop}(h:Q (gK w) s):afH (afT prog w) A setsByText Q E s:=by
 unfold setsByText;exact aeS (wpAny_askSetting (aeX h))
theorem WM{slot i:Nat}{Q:Option (Value×Nat)->aeV->Prop}(hS:SAt s.heap a es ep t)(hf:t.fits es.size=true)(hb:gK w=true)(h:Q (((pickOrder (w.params.setOrder a ep) es)[i]?).map λe=>(e.2,slot)) s):
  afH (afT prog w) A (setNext a slot i ep) Q E s:=by
 obtain⟨o,ho,hd⟩:=hS;unfold setNext;refine aeS (ahD ho hd hf ?_);dsimp only;refine aeS (pL ?_);rw[hb];simp only[↓reduceIte,bne_self_eq_false,af1];unfold setWalk;refine aeS (aeS (ahD ho hd hf ?_));dsimp only;refine aeS (pL ?_);rw[hb];simp only[↓reduceIte];exact aeS (wpAny_askSetting (aeX (aeX h)))
theorem WN{slot i:Nat}{Q:Option (Value×Nat)->aeV->Prop}(hS:SAt s.heap a es ep t)(hf:t.fits es.size=true)(hb:gK w=false)(hd:mD es t=false)(hl:t.led=true)
  (h:Q (match es[afQ.below t.place slot]?,t.place[afQ.below t.place slot]? with|some (_,x),some j=>some (x,j+1)|_,_=>none) s):
  afH (afT prog w) A (setNext a slot i ep) Q E s:=by
 obtain⟨o,ho,hdt⟩:=hS;unfold setNext;refine aeS (ahD ho hdt hf ?_);dsimp only;refine aeS (pL ?_);rw[hb];simp only[af1,↓reduceIte];have e2:¬(mD es t=true):=by rw[hd];exact afK
 refine ahF (λz=>absurd z e2) (λ_=>?_);refine aeS (ahZ (a:=()) ?_ (aeX h));show(if(!t.led&& !es.isEmpty)=true then(unsupported "set:maker-not-led":Sem Unit) else pure ())=pure ()
 rw[hl];rfl
noncomputable def SIt(h:Heap)(I a:Addr)(f:Value)(i n ep:Nat):Prop:=∃o,h.get? I=some o/\o.cls=.type "set_iterator"/\o.data=.fields #[f,.int i 0,.ref a,.int n 0,.int ep 0]
theorem SIt.ty{I:Addr}{f:Value}{i n:Nat}(h:SIt s.heap I a f i n ep):s.TypeIs (.ref I) "set_iterator":=let⟨o,ho,hc,_⟩:=h;⟨o,ho,hc⟩
theorem mC{Q:Array (Int×Value)->aeV->Prop}(hS:SAt s.heap a es ep t)(hf:t.fits es.size=true)(h:Q es s):afH (afT prog w) A (setEntries a) Q E s:=by
 obtain⟨o,ho,hd⟩:=hS;unfold setEntries;exact aeS (ahD ho hd hf (aeX h))
theorem WE{I:Addr}{slot i n nx:Nat}{x:Value}{Q:Option Value->aeV->Prop}(hit:SIt s.heap I a (.int slot 0) i n ep)(hS:SAt s.heap a es ep t)(hf:t.fits es.size=true)(hn:es.size=n)
  (hN:∀(A':afU)(E':Value->aeV->Prop)(Q':Option (Value×Nat)->aeV->Prop),Q' (some (x,nx)) s->afH (afT prog w) A' (setNext a slot i ep) Q' E' s)
  (hQ:∀h',SIt h' I a (.int nx 0) (i+1) n ep->afW I s.heap h'->Q (some x) { s with heap:=h' }):
  afH (afT prog w) A (aiO (.ref I)) Q E s:=by
 obtain⟨o,ho,hc,hd⟩:=id hit;unfold aiO;refine aeS (wpAny_attempt (wpAny_callSpecial?_slot (name:=agW "__next__") hit.ty slot_sin (ahB slot_sin hit.ty pH ?_ (pO _))));unfold af8.«set_iterator.__next__»;refine aeS (ahZ (a:=(af4 I,([]:List Value))) rfl ?_);refine aeS (wpAny_fieldsOf ho hd ?_);dsimp only;refine aeS (mC hS hf ?_);rw[hn];simp only[bne_self_eq_false,af1,↓reduceIte,ae6];refine aeS (hN _ _ _ ?_);dsimp only;refine aeS (wpAny_setField ho hd (by simp) ?_);have ho1:(s.heap.update I (Obj.mapFields (·.setIfInBounds 0 (rawInt nx)))).get? I=some (Obj.mapFields (·.setIfInBounds 0 (rawInt nx)) o):=ag0 _ ho (Obj.isFreed_of_fields (ahH hd _));have hd1:=ahH hd (·.setIfInBounds 0 (rawInt nx));refine aeS (wpAny_setField ho1 hd1 (by simp) (aeX ⟨x,rfl,aeX (hQ _ ?_ ((afS ..).trans (afS ..)))⟩));refine⟨_,ag0 _ ho1 (Obj.isFreed_of_fields (ahH hd1 _)),(Obj.cls_mapFields ..).trans ((Obj.cls_mapFields ..).trans hc),?_⟩;rw[ahH hd1];simp[rawInt]
theorem WF{I:Addr}{slot i n:Nat}{Q:Option Value->aeV->Prop}(hh:A.handled=none)(hit:SIt s.heap I a (.int slot 0) i n ep)(hS:SAt s.heap a es ep t)(hf:t.fits es.size=true)(hn:es.size=n)
  (hN:∀(A':afU)(E':Value->aeV->Prop)(Q':Option (Value×Nat)->aeV->Prop),Q' none s->afH (afT prog w) A' (setNext a slot i ep) Q' E' s)
  (hQ:∀h',Heap.ExtBut I s.heap h'->Q none { s with heap:=h' }):
  afH (afT prog w) A (aiO (.ref I)) Q E s:=by
 obtain⟨o,ho,hc,hd⟩:=id hit;unfold aiO;refine aeS (wpAny_attempt (wpAny_callSpecial?_slot (name:=agW "__next__") hit.ty slot_sin (ahB slot_sin hit.ty pH ?_ (pO _))));unfold af8.«set_iterator.__next__»;refine aeS (ahZ (a:=(af4 I,([]:List Value))) rfl ?_);refine aeS (wpAny_fieldsOf ho hd ?_);dsimp only;refine aeS (mC hS hf ?_);rw[hn];simp only[bne_self_eq_false,af1,↓reduceIte,ae6];refine aeS (hN _ _ _ ?_);dsimp only;refine aeS (wpAny_setField ho hd (by simp) ?_);show afH _ _ (newExc (.type "StopIteration") [] >>=_) _ _ _
 refine aeS ?_;simp only[newExc,newTuple];refine aeS (ahJ ?_ (by size_fits));refine aeS (m:=firstArgMember _ _) (ahZ (a:=Value.none) (by first|rfl|(simp only[firstArgMember];rfl)) ?_);refine ahJ ?_ (by size_fits);simp only[raiseNew];refine aeS (wpAny_handled ?_);rw[show A.in1.handled=none from hh];refine aeS (aeX (wpAny_throw ?_));refine aeS (wpAny_isInstance (T:="StopIteration") (b:=true) ⟨_,aeZ _ rfl,rfl⟩ isSubtype_stop ?_);exact aeX (hQ _ (((afS ..).extBut.push _).push _))
end
theorem DE:Slot "set_iterator" "__iter__" "set_iterator.__iter__":=
 .of (owner:="set_iterator") (n:="__iter__") (by rw[typeLookup_type,builtinLookup_eq_fast];kernel_rfl) (by decide +kernel) (by decide +kernel) (by decide +kernel)
  (by first|exact .inl (by decide +kernel)|exact .inr (by decide +kernel)) (by rw[isSubtype_type];kernel_rfl)
theorem abB:entryFor table "set_iterator.__iter__"=some af8.«dict_keyiterator.__iter__»:=entryFor_alias (id':="dict_keyiterator.__iter__") (by kernel_rfl) rfl (by decide +kernel) (by kernel_rfl)
theorem ad9(a:Value):argsOk "set_iterator.__iter__" ⟨[a],[]⟩:=by unfold argsOk;kernel_rfl
theorem abC:entryFor table "set.__iter__"=some af8.«frozenset.__iter__»:=entryFor_alias (id':="frozenset.__iter__") (by kernel_rfl) rfl (by decide +kernel) (by kernel_rfl)
theorem uL{α:Type}:∀{l:List α}{i:Nat}(h:i<l.length),(l[i]::l.eraseIdx i).Perm l
 |x::l,0,_=>ah6.refl _
 |x::l,i+1,h=>by
  show(l[i]'(by simpa using h)::x::l.eraseIdx i).Perm (x::l);exact(ah6.swap _ _ _).trans ((uL (by simpa using h)).cons _)
theorem EZ{α:Type}(next:Nat->Nat):∀(f k:Nat)(left:List α)(out:Array α),left.length=f->(pickOrder.go next f k left out).toList.Perm (out.toList++left)
 |0,k,left,out,h=>by
  obtain rfl:left=[]:=eq_nil_of_length_eq_zero h;unfold pickOrder.go
  simp
 |f+1,k,left,out,h=>by
  unfold pickOrder.go;have hlt:next k%left.length<left.length:=Nat.mod_lt _ (by lia)
  rw[aeY hlt];dsimp only;refine(EZ next f (k+1) _ _ (by rw[List.length_eraseIdx,if_pos hlt];lia)).trans ?_;rw[Array.toList_push,append_assoc];exact(uL hlt).append_left _
theorem T8{α:Type}(next:Nat->Nat)(xs:Array α):(pickOrder next xs).toList.Perm xs.toList:=by
 unfold pickOrder;have:=EZ next xs.size 0 xs.toList #[] (by simp)
 simpa using this
section
variable{prog:afL}{w:agC}{A:afU}{E:Value->aeV->Prop}{s:aeV}{a:Addr}{es:Array (Int×Value)}{ep:Nat}{t:afQ}
theorem abR{src:Source}{n:Nat}{Q:Nat->aeV->Prop}(h0:n≠0)(h:∀i d,i<n->Q i { s with drawn:=d }):afH (afT prog w) A (choose src n) Q E s:=by
 intro Γ p hΓ;unfold choose;rw[Sem.wp_choose];exact⟨h0,h _ _ (Nat.mod_lt _ (Nat.pos_of_ne_zero h0))⟩
theorem IO{α:Type}:∀(n:Nat)(xs:List α)(s:aeV)(Q:List α->aeV->Prop),xs.length=n->(∀ys d,ys.Perm xs->Q ys { s with drawn:=d })->afH (afT prog w) A (drawOrder n xs) Q E s
 |0,xs,s,Q,hn,h=>by
  obtain rfl:xs=[]:=eq_nil_of_length_eq_zero hn;unfold drawOrder
  exact aeX (h [] s.drawn (ah6.refl _))
 |n+1,[],s,Q,hn,h=>by cases hn
 |n+1,x::xs,s,Q,hn,h=>by
  unfold drawOrder;refine aeS (abR (by simp) λi d hi=>?_);rw[aeY hi];dsimp only;refine aeS (IO n _ _ _ (by rw[List.length_eraseIdx,if_pos hi];lia) λys d' hp=>?_);refine aeX (h _ d' ?_);exact(hp.cons _).trans (uL hi)
theorem SIt.self{I:Addr}{f:Value}{i n:Nat}{Q:Value->aeV->Prop}(hit:SIt s.heap I a f i n ep)(h:Q (.ref I) s):afH (afT prog w) A (pyIter (.ref I)) Q E s:=by
 refine wpAny_pyIter_slot hit.ty DE (ahB DE hit.ty abB ?_ (ad9 _));show afH _ _ (ret (.ref I)) _ _ s
 exact aeX ⟨_,rfl,"set_iterator",_,hit.ty,slot_sin.lookup,h⟩
theorem SAt.at{h h':Heap}(x:SAt h a es ep t)(k:∀o,h.get? a=some o->h'.get? a=some o):SAt h' a es ep t:=let⟨o,ho,hd⟩:=x;⟨o,k o ho,hd⟩
theorem SIt.at{h h':Heap}{I:Addr}{f:Value}{i n:Nat}(x:SIt h I a f i n ep)(k:∀o,h.get? I=some o->h'.get? I=some o):SIt h' I a f i n ep:=let⟨o,ho,hd⟩:=x;⟨o,k o ho,hd⟩
theorem BS(hh:A.handled=none){I:Addr}(hne:a≠I){n:Nat}(hf:t.fits es.size=true)(hn:es.size=n){sl:Nat->Nat}{out:List Value}(hl:out.length=n)
  (hN:∀(i:Nat)(s:aeV)(A':afU)(E':Value->aeV->Prop)(Q':Option (Value×Nat)->aeV->Prop),i<=n->SAt s.heap a es ep t->Q' ((out[i]?).map λx=>(x,sl (i+1))) s->afH (afT prog w) A' (setNext a (sl i) i ep) Q' E' s):
  Walks prog w A I [I,a] [I] n (λi v=>out[i]? =some v) (λi h=>SAt h a es ep t/\SIt h I a (.int (sl i) 0) i n ep) where
 sub:=λb hb=>by simp at hb;simp[hb]
 frame:=λ_ _ _ st hk=>⟨st.1.at λo e=>hk a (by simp) o e,st.2.at λo e=>hk I (by simp) o e⟩
 item:=λi s Q E hi st hQ=>by
  have e:out[i]? =some (out[i]'(by lia)):=aeY (by lia);refine WE st.2 st.1 hf hn (x:=out[i]'(by lia)) (nx:=sl (i+1)) (λA' E' Q' q=>hN i s A' E' Q' (by lia) st.1 (by rw[e];exact q)) λh' hit' sb=>?_;exact hQ _ h' s.toks e ⟨st.1.at λo z=>by rw[sb.2 a hne];exact z,hit'⟩ λb o hb z=>sb.extBut b o (λh=>hb (by simp[h])) z
 done:=λs Q E st hQ=>by
  have e:out[n]? =none:=af0 (by lia);exact WF hh st.2 st.1 hf hn (λA' E' Q' q=>hN n s A' E' Q' (aeU _) st.1 (by rw[e];exact q)) λh' he=>hQ h' s.toks λb o hb z=>he b o (λh=>hb (by simp[h])) z
 self:=λ_ _ _ _ st hQ=>st.2.self hQ
theorem L5{I:Addr}(hne:a≠I){n:Nat}(hf:t.fits es.size=true)(hn:es.size=n)(hb:gK w=true):
  ∃out:List Value,out.Perm (es.toList.map (·.2))/\∀A:afU,A.handled=none->Walks prog w A I [I,a] [I] n (λi v=>out[i]? =some v) (λi h=>SAt h a es ep t/\SIt h I a (.int ((λ_=>0:Nat->Nat) i:Nat) 0) i n ep):=by
 have hp:=T8 (w.params.setOrder a ep) es;refine⟨(pickOrder (w.params.setOrder a ep) es).toList.map (·.2),hp.map _,λA hh=>BS hh hne hf hn (by rw[length_map,hp.length_eq,afF,hn]) λi s A' E' Q' hi hS q=>WM hS hf hb ?_⟩;rw[ae4,ahC,Option.map_map]at q;exact q
theorem L6(hh:A.handled=none){I:Addr}(hne:a≠I){n:Nat}(hf:t.fits es.size=true)(hn:es.size=n)(hb:gK w=false)(hd:mD es t=false)(hl:t.led=true)(u:g9 t):
  Walks prog w A I [I,a] [I] n (λi v=>(es.toList.map (·.2))[i]? =some v) (λi h=>SAt h a es ep t/\SIt h I a (.int (slotAt t i:Nat) 0) i n ep):=by
 have hz:t.place.size=n:=by
  unfold afQ.fits at hf;rw[afB,beq_iff_eq]at hf;lia
 refine BS hh hne hf hn (by rw[length_map,afF,hn]) λi s A' E' Q' hi hS q=>WN hS hf hb hd hl ?_;rw[acW u (by lia)];rw[ae4,ahC,Option.map_map]at q;by_cases g:i<n
 ·have e1:es[i]? =some (es[i]'(by lia)):=ahA (by lia);have e2:t.place[i]? =some (t.place[i]'(by lia)):=ahA (by lia);rw[e1]at q ⊢;rw[e2];dsimp only
  have e3:slotAt t (i+1)=t.place[i]'(by lia)+1:=by
   show t.place.getD i 0+1=_;rw[agV,dif_pos (by lia)];rfl
  have q':Q' (some ((es[i]'(by lia)).2,slotAt t (i+1))) s:=q;rw[e3]at q';exact q'
 ·have e1:es[i]? =none:=Array.getElem?_eq_none (by lia);rw[e1]at q ⊢;exact q
end
noncomputable def TPl(h:Heap)(T:Addr)(ps:List Nat):Prop:=∃o k,h.get? T=some o/\o.data=.seq (ps.map λ(p:Nat)=>rawInt p).toArray k
noncomputable def lG(es:Array (Int×Value))(ps:List Nat):List Value:=ps.map λp=>(es.getD p (0,.none)).2
theorem UQ(es:Array (Int×Value)):lG es (range es.size)=es.toList.map (·.2):=by
 refine aiF λi=>?_;unfold lG;rw[ae4,ae4,ahC (xs:=es)];by_cases h:i<es.size
 ·rw[ahL h,ahA h];simp[agV,h]
 ·rw[af0 (by simpa using h),Array.getElem?_eq_none (by lia)];rfl
section
variable{prog:afL}{w:agC}{A:afU}{E:Value->aeV->Prop}{s:aeV}{a:Addr}{es:Array (Int×Value)}{ep:Nat}{t:afQ}
theorem TPl.at{h h':Heap}{T:Addr}{ps:List Nat}(x:TPl h T ps)(k:∀o,h.get? T=some o->h'.get? T=some o):TPl h' T ps:=let⟨o,n,ho,hd⟩:=x;⟨o,n,k o ho,hd⟩
theorem abD{I T:Addr}{i n p:Nat}{ps:List Nat}{Q:Option Value->aeV->Prop}(hit:SIt s.heap I a (.ref T) i n ep)(hS:SAt s.heap a es ep t)(hT:TPl s.heap T ps)(hf:t.fits es.size=true)(hn:es.size=n)(hp:ps[i]? =some p)(hpn:p<n)
  (hQ:∀h',SIt h' I a (.ref T) (i+1) n ep->afW I s.heap h'->Q (some (es.getD p (0,.none)).2) { s with heap:=h' }):
  afH (afT prog w) A (aiO (.ref I)) Q E s:=by
 obtain⟨o,ho,hc,hd⟩:=id hit;obtain⟨oT,kT,hoT,hdT⟩:=hT;unfold aiO;refine aeS (wpAny_attempt (wpAny_callSpecial?_slot (name:=agW "__next__") hit.ty slot_sin (ahB slot_sin hit.ty pH ?_ (pO _))));unfold af8.«set_iterator.__next__»;refine aeS (ahZ (a:=(af4 I,([]:List Value))) rfl ?_);refine aeS (wpAny_fieldsOf ho hd ?_);dsimp only;refine aeS (mC hS hf ?_);rw[hn];simp only[bne_self_eq_false,af1,↓reduceIte,ae6];refine aeS (ag4 hoT hdT ?_);dsimp only
 have e1:((ps.map λ(p:Nat)=>rawInt p).toArray)[i]? =some (rawInt p):=by
  rw[List.getElem?_toArray,ae4,hp];rfl
 rw[e1];simp only[rawInt,ae6];unfold setNextDrawn;obtain⟨oS,hoS,hdS⟩:=hS;refine aeS (aeS (ahD hoS hdS hf ?_))
 have e2:es[p]? =some (es.getD p (0,.none)):=by
  rw[ahA (by lia)];simp[agV,show p<es.size by lia]
 simp only[bne_self_eq_false,af1,↓reduceIte,e2];refine aeX ?_;refine aeS (wpAny_setField ho hd (by simp) (aeX ⟨_,rfl,aeX (hQ _ ?_ (afS ..))⟩));refine⟨_,ag0 _ ho (Obj.isFreed_of_fields (ahH hd _)),(Obj.cls_mapFields ..).trans hc,?_⟩;rw[ahH hd];simp
theorem abE{I T:Addr}{n:Nat}{ps:List Nat}{Q:Option Value->aeV->Prop}(hh:A.handled=none)(hit:SIt s.heap I a (.ref T) n n ep)(hS:SAt s.heap a es ep t)(hT:TPl s.heap T ps)(hf:t.fits es.size=true)(hn:es.size=n)(hp:ps.length=n)
  (hQ:∀h',Heap.ExtBut I s.heap h'->Q none { s with heap:=h' }):
  afH (afT prog w) A (aiO (.ref I)) Q E s:=by
 obtain⟨o,ho,hc,hd⟩:=id hit;obtain⟨oT,kT,hoT,hdT⟩:=hT;unfold aiO;refine aeS (wpAny_attempt (wpAny_callSpecial?_slot (name:=agW "__next__") hit.ty slot_sin (ahB slot_sin hit.ty pH ?_ (pO _))));unfold af8.«set_iterator.__next__»;refine aeS (ahZ (a:=(af4 I,([]:List Value))) rfl ?_);refine aeS (wpAny_fieldsOf ho hd ?_);dsimp only;refine aeS (mC hS hf ?_);rw[hn];simp only[bne_self_eq_false,af1,↓reduceIte,ae6];refine aeS (ag4 hoT hdT ?_);dsimp only
 have e1:((ps.map λ(p:Nat)=>rawInt p).toArray)[n]? =none:=by
  rw[List.getElem?_toArray,ae4,af0 (by lia)];rfl
 rw[e1];dsimp only;refine aeS (wpAny_setField ho hd (by simp) ?_);have ho1:(s.heap.update I (Obj.mapFields (·.setIfInBounds 0 (rawInt 0)))).get? I=some (Obj.mapFields (·.setIfInBounds 0 (rawInt 0)) o):=ag0 _ ho (Obj.isFreed_of_fields (ahH hd _));have hd1:=ahH hd (·.setIfInBounds 0 (rawInt 0));refine aeS (wpAny_setField ho1 hd1 (by simp) ?_);show afH _ _ (newExc (.type "StopIteration") [] >>=_) _ _ _
 refine aeS ?_;simp only[newExc,newTuple];refine aeS (ahJ ?_ (by size_fits));refine aeS (m:=firstArgMember _ _) (ahZ (a:=Value.none) (by first|rfl|(simp only[firstArgMember];rfl)) ?_);refine ahJ ?_ (by size_fits);simp only[raiseNew];refine aeS (wpAny_handled ?_);rw[show A.in1.handled=none from hh];refine aeS (aeX (wpAny_throw ?_));refine aeS (wpAny_isInstance (T:="StopIteration") (b:=true) ⟨_,aeZ _ rfl,rfl⟩ isSubtype_stop ?_);exact aeX (hQ _ ((((afS ..).trans (afS ..)).extBut.push _).push _))
theorem L8(hh:A.handled=none){I T:Addr}(hne:a≠I)(hTI:T≠I){n:Nat}(hf:t.fits es.size=true)(hn:es.size=n){ps:List Nat}(hp:ps.Perm (range n)):
  Walks prog w A I [I,a,T] [I] n (λi v=>(lG es ps)[i]? =some v) (λi h=>SAt h a es ep t/\SIt h I a (.ref T) i n ep/\TPl h T ps) where
 sub:=λb hb=>by simp at hb;simp[hb]
 frame:=λ_ _ _ st hk=>⟨st.1.at λo e=>hk a (by simp) o e,st.2.1.at λo e=>hk I (by simp) o e,st.2.2.at λo e=>hk T (by simp) o e⟩
 item:=λi s Q E hi st hQ=>by
  have hl:ps.length=n:=by rw[hp.length_eq,length_range]
  have e:ps[i]? =some (ps[i]'(by lia)):=aeY (by lia);have hpn:ps[i]'(by lia)<n:=mem_range.mp (hp.mem_iff.mp (getElem_mem (by lia)));refine abD st.2.1 st.1 st.2.2 hf hn e hpn λh' hit' sb=>?_;exact hQ _ h' s.toks (by unfold lG;rw[ae4,e];rfl) ⟨st.1.at λo z=>by rw[sb.2 a hne];exact z,hit',st.2.2.at λo z=>by rw[sb.2 T hTI];exact z⟩ λb o hb z=>sb.extBut b o (λh=>hb (by simp[h])) z
 done:=λs Q E st hQ=>abE hh st.2.1 st.1 st.2.2 hf hn (by rw[hp.length_eq,length_range]) λh' he=>hQ h' s.toks λb o hb z=>he b o (λh=>hb (by simp[h])) z
 self:=λ_ _ _ _ st hQ=>st.2.1.self hQ
theorem Z3{n:Nat}{Q:Value->aeV->Prop}(hT:s.TypeIs (.ref a) "set")(hS:SAt s.heap a es ep t)(hf:t.fits es.size=true)(hn:es.size=n)(hz:n<=sizeLine)(hU:mK w t)
  (h:∀(h':Heap)d(I:Addr)(fp:List Addr)(out:List Value)(St:Nat->Heap->Prop),(∀b o,s.heap.get? b=some o->h'.get? b=some o)->I∈fp->(∀b∈fp,b=a\/s.heap.objs.size<=b)->s.heap.objs.size<=I->out.Perm (es.toList.map (·.2))->
   (∀A:afU,A.handled=none->Walks prog w A I fp [I] n (λi v=>out[i]? =some v) St)->St 0 h'->Q (.ref I) { s with heap:=h',drawn:=d }):
  afH (afT prog w) A (pyIter (.ref a)) Q E s:=by
 have haz:a<s.heap.objs.size:=let⟨o,ho,_⟩:=hS;ae1 ho;refine wpAny_pyIter_slot hT PySem.F.slot_set_iter (ahB PySem.F.slot_set_iter hT abC ?_ (PySem.F.args_set_iter_1 _));unfold af8.«frozenset.__iter__»;refine aeS (ahZ (a:=a) rfl ?_);unfold af8.Frozenset.sizeOf;refine aeS (aeS (mC hS hf (aeX ?_)));obtain⟨oS,hoS,hdS⟩:=id hS;unfold setDrawn;refine aeS (aeS (ahD hoS hdS hf ?_));dsimp only;refine aeS (pL (aeX ?_));by_cases hd:(!gK w&&mD es t)=true
 ·refine ahF (λ_=>?_) (λz=>absurd hd z);refine aeS (IO _ _ _ _ length_range λps d hp=>?_);have hl:ps.length=n:=by rw[hp.length_eq,length_range,hn]
  refine aeS (wpAny_newTuple ?_ (by rw[length_map,hl];exact hz));have hS1:SAt (s.heap.push { cls:=.type "tuple",data:=.seq (ps.map λ(i:Nat)=>rawInt i).toArray }) a es ep t:=hS.at λo e=>aeT _ e;obtain⟨oS1,hoS1,hdS1⟩:=id hS1;unfold setEpoch;refine aeS (aeS (ahD hoS1 hdS1 hf (aeX ?_)));refine aeS (ahJ (aeX ⟨_,rfl,"set_iterator",_,⟨_,aeZ _ rfl,rfl⟩,slot_sin.lookup,?_⟩) (by size_fits));have e1:(s.heap.push { cls:=.type "tuple",data:=.seq (ps.map λ(i:Nat)=>rawInt i).toArray }).objs.size=s.heap.objs.size+1:=aiL _ _
  refine h _ d _ [(s.heap.push { cls:=.type "tuple",data:=.seq (ps.map λ(i:Nat)=>rawInt i).toArray }).objs.size,a,s.heap.objs.size] (lG es ps) _ (λb o e=>aeT _ (aeT _ e)) (by simp) (λb hb=>?_) (by rw[e1];exact Nat.le_succ _) ?_
   (λA' hA'=>L8 hA' (by rw[e1];exact ae7 (afZ haz)) (by rw[e1];exact ae7 (Nat.lt_succ_self _)) hf hn (hn▸hp)) ⟨hS1.at λo e=>aeT _ e,⟨_,aeZ _ rfl,rfl,?_⟩,⟨_,_,aeT _ (aeZ _ rfl),rfl⟩⟩
  ·rcases mem_cons.mp hb with rfl|hb
   ·exact .inr (by rw[e1];exact Nat.le_succ _)
   rcases mem_cons.mp hb with rfl|hb
   ·exact .inl rfl
   rw[mem_singleton]at hb;exact .inr (Nat.le_of_eq hb.symm)
  ·rw[<-UQ];exact hp.map _
  ·rw[hn];rfl
 ·refine ahF (λz=>absurd z hd) (λ_=>aeS (aeX ?_));unfold setEpoch;refine aeS (aeS (ahD hoS hdS hf (aeX ?_)));refine aeS (ahJ (aeX ⟨_,rfl,"set_iterator",_,⟨_,aeZ _ rfl,rfl⟩,slot_sin.lookup,?_⟩) (by size_fits));have hne:a≠s.heap.objs.size:=ae7 haz
  have hfp:∀b∈[s.heap.objs.size,a],b=a\/s.heap.objs.size<=b:=λb hb=>by
   rcases mem_cons.mp hb with rfl|hb
   ·exact .inr (aeU _)
   ·exact .inl (mem_singleton.mp hb)
  cases hb:gK w with
  |true=>
   obtain⟨out,hp,hw⟩:=L5 (prog:=prog) (w:=w) (ep:=ep) (t:=t) (I:=s.heap.objs.size) hne hf hn hb;refine h _ s.drawn _ [s.heap.objs.size,a] out _ (λb o e=>aeT _ e) (by simp) hfp (aeU _) hp hw ⟨hS.at λo e=>aeT _ e,_,aeZ _ rfl,rfl,?_⟩;rw[hn]
   rfl
  |false=>
   have hd':mD es t=false:=by rw[hb]at hd;simpa using hd
   have hl:t.led=true:=by rw[hU.2,hb];rfl
   refine h _ s.drawn _ [s.heap.objs.size,a] (es.toList.map (·.2)) _ (λb o e=>aeT _ e) (by simp) hfp (aeU _) (ah6.refl _) (λA' hA'=>L6 hA' hne hf hn hb hd' hl hU.1) ⟨hS.at λo e=>aeT _ e,_,aeZ _ rfl,rfl,?_⟩;rw[hn];rfl
end
section
variable{prog:afL}{w:agC}{A:afU}{E:Value->aeV->Prop}{s:aeV}{a:Addr}
theorem aaR{Q:Bool->aeV->Prop}(hT:s.TypeIs (.ref a) "set")(h:Q false s):afH (afT prog w) A (af8.List.listLengthHint (.ref a)) Q E s:=by
 unfold af8.List.listLengthHint;refine aeS (wpAny_specialOf hT PySem.F.slot_set_len.lookup ?_);generalize hid:("set.__len__":String)=id0
 wp_delta
 rw[show splitId id0=some ("set","__len__") from by subst hid;decide +kernel];subst hid;refine aeS (wpAny_isInstance (T:="set") (b:=true) hT (by rw[isSubtype_type];kernel_rfl) ?_);refine ahF (λhab=>absurd hab (by decide)) (λ_=>?_);refine ahF (λ_=>?_) (λhab=>absurd (by decide +kernel) hab);refine aeS (wpAny_typeOf hT ?_);exact aeX h
theorem Z6{P:List Value}{acc:Array Value}{n:Nat}(hl:P.length=n)(h:ItemsOf (λi v=>P[i]? =some v) acc n):acc.toList=P:=by
 refine aiF λi=>?_;rw[ahC];by_cases g:i<n
 ·have e:acc[i]? =some (acc[i]'(by have:=h.1;lia)):=ahA (by have:=h.1;lia);rw[e];exact(h.2 i _ e).symm
 ·rw[Array.getElem?_eq_none (by have:=h.1;lia),af0 (by lia)]
theorem abP{es:Array (Int×Value)}{ep:Nat}{t:afQ}{n:Nat}{Q:List Value->aeV->Prop}(hh:A.handled=none)(hT:s.TypeIs (.ref a) "set")(hS:SAt s.heap a es ep t)(hf:t.fits es.size=true)(hn:es.size=n)(hz:n<=sizeLine)(hU:mK w t)
  (h:∀(h':Heap)d tk(out:List Value),(∀b o,s.heap.get? b=some o->h'.get? b=some o)->s.heap.objs.size<=h'.objs.size->out.Perm (es.toList.map (·.2))->Q out { s with heap:=h',drawn:=d,toks:=tk }):
  afH (afT prog w) A (collect (.ref a)) Q E s:=by
 have haz:a<s.heap.objs.size:=let⟨o,ho,_⟩:=hS;ae1 ho;unfold collect;refine aeS (wpAny_runValue (af5 PySem.F.entry_proto_collect ?_));rw[afU.under_plainId PySem.F.plain_proto_collect _];show afH _ A.in1 (newList [] >>=λl=>again (.builtin "list.__iadd__" ⟨[l,.ref a],[]⟩)) _ _ s
 refine aeS (ahJ ?_);refine aeX ⟨agG PySem.F.plain_list_iadd _,af5 PySem.F.entry_list_iadd ?_⟩;rw[afU.under_plainId PySem.F.plain_list_iadd _];have k0:∀b o,s.heap.get? b=some o->(s.heap.push { cls:=.type "list",data:=.seq ([]:List Value).toArray }).get? b=some o:=λb o e=>aeT _ e;have hS0:(s.heap.push { cls:=.type "list",data:=.seq ([]:List Value).toArray }).get? s.heap.objs.size=some { cls:=.type "list",data:=.seq ([]:List Value).toArray }:=aeZ _ rfl;have z0:(s.heap.push { cls:=.type "list",data:=.seq ([]:List Value).toArray }).objs.size=s.heap.objs.size+1:=aiL _ _;generalize hG:s.heap.push { cls:=.type "list",data:=.seq ([]:List Value).toArray }=G at k0 hS0 z0;have hSa:s.heap.objs.size≠a:=Nat.ne_of_gt haz;have hT0:aeV.TypeIs { s with heap:=G } (.ref a) "set":=let⟨o,ho,hc⟩:=hT;⟨o,k0 a o ho,hc⟩;have h1:af8.List.listSameRef (.ref s.heap.objs.size) (.ref a)=false:=by simp[af8.List.listSameRef,hSa]
 show afH _ A.in1 (af8.List.listExtendWith (.ref s.heap.objs.size) (.ref a) (.ref s.heap.objs.size)) _ _ { s with heap:=G };unfold af8.List.listExtendWith;refine aeS (wpAny_typeOf hT0 ?_);rw[if_neg (by rw[h1];decide)];refine aeS (Z3 (s:={ s with heap:=G }) hT0 (hS.at λo e=>k0 a o e) hf hn hz hU λh1 d I fp out St k1 hI hfp hIz hp hw hst=>?_);have hl:out.length=n:=by rw[hp.length_eq,length_map,afF,hn]
 have hSf:s.heap.objs.size∉fp:=λhm=>by
  rcases hfp _ hm with e|e
  ·exact hSa e
  ·have e':G.objs.size<=s.heap.objs.size:=e;rw[z0]at e';exact absurd e' (Nat.not_succ_le_self _)
 have hS1:=k1 _ _ hS0;have hT1:aeV.TypeIs { s with heap:=h1,drawn:=d } (.ref a) "set":=let⟨o,ho,hc⟩:=hT0;⟨o,k1 a o ho,hc⟩;refine aeS (af2 (aaR hT1 ?_));refine ahF (λ_=>?_) (λz=>absurd (by decide +kernel) z);refine aeS (aiG ?_);refine aeS ?_;show afH _ _ (updateSeq s.heap.objs.size (·.push .none) >>=λ_=>updateSeq s.heap.objs.size (·.pop)) _ _ _
 refine aeS (ag2 hS1 rfl ?_);have hS2:=ag0 (afA (·.push Value.none)) hS1 rfl;refine ag2 (hz:=by seq_fits) hS2 rfl ?_;have hS3:=ag0 (afA (·.pop)) hS2 rfl
 have k3:∀b o,b≠s.heap.objs.size->h1.get? b=some o->((h1.update s.heap.objs.size (afA (·.push Value.none))).update s.heap.objs.size (afA (·.pop))).get? b=some o:=λb o hb e=>
  (ah1 _ _ (afY hb)).trans ((ah1 _ _ (afY hb)).trans e)
 have hh1:A.in1.handled=none:=hh;have W:=hw A.in1 hh1;have hst3:=W.frame 0 _ _ hst λb hb o e=>k3 b o (λz=>hSf (z▸hb)) e;refine aeX ⟨agG PySem.F.plain_extend_loop _,codeAny_extend_loopS W.toS hz _ hSf _ n 0 _ _ _ rfl (ae2 _) hst3 hS3 (ItemsOf.nil _) λs' acc' c' hm hS' hacc=>?_⟩;show afH _ A (load s.heap.objs.size >>=_) _ _ s'
 refine aeS (wpAny_load hS' ?_);show afH _ A (pure acc'.toList) _ _ s'
 rw[Z6 hl hacc,Moved.eq_with hm];refine aeX (h s'.heap d s'.toks out (λb o e=>hm.heap b o (λz=>?_) (k3 b o (ae7 (ae1 e)) (k1 b o (k0 b o e)))) (agP (ae1 hS')) hp);rcases mem_cons.mp z with z|z
 ·exact absurd z (ae7 (ae1 e))
 ·rw[mem_singleton]at z;have q:G.objs.size<=I:=hIz;rw[<-z,z0]at q;exact absurd (ae1 e) (Nat.not_lt.mpr (Nat.le_of_succ_le q))
theorem PC{G:Heap}{x:Addr}{vs:List Value}{out:Array Value}{b:Addr}{o:Obj}(hb:b≠x)(e:G.get? b=some o):(sortedHeap G x vs out).get? b=some o:=by
 have hlt:b<G.objs.size:=ae1 e;unfold sortedHeap;rw[ahK _ _ _ _ hb,agB _ _ _ (by rw[size_push',ag3];exact ae7 (afZ hlt)),agB _ _ _ (by rw[ag3];exact ae7 hlt),ahK _ _ _ _ hb];exact e
theorem PB{G:Heap}{x:Addr}{vs:List Value}{out:Array Value}{n:Nat}(e:G.get? x=some (afC "list" vs.toArray n)):∃n,(sortedHeap G x vs out).get? x=some (afC "list" out n):=by
 have hlt:x<G.objs.size:=ae1 e;unfold sortedHeap;obtain⟨e1,ho1⟩:∃e1,(G.update x (afA λ_=>(#[]:Array Value))).get? x=some (afC "list" #[] e1):=⟨_,agR e (λ_=>#[])⟩
 have ho6:(((G.update x (afA λ_=>(#[]:Array Value))).push (afC "tuple" vs.toArray 0)).push (afC "list" #[] 0)).get? x=some (afC "list" #[] e1):=by
  rw[agB _ _ _ (by rw[size_push',ag3];exact ae7 (afZ hlt)),agB _ _ _ (by rw[ag3];exact ae7 hlt)];exact ho1
 exact⟨_,agR ho6 λ_=>out⟩
structure j1 (ns ms:List Int):Prop where
 up:ms.Pairwise (· < ·)
 mem:∀k,k∈ms<->k∈ns
theorem E2:∀{L ns:List Int},L.Nodup->(∀x∈L,x∈ns)->ns.length=L.length->L.Perm ns
 |[],ns,_,_,h=>by rw[eq_nil_of_length_eq_zero h]
 | x::L,ns,nd,sub,h=>by
  have hx:=sub x mem_cons_self;rw[nodup_cons]at nd;have p1:=List.perm_cons_erase hx;refine((E2 nd.2 (λy hy=>?_) ?_).cons x).trans p1.symm
  ·exact(List.mem_erase_of_ne (λz:y=x=>nd.1 (z▸hy))).mpr (sub y (mem_cons_of_mem _ hy))
  ·have:=p1.length_eq;simp only[length_cons]at this h;lia
theorem oP(val:Nat->Int):∀i,(ahS val i).Nodup
 |0=>List.nodup_nil
 | i+1=>by
  rw[firstMet_succ];unfold step_dedup;split
  ·exact oP val i
  ·rename_i g;rw[List.nodup_append];refine⟨oP val i,by simp,λa ha b hb=>?_⟩;rw[mem_singleton]at hb;subst hb;exact λz=>g (any_eq_true.mpr ⟨a,ha,by rw[z];exact beq_self_eq_true _⟩)
theorem W3{ns:List Int}(k:Int):k∈ahS (λi=>ns.getD i 0) ns.length<->k∈ns:=by
 have h:=firstMet_any (λi=>ns.getD i 0) ns.length k
 have e:(range ns.length).map (λi=>ns.getD i 0)=ns:=by
  refine aiF λi=>?_;rw[ae4];by_cases g:i<ns.length
  ·rw[ahL g,aeY g];simp[ae9,g]
  ·rw[af0 (by simpa using g),af0 (by lia)];rfl
 rw[e]at h;have c:∀l:List Int,l.any (· ==k)=true<->k∈l:=λl=>by simp
 rw[<-c,<-c,h]
theorem G3:∀{l:List Int},l.Pairwise (· <= ·)->l.Nodup->l.Pairwise (· < ·)
 |[],_,_=>.nil
 |x::l,h,n=>by
  rw[pairwise_cons]at h ⊢;rw[nodup_cons]at n;exact⟨λy hy=>by have h1:=h.1 y hy;have h2:x≠y:=λz=>n.1 (z▸hy);lia,G3 h.2 n.2⟩
theorem aaF{es:List (Int×Value)}(h:ElemsOf (aiH prog w) es):∀{out:List Value},out.Perm (es.map (·.2))->∃ns,ah2 out ns/\∀k,k∈ns<->∃e∈es,(aiH prog w).is k e.2=true:=by
 intro out hp
 have key:∀l:List Value,(∀v∈l,v∈es.map (·.2))->∃ns,ah2 l ns/\∀k,k∈ns<->∃v∈l,Value.isInt k v=true:=by
  intro l
  induction l with
  |nil=>intro _;exact⟨[],.nil,λk=>by simp⟩
  | cons v l ih=>
   intro hv;obtain⟨ns,h1,h2⟩:=ih λu hu=>hv u (mem_cons_of_mem _ hu);obtain⟨e,he,ee⟩:=mem_map.mp (hv v mem_cons_self);obtain⟨⟨k,hk,_⟩,_⟩:=h e he;obtain⟨t,et⟩:=Value.isInt_shape hk;obtain rfl:v=.int k t:=ee.symm.trans et;refine⟨k::ns,.cons k t h1,λj=>?_⟩;rw[mem_cons,h2 j];have:Value.isInt j (.int k t)=true<->j=k:=⟨λq=>by(obtain⟨t',e'⟩:=Value.isInt_shape q;cases e';rfl),λe'=>by(rw[e'];exact intKind_is prog w k t)⟩
   constructor
   ·rintro(rfl|⟨u,hu,q⟩)
    ·exact⟨_,mem_cons_self,this.mpr rfl⟩
    ·exact⟨u,mem_cons_of_mem _ hu,q⟩
   ·rintro⟨u,hu,q⟩;rcases mem_cons.mp hu with rfl|hu
    ·exact .inl (this.mp q)
    ·exact .inr ⟨u,hu,q⟩
 obtain⟨ns,h1,h2⟩:=key out λv hv=>hp.mem_iff.mp hv;refine⟨ns,h1,λk=>(h2 k).trans ⟨λ⟨v,hv,q⟩=>?_,λ⟨e,he,q⟩=>⟨e.2,hp.mem_iff.mpr (mem_map.mpr ⟨e,he,rfl⟩),q⟩⟩⟩;obtain⟨e,he,ee⟩:=mem_map.mp (hp.mem_iff.mp hv);exact⟨e,he,by rw[ee];exact q⟩
theorem O8{ns:List Int}{Q:Value->aeV->Prop}(hh:A.handled=none)(hS:SetU prog w s.heap a (λk=>(ahS (λi=>ns.getD i 0) ns.length).any (· ==k)) (ahS (λi=>ns.getD i 0) ns.length).length)(h64:ns.length<64)
  (h:∀(h':Heap)d tk(l:Addr)(n:Nat)(out:Array Value)(ms:List Int),(∀b o,s.heap.get? b=some o->h'.get? b=some o)->s.heap.objs.size<=l->h'.get? l=some (afC "list" out n)->ah2 out.toList ms->j1 ns ms->ms.length<=ns.length->Q (.ref l) { s with heap:=h',drawn:=d,toks:=tk }):
  afH (afT prog w) A (call (.builtin "sorted") [.ref a]) Q E s:=by
 obtain⟨o,es,ep,t,ho,hel,hm,hb,hf,hn,hU⟩:=hS;have hle:=firstMet_length_le (λi=>ns.getD i 0) ns.length;have hz:(ahS (λi=>ns.getD i 0) ns.length).length<=sizeLine:=by rw[sizeLine_eq];lia
 refine ah9 kind_sorted plain_sorted entry_sorted (args_sorted1 _) ?_;unfold af8.«sorted»;refine aeS (m:=checkCount "sorted" 1 1 _) (aeX ?_);refine aeS (abP (by simpa using hh) ⟨o,ho.1,ho.2.1.1⟩ ⟨o,ho.1,ho.2.2⟩ hf hn hz hU λh1 d tk vs k1 hz1 hp=>?_);obtain⟨ns1,hI,hmem⟩:=aaF hel hp;have hvl:vs.length=(ahS (λi=>ns.getD i 0) ns.length).length:=by rw[hp.length_eq,length_map,afF,hn]
 have hnl:ns1.length=(ahS (λi=>ns.getD i 0) ns.length).length:=by rw[<-ah2.length hI,hvl]
 have pm:(ahS (λi=>ns.getD i 0) ns.length).Perm ns1:=E2 (oP _ _) (λx hx=>(hmem x).mpr ((hm x).mp (any_eq_true.mpr ⟨x,hx,beq_self_eq_true _⟩))) hnl;refine aeS (ahN ?_ (by rw[hvl];exact hz));have hk1:(h1.push (afC "list" vs.toArray 0)).get? h1.objs.size=some (afC "list" vs.toArray 0):=aeZ _ rfl;show afH _ _ _ _ _ { s with heap:=h1.push (afC "list" vs.toArray 0),drawn:=d,toks:=tk }
 refine aeS (af2 (ahB slot_list_sort ⟨_,hk1,rfl⟩ entry_list_sort (list_sort_tree hk1 hI (by lia) λout ms a1 a2 a3=>⟨_,rfl,?_⟩) (args_list_sort _)));have hnew:=PB (out:=out) hk1;obtain⟨n,hn'⟩:=hnew;refine aeX ⟨_,rfl,h _ d tk h1.objs.size n out ms (λb o e=>PC (ae7 (ae1 (k1 b o e))) (aeT _ (k1 b o e))) hz1 hn' a1 ⟨G3 a3 ?_,λk=>?_⟩ ?_⟩
 ·exact(a2.trans pm.symm).nodup_iff.mpr (oP _ _)
 ·rw[(a2.trans pm.symm).mem_iff,W3]
 ·rw[(a2.trans pm.symm).length_eq];exact hle
end
section
variable{X:Cx}
theorem Inv.drawn{pins:List (Addr×Obj)}{σ:St}{H:Hp}{s:aeV}(I:Inv X pins σ H s)(d:Drawn):Inv X pins σ H { s with drawn:=d }:=⟨I.ok,I.os,I.bare,I.base,I.loc,I.cell,I.free,I.freeC,I.pin,I.hok,I.len⟩
noncomputable def qN(K:PySem.W.Frag)(ta:TA):TE:=λσ H Q=>ta σ H λvs H1=>∃(p:Addr)(ns:List Int),vs=[.ref p]/\SqL K H1 p (ns.map V.int)/\ns.length<64/\
 ∀(l:Addr)(ms:List Int),H1 l=none->j1 ns ms->Q (.ref l) (upd H1 l (.lst (ms.map V.int)))
theorem UG{e:Expr}{ta:TA}{p1 p2 p3 p4:Pos}(hc:X.calm=true)(hg:Gl X "sorted")(hm:X.mg "sorted"=none)(hg2:Gl X "set")(hm2:X.mg "set"=none)(ha:PA X [e] ta)(hs:af6 [e] X.env=[(false,eval e X.env)]:=by rfl)
  (hs2:af6 [Expr.Call (.Name "set" p2) [e] [] p3] X.env=[(false,eval (.Call (.Name "set" p2) [e] [] p3) X.env)]:=by rfl):
  PE X (.Call (.Name "sorted" p1) [.Call (.Name "set" p2) [e] [] p3] [] p4) (qN X.K ta):=by
 intro pins s σ H Q I h;refine ah5 (fO I hg hm pM (PyProof.Rows.callWith_builtin1 ?_ hs2 rfl) (by decide) (by decide));rw[hs2];show afH _ _ (spliced ((false,eval (.Call (.Name "set" p2) [e] [] p3) X.env)::backTo p4 [])) _ _ s
 refine Calls.spliced_cons (Call_ (fO I hg2 hm2 acL (agM (aK (ha p3 pins s σ H _ I h) λus s1⟨vs,H1,I1,r1,q1⟩=>?_) hs rfl)));obtain⟨b,ns,e,hq,hz1,q⟩:=q1;subst e;obtain⟨u,rfl,rx⟩:=Vals.one r1;obtain rfl:u=af4 b:=rx;obtain⟨its,rv,pl,hz⟩:=I1.list hq;have hi:=intsAre_of rv;have hsz:its.toArray.size=ns.length:=by rw[size_toArray,<-rv.length,length_map]
 have hsc:its.toArray.size+1<scanBound:=Nat.lt_of_le_of_lt (Nat.succ_le_of_lt (by rw[hsz];exact hz1)) (by decide);refine ab0 (I1.ok.hd hc) pl.isList hi hsc λh' tk hS hk=>?_;have I2:Inv X pins σ H1 { s1 with heap:=h',toks:=tk }:=I1.kept λc o e=>hk c o e;refine Calls.spliced_nil ?_;rw[hsz]at hS;refine O8 (s:={ s1 with heap:=h',toks:=tk }) (I1.ok.hd hc) hS hz1 λh2 d tk2 l n out ms k2 hl ho ia nb hle=>?_;have hv:=MF ia;refine⟨.ref l,_,(I2.drawn d).laid (t':=tk2) (o:=.lst (ms.map V.int)) k2 hl ⟨?_,out.toList,n,hv,by simpa using ho⟩,rfl,q l ms (I2.hok.fresh hl) nb⟩;rw[length_map,sizeLine_eq];lia
theorem ZO(K:PySem.W.Frag){e:Expr}{ta:TA}{p1 p2 p3 p4:Pos}(hg:Gl X "sorted")(hm:X.mg "sorted"=none)(hg2:Gl X "set")(hm2:X.mg "set"=none)(ha:PA X [e] ta)(hc:X.calm=true:=by rfl)(h:X.K=K:=by rfl)(hs:af6 [e] X.env=[(false,eval e X.env)]:=by rfl)
  (hs2:af6 [Expr.Call (.Name "set" p2) [e] [] p3] X.env=[(false,eval (.Call (.Name "set" p2) [e] [] p3) X.env)]:=by rfl):
  PE X (.Call (.Name "sorted" p1) [.Call (.Name "set" p2) [e] [] p3] [] p4) (qN K ta):=h▸UG hc hg hm hg2 hm2 ha hs hs2
theorem RG{K:PySem.W.Frag}{σ:St}{H:Hp}{Q:VK}{ta:TA}(h:ta σ H λvs H1=>∃(p:Addr)(ns:List Int),vs=[.ref p]/\SqL K H1 p (ns.map V.int)/\ns.length<64/\∀(l:Addr)(ms:List Int),H1 l=none->j1 ns ms->Q (.ref l) (upd H1 l (.lst (ms.map V.int)))):qN K ta σ H Q:=h
end
section
variable{X:Cx}{a b:Expr}{bM:List Expr}{pos:Pos}{ta tb:TE}
noncomputable def qP(K:PySem.W.Frag)(ta tb:TE):TE:=λσ H Q=>ta σ H λx H1=>∃k,AQ K x H1 k/\if k=true then Q x H1 else tb σ H1 Q
theorem UH(ha:PE X a ta)(hb:PE X (.BoolOp .Or (b::bM) pos) tb):PE X (.BoolOp .Or (a::b::bM) pos) (qP X.K ta tb):=by
 intro pins s σ H Q I h;refine BoolOp_or (aK (ha pins s σ H _ I h) λv s1⟨x,H1,I1,r1,q1⟩=>?_);refine aK (MX pins s1 σ H1 x v (λk H2=>if k=true then Q x H2 else tb σ H2 Q) I1 r1 q1) λk s2⟨H2,I2,q2⟩=>?_
 cases k with
 |false=>exact hb pins s2 σ H2 Q I2 q2
 |true=>exact⟨x,H2,I2,r1,q2⟩
theorem HG(K:PySem.W.Frag)(ha:PE X a ta)(hb:PE X (.BoolOp .Or (b::bM) pos) tb)(h:X.K=K:=by rfl):PE X (.BoolOp .Or (a::b::bM) pos) (qP K ta tb):=h▸UH ha hb
theorem D2{K:PySem.W.Frag}{σ:St}{H:Hp}{Q:VK}(h:ta σ H λx H1=>∃k,AQ K x H1 k/\if k=true then Q x H1 else tb σ H1 Q):qP K ta tb σ H Q:=h
end
end L2
namespace My
open PySem L2
noncomputable def aR(i:Nat):Stmt:=PySem.Challenge.pw_noticed_k40_whole_again_and_kept.main.body.getD i (.Pass ⟨0,0,0,0⟩)
noncomputable abbrev rS:Stmt:=aR 12
noncomputable abbrev rT:Stmt:=aR 13
noncomputable abbrev rY:Stmt:=aR 14
noncomputable abbrev rX:Stmt:=aR 15
noncomputable abbrev sD:Stmt:=aR 16
noncomputable abbrev rV:Stmt:=aR 17
noncomputable abbrev rZ:Stmt:=aR 18
noncomputable abbrev rW:Stmt:=aR 19
noncomputable abbrev rN:Stmt:=aR 20
noncomputable abbrev rL:Stmt:=aR 21
noncomputable abbrev rK:Stmt:=aR 22
noncomputable abbrev rM:Stmt:=aR 23
noncomputable abbrev sU:Stmt:=aR 25
noncomputable abbrev sV:Stmt:=aR 26
noncomputable abbrev sG:Stmt:=aR 27
noncomputable abbrev sI:Stmt:=aR 28
noncomputable abbrev sX:Stmt:=aR 29
noncomputable abbrev rJ:Stmt:=aR 30
noncomputable abbrev sZ:Stmt:=aR 32
noncomputable abbrev sT:Stmt:=aR 33
noncomputable abbrev rP:Stmt:=aR 35
noncomputable abbrev rQ:Stmt:=aR 36
noncomputable abbrev tD:Stmt:=aR 37
noncomputable abbrev rH:Stmt:=aR 38
noncomputable abbrev tG:Stmt:=aR 39
noncomputable abbrev tF:Stmt:=aR 40
noncomputable abbrev rR:Stmt:=aR 41
noncomputable abbrev q9:Stmt:=aR 42
noncomputable abbrev rO:Stmt:=aR 43
noncomputable abbrev sS:Stmt:=aR 44
noncomputable abbrev sY:Stmt:=aR 45
noncomputable abbrev sK:Stmt:=aR 46
noncomputable abbrev sJ:Stmt:=aR 47
noncomputable abbrev sP:Stmt:=aR 49
noncomputable abbrev tH:Stmt:=aR 50
noncomputable abbrev rF:Stmt:=aR 51
noncomputable abbrev rG:Stmt:=aR 52
noncomputable abbrev rE:Stmt:=aR 53
noncomputable abbrev rA:Stmt:=aR 54
noncomputable abbrev rD:Stmt:=aR 55
noncomputable abbrev sE:Stmt:=aR 58
noncomputable abbrev rB:Stmt:=aR 59
noncomputable abbrev rC:Stmt:=aR 60
noncomputable abbrev qZ:Stmt:=aR 61
noncomputable abbrev sR:Stmt:=aR 62
noncomputable abbrev tE:Stmt:=aR 63
noncomputable abbrev sQ:Stmt:=aR 65
noncomputable abbrev sL:Stmt:=aR 66
noncomputable abbrev sM:Stmt:=aR 67
noncomputable abbrev sF:Stmt:=aR 68
noncomputable abbrev sW:Stmt:=aR 69
noncomputable abbrev tQ:Stmt:=aR 71
noncomputable abbrev tL:Stmt:=aR 72
noncomputable abbrev tP:Stmt:=aR 73
noncomputable abbrev tK:Stmt:=aR 74
noncomputable abbrev tM:Stmt:=aR 75
noncomputable abbrev tO:Stmt:=aR 76
noncomputable abbrev tI:Stmt:=aR 77
noncomputable abbrev tJ:Stmt:=aR 78
noncomputable abbrev tR:Stmt:=aR 79
noncomputable abbrev tN:Stmt:=aR 80
noncomputable abbrev nG:Stmt:=aR 81
theorem P6:aO ["value","low","high"] ["value","low","high"] (aL rS):=⟨rfl,rfl,rfl,by decide +kernel,rfl,by decide +kernel,by decide +kernel⟩
theorem P7:aO ["value","many"] ["value","many"] (aL rT):=⟨rfl,rfl,rfl,by decide +kernel,rfl,by decide +kernel,by decide +kernel⟩
theorem QA:aO ["value","many"] ["value","many"] (aL rY):=⟨rfl,rfl,rfl,by decide +kernel,rfl,by decide +kernel,by decide +kernel⟩
theorem P9:aO ["pairs"] ["pairs"] (aL rX):=⟨rfl,rfl,rfl,by decide +kernel,rfl,by decide +kernel,by decide +kernel⟩
theorem sc_is_order:aO ["value","many","pairs"] ["value"] (aL sD):=⟨rfl,rfl,rfl,by decide +kernel,rfl,by decide +kernel,by decide +kernel⟩
theorem P8:aO ["value"] ["value"] (aL rV):=⟨rfl,rfl,rfl,by decide +kernel,rfl,by decide +kernel,by decide +kernel⟩
theorem QB:aO ["value"] ["value"] (aL rZ):=⟨rfl,rfl,rfl,by decide +kernel,rfl,by decide +kernel,by decide +kernel⟩
theorem sc_is_several:aO ["value","counts"] ["value"] (aL rW):=⟨rfl,rfl,rfl,by decide +kernel,rfl,by decide +kernel,by decide +kernel⟩
theorem P2:aO ["value"] ["value"] (aL rN):=⟨rfl,rfl,rfl,by decide +kernel,rfl,by decide +kernel,by decide +kernel⟩
theorem PZ:aO ["value"] ["value"] (aL rL):=⟨rfl,rfl,rfl,by decide +kernel,rfl,by decide +kernel,by decide +kernel⟩
theorem PY:aO ["value","many"] ["value","many"] (aL rK):=⟨rfl,rfl,rfl,by decide +kernel,rfl,by decide +kernel,by decide +kernel⟩
theorem P1:aO ["value"] ["value"] (aL rM):=⟨rfl,rfl,rfl,by decide +kernel,rfl,by decide +kernel,by decide +kernel⟩
theorem QJ:aO ["pairs","a","b","c","d"] ["pairs","a","b","c","d"] (aL sU):=⟨rfl,rfl,rfl,by decide +kernel,rfl,by decide +kernel,by decide +kernel⟩
theorem QK:aO ["pairs","a","b","c","d"] ["pairs","a","b","c","d"] (aL sV):=⟨rfl,rfl,rfl,by decide +kernel,rfl,by decide +kernel,by decide +kernel⟩
theorem sc_first_two:aO ["pairs","a","b","c","d"] ["pairs"] (aL sG):=⟨rfl,rfl,rfl,by decide +kernel,rfl,by decide +kernel,by decide +kernel⟩
theorem sc_first_three:aO ["many","pairs","a","b","c","d"] ["many","pairs"] (aL sI):=⟨rfl,rfl,rfl,by decide +kernel,rfl,by decide +kernel,by decide +kernel⟩
theorem sc_bar:aO ["order","found"] ["order"] (aL sX):=⟨rfl,rfl,rfl,by decide +kernel,rfl,by decide +kernel,by decide +kernel⟩
theorem PX:aO ["order"] ["order"] (aL rJ):=⟨rfl,rfl,rfl,by decide +kernel,rfl,by decide +kernel,by decide +kernel⟩
theorem QL:aO ["pairs","one","other"] ["pairs","one","other"] (aL sZ):=⟨rfl,rfl,rfl,by decide +kernel,rfl,by decide +kernel,by decide +kernel⟩
theorem QI:aO ["order","thing"] ["order","thing"] (aL sT):=⟨rfl,rfl,rfl,by decide +kernel,rfl,by decide +kernel,by decide +kernel⟩
theorem P4:aO ["allowed","part","thing"] ["allowed","part","thing"] (aL rP):=⟨rfl,rfl,rfl,by decide +kernel,rfl,by decide +kernel,by decide +kernel⟩
theorem sc_longer_parts:aO ["many","allowed","parts","found","part","thing"] ["many","allowed","parts"] (aL rQ):=⟨rfl,rfl,rfl,by decide +kernel,rfl,by decide +kernel,by decide +kernel⟩
theorem sc_all_parts:aO ["many","allowed","found","parts"] ["many","allowed"] (aL tD):=⟨rfl,rfl,rfl,by decide +kernel,rfl,by decide +kernel,by decide +kernel⟩
theorem sc_pairs_beside:aO ["order","found","one","other"] ["order"] (aL rH):=⟨rfl,rfl,rfl,by decide +kernel,rfl,by decide +kernel,by decide +kernel⟩
theorem QN:aO ["order"] ["order"] (aL tG):=⟨rfl,rfl,rfl,by decide +kernel,rfl,by decide +kernel,by decide +kernel⟩
theorem QM:aO ["order"] ["order"] (aL tF):=⟨rfl,rfl,rfl,by decide +kernel,rfl,by decide +kernel,by decide +kernel⟩
theorem P5:aO ["part","things"] ["part","things"] (aL rR):=⟨rfl,rfl,rfl,by decide +kernel,rfl,by decide +kernel,by decide +kernel⟩
theorem PR:aO ["things","part"] ["things","part"] (aL q9):=⟨rfl,rfl,rfl,by decide +kernel,rfl,by decide +kernel,by decide +kernel⟩
theorem P3:aO ["parts","things"] ["parts","things"] (aL rO):=⟨rfl,rfl,rfl,by decide +kernel,rfl,by decide +kernel,by decide +kernel⟩
theorem QH:aO ["part","across","things"] ["part","across","things"] (aL sS):=⟨rfl,rfl,rfl,by decide +kernel,rfl,by decide +kernel,by decide +kernel⟩
theorem sc_as_few_as_can_be:aO ["many","parts","across","things","chosen","within","least_part"] ["many","parts","across"] (aL sY):=⟨rfl,rfl,rfl,by decide +kernel,rfl,by decide +kernel,by decide +kernel⟩
theorem QD:aO ["order"] ["order"] (aL sK):=⟨rfl,rfl,rfl,by decide +kernel,rfl,by decide +kernel,by decide +kernel⟩
theorem QC:aO ["order"] ["order"] (aL sJ):=⟨rfl,rfl,rfl,by decide +kernel,rfl,by decide +kernel,by decide +kernel⟩
theorem QF:aO ["pairs","step","one","other"] ["pairs","step","one","other"] (aL sP):=⟨rfl,rfl,rfl,by decide +kernel,rfl,by decide +kernel,by decide +kernel⟩
theorem sc_all_demands:aO ["order","step","demands","one","other","by"] ["order","step"] (aL tH):=⟨rfl,rfl,rfl,by decide +kernel,rfl,by decide +kernel,by decide +kernel⟩
theorem sc_raise_once:aO ["demands","values","origins","raised","one","other","by"] ["demands","values","origins"] (aL rF):=⟨rfl,rfl,rfl,by decide +kernel,rfl,by decide +kernel,by decide +kernel⟩
theorem sc_raise_all:aO ["demands","values","origins","raised","turn"] ["demands","values","origins"] (aL rG):=⟨rfl,rfl,rfl,by decide +kernel,rfl,by decide +kernel,by decide +kernel⟩
theorem sc_round_behind:aO ["origins","raised","start","turn","things","thing"] ["origins","raised"] (aL rE):=⟨rfl,rfl,rfl,by decide +kernel,rfl,by decide +kernel,by decide +kernel⟩
theorem sc_things_in_round:aO ["many","demands","origins","raised"] ["many","demands"] (aL rA):=⟨rfl,rfl,rfl,by decide +kernel,rfl,by decide +kernel,by decide +kernel⟩
theorem PV:aO ["order","step"] ["order","step"] (aL rD):=⟨rfl,rfl,rfl,by decide +kernel,rfl,by decide +kernel,by decide +kernel⟩
theorem sc_height:aO ["pairs","thing","less","more"] ["pairs","thing"] (aL sE):=⟨rfl,rfl,rfl,by decide +kernel,rfl,by decide +kernel,by decide +kernel⟩
theorem PU:aO ["heights","level"] ["heights","level"] (aL rB):=⟨rfl,rfl,rfl,by decide +kernel,rfl,by decide +kernel,by decide +kernel⟩
theorem sc_row:aO ["order","heights"] ["order"] (aL rC):=⟨rfl,rfl,rfl,by decide +kernel,rfl,by decide +kernel,by decide +kernel⟩
theorem sc_unlike_pairs:aO ["many","pairs","one","other"] ["many"] (aL qZ):=⟨rfl,rfl,rfl,by decide +kernel,rfl,by decide +kernel,by decide +kernel⟩
theorem sc_choices:aO ["pairs","chosen","pair"] ["pairs"] (aL sR):=⟨rfl,rfl,rfl,by decide +kernel,rfl,by decide +kernel,by decide +kernel⟩
theorem sc_all_orders:aO ["many","orders"] ["many"] (aL tE):=⟨rfl,rfl,rfl,by decide +kernel,rfl,by decide +kernel,by decide +kernel⟩
theorem QG:aO ["several"] ["several"] (aL sQ):=⟨rfl,rfl,rfl,by decide +kernel,rfl,by decide +kernel,by decide +kernel⟩
theorem sc_demands_of_all:aO ["several","demands","order","step"] ["several"] (aL sL):=⟨rfl,rfl,rfl,by decide +kernel,rfl,by decide +kernel,by decide +kernel⟩
theorem QE:aO ["several","place","one","other"] ["several","place","one","other"] (aL sM):=⟨rfl,rfl,rfl,by decide +kernel,rfl,by decide +kernel,by decide +kernel⟩
theorem sc_greatest_place:aO ["several","one","other","places"] ["several","one","other"] (aL sF):=⟨rfl,rfl,rfl,by decide +kernel,rfl,by decide +kernel,by decide +kernel⟩
theorem sc_bar_for:aO ["several","things","following"] ["several"] (aL sW):=⟨rfl,rfl,rfl,by decide +kernel,rfl,by decide +kernel,by decide +kernel⟩
theorem QR:aO ["_law_script","_law_k"] ["_law_script","_law_k"] (aL tQ):=⟨rfl,rfl,rfl,by decide +kernel,rfl,by decide +kernel,by decide +kernel⟩
theorem sc__law_mixed:aO ["_law_script","_law_k","_law_many","_law_drawn"] ["_law_script","_law_k","_law_many"] (aL tL):=⟨rfl,rfl,rfl,by decide +kernel,rfl,by decide +kernel,by decide +kernel⟩
theorem QQ:aO ["_law_script","_law_town","_law_many"] ["_law_script","_law_town","_law_many"] (aL tP):=⟨rfl,rfl,rfl,by decide +kernel,rfl,by decide +kernel,by decide +kernel⟩
theorem QO:aO ["_law_script","_law_town","_law_some"] ["_law_script","_law_town","_law_some"] (aL tK):=⟨rfl,rfl,rfl,by decide +kernel,rfl,by decide +kernel,by decide +kernel⟩
theorem sc__law_free:aO ["_law_script","_law_town","_law_low","_law_most","_law_step","_law_wide","_law_many","_law_line_up","_law_pairs","_law_one"] ["_law_script","_law_town","_law_low","_law_most"] (aL tM):=⟨rfl,rfl,rfl,by decide +kernel,rfl,by decide +kernel,by decide +kernel⟩
theorem sc__law_few:aO ["_law_script","_law_town","_law_most","_law_many","_law_pairs","_law_one"] ["_law_script","_law_town","_law_most"] (aL tO):=⟨rfl,rfl,rfl,by decide +kernel,rfl,by decide +kernel,by decide +kernel⟩
theorem sc__law_told:aO ["_law_step","_law_values","_law_pairs","_law_one"] ["_law_step","_law_values"] (aL tI):=⟨rfl,rfl,rfl,by decide +kernel,rfl,by decide +kernel,by decide +kernel⟩
theorem sc__law_several:aO ["_law_script","_law_town","_law_way","_law_times","_law_wide","_law_many","_law_k","_law_values","_law_other","_law_made","_law_step"] ["_law_script","_law_town"] (aL tJ):=⟨rfl,rfl,rfl,by decide +kernel,rfl,by decide +kernel,by decide +kernel⟩
theorem QS:aO ["_law_what","_law_order","_law_several_here"] ["_law_what","_law_order","_law_several_here"] (aL tR):=⟨rfl,rfl,rfl,by decide +kernel,rfl,by decide +kernel,by decide +kernel⟩
theorem QP:aO ["_law_made"] ["_law_made"] (aL tN):=⟨rfl,rfl,rfl,by decide +kernel,rfl,by decide +kernel,by decide +kernel⟩
theorem sc_law:aO ["_law_script","_law_town","_law_begin","_law_order","_law_several_here","_law_values","_law_kept","_law_k","_law_what","_law_made","_law_copy","_law_again"] ["_law_script"] (aL nG):=⟨rfl,rfl,rfl,by decide +kernel,rfl,by decide +kernel,by decide +kernel⟩
set_option genSizeOf false
set_option genInjectivity false
structure Ad where
 zF:Addr
 wX:afD
 zG:Addr
 wY:afD
 zK:Addr
 w6:afD
 zJ:Addr
 w5:afD
 zM:Addr
 xA:afD
 zH:Addr
 wZ:afD
 zL:Addr
 w9:afD
 zI:Addr
 w4:afD
 y9:Addr
 wR:afD
 y7:Addr
 wP:afD
 y6:Addr
 wO:afD
 y8:Addr
 wQ:afD
 z3:Addr
 xO:afD
 z4:Addr
 xP:afD
 zP:Addr
 xD:afD
 zQ:Addr
 xE:afD
 z6:Addr
 xR:afD
 y4:Addr
 wN:afD
 z8:Addr
 xT:afD
 zZ:Addr
 xN:afD
 zB:Addr
 wT:afD
 zC:Addr
 wU:afD
 z9:Addr
 xU:afD
 y3:Addr
 wM:afD
 AC:Addr
 xX:afD
 AB:Addr
 xW:afD
 zE:Addr
 wW:afD
 yS:Addr
 wE:afD
 zA:Addr
 wS:afD
 zY:Addr
 xM:afD
 z7:Addr
 xS:afD
 zS:Addr
 xG:afD
 zR:Addr
 xF:afD
 zV:Addr
 xJ:afD
 AD:Addr
 xY:afD
 yY:Addr
 wK:afD
 yZ:Addr
 wL:afD
 yX:Addr
 wJ:afD
 yT:Addr
 wF:afD
 yW:Addr
 wI:afD
 zN:Addr
 xB:afD
 yU:Addr
 wG:afD
 yV:Addr
 wH:afD
 yR:Addr
 wC:afD
 zX:Addr
 xL:afD
 AA:Addr
 xV:afD
 zW:Addr
 xK:afD
 zT:Addr
 xH:afD
 zU:Addr
 xI:afD
 zO:Addr
 xC:afD
 z5:Addr
 xQ:afD
 AM:Addr
 yD:afD
 AH:Addr
 x8:afD
 AL:Addr
 yC:afD
 AG:Addr
 x6:afD
 AI:Addr
 x9:afD
 AK:Addr
 yB:afD
 AE:Addr
 xZ:afD
 AF:Addr
 x5:afD
 AN:Addr
 yE:afD
 AJ:Addr
 yA:afD
 zD:Addr
 wV:afD
structure aP (K:PySem.W.Frag) (mg:Str->Option Value) (t:Ad):Prop where
 oR:mg "is_whole"=some (.ref t.zF)
 mQ:Fun K "is_whole" "is_whole" rS t.zF t.wX
 pN:Binds K t.wX ["value","low","high"] []
 vE:mg "is_thing"=some (.ref t.zG)
 p7:Fun K "is_thing" "is_thing" rT t.zG t.wY
 yP:Binds K t.wY ["value","many"] []
 XX:mg "is_pair"=some (.ref t.zK)
 KZ:Fun K "is_pair" "is_pair" rY t.zK t.w6
 adH:Binds K t.w6 ["value","many"] []
 XW:mg "is_rising"=some (.ref t.zJ)
 KY:Fun K "is_rising" "is_rising" rX t.zJ t.w5
 adG:Binds K t.w5 ["pairs"] []
 GO:mg "is_order"=some (.ref t.zM)
 AY:Fun K "is_order" "is_order" sD t.zM t.xA
 JM:Binds K t.xA ["value"] []
 GN:mg "is_step"=some (.ref t.zH)
 AX:Fun K "is_step" "is_step" rV t.zH t.wZ
 JL:Binds K t.wZ ["value"] []
 XY:mg "is_order_with_step"=some (.ref t.zL)
 K0:Fun K "is_order_with_step" "is_order_with_step" rZ t.zL t.w9
 adI:Binds K t.w9 ["value"] []
 XV:mg "is_several"=some (.ref t.zI)
 KW:Fun K "is_several" "is_several" rW t.zI t.w4
 adF:Binds K t.w4 ["value"] []
 vD:mg "need_order"=some (.ref t.y9)
 pZ:Fun K "need_order" "need_order" rN t.y9 t.wR
 yO:Binds K t.wR ["value"] []
 XQ:mg "need_step"=some (.ref t.y7)
 KQ:Fun K "need_step" "need_step" rL t.y7 t.wP
 adB:Binds K t.wP ["value"] []
 XO:mg "need_thing"=some (.ref t.y6)
 KP:Fun K "need_thing" "need_thing" rK t.y6 t.wO
 adA:Binds K t.wO ["value","many"] []
 XR:mg "need_several"=some (.ref t.y8)
 KR:Fun K "need_several" "need_several" rM t.y8 t.wQ
 adC:Binds K t.wQ ["value"] []
 X9:mg "bars_as_two"=some (.ref t.z3)
 LI:Fun K "bars_as_two" "bars_as_two" sU t.z3 t.xO
 adU:Binds K t.xO ["pairs","a","b","c","d"] []
 YA:mg "bars_as_three"=some (.ref t.z4)
 LJ:Fun K "bars_as_three" "bars_as_three" sV t.z4 t.xP
 adV:Binds K t.xP ["pairs","a","b","c","d"] []
 X0:mg "first_two"=some (.ref t.zP)
 K3:Fun K "first_two" "first_two" sG t.zP t.xD
 adL:Binds K t.xD ["pairs"] []
 X1:mg "first_three"=some (.ref t.zQ)
 LA:Fun K "first_three" "first_three" sI t.zQ t.xE
 adM:Binds K t.xE ["many","pairs"] []
 GS:mg "bar"=some (.ref t.z6)
 A2:Fun K "bar" "bar" sX t.z6 t.xR
 JP:Binds K t.xR ["order"] []
 vC:mg "need_unbarred"=some (.ref t.y4)
 pY:Fun K "need_unbarred" "need_unbarred" rJ t.y4 t.wN
 yN:Binds K t.wN ["order"] []
 GU:mg "are_beside"=some (.ref t.z8)
 A5:Fun K "are_beside" "are_beside" sZ t.z8 t.xT
 JR:Binds K t.xT ["pairs","one","other"] []
 X8:mg "beside"=some (.ref t.zZ)
 LH:Fun K "beside" "beside" sT t.zZ t.xN
 adT:Binds K t.xN ["order","thing"] []
 XS:mg "may_stand_behind"=some (.ref t.zB)
 KS:Fun K "may_stand_behind" "may_stand_behind" rP t.zB t.wT
 adD:Binds K t.wT ["allowed","part","thing"] []
 XT:mg "longer_parts"=some (.ref t.zC)
 KT:Fun K "longer_parts" "longer_parts" rQ t.zC t.wU
 adE:Binds K t.wU ["many","allowed","parts"] []
 GV:mg "all_parts"=some (.ref t.z9)
 A6:Fun K "all_parts" "all_parts" tD t.z9 t.xU
 JS:Binds K t.xU ["many","allowed"] []
 XN:mg "pairs_beside"=some (.ref t.y3)
 KO:Fun K "pairs_beside" "pairs_beside" rH t.y3 t.wM
 ac9:Binds K t.wM ["order"] []
 GX:mg "all_groups"=some (.ref t.AC)
 A8:Fun K "all_groups" "all_groups" tG t.AC t.xX
 JU:Binds K t.xX ["order"] []
 GW:mg "all_lines"=some (.ref t.AB)
 A7:Fun K "all_lines" "all_lines" tF t.AB t.xW
 JT:Binds K t.xW ["order"] []
 GL:mg "is_within"=some (.ref t.zE)
 AW:Fun K "is_within" "is_within" rR t.zE t.wW
 JK:Binds K t.wW ["part","things"] []
 GH:mg "things_without"=some (.ref t.yS)
 AT:Fun K "things_without" "things_without" q9 t.yS t.wE
 JH:Binds K t.wE ["things","part"] []
 GJ:mg "most_within"=some (.ref t.zA)
 AV:Fun K "most_within" "most_within" rO t.zA t.wS
 JJ:Binds K t.wS ["parts","things"] []
 X7:mg "can_be_next"=some (.ref t.zY)
 LG:Fun K "can_be_next" "can_be_next" sS t.zY t.xM
 adS:Binds K t.xM ["part","across","things"] []
 GT:mg "as_few_as_can_be"=some (.ref t.z7)
 A4:Fun K "as_few_as_can_be" "as_few_as_can_be" sY t.z7 t.xS
 JQ:Binds K t.xS ["many","parts","across"] []
 X3:mg "few_groups"=some (.ref t.zS)
 LC:Fun K "few_groups" "few_groups" sK t.zS t.xG
 adO:Binds K t.xG ["order"] []
 X2:mg "few_lines"=some (.ref t.zR)
 LB:Fun K "few_lines" "few_lines" sJ t.zR t.xF
 adN:Binds K t.xF ["order"] []
 GR:mg "demand"=some (.ref t.zV)
 A0:Fun K "demand" "demand" sP t.zV t.xJ
 JO:Binds K t.xJ ["pairs","step","one","other"] []
 GY:mg "all_demands"=some (.ref t.AD)
 A9:Fun K "all_demands" "all_demands" tH t.AD t.xY
 JV:Binds K t.xY ["order","step"] []
 XL:mg "raise_once"=some (.ref t.yY)
 KM:Fun K "raise_once" "raise_once" rF t.yY t.wK
 ac7:Binds K t.wK ["demands","values","origins"] []
 XM:mg "raise_all"=some (.ref t.yZ)
 KN:Fun K "raise_all" "raise_all" rG t.yZ t.wL
 ac8:Binds K t.wL ["demands","values","origins"] []
 XJ:mg "round_behind"=some (.ref t.yX)
 KL:Fun K "round_behind" "round_behind" rE t.yX t.wJ
 ac6:Binds K t.wJ ["origins","raised"] []
 GI:mg "things_in_round"=some (.ref t.yT)
 AU:Fun K "things_in_round" "things_in_round" rA t.yT t.wF
 JI:Binds K t.wF ["many","demands"] []
 XI:mg "round_of"=some (.ref t.yW)
 KK:Fun K "round_of" "round_of" rD t.yW t.wI
 ac5:Binds K t.wI ["order","step"] []
 XZ:mg "height"=some (.ref t.zN)
 K1:Fun K "height" "height" sE t.zN t.xB
 adJ:Binds K t.xB ["pairs","thing"] []
 XG:mg "things_at"=some (.ref t.yU)
 KI:Fun K "things_at" "things_at" rB t.yU t.wG
 ac3:Binds K t.wG ["heights","level"] []
 XH:mg "row"=some (.ref t.yV)
 KJ:Fun K "row" "row" rC t.yV t.wH
 ac4:Binds K t.wH ["order"] []
 XF:mg "unlike_pairs"=some (.ref t.yR)
 KH:Fun K "unlike_pairs" "unlike_pairs" qZ t.yR t.wC
 ac2:Binds K t.wC ["many"] []
 X6:mg "choices"=some (.ref t.zX)
 LF:Fun K "choices" "choices" sR t.zX t.xL
 adR:Binds K t.xL ["pairs"] []
 YC:mg "all_orders"=some (.ref t.AA)
 LL:Fun K "all_orders" "all_orders" tE t.AA t.xV
 adX:Binds K t.xV ["many"] []
 X5:mg "count_of_things"=some (.ref t.zW)
 LE:Fun K "count_of_things" "count_of_things" sQ t.zW t.xK
 adQ:Binds K t.xK ["several"] []
 X4:mg "demands_of_all"=some (.ref t.zT)
 LD:Fun K "demands_of_all" "demands_of_all" sL t.zT t.xH
 adP:Binds K t.xH ["several"] []
 GQ:mg "demand_at"=some (.ref t.zU)
 AZ:Fun K "demand_at" "demand_at" sM t.zU t.xI
 JN:Binds K t.xI ["several","place","one","other"] []
 GP:mg "greatest_place"=some (.ref t.zO)
 K2:Fun K "greatest_place" "greatest_place" sF t.zO t.xC
 adK:Binds K t.xC ["several","one","other"] []
 YB:mg "bar_for"=some (.ref t.z5)
 LK:Fun K "bar_for" "bar_for" sW t.z5 t.xQ
 adW:Binds K t.xQ ["several"] []
 YI:mg "_law_cell_at"=some (.ref t.AM)
 LR:Fun K "_law_cell_at" "_law_cell_at" tQ t.AM t.yD
 ad3:Binds K t.yD ["_law_script","_law_k"] []
 YF:mg "_law_mixed"=some (.ref t.AH)
 LO:Fun K "_law_mixed" "_law_mixed" tL t.AH t.x8
 ad0:Binds K t.x8 ["_law_script","_law_k","_law_many"] []
 fM:mg "_law_draw"=some (.ref t.AL)
 fE:Fun K "_law_draw" "_law_draw" tP t.AL t.yC
 fT:Binds K t.yC ["_law_script","_law_town","_law_many"] []
 GZ:mg "_law_pick"=some (.ref t.AG)
 BA:Fun K "_law_pick" "_law_pick" tK t.AG t.x6
 JW:Binds K t.x6 ["_law_script","_law_town","_law_some"] []
 YG:mg "_law_free"=some (.ref t.AI)
 LP:Fun K "_law_free" "_law_free" tM t.AI t.x9
 ad1:Binds K t.x9 ["_law_script","_law_town","_law_low","_law_most"] []
 YH:mg "_law_few"=some (.ref t.AK)
 LQ:Fun K "_law_few" "_law_few" tO t.AK t.yB
 ad2:Binds K t.yB ["_law_script","_law_town","_law_most"] []
 YD:mg "_law_told"=some (.ref t.AE)
 LM:Fun K "_law_told" "_law_told" tI t.AE t.xZ
 adY:Binds K t.xZ ["_law_step","_law_values"] []
 YE:mg "_law_several"=some (.ref t.AF)
 LN:Fun K "_law_several" "_law_several" tJ t.AF t.x5
 adZ:Binds K t.x5 ["_law_script","_law_town"] []
 G1:mg "_law_ask"=some (.ref t.AN)
 BC:Fun K "_law_ask" "_law_ask" tR t.AN t.yE
 JY:Binds K t.yE ["_law_what","_law_order","_law_several_here"] []
 G0:mg "_law_flat"=some (.ref t.AJ)
 BB:Fun K "_law_flat" "_law_flat" tN t.AJ t.yA
 JX:Binds K t.yA ["_law_made"] []
 XU:mg "law"=some (.ref t.zD)
 KU:Fun K "law" "law" nG t.zD t.wV
 aeN:Binds K t.wV ["_law_script"] []
 lN:mg "all"=none
 WW:mg "bool"=none
 WV:mg "int"=none
 hZ:mg "isinstance"=none
 cJ:mg "len"=none
 kI:mg "list"=none
 uY:mg "max"=none
 GE:mg "min"=none
 bP:mg "range"=none
 WU:mg "reversed"=none
 WT:mg "set"=none
 oJ:mg "sorted"=none
 iX:mg "tuple"=none
 WS:mg "zip"=none
 acI:∃tk,mg "MOST_LISTED"=some (.int 3 tk)
 acH:∃tk,mg "MOST_SEVERAL"=some (.int 3 tk)
 acG:∃tk,mg "MOST_STEP"=some (.int 999 tk)
 acF:∃tk,mg "MOST_THINGS"=some (.int 8 tk)
end My
local macro_rules | `(tactic| walk_at "rd")=>`(tactic| (repeat (first | with_reducible refine L2.RJ ?_ | with_reducible refine L2.RW ?_ | with_reducible refine L2.SQ ?_ | with_reducible refine L2.RM ?_ | with_reducible refine L2.EA ?_ | with_reducible refine L2.S7 ?_ | with_reducible refine L2.SU ?_ | ((with_reducible refine' L2.RA ?qe1 ?_);(case qe1=>exact rfl)) | with_reducible refine L2.TD ?_ | with_reducible refine L2.SW ?_ | with_reducible refine L2.SF ?_ | with_reducible refine L2.RL ?_ | with_reducible refine L2.SG ?_ | with_reducible refine L2.SO ?_ | with_reducible refine L2.Q8 ?_ | with_reducible refine L2.SR ?_ | with_reducible refine L2.RN ?_ | with_reducible refine L2.Q9 ?_ | with_reducible refine L2.SS ?_ | with_reducible refine L2.S4 ?_ | with_reducible refine L2.SV ?_ | with_reducible refine L2.ST ?_ | with_reducible refine L2.RF ?_ | with_reducible refine L2.TF ?_ | with_reducible refine L2.S6 ?_ | with_reducible refine L2.RQ ?_ | with_reducible refine L2.RC ?_ | with_reducible refine L2.TC ?_ | with_reducible refine L2.TB ?_ | with_reducible refine L2.RP ?_ | with_reducible refine L2.RU ?_ | with_reducible refine L2.S9 ?_ | with_reducible refine L2.RO ?_ | with_reducible refine L2.RS ?_ | with_reducible refine L2.S5 ?_ | with_reducible refine L2.RV ?_ | with_reducible refine L2.S0 ?_ | with_reducible refine L2.RE ?_ | with_reducible refine L2.SB ?_ | with_reducible refine L2.S3 ?_ | with_reducible refine L2.S2 ?_ | with_reducible refine L2.S1 ?_ | with_reducible refine L2.SX ?_ | with_reducible refine L2.RX ?_ | with_reducible refine L2.SZ ?_ | with_reducible refine L2.RY ?_ | with_reducible refine L2.SJ ?_ | with_reducible refine L2.RT ?_ | with_reducible refine L2.R7 ?_ | with_reducible refine L2.SM ?_ | with_reducible refine L2.lX ?_ | with_reducible refine L2.lY ?_ | with_reducible refine L2.aaM ?_ | with_reducible refine L2.aaK ?_ | with_reducible refine L2.aaO ?_ | with_reducible refine L2.aaL ?_ | with_reducible refine L2.aaJ ?_ | with_reducible refine L2.aaN ?_ | with_reducible refine L2.aaP ?_ | with_reducible refine L2.aaQ ?_ | ((with_reducible refine' L2.SL ?qe1 ?_);(case qe1=>assumption)) | ((with_reducible refine' L2.SK ?qe1 ?_);(case qe1=>assumption)) | ((with_reducible refine' L2.SH ?qe1 ?_);(case qe1=>assumption)) | ((with_reducible refine' L2.nM ?qe1 ?_);(case qe1=>assumption)) | ((with_reducible refine' L2.SI ?qe1 ?_);(case qe1=>assumption)) | ((with_reducible refine' L2.kB ?qe1 ?_);(case qe1=>assumption)) | ((with_reducible refine' L2.S8 ?qe1 ?_);(case qe1=>assumption)) | ((with_reducible refine' L2.SD ?qe1 ?_);(case qe1=>assumption)) | ((with_reducible refine' L2.SE ?qe1 ?_);(case qe1=>assumption)) | ((with_reducible refine' L2.RD ?qe1 ?_);(case qe1=>assumption)) | ((with_reducible refine' L2.tY ?qe1 ?qf1 ?_);(case qe1=>assumption);(case qf1=>exact rfl)) | ((with_reducible refine' L2.dX ?qe1 ?qf1 ?_);(case qe1=>assumption);(case qf1=>exact rfl)) | ((with_reducible refine L2.iF ?_ ?_);with_reducible rfl) | ((with_reducible refine L2.bY ?_ ?_);with_reducible rfl) | (dsimp only))))
namespace My
open PySem L2
section
variable{P:afL}{w:agC}{K:PySem.W.Frag}{mg:Str->Option Value}{base:Heap}{t:Ad}
noncomputable def bZ(d:PyData)(lo hi:Int):Bool:=match d with| .int i=>decide (lo<=i)&&decide (i<=hi)|_=>false
noncomputable def OF:Sp:=λvs H Q _=>∃x lo hi d,vs=[x,.int lo,.int hi]/\Is H x d/\Q (.bl (bZ d lo hi)) H
theorem oF(T:aP K mg t):FnOk P w K mg base aM 1 t.zF t.wX ["value","low","high"] OF:=by
 refine T.mQ.ok P6 (λvs H Q E h=>?_) (λcdv A outer s H vs Q E hr h=>?_)
 ·obtain⟨x,lo,hi,d,rfl,_⟩:=h;rfl
 ·obtain⟨x,lo,hi,d,rfl,hx,q⟩:=h
  refine⟨_,(aE (bF (PW.pt (gW (bW (bC iK (by rfl) T.hZ iL (aA (pv 0) (aA (hX (v:=.ty "bool") rfl T.WW acP rfl) pa_nil)))) (gU (dF (bW (bC iK (by rfl) T.hZ iL (aA (pv 0) (aA (hX (v:=.ty "int") rfl T.WV acO rfl) pa_nil)))))))) (aC (aI pe_bl)) bE)
   (aC (aI (UL lH lH (pv 1) (pv 0) (pv 2))))),?_⟩
  walk_at"rd";have hx2:=hx
  cases hx with
  |int i=>
   walk_at"rd"
   refine bK (λh=>?_) (λh=>?_) <;> walk_at"rd" <;> simpa[bZ,h]using q
  |_=>walk_at"rd" <;> exact q
noncomputable def OG:Sp:=λvs H Q _=>∃x m d,vs=[x,.int m]/\Is H x d/\Q (.bl (bZ d 0 (m-1))) H
theorem uT(T:aP K mg t):FnOk P w K mg base aM 2 t.zG t.wY ["value","many"] OG:=by
 refine T.p7.ok P7 (λvs H Q E h=>?_) (λcdv A outer s H vs Q E hr h=>?_)
 ·obtain⟨x,m,d,rfl,_⟩:=h;rfl
 ·obtain⟨x,m,d,rfl,hx,q⟩:=h;refine⟨_,(aC (aI (aG (oF T) (hr.mono (by decide)) rfl T.oR T.mQ.kp T.pN .nil aH (aA (pv 0) (aA pe_int (aA (bB jM (pv 1) pe_int) pa_nil)))))),?_⟩;walk_at"rd";exact⟨_,_,_,_,rfl,hx,q⟩
noncomputable def aJ(p:Int×Int):PyData:=.tuple [.int p.1,.int p.2]
noncomputable def dG(d:PyData)(m:Int):Bool:=match d with| .tuple [a,b]=>bZ a 0 (m-1)&&bZ b 0 (m-1)&& !PyData.eqv a b|_=>false
noncomputable def OJ:Sp:=λvs H Q _=>∃x m d,vs=[x,.int m]/\Is H x d/\Q (.bl (dG d m)) H
theorem E6{d:PyData}{m:Int}(h:∀a b,d≠.tuple [a,b]):dG d m=false:=by
 unfold dG;split
 ·rename_i a b;exact absurd rfl (h a b)
 ·rfl
theorem vM{d:PyData}(h:∀ds,d≠.tuple ds):isTupD d=false:=by
 cases d <;> first|rfl|exact absurd rfl (h _)
theorem k9{d:PyData}{lo hi:Int}(h:bZ d lo hi=true):∃i:Int,d=.int i/\lo<=i/\i<=hi:=by
 unfold bZ at h;split at h
 ·rename_i i;simp at h;exact⟨i,rfl,h.1,h.2⟩
 ·cases h
theorem VH(T:aP K mg t):FnOk P w K mg base aM 3 t.zK t.w6 ["value","many"] OJ:=by
 refine T.KZ.ok QA (λvs H Q E h=>?_) (λcdv A outer s H vs Q E hr h=>?_)
 ·obtain⟨x,m,d,rfl,_⟩:=h;rfl
 ·obtain⟨x,m,d,rfl,hx,q⟩:=h
  refine⟨_,(aE (bF (PW.pt (gW (dF (bW (bC iK (by rfl) T.hZ iL (aA (pv 0) (aA (hX (v:=.ty "tuple") rfl T.iX i9 rfl) pa_nil))))) (gU (aZ (iW hr.units) (bC (cK K) (by rfl) T.cJ cL (aA (pv 0) pa_nil)) pe_int (bD _))))) (aC (aI pe_bl)) bE)
   (aE (bF (PW.pt (gW (dF (bW (aG (uT T) (hr.mono (by decide)) rfl T.vE T.p7.kp T.yP .nil aH (aA (aU (aV K) (pv 0) pe_int (λ_ _=>rfl)) (aA (pv 1) pa_nil))))) (gU (dF (bW (aG (uT T) (hr.mono (by decide)) rfl T.vE T.p7.kp T.yP .nil aH (aA (aU (aV K) (pv 0) pe_int (λ_ _=>rfl)) (aA (pv 1) pa_nil)))))))) (aC (aI pe_bl)) bE)
   (aC (aI (eW (iW hr.units) (aU (aV K) (pv 0) pe_int (λ_ _=>rfl)) (aU (aV K) (pv 0) pe_int (λ_ _=>rfl)) (bD _)))))),?_⟩
  walk_at"rd";by_cases hd:∃ds,d=.tuple ds
  ·obtain⟨ds,rfl⟩:=hd
   cases hx with
   |@tup a xs _ e hxs=>
   walk_at"rd";have hl:=hxs.length;refine bK (λh=>?_) (λh=>?_)
   ·walk_at"rd";rw[E6]at q
    ·exact q
    ·rintro a b ⟨⟩;simp at hl;simp[hl]at h
   ·walk_at"rd"
    match xs,ds,hxs,hl with
    | [x1,x2],[d1,d2],.cons i1 (.cons i2 .nil),_=>
     walk_at"rd";refine⟨_,_,_,rfl,i1,?_⟩;walk_at"rd";have qe:dG (.tuple [d1,d2]) m=(bZ d1 0 (m-1)&&bZ d2 0 (m-1)&& !PyData.eqv d1 d2):=rfl;rw[qe]at q;refine bK (λh1=>?_) (λh1=>?_)
     ·walk_at"rd";have h1':bZ d1 0 (m-1)=false:=by simpa using h1
      simpa[h1']using q
     ·walk_at"rd";refine⟨_,_,_,rfl,i2,?_⟩;walk_at"rd";have h1':bZ d1 0 (m-1)=true:=by simpa using h1
      refine bK (λh2=>?_) (λh2=>?_)
      ·walk_at"rd";have h2':bZ d2 0 (m-1)=false:=by simpa using h2
       simpa[h2']using q
      ·walk_at"rd";have h2':bZ d2 0 (m-1)=true:=by simpa using h2
       obtain⟨i,rfl,_⟩:=k9 h1';obtain⟨j,rfl,_⟩:=k9 h2';refine SY i1 i2 ⟨rfl,ae2 _⟩ ⟨rfl,ae2 _⟩ ?_
       simpa[h1',h2']using q
    |[],_,_,_=>simp at h
    |[_],_,_,_=>simp at h
    |_::_::_::_,_,_,_=>simp at h;lia
  ·have hd':∀ds,d≠.tuple ds:=λds e=>hd ⟨ds,e⟩;rw[vM hd'];walk_at"rd";rw[E6 λa b=>hd' _]at q;exact q
noncomputable def fX:List (Int×Int)->Bool
 |a::b::r=>HT.lexLt [a.1,a.2] [b.1,b.2]&&fX (b::r)
 |_=>true
theorem DS:∀ps:List (Int×Int),fX ps=((range (ps.length-1)).map λi=>HT.lexLt [(ps.getD i (0,0)).1,(ps.getD i (0,0)).2] [(ps.getD (i+1) (0,0)).1,(ps.getD (i+1) (0,0)).2]).all id
 |[]=>rfl
 |[a]=>rfl
 |a::b::r=>by
  rw[fX,DS (b::r)];have e:(a::b::r).length-1=((b::r).length-1)+1:=by simp
  rw[e,List.range_succ_eq_map,map_cons,all_cons,map_map];rfl
theorem _root_.L2.atI_of{α:Type}{xs:List α}{i:Nat}{k:Int}{v:α}(hk:k=(i:Int))(h:xs[i]? =some v):c5 xs k=some v:=by
 subst hk;exact ad7 h
theorem lA{H:Hp}{xs:List V}{a b:Int}(h:IsAll H xs [.int a,.int b]):xs=[.int a,.int b]:=by
 cases h with
 | cons h1 t=>
  cases t with
  |cons h2 t2=>
   cases h1;cases h2;cases t2;rfl
theorem MP{H:Hp}{xs:List V}{a:Int}{ds:List PyData}(h:IsAll H xs [.int a,.tuple ds]):∃b ys,xs=[.int a,.ref b]/\H b=some (.tup ys)/\IsAll H ys ds:=by
 cases h with
 | cons h1 t=>
  cases t with
  |cons h2 t2=>
   cases h1;cases t2
   cases h2 with
   |tup eb hb=>exact⟨_,_,rfl,eb,hb⟩
theorem EW{H:Hp}{xs:List V}{ps:List (Int×Int)}{i:Nat}(h:IsAll H xs (ps.map aJ))(hi:i<ps.length):
  ∃r,xs[i]? =some (.ref r)/\H r=some (.tup [.int (ps.getD i (0,0)).1,.int (ps.getD i (0,0)).2]):=by
 obtain⟨v,e,iv⟩:=h.get (i:=i) (d:=aJ (ps.getD i (0,0))) (by rw[ae4];simp[hi]);unfold aJ at iv
 cases iv with
 |@tup a xs _ ea hxs=>
  obtain rfl:=lA hxs;exact⟨a,e,ea⟩
theorem bI{n:Nat}(h:n<=1000):n<=sizeLine:=agP (dU h)
noncomputable def OI:Sp:=λvs H Q _=>∃x ps,vs=[x]/\Is H x (.tuple (ps.map aJ))/\ps.length<=1000/\∀H',Same H H'->Q (.bl (fX ps)) H'
theorem VG(T:aP K mg t):FnOk P w K mg base aM 1 t.zJ t.w5 ["pairs"] OI:=by
 refine T.KY.ok P9 (λvs H Q E h=>?_) (λcdv A outer s H vs Q E hr h=>?_)
 ·obtain⟨x,ps,rfl,_⟩:=h;rfl
 ·obtain⟨x,ps,rfl,hx,hsz,q⟩:=h;refine⟨_,(aC (aI (bC (lW K) (by rfl) T.lN mF (aA (cQ rfl ⟨aeW,aeW,(.inl rfl),aeW⟩ (M:=["place","pairs"]) (.own (.free 0 rfl rfl .nil)) (cB rfl) rfl (by decide +kernel) (bU rfl T.bP (aA (bB jM (bC (cK K) (by rfl) T.cJ cL (aA (pv 0) pa_nil)) pe_int) pa_nil)) (λC fp s1 H1=>⟨aN (i:=0) (show(["place","pairs"]:List Str).Nodup by decide +kernel) rfl (afM rfl),dM,(eW (HH K hr.units0) (aU (aV K) (pv 1) (pv 0) (λ_ _=>rfl)) (aU (aV K) (pv 1) (bB dH (pv 0) pe_int) (λ_ _=>rfl)) (bD _))⟩)) pa_nil)))),?_⟩
  cases hx with
  |@tup a xs _ e hxs=>
  have hl:xs.length=ps.length:=by rw[hxs.length,length_map]
  walk_at"rd";refine⟨_,rfl,by lia,by lia,?_⟩;have en:((xs.length:Int)-1).toNat=ps.length-1:=by lia
  rw[en];refine fN (bI (by lia)) (λi ys H'=>H'=H/\ys=((range i).map λi=>HT.lexLt [(ps.getD i (0,0)).1,(ps.getD i (0,0)).2] [(ps.getD (i+1) (0,0)).1,(ps.getD (i+1) (0,0)).2]).map V.bl) ⟨rfl,rfl⟩ (by rintro i ys H' ⟨_,rfl⟩;simp) ?_ ?_
  ·rintro i ys H' hi ⟨rfl,rfl⟩;obtain⟨r1,e1,h1⟩:=EW hxs (i:=i) (by lia);obtain⟨r2,e2,h2⟩:=EW hxs (i:=i+1) (by lia);walk_at"rd";refine tY e (atI_of (i:=i) (by lia) e1) ?_;walk_at"rd";refine tY e (atI_of (i:=i+1) (by lia) e2) ?_;refine R8 h1 h2 ⟨rfl,?_⟩;rw[range_succ,map_append,map_append];rfl
  ·rintro ys H' ⟨rfl,rfl⟩ p hp;walk_at"rd";refine kB aB ?_;rw[<-DS];exact q _ (Same.upd hp)
noncomputable def iI(d:PyData):Int×Int:=match d with| .tuple [.int a,.int b]=>(a,b)|_=>(0,0)
noncomputable def iV(d:PyData):Bool:=match d with| .tuple [.int n,.tuple ds]=>decide (1<=n)&&decide (n<=8)&&ds.all (λd=>dG d n)&&fX (ds.map iI)|_=>false
theorem UP{d:PyData}{m:Int}(h:dG d m=true):d=aJ (iI d):=by
 unfold dG at h;split at h
 ·rename_i a b;rw[afB,afB]at h;obtain⟨i,rfl,_⟩:=k9 h.1.1;obtain⟨j,rfl,_⟩:=k9 h.1.2;rfl
 ·cases h
theorem E5{m:Int}:∀{ds:List PyData},ds.all (λd=>dG d m)=true->ds=(ds.map iI).map aJ
 |[],_=>rfl
 |d::ds,h=>by
  rw[all_cons,afB]at h;rw[map_cons,map_cons,<-E5 h.2,<-UP h.1]
theorem n5{d:PyData}(h:∀n ds,d≠.tuple [.int n,.tuple ds]):iV d=false:=by
 unfold iV;split
 ·rename_i n ds;exact absurd rfl (h n ds)
 ·rfl
noncomputable def uU(d:PyData):Prop:=∀m ds,d=.tuple [m,.tuple ds]->ds.length<=1000
noncomputable def OK:Sp:=λvs H Q _=>∃x d,vs=[x]/\Is H x d/\uU d/\∀H',Same H H'->Q (.bl (iV d)) H'
theorem FJ(T:aP K mg t):FnOk P w K mg base aM 4 t.zM t.xA ["value"] OK:=by
 refine T.AY.ok sc_is_order (λvs H Q E h=>?_) (λcdv A outer s H vs Q E hr h=>?_)
 ·obtain⟨x,d,rfl,_⟩:=h;rfl
 ·obtain ⟨x,d,rfl,hx,hok,q⟩:=h
  refine⟨_,(aE (bF (PW.pt (gW (dF (bW (bC iK (by rfl) T.hZ iL (aA (pv 0) (aA (hX (v:=.ty "tuple") rfl T.iX i9 rfl) pa_nil))))) (gU (aZ (iW hr.units) (bC (cK K) (by rfl) T.cJ cL (aA (pv 0) pa_nil)) pe_int (bD _))))) (aC (aI pe_bl)) bE)
   (aE (aT (i:=1) sc_is_order.nd rfl (Or.inr rfl) (aU (aV K) (pv 0) pe_int (λ_ _=>rfl)))
   (aE (aT (i:=2) sc_is_order.nd rfl (afM rfl) (aU (aV K) (pv 0) pe_int (λ_ _=>rfl)))
   (aE (bF (PW.pt (gW (dF (bW (aG (oF T) (hr.mono (by decide)) rfl T.oR T.mQ.kp T.pN .nil aH (aA (pv 1) (aA pe_int (aA (nW rfl T.acF) pa_nil)))))) (gU (dF (bW (bC iK (by rfl) T.hZ iL (aA (pv 2) (aA (hX (v:=.ty "tuple") rfl T.iX i9 rfl) pa_nil)))))))) (aC (aI pe_bl)) bE)
   (aC (aI (lF (bC (lW K) (by rfl) T.lN mF (aA (cQ rfl ⟨aeW,aeW,aeW,(.inl rfl),aeW⟩ (M:=["pair","many"]) (.own (.free 1 rfl rfl .nil)) (cB rfl) rfl (by decide +kernel) (i3 K (pv 2)) (λC fp s1 H1=>⟨aN (i:=0) (show(["pair","many"]:List Str).Nodup by decide +kernel) rfl (afM rfl),dM,(aG (VH T) (hr.mono (by decide)) rfl T.XX T.KZ.kp T.adH .nil aH (aA (pv 0) (aA (pv 1) pa_nil)))⟩)) pa_nil)) (jK (aG (VG T) (hr.mono (by decide)) rfl T.XW T.KY.kp T.adG .nil aH (aA (pv 2) pa_nil)))))))))),?_⟩
  walk_at"rd";by_cases hd:∃ds,d=.tuple ds
  ·obtain ⟨ds,rfl⟩:=hd
   cases hx with
   |@tup a xs _ e hxs=>
   walk_at"rd";have hl:=hxs.length;refine bK (λh=>?_) (λh=>?_)
   ·walk_at"rd";have q':=q H (Same.refl H);rw[n5]at q'
    ·exact q'
    ·rintro n ds ⟨⟩;simp at hl;simp[hl]at h
   ·walk_at"rd"
    match xs,ds,hxs,hl with
    | [x1,x2],[d1,d2],.cons i1 (.cons i2 .nil),_=>
     walk_at"rd";refine⟨_,_,_,_,rfl,i1,?_⟩;walk_at"rd";refine bK (λh1=>?_) (λh1=>?_)
     ·walk_at"rd";have h1':bZ d1 1 8=false:=by simpa using h1
      have q':=q H (Same.refl H);by_cases h0:∃n ds,d1=.int n/\d2=.tuple ds
      ·obtain⟨n,ds,rfl,rfl⟩:=h0;have:iV (.tuple [.int n,.tuple ds])=(decide (1<=n)&&decide (n<=8)&&ds.all (λd=>dG d n)&&fX (ds.map iI)):=rfl;rw[this,show(decide (1<=n)&&decide (n<=8))=false from h1']at q';exact q'
      ·rw[n5 (by rintro n ds ⟨⟩;exact h0 ⟨_,_,rfl,rfl⟩)]at q';exact q'
     ·have h1':bZ d1 1 8=true:=by simpa using h1
      obtain⟨n,rfl,hn1,hn8⟩:=k9 h1';walk_at"rd";by_cases hd2:∃ds,d2=.tuple ds
      ·obtain⟨ds,rfl⟩:=hd2;have hlen:=hok _ _ rfl
       cases i1 with
       |int _=>
       cases i2 with
       |@tup b ys _ eb hys=>
       have hlb:=hys.length;walk_at"rd";refine⟨b,rfl,⟨ys,SqT.of eb⟩,?_⟩;refine lO (K:=K) (xs:=ys) (bI (by lia)) (λi zs H'=>H'=H/\zs=((ds.take i).map λd=>dG d n).map V.bl) ⟨rfl,rfl⟩ (by rintro i ys H' ⟨_,rfl⟩;simp;lia) (λi zs H' _ h=>by rw[h.1];exact SqT.of eb) ?_ ?_
       ·rintro i x zs H' hx ⟨rfl,rfl⟩;obtain⟨d,ed,id⟩:=hys.get' hx;walk_at"rd";refine⟨_,_,_,rfl,id,rfl,?_⟩;rw[take_add_one,ed,map_append,map_append];rfl
       ·rintro zs H' ⟨rfl,rfl⟩ p hp;walk_at"rd";refine kB aB ?_;rw[hlb,take_length,all_map];walk_at"rd";have qe:iV (.tuple [.int n,.tuple ds])=(decide (1<=n)&&decide (n<=8)&&ds.all (λd=>dG d n)&&fX (ds.map iI)):=rfl;rw[qe,decide_eq_true hn1,decide_eq_true hn8]at q;refine bK (λh3=>?_) (λh3=>?_)
        ·walk_at"rd";have h3':ds.all (λd=>dG d n)=true:=h3;have ed:=E5 h3'
         have hy2:Is (upd H' p (.lst (((ds.take ys.length).map λd=>dG d n).map V.bl))) (.ref b) (.tuple ((ds.map iI).map aJ)):=by
          rw[<-ed];exact Is.same (Same.upd hp) (.tup eb hys)
         rw[hlb,take_length]at hy2;refine⟨_,_,rfl,hy2,by rw[length_map];exact hlen,λH2 s2=>?_⟩;have q':=q H2 ((Same.upd hp).trans s2);simpa[h3']using q'
        ·walk_at"rd";have h3':ds.all (λd=>dG d n)=false:=h3;have q':=q _ (Same.upd (o:=.lst ((ds.map λd=>dG d n).map V.bl)) hp);simpa[h3']using q'
      ·have hd2':∀ds,d2≠.tuple ds:=λds e=>hd2 ⟨ds,e⟩;rw[vM hd2'];walk_at"rd";have q':=q H (Same.refl H);rw[n5 (by rintro n ds ⟨⟩;exact hd2' _ rfl)]at q'
       exact q'
    |[],_,_,_=>simp at h
    |[_],_,_,_=>simp at h
    |_::_::_::_,_,_,_=>simp at h;lia
  ·have hd':∀ds,d≠.tuple ds:=λds e=>hd ⟨ds,e⟩;rw[vM hd'];walk_at"rd";have q':=q H (Same.refl H);rw[n5 λn ds=>hd' _]at q';exact q'
noncomputable def NY:Sp:=λvs H Q _=>∃x d,vs=[x]/\Is H x d/\uU d/\iV d=true/\∀H',Same H H'->Q .non H'
theorem uS(T:aP K mg t):FnOk P w K mg base aM 5 t.y9 t.wR ["value"] NY:=by
 refine T.pZ.ok P2 (λvs H Q E h=>?_) (λcdv A outer s H vs Q E hr h=>?_)
 ·obtain⟨x,d,rfl,_⟩:=h;rfl
 ·obtain⟨x,d,rfl,hx,hok,ho,q⟩:=h;refine⟨_,(aC (bF (dF (bW (aG (FJ T) (hr.mono (by decide)) rfl T.GO T.AY.kp T.JM .nil aH (aA (pv 0) pa_nil)))) (aC kF) bE)),?_⟩;walk_at"rd";refine⟨_,_,rfl,hx,hok,λH' s'=>?_⟩;rw[ho];walk_at"rd";exact q H' s'
theorem v0(p q:Int×Int):agN (aJ p) (aJ q)=decide (p=q):=by
 obtain⟨a,b⟩:=p;obtain⟨c,d⟩:=q;simp only[aJ,agN,PyData.eqvAll,Bool.and_true];by_cases h:a=c
 ·by_cases h2:b=d
  ·subst h h2;simp
  ·simp[h,h2]
 ·simp[h]
theorem o6(p:Int×Int):∀ps:List (Int×Int),iE (aJ p) (ps.map aJ)=decide (p∈ps)
 |[]=>by simp[iE]
 | q::ps=>by
  have ih:=o6 p ps;unfold iE at ih ⊢;rw[map_cons,List.any_cons,ih,v0];by_cases h:q=p
  ·subst h;simp
  ·have h':¬p=q:=λe=>h e.symm;simp[h,h']
theorem oE(p:Int×Int):fL (aJ p):=⟨rfl,show 1<=40 by decide⟩
theorem lI:∀ps:List (Int×Int),oG (ps.map aJ)
 |[]=>⟨rfl,ae2 _⟩
 | p::ps=>by
  obtain⟨a,b⟩:=lI ps;refine⟨?_,?_⟩
  ·rw[map_cons,agA,a];rfl
  ·rw[map_cons,afI];exact Nat.max_le.mpr ⟨(oE p).2,b⟩
noncomputable def has(ps:List (Int×Int))(i j:Int):Bool:=decide ((i,j)∈ps)
theorem D7{H:Hp}{Q:VK}{p:Addr}{y:V}{i j:Int}{ps:List (Int×Int)}(e:H p=some (.tup [.int i,.int j]))(hy:Is H y (.tuple (ps.map aJ)))(h:Q (.bl (has ps i j)) H):jH false (.ref p) y H Q:=by
 refine D9 (d:=aJ (i,j)) (.tup e (.cons (.int i) (.cons (.int j) .nil))) hy (oE _) (lI _) ?_;rw[o6];exact h
theorem gR{H:Hp}{Q:VK}{p:Addr}{y:V}{i j:Int}{ps:List (Int×Int)}(e:H p=some (.tup [.int i,.int j]))(hy:Is H y (.tuple (ps.map aJ)))(h:Q (.bl (!has ps i j)) H):jH true (.ref p) y H Q:=by
 refine D9 (d:=aJ (i,j)) (.tup e (.cons (.int i) (.cons (.int j) .nil))) hy (oE _) (lI _) ?_;rw[o6];exact h
noncomputable def gM(ps:List (Int×Int))(a b c d:Int):Bool:=has ps a b&&has ps c d&&(!has ps a d&& !has ps c b)
noncomputable def fS(ps:List (Int×Int))(a b c d:Int):Bool:=has ps a b&&has ps b c&&(!has ps a d&& !has ps d c)
theorem cP{i j:Int}:[V.int i,V.int j].length<=sizeLine:=by
 show 2<=sizeLine;decide
noncomputable def aX(n:Nat)(ps:List (Int×Int)):PyData:=.tuple [.int n,.tuple (ps.map aJ)]
structure Ord (n:Nat) (ps:List (Int×Int)):Prop where
 lo:1<=n
 hi:n<=8
 ix:∀p∈ps,0<=p.1/\p.1<n/\0<=p.2/\p.2<n/\p.1≠p.2
 up:fX ps=true
 sz:ps.length<=1000
theorem abK(p:Int×Int):iI (aJ p)=p:=rfl
theorem Ord.okd{n:Nat}{ps:List (Int×Int)}(h:Ord n ps):uU (aX n ps):=by
 rintro m ds e;unfold aX at e;injection e with e;injection e with _ e;injection e with e _;injection e with e;rw[<-e,length_map];exact h.sz
theorem Ord.yes{n:Nat}{ps:List (Int×Int)}(h:Ord n ps):iV (aX n ps)=true:=by
 have e:iV (aX n ps)=(decide (1<=(n:Int))&&decide ((n:Int)<=8)&&(ps.map aJ).all (λd=>dG d n)&&fX ((ps.map aJ).map iI)):=rfl
 have e2:(ps.map aJ).map iI=ps:=by
  rw[map_map];exact(List.map_congr_left λp _=>abK p).trans (List.map_id ps)
 have e3:(ps.map aJ).all (λd=>dG d n)=true:=by
  rw[all_map,all_eq_true];intro p hp;obtain⟨a,b,c,d,f⟩:=h.ix p hp;show(bZ (.int p.1) 0 (n-1)&&bZ (.int p.2) 0 (n-1)&& !PyData.eqv (.int p.1) (.int p.2))=true
  have g1:bZ (.int p.1) 0 (n-1)=true:=by
   show(decide (0<=p.1)&&decide (p.1<=(n:Int)-1))=true;simp;lia
  have g2:bZ (.int p.2) 0 (n-1)=true:=by
   show(decide (0<=p.2)&&decide (p.2<=(n:Int)-1))=true;simp;lia
  have g3:agN (.int p.1) (.int p.2)=false:=by
   show(p.1==p.2)=false;simpa using f
  rw[g1,g2,g3];rfl
 rw[e,e2,e3,h.up,decide_eq_true (by have:=h.lo;lia),decide_eq_true (by have:=h.hi;lia)];rfl
theorem eH{H:Hp}{x:V}{n:Nat}{ps:List (Int×Int)}(h:Is H x (aX n ps)):∃a b xs,x=.ref a/\H a=some (.tup [.int n,.ref b])/\H b=some (.tup xs)/\IsAll H xs (ps.map aJ):=by
 unfold aX at h
 cases h with
 |@tup a xs _ e hxs=>
  obtain⟨b,ys,rfl,eb,hb⟩:=MP hxs;exact⟨a,_,_,rfl,e,eb,hb⟩
noncomputable def DB(f:List (Int×Int)->Int->Int->Int->Int->Bool):Sp:=λvs H Q _=>∃x ps a b c d,vs=[x,.int a,.int b,.int c,.int d]/\Is H x (.tuple (ps.map aJ))/\∀H',Same H H'->Q (.bl (f ps a b c d)) H'
theorem VV(T:aP K mg t):FnOk P w K mg base aM 1 t.z3 t.xO ["pairs","a","b","c","d"] (DB gM):=by
 refine T.LI.ok QJ (λvs H Q E h=>?_) (λcdv A outer s H vs Q E hr h=>?_)
 ·obtain⟨x,ps,a,b,c,d,rfl,_⟩:=h;rfl
 ·obtain⟨x,ps,a,b,c,d,rfl,hx,q⟩:=h
  refine⟨_,(aE (bF (PW.pt (gW (aZ (gB hr.units) (bH (aA (pv 1) (aA (pv 2) pa_nil))) (pv 0) (by rfl)) (gU (aZ (gB hr.units) (bH (aA (pv 3) (aA (pv 4) pa_nil))) (pv 0) (by rfl))))) (aC (aI pe_bl)) bE)
   (aC (aI (lF (eW (gB hr.units) (bH (aA (pv 1) (aA (pv 4) pa_nil))) (pv 0) (by rfl)) (jK (eW (gB hr.units) (bH (aA (pv 3) (aA (pv 2) pa_nil))) (pv 0) (by rfl))))))),?_⟩
  unfold gM at q;walk_at"rd";refine⟨cP,λp1 hp1=>?_⟩;have s1:=Same.upd (o:=.tup [.int a,.int b]) hp1;walk_at"rd";refine gR aB (hx.same s1) ?_;walk_at"rd";refine bK (λh1=>?_) (λh1=>?_)
  ·walk_at"rd";have h1':has ps a b=false:=by simpa using h1
   have q':=q _ s1;rw[h1']at q';exact q'
  ·have h1':has ps a b=true:=by simpa using h1
   rw[h1']at q;walk_at"rd";refine⟨cP,λp2 hp2=>?_⟩;walk_at"rd";refine gR aB (hx.same (s1.trans (Same.upd hp2))) ?_;walk_at"rd";refine bK (λh2=>?_) (λh2=>?_)
   ·walk_at"rd";rw[Bool.not_eq_true']at h2;rw[h2]at q;exact q _ (s1.trans (Same.upd hp2))
   ·rw[Bool.not_eq_false']at h2;rw[h2]at q;walk_at"rd";refine⟨cP,λp3 hp3=>?_⟩;walk_at"rd";refine gR aB (hx.same ((s1.trans (Same.upd hp2)).trans (Same.upd hp3))) ?_;walk_at"rd";refine bK (λh3=>?_) (λh3=>?_)
    ·rw[h3]at q;walk_at"rd";refine⟨cP,λp4 hp4=>?_⟩;walk_at"rd";refine gR aB (hx.same (((s1.trans (Same.upd hp2)).trans (Same.upd hp3)).trans (Same.upd hp4))) ?_;exact q _ (((s1.trans (Same.upd hp2)).trans (Same.upd hp3)).trans (Same.upd hp4))
    ·rw[h3]at q;exact q _ ((s1.trans (Same.upd hp2)).trans (Same.upd hp3))
theorem VW(T:aP K mg t):FnOk P w K mg base aM 1 t.z4 t.xP ["pairs","a","b","c","d"] (DB fS):=by
 refine T.LJ.ok QK (λvs H Q E h=>?_) (λcdv A outer s H vs Q E hr h=>?_)
 ·obtain⟨x,ps,a,b,c,d,rfl,_⟩:=h;rfl
 ·obtain⟨x,ps,a,b,c,d,rfl,hx,q⟩:=h
  refine⟨_,(aE (bF (PW.pt (gW (aZ (gB hr.units) (bH (aA (pv 1) (aA (pv 2) pa_nil))) (pv 0) (by rfl)) (gU (aZ (gB hr.units) (bH (aA (pv 2) (aA (pv 3) pa_nil))) (pv 0) (by rfl))))) (aC (aI pe_bl)) bE)
   (aC (aI (lF (eW (gB hr.units) (bH (aA (pv 1) (aA (pv 4) pa_nil))) (pv 0) (by rfl)) (jK (eW (gB hr.units) (bH (aA (pv 4) (aA (pv 3) pa_nil))) (pv 0) (by rfl))))))),?_⟩
  unfold fS at q;walk_at"rd";refine⟨cP,λp1 hp1=>?_⟩;have s1:=Same.upd (o:=.tup [.int a,.int b]) hp1;walk_at"rd";refine gR aB (hx.same s1) ?_;walk_at"rd";refine bK (λh1=>?_) (λh1=>?_)
  ·walk_at"rd";have h1':has ps a b=false:=by simpa using h1
   have q':=q _ s1;rw[h1']at q';exact q'
  ·have h1':has ps a b=true:=by simpa using h1
   rw[h1']at q;walk_at"rd";refine⟨cP,λp2 hp2=>?_⟩;walk_at"rd";refine gR aB (hx.same (s1.trans (Same.upd hp2))) ?_;walk_at"rd";refine bK (λh2=>?_) (λh2=>?_)
   ·walk_at"rd";rw[Bool.not_eq_true']at h2;rw[h2]at q;exact q _ (s1.trans (Same.upd hp2))
   ·rw[Bool.not_eq_false']at h2;rw[h2]at q;walk_at"rd";refine⟨cP,λp3 hp3=>?_⟩;walk_at"rd";refine gR aB (hx.same ((s1.trans (Same.upd hp2)).trans (Same.upd hp3))) ?_;walk_at"rd";refine bK (λh3=>?_) (λh3=>?_)
    ·rw[h3]at q;walk_at"rd";refine⟨cP,λp4 hp4=>?_⟩;walk_at"rd";refine gR aB (hx.same (((s1.trans (Same.upd hp2)).trans (Same.upd hp3)).trans (Same.upd hp4))) ?_;exact q _ (((s1.trans (Same.upd hp2)).trans (Same.upd hp3)).trans (Same.upd hp4))
    ·rw[h3]at q;exact q _ ((s1.trans (Same.upd hp2)).trans (Same.upd hp3))
theorem l9{α β:Type}{F:α->Option β}{l:List α}{i:Nat}{x:α}(h:(l.take i).findSome? F=none)(e:l[i]? =some x)(g:F x=none):(l.take (i+1)).findSome? F=none:=by
 rw[take_add_one,e,List.findSome?_append,h];simp[g]
theorem mB{α β:Type}{F:α->Option β}{l:List α}{i:Nat}{x:α}{r:β}(h:(l.take i).findSome? F=none)(e:l[i]? =some x)(g:F x=some r):l.findSome? F=some r:=by
 have hl:i<l.length:=(ae3.mp e).1;have e':l[i]=x:=(ae3.mp e).2
 have:l=l.take i++x::l.drop (i+1):=by
  rw[<-e',<-drop_eq_getElem_cons hl,take_append_drop]
 rw[this,List.findSome?_append,h];simp[g]
theorem vY{α β:Type}{F:α->Option β}{l:List α}(h:(l.take l.length).findSome? F=none):l.findSome? F=none:=by
 rwa [take_length]at h
theorem nL{n i:Nat}(h:i<n):(range n)[i]? =some i:=ahL h
theorem DT{β:Type}{F:Nat->Option β}{n:Nat}(h:((range n).take n).findSome? F=none):(range n).findSome? F=none:=by
 rwa [take_of_length_le (by simp)]at h
noncomputable def j8(s:Str):Option (List Int)->PyData
 |none=>.none
 |some l=>.tuple (.str s::l.map .int)
noncomputable def pG(ps:List (Int×Int))(p q:Int×Int):Option (List Int):=if gM ps p.1 p.2 q.1 q.2=true then some [p.1,p.2,q.1,q.2] else none
noncomputable def f2(ps:List (Int×Int)):Option (List Int):=ps.findSome? λp=>ps.findSome? (pG ps p)
noncomputable def OP:Sp:=λvs H Q _=>∃x ps,vs=[x]/\Is H x (.tuple (ps.map aJ))/\∀v H',Same H H'->Is H' v (j8 "two" (f2 ps))->Q v H'
theorem VM(T:aP K mg t):FnOk P w K mg base aM 2 t.zP t.xD ["pairs"] OP:=by
 refine T.K3.ok sc_first_two (λvs H Q E h=>?_) (λcdv A outer s H vs Q E hr h=>?_)
 ·obtain⟨x,ps,rfl,_⟩:=h;rfl
 ·obtain⟨x,ps,rfl,hx,q⟩:=h
  refine⟨_,(aE (cE afP rfl (i3 K (pv 0)) (gF K rfl (cF (aN (i:=1) sc_first_two.nd rfl (afM rfl)) (cF (aN (i:=2) sc_first_two.nd rfl (afM rfl)) gA))) (aC (cE afP rfl (i3 K (pv 0)) (gF K rfl (cF (aN (i:=3) sc_first_two.nd rfl (afM rfl)) (cF (aN (i:=4) sc_first_two.nd rfl (afM rfl)) gA))) (aC (bF (bW (aG (VV T) (hr.mono (by decide)) rfl T.X9 T.LI.kp T.adU .nil aH (aA (pv 0) (aA (pv 1) (aA (pv 2) (aA (pv 3) (aA (pv 4) pa_nil))))))) (aC (aI (bH (aA pe_str (aA (pv 1) (aA (pv 2) (aA (pv 3) (aA (pv 4) pa_nil)))))))) bE)))))
   (aC (aI pe_non))),?_⟩
  cases hx with
  |@tup a xs _ e hxs=>
  have hl:xs.length=ps.length:=by rw[hxs.length,length_map]
  walk_at"rd";refine⟨a,rfl,⟨xs,SqT.of e⟩,?_⟩;refine vZ (K:=K) (xs:=xs) (λi σ H'=>(∃va vb vc vd,σ=[some (.ref a),va,vb,vc,vd])/\Same H H'/\(ps.take i).findSome? (λp=>ps.findSome? (pG ps p))=none) ⟨⟨_,_,_,_,rfl⟩,Same.refl H,rfl⟩ (λi σ H' _ h=>SqT.of (h.2.1 _ _ e)) ?_ ?_
  ·rintro i x σ H1 hx ⟨⟨va,vb,vc,vd,rfl⟩,s1,n1⟩;obtain⟨p,ep,ip⟩:=(hxs.same s1).get' hx;rw[ae4]at ep
   cases hpi:ps[i]? with
   |none=>rw[hpi]at ep;cases ep
   |some p0=>
   rw[hpi]at ep;cases ep;unfold aJ at ip
   cases ip with
   |@tup r ys _ er hys=>
   obtain rfl:=lA hys;refine fY er rfl ?_;walk_at"rd";refine⟨a,rfl,⟨xs,SqT.of (s1 _ _ e)⟩,?_⟩;refine vZ (K:=K) (xs:=xs) (λj σ H'=>(∃vc vd,σ=[some (.ref a),some (.int p0.1),some (.int p0.2),vc,vd])/\Same H H'/\(ps.take j).findSome? (pG ps p0)=none) ⟨⟨_,_,rfl⟩,s1,rfl⟩ (λi σ H' _ h=>SqT.of (h.2.1 _ _ e)) ?_ ?_
   ·rintro j y σ H2 hy ⟨⟨vc,vd,rfl⟩,s2,n2⟩;obtain⟨q2,eq2,iq2⟩:=(hxs.same s2).get' hy;rw[ae4]at eq2
    cases hqj:ps[j]? with
    |none=>rw[hqj]at eq2;cases eq2
    |some q0=>
    rw[hqj]at eq2;cases eq2;unfold aJ at iq2
    cases iq2 with
    |@tup r2 ys2 _ er2 hys2=>
    obtain rfl:=lA hys2;refine fY er2 rfl ?_;walk_at"rd";refine⟨_,ps,_,_,_,_,rfl,Is.same s2 (.tup e hxs),λH3 s3=>?_⟩
    cases hf:gM ps p0.1 p0.2 q0.1 q0.2 with
    |true=>
     walk_at"rd";refine⟨by show 5<=sizeLine;decide,λr3 hr3=>?_⟩;have ef:f2 ps=some [p0.1,p0.2,q0.1,q0.2]:=mB n1 hpi (mB n2 hqj (if_pos hf));refine q _ _ ((s2.trans s3).trans (Same.upd hr3)) ?_;rw[ef]
     exact .tup aB (.cons (.str _) (.cons (.int _) (.cons (.int _) (.cons (.int _) (.cons (.int _) .nil)))))
    |false=>
     walk_at"rd";exact⟨⟨_,_,rfl⟩,s2.trans s3,l9 n2 hqj (if_neg (by rw[hf];exact afK))⟩
   ·rintro σ H2 ⟨⟨vc,vd,rfl⟩,s2,n2⟩;rw[hl]at n2;exact⟨⟨_,_,_,_,rfl⟩,s2,l9 n1 hpi (vY n2)⟩
  ·rintro σ H1 ⟨⟨va,vb,vc,vd,rfl⟩,s1,n1⟩;rw[hl]at n1;walk_at"rd";refine q _ H1 s1 ?_;rw[show f2 ps=none from vY n1];exact .non
noncomputable def pF(n:Nat)(ps:List (Int×Int))(p:Int×Int)(c:Nat):Option (List Int):=(range n).findSome? λ(d:Nat)=>if fS ps p.1 p.2 c d=true then some [p.1,p.2,(c:Int),(d:Int)] else none
noncomputable def f3(n:Nat)(ps:List (Int×Int)):Option (List Int):=ps.findSome? λp=>(range n).findSome? (pF n ps p)
noncomputable def OQ:Sp:=λvs H Q _=>∃x ps n,vs=[.int (n:Nat),x]/\n<=8/\Is H x (.tuple (ps.map aJ))/\∀v H',Same H H'->Is H' v (j8 "three" (f3 n ps))->Q v H'
theorem VN(T:aP K mg t):FnOk P w K mg base aM 2 t.zQ t.xE ["many","pairs"] OQ:=by
 refine T.LA.ok sc_first_three (λvs H Q E h=>?_) (λcdv A outer s H vs Q E hr h=>?_)
 ·obtain⟨x,ps,n,rfl,_⟩:=h;rfl
 ·obtain⟨x,ps,n,rfl,hn,hx,q⟩:=h
  refine⟨_,(aE (cE afP rfl (i3 K (pv 1)) (gF K rfl (cF (aN (i:=2) sc_first_three.nd rfl (afM rfl)) (cF (aN (i:=3) sc_first_three.nd rfl (afM rfl)) gA))) (aC (cE afP rfl (bU rfl T.bP (aA (pv 0) pa_nil)) (aN (i:=4) sc_first_three.nd rfl (afM rfl)) (aC (cE afP rfl (bU rfl T.bP (aA (pv 0) pa_nil)) (aN (i:=5) sc_first_three.nd rfl (afM rfl)) (aC (bF (bW (aG (VW T) (hr.mono (by decide)) rfl T.YA T.LJ.kp T.adV .nil aH (aA (pv 1) (aA (pv 2) (aA (pv 3) (aA (pv 4) (aA (pv 5) pa_nil))))))) (aC (aI (bH (aA pe_str (aA (pv 2) (aA (pv 3) (aA (pv 4) (aA (pv 5) pa_nil)))))))) bE)))))))
   (aC (aI pe_non))),?_⟩
  cases hx with
  |@tup a xs _ e hxs=>
  have hl:xs.length=ps.length:=by rw[hxs.length,length_map]
  walk_at"rd";refine⟨a,rfl,⟨xs,SqT.of e⟩,?_⟩;refine vZ (K:=K) (xs:=xs) (λi σ H'=>(∃va vb vc vd,σ=[some (.int n),some (.ref a),va,vb,vc,vd])/\Same H H'/\(ps.take i).findSome? (λp=>(range n).findSome? (pF n ps p))=none) ⟨⟨_,_,_,_,rfl⟩,Same.refl H,rfl⟩ (λi σ H' _ h=>SqT.of (h.2.1 _ _ e)) ?_ ?_
  ·rintro i x σ H1 hx ⟨⟨va,vb,vc,vd,rfl⟩,s1,n1⟩;obtain⟨p,ep,ip⟩:=(hxs.same s1).get' hx;rw[ae4]at ep
   cases hpi:ps[i]? with
   |none=>rw[hpi]at ep;cases ep
   |some p0=>
   rw[hpi]at ep;cases ep;unfold aJ at ip
   cases ip with
   |@tup r ys _ er hys=>
   obtain rfl:=lA hys;refine fY er rfl ?_;walk_at"rd";refine⟨_,rfl,by lia,by lia,?_⟩;rw[ae6];refine dQ (λc σ H'=>(∃vc vd,σ=[some (.int n),some (.ref a),some (.int p0.1),some (.int p0.2),vc,vd])/\Same H H'/\((range n).take c).findSome? (pF n ps p0)=none) ⟨⟨_,_,rfl⟩,s1,rfl⟩ ?_ ?_
   ·rintro c σ H2 hc ⟨⟨vc,vd,rfl⟩,s2,n2⟩;walk_at"rd";refine⟨_,rfl,by lia,by lia,?_⟩;rw[ae6];refine dQ (λd σ H'=>(∃vd,σ=[some (.int n),some (.ref a),some (.int p0.1),some (.int p0.2),some (.int (0+c)),vd])/\Same H H'/\((range n).take d).findSome? (λ(d:Nat)=>if fS ps p0.1 p0.2 c d=true then some [p0.1,p0.2,(c:Int),(d:Int)] else none)=none) ⟨⟨_,rfl⟩,s2,rfl⟩ ?_ ?_
    ·rintro d σ H3 hd ⟨⟨vd,rfl⟩,s3,n3⟩;walk_at"rd";refine⟨_,ps,_,_,_,_,rfl,Is.same s3 (.tup e hxs),λH4 s4=>?_⟩;rw[agI,agI]
     cases hf:fS ps p0.1 p0.2 c d with
     |true=>
      walk_at"rd";refine⟨by show 5<=sizeLine;decide,λr3 hr3=>?_⟩;have ef:f3 n ps=some [p0.1,p0.2,(c:Int),(d:Int)]:=mB n1 hpi (mB n2 (nL hc) (mB n3 (nL hd) (if_pos hf)));refine q _ _ ((s3.trans s4).trans (Same.upd hr3)) ?_;rw[ef]
      exact .tup aB (.cons (.str _) (.cons (.int _) (.cons (.int _) (.cons (.int _) (.cons (.int _) .nil)))))
     |false=>
      walk_at"rd";exact⟨⟨_,rfl⟩,s3.trans s4,l9 n3 (nL hd) (if_neg (by rw[hf];exact afK))⟩
    ·rintro σ H3 ⟨⟨vd,rfl⟩,s3,n3⟩;exact⟨⟨_,_,rfl⟩,s3,l9 n2 (nL hc) (DT n3)⟩
   ·rintro σ H2 ⟨⟨vc,vd,rfl⟩,s2,n2⟩;exact⟨⟨_,_,_,_,rfl⟩,s2,l9 n1 hpi (DT n2)⟩
  ·rintro σ H1 ⟨⟨va,vb,vc,vd,rfl⟩,s1,n1⟩;rw[hl]at n1;walk_at"rd";refine q _ H1 s1 ?_;rw[show f3 n ps=none from vY n1];exact .non
noncomputable def jW(n:Nat)(ps:List (Int×Int)):PyData:=match f2 ps with
 |some l=>j8 "two" (some l)
 |none=>j8 "three" (f3 n ps)
noncomputable def O1:Sp:=λvs H Q _=>∃x n ps,vs=[x]/\Is H x (aX n ps)/\Ord n ps/\∀v H',Same H H'->Is H' v (jW n ps)->Q v H'
theorem FM(T:aP K mg t):FnOk P w K mg base aM 6 t.z6 t.xR ["order"] O1:=by
 refine T.A2.ok sc_bar (λvs H Q E h=>?_) (λcdv A outer s H vs Q E hr h=>?_)
 ·obtain⟨x,n,ps,rfl,_⟩:=h;rfl
 ·obtain⟨x,n,ps,rfl,hx,ho,q⟩:=h
  refine⟨_,(aE (cI (aG (uS T) (hr.mono (by decide)) rfl T.vD T.pZ.kp T.yO .nil aH (aA (pv 0) pa_nil)))
   (aE (aT (i:=1) sc_bar.nd rfl (afM rfl) (aG (VM T) (hr.mono (by decide)) rfl T.X0 T.K3.kp T.adL .nil aH (aA (aU (aV K) (pv 0) pe_int (λ_ _=>rfl)) pa_nil)))
   (aE (bF (aZ lJ (pv 1) pe_non (bD _)) (aC (aT (i:=1) sc_bar.nd rfl (afM rfl) (aG (VN T) (hr.mono (by decide)) rfl T.X1 T.LA.kp T.adM .nil aH (aA (aU (aV K) (pv 0) pe_int (λ_ _=>rfl)) (aA (aU (aV K) (pv 0) pe_int (λ_ _=>rfl)) pa_nil))))) bE)
   (aC (aI (pv 1)))))),?_⟩
  walk_at"rd";refine⟨_,_,rfl,hx,ho.okd,ho.yes,λH1 s1=>?_⟩;obtain⟨a,b,xs,rfl,ea,eb,hxs⟩:=eH (hx.same s1);walk_at"rd";refine⟨_,ps,rfl,.tup eb hxs,λv H2 s2 iv=>?_⟩;have ea2:=s2 _ _ ea;have eb2:=s2 _ _ eb;unfold jW at q
  cases e2:f2 ps with
  |some l=>
   rw[e2]at iv q;unfold j8 at iv
   cases iv with
   |@tup r ys _ er hys=>
   walk_at"rd"
   exact q _ H2 (s1.trans s2) (.tup er hys)
  |none=>
   rw[e2]at iv q;unfold j8 at iv
   cases iv with
   |non=>
   walk_at"rd";refine⟨_,ps,n,rfl,ho.hi,.tup eb2 (hxs.same s2),λv H3 s3 iv=>?_⟩;walk_at"rd";exact q v H3 ((s1.trans s2).trans s3) iv
noncomputable def mH(ps:List (Int×Int)):Bool:=ps.any λp=>ps.any λq=>gM ps p.1 p.2 q.1 q.2
noncomputable def mG(n:Nat)(ps:List (Int×Int)):Bool:=ps.any λp=>(range n).any λc=>(range n).any λd=>fS ps p.1 p.2 c d
noncomputable def cH(n:Nat)(ps:List (Int×Int)):Bool:=mH ps||mG n ps
theorem f2_none{ps:List (Int×Int)}:f2 ps=none<->mH ps=false:=by
 unfold f2 mH pG;rw[ahI,any_eq_false];refine forall_congr' λp=>forall_congr' λhp=>?_;rw[ahI,Bool.not_eq_true,any_eq_false];refine forall_congr' λq=>forall_congr' λhq=>?_;cases gM ps p.1 p.2 q.1 q.2 <;> simp
theorem f3_none{n:Nat}{ps:List (Int×Int)}:f3 n ps=none<->mG n ps=false:=by
 unfold f3 mG pF;rw[ahI,any_eq_false];refine forall_congr' λp=>forall_congr' λhp=>?_;rw[ahI,Bool.not_eq_true,any_eq_false];refine forall_congr' λc=>forall_congr' λhc=>?_;rw[ahI,Bool.not_eq_true,any_eq_false];refine forall_congr' λd=>forall_congr' λhd=>?_;cases fS ps p.1 p.2 c d <;> simp
theorem JG{n:Nat}{ps:List (Int×Int)}(h:cH n ps=false):jW n ps=.none:=by
 unfold cH at h;rw[Bool.or_eq_false_iff]at h;unfold jW;rw[f2_none.mpr h.1,f3_none.mpr h.2];rfl
theorem ac1{n:Nat}{ps:List (Int×Int)}(h:cH n ps=true):∃ds,jW n ps=.tuple ds:=by
 unfold cH at h;unfold jW
 cases e2:f2 ps with
 |some l=>exact⟨_,rfl⟩
 |none=>
  rw[f2_none.mp e2,Bool.false_or]at h
  cases e3:f3 n ps with
  |some l=>exact⟨_,rfl⟩
  |none=>rw[f3_none.mp e3]at h;cases h
noncomputable def NH:Sp:=λvs H Q _=>∃x n ps,vs=[x]/\Is H x (aX n ps)/\Ord n ps/\cH n ps=false/\∀H',Same H H'->Q .non H'
theorem uR(T:aP K mg t):FnOk P w K mg base aM 7 t.y4 t.wN ["order"] NH:=by
 refine T.pY.ok PX (λvs H Q E h=>?_) (λcdv A outer s H vs Q E hr h=>?_)
 ·obtain⟨x,n,ps,rfl,_⟩:=h;rfl
 ·obtain⟨x,n,ps,rfl,hx,ho,hb,q⟩:=h;refine⟨_,(aC (bF (aZ uV (aG (FM T) (hr.mono (by decide)) rfl T.GS T.A2.kp T.JP .nil aH (aA (pv 0) pa_nil)) pe_non (bD _)) (aC kF) bE)),?_⟩;walk_at"rd";refine⟨x,n,ps,rfl,hx,ho,λv H' s' iv=>?_⟩;rw[JG hb]at iv
  cases iv with
  |non=>
  walk_at"rd";exact q H' s'
noncomputable def OH:Sp:=λvs H Q _=>∃x d,vs=[x]/\Is H x d/\Q (.bl (bZ d 1 999)) H
theorem FI(T:aP K mg t):FnOk P w K mg base aM 2 t.zH t.wZ ["value"] OH:=by
 refine T.AX.ok P8 (λvs H Q E h=>?_) (λcdv A outer s H vs Q E hr h=>?_)
 ·obtain⟨x,d,rfl,_⟩:=h;rfl
 ·obtain⟨x,d,rfl,hx,q⟩:=h;refine⟨_,(aC (aI (aG (oF T) (hr.mono (by decide)) rfl T.oR T.mQ.kp T.pN .nil aH (aA (pv 0) (aA pe_int (aA (nW rfl T.acG) pa_nil)))))),?_⟩;walk_at"rd";exact⟨_,_,_,_,rfl,hx,q⟩
noncomputable def NW:Sp:=λvs H Q _=>∃x d,vs=[x]/\Is H x d/\bZ d 1 999=true/\Q .non H
theorem VA(T:aP K mg t):FnOk P w K mg base aM 3 t.y7 t.wP ["value"] NW:=by
 refine T.KQ.ok PZ (λvs H Q E h=>?_) (λcdv A outer s H vs Q E hr h=>?_)
 ·obtain⟨x,d,rfl,_⟩:=h;rfl
 ·obtain⟨x,d,rfl,hx,ho,q⟩:=h;refine⟨_,(aC (bF (dF (bW (aG (FI T) (hr.mono (by decide)) rfl T.GN T.AX.kp T.JL .nil aH (aA (pv 0) pa_nil)))) (aC kF) bE)),?_⟩;walk_at"rd";refine⟨_,_,rfl,hx,?_⟩;rw[ho];walk_at"rd";exact q
noncomputable def fR(ps:List (Int×Int))(st i j:Int):Option Int:=if has ps i j=true then some st else if has ps j i=true then none else some (1-st)
noncomputable def oV:Option Int->V
 |some k=>.int k
 |none=>.non
noncomputable def OV:Sp:=λvs H Q _=>∃x ps st i j,vs=[x,.int st,.int i,.int j]/\Is H x (.tuple (ps.map aJ))/\∀H',Same H H'->Q (oV (fR ps st i j)) H'
theorem FL(T:aP K mg t):FnOk P w K mg base aM 1 t.zV t.xJ ["pairs","step","one","other"] OV:=by
 refine T.A0.ok QF (λvs H Q E h=>?_) (λcdv A outer s H vs Q E hr h=>?_)
 ·obtain⟨x,ps,st,i,j,rfl,_⟩:=h;rfl
 ·obtain⟨x,ps,st,i,j,rfl,hx,q⟩:=h
  refine⟨_,(aE (bF (aZ (oA hr.units) (bH (aA (pv 2) (aA (pv 3) pa_nil))) (pv 0) (by rfl)) (aC (aI (pv 1))) bE)
   (aE (bF (aZ (oA hr.units) (bH (aA (pv 3) (aA (pv 2) pa_nil))) (pv 0) (by rfl)) (aC (aI pe_non)) bE)
   (aC (aI (bB jM pe_int (pv 1)))))),?_⟩
  unfold fR at q;walk_at"rd";refine⟨cP,λp1 hp1=>?_⟩;have s1:=Same.upd (o:=.tup [.int i,.int j]) hp1;walk_at"rd";refine D7 aB (hx.same s1) ?_;walk_at"rd";refine bK (λh1=>?_) (λh1=>?_)
  ·walk_at"rd";have q':=q _ s1;rw[if_pos h1]at q';exact q'
  ·rw[h1]at q;walk_at"rd";refine⟨cP,λp2 hp2=>?_⟩;walk_at"rd";refine D7 aB (hx.same (s1.trans (Same.upd hp2))) ?_;walk_at"rd";refine bK (λh2=>?_) (λh2=>?_)
   ·rw[h2]at q;walk_at"rd";exact q _ (s1.trans (Same.upd hp2))
   ·rw[h2]at q;walk_at"rd";exact q _ (s1.trans (Same.upd hp2))
noncomputable abbrev Dm:=Nat×Nat×Int
noncomputable def fW(d:Dm):PyData:=.tuple [.int d.1,.int d.2.1,.int d.2.2]
noncomputable def fA(ps:List (Int×Int))(st:Int)(i j:Nat):List Dm:=if i=j then[] else match fR ps st i j with|some k=>[(i,j,k)]|none=>[]
noncomputable def gH(ps:List (Int×Int))(st:Int)(i m:Nat):List Dm:=(range m).flatMap (fA ps st i)
noncomputable def cW(n:Nat)(ps:List (Int×Int))(st:Int)(m:Nat):List Dm:=(range m).flatMap λi=>gH ps st i n
theorem abI(ps:List (Int×Int))(st:Int)(i j:Nat):(fA ps st i j).length<=1:=by
 unfold fA;split
 ·exact ae2 _
 ·split
  ·exact aeU _
  ·exact ae2 _
theorem IQ(ps:List (Int×Int))(st:Int)(i m:Nat):gH ps st i (m+1)=gH ps st i m++fA ps st i m:=by
 unfold gH;rw[range_succ,flatMap_append];simp
theorem IR(n:Nat)(ps:List (Int×Int))(st:Int)(m:Nat):cW n ps st (m+1)=cW n ps st m++gH ps st m n:=by
 unfold cW;rw[range_succ,flatMap_append];simp
theorem wA(ps:List (Int×Int))(st:Int)(i:Nat):∀m,(gH ps st i m).length<=m
 |0=>aeU _
 |m+1=>by
  rw[IQ,length_append];have:=wA ps st i m;have:=abI ps st i m;lia
theorem pI(n:Nat)(ps:List (Int×Int))(st:Int):∀m,(cW n ps st m).length<=m*n
 |0=>ae2 _
 |m+1=>by
  rw[IR,length_append,Nat.succ_mul];have:=pI n ps st m;have:=wA ps st m n;lia
theorem lK:∀ds:List Dm,bA (ds.map fW)=true
 |[]=>rfl
 |d::ds=>by
  rw[map_cons,bA,lK ds];rfl
theorem grow{H:Hp}{l p:Addr}{xs ys:List V}{d:PyData}{ds:List PyData}(hn:bA ds=true)(hl:H l=some (.lst xs))(hp:H p=none)(h:IsAll H xs ds)(hd:Is (upd (upd H p (.tup ys)) l (.lst (xs++[.ref p]))) (.ref p) d):
  IsAll (upd (upd H p (.tup ys)) l (.lst (xs++[.ref p]))) (xs++[.ref p]) (ds++[d]):=by
 refine IsAll.snoc (h.tmono (λa zs e=>?_) hn) hd;have h1:a≠l:=bJ e hl (by intro z;cases z);have h2:a≠p:=aW e hp;rw[aD h1,aD h2];exact e
noncomputable def O6:Sp:=λvs H Q _=>∃x n ps st,vs=[x,.int st]/\Is H x (aX n ps)/\n<=8/\∀l xs H',Same H H'->H l=none->H' l=some (.lst xs)->IsAll H' xs ((cW n ps st n).map fW)->Q (.ref l) H'
theorem FS(T:aP K mg t):FnOk P w K mg base aM 2 t.AD t.xY ["order","step"] O6:=by
 refine T.A9.ok sc_all_demands (λvs H Q E h=>?_) (λcdv A outer s H vs Q E hr h=>?_)
 ·obtain⟨x,n,ps,st,rfl,_⟩:=h;rfl
 ·obtain⟨x,n,ps,st,rfl,hx,hn,q⟩:=h
  refine⟨_,(aE (aT (i:=2) sc_all_demands.nd rfl (afM rfl) (cN pa_nil))
   (aE (cE afP rfl (bU rfl T.bP (aA (aU (aV K) (pv 0) pe_int (λ_ _=>rfl)) pa_nil)) (aN (i:=3) sc_all_demands.nd rfl (afM rfl)) (aC (cE afP rfl (bU rfl T.bP (aA (aU (aV K) (pv 0) pe_int (λ_ _=>rfl)) pa_nil)) (aN (i:=4) sc_all_demands.nd rfl (afM rfl)) (aE (aT (i:=5) sc_all_demands.nd rfl (afM rfl) (aG (FL T) (hr.mono (by decide)) rfl T.GR T.A0.kp T.JO .nil aH (aA (aU (aV K) (pv 0) pe_int (λ_ _=>rfl)) (aA (pv 1) (aA (pv 3) (aA (pv 4) pa_nil))))))
   (aC (bF (PW.pt (ES (aZ (iW hr.units) (pv 3) (pv 4) (bD _)) (ER (aZ uV (pv 5) pe_non (bD _))))) (aC (cI (eZ K afX agE agF iA (pv 2) (aA (bH (aA (pv 3) (aA (pv 4) (aA (pv 5) pa_nil)))) pa_nil)))) bE))))))
   (aC (aI (pv 2))))),?_⟩
  obtain⟨a,b,xs,rfl,ea,eb,hxs⟩:=eH hx;walk_at"rd";refine⟨ae2 _,λl hl=>?_⟩;have s0:=Same.upd (o:=.lst []) hl;have ea0:=s0 _ _ ea;walk_at"rd";refine⟨_,rfl,by lia,by lia,?_⟩;rw[ae6];refine dQ (λi σ H'=>(∃va vb vc,σ=[some (.ref a),some (.int st),some (.ref l),va,vb,vc])/\Same H H'/\∃zs,H' l=some (.lst zs)/\IsAll H' zs ((cW n ps st i).map fW)) ⟨⟨_,_,_,rfl⟩,s0,[],aB,.nil⟩ ?_ ?_
  ·rintro i σ H1 hi ⟨⟨va,vb,vc,rfl⟩,s1,zs,hz,iz⟩;have ea1:=s1 _ _ ea;walk_at"rd";refine⟨_,rfl,by lia,by lia,?_⟩;rw[ae6];refine dQ (λj σ H'=>(∃vb vc,σ=[some (.ref a),some (.int st),some (.ref l),some (.int (0+i)),vb,vc])/\Same H H'/\∃zs,H' l=some (.lst zs)/\IsAll H' zs ((cW n ps st i++gH ps st i j).map fW)) ⟨⟨_,_,rfl⟩,s1,zs,hz,by simpa[gH]using iz⟩ ?_ ?_
   ·rintro j σ H2 hj ⟨⟨vb,vc,rfl⟩,s2,zs2,hz2,iz2⟩;have ea2:=s2 _ _ ea;have eb2:=s2 _ _ eb;walk_at"rd";refine⟨_,ps,_,_,_,rfl,Is.same s2 (.tup eb hxs),λH3 s3=>?_⟩;have hz3:=s3 _ _ hz2;have iz3:=iz2.same s3;rw[agI,agI];have dE:cW n ps st i++gH ps st i (j+1)=cW n ps st i++gH ps st i j++fA ps st i j:=by rw[IQ,append_assoc]
    rw[dE];walk_at"rd";refine bK (λh1=>?_) (λh1=>?_)
    ·have hij:i≠j:=by intro z;subst z;simp at h1
     walk_at"rd"
     cases hd:fR ps st i j with
     |none=>
      rw[show oV none=V.non from rfl];walk_at"rd";refine⟨⟨_,_,rfl⟩,s2.trans s3,zs2,hz3,?_⟩
      simpa[fA,hij,hd]using iz3
     | some k=>
      rw[show oV (some k)=V.int k from rfl];walk_at"rd";refine⟨eO hz3,?_⟩;walk_at"rd";refine⟨by show 3<=sizeLine;decide,λp hp=>?_⟩;have hlp:l≠p:=aW hz3 hp
      have hlen:zs2.length<=8*8+8:=by
       rw[iz2.length,length_map,length_append];have h1:=pI n ps st i;have h2:=wA ps st i j;have h3:i*n<=8*8:=ahO (by lia) hn;lia
      walk_at"rd";refine fZ (xs:=zs2) ?_ (dU (by lia)) ?_
      ·rw[aD hlp];exact hz3
      walk_at"rd";refine⟨⟨_,_,rfl⟩,λc u e=>?_,_,aB,?_⟩
      ·have e3:=(s2.trans s3) c u e;rw[aD (aW e hl),aD (aW e3 hp)];exact e3
      ·have e1:fA ps st i j=[(i,j,k)]:=by simp[fA,hij,hd]
       rw[e1,map_append];refine grow (lK _) hz3 hp iz3 (.tup ?_ (.cons (.int _) (.cons (.int _) (.cons (.int _) .nil))));rw[aD (afY hlp),aB]
    ·have hij:i=j:=by
      have h1':((i:Int)==(j:Int))=true:=by simpa using h1
      have:=eq_of_beq h1';lia
     walk_at"rd";refine⟨⟨_,_,rfl⟩,s2.trans s3,zs2,hz3,?_⟩;simpa[fA,hij]using iz3
   ·rintro σ H2 ⟨⟨vb,vc,rfl⟩,s2,zs2,hz2,iz2⟩;exact⟨⟨_,_,_,rfl⟩,s2,zs2,hz2,by rw[IR];exact iz2⟩
  ·rintro σ H1 ⟨⟨va,vb,vc,rfl⟩,s1,zs,hz,iz⟩;walk_at"rd";exact q l zs H1 s1 hl hz iz
noncomputable abbrev Rs:=List Int×List V×V
noncomputable def cA(s:Rs)(d:Dm):Rs:=if s.1.getD d.1 0+d.2.2>s.1.getD d.2.1 0 then(s.1.set d.2.1 (s.1.getD d.1 0+d.2.2),s.2.1.set d.2.1 (.int d.1),.int d.2.1) else s
noncomputable def dW(ds:List Dm)(vals:List Int)(orgs:List V):Rs:=ds.foldl cA (vals,orgs,.non)
noncomputable def SameB(v o:Addr)(H H':Hp):Prop:=∀b u,H b=some u->b≠v->b≠o->H' b=some u
structure kS (H:Hp) (v o:Addr) (vals:List Int) (orgs:List V) (n:Nat):Prop where
 hv:H v=some (.lst (vals.map V.int))
 ho:H o=some (.lst orgs)
 lv:vals.length=n
 lo:orgs.length=n
noncomputable def gJ(n:Nat)(ds:List Dm):Prop:=∀d∈ds,d.1<n/\d.2.1<n
theorem M4{H:Hp}{xs:List V}{a b c:Int}(h:IsAll H xs [.int a,.int b,.int c]):xs=[.int a,.int b,.int c]:=by
 cases h with
 | cons h1 t=>
  cases h1
  cases t with
  | cons h2 t2=>
   cases h2
   cases t2 with
   |cons h3 t3=>
    cases h3;cases t3;rfl
theorem MZ{H:Hp}{xs:List V}{ds:List Dm}{i:Nat}{x:V}(h:IsAll H xs (ds.map fW))(e:xs[i]? =some x):∃d r,ds[i]? =some d/\x=.ref r/\H r=some (.tup [.int d.1,.int d.2.1,.int d.2.2]):=by
 obtain⟨d,ed,id⟩:=h.get' e;rw[ae4]at ed
 cases hd:ds[i]? with
 |none=>rw[hd]at ed;cases ed
 | some d0=>
  rw[hd]at ed;cases ed;unfold fW at id
  cases id with
  |@tup r ys _ er hys=>
   rw[M4 hys]at er;exact⟨d0,r,rfl,rfl,er⟩
theorem SameB.refl{v o:Addr}(H:Hp):SameB v o H H:=λ_ _ h _ _=>h
theorem SameB.trans{v o:Addr}{H H1 H2:Hp}(a:SameB v o H H1)(b:SameB v o H1 H2):SameB v o H H2:=λc u h h1 h2=>b c u (a c u h h1 h2) h1 h2
noncomputable def NP:Sp:=λvs H Q _=>∃l v o ds vals orgs n xs,vs=[.ref l,.ref v,.ref o]/\H l=some (.lst xs)/\IsAll H xs (ds.map fW)/\kS H v o vals orgs n/\l≠v/\l≠o/\v≠o/\gJ n ds/\
 ∀H',SameB v o H H'->kS H' v o (dW ds vals orgs).1 (dW ds vals orgs).2.1 n->Q (dW ds vals orgs).2.2 H'
theorem pB{vals:List Int}{i:Nat}(hi:i<vals.length):(vals.map V.int)[i]? =some (.int (vals.getD i 0)):=by
 rw[ae4];simp[hi]
theorem DF(vals:List Int)(i:Nat)(k:Int):(vals.map V.int).set i (.int k)=(vals.set i k).map V.int:=by
 rw[List.map_set]
theorem U4(T:aP K mg t):FnOk P w K mg base aM 1 t.yY t.wK ["demands","values","origins"] NP:=by
 refine T.KM.ok sc_raise_once (λvs H Q E h=>?_) (λcdv A outer s H vs Q E hr h=>?_)
 ·obtain⟨l,v,o,ds,vals,orgs,n,xs,rfl,_⟩:=h;rfl
 ·obtain⟨l,v,o,ds,vals,orgs,n,xs,rfl,hl,hxs,V0,nlv,nlo,nvo,hds,q⟩:=h
  refine⟨_,(aE (aT (i:=3) sc_raise_once.nd rfl (afM rfl) pe_non)
   (aE (cE afP rfl (dZ K (pv 0)) (gF K rfl (cF (aN (i:=4) sc_raise_once.nd rfl (afM rfl)) (cF (aN (i:=5) sc_raise_once.nd rfl (afM rfl)) (cF (aN (i:=6) sc_raise_once.nd rfl (afM rfl)) gA)))) (aC (bF (aZ (jO) (bB dH (aU (aV K) (pv 1) (pv 4) (λ_ _=>rfl)) (pv 6)) (aU (aV K) (pv 1) (pv 5) (λ_ _=>rfl)) (bD _)) (aE (kG (bB dH (aU (aV K) (pv 1) (pv 4) (λ_ _=>rfl)) (pv 6)) (nV (pv 1) (pv 5) nF (λ_=>rfl)))
   (aE (kG (pv 4) (nV (pv 2) (pv 5) nF (λ_=>rfl)))
   (aC (aT (i:=3) sc_raise_once.nd rfl (afM rfl) (pv 5))))) bE)))
   (aC (aI (pv 3))))),?_⟩
  have hlen:xs.length=ds.length:=by rw[hxs.length,length_map]
  walk_at"rd";refine⟨l,rfl,⟨xs,SqL.of hl⟩,?_⟩
  refine pD (K:=K) (xs:=xs) (λi σ H'=>(∃va vb vc,σ=[some (.ref l),some (.ref v),some (.ref o),some ((ds.take i).foldl cA (vals,orgs,.non)).2.2,va,vb,vc])/\SameB v o H H'/\kS H' v o ((ds.take i).foldl cA (vals,orgs,.non)).1 ((ds.take i).foldl cA (vals,orgs,.non)).2.1 n)
   ⟨⟨_,_,_,rfl⟩,SameB.refl H,V0⟩ (λi σ H' _ h=>SqL.of (h.2.1 _ _ hl nlv nlo)) ?_ ?_
  ·rintro i x σ H1 hx ⟨⟨va,vb,vc,rfl⟩,s1,V1⟩;obtain⟨d,r,ed,rfl,er0⟩:=MZ hxs hx;have er:H1 r=some (.tup [.int d.1,.int d.2.1,.int d.2.2]):=s1 r _ er0 (bJ er0 V0.hv (by intro z;cases z)) (bJ er0 V0.ho (by intro z;cases z));obtain⟨hd1,hd2⟩:=hds d (af3 ed)
   have e1:(ds.take (i+1)).foldl cA (vals,orgs,V.non)=cA ((ds.take i).foldl cA (vals,orgs,V.non)) d:=by
    rw[take_add_one,ed,List.foldl_append];rfl
   rw[e1];generalize hS:(ds.take i).foldl cA (vals,orgs,V.non)=S at V1 ⊢;obtain⟨hv1,ho1,lv1,lo1⟩:=id V1;refine fY er rfl ?_;walk_at"rd";refine dX hv1 (atI_of rfl (pB (by rw[lv1];exact hd1))) ?_;walk_at"rd";refine dX hv1 (atI_of rfl (pB (by rw[lv1];exact hd2))) ?_;walk_at"rd";unfold cA;refine bK (λh1=>?_) (λh1=>?_)
   ·have h1':=of_decide_eq_true h1;rw[if_pos h1'];walk_at"rd";refine dX hv1 (atI_of rfl (pB (by rw[lv1];exact hd1))) ?_;walk_at"rd";refine tW hv1 rfl (by rw[length_map,lv1];exact hd2) ?_;walk_at"rd";refine tW (xs:=S.2.1) (by rw[aD (afY nvo)];exact ho1) rfl (by rw[lo1];exact hd2) ?_;walk_at"rd";refine⟨⟨_,_,_,rfl⟩,λb u e n1 n2=>?_,?_,aB,by rw[length_set];exact lv1,by rw[length_set];exact lo1⟩
    ·rw[aD n2,aD n1];exact s1 b u e n1 n2
    ·rw[aD nvo,aB,DF]
   ·have h1':=of_decide_eq_false h1;rw[if_neg h1'];walk_at"rd";exact⟨⟨_,_,_,rfl⟩,s1,V1⟩
  ·rintro σ H1 ⟨⟨va,vb,vc,rfl⟩,s1,V1⟩;rw[hlen,take_length]at V1 ⊢;walk_at"rd";exact q H1 s1 V1
noncomputable def bT(ds:List Dm):Nat->List Int->List V->V->Rs
 |0,vals,orgs,r=>(vals,orgs,r)
 |k+1,vals,orgs,_=>if(dW ds vals orgs).2.2=.non then((dW ds vals orgs).1,(dW ds vals orgs).2.1,.non) else bT ds k (dW ds vals orgs).1 (dW ds vals orgs).2.1 (dW ds vals orgs).2.2
theorem Q6(s:Rs)(d:Dm)(h:s.2.2=.non\/∃k,s.2.2=.int k):(cA s d).2.2=.non\/∃k,(cA s d).2.2=.int k:=by
 unfold cA;split
 ·exact .inr ⟨_,rfl⟩
 ·exact h
theorem IF:∀(ds:List Dm)(s:Rs),(s.2.2=.non\/∃k,s.2.2=.int k)->((ds.foldl cA s).2.2=.non\/∃k,(ds.foldl cA s).2.2=.int k)
 |[],s,h=>h
 |d::ds,s,h=>by
  rw[foldl_cons];exact IF ds _ (Q6 s d h)
theorem QW(ds:List Dm)(vals:List Int)(orgs:List V):(dW ds vals orgs).2.2=.non\/∃k,(dW ds vals orgs).2.2=.int k:=IF ds _ (.inl rfl)
noncomputable def NQ:Sp:=λvs H Q _=>∃l v o ds vals orgs n xs,vs=[.ref l,.ref v,.ref o]/\n<=8/\H l=some (.lst xs)/\IsAll H xs (ds.map fW)/\kS H v o vals orgs n/\l≠v/\l≠o/\v≠o/\gJ n ds/\
 ∀H',SameB v o H H'->kS H' v o (bT ds n vals orgs .non).1 (bT ds n vals orgs .non).2.1 n->Q (bT ds n vals orgs .non).2.2 H'
theorem U5(T:aP K mg t):FnOk P w K mg base aM 2 t.yZ t.wL ["demands","values","origins"] NQ:=by
 refine T.KN.ok sc_raise_all (λvs H Q E h=>?_) (λcdv A outer s H vs Q E hr h=>?_)
 ·obtain⟨l,v,o,ds,vals,orgs,n,xs,rfl,_⟩:=h;rfl
 ·obtain⟨l,v,o,ds,vals,orgs,n,xs,rfl,hn,hl,hxs,V0,nlv,nlo,nvo,hds,q⟩:=h
  refine⟨_,(aE (aT (i:=3) sc_raise_all.nd rfl (afM rfl) pe_non)
   (aE (cE afP rfl (bU rfl T.bP (aA (bC (cK K) (by rfl) T.cJ cL (aA (pv 1) pa_nil)) pa_nil)) (aN (i:=4) sc_raise_all.nd rfl (afM rfl)) (aE (aT (i:=3) sc_raise_all.nd rfl (afM rfl) (aG (U4 T) (hr.mono (by decide)) rfl T.XL T.KM.kp T.ac7 .nil aH (aA (pv 0) (aA (pv 1) (aA (pv 2) pa_nil)))))
   (aC (bF (aZ lJ (pv 3) pe_non (bD _)) (aC (aI pe_non)) bE))))
   (aC (aI (pv 3))))),?_⟩
  have hv0:=V0.hv;have hlv:(vals.map V.int).length=n:=by rw[length_map];exact V0.lv
  walk_at"rd";refine⟨_,rfl,by lia,by lia,?_⟩;rw[hlv,ae6]
  refine dQ (λi σ H'=>i<=n/\SameB v o H H'/\∃vals' orgs' r va,σ=[some (.ref l),some (.ref v),some (.ref o),some r,va]/\kS H' v o vals' orgs' n/\bT ds (n-i) vals' orgs' r=bT ds n vals orgs .non)
   ⟨ae2 _,SameB.refl H,vals,orgs,.non,_,rfl,V0,rfl⟩ ?_ ?_
  ·rintro i σ H1 hi ⟨_,s1,vals',orgs',r,va,rfl,V1,hR⟩;walk_at"rd";refine⟨l,v,o,ds,vals',orgs',n,xs,rfl,s1 _ _ hl nlv nlo,?_,V1,nlv,nlo,nvo,hds,λH2 s2 V2=>?_⟩
   ·refine hxs.tmono (λa zs e=>s1 a _ e ?_ ?_) (lK _)
    ·exact bJ e V0.hv (by intro z;cases z)
    ·exact bJ e V0.ho (by intro z;cases z)
   have ek:n-i=(n-(i+1))+1:=by lia
   rw[ek,bT]at hR;rcases QW ds vals' orgs' with hr0|⟨k,hr0⟩
   ·rw[hr0]at hR ⊢;rw[if_pos rfl]at hR;rw[<-hR]at q;walk_at"rd";exact q H2 (s1.trans s2) V2
   ·rw[hr0]at hR ⊢;rw[if_neg (by intro z;cases z)]at hR;walk_at"rd";exact⟨hi,s1.trans s2,_,_,_,_,rfl,V2,hR⟩
  ·rintro σ H1 ⟨_,s1,vals',orgs',r,va,rfl,V1,hR⟩;rw[Nat.sub_self,bT]at hR;walk_at"rd";rw[<-hR]at q;exact q H1 s1 V1
noncomputable def lv(n:Nat)(ds:List Dm):Option (List Int):=if(bT ds n (replicate n 0) (replicate n .non) .non).2.2=.non then some (bT ds n (replicate n 0) (replicate n .non) .non).1 else none
theorem Q5(n:Nat):replicate n (V.int 0)=(replicate n (0:Int)).map V.int:=by rw[List.map_replicate]
theorem abH{n:Nat}{ps:List (Int×Int)}{st:Int}{i j:Nat}(hi:i<n)(hj:j<n):gJ n (fA ps st i j):=by
 intro d hd;unfold fA at hd;split at hd
 ·cases hd
 ·split at hd
  ·rcases mem_singleton.mp hd with rfl;exact⟨hi,hj⟩
  ·cases hd
theorem IS(n:Nat)(ps:List (Int×Int))(st:Int):gJ n (cW n ps st n):=by
 intro d hd;obtain⟨i,hi,hd⟩:=mem_flatMap.mp hd;obtain⟨j,hj,hd⟩:=mem_flatMap.mp hd;exact abH (mem_range.mp hi) (mem_range.mp hj) d hd
noncomputable def cM(st:Int)(vals:List Int)(i j:Nat):List (Int×Int):=if vals.getD j 0-vals.getD i 0>=st then[((i:Int),(j:Int))] else[]
noncomputable def eP(st:Int)(vals:List Int)(i m:Nat):List (Int×Int):=(range m).flatMap (cM st vals i)
noncomputable def eQ(st:Int)(vals:List Int)(m:Nat):List (Int×Int):=(range m).flatMap λi=>eP st vals i vals.length
noncomputable def bS(st:Int)(vals:List Int):List (Int×Int):=eQ st vals vals.length
theorem j6(st:Int)(vals:List Int)(i m:Nat):eP st vals i (m+1)=eP st vals i m++cM st vals i m:=by
 unfold eP;rw[range_succ,flatMap_append];simp
theorem j7(st:Int)(vals:List Int)(m:Nat):eQ st vals (m+1)=eQ st vals m++eP st vals m vals.length:=by
 unfold eQ;rw[range_succ,flatMap_append];simp
theorem CA(st:Int)(vals:List Int)(i j:Nat):(cM st vals i j).length<=1:=by
 unfold cM;split
 ·exact aeU _
 ·exact ae2 _
theorem hJ(st:Int)(vals:List Int)(i:Nat):∀m,(eP st vals i m).length<=m
 |0=>aeU _
 |m+1=>by
  rw[j6,length_append];have:=hJ st vals i m;have:=CA st vals i m;lia
theorem nA(st:Int)(vals:List Int):∀m,(eQ st vals m).length<=m*vals.length
 |0=>ae2 _
 |m+1=>by
  rw[j7,length_append,Nat.succ_mul];have:=nA st vals m;have:=hJ st vals m vals.length;lia
theorem gX:∀ds:List (Int×Int),bA (ds.map aJ)=true
 |[]=>rfl
 |d::ds=>by
  rw[map_cons,bA,gX ds];rfl
theorem IM:∀ps qs:List (Int×Int),PyData.eqvAll (ps.map aJ) (qs.map aJ)=decide (ps=qs)
 |[],[]=>rfl
 |[],_::_=>rfl
 |_::_,[]=>rfl
 | p::ps,q::qs=>by
  rw[map_cons,map_cons,PyData.eqvAll,v0,IM ps qs];by_cases h:p=q
  ·by_cases h2:ps=qs
   ·subst h h2;simp
   ·simp[h,h2]
  ·simp[h]
theorem U6(ps:List (Int×Int)):fL (.tuple (ps.map aJ)):=by
 have h:=lI ps;refine⟨?_,?_⟩
 ·rw[aiM];exact h.1
 ·rw[ag1]
  have:afI (ps.map aJ)<=1:=by
   clear h
   induction ps with
   |nil=>exact ae2 _
   |cons p ps ih=>
    rw[map_cons,afI];exact Nat.max_le.mpr ⟨aeU _,ih⟩
  lia
noncomputable abbrev gD(p q:Int×Int):Prop:=HT.lexLt [p.1,p.2] [q.1,q.2]=true
theorem oU{p q:Int×Int}(h:p.1<q.1\/(p.1=q.1/\p.2<q.2)):gD p q:=by
 show HT.lexLt [p.1,p.2] [q.1,q.2]=true;rw[HT.eF];rcases h with h|⟨h1,h2⟩
 ·rw[if_neg (by lia)];exact decide_eq_true h
 ·rw[if_pos h1,HT.eF,if_neg (by lia)];exact decide_eq_true h2
theorem mem_tlI{st:Int}{vals:List Int}{i j:Nat}{p:Int×Int}:p∈cM st vals i j<->p=((i:Int),(j:Int))/\vals.getD j 0-vals.getD i 0>=st:=by
 unfold cM;split
 ·rename_i h;rw[mem_singleton];exact⟨λe=>⟨e,h⟩,λe=>e.1⟩
 ·rename_i h;constructor
  ·intro e;cases e
  ·intro e;exact absurd e.2 h
theorem mem_tlRow{st:Int}{vals:List Int}{i m:Nat}{p:Int×Int}:p∈eP st vals i m<->∃j,j<m/\p=((i:Int),(j:Int))/\vals.getD j 0-vals.getD i 0>=st:=by
 unfold eP;rw[mem_flatMap];constructor
 ·rintro⟨j,hj,h⟩;exact⟨j,mem_range.mp hj,mem_tlI.mp h⟩
 ·rintro⟨j,hj,h⟩;exact⟨j,mem_range.mpr hj,mem_tlI.mpr h⟩
theorem mem_tlAll{st:Int}{vals:List Int}{m:Nat}{p:Int×Int}:p∈eQ st vals m<->∃i j,i<m/\j<vals.length/\p=((i:Int),(j:Int))/\vals.getD j 0-vals.getD i 0>=st:=by
 unfold eQ;rw[mem_flatMap];constructor
 ·rintro⟨i,hi,h⟩;obtain⟨j,hj,e,g⟩:=mem_tlRow.mp h;exact⟨i,j,mem_range.mp hi,hj,e,g⟩
 ·rintro⟨i,j,hi,hj,e,g⟩;exact⟨i,mem_range.mpr hi,mem_tlRow.mpr ⟨j,hj,e,g⟩⟩
theorem aaV{st:Int}{vals:List Int}{i j:Nat}(hi:i<vals.length)(hj:j<vals.length):has (bS st vals) i j=decide (vals.getD j 0-vals.getD i 0>=st):=by
 unfold has
 congr 1
 apply propext;unfold bS;rw[mem_tlAll];constructor
 ·rintro⟨a,b,_,_,e,g⟩;have e1:(i:Int)=a:=congrArg Prod.fst e;have e2:(j:Int)=b:=congrArg Prod.snd e;have:i=a:=by lia
  have:j=b:=by lia
  subst_vars
  exact g
 ·intro g;exact⟨i,j,hi,hj,rfl,g⟩
theorem DM(st:Int)(vals:List Int)(i:Nat):∀m,(eP st vals i m).Pairwise gD
 |0=>.nil
 | m+1=>by
  rw[j6,pairwise_append];refine⟨DM st vals i m,?_,λp hp q hq=>?_⟩
  ·unfold cM;split
   ·exact pairwise_singleton _ _
   ·exact .nil
  ·obtain⟨j,hj,rfl,_⟩:=mem_tlRow.mp hp;obtain⟨rfl,_⟩:=mem_tlI.mp hq;exact oU (.inr ⟨rfl,by show(j:Int)<m;lia⟩)
theorem yQ(st:Int)(vals:List Int):∀m,(eQ st vals m).Pairwise gD
 |0=>.nil
 |m+1=>by
  rw[j7,pairwise_append];refine⟨yQ st vals m,DM st vals m _,λp hp q hq=>?_⟩;obtain⟨i,j,hi,hj,rfl,_⟩:=mem_tlAll.mp hp;obtain⟨j',_,rfl,_⟩:=mem_tlRow.mp hq;exact oU (.inl (by show(i:Int)<m;lia))
theorem tV:∀{ps:List (Int×Int)},ps.Pairwise gD->fX ps=true
 |[],_=>rfl
 |[_],_=>rfl
 |a::b::r,h=>by
  rw[fX,tV (pairwise_cons.mp h).2,(pairwise_cons.mp h).1 b mem_cons_self];rfl
theorem DO{st:Int}(hs:1<=st){vals:List Int}{i:Nat}:∀m,i<m->(eP st vals i m).length+1<=m
 |0,h=>by lia
 | m+1,h=>by
  rw[j6,length_append];by_cases e:i=m
  ·subst e
   have:cM st vals i i=[]:=by
    unfold cM;rw[if_neg (by lia)]
   rw[this];have:=hJ st vals i i;simp only[length_nil];lia
  ·have a:=DO (i:=i) hs (vals:=vals) m (by lia);have b:=CA st vals i m;lia
theorem J4{st:Int}(hs:1<=st){vals:List Int}:∀m,m<=vals.length->(eQ st vals m).length+m<=m*vals.length
 |0,_=>by simp[eQ]
 |m+1,h=>by
  rw[j7,length_append,Nat.succ_mul];have a:=J4 hs (vals:=vals) m (by lia);have b:=DO hs (vals:=vals) (i:=m) vals.length (by lia);lia
theorem B9{st:Int}(hs:1<=st){vals:List Int}(h1:1<=vals.length)(h8:vals.length<=8):(bS st vals).length<64:=by
 have a:=J4 hs (vals:=vals) vals.length (aeU _);have b:vals.length*vals.length<=8*8:=ahO h8 h8;unfold bS;lia
theorem mZ{st:Int}(hs:1<=st){vals:List Int}(h1:1<=vals.length)(h8:vals.length<=8):Ord vals.length (bS st vals) where
 lo:=h1
 hi:=h8
 ix:=λp hp=>by
  obtain⟨i,j,hi,hj,rfl,g⟩:=mem_tlAll.mp hp;refine⟨by show(0:Int)<=i;lia,by show(i:Int)<vals.length;lia,by show(0:Int)<=j;lia,by show(j:Int)<vals.length;lia,?_⟩;intro e;have e':(i:Int)=j:=e;have:i=j:=by lia
  subst this;lia
 up:=tV (yQ st vals _)
 sz:=by
  have:=B9 hs h1 h8;lia
theorem DC{α:Type}{lt:α->α->Prop}(as:∀a b,lt a b->¬lt b a):∀{l1 l2:List α},l1.Perm l2->l1.Pairwise lt->l2.Pairwise lt->l1=l2
 |[],l2,h,_,_=>(List.nil_perm.mp h).symm
 |a::t1,[],h,_,_=>by
  have:=h.length_eq
  simp at this
 | a::t1,b::t2,h,p1,p2=>by
  have e:a=b:=by
   apply afV;intro hne
   have ha:a∈t2:=by
    rcases mem_cons.mp (h.mem_iff.mp mem_cons_self) with g|g
    ·exact absurd g hne
    ·exact g
   have hb:b∈t1:=by
    rcases mem_cons.mp (h.mem_iff.mpr mem_cons_self) with g|g
    ·exact absurd g.symm hne
    ·exact g
   exact as a b ((pairwise_cons.mp p1).1 b hb) ((pairwise_cons.mp p2).1 a ha)
  subst e;rw[DC as (ah6.cons_inv h) (pairwise_cons.mp p1).2 (pairwise_cons.mp p2).2]
theorem kM{α:Type}(f:α->Bool)(x:α):[x].filter f=if f x=true then[x] else[]:=by
 cases h:f x <;> simp[h]
theorem YR(p q:Int×Int):gD p q->¬gD q p:=λh1 h2=>by
 have h2':HT.lexLt [q.1,q.2] [p.1,p.2]=true:=h2;rw[iY h1]at h2';cases h2'
theorem has_iff{ps:List (Int×Int)}{i j:Int}:has ps i j=true<->(i,j)∈ps:=by
 unfold has;exact decide_eq_true_iff
theorem WR{ps:List (Int×Int)}(h:ps.Pairwise gD):ps.Nodup:=by
 refine af7.imp (λ{a b}hab z=>?_) h;subst z;exact YR _ _ hab hab
theorem uX:∀(m:Nat)(l:List Nat),l.Nodup->(∀x∈l,x<m)->l.length<=m
 |0,[],_,_=>aeU _
 |0,x::_,_,h=>absurd (h x mem_cons_self) (Nat.not_lt_zero _)
 | m+1,l,nd,h=>by
  by_cases hm:m∈l
  ·have:=uX m (l.erase m) (nd.erase m) λx hx=>by
    have:=(ah4.mem_erase_iff nd).mp hx;have:=h x this.2;lia
   rw[List.length_erase_of_mem hm]at this;lia
  ·have:=uX m l nd λx hx=>by
    have h1:=h x hx;have:x≠m:=λz=>hm (z▸hx);lia
   lia
noncomputable def vO(p:Int×Int):Prop:=0<=p.1/\p.1<8/\0<=p.2/\p.2<8/\p.1≠p.2
theorem PF{ps:List (Int×Int)}(nd:ps.Nodup)(h:∀p∈ps,vO p):ps.length<64:=by
 have e:=uX 63 (ps.map λp=>(8*p.1+p.2).toNat) (by
  unfold ah4;rw[pairwise_map];refine af7.imp_of_mem (λ{a b}ha hb hab z=>hab ?_) nd;obtain⟨a1,a2,a3,a4,_⟩:=h a ha;obtain⟨b1,b2,b3,b4,_⟩:=h b hb;have:8*a.1+a.2=8*b.1+b.2:=by lia
  exact Prod.ext (by lia) (by lia)) (λx hx=>by
  obtain⟨p,hp,rfl⟩:=mem_map.mp hx;obtain⟨a1,a2,a3,a4,_⟩:=h p hp;show(8*p.1+p.2).toNat<63
  lia)
 rw[length_map]at e;lia
noncomputable def inN(n:Nat)(p:Int×Int):Prop:=0<=p.1/\p.1<n/\0<=p.2/\p.2<n/\p.1≠p.2
theorem inN.box{n:Nat}(h8:n<=8){p:Int×Int}(h:inN n p):vO p:=by
 obtain⟨a,b,c,d,e⟩:=h;exact⟨a,by lia,c,by lia,e⟩
theorem E9{n:Nat}{ps:List (Int×Int)}(lo:1<=n)(hi:n<=8)(ix:∀p∈ps,inN n p)(up:ps.Pairwise gD):Ord n ps:=
 ⟨lo,hi,ix,tV up,agP (afG (PF (WR up) λp hp=>(ix p hp).box hi) (by decide))⟩
theorem Ord.box{n:Nat}{ps:List (Int×Int)}(h:Ord n ps){p:Int×Int}(hp:p∈ps):vO p:=inN.box h.hi (h.ix p hp)
theorem Ord.in{n:Nat}{ps:List (Int×Int)}(h:Ord n ps){i j:Int}(g:has ps i j=true):inN n (i,j):=h.ix _ (has_iff.mp g)
theorem M5{k:Int}{n:Nat}(h0:0<=k)(h1:k<n):bZ (.int k) 0 ((n:Int)-1)=true:=by
 show(decide (0<=k)&&decide (k<=(n:Int)-1))=true;rw[decide_eq_true h0,decide_eq_true (by lia)];rfl
noncomputable def gI(f:Nat->Nat->Bool)(i j:Nat):List (Int×Int):=if f i j=true then[((i:Int),(j:Int))] else[]
noncomputable def g7(f:Nat->Nat->Bool)(i m:Nat):List (Int×Int):=(range m).flatMap (gI f i)
noncomputable def iH(f:Nat->Nat->Bool)(n m:Nat):List (Int×Int):=(range m).flatMap λi=>g7 f i n
theorem vU(f:Nat->Nat->Bool)(i m:Nat):g7 f i (m+1)=g7 f i m++gI f i m:=by
 unfold g7;rw[range_succ,flatMap_append];simp
theorem ID(f:Nat->Nat->Bool)(n m:Nat):iH f n (m+1)=iH f n m++g7 f m n:=by
 unfold iH;rw[range_succ,flatMap_append];simp
theorem mem_gI{f:Nat->Nat->Bool}{i j:Nat}{p:Int×Int}:p∈gI f i j<->p=((i:Int),(j:Int))/\f i j=true:=by
 unfold gI;split
 ·rename_i h;rw[mem_singleton];exact⟨λe=>⟨e,h⟩,λe=>e.1⟩
 ·rename_i h;exact⟨λe=>(nomatch e),λe=>absurd e.2 h⟩
theorem mem_gRow{f:Nat->Nat->Bool}{i m:Nat}{p:Int×Int}:p∈g7 f i m<->∃j,j<m/\p=((i:Int),(j:Int))/\f i j=true:=by
 unfold g7;rw[mem_flatMap];constructor
 ·rintro⟨j,hj,h⟩;exact⟨j,mem_range.mp hj,mem_gI.mp h⟩
 ·rintro⟨j,hj,h⟩;exact⟨j,mem_range.mpr hj,mem_gI.mpr h⟩
theorem W7{f:Nat->Nat->Bool}{n m:Nat}{p:Int×Int}:p∈iH f n m<->∃i j,i<m/\j<n/\p=((i:Int),(j:Int))/\f i j=true:=by
 unfold iH;rw[mem_flatMap];constructor
 ·rintro⟨i,hi,h⟩;obtain⟨j,hj,e,g⟩:=mem_gRow.mp h;exact⟨i,j,mem_range.mp hi,hj,e,g⟩
 ·rintro⟨i,j,hi,hj,e,g⟩;exact⟨i,mem_range.mpr hi,mem_gRow.mpr ⟨j,hj,e,g⟩⟩
theorem aa4(f:Nat->Nat->Bool)(i j:Nat):(gI f i j).length<=1:=by
 unfold gI;split
 ·exact aeU _
 ·exact ae2 _
theorem vV(f:Nat->Nat->Bool)(i:Nat):∀m,(g7 f i m).length<=m
 |0=>aeU _
 |m+1=>by
  rw[vU,length_append];have:=vV f i m;have:=aa4 f i m;lia
theorem IE(f:Nat->Nat->Bool)(n:Nat):∀m,(iH f n m).length<=m*n
 |0=>ae2 _
 |m+1=>by
  rw[ID,length_append,Nat.succ_mul];have:=IE f n m;have:=vV f m n;lia
noncomputable def BD(n:Nat)(ps:List (Int×Int)):Prop:=(∃a b c d,gM ps a b c d=true)\/∃a b c d:Int,0<=d/\d<n/\fS ps a b c d=true
theorem acQ{n:Nat}{ps:List (Int×Int)}(ho:Ord n ps):cH n ps=true<->BD n ps:=by
 unfold cH BD;rw[Bool.or_eq_true];refine or_congr ?_ ?_
 ·unfold mH;rw[any_eq_true];constructor
  ·rintro⟨p,_,h⟩;obtain⟨q,_,h⟩:=any_eq_true.mp h;exact⟨_,_,_,_,h⟩
  ·rintro⟨a,b,c,d,h⟩;have h':=h;unfold gM at h';rw[afB,afB]at h';exact⟨(a,b),has_iff.mp h'.1.1,any_eq_true.mpr ⟨(c,d),has_iff.mp h'.1.2,h⟩⟩
 ·unfold mG;rw[any_eq_true];constructor
  ·rintro⟨p,_,h⟩;obtain⟨c,_,h⟩:=any_eq_true.mp h;obtain⟨d,hd,h⟩:=any_eq_true.mp h;have:=mem_range.mp hd;exact⟨_,_,_,_,by lia,by lia,h⟩
  ·rintro⟨a,b,c,d,h0,h1,h⟩;have h':=h;unfold fS at h';rw[afB,afB]at h';obtain⟨_,_,c0,c1,_⟩:=ho.in h'.1.2
   have c0:0<=c:=c0;have c1:c<n:=c1;refine⟨(a,b),has_iff.mp h'.1.1,any_eq_true.mpr ⟨c.toNat,mem_range.mpr (by lia),any_eq_true.mpr ⟨d.toNat,mem_range.mpr (by lia),?_⟩⟩⟩;rw[ah0 c0,ah0 h0];exact h
theorem ac0{H:Hp}{v:V}{n:Nat}{ps:List (Int×Int)}(h:Is H v (jW n ps)):decide (v=V.non)= !cH n ps:=by
 cases e:cH n ps with
 |false=>
  rw[JG e]at h;cases h
  rfl
 |true=>
  obtain⟨ds,e'⟩:=ac1 e;rw[e']at h;cases h;rfl
noncomputable def OY(K:PySem.W.Frag):Sp:=λvs H Q _=>∃a ns k,vs=[.ref a,.int k]/\Scr K H a ns/\0<=k/\∀c H',Same H H'->Q (.int c) H'
theorem int_at{ns:List Int}{k:Int}(h0:0<=k)(h1:k<ns.length):c5 (ns.map V.int) k=some (.int (ns.getD k.toNat 0)):=by
 refine atI_of (i:=k.toNat) (by lia) ?_;rw[ae4];have:k.toNat<ns.length:=by lia
 simp[this]
theorem V9(T:aP K mg t):FnOk P w K mg base aM 1 t.AM t.yD ["_law_script","_law_k"] (OY K):=by
 refine T.LR.ok QR (λvs H Q E h=>?_) (λcdv A outer s H vs Q E hr h=>?_)
 ·obtain⟨a,ns,k,rfl,_⟩:=h;rfl
 ·obtain⟨a,ns,k,rfl,hs,hk,q⟩:=h
  refine⟨_,(aE (bF (aZ (uO) (pv 1) (bC (cK K) (by rfl) T.cJ cL (aA (pv 0) pa_nil)) (bD _)) (aC (aI (aU (aV K) (pv 0) (pv 1) (λ_ _=>rfl)))) bE)
   (aE (bF (aZ (ZY K hr.units0) (pv 0) (cN pa_nil) (bD _)) (aC (aI pe_int)) bE)
   (aC (aI (bB dH (bB n9 (aU (aV K) (pv 0) (bB jN (pv 1) (bC (cK K) (by rfl) T.cJ cL (aA (pv 0) pa_nil))) (λ_ _=>rfl)) pe_int) (pv 1)))))),?_⟩
  walk_at"rd";refine D4 hs.sq ?_;walk_at"rd";refine bK (λh1=>?_) (λh1=>?_)
  ·have h1':=of_decide_eq_true h1;rw[length_map]at h1';walk_at"rd";refine D5 hs.sq (int_at hk h1') ?_;exact q _ H (Same.refl H)
  ·walk_at"rd";refine⟨ae2 _,λp hp=>?_⟩;have s1:=Same.upd (o:=.lst []) hp;walk_at"rd";refine⟨a,p,ns,rfl,rfl,(hs.same s1).sq,SqL.of aB,?_⟩;walk_at"rd";refine bK (λh2=>?_) (λh2=>?_)
   ·walk_at"rd";exact q _ _ s1
   ·have h2':=of_decide_eq_false h2;have hl:0<ns.length:=List.length_pos_iff.mpr h2';walk_at"rd";refine D4 (hs.same s1).sq ?_;rw[length_map];refine fJ (by lia) ?_;refine D5 (hs.same s1).sq (int_at (Int.emod_nonneg _ (by lia)) (Int.emod_lt_of_pos _ (by lia))) ?_;walk_at"rd";refine fJ (.inr ⟨by decide,by decide⟩) ?_;walk_at"rd";exact q _ _ s1
noncomputable def OB(K:PySem.W.Frag):Sp:=λvs H Q _=>∃a ns k m,vs=[.ref a,.int k,.int m]/\Scr K H a ns/\0<=k/\0<m/\∀r H',Same H H'->0<=r->r<m->Q (.int r) H'
theorem V6(T:aP K mg t):FnOk P w K mg base aM 2 t.AH t.x8 ["_law_script","_law_k","_law_many"] (OB K):=by
 refine T.LO.ok sc__law_mixed (λvs H Q E h=>?_) (λcdv A outer s H vs Q E hr h=>?_)
 ·obtain⟨a,ns,k,m,rfl,_⟩:=h;rfl
 ·obtain⟨a,ns,k,m,rfl,hs,hk,hm,q⟩:=h
  refine⟨_,(aE (aT (i:=3) sc__law_mixed.nd rfl (afM rfl) (bB jN (bB dH (bB dH (bB n9 (aG (V9 T) (hr.mono (by decide)) rfl T.YI T.LR.kp T.ad3 .nil aH (aA (pv 0) (aA (pv 1) pa_nil))) pe_int) (bB n9 pe_int (pv 1))) pe_int) pe_int))
   (aC (aI (bB jN (bB jN (bB jN (bB US (pv 3) pe_int) pe_int) pe_int) (pv 2))))),?_⟩
  walk_at"rd";refine⟨a,ns,k,rfl,hs,hk,λc H1 s1=>?_⟩;walk_at"rd";refine fJ (.inr ⟨by decide,by decide⟩) ?_;walk_at"rd";refine fJ (.inl ⟨by decide,by decide⟩) ?_;walk_at"rd";refine fJ (by decide) ?_;walk_at"rd";have d0:=Int.emod_nonneg (c*1103515245+7919*k+12345) (show(2147483647:Int)≠0 by decide);have d1:=Int.emod_lt_of_pos (c*1103515245+7919*k+12345) (show(0:Int)<2147483647 by decide);refine fJ ⟨by decide,by decide,by lia⟩ ?_;walk_at"rd";refine fJ (by decide) ?_;walk_at"rd";refine fJ (by decide) ?_;walk_at"rd";refine fJ hm ?_;exact q _ H1 s1 (Int.emod_nonneg _ (by lia)) (Int.emod_lt_of_pos _ hm)
noncomputable def OS(K:PySem.W.Frag):Sp:=λvs H Q _=>∃a ns tw ts m,vs=[.ref a,.ref tw,.int m]/\Scr K H a ns/\H tw=some (.lst ts)/\ts.length<=500/\0<m/\
 ∀r H' ts',SameT tw H H'->H' tw=some (.lst ts')->ts'.length=ts.length+1->0<=r->r<m->Q (.int r) H'
theorem fK(T:aP K mg t):FnOk P w K mg base aM 3 t.AL t.yC ["_law_script","_law_town","_law_many"] (OS K):=by
 refine T.fE.ok QQ (λvs H Q E h=>?_) (λcdv A outer s H vs Q E hr h=>?_)
 ·obtain⟨a,ns,tw,ts,m,rfl,_⟩:=h;rfl
 ·obtain⟨a,ns,tw,ts,m,rfl,hs,ht,hl,hm,q⟩:=h
  refine⟨_,(aE (cI (eZ K afX agE agF iA (pv 1) (aA pe_int pa_nil)))
   (aC (aI (aG (V6 T) (hr.mono (by decide)) rfl T.YF T.LO.kp T.ad0 .nil aH (aA (pv 0) (aA (bC (cK K) (by rfl) T.cJ cL (aA (pv 1) pa_nil)) (aA (pv 2) pa_nil))))))),?_⟩
  walk_at"rd";refine⟨eO ht,?_⟩;walk_at"rd";refine fZ ht (dU (by lia)) ?_;have s1:SameT tw H (upd H tw (.lst (ts++[V.int 0]))):=λb u e g=>by rw[aD g];exact e
  have ht1:upd H tw (.lst (ts++[V.int 0])) tw=some (.lst (ts++[V.int 0])):=aB;walk_at"rd";refine⟨a,ns,_,m,rfl,hs.t ht s1,by lia,hm,λr H2 s2 h0 h1=>?_⟩;exact q r H2 _ (s1.trans s2.t) (s2 _ _ ht1) (by simp) h0 h1
noncomputable def NR(K:PySem.W.Frag):Sp:=λvs H Q _=>∃a ns tw ts l xs,vs=[.ref a,.ref tw,.ref l]/\Scr K H a ns/\H tw=some (.lst ts)/\ts.length<=500/\H l=some (.lst xs)/\l≠tw/\0<xs.length/\
 ∀v H' ts',SameT tw H H'->H' tw=some (.lst ts')->ts'.length=ts.length+1->v∈xs->Q v H'
theorem FT(T:aP K mg t):FnOk P w K mg base aM 4 t.AG t.x6 ["_law_script","_law_town","_law_some"] (NR K):=by
 refine T.BA.ok QO (λvs H Q E h=>?_) (λcdv A outer s H vs Q E hr h=>?_)
 ·obtain⟨a,ns,tw,ts,l,xs,rfl,_⟩:=h;rfl
 ·obtain⟨a,ns,tw,ts,l,xs,rfl,hs,ht,hl,el,nl,hx,q⟩:=h;refine⟨_,(aC (aI (aU (aV K) (pv 2) (aG (fK T) (hr.mono (by decide)) rfl T.fM T.fE.kp T.fT .nil aH (aA (pv 0) (aA (pv 1) (aA (bC (cK K) (by rfl) T.cJ cL (aA (pv 2) pa_nil)) pa_nil)))) (λ_ _=>rfl)))),?_⟩;walk_at"rd";refine⟨a,ns,tw,ts,_,rfl,hs,ht,hl,by lia,λr H1 ts' s1 ht1 hl1 h0 h1=>?_⟩;have hr':r.toNat<xs.length:=by lia
  refine dX (s1 _ _ el nl) (atI_of (i:=r.toNat) (by lia) (aeY hr')) ?_;exact q _ H1 ts' s1 ht1 hl1 (getElem_mem hr')
theorem SameT.of{w:Addr}{H:Hp}{l:Addr}{o:HO}(h:H l=none):SameT w H (upd H l o):=(Same.upd h).t
theorem B8(ps:List (Int×Int)):(ps.map λp=>[p.1,p.2]).map (cC [])=ps.map aJ:=by
 rw[map_map];rfl
noncomputable def ON(K:PySem.W.Frag):Sp:=λvs H Q _=>∃a ns tw ts lo hi,vs=[.ref a,.ref tw,.int lo,.int hi]/\1<=lo/\lo<=hi/\hi<=8/\Scr K H a ns/\H tw=some (.lst ts)/\ts.length<=100/\
 ∀x H' st line ts',SameT tw H H'->H' tw=some (.lst ts')->ts'.length<=ts.length+11->1<=st->st<=5->lo<=line.length->line.length<=hi->1<=line.length->line.length<=8->(∀v∈line,0<=v/\v<=19)->Is H' x (aX line.length (bS st line))->Q x H'
theorem V7(T:aP K mg t):FnOk P w K mg base aM 5 t.AI t.x9 ["_law_script","_law_town","_law_low","_law_most"] (ON K):=by
 refine T.LP.ok sc__law_free (λvs H Q E h=>?_) (λcdv A outer s H vs Q E hr h=>?_)
 ·obtain⟨a,ns,tw,ts,lo,hi,rfl,_⟩:=h;rfl
 ·obtain⟨a,ns,tw,ts,lo,hi,rfl,lo1,lohi,hi8,hs,ht,hl,q⟩:=h
  refine⟨_,(aE (aT (i:=4) sc__law_free.nd rfl (Or.inr rfl) (bB dH pe_int (aG (fK T) (hr.mono (by decide)) rfl T.fM T.fE.kp T.fT .nil aH (aA (pv 0) (aA (pv 1) (aA pe_int pa_nil))))))
   (aE (aT (i:=5) sc__law_free.nd rfl (Or.inr rfl) (aG (FT T) (hr.mono (by decide)) rfl T.GZ T.BA.kp T.JW .nil aH (aA (pv 0) (aA (pv 1) (aA (cN (aA pe_int (aA pe_int (aA pe_int (aA pe_int (aA pe_int pa_nil)))))) pa_nil)))))
   (aE (aT (i:=6) sc__law_free.nd rfl (afM rfl) (bB dH (pv 2) (aG (fK T) (hr.mono (by decide)) rfl T.fM T.fE.kp T.fT .nil aH (aA (pv 0) (aA (pv 1) (aA (bB dH (bB jM (pv 3) (pv 2)) pe_int) pa_nil))))))
   (aE (aT (i:=7) sc__law_free.nd rfl (Or.inr rfl) (cQ rfl ⟨aeW,aeW,aeW,(.inl rfl),(.inl rfl),(.inl rfl),aeW⟩ (M:=["_law_k","_law_script","_law_town","_law_wide"]) (.own (.free 0 rfl rfl (.free 1 rfl rfl (.free 5 rfl rfl .nil)))) (cB rfl) rfl (by decide +kernel) (bU rfl T.bP (aA (pv 6) pa_nil)) (λC fp s1 H1=>⟨aN (i:=0) (show(["_law_k","_law_script","_law_town","_law_wide"]:List Str).Nodup by decide +kernel) rfl (afM rfl),dM,(aG (fK T) (hr.mono (by decide)) rfl T.fM T.fE.kp T.fT .nil aH (aA (pv 1) (aA (pv 2) (aA (pv 3) pa_nil))))⟩)))
   (aE (aT (i:=8) sc__law_free.nd rfl (afM rfl) (cN pa_nil))
   (aE (cE afP rfl (bU rfl T.bP (aA (pv 6) pa_nil)) (aN (i:=9) sc__law_free.nd rfl (Or.inr rfl)) (aC (cI (eZ K afX PySem.F.slot_list_extend PySem.F.type_list_extend oM (pv 8) (aA (cQ rfl ⟨aeW,aeW,(.inl rfl),(.inl rfl),(.inl rfl),aeW⟩ (M:=["_law_other","_law_line_up","_law_one","_law_step"]) (.own (.free 7 rfl rfl (.free 9 rfl rfl (.free 4 rfl rfl .nil)))) (cB rfl) rfl (by decide +kernel) (bU rfl T.bP (aA (pv 6) pa_nil)) (λC fp s1 H1=>⟨aN (i:=0) (show(["_law_other","_law_line_up","_law_one","_law_step"]:List Str).Nodup by decide +kernel) rfl (afM rfl),eV (aZ (UW) (bB jM (aU (aV K) (pv 1) (pv 0) (λ_ _=>rfl)) (aU (aV K) (pv 1) (pv 2) (λ_ _=>rfl))) (pv 3) (bD _)),(bH (aA (pv 2) (aA (pv 0) pa_nil)))⟩)) pa_nil)))))
   (aC (aI (bH (aA (pv 6) (aA (jL (o5 K) (by rfl) T.iX i9 (aA (bC (ZN K) (by rfl) T.oJ pM (aA (pv 8) pa_nil)) pa_nil)) pa_nil))))))))))),?_⟩
  walk_at"rd";refine⟨a,ns,tw,ts,5,rfl,hs,ht,by lia,by decide,λr1 H1 ts1 s1 ht1 hl1 r10 r11=>?_⟩;have hs1:=hs.t ht s1;walk_at"rd";refine⟨by show 5<=sizeLine;decide,λl hl'=>?_⟩;have ntl:l≠tw:=λz=>by rw[z,ht1]at hl';cases hl'
  have s2:SameT tw H1 (upd H1 l (.lst [V.int 3,V.int 6,V.int 9,V.int 14,V.int 20])):=SameT.of hl';walk_at"rd";refine⟨a,ns,tw,ts1,l,_,rfl,hs1.t ht1 s2,by rw[aD (afY ntl)];exact ht1,by lia,aB,ntl,by decide,λv H2 ts2 s3 ht2 hl2 hv=>?_⟩
  obtain⟨wd,rfl,wd3,wd20⟩:∃wd:Int,v=.int wd/\3<=wd/\wd<=20:=by
   simp only[mem_cons,not_mem_nil,or_false]at hv;rcases hv with rfl|rfl|rfl|rfl|rfl <;> exact⟨_,rfl,by decide,by decide⟩
  have s12:SameT tw H H2:=(s1.trans s2).trans s3;have hs2:=hs.t ht s12;walk_at"rd";refine⟨a,ns,tw,ts2,hi-lo+1,rfl,hs2,ht2,by lia,by lia,λr3 H3 ts3 s4 ht3 hl3 r30 r31=>?_⟩;have s13:=s12.trans s4;have hs3:=hs.t ht s13;obtain⟨n,hn⟩:∃n:Nat,lo+r3=(n:Int):=⟨(lo+r3).toNat,by lia⟩
  have n1:1<=n:=by lia
  have n8:n<=8:=by lia
  walk_at"rd";rw[hn];refine⟨_,rfl,by lia,by lia,?_⟩;rw[ae6]
  refine fN (bI (by lia)) (λi ys H'=>SameT tw H H'/\(∃ts',H' tw=some (.lst ts')/\ts'.length=ts.length+3+i)/\∃line:List Int,ys=line.map V.int/\line.length=i/\∀v∈line,0<=v/\v<=19)
   ⟨s13,⟨ts3,ht3,by lia⟩,[],rfl,rfl,λ_ h=>nomatch h⟩ (by rintro i ys H' ⟨_,_,line,rfl,rfl,_⟩;simp) ?_ ?_
  ·rintro i ys H4 hi ⟨s5,⟨ts4,ht4,hl4⟩,line,rfl,hli,hlv⟩;walk_at"rd";refine⟨a,ns,tw,ts4,wd,rfl,hs.t ht s5,ht4,by lia,by lia,λr H5 ts5 s6 ht5 hl5 r0 r1'=>?_⟩;refine⟨s5.trans s6,⟨ts5,ht5,by lia⟩,line++[r],by rw[map_append];rfl,by rw[length_append,hli];rfl,λv hv=>?_⟩;rcases mem_append.mp hv with h|h
   ·exact hlv v h
   ·rcases mem_singleton.mp h with rfl;lia
  ·rintro ys H4 ⟨s5,⟨ts4,ht4,hl4⟩,line,rfl,hli,hlv⟩ lu hlu;subst hli;have ntu:lu≠tw:=λz=>by rw[z,ht4]at hlu;cases hlu
   have s6:SameT tw H (upd H4 lu (.lst (line.map V.int))):=s5.trans (SameT.of hlu);walk_at"rd";refine⟨ae2 _,λpl hpl=>?_⟩
   have ntp:pl≠tw:=λz=>by
    rw[z,aD (afY ntu),ht4]at hpl;cases hpl
   have nup:lu≠pl:=λz=>by
    rw[<-z,aB]at hpl;cases hpl
   have npH:H pl=none:=by
    cases e:H pl with
    |none=>rfl
    |some u=>rw[s6 _ _ e ntp]at hpl;cases hpl
   walk_at"rd";refine⟨_,rfl,by lia,by lia,?_⟩;rw[ae6]
   refine dQ (λi σ H'=>(∃v9,σ=[some (.ref a),some (.ref tw),some (.int lo),some (.int hi),some (.int (1+r1)),some (.int wd),some (.int line.length),some (.ref lu),some (.ref pl),v9])/\SameT tw H H'/\H' tw=some (.lst ts4)/\H' lu=some (.lst (line.map V.int))/\∃zs,H' pl=some (.lst zs)/\IsAll H' zs ((eQ (1+r1) line i).map aJ))
    ⟨⟨_,rfl⟩,s6.trans (SameT.of hpl),by rw[aD (afY ntp),aD (afY ntu)];exact ht4,by rw[aD nup,aB],[],aB,.nil⟩ ?_ ?_
   ·rintro i σ H5 hi ⟨⟨v9,rfl⟩,s7,ht5,hlu5,zs,hz,iz⟩;walk_at"rd";refine⟨eO hz,?_⟩;walk_at"rd";refine⟨_,rfl,by lia,by lia,?_⟩;rw[ae6]
    refine fN (bI (by lia)) (λj ys H'=>Same H5 H'/\IsAll H' ys ((eP (1+r1) line i j).map aJ)) ⟨Same.refl _,.nil⟩ (by
     rintro j ys H' ⟨_,h⟩;rw[h.length,length_map]
     exact hJ _ _ _ _) ?_ ?_
    ·rintro j ys H6 hj ⟨s8,iy⟩;have hlu6:=s8 _ _ hlu5;rw[j6,map_append];walk_at"rd";refine dX hlu6 (int_at (by lia) (by lia)) ?_;walk_at"rd";refine dX hlu6 (int_at (by lia) (by lia)) ?_;rw[agI,agI,ae6,ae6];walk_at"rd";refine bK (λg=>?_) (λg=>?_)
     ·have g':line.getD j 0-line.getD i 0>=1+r1:=of_decide_eq_true g;walk_at"rd";refine⟨cP,λp hp=>?_⟩;have s9:=Same.upd (o:=.tup [V.int i,V.int j]) hp;have e1:cM (1+r1) line i j=[((i:Int),(j:Int))]:=by unfold cM;rw[if_pos g']
      rw[e1];refine⟨s8.trans s9,(iy.same s9).append (.cons (.tup aB (.cons (.int _) (.cons (.int _) .nil))) .nil)⟩
     ·have g':¬line.getD j 0-line.getD i 0>=1+r1:=of_decide_eq_false g;have e1:cM (1+r1) line i j=[]:=by unfold cM;rw[if_neg g']
      rw[e1,map_nil,append_nil];walk_at"rd";exact⟨s8,iy⟩
    ·rintro ys H6 ⟨s8,iy⟩ b hb;have s9:=s8.trans (Same.upd (o:=.lst ys) hb);have npb:pl≠b:=aW (s8 _ _ hz) hb
     have lz:zs.length+ys.length<=1000:=by
      have a1:=iz.length;have a2:=iy.length;rw[length_map]at a1 a2;have a3:=nA (1+r1) line i;have a4:=hJ (1+r1) line i line.length;have a5:i*line.length<=8*8:=ahO (by lia) n8;lia
     walk_at"rd";refine nN (s9 _ _ hz) aB (bI lz) ?_;walk_at"rd";refine⟨⟨_,rfl⟩,λc u e g=>?_,?_,?_,_,aB,?_⟩
     ·have ec:c≠pl:=λz=>by rw[z,npH]at e;cases e
      rw[aD ec];exact s9 _ _ (s7 _ _ e g)
     ·rw[aD (afY ntp)];exact s9 _ _ ht5
     ·rw[aD nup];exact s9 _ _ hlu5
     ·rw[j7,map_append]
      have km:∀(c:Addr)(xs:List V),upd H6 b (.lst ys) c=some (.tup xs)->upd (upd H6 b (.lst ys)) pl (.lst (zs++ys)) c=some (.tup xs):=λc xs e=>by
       have:c≠pl:=bJ e (s9 _ _ hz) (by intro z;cases z);rw[aD this];exact e
      refine IsAll.append ((iz.same s9).tmono km (gX _)) ((iy.same (Same.upd hb)).tmono km (gX _))
   ·rintro σ H5 ⟨⟨v9,rfl⟩,s7,ht5,hlu5,zs,hz,iz⟩;have st1:1<=1+r1:=by lia
    have hpw:=yQ (1+r1) line line.length;walk_at"rd";refine⟨pl,zs,[],(bS (1+r1) line).map λp=>[p.1,p.2],2,rfl,.inl (SqL.of hz),by rw[B8];exact iz,?_,by decide,?_,by rw[length_map];exact B9 st1 n1 n8,λl2 vs' nss' hl2 hall hperm hpw'=>?_⟩
    ·intro ns hm;obtain⟨p,_,rfl⟩:=mem_map.mp hm;rfl
    ·rw[List.nodup_iff_pairwise_ne,pairwise_map];refine hpw.imp λ{p q}h e=>?_;have h':HT.lexLt [p.1,p.2] [q.1,q.2]=true:=h;rw[e,oY]at h';cases h'
    have en:nss'=(bS (1+r1) line).map λp=>[p.1,p.2]:=by
     refine DC (lt:=λa b=>HT.lexLt a b=true) (λx y h1 h2=>?_) hperm hpw' ?_
     ·rw[iY h1]at h2;cases h2
     ·rw[pairwise_map];exact hpw
    rw[en,B8]at hall;have s8:=Same.upd (o:=.lst vs') hl2;have hvl:upd H5 l2 (.lst vs') l2=some (.lst vs'):=aB;walk_at"rd";intro p hp;have s9:=s8.trans (Same.upd (o:=.tup vs') hp);walk_at"rd";refine⟨by show 2<=sizeLine;decide,λo ho=>?_⟩;have s10:=s9.trans (Same.upd (o:=.tup [V.int line.length,V.ref p]) ho);refine q _ _ (1+r1) line ts4 (s7.trans s10.t) (s10 _ _ ht5) (by lia) (by lia) (by lia) (by lia) (by lia) n1 n8 hlv ?_;have npo:p≠o:=aW aB ho;exact .tup aB (.cons (.int _) (.cons (.tup (by rw[aD npo,aB]) (hall.same s10)) .nil))
end
noncomputable abbrev gt(l:List Int)(v:Nat):Int:=l.getD v 0
noncomputable def Rl(s0:Int)(line:List Int)(i j:Nat):Prop:=gt line j-gt line i>=s0
theorem Y0(s0:Int)(line:List Int):Nt.p8 line.length (Rl s0 line) s0 (gt line):=λi j _ _=>Iff.rfl
section
variable{s0:Int}{line:List Int}
theorem WK:cH line.length (bS s0 line)=false:=by
 have hasR:∀i j:Nat,i<line.length->j<line.length->(has (bS s0 line) i j=true<->Rl s0 line i j):=λi j hi hj=>by
  rw[aaV hi hj];exact decide_eq_true_iff
 have hc:=Y0 s0 line;unfold cH;rw[Bool.or_eq_false_iff];constructor
 ·unfold mH
  cases e:(bS s0 line).any λp=>(bS s0 line).any λq=>gM (bS s0 line) p.1 p.2 q.1 q.2 with
  |false=>rfl
  |true=>
   exfalso;obtain⟨p,hp,e⟩:=any_eq_true.mp e;obtain⟨q,hq,e⟩:=any_eq_true.mp e;obtain⟨a,b,ha,hb,rfl,_⟩:=mem_tlAll.mp hp;obtain⟨c,d,hc',hd,rfl,_⟩:=mem_tlAll.mp hq;unfold gM at e;simp only[afB,Bool.not_eq_true']at e;obtain⟨⟨e1,e2⟩,e3,e4⟩:=e;exact Nt.WI hc ha hb hc' hd ((hasR _ _ ha hb).mp e1) ((hasR _ _ hc' hd).mp e2) (λz=>by rw[(hasR _ _ ha hd).mpr z]at e3;cases e3) (λz=>by rw[(hasR _ _ hc' hb).mpr z]at e4;cases e4)
 ·unfold mG
  cases e:(bS s0 line).any λp=>(range line.length).any λc=>(range line.length).any λd=>fS (bS s0 line) p.1 p.2 c d with
  |false=>rfl
  |true=>
   exfalso;obtain⟨p,hp,e⟩:=any_eq_true.mp e;obtain⟨c,hc',e⟩:=any_eq_true.mp e;obtain⟨d,hd,e⟩:=any_eq_true.mp e;obtain⟨a,b,ha,hb,rfl,_⟩:=mem_tlAll.mp hp;have hc':=mem_range.mp hc';have hd:=mem_range.mp hd;unfold fS at e;simp only[afB,Bool.not_eq_true']at e;obtain⟨⟨e1,e2⟩,e3,e4⟩:=e;exact Nt.WJ hc ha hb hc' hd ((hasR _ _ ha hb).mp e1) ((hasR _ _ hb hc').mp e2) (λz=>by rw[(hasR _ _ ha hd).mpr z]at e3;cases e3) (λz=>by rw[(hasR _ _ hd hc').mpr z]at e4;cases e4)
end
theorem HQ{S:List Int}{i:Nat}{x:V}(h:(S.map V.int)[i]? =some x):∃t,S[i]? =some t/\x=.int t:=by
 rw[ae4]at h
 cases e:S[i]? with
 |none=>rw[e]at h;cases h
 |some t=>rw[e]at h;cases h;exact⟨t,rfl,rfl⟩
noncomputable def Al(H:Hp)(y:V)(ps:List (Int×Int)):Prop:=Is H y (.tuple (ps.map aJ))\/Is H y (.list (ps.map aJ))
theorem Al.same{H H':Hp}{y:V}{ps:List (Int×Int)}(h:Al H y ps)(s:Same H H'):Al H' y ps:=h.imp (Is.same s) (Is.same s)
theorem SN{H:Hp}{Q:VK}{p:Addr}{y:V}{i j:Int}{ps:List (Int×Int)}(e:H p=some (.tup [.int i,.int j]))(hy:Al H y ps)(h:Q (.bl (has ps i j)) H):jH false (.ref p) y H Q:=by
 refine⟨aJ (i,j),ps.map aJ,.tup e (.cons (.int i) (.cons (.int j) .nil)),hy,oE _,lI _,?_⟩;rw[o6];exact h
noncomputable def Tps(H:Hp)(vs:List V)(L:List (List Int)):Prop:=IsAll H vs (L.map (cC []))
theorem GC:∀L:List (List Int),bA (L.map (cC []))=true
 |[]=>rfl
 | p::L=>by
  have h:∀q:List Int,bA (q.map aiD)=true:=λq=>by
   induction q with
   |nil=>rfl
   |cons a q ih=>rw[map_cons,bA,ih];rfl
  rw[map_cons,bA,GC L];show(bA (p.map aiD)&&true)=true
  rw[h];rfl
theorem Tps.same{H H':Hp}{vs:List V}{L:List (List Int)}(h:Tps H vs L)(s:Same H H'):Tps H' vs L:=IsAll.same s h
theorem Tps.t{H H':Hp}{r:Addr}{vs zs:List V}{L:List (List Int)}(h:Tps H vs L)(hr:H r=some (.lst zs))(s:SameT r H H'):Tps H' vs L:=
 IsAll.tmono (λc us e=>s _ _ e (bJ e hr (by intro z;cases z))) (GC L) h
theorem Tps.len{H:Hp}{vs:List V}{L:List (List Int)}(h:Tps H vs L):vs.length=L.length:=by
 have:=IsAll.length h;rw[length_map]at this;exact this
theorem B6{H:Hp}{x:V}{p:List Int}(h:Is H x (cC [] p)):∃a,x=.ref a/\H a=some (.tup (p.map V.int)):=by
 unfold cC at h
 cases h with
 |tup e hxs=>
  have:=hxs.preInts;subst this;exact⟨_,rfl,e⟩
theorem l0{H:Hp}{a:Addr}{p:List Int}(e:H a=some (.tup (p.map V.int))):Is H (.ref a) (cC [] p):=.tup e (IsAll.ints p)
theorem Tps.at{H:Hp}{vs:List V}{L:List (List Int)}{i:Nat}{x:V}(h:Tps H vs L)(e:vs[i]? =some x):∃p a,L[i]? =some p/\x=.ref a/\H a=some (.tup (p.map V.int)):=by
 obtain⟨d,ed,id⟩:=IsAll.get' h e;rw[ae4]at ed
 cases hp:L[i]? with
 |none=>rw[hp]at ed;cases ed
 |some p=>
  rw[hp]at ed;cases ed;obtain⟨a,rfl,ea⟩:=B6 id;exact⟨p,a,rfl,rfl,ea⟩
theorem aeA{H:Hp}{l p:Addr}{xs ys:List V}{d:PyData}{ds:List PyData}(hn:bA ds=true)(hl:H l=some (.lst xs))(hp:H p=none)(h:IsAll H xs ds)(hd:Is (upd (upd H p (.tup ys)) l (.lst (xs++[.ref p]))) (.ref p) d):
  IsAll (upd (upd H p (.tup ys)) l (.lst (xs++[.ref p]))) (xs++[.ref p]) (ds++[d]):=by
 refine IsAll.snoc (h.tmono (λa zs e=>?_) hn) hd;have h1:a≠l:=bJ e hl (by intro z;cases z);have h2:a≠p:=aW e hp;rw[aD h1,aD h2];exact e
theorem BY{n k:Nat}(h:k<n):(L2.upTo n)[k]? =some (k:Int):=by
 unfold L2.upTo;rw[ae4,ahL h];rfl
theorem BV(n:Nat):(L2.upTo n).take n=L2.upTo n:=take_of_length_le (by rw[L2.j5];exact aeU _)
section
variable{P:afL}{w:agC}{K:PySem.W.Frag}{mg:Str->Option Value}{base:Heap}{t:Ad}
noncomputable def NZ:Sp:=λvs H Q _=>∃(y:V)(ps:List (Int×Int))(a:Addr)(p:List Int)(c:Int),vs=[y,.ref a,.int c]/\Al H y ps/\H a=some (.tup (p.map V.int))/\p.length<=100/\∀H',Same H H'->Q (.bl (p.all λb=>has ps b c)) H'
theorem VC(T:aP K mg t):FnOk P w K mg base aM 1 t.zB t.wT ["allowed","part","thing"] NZ:=by
 refine T.KS.ok P4 (λvs H Q E h=>?_) (λcdv A outer s H vs Q E hr h=>?_)
 ·obtain⟨y,ps,a,p,c,rfl,_⟩:=h;rfl
 ·obtain⟨y,ps,a,p,c,rfl,hy,ea,hl,q⟩:=h;refine⟨_,(aC (aI (bC (lW K) (by rfl) T.lN mF (aA (cQ rfl ⟨aeW,aeW,(.inl rfl),(.inl rfl),aeW⟩ (M:=["before","allowed","thing"]) (.own (.free 0 rfl rfl (.free 2 rfl rfl .nil))) (cB rfl) rfl (by decide +kernel) (i3 K (pv 1)) (λC fp s1 H1=>⟨aN (i:=0) (show(["before","allowed","thing"]:List Str).Nodup by decide +kernel) rfl (afM rfl),dM,(eW (oA hr.units) (bH (aA (pv 0) (aA (pv 2) pa_nil))) (pv 1) (by rfl))⟩)) pa_nil)))),?_⟩;walk_at"rd";refine⟨a,rfl,⟨_,SqT.of ea⟩,?_⟩;refine lO (K:=K) (xs:=p.map V.int) (bI (by rw[length_map];lia)) (λi us H'=>Same H H'/\us=((p.take i).map λb=>has ps b c).map V.bl) ⟨Same.refl _,rfl⟩ (by rintro i us H' ⟨_,rfl⟩;simp;lia) (λi us H' _ h=>SqT.of (h.1 _ _ ea)) ?_ ?_
  ·rintro i x us H1 hx ⟨s1,rfl⟩;rw[ae4]at hx
   cases hp:p[i]? with
   |none=>rw[hp]at hx;cases hx
   |some b=>
    rw[hp]at hx;cases hx;walk_at"rd";refine⟨cP,λq1 hq1=>?_⟩;have f1:=Same.upd (o:=.tup [V.int b,V.int c]) hq1;walk_at"rd";refine SN aB ((hy.same s1).same f1) ⟨s1.trans f1,?_⟩;rw[take_add_one,hp,map_append,map_append];rfl
  ·rintro us H1 ⟨s1,rfl⟩ pl hpl;walk_at"rd";refine kB aB ?_;rw[length_map,take_length,all_map];exact q _ (s1.trans (Same.upd hpl))
noncomputable def OD:Sp:=λvs H Q _=>∃(n:Nat)(y:V)(ps:List (Int×Int))(l:Addr)(xs:List V)(L:List (List Int)),vs=[.int n,y,.ref l]/\n<=8/\Al H y ps/\H l=some (.lst xs)/\Tps H xs L/\L.length<=100/\(∀p∈L,p.length<=8)/\
 ∀r H' zs,H r=none->Same H H'->H' r=some (.lst zs)->Tps H' zs (GM.grow n (has ps) L)->Q (.ref r) H'
noncomputable def iG(n:Nat)(ps:List (Int×Int))(p:List Int)(j:Nat):List (List Int):=(((L2.upTo n).take j).filter λc=>p.all λb=>has ps b c).map λc=>p++[c]
theorem HZ(n:Nat)(ps:List (Int×Int))(p:List Int):iG n ps p n=GM.i4 n (has ps) p:=by
 unfold iG GM.i4;rw[BV]
theorem HY(n:Nat)(ps:List (Int×Int))(p:List Int)(j:Nat):(iG n ps p j).length<=n:=by
 unfold iG;rw[length_map];refine afO (length_filter_le _ _) ?_;rw[length_take,L2.j5];lia
theorem HX(n:Nat)(ps:List (Int×Int)):∀L:List (List Int),(GM.grow n (has ps) L).length<=n*L.length
 |[]=>ae2 _
 |p::L=>by
  have h1:=HX n ps L;have h2:=HY n ps p n;rw[HZ]at h2;show(GM.i4 n (has ps) p++GM.grow n (has ps) L).length<=_
  rw[length_append,length_cons,Nat.mul_succ];lia
theorem aaX(n:Nat)(ps:List (Int×Int))(L:List (List Int))(p:List Int):GM.grow n (has ps) (L++[p])=GM.grow n (has ps) L++GM.i4 n (has ps) p:=by
 unfold GM.grow;rw[flatMap_append];simp
theorem aa0{n:Nat}{ps:List (Int×Int)}{p:List Int}{j:Nat}(h:j<n):iG n ps p (j+1)=iG n ps p j++if(p.all λb=>has ps b (j:Int))=true then[p++[(j:Int)]] else[]:=by
 unfold iG;rw[take_add_one,BY h,show(some (j:Int)).toList=[(j:Int)] from rfl,filter_append,kM,map_append];split
 ·rfl
 ·rfl
theorem VD(T:aP K mg t):FnOk P w K mg base aM 2 t.zC t.wU ["many","allowed","parts"] OD:=by
 refine T.KT.ok sc_longer_parts (λvs H Q E h=>?_) (λcdv A outer s H vs Q E hr h=>?_)
 ·obtain⟨n,y,ps,l,xs,L,rfl,_⟩:=h;rfl
 ·obtain⟨n,y,ps,l,xs,L,rfl,n8,hy,el,hL,lL,l8,q⟩:=h
  refine⟨_,(aE (aT (i:=3) sc_longer_parts.nd rfl (afM rfl) (cN pa_nil))
   (aE (cE afP rfl (dZ K (pv 2)) (aN (i:=4) sc_longer_parts.nd rfl (afM rfl)) (aC (cE afP rfl (bU rfl T.bP (aA (pv 0) pa_nil)) (aN (i:=5) sc_longer_parts.nd rfl (afM rfl)) (aC (bF (bW (aG (VC T) (hr.mono (by decide)) rfl T.XS T.KS.kp T.adD .nil aH (aA (pv 1) (aA (pv 4) (aA (pv 5) pa_nil))))) (aC (cI (eZ K afX agE agF iA (pv 3) (aA (bB uP (pv 4) (bH (aA (pv 5) pa_nil))) pa_nil)))) bE)))))
   (aC (aI (pv 3))))),?_⟩
  have lx:=hL.len;walk_at"rd";refine⟨ae2 _,λr hr'=>?_⟩;have s0:=Same.upd (o:=.lst []) hr';walk_at"rd";refine⟨l,rfl,⟨_,SqL.of (s0 _ _ el)⟩,?_⟩;refine pD (K:=K) (xs:=xs) (λi σ H'=>(∃v4 v5,σ=[some (.int n),some y,some (.ref l),some (.ref r),v4,v5])/\Same H H'/\∃zs,H' r=some (.lst zs)/\Tps H' zs (GM.grow n (has ps) (L.take i))) ⟨⟨_,_,rfl⟩,s0,[],aB,.nil⟩ (λi σ H' _ h=>SqL.of (h.2.1 _ _ el)) ?_ ?_
  ·rintro i x σ H1 hx ⟨⟨v4,v5,rfl⟩,s1,zs,hz,iz⟩;obtain⟨p,ap,hp,rfl,ep⟩:=hL.at hx;have lp8:=l8 p (af3 hp)
   have hlen:(GM.grow n (has ps) (L.take i)).length<=800:=by
    have h1:=HX n ps (L.take i);rw[length_take]at h1;have h2:n*min i L.length<=8*100:=ahO n8 (by lia);lia
   walk_at"rd";refine⟨_,rfl,by lia,by lia,?_⟩;rw[ae6];refine dQ (λj σ H'=>(∃v5,σ=[some (.int n),some y,some (.ref l),some (.ref r),some (.ref ap),v5])/\Same H H'/\∃zs,H' r=some (.lst zs)/\Tps H' zs (GM.grow n (has ps) (L.take i)++iG n ps p j)) ⟨⟨_,rfl⟩,s1,zs,hz,by simpa[iG]using iz⟩ ?_ ?_
   ·rintro j σ H2 hj ⟨⟨v5,rfl⟩,s2,zs2,hz2,iz2⟩;have ep2:=s2 _ _ ep;have lz2:=iz2.len;rw[length_append]at lz2;have lg:=HY n ps p j;walk_at"rd";rw[agI]at *;refine⟨y,ps,ap,p,_,rfl,hy.same s2,ep2,by lia,λH3 s3=>?_⟩;have hz3:=s3 _ _ hz2;rw[aa0 hj]
    cases hb:p.all λb=>has ps b (j:Int) with
    | true=>
     walk_at"rd";refine⟨eO hz3,?_⟩;walk_at"rd";refine⟨by show 1<=sizeLine;decide,λq1 hq1=>?_⟩;have f4:=Same.upd (o:=.tup [V.int (j:Int)]) hq1;refine tZ (f4 _ _ (s3 _ _ ep2)) aB (bI (by rw[length_map];show _+1<=1000;lia)) λq2 H5 f5 e5=>?_;have f45:=f4.trans f5;have s5:=(s2.trans s3).trans f45;have hz5:=f45 _ _ hz3;have iz5:=(iz2.same s3).same f45;walk_at"rd";refine fZ hz5 (dU (by lia)) ?_;have st:SameT r H5 (upd H5 r (.lst (zs2++[.ref q2]))):=λc u e g=>by rw[aD g];exact e
     have nq:q2≠r:=bJ e5 hz5 (by intro z;cases z);walk_at"rd";refine⟨⟨_,rfl⟩,λc u e=>?_,_,aB,?_⟩
     ·rw[aD (aW e hr')];exact s5 _ _ e
     ·show IsAll _ _ _;rw[<-append_assoc,map_append];refine(Tps.t iz5 hz5 st).append (.cons (l0 ?_) .nil);rw[aD nq,e5,map_append]
      rfl
    |false=>
     walk_at"rd";refine⟨⟨_,rfl⟩,s2.trans s3,zs2,hz3,?_⟩;have:=iz2.same s3;simpa using this
   ·rintro σ H2 ⟨⟨v5,rfl⟩,s2,zs2,hz2,iz2⟩;refine⟨⟨_,_,rfl⟩,s2,zs2,hz2,?_⟩;rw[take_add_one,hp,show(some p).toList=[p] from rfl,aaX,<-HZ];exact iz2
  ·rintro σ H1 ⟨⟨v4,v5,rfl⟩,s1,zs,hz,iz⟩;rw[lx,take_length]at iz;walk_at"rd";exact q r H1 zs hr' s1 hz iz
noncomputable def O7:Sp:=λvs H Q _=>∃(n:Nat)(y:V)(ps:List (Int×Int)),vs=[.int n,y]/\n<=6/\Al H y ps/\GM.fF (has ps)/\
 ∀r H' zs L,H r=none->Same H H'->H' r=some (.lst zs)->Tps H' zs L->GM.Parts n (has ps) L->L.Pairwise (λa b=>HT.lexLt a b=true)->Q (.ref r) H'
theorem uI{n:Nat}(h:n<=6):2^n<=64:=afO (Nat.pow_le_pow_right (by decide) h) (by decide)
theorem IG{n:Nat}{al:GM.bL}(ha:GM.fF al)(h6:n<=6){k:Nat}{fs:List (List Int)}(h:GM.Fnd n al k fs):fs.length<64:=afG (GM.many ha h.nd λp hp=>let⟨a,_,b,c⟩:=(h.mem p).mp hp;⟨a,b,c⟩) (uI h6)
theorem YM{n:Nat}{al:GM.bL}(ha:GM.fF al)(h6:n<=6){k:Nat}{fs:List (List Int)}(h:GM.Lvl n al k fs):fs.length<64:=afG (GM.many ha h.nd λp hp=>let⟨a,b,c⟩:=(h.mem p).mp hp;⟨λz=>(by subst z;cases a),b,c⟩) (uI h6)
theorem FP(T:aP K mg t):FnOk P w K mg base aM 3 t.z9 t.xU ["many","allowed"] O7:=by
 refine T.A6.ok sc_all_parts (λvs H Q E h=>?_) (λcdv A outer s H vs Q E hr h=>?_)
 ·obtain⟨n,y,ps,rfl,_⟩:=h;rfl
 ·obtain⟨n,y,ps,rfl,n6,hy,asy,q⟩:=h
  refine⟨_,(aE (aT (i:=2) sc_all_parts.nd rfl (afM rfl) (cN pa_nil))
   (aE (hV (i:=3) sc_all_parts.nd rfl rfl rfl rfl ⟨aeW,aeW,aeW⟩ (M:=["thing"]) (.own .nil) (cB rfl) rfl (by decide +kernel) (bU rfl T.bP (aA (pv 0) pa_nil)) (λC fp s1 H1=>⟨aN (i:=0) (show(["thing"]:List Str).Nodup by decide +kernel) rfl (afM rfl),dM,(bH (aA (pv 0) pa_nil))⟩))
   (aE (uJ afP (aZ (jO) (bC (cK K) (by rfl) T.cJ cL (aA (pv 3) pa_nil)) pe_int (bD _)) (aE (cI (eZ K afX PySem.F.slot_list_extend PySem.F.type_list_extend oM (pv 2) (aA (pv 3) pa_nil)))
   (aC (aT (i:=3) sc_all_parts.nd rfl (afM rfl) (aG (VD T) (hr.mono (by decide)) rfl T.XT T.KT.kp T.adE .nil aH (aA (pv 0) (aA (pv 1) (aA (pv 3) pa_nil))))))))
   (aC (aI (bC (ZP K) (by rfl) T.oJ pM (aA (pv 2) pa_nil))))))),?_⟩
  walk_at"rd";refine⟨ae2 _,λpf hpf=>?_⟩;have s0:=Same.upd (o:=.lst []) hpf;have e0:upd H pf (.lst []) pf=some (.lst []):=aB;generalize upd H pf (.lst [])=H0 at s0 e0;walk_at"rd";refine⟨_,rfl,by lia,by lia,?_⟩;rw[ae6]
  refine fN (bI (by lia)) (λi ys H'=>Same H0 H'/\Tps H' ys (((L2.upTo n).take i).map λc=>[c])) ⟨Same.refl _,.nil⟩ (by
   rintro i ys H' ⟨_,h⟩;rw[h.len,length_map,length_take]
   lia) ?_ ?_
  ·rintro k ys H1 hk ⟨s1,iy⟩;walk_at"rd";rw[agI]at *;refine⟨by show 1<=sizeLine;decide,λq1 hq1=>?_⟩;have f1:=Same.upd (o:=.tup [V.int (k:Int)]) hq1;refine⟨s1.trans f1,?_⟩;rw[take_add_one,BY hk,show(some (k:Int)).toList=[(k:Int)] from rfl,map_append];show IsAll _ _ _
   rw[map_append];exact IsAll.append (Tps.same iy f1) (.cons (l0 aB) .nil)
  ·rintro ys H1 ⟨s1,iy⟩ pp hpp;rw[BV]at iy;have f1:=Same.upd (o:=.lst ys) hpp;have s2:=s1.trans f1;have e2:upd H1 pp (.lst ys) pp=some (.lst ys):=aB;have i2:=iy.same f1;have npp:pp≠pf:=afY (aW (s1 _ _ e0) hpp);generalize upd H1 pp (.lst ys)=H2 at s2 e2 i2;clear s1 iy f1 hpp;walk_at"rd";refine⟨λm σ H'=>∃(k:Nat)(pp:Addr)(xs zs:List V)(ls fs:List (List Int)),σ=[some (.int n),some y,some (.ref pf),some (.ref pp)]/\m=n-k/\k<=n/\Same H H'/\H' pf=some (.lst zs)/\Tps H' zs fs/\GM.Fnd n (has ps) k fs/\H' pp=some (.lst xs)/\Tps H' xs ls/\GM.Lvl n (has ps) k ls/\pp≠pf,?_,?_⟩
   ·exact⟨_,0,pp,ys,[],_,[],rfl,rfl,ae2 _,s0.trans s2,s2 _ _ e0,.nil,GM.aa7 _ _,e2,i2,GM.YL _ _,npp⟩
   ·rintro m σ H3 ⟨k,pp,xs,zs,ls,fs,rfl,hm,hk,s3,ef,tf,F,ep,tp,L,npp⟩;have lx:=tp.len;walk_at"rd";refine bK (λg=>?_) (λg=>?_)
    ·have g':0<xs.length:=by simpa using g
     have ne:ls≠[]:=λz=>by rw[z,length_nil]at lx;lia
     have kn:=L.few asy ne;have F':=F.next L
     have l64:=IG asy n6 F';have m64:=YM asy n6 L;have lz:=tf.len;rw[length_append]at l64;refine⟨λσ' H'=>∃m',m'<m/\∃(k:Nat)(pp:Addr)(xs zs:List V)(ls fs:List (List Int)),σ'=[some (.int n),some y,some (.ref pf),some (.ref pp)]/\m'=n-k/\k<=n/\Same H H'/\H' pf=some (.lst zs)/\Tps H' zs fs/\GM.Fnd n (has ps) k fs/\H' pp=some (.lst xs)/\Tps H' xs ls/\GM.Lvl n (has ps) k ls/\pp≠pf,λσ' H' h=>h,?_⟩;walk_at"rd";refine⟨eO ef,?_⟩;walk_at"rd";refine nN ef ep (bI (by lia)) ?_;have st:SameT pf H3 (upd H3 pf (.lst (zs++xs))):=λc u e g=>by rw[aD g];exact e
     have s4:Same H (upd H3 pf (.lst (zs++xs))):=λc u e=>by rw[aD (aW e hpf)];exact s3 _ _ e
     have tf4:=tf.t ef st;have tp4:=tp.t ef st;have ep4:=st _ _ ep npp;have ef4:upd H3 pf (.lst (zs++xs)) pf=some (.lst (zs++xs)):=aB;generalize upd H3 pf (.lst (zs++xs))=H4 at s4 tf4 tp4 ep4 ef4;walk_at"rd";refine⟨n,y,ps,pp,xs,ls,rfl,by lia,hy.same s4,ep4,tp4,by lia,λp hp=>?_,λr H5 ws hr5 s5 er tr=>?_⟩
     ·have:=((L.mem p).mp hp).1;lia
     ·walk_at"rd";refine⟨n-(k+1),by lia,k+1,r,ws,zs++xs,_,fs++ls,rfl,rfl,kn,s4.trans s5,s5 _ _ ef4,?_,F',er,tr,L.grow,afY (aW ef4 hr5)⟩;have:=IsAll.append (Tps.same tf4 s5) (Tps.same tp4 s5);show IsAll _ _ _
      rw[map_append];exact this
    ·have g':xs.length=0:=by
      have:¬0<xs.length:=by simpa using g
      lia
     have ne:ls=[]:=length_eq_zero_iff.mp (by lia);subst ne;have hP:=F.all L;have l64:=IG asy n6 F;walk_at"rd";refine RH ef tf (λp hp=>((hP.mem p).mp hp).1) hP.nd l64 λr vs' L' hr' ha hperm hpw=>?_;have f9:=Same.upd (o:=.lst vs') hr';refine q r _ vs' L' (s3.free hr') (s3.trans f9) aB (Tps.same ha f9) (hP.perm hperm) hpw
noncomputable def jV(ps:List (Int×Int))(a b:Int):Bool:= !has ps a b&& !has ps b a
noncomputable def O4:Sp:=λvs H Q _=>∃(x:V)(ps:List (Int×Int))(a:Int)(b:Int),vs=[x,.int a,.int b]/\Is H x (.tuple (ps.map aJ))/\∀H',Same H H'->Q (.bl (jV ps a b)) H'
theorem FO(T:aP K mg t):FnOk P w K mg base aM 1 t.z8 t.xT ["pairs","one","other"] O4:=by
 refine T.A5.ok QL (λvs H Q E h=>?_) (λcdv A outer s H vs Q E hr h=>?_)
 ·obtain⟨x,ps,a,b,rfl,_⟩:=h;rfl
 ·obtain⟨x,ps,a,b,rfl,hx,q⟩:=h;refine⟨_,(aC (aI (lF (eW (gB hr.units) (bH (aA (pv 1) (aA (pv 2) pa_nil))) (pv 0) (by rfl)) (jK (eW (gB hr.units) (bH (aA (pv 2) (aA (pv 1) pa_nil))) (pv 0) (by rfl)))))),?_⟩;unfold jV at q;walk_at"rd";refine⟨cP,λp1 hp1=>?_⟩;have s1:=Same.upd (o:=.tup [V.int a,V.int b]) hp1;walk_at"rd";refine gR aB (hx.same s1) ?_
  cases h1:has ps a b with
  |true=>
   rw[h1]at q;walk_at"rd"
   exact q _ s1
  |false=>
   rw[h1]at q;walk_at"rd";refine⟨cP,λp2 hp2=>?_⟩;have s2:=s1.trans (Same.upd (o:=.tup [V.int b,V.int a]) hp2);walk_at"rd";refine gR aB (hx.same s2) ?_;exact q _ s2
noncomputable def fb(ps:List (Int×Int))(i j:Nat):Bool:=decide (i<j)&&jV ps (i:Int) (j:Int)
noncomputable def iU(n:Nat)(ps:List (Int×Int)):List (Int×Int):=iH (fb ps) n n
theorem DN(ps:List (Int×Int))(i:Nat):∀m,m<=i+1->g7 (fb ps) i m=[]
 |0,_=>rfl
 |m+1,h=>by
  rw[vU,DN ps i m (by lia)];unfold gI fb;rw[decide_eq_false (by lia)];rfl
theorem has_pb{n:Nat}{ps:List (Int×Int)}{a b:Int}:has (iU n ps) a b=true<->(0<=a/\a<(n:Int))/\(0<=b/\b<(n:Int))/\GM.gr (has ps) a b=true:=by
 rw[has_iff];unfold iU;rw[W7];constructor
 ·rintro⟨i,j,hi,hj,e,g⟩;injection e with e1 e2;subst e1 e2;unfold fb at g;rw[afB]at g;have:=of_decide_eq_true g.1;refine⟨⟨by lia,by lia⟩,⟨by lia,by lia⟩,?_⟩;unfold GM.gr;rw[decide_eq_true (by lia)];exact g.2
 ·rintro⟨⟨a0,a1⟩,⟨b0,b1⟩,g⟩;unfold GM.gr at g;rw[afB]at g;have:=of_decide_eq_true g.1;refine⟨a.toNat,b.toNat,by lia,by lia,by rw[ah0 a0,ah0 b0],?_⟩;unfold fb;rw[decide_eq_true (by lia),ah0 a0,ah0 b0];exact g.2
theorem UO(n:Nat)(ps:List (Int×Int)):GM.fF (has (iU n ps)) where
 irr:=λa=>by
  cases h:has (iU n ps) a a with
  |false=>rfl
  |true=>
   have:=(has_pb.mp h).2.2;rw[(GM.kL _).irr]at this;cases this
 asy:=λa b h=>by
  cases g:has (iU n ps) b a with
  |false=>rfl
  |true=>
   have:=(GM.kL _).asy _ _ (has_pb.mp h).2.2;rw[(has_pb.mp g).2.2]at this;cases this
theorem UN{n:Nat}{ps:List (Int×Int)}{L:List (List Int)}(h:GM.Parts n (has (iU n ps)) L):GM.Parts n (GM.gr (has ps)) L:=⟨h.nd,λp=>by
 rw[h.mem];constructor
 ·rintro⟨a,b,c⟩;exact⟨a,b,af7.imp (λg=>(has_pb.mp g).2.2) c⟩
 ·rintro⟨a,b,c⟩
  exact⟨a,b,af7.imp_of_mem (λhx hy g=>has_pb.mpr ⟨b _ hx,b _ hy,g⟩) c⟩⟩
noncomputable def NS:Sp:=λvs H Q _=>∃(x:V)(n:Nat)(ps:List (Int×Int)),vs=[x]/\Is H x (aX n ps)/\n<=8/\∀r H',H r=none->Same H H'->Is H' (.ref r) (.list ((iU n ps).map aJ))->Q (.ref r) H'
theorem U7(T:aP K mg t):FnOk P w K mg base aM 2 t.y3 t.wM ["order"] NS:=by
 refine T.KO.ok sc_pairs_beside (λvs H Q E h=>?_) (λcdv A outer s H vs Q E hr h=>?_)
 ·obtain⟨x,n,ps,rfl,_⟩:=h;rfl
 ·obtain⟨x,n,ps,rfl,hx,n8,q⟩:=h
  refine⟨_,(aE (aT (i:=1) sc_pairs_beside.nd rfl (afM rfl) (cN pa_nil))
   (aE (cE afP rfl (bU rfl T.bP (aA (aU (aV K) (pv 0) pe_int (λ_ _=>rfl)) pa_nil)) (aN (i:=2) sc_pairs_beside.nd rfl (afM rfl)) (aC (cE afP rfl (UB rfl T.bP (aA (bB dH (pv 2) pe_int) (aA (aU (aV K) (pv 0) pe_int (λ_ _=>rfl)) pa_nil))) (aN (i:=3) sc_pairs_beside.nd rfl (afM rfl)) (aC (bF (bW (aG (FO T) (hr.mono (by decide)) rfl T.GU T.A5.kp T.JR .nil aH (aA (aU (aV K) (pv 0) pe_int (λ_ _=>rfl)) (aA (pv 2) (aA (pv 3) pa_nil))))) (aC (cI (eZ K afX agE agF iA (pv 1) (aA (bH (aA (pv 2) (aA (pv 3) pa_nil))) pa_nil)))) bE)))))
   (aC (aI (pv 1))))),?_⟩
  walk_at"rd";refine⟨ae2 _,λr hr'=>?_⟩;have s0:=Same.upd (o:=.lst []) hr';obtain⟨oa,ob,xs,rfl,ea,eb,hxs⟩:=eH hx;have ea0:=s0 _ _ ea;walk_at"rd";refine⟨_,rfl,by lia,by lia,?_⟩;rw[ae6];refine dQ (λi σ H'=>(∃v2 v3,σ=[some (.ref oa),some (.ref r),v2,v3])/\Same H H'/\∃zs,H' r=some (.lst zs)/\IsAll H' zs ((iH (fb ps) n i).map aJ)) ⟨⟨_,_,rfl⟩,s0,[],aB,.nil⟩ ?_ ?_
  ·rintro i σ H1 hi ⟨⟨v2,v3,rfl⟩,s1,zs,hz,iz⟩;have ea1:=s1 _ _ ea;walk_at"rd";rw[agI]at *;refine RK ?_;walk_at"rd";refine⟨_,_,rfl,⟨by lia,by lia,by lia,by lia⟩,?_⟩;refine dQ (λj σ H'=>(∃v3,σ=[some (.ref oa),some (.ref r),some (.int (i:Int)),v3])/\Same H H'/\∃zs,H' r=some (.lst zs)/\IsAll H' zs ((iH (fb ps) n i++g7 (fb ps) i (i+1+j)).map aJ)) ⟨⟨_,rfl⟩,s1,zs,hz,by rw[Nat.add_zero,DN ps i _ (aeU _),append_nil];exact iz⟩ ?_ ?_
   ·rintro j σ H2 hj ⟨⟨v3,rfl⟩,s2,zs2,hz2,iz2⟩;have ea2:=s2 _ _ ea;have hji:i+1+j<n:=by lia
    have ej:((i:Int)+1+(j:Int))=((i+1+j:Nat):Int):=by lia
    rw[show i+1+(j+1)=(i+1+j)+1 by lia,vU,<-append_assoc,map_append];walk_at"rd";rw[ej];refine⟨_,ps,_,_,rfl,.tup (s2 _ _ eb) (hxs.same s2),λH3 s3=>?_⟩;have hz3:=s3 _ _ hz2;have iz3:=iz2.same s3
    have e1:gI (fb ps) i (i+1+j)=if jV ps (i:Int) ((i+1+j:Nat):Int)=true then[((i:Int),((i+1+j:Nat):Int))] else[]:=by
     unfold gI fb;rw[decide_eq_true (show i<i+1+j by lia),Bool.true_and]
    rw[e1]
    cases hb:jV ps (i:Int) ((i+1+j:Nat):Int) with
    | true=>
     have lz:zs2.length<=200:=by
      rw[iz2.length,length_map,length_append];have h1:=IE (fb ps) n i;have h2:=vV (fb ps) i (i+1+j);have h3:i*n<=8*8:=ahO (by lia) n8;lia
     walk_at"rd";refine⟨eO hz3,?_⟩;walk_at"rd";refine⟨cP,λo ho=>?_⟩;have hro:r≠o:=aW hz3 ho;walk_at"rd";refine fZ (xs:=zs2) (by rw[aD hro];exact hz3) (dU (by lia)) ?_;walk_at"rd";refine⟨⟨_,rfl⟩,λc u e=>?_,_,aB,?_⟩
     ·have e3:=(s2.trans s3) c u e;rw[aD (aW e hr'),aD (aW e3 ho)];exact e3
     ·refine aeA (gX _) hz3 ho iz3 (.tup ?_ (.cons (.int _) (.cons (.int _) .nil)))
      rw[aD (afY hro),aB]
    |false=>
     walk_at"rd";exact⟨⟨_,rfl⟩,s2.trans s3,zs2,hz3,by simpa using iz3⟩
   ·rintro σ H2 ⟨⟨v3,rfl⟩,s2,zs2,hz2,iz2⟩;refine⟨⟨_,_,rfl⟩,s2,zs2,hz2,?_⟩;rw[ID];rw[show i+1+((n:Int)-((i:Int)+1)).toNat=n by lia]at iz2;exact iz2
  ·rintro σ H1 ⟨⟨v2,v3,rfl⟩,s1,zs,hz,iz⟩;walk_at"rd";exact q r H1 hr' s1 (.lst (.inl hz) iz)
end
theorem qY{n:Nat}{ps:List (Int×Int)}(ho:Ord n ps)(hb:cH n ps=false):GM.Semi n (has ps):=by
 have nb:¬BD n ps:=λz=>by rw[(acQ ho).mpr z]at hb;cases hb
 refine⟨λa b h=>?_,λa=>?_,λa b c d h1 h2=>?_,λa b c d h1 h2 d0 d1=>?_⟩
 ·obtain⟨x1,x2,x3,x4,_⟩:=ho.in h
  exact⟨⟨x1,x2⟩,x3,x4⟩
 ·cases h:has ps a a with
  |false=>rfl
  |true=>
   obtain⟨_,_,_,_,ne⟩:=ho.in h
   exact absurd rfl ne
 ·cases h3:has ps a d with
  |true=>exact .inl rfl
  | false=>
   cases h4:has ps c b with
   |true=>exact .inr rfl
   |false=>
    refine absurd (.inl ⟨a,b,c,d,?_⟩) nb;unfold gM;rw[h1,h2,h3,h4];rfl
 ·cases h3:has ps a d with
  |true=>exact .inl rfl
  | false=>
   cases h4:has ps d c with
   |true=>exact .inr rfl
   |false=>
    refine absurd (.inr ⟨a,b,c,d,d0,d1,?_⟩) nb;unfold fS;rw[h1,h2,h3,h4];rfl
theorem HU(c:Int):∀L:List Int,iE (.int c) (L.map .int)=decide (c∈L)
 |[]=>rfl
 | a::L=>by
  have ih:=HU c L;unfold iE at *;rw[map_cons,List.any_cons,ih,agN];by_cases h:a=c
  ·subst h;simp
  ·have:¬c=a:=λz=>h z.symm;simp[h,this]
theorem FW(L:List Int):oG (L.map aiD):=by
 induction L with
 |nil=>exact⟨rfl,ae2 _⟩
 | cons a L ih=>
  refine⟨?_,?_⟩
  ·rw[map_cons,agA,ih.1];rfl
  ·rw[map_cons,afI];exact Nat.max_le.mpr ⟨ae2 _,ih.2⟩
noncomputable def Ils(H:Hp)(a:Addr)(S:List Int):Prop:=H a=some (.lst (S.map V.int))\/H a=some (.tup (S.map V.int))
theorem Ils.same{H H':Hp}{a:Addr}{S:List Int}(h:Ils H a S)(s:Same H H'):Ils H' a S:=h.imp (s _ _) (s _ _)
theorem D8{H:Hp}{Q:VK}{neg:Bool}{c:Int}{a:Addr}{S:List Int}(h:Ils H a S)(q:Q (.bl (if neg then !decide (c∈S) else decide (c∈S))) H):jH neg (.int c) (.ref a) H Q:=by
 rw[<-HU]at q;rcases h with h|h
 ·exact⟨.int c,S.map .int,.int c,.inr (.lst (.inl h) (IsAll.ints S)),⟨rfl,ae2 _⟩,FW S,q⟩
 ·exact⟨.int c,S.map .int,.int c,.inl (.tup h (IsAll.ints S)),⟨rfl,ae2 _⟩,FW S,q⟩
theorem nZ{n:Nat}{al:GM.bL}(ha:GM.fF al)(h6:n<=6){L:List (List Int)}(h:GM.Parts n al L):L.length<64:=afG (GM.many ha h.nd λp hp=>(h.mem p).mp hp) (uI h6)
section
variable{P:afL}{w:agC}{K:PySem.W.Frag}{mg:Str->Option Value}{base:Heap}{t:Ad}
noncomputable def C9(al:Nat->List (Int×Int)->GM.bL):Sp:=λvs H Q _=>∃(x:V)(n:Nat)(ps:List (Int×Int)),vs=[x]/\Is H x (aX n ps)/\Ord n ps/\cH n ps=false/\n<=6/\
 ∀r H' zs L,H r=none->Same H H'->H' r=some (.lst zs)->Tps H' zs L->GM.Parts n (al n ps) L->L.Pairwise (λa b=>HT.lexLt a b=true)->Q (.ref r) H'
theorem FR(T:aP K mg t):FnOk P w K mg base aM 4 t.AC t.xX ["order"] (C9 λ_ ps=>GM.gr (has ps)):=by
 refine T.A8.ok QN (λvs H Q E h=>?_) (λcdv A outer s H vs Q E hr h=>?_)
 ·obtain⟨x,n,ps,rfl,_⟩:=h;rfl
 ·obtain⟨x,n,ps,rfl,hx,ho,hb,n6,q⟩:=h;refine⟨_,(aC (aI (aG (FP T) (hr.mono (by decide)) rfl T.GV T.A6.kp T.JS .nil aH (aA (aU (aV K) (pv 0) pe_int (λ_ _=>rfl)) (aA (aG (U7 T) (hr.mono (by decide)) rfl T.XN T.KO.kp T.ac9 .nil aH (aA (pv 0) pa_nil)) pa_nil))))),?_⟩;obtain⟨oa,ob,xs,rfl,ea,eb,hxs⟩:=eH hx;walk_at"rd";refine⟨_,n,ps,rfl,hx,by lia,λr H1 hr1 s1 i1=>?_⟩;walk_at"rd";exact⟨n,_,iU n ps,rfl,n6,.inr i1,UO n ps,λr2 H2 zs L hr2 s2 e2 t2 hP hw=>q r2 H2 zs L (s1.free hr2) (s1.trans s2) e2 t2 (UN hP) hw⟩
theorem FQ(T:aP K mg t):FnOk P w K mg base aM 4 t.AB t.xW ["order"] (C9 λ_ ps=>has ps):=by
 refine T.A7.ok QM (λvs H Q E h=>?_) (λcdv A outer s H vs Q E hr h=>?_)
 ·obtain⟨x,n,ps,rfl,_⟩:=h;rfl
 ·obtain⟨x,n,ps,rfl,hx,ho,hb,n6,q⟩:=h;refine⟨_,(aC (aI (aG (FP T) (hr.mono (by decide)) rfl T.GV T.A6.kp T.JS .nil aH (aA (aU (aV K) (pv 0) pe_int (λ_ _=>rfl)) (aA (aU (aV K) (pv 0) pe_int (λ_ _=>rfl)) pa_nil))))),?_⟩;obtain⟨oa,ob,xs,rfl,ea,eb,hxs⟩:=eH hx;walk_at"rd";exact⟨n,_,ps,rfl,n6,.inl (.tup eb hxs),(qY ho hb).asy,q⟩
noncomputable def NF:Sp:=λvs H Q _=>∃(a:Addr)(p:List Int)(b:Addr)(S:List Int),vs=[.ref a,.ref b]/\H a=some (.tup (p.map V.int))/\p.length<=100/\Ils H b S/\∀H',Same H H'->Q (.bl (GM.wi S p)) H'
theorem FH(T:aP K mg t):FnOk P w K mg base aM 1 t.zE t.wW ["part","things"] NF:=by
 refine T.AW.ok P5 (λvs H Q E h=>?_) (λcdv A outer s H vs Q E hr h=>?_)
 ·obtain⟨a,p,b,S,rfl,_⟩:=h;rfl
 ·obtain⟨a,p,b,S,rfl,ea,hl,hb,q⟩:=h;refine⟨_,(aC (aI (bC (lW K) (by rfl) T.lN mF (aA (cQ rfl ⟨aeW,aeW,(.inl rfl),aeW⟩ (M:=["thing","things"]) (.own (.free 1 rfl rfl .nil)) (cB rfl) rfl (by decide +kernel) (i3 K (pv 0)) (λC fp s1 H1=>⟨aN (i:=0) (show(["thing","things"]:List Str).Nodup by decide +kernel) rfl (afM rfl),dM,(eW (oA hr.units) (pv 0) (pv 1) (by rfl))⟩)) pa_nil)))),?_⟩;walk_at"rd";refine⟨a,rfl,⟨_,SqT.of ea⟩,?_⟩;refine lO (K:=K) (xs:=p.map V.int) (bI (by rw[length_map];lia)) (λi us H'=>H'=H/\us=((p.take i).map λc=>decide (c∈S)).map V.bl) ⟨rfl,rfl⟩ (by rintro i us H' ⟨_,rfl⟩;simp;lia) (λi us H' _ h=>by rw[h.1];exact SqT.of ea) ?_ ?_
  ·rintro i x us H1 hx ⟨rfl,rfl⟩;obtain⟨c,hc,rfl⟩:=HQ hx;walk_at"rd";refine D8 hb ⟨rfl,?_⟩;rw[take_add_one,hc,map_append,map_append];rfl
  ·rintro us H1 ⟨rfl,rfl⟩ pl hpl;walk_at"rd";refine kB aB ?_;rw[length_map,take_length,all_map];exact q _ (Same.upd hpl)
noncomputable def NI:Sp:=λvs H Q _=>∃(b:Addr)(S:List Int)(a:Addr)(p:List Int),vs=[.ref b,.ref a]/\H b=some (.lst (S.map V.int))/\S.length<=100/\H a=some (.tup (p.map V.int))/\∀r H',H r=none->Same H H'->H' r=some (.lst ((GM.bV S p).map V.int))->Q (.ref r) H'
theorem FE(T:aP K mg t):FnOk P w K mg base aM 1 t.yS t.wE ["things","part"] NI:=by
 refine T.AT.ok PR (λvs H Q E h=>?_) (λcdv A outer s H vs Q E hr h=>?_)
 ·obtain⟨b,S,a,p,rfl,_⟩:=h;rfl
 ·obtain⟨b,S,a,p,rfl,eb,hl,ea,q⟩:=h;refine⟨_,(aC (aI (cQ rfl ⟨aeW,aeW,(.inl rfl),aeW⟩ (M:=["thing","part"]) (.own (.free 1 rfl rfl .nil)) (cB rfl) rfl (by decide +kernel) (dZ K (pv 0)) (λC fp s1 H1=>⟨aN (i:=0) (show(["thing","part"]:List Str).Nodup by decide +kernel) rfl (afM rfl),eV (aZ (gB hr.units) (pv 0) (pv 1) (by rfl)),(pv 0)⟩)))),?_⟩;walk_at"rd";refine⟨b,rfl,⟨_,SqL.of eb⟩,?_⟩
  refine gE (K:=K) (xs:=S.map V.int) (bI (by rw[length_map];lia)) (λi us H'=>H'=H/\us=(GM.bV (S.take i) p).map V.int) ⟨rfl,rfl⟩ (by
   rintro i us H' ⟨_,rfl⟩;rw[length_map];refine afO (length_filter_le _ _) ?_;rw[length_take]
   lia) (λi us H' _ h=>by rw[h.1];exact SqL.of eb) ?_ ?_
  ·rintro i x us H1 hx ⟨rfl,rfl⟩;obtain⟨c,hc,rfl⟩:=HQ hx
   have e1:GM.bV (S.take (i+1)) p=GM.bV (S.take i) p++if(!decide (c∈p))=true then[c] else[]:=by
    unfold GM.bV;rw[take_add_one,hc,show(some c).toList=[c] from rfl,filter_append,kM]
   rw[e1,map_append];walk_at"rd";refine D8 (.inr ea) ?_;walk_at"rd";refine bK (λg=>?_) (λg=>?_)
   ·have g':(!decide (c∈p))=true:=g;rw[if_pos g'];walk_at"rd";exact⟨rfl,rfl⟩
   ·have g':(!decide (c∈p))=false:=g;rw[g'];exact⟨rfl,by simp⟩
  ·rintro us H1 ⟨rfl,rfl⟩ pl hpl;rw[length_map,take_length];exact q pl _ hpl (Same.upd hpl) aB
noncomputable def OA:Sp:=λvs H Q _=>∃(a:Addr)(xs:List V)(L:List (List Int))(b:Addr)(S:List Int),vs=[.ref a,.ref b]/\H a=some (.lst xs)/\Tps H xs L/\L.length<=100/\(∀p∈L,p.length<=100)/\H b=some (.lst (S.map V.int))/\∀H',Same H H'->Q (.int (GM.most L S:Nat)) H'
theorem WZ{l:List Nat}{M:Int}(h:M∈l.map (λk:Nat=>(k:Int)))(hm:∀a∈l.map (λk:Nat=>(k:Int)),a<=M):M=(GM.mx l:Nat):=by
 obtain⟨k,hk,rfl⟩:=mem_map.mp h;have h1:=GM.vI hk;have h2:=GM.uZ (l:=l) λz=>by rw[z]at hk;cases hk
 have h3:=hm _ (mem_map.mpr ⟨_,h2,rfl⟩);lia
theorem FG(T:aP K mg t):FnOk P w K mg base aM 2 t.zA t.wS ["parts","things"] OA:=by
 refine T.AV.ok P3 (λvs H Q E h=>?_) (λcdv A outer s H vs Q E hr h=>?_)
 ·obtain⟨a,xs,L,b,S,rfl,_⟩:=h;rfl
 ·obtain⟨a,xs,L,b,S,rfl,ea,hL,lL,lp,eb,q⟩:=h;refine⟨_,(aC (aI (ZV rfl T.uY (aA (cQ rfl ⟨aeW,aeW,aeW,aeW,(.inl rfl),aeW⟩ (M:=["part","things"]) (.own (.free 1 rfl rfl .nil)) (cB rfl) rfl (by decide +kernel) (dZ K (pv 0)) (λC fp s1 H1=>⟨aN (i:=0) (show(["part","things"]:List Str).Nodup by decide +kernel) rfl (afM rfl),eV (bW (aG (FH T) (hr.mono (by decide)) rfl T.GL T.AW.kp T.JK .nil aH (aA (pv 0) (aA (pv 1) pa_nil)))),(bC (cK K) (by rfl) T.cJ cL (aA (pv 0) pa_nil))⟩)) pa_nil) pe_int))),?_⟩;have lx:=hL.len;walk_at"rd";refine R6 ?_;walk_at"rd";refine⟨a,rfl,⟨_,SqL.of ea⟩,?_⟩
  refine gE (K:=K) (xs:=xs) (bI (by lia)) (λi us H'=>Same H H'/\us=((GM.gZ (L.take i) S).map λk:Nat=>(k:Int)).map V.int) ⟨Same.refl _,rfl⟩ (by
   rintro i us H' ⟨_,rfl⟩;unfold GM.gZ;rw[length_map,length_map,length_map];refine afO (length_filter_le _ _) ?_;rw[length_take]
   lia) (λi us H' _ h=>SqL.of (h.1 _ _ ea)) ?_ ?_
  ·rintro i x us H1 hx ⟨s1,rfl⟩;obtain⟨p,ap,hp,rfl,ep⟩:=hL.at hx
   have e1:GM.gZ (L.take (i+1)) S=GM.gZ (L.take i) S++if GM.wi S p=true then[p.length] else[]:=by
    unfold GM.gZ;rw[take_add_one,hp,show(some p).toList=[p] from rfl,filter_append,kM,map_append];split
    ·rfl
    ·rfl
   rw[e1,map_append,map_append];have ep1:=s1 _ _ ep;walk_at"rd";refine⟨ap,p,b,S,rfl,ep1,lp p (af3 hp),.inl (s1 _ _ eb),λH2 s2=>?_⟩;have ep2:=s2 _ _ ep1
   cases hw:GM.wi S p with
   |true=>
    walk_at"rd";refine⟨s1.trans s2,?_⟩;rw[length_map]
    rfl
   |false=>
    walk_at"rd";exact⟨s1.trans s2,by simp⟩
  ·rintro us H1 ⟨s1,rfl⟩ pl hpl;rw[lx,take_length];have s2:=s1.trans (Same.upd (o:=.lst (((GM.gZ L S).map λk:Nat=>(k:Int)).map V.int)) hpl);walk_at"rd";refine⟨pl,(GM.gZ L S).map λk:Nat=>(k:Int),rfl,aB,λe=>?_,λM hM hA=>?_⟩
   ·have e':GM.gZ L S=[]:=List.map_eq_nil_iff.mp e;have q':=q _ s2;unfold GM.most at q';rw[e']at q' ⊢;exact q'
   ·rw[WZ hM hA];exact q _ s2
noncomputable def NU:Sp:=λvs H Q _=>∃(a:Addr)(p:List Int)(c:Addr)(xs:List V)(C:List (List Int))(b:Addr)(S:List Int),vs=[.ref a,.ref c,.ref b]/\H a=some (.tup (p.map V.int))/\H c=some (.lst xs)/\Tps H xs C/\C.length<=100/\(∀p∈C,p.length<=100)/\H b=some (.lst (S.map V.int))/\S.length<=100/\
 ∀H',Same H H'->Q (.bl (decide (GM.most C (GM.bV S p)<GM.most C S))) H'
theorem VT(T:aP K mg t):FnOk P w K mg base aM 3 t.zY t.xM ["part","across","things"] NU:=by
 refine T.LG.ok QH (λvs H Q E h=>?_) (λcdv A outer s H vs Q E hr h=>?_)
 ·obtain⟨a,p,c,xs,C,b,S,rfl,_⟩:=h;rfl
 ·obtain⟨a,p,c,xs,C,b,S,rfl,ea,ec,hC,lC,l8,eb,lS,q⟩:=h;refine⟨_,(aC (aI (eW (uO) (aG (FG T) (hr.mono (by decide)) rfl T.GJ T.AV.kp T.JJ .nil aH (aA (pv 1) (aA (aG (FE T) (hr.mono (by decide)) rfl T.GH T.AT.kp T.JH .nil aH (aA (pv 2) (aA (pv 0) pa_nil))) pa_nil))) (aG (FG T) (hr.mono (by decide)) rfl T.GJ T.AV.kp T.JJ .nil aH (aA (pv 1) (aA (pv 2) pa_nil))) (bD _)))),?_⟩;walk_at"rd";refine⟨b,S,a,p,rfl,eb,lS,ea,λr H1 hr1 s1 e1=>?_⟩;walk_at"rd";refine⟨c,xs,C,r,GM.bV S p,rfl,s1 _ _ ec,hC.same s1,lC,l8,e1,λH2 s2=>?_⟩;have s12:=s1.trans s2;walk_at"rd";refine⟨c,xs,C,b,S,rfl,s12 _ _ ec,hC.same s12,lC,l8,s12 _ _ eb,λH3 s3=>?_⟩;have q':=q H3 (s12.trans s3);walk_at"rd";rw[show decide (((GM.most C (GM.bV S p):Nat):Int)<((GM.most C S:Nat):Int))=decide (GM.most C (GM.bV S p)<GM.most C S) by simp];exact q'
end
inductive eA (PL CL:List (List Int)):List Int->List (List Int)->Prop
 |nil:eA PL CL [] []
 |cons {S p:List Int} {res:List (List Int)}:S≠[]->p∈PL->(∀t∈p,t∈S)->GM.most CL (GM.bV S p)<GM.most CL S->(∀q∈PL,(∀t∈q,t∈S)->GM.most CL (GM.bV S q)<GM.most CL S->HT.lexLt q p=false)->eA PL CL (GM.bV S p) res->eA PL CL S (p::res)
noncomputable def iO(n:Nat)(PL CL:List (List Int)):Prop:=∀S:List Int,S≠[]->GM.dJ n S->S.Pairwise (· < ·)->∃p∈PL,(∀t∈p,t∈S)/\GM.most CL (GM.bV S p)<GM.most CL S
theorem DG{S p:List Int}{t:Int}(ht:t∈p)(hs:t∈S):(GM.bV S p).length<S.length:=by
 refine Nat.lt_of_le_of_ne (length_filter_le _ _) λz=>?_;have:=(List.length_filter_eq_length_iff.mp z) t hs;simp[ht]at this
theorem ML(n:Nat):(L2.upTo n).Pairwise (· < ·):=by
 unfold L2.upTo;rw[pairwise_map];exact af7.imp (λh=>by lia) (pairwise_lt_range (n:=n))
section
variable{P:afL}{w:agC}{K:PySem.W.Frag}{mg:Str->Option Value}{base:Heap}{t:Ad}
noncomputable def kO(CL:List (List Int))(S p:List Int):Bool:=decide (GM.most CL (GM.bV S p)<GM.most CL S)
noncomputable def OR:Sp:=λvs H Q _=>∃(n:Nat)(pa:Addr)(xs:List V)(PL:List (List Int))(ca:Addr)(ys:List V)(CL:List (List Int)),vs=[.int n,.ref pa,.ref ca]/\n<=8/\H pa=some (.lst xs)/\Tps H xs PL/\H ca=some (.lst ys)/\Tps H ys CL/\PL.length<=100/\CL.length<=100/\(∀p∈PL,p≠[]/\p.length<=100)/\(∀c∈CL,c.length<=100)/\iO n PL CL/\
 ∀r H' zs res,H r=none->Same H H'->H' r=some (.lst zs)->Tps H' zs res->eA PL CL (L2.upTo n) res->Q (.ref r) H'
theorem FN(T:aP K mg t):FnOk P w K mg base aM 4 t.z7 t.xS ["many","parts","across"] OR:=by
 refine T.A4.ok sc_as_few_as_can_be (λvs H Q E h=>?_) (λcdv A outer s H vs Q E hr h=>?_)
 ·obtain⟨n,pa,xs,PL,ca,ys,CL,rfl,_⟩:=h;rfl
 ·obtain⟨n,pa,xs,PL,ca,ys,CL,rfl,n8,ep,tp,ec,tc,lP,lC,hP,hC,stp,q⟩:=h
  refine⟨_,(aE (aT (i:=3) sc_as_few_as_can_be.nd rfl (Or.inr rfl) (jL (ab5 rfl) (by rfl) T.kI kP (aA (jL ab1 (by rfl) T.bP acN (aA (pv 0) pa_nil)) pa_nil)))
   (aE (aT (i:=4) sc_as_few_as_can_be.nd rfl (afM rfl) (cN pa_nil))
   (aE (uJ afP (aZ (jO) (bC (cK K) (by rfl) T.cJ cL (aA (pv 3) pa_nil)) pe_int (bD _)) (aE (hV (i:=5) sc_as_few_as_can_be.nd rfl rfl rfl rfl ⟨aeW,aeW,aeW,(.inl rfl),aeW⟩ (M:=["part","things"]) (.own (.free 3 rfl rfl .nil)) (cB rfl) rfl (by decide +kernel) (dZ K (pv 1)) (λC fp s1 H1=>⟨aN (i:=0) (show(["part","things"]:List Str).Nodup by decide +kernel) rfl (afM rfl),eV (bW (aG (FH T) (hr.mono (by decide)) rfl T.GL T.AW.kp T.JK .nil aH (aA (pv 0) (aA (pv 1) pa_nil)))),(pv 0)⟩))
   (aE (aT (i:=6) sc_as_few_as_can_be.nd rfl (afM rfl) (bC (ZS (HH K (hr.in1 (k:=2)).units0)) (by rfl) T.GE IZ (aA (cQ rfl ⟨aeW,aeW,aeW,(.inl rfl),(.inl rfl),aeW⟩ (M:=["part","across","things"]) (.own (.free 2 rfl rfl (.free 3 rfl rfl .nil))) (cB rfl) rfl (by decide +kernel) (dZ K (pv 5)) (λC fp s1 H1=>⟨aN (i:=0) (show(["part","across","things"]:List Str).Nodup by decide +kernel) rfl (afM rfl),eV (bW (aG (VT T) (hr.mono (by decide)) rfl T.X7 T.LG.kp T.adS .nil aH (aA (pv 0) (aA (pv 1) (aA (pv 2) pa_nil))))),(pv 0)⟩)) pa_nil)))
   (aE (cI (eZ K afX agE agF iA (pv 4) (aA (pv 6) pa_nil)))
   (aC (aT (i:=3) sc_as_few_as_can_be.nd rfl (Or.inr rfl) (aG (FE T) (hr.mono (by decide)) rfl T.GH T.AT.kp T.JH .nil aH (aA (pv 3) (aA (pv 6) pa_nil)))))))))
   (aC (aI (pv 4)))))),?_⟩
  have lxs:=tp.len;walk_at"rd";refine RZ λr hr'=>?_;have s1:=Same.upd (o:=.rng 0 (n:Int)) hr';walk_at"rd";refine R9 aB (by lia) λth hth=>?_;have s2:=s1.trans (Same.upd (o:=.lst ((L2.upTo n).map V.int)) hth);have e2:upd (upd H r (.rng 0 (n:Int))) th (.lst ((L2.upTo n).map V.int)) th=some (.lst ((L2.upTo n).map V.int)):=aB;generalize upd (upd H r (.rng 0 (n:Int))) th (.lst ((L2.upTo n).map V.int))=H2 at s2 e2;walk_at"rd";refine⟨ae2 _,λpc hpc=>?_⟩;have f3:=Same.upd (o:=.lst []) hpc;have s3:=s2.trans f3;have e3:=f3 _ _ e2;have c3:upd H2 pc (.lst []) pc=some (.lst []):=aB;have ntc:th≠pc:=aW e2 hpc;have npc:H pc=none:=s2.free hpc;generalize upd H2 pc (.lst [])=H3 at s3 e3 c3;clear s1 s2 e2 f3 hr' hth hpc;walk_at"rd";refine⟨λm σ H'=>∃(th:Addr)(S:List Int)(zs:List V)(dn:List (List Int))(v5 v6:Option V),σ=[some (.int n),some (.ref pa),some (.ref ca),some (.ref th),some (.ref pc),v5,v6]/\S.length=m/\Same H H'/\H' th=some (.lst (S.map V.int))/\th≠pc/\GM.dJ n S/\S.Pairwise (· < ·)/\H' pc=some (.lst zs)/\Tps H' zs dn/\dn.length+S.length<=n/\∀bM,eA PL CL S bM->eA PL CL (L2.upTo n) (dn++bM),?_,?_⟩
  ·exact⟨_,th,L2.upTo n,[],[],_,_,rfl,rfl,s3,e3,ntc,λt ht=>L2.mem_upTo.mp ht,ML n,c3,.nil,by rw[L2.j5];exact Nat.le_of_eq (Nat.zero_add _),λbM h=>h⟩
  ·rintro m σ H4 ⟨th,S,zs,dn,v5,v6,rfl,hm,s4,et,ntc,hi,up,ezc,tz,ln,go⟩;walk_at"rd";rw[length_map];refine bK (λg=>?_) (λg=>?_)
   ·have g':0<S.length:=by simpa using g
    have ne:S≠[]:=λz=>by rw[z]at g';cases g'
    refine⟨λσ' H'=>∃m',m'<m/\∃(th:Addr)(S:List Int)(zs:List V)(dn:List (List Int))(v5 v6:Option V),σ'=[some (.int n),some (.ref pa),some (.ref ca),some (.ref th),some (.ref pc),v5,v6]/\S.length=m'/\Same H H'/\H' th=some (.lst (S.map V.int))/\th≠pc/\GM.dJ n S/\S.Pairwise (· < ·)/\H' pc=some (.lst zs)/\Tps H' zs dn/\dn.length+S.length<=n/\∀bM,eA PL CL S bM->eA PL CL (L2.upTo n) (dn++bM),λσ' H' h=>h,?_⟩;have ep4:=s4 _ _ ep;have tp4:=tp.same s4;walk_at"rd";refine⟨pa,rfl,⟨_,SqL.of ep4⟩,?_⟩
    refine gE (K:=K) (xs:=xs) (bI (by lia)) (λi us H'=>Same H4 H'/\Tps H' us ((PL.take i).filter λp=>GM.wi S p)) ⟨Same.refl _,.nil⟩ (by
     rintro i us H' ⟨_,h⟩;rw[h.len];refine afO (length_filter_le _ _) ?_;rw[length_take]
     lia) (λi us H' _ h=>SqL.of (h.1 _ _ ep4)) ?_ ?_
    ·rintro i x us H5 hx ⟨s5,iu⟩;obtain⟨p,ap,hp,rfl,ea⟩:=tp4.at hx;rw[take_add_one,hp,show(some p).toList=[p] from rfl,filter_append,kM];have ea5:=s5 _ _ ea;walk_at"rd";refine⟨ap,p,th,S,rfl,ea5,(hP p (af3 hp)).2,.inl (s5 _ _ et),λH6 s6=>?_⟩
     cases hw:GM.wi S p with
     |true=>
      walk_at"rd";refine⟨s5.trans s6,?_⟩;show IsAll _ _ _
      rw[map_append]
      exact IsAll.append (Tps.same iu s6) (.cons (l0 (s6 _ _ ea5)) .nil)
     |false=>
      walk_at"rd";refine⟨s5.trans s6,?_⟩;have:=iu.same s6;simpa using this
    rintro us H5 ⟨s5,iu⟩ wl hwl;rw[lxs,take_length]at iu;have lus:=iu.len
    have lus2:us.length<=100:=by
     rw[lus];exact afO (length_filter_le _ _) lP
    have f6:=Same.upd (o:=.lst us) hwl;have s46:=s5.trans f6;have s6:=s4.trans s46;have ew:upd H5 wl (.lst us) wl=some (.lst us):=aB;have tu:=iu.same f6;generalize upd H5 wl (.lst us)=H6 at f6 s46 s6 ew tu;clear iu s5 f6 hwl;have et6:=s46 _ _ et;have ezc6:=s46 _ _ ezc;have tz6:=tz.same s46;walk_at"rd";refine⟨wl,rfl,⟨_,SqL.of ew⟩,?_⟩
    refine gE (K:=K) (xs:=us) (bI (by lia)) (λi ws H'=>Same H6 H'/\Tps H' ws (((PL.filter λp=>GM.wi S p).take i).filter λp=>kO CL S p)) ⟨Same.refl _,.nil⟩ (by
     rintro i ws H' ⟨_,h⟩;rw[h.len];refine afO (length_filter_le _ _) ?_;rw[length_take]
     lia) (λi ws H' _ h=>SqL.of (h.1 _ _ ew)) ?_ ?_
    ·rintro i x ws H7 hx ⟨s7,iw⟩;obtain⟨p,ap,hp,rfl,ea⟩:=tu.at hx;have hpm:p∈PL:=(mem_filter.mp (af3 hp)).1;rw[take_add_one,hp,show(some p).toList=[p] from rfl,filter_append,kM];have ea7:=s7 _ _ ea;have s67:=s6.trans s7;walk_at"rd";refine⟨ap,p,ca,ys,CL,th,S,rfl,ea7,s67 _ _ ec,tc.same s67,lC,hC,s7 _ _ et6,by lia,λH8 s8=>?_⟩
     cases hw:kO CL S p with
     |true=>
      rw[show decide (GM.most CL (GM.bV S p)<GM.most CL S)=true from hw];walk_at"rd";refine⟨s7.trans s8,?_⟩;show IsAll _ _ _
      rw[map_append]
      exact IsAll.append (Tps.same iw s8) (.cons (l0 (s8 _ _ ea7)) .nil)
     |false=>
      rw[show decide (GM.most CL (GM.bV S p)<GM.most CL S)=false from hw];walk_at"rd";refine⟨s7.trans s8,?_⟩;have:=iw.same s8;simpa using this
    rintro ws H7 ⟨s7,iw⟩ w2 hw2;rw[lus,take_length]at iw;have f8:=Same.upd (o:=.lst ws) hw2;have s68:=s7.trans f8;have s8:=s6.trans s68;have ew2:upd H7 w2 (.lst ws) w2=some (.lst ws):=aB;have tw:=iw.same f8;generalize upd H7 w2 (.lst ws)=H8 at f8 s68 s8 ew2 tw;clear iw s7 f8 hw2
    have memW:∀p,p∈((PL.filter λp=>GM.wi S p).filter λp=>kO CL S p)<->p∈PL/\(∀t∈p,t∈S)/\GM.most CL (GM.bV S p)<GM.most CL S:=λp=>by
     rw[mem_filter,mem_filter,GM.wi_iff];unfold kO;rw[decide_eq_true_iff];exact⟨λ⟨⟨a,b⟩,c⟩=>⟨a,b,c⟩,λ⟨a,b,c⟩=>⟨⟨a,b⟩,c⟩⟩
    obtain⟨p1,hp1,hp1s,hp1l⟩:=stp S ne hi up;have posW:0<((PL.filter λp=>GM.wi S p).filter λp=>kO CL S p).length:=List.length_pos_of_mem ((memW p1).mpr ⟨hp1,hp1s,hp1l⟩);generalize ((PL.filter λp=>GM.wi S p).filter λp=>kO CL S p)=WL at tw memW posW;have et8:=s68 _ _ et6;have ezc8:=s68 _ _ ezc6;have tz8:=tz6.same s68;have lzs:=tz8.len;walk_at"rd";refine R0 ew2 (λi p e=>?_) tw.len posW λi p e hmin x hx=>?_
    ·obtain⟨v,ev,iv⟩:=IsAll.get tw (i:=i) (d:=cC [] p) (by rw[ae4,e];rfl);obtain⟨a,rfl,ea⟩:=B6 iv;exact⟨a,ev,ea⟩
    obtain⟨p',ap,e',rfl,ea⟩:=tw.at hx;rw[e]at e';cases e';obtain⟨m1,m2,m3⟩:=(memW p).mp (af3 e)
    obtain⟨t0,ht0⟩:∃t0,t0∈p:=by
     cases p with
     |nil=>exact absurd rfl (hP _ m1).1
     |cons t0 p=>exact⟨t0,mem_cons_self⟩
    have less:=DG ht0 (m2 t0 ht0)
    have gre:∀bM,eA PL CL (GM.bV S p) bM->eA PL CL (L2.upTo n) ((dn++[p])++bM):=λbM hr=>by
     rw[append_assoc];exact go _ (.cons ne m1 m2 m3 (λr hr1 hr2 hr3=>hmin r ((memW r).mpr ⟨hr1,hr2,hr3⟩)) hr)
    walk_at"rd";refine⟨eO ezc8,?_⟩;walk_at"rd";refine fZ ezc8 (dU (by lia)) ?_;have st:SameT pc H8 (upd H8 pc (.lst (zs++[.ref ap]))):=λc u e g=>by rw[aD g];exact e
    have s9:Same H (upd H8 pc (.lst (zs++[.ref ap]))):=λc u e=>by rw[aD (aW e npc)];exact s8 _ _ e
    have et9:=st _ _ et8 ntc;have nap:ap≠pc:=bJ ea ezc8 (by intro z;cases z);have ea9:=st _ _ ea nap
    have tz9:Tps (upd H8 pc (.lst (zs++[.ref ap]))) (zs++[.ref ap]) (dn++[p]):=by
     show IsAll _ _ _;rw[map_append];exact IsAll.append (Tps.t tz8 ezc8 st) (.cons (l0 ea9) .nil)
    have ezc9:upd H8 pc (.lst (zs++[.ref ap])) pc=some (.lst (zs++[.ref ap])):=aB;generalize upd H8 pc (.lst (zs++[.ref ap]))=H9 at s9 et9 ea9 tz9 ezc9;clear st;walk_at"rd";refine⟨th,S,ap,p,rfl,et9,by lia,ea9,λr9 H10 hr9 s10 er=>?_⟩;walk_at"rd";refine⟨_,by rw[<-hm];exact less,r9,GM.bV S p,zs++[.ref ap],dn++[p],_,_,rfl,rfl,s9.trans s10,er,afY (aW ezc9 hr9),λu hu=>hi u (GM.mem_sans.mp hu).1,af7.filter _ up,s10 _ _ ezc9,tz9.same s10,?_,gre⟩;rw[length_append];show dn.length+1+_<=n
    lia
   ·have g':S.length=0:=by
     have:¬0<S.length:=by simpa using g
     lia
    have e0:S=[]:=length_eq_zero_iff.mp g';subst e0;have:=go [] .nil;rw[append_nil]at this;walk_at"rd";exact q pc H4 zs dn npc s4 ezc tz this
noncomputable def DA(al ac:List (Int×Int)->GM.bL):Sp:=λvs H Q _=>∃(x:V)(n:Nat)(ps:List (Int×Int)),vs=[x]/\Is H x (aX n ps)/\Ord n ps/\cH n ps=false/\n<=6/\
 ∀r H' zs res PL CL,H r=none->Same H H'->H' r=some (.lst zs)->Tps H' zs res->GM.Parts n (al ps) PL->GM.Parts n (ac ps) CL->eA PL CL (L2.upTo n) res->Q (.ref r) H'
theorem nY{n:Nat}{al:GM.bL}(ha:GM.fF al)(h6:n<=6){L:List (List Int)}(h:GM.Parts n al L):∀p∈L,p.length<=100:=λp hp=>by
 obtain⟨_,b,c⟩:=(h.mem p).mp hp;have:=c.len ha b;lia
theorem VP(T:aP K mg t):FnOk P w K mg base aM 8 t.zS t.xG ["order"] (DA (λps=>GM.gr (has ps)) λps=>has ps):=by
 refine T.LC.ok QD (λvs H Q E h=>?_) (λcdv A outer s H vs Q E hr h=>?_)
 ·obtain⟨x,n,ps,rfl,_⟩:=h;rfl
 ·obtain⟨x,n,ps,rfl,hx,ho,hb,n6,q⟩:=h
  refine⟨_,(aE (cI (aG (uR T) (hr.mono (by decide)) rfl T.vC T.pY.kp T.yN .nil aH (aA (pv 0) pa_nil)))
   (aC (aI (aG (FN T) (hr.mono (by decide)) rfl T.GT T.A4.kp T.JQ .nil aH (aA (aU (aV K) (pv 0) pe_int (λ_ _=>rfl)) (aA (aG (FR T) (hr.mono (by decide)) rfl T.GX T.A8.kp T.JU .nil aH (aA (pv 0) pa_nil)) (aA (aG (FQ T) (hr.mono (by decide)) rfl T.GW T.A7.kp T.JT .nil aH (aA (pv 0) pa_nil)) pa_nil))))))),?_⟩
  have sm:=qY ho hb;walk_at"rd";refine⟨x,n,ps,rfl,hx,ho,hb,λH1 s1=>?_⟩;obtain⟨oa,ob,xs,rfl,ea,eb,hxs⟩:=eH (hx.same s1);walk_at"rd";refine⟨_,n,ps,rfl,hx.same s1,ho,hb,n6,λr2 H2 zs G hr2 s2 e2 t2 hG hw2=>?_⟩;walk_at"rd";refine⟨_,n,ps,rfl,(hx.same s1).same s2,ho,hb,n6,λr3 H3 ws L hr3 s3 e3 t3 hL hw3=>?_⟩;walk_at"rd";refine⟨n,r2,zs,G,r3,ws,L,rfl,by lia,s3 _ _ e2,t2.same s3,e3,t3,agP (Nat.lt_trans (nZ (GM.kL _) n6 hG) (by decide)),agP (Nat.lt_trans (nZ sm.asy n6 hL) (by decide)),λp hp=>⟨((hG.mem p).mp hp).1,nY (GM.kL _) n6 hG p hp⟩,nY sm.asy n6 hL,λS ne hi up=>GM.WP sm hG hL ne hi up,λr4 H4 us res hr4 s4 e4 t4 hg=>?_⟩;exact q r4 H4 us res G L (((s1.trans s2).trans s3).free hr4) (((s1.trans s2).trans s3).trans s4) e4 t4 hG hL hg
theorem VO(T:aP K mg t):FnOk P w K mg base aM 8 t.zR t.xF ["order"] (DA (λps=>has ps) λps=>GM.gr (has ps)):=by
 refine T.LB.ok QC (λvs H Q E h=>?_) (λcdv A outer s H vs Q E hr h=>?_)
 ·obtain⟨x,n,ps,rfl,_⟩:=h;rfl
 ·obtain⟨x,n,ps,rfl,hx,ho,hb,n6,q⟩:=h
  refine⟨_,(aE (cI (aG (uR T) (hr.mono (by decide)) rfl T.vC T.pY.kp T.yN .nil aH (aA (pv 0) pa_nil)))
   (aC (aI (aG (FN T) (hr.mono (by decide)) rfl T.GT T.A4.kp T.JQ .nil aH (aA (aU (aV K) (pv 0) pe_int (λ_ _=>rfl)) (aA (aG (FQ T) (hr.mono (by decide)) rfl T.GW T.A7.kp T.JT .nil aH (aA (pv 0) pa_nil)) (aA (aG (FR T) (hr.mono (by decide)) rfl T.GX T.A8.kp T.JU .nil aH (aA (pv 0) pa_nil)) pa_nil))))))),?_⟩
  have sm:=qY ho hb;walk_at"rd";refine⟨x,n,ps,rfl,hx,ho,hb,λH1 s1=>?_⟩;obtain⟨oa,ob,xs,rfl,ea,eb,hxs⟩:=eH (hx.same s1);walk_at"rd";refine⟨_,n,ps,rfl,hx.same s1,ho,hb,n6,λr2 H2 zs L hr2 s2 e2 t2 hL hw2=>?_⟩;walk_at"rd";refine⟨_,n,ps,rfl,(hx.same s1).same s2,ho,hb,n6,λr3 H3 ws G hr3 s3 e3 t3 hG hw3=>?_⟩;walk_at"rd";refine⟨n,r2,zs,L,r3,ws,G,rfl,by lia,s3 _ _ e2,t2.same s3,e3,t3,agP (Nat.lt_trans (nZ sm.asy n6 hL) (by decide)),agP (Nat.lt_trans (nZ (GM.kL _) n6 hG) (by decide)),λp hp=>⟨((hL.mem p).mp hp).1,nY sm.asy n6 hL p hp⟩,nY (GM.kL _) n6 hG,λS ne hi up=>GM.WO sm hG hL ne hi,λr4 H4 us res hr4 s4 e4 t4 hg=>?_⟩;exact q r4 H4 us res L G (((s1.trans s2).trans s3).free hr4) (((s1.trans s2).trans s3).trans s4) e4 t4 hL hG hg
noncomputable abbrev aY:=List (Int×Int)×Int
noncomputable def bN(n:Nat)(p:aY):PyData:=.tuple [aX n p.1,.int p.2]
structure j0 (n:Nat) (p:aY):Prop where
 ord:Ord n p.1
 lo:1<=p.2
 hi:p.2<=999
theorem kJ{H:Hp}{x:V}{n:Nat}{p:aY}(h:Is H x (bN n p)):∃a o,x=.ref a/\H a=some (.tup [o,.int p.2])/\Is H o (aX n p.1):=by
 unfold bN at h
 cases h with
 | @tup a xs _ e hxs=>
  cases hxs with
  | cons h1 t=>
   cases t with
   |cons h2 t2=>
    cases h2;cases t2;exact⟨a,_,rfl,e,h1⟩
theorem lM(n:Nat)(ps:List (Int×Int)):bO (aX n ps)=true:=by
 unfold aX;rw[bO,bA,bA,bA,bO,bO,gX];rfl
theorem eX(n:Nat):∀sv:List aY,bA (sv.map (bN n))=true
 |[]=>rfl
 |p::sv=>by
  rw[map_cons,bA,eX n sv];unfold bN;rw[bO,bA,lM,bA,bA,bO];rfl
theorem C6{st:Int}(h1:1<=st)(h2:st<=999):bZ (.int st) 1 999=true:=by
 show(decide (1<=st)&&decide (st<=999))=true;simp[h1,h2]
noncomputable def NT:Sp:=λvs H Q _=>∃x n p,vs=[x]/\Is H x (bN n p)/\j0 n p/\∀H',Same H H'->Q (.bl true) H'
theorem VI(T:aP K mg t):FnOk P w K mg base aM 5 t.zL t.w9 ["value"] NT:=by
 refine T.K0.ok QB (λvs H Q E h=>?_) (λcdv A outer s H vs Q E hr h=>?_)
 ·obtain⟨x,n,p,rfl,_⟩:=h;rfl
 ·obtain⟨x,n,p,rfl,hx,ok,q⟩:=h
  refine⟨_,(aE (bF (PW.pt (gW (dF (bW (bC iK (by rfl) T.hZ iL (aA (pv 0) (aA (hX (v:=.ty "tuple") rfl T.iX i9 rfl) pa_nil))))) (gU (aZ (iW hr.units) (bC (cK K) (by rfl) T.cJ cL (aA (pv 0) pa_nil)) pe_int (bD _))))) (aC (aI pe_bl)) bE)
   (aC (aI (lF (aG (FJ T) (hr.mono (by decide)) rfl T.GO T.AY.kp T.JM .nil aH (aA (aU (aV K) (pv 0) pe_int (λ_ _=>rfl)) pa_nil)) (jK (aG (FI T) (hr.mono (by decide)) rfl T.GN T.AX.kp T.JL .nil aH (aA (aU (aV K) (pv 0) pe_int (λ_ _=>rfl)) pa_nil))))))),?_⟩
  obtain⟨a,o,rfl,e,io⟩:=kJ hx;have hx':Is H (.ref a) (.tuple [aX n p.1,.int p.2]):=hx;clear hx;walk_at"rd";refine bY rfl ?_;walk_at"rd";refine⟨_,_,rfl,io,ok.ord.okd,λH1 s1=>?_⟩;have e1:=s1 _ _ e;rw[ok.ord.yes];walk_at"rd";refine⟨_,_,rfl,.int p.2,?_⟩;rw[C6 ok.lo ok.hi];exact q H1 s1
theorem J3:∀m:Nat,(replicate m true).all id=true
 |0=>rfl
 |m+1=>by rw[replicate_succ,all_cons,J3 m];rfl
theorem kH{H:Hp}{ys:List V}{n:Nat}{sv:List aY}{i:Nat}{x:V}(h:IsAll H ys (sv.map (bN n)))(e:ys[i]? =some x):∃p,sv[i]? =some p/\p∈sv/\Is H x (bN n p):=by
 obtain⟨d,ed,id⟩:=h.get' e;rw[ae4]at ed
 cases hpi:sv[i]? with
 |none=>rw[hpi]at ed;cases ed
 |some p=>rw[hpi]at ed;cases ed;exact⟨p,rfl,af3 hpi,id⟩
noncomputable def NL:Sp:=λvs H Q _=>∃(l:Addr)(xs:List V)(n:Nat)(sv:List aY),vs=[.ref l]/\H l=some (.lst xs)/\IsAll H xs (sv.map (bN n))/\1<=sv.length/\sv.length<=3/\(∀p∈sv,j0 n p)/\∀H',Same H H'->Q (.bl true) H'
theorem VF(T:aP K mg t):FnOk P w K mg base aM 6 t.zI t.w4 ["value"] NL:=by
 refine T.KW.ok sc_is_several (λvs H Q E h=>?_) (λcdv A outer s H vs Q E hr h=>?_)
 ·obtain⟨l,xs,n,sv,rfl,_⟩:=h;rfl
 ·obtain⟨l,xs,n,sv,rfl,el,hxs,l1,l3,ok,q⟩:=h
  refine⟨_,(aE (bF (PW.pt (gW (dF (bW (bC iK (by rfl) T.hZ iL (aA (pv 0) (aA (hX (v:=.ty "list") rfl T.kI kP rfl) pa_nil))))) (gU (dF (TR lH lH pe_int (bC (cK K) (by rfl) T.cJ cL (aA (pv 0) pa_nil)) (nW rfl T.acH)))))) (aC (aI pe_bl)) bE)
   (aE (bF (dF (bW (bC (lW K) (by rfl) T.lN mF (aA (cQ rfl ⟨aeW,aeW,aeW,aeW⟩ (M:=["part"]) (.own .nil) (cB rfl) rfl (by decide +kernel) (dZ K (pv 0)) (λC fp s1 H1=>⟨aN (i:=0) (show(["part"]:List Str).Nodup by decide +kernel) rfl (afM rfl),dM,(aG (VI T) (hr.mono (by decide)) rfl T.XY T.K0.kp T.adI .nil aH (aA (pv 0) pa_nil))⟩)) pa_nil)))) (aC (aI pe_bl)) bE)
   (aE (hV (i:=1) sc_is_several.nd rfl rfl rfl rfl ⟨aeW,aeW,aeW,aeW⟩ (M:=["order","step"]) (.own (.own .nil)) (pA (i5 rfl (i5 rfl o9))) rfl (by decide +kernel) (dZ K (pv 0)) (λC fp s1 H1=>⟨gF K (n:=2) rfl (cF (aN (i:=0) (show(["order","step"]:List Str).Nodup by decide +kernel) rfl (afM rfl)) (cF (aN (i:=1) (show(["order","step"]:List Str).Nodup by decide +kernel) rfl (afM rfl)) gA)),dM,(aU (aV K) (pv 0) pe_int (λ_ _=>rfl))⟩))
   (aC (aI (eW (eC hr.units) (bC (ZT K) (by rfl) T.GE IZ (aA (pv 1) pa_nil)) (bC (ZU K) (by rfl) T.uY yJ (aA (pv 1) pa_nil)) (bD _))))))),?_⟩
  have hI:Is H (.ref l) (.list (sv.map (bN n))):=.lst (Rd.of el) hxs;have hl:xs.length=sv.length:=by rw[hxs.length,length_map]
  walk_at"rd";refine iF (decide_eq_true (by lia)) ?_;walk_at"rd";refine bY (by rw[decide_eq_true (by lia)];rfl) ?_;walk_at"rd";refine⟨l,rfl,⟨xs,SqL.of el⟩,?_⟩;refine gE (K:=K) (xs:=xs) (bI (by lia)) (λi zs H'=>Same H H'/\zs=(replicate i true).map V.bl) ⟨Same.refl _,rfl⟩ (by rintro i zs H' ⟨_,rfl⟩;simp) (λi zs H' _ h=>SqL.of (h.1 _ _ el)) ?_ ?_
  ·rintro i x zs H1 hx ⟨s1,rfl⟩;obtain⟨p,hp,hm,ip⟩:=kH hxs hx;walk_at"rd";refine⟨_,n,p,rfl,ip.same s1,ok p hm,λH2 s2=>⟨s1.trans s2,?_⟩⟩;rw[List.replicate_succ',map_append];rfl
  rintro zs H1 ⟨s1,rfl⟩ pa hpa;have s2:=s1.trans (Same.upd (o:=.lst ((replicate xs.length true).map V.bl)) hpa);walk_at"rd";refine kB aB ?_;rw[J3];generalize upd H1 pa (.lst ((replicate xs.length true).map V.bl))=H2 at s2;walk_at"rd";refine⟨l,rfl,⟨xs,SqL.of (s2 _ _ el)⟩,?_⟩;refine gE (K:=K) (xs:=xs) (bI (by lia)) (λi zs H'=>H'=H2/\zs=(replicate i (n:Int)).map V.int) ⟨rfl,rfl⟩ (by rintro i zs H' ⟨_,rfl⟩;simp) (λi zs H' _ h=>by rw[h.1];exact SqL.of (s2 _ _ el)) ?_ ?_
  ·rintro i x zs H3 hx ⟨rfl,rfl⟩;obtain⟨p,hp,hm,ip⟩:=kH (hxs.same s2) hx;obtain⟨a,o,rfl,e,io⟩:=kJ ip;obtain⟨oa,ob,os,rfl,ea,eb,_⟩:=eH io;walk_at"rd";refine fY e rfl ?_;walk_at"rd";refine⟨rfl,?_⟩;rw[List.replicate_succ',map_append];rfl
  rintro zs H3 ⟨rfl,rfl⟩ pb hpb;have s3:=s2.trans (Same.upd (o:=.lst ((replicate xs.length (n:Int)).map V.int)) hpb);walk_at"rd";refine R1 aB (by rw[length_replicate];lia) λM hM _=>?_;rw[List.eq_of_mem_replicate hM];walk_at"rd";refine R4 aB (by rw[length_replicate];lia) λM2 hM2 _=>?_;rw[List.eq_of_mem_replicate hM2];walk_at"rd";rw[beq_self_eq_true];exact q _ s3
noncomputable def NX:Sp:=λvs H Q _=>∃(l:Addr)(xs:List V)(n:Nat)(sv:List aY),vs=[.ref l]/\H l=some (.lst xs)/\IsAll H xs (sv.map (bN n))/\1<=sv.length/\sv.length<=3/\(∀p∈sv,j0 n p)/\∀H',Same H H'->Q .non H'
theorem VB(T:aP K mg t):FnOk P w K mg base aM 7 t.y8 t.wQ ["value"] NX:=by
 refine T.KR.ok P1 (λvs H Q E h=>?_) (λcdv A outer s H vs Q E hr h=>?_)
 ·obtain⟨l,xs,n,sv,rfl,_⟩:=h;rfl
 ·obtain⟨l,xs,n,sv,rfl,el,hxs,l1,l3,ok,q⟩:=h;refine⟨_,(aC (bF (dF (bW (aG (VF T) (hr.mono (by decide)) rfl T.XV T.KW.kp T.adF .nil aH (aA (pv 0) pa_nil)))) (aC kF) bE)),?_⟩;walk_at"rd";refine⟨l,xs,n,sv,rfl,el,hxs,l1,l3,ok,λH1 s1=>?_⟩;walk_at"rd";exact q H1 s1
noncomputable def OW:Sp:=λvs H Q _=>∃(l:Addr)(xs:List V)(n:Nat)(sv:List aY),vs=[.ref l]/\H l=some (.lst xs)/\IsAll H xs (sv.map (bN n))/\1<=sv.length/\Q (.int (n:Nat)) H
theorem VR(T:aP K mg t):FnOk P w K mg base aM 1 t.zW t.xK ["several"] OW:=by
 refine T.LE.ok QG (λvs H Q E h=>?_) (λcdv A outer s H vs Q E hr h=>?_)
 ·obtain⟨l,xs,n,sv,rfl,_⟩:=h;rfl
 ·obtain⟨l,xs,n,sv,rfl,el,hxs,l1,q⟩:=h;refine⟨_,(aC (aI (aU (aV K) (aU (aV K) (aU (aV K) (pv 0) pe_int (λ_ _=>rfl)) pe_int (λ_ _=>rfl)) pe_int (λ_ _=>rfl)))),?_⟩;have hl:xs.length=sv.length:=by rw[hxs.length,length_map]
  have h0:xs[0]? =some xs[0]:=aeY (by lia);obtain⟨p,hp,hm,ip⟩:=kH hxs h0;obtain⟨a,o,ea,e,io⟩:=kJ ip;obtain⟨oa,ob,os,rfl,eo,eb,_⟩:=eH io;rw[ea]at h0;walk_at"rd";refine dX el (atI_of (i:=0) rfl h0) ?_;walk_at"rd";exact q
theorem JZ{vals:List Int}{i:Nat}(hi:i<vals.length):c5 (vals.map V.int) ((0:Int)+(i:Int))=some (.int (vals.getD i 0)):=by
 have:=int_at (ns:=vals) (k:=(0:Int)+i) (by lia) (by lia)
 rwa [show((0:Int)+(i:Int)).toNat=i by lia]at this
noncomputable def OC:Sp:=λvs H Q _=>∃(a:Addr)(st:Int)(vals:List Int),vs=[.int st,.ref a]/\(H a=some (.lst (vals.map V.int))\/H a=some (.tup (vals.map V.int)))/\vals.length<=8/\∀o H',Same H H'->Is H' (.ref o) (aX vals.length (bS st vals))->Q (.ref o) H'
theorem VZ(T:aP K mg t):FnOk P w K mg base aM 1 t.AE t.xZ ["_law_step","_law_values"] OC:=by
 refine T.LM.ok sc__law_told (λvs H Q E h=>?_) (λcdv A outer s H vs Q E hr h=>?_)
 ·obtain⟨a,st,vals,rfl,_⟩:=h;rfl
 ·obtain⟨a,st,vals,rfl,ea,n8,q⟩:=h
  refine⟨_,(aE (aT (i:=2) sc__law_told.nd rfl (afM rfl) (cN pa_nil))
   (aE (cE afP rfl (bU rfl T.bP (aA (bC (cK K) (by rfl) T.cJ cL (aA (pv 1) pa_nil)) pa_nil)) (aN (i:=3) sc__law_told.nd rfl (Or.inr rfl)) (aC (cI (eZ K afX PySem.F.slot_list_extend PySem.F.type_list_extend oM (pv 2) (aA (cQ rfl ⟨aeW,aeW,(.inl rfl),(.inl rfl),(.inl rfl),aeW⟩ (M:=["_law_other","_law_one","_law_step","_law_values"]) (.own (.free 3 rfl rfl (.free 0 rfl rfl (.free 1 rfl rfl .nil)))) (cB rfl) rfl (by decide +kernel) (bU rfl T.bP (aA (bC (cK K) (by rfl) T.cJ cL (aA (pv 1) pa_nil)) pa_nil)) (λC fp s1 H1=>⟨aN (i:=0) (show(["_law_other","_law_one","_law_step","_law_values"]:List Str).Nodup by decide +kernel) rfl (afM rfl),eV (aZ (lH) (bB dH (aU (aV K) (pv 3) (pv 1) (λ_ _=>rfl)) (pv 2)) (aU (aV K) (pv 3) (pv 0) (λ_ _=>rfl)) (bD _)),(bH (aA (pv 1) (aA (pv 0) pa_nil)))⟩)) pa_nil)))))
   (aC (aI (bH (aA (bC (cK K) (by rfl) T.cJ cL (aA (pv 1) pa_nil)) (aA (jL (o5 K) (by rfl) T.iX i9 (aA (pv 2) pa_nil)) pa_nil))))))),?_⟩
  have eS:∀H',Same H H'->H' a=some (.lst (vals.map V.int))\/H' a=some (.tup (vals.map V.int)):=λH' s=>ea.imp (s _ _) (s _ _);walk_at"rd";refine⟨ae2 _,λl hl=>?_⟩;have s0:=Same.upd (o:=.lst []) hl;walk_at"rd";refine tX (eS _ s0) ?_;rw[length_map];refine⟨_,rfl,by lia,by lia,?_⟩;rw[ae6];refine dQ (λi σ H'=>(∃v3,σ=[some (.int st),some (.ref a),some (.ref l),v3])/\Same H H'/\∃zs,H' l=some (.lst zs)/\IsAll H' zs ((eQ st vals i).map aJ)) ⟨⟨_,rfl⟩,s0,[],aB,.nil⟩ ?_ ?_
  ·rintro i σ H1 hi ⟨⟨v3,rfl⟩,s1,zs,hz,iz⟩;walk_at"rd";refine⟨eO hz,?_⟩;walk_at"rd";refine tX (eS _ s1) ?_;rw[length_map];refine⟨_,rfl,by lia,by lia,?_⟩;rw[ae6]
   refine fN (bI (by lia)) (λj ys H'=>Same H1 H'/\IsAll H' ys ((eP st vals i j).map aJ)) ⟨Same.refl _,.nil⟩ (by
    rintro j ys H' ⟨_,h⟩;rw[h.length,length_map]
    exact hJ _ _ _ _) ?_ ?_
   ·rintro j ys H2 hj ⟨s2,iy⟩;have eS2:=eS _ (s1.trans s2);rw[j6,map_append];walk_at"rd";refine D6 eS2 (JZ hi) ?_;walk_at"rd";refine D6 eS2 (JZ hj) ?_;walk_at"rd";refine bK (λg=>?_) (λg=>?_)
    ·have g':vals.getD j 0-vals.getD i 0>=st:=by
      have:=of_decide_eq_true g;lia
     walk_at"rd";refine⟨cP,λp hp=>?_⟩;have s3:=Same.upd (o:=.tup [V.int ((0:Int)+i),V.int ((0:Int)+j)]) hp;have e1:cM st vals i j=[((i:Int),(j:Int))]:=by unfold cM;rw[if_pos g']
     rw[e1];refine⟨s2.trans s3,(iy.same s3).append (.cons ?_ .nil)⟩;have:=aB (H:=H2) (a:=p) (o:=.tup [V.int ((0:Int)+i),V.int ((0:Int)+j)]);rw[agI,agI]at this ⊢;exact .tup this (.cons (.int _) (.cons (.int _) .nil))
    ·have g':¬vals.getD j 0-vals.getD i 0>=st:=by
      have:=of_decide_eq_false g;lia
     have e1:cM st vals i j=[]:=by unfold cM;rw[if_neg g']
     rw[e1,map_nil,append_nil];walk_at"rd";exact⟨s2,iy⟩
   ·rintro ys H2 ⟨s2,iy⟩ b hb;have s3:=s2.trans (Same.upd (o:=.lst ys) hb)
    have lz:zs.length+ys.length<=1000:=by
     have a1:=iz.length;have a2:=iy.length;rw[length_map]at a1 a2;have a3:=nA st vals i;have a4:=hJ st vals i vals.length;have a5:i*vals.length<=8*8:=ahO (by lia) n8;lia
    walk_at"rd";refine nN (s3 _ _ hz) aB (bI lz) ?_;walk_at"rd";refine⟨⟨_,rfl⟩,λc u e=>?_,_,aB,?_⟩
    ·have ec:c≠l:=λz=>by rw[z,hl]at e;cases e
     rw[aD ec];exact s3 _ _ (s1 _ _ e)
    ·rw[j7,map_append]
     have km:∀(c:Addr)(xs:List V),upd H2 b (.lst ys) c=some (.tup xs)->upd (upd H2 b (.lst ys)) l (.lst (zs++ys)) c=some (.tup xs):=λc xs e=>by
      have:c≠l:=bJ e (s3 _ _ hz) (by intro z;cases z);rw[aD this];exact e
     exact IsAll.append ((iz.same s3).tmono km (gX _)) ((iy.same (Same.upd hb)).tmono km (gX _))
  ·rintro σ H1 ⟨⟨v3,rfl⟩,s1,zs,hz,iz⟩;walk_at"rd";refine tX (eS _ s1) ?_;rw[length_map];walk_at"rd";intro tp htp;have s2:=Same.upd (o:=.tup zs) htp;walk_at"rd";refine⟨by show 2<=sizeLine;decide,λo ho=>?_⟩;have nto:tp≠o:=aW aB ho;have s3:=Same.upd (o:=.tup [V.int (vals.length:Nat),V.ref tp]) ho;exact q _ _ ((s1.trans s2).trans s3) (.tup aB (.cons (.int _) (.cons (.tup (by rw[aD nto,aB]) ((iz.same s2).same s3)) .nil)))
theorem HP{H:Hp}{v:V}{d:PyData}(h:Is H v d):∀{vs:List V}{ds:List PyData}(j:Nat),IsAll H vs ds->IsAll H (vs.set j v) (ds.set j d)
 |_,_,_,.nil=>.nil
 |_,_,0,.cons _ t=>.cons h t
 |_,_,j+1,.cons a t=>.cons a (HP h j t)
theorem HJ{n:Nat}(h:1<=n):e7 n (-1)=some (n-1):=by
 unfold e7;rw[if_neg (by decide),if_pos (by lia),show(-1+(n:Int)).toNat=n-1 by lia]
theorem J0{xs:List V}{v:V}(h:1<=xs.length)(e:xs[xs.length-1]? =some v):c5 xs (-1)=some v:=by
 unfold c5;rw[HJ h];exact e
noncomputable def mJ(n:Nat)(p:aY):Prop:=∃(s0:Int)(line:List Int),1<=s0/\line.length=n/\p.1=bS s0 line
noncomputable def NM(K:PySem.W.Frag):Sp:=λvs H Q _=>∃a ns tw ts,vs=[.ref a,.ref tw]/\Scr K H a ns/\H tw=some (.lst ts)/\ts.length<=25/\
 ∀(r l v:Addr)(xs:List V)(n:Nat)(sv:List aY)(vals:List Int)(ts':List V)(H':Hp),SameT tw H H'->H' tw=some (.lst ts')->ts'.length<=ts.length+30->l≠tw->v≠tw->l≠v->H' r=some (.tup [.ref l,.ref v])->H' l=some (.lst xs)->IsAll H' xs (sv.map (bN n))->1<=sv.length->sv.length<=3->(∀p∈sv,j0 n p/\mJ n p)->1<=n->n<=6->H' v=some (.lst (vals.map V.int))->vals.length=n->(∀x∈vals,0<=x/\x<=19)->Q (.ref r) H'
theorem V4(T:aP K mg t):FnOk P w K mg base aM 5 t.AF t.x5 ["_law_script","_law_town"] (NM K):=by
 refine T.LN.ok sc__law_several (λvs H Q E h=>?_) (λcdv A outer s H vs Q E hr h=>?_)
 ·obtain⟨a,ns,tw,ts,rfl,_⟩:=h;rfl
 ·obtain⟨a,ns,tw,ts,rfl,hs,ht,hl,q⟩:=h
  refine⟨_,(aE (aT (i:=2) sc__law_several.nd rfl (afM rfl) (aG (fK T) (hr.mono (by decide)) rfl T.fM T.fE.kp T.fT .nil aH (aA (pv 0) (aA (pv 1) (aA pe_int pa_nil)))))
   (aE (aT (i:=3) sc__law_several.nd rfl (afM rfl) (bB dH pe_int (aG (fK T) (hr.mono (by decide)) rfl T.fM T.fE.kp T.fT .nil aH (aA (pv 0) (aA (pv 1) (aA pe_int pa_nil))))))
   (aE (aT (i:=4) sc__law_several.nd rfl (Or.inr rfl) (aG (FT T) (hr.mono (by decide)) rfl T.GZ T.BA.kp T.JW .nil aH (aA (pv 0) (aA (pv 1) (aA (cN (aA pe_int (aA pe_int (aA pe_int (aA pe_int pa_nil))))) pa_nil)))))
   (aE (aT (i:=5) sc__law_several.nd rfl (afM rfl) (bB dH pe_int (aG (fK T) (hr.mono (by decide)) rfl T.fM T.fE.kp T.fT .nil aH (aA (pv 0) (aA (pv 1) (aA pe_int pa_nil))))))
   (aE (hV (i:=7) sc__law_several.nd rfl rfl rfl rfl ⟨aeW,aeW,aeW,(.inl rfl),(.inl rfl),(.inl rfl),aeW⟩ (M:=["_law_k","_law_script","_law_town","_law_wide"]) (.own (.free 0 rfl rfl (.free 1 rfl rfl (.free 4 rfl rfl .nil)))) (cB rfl) rfl (by decide +kernel) (bU rfl T.bP (aA (pv 5) pa_nil)) (λC fp s1 H1=>⟨aN (i:=0) (show(["_law_k","_law_script","_law_town","_law_wide"]:List Str).Nodup by decide +kernel) rfl (afM rfl),dM,(aG (fK T) (hr.mono (by decide)) rfl T.fM T.fE.kp T.fT .nil aH (aA (pv 1) (aA (pv 2) (aA (pv 3) pa_nil))))⟩))
   (aE (hV (i:=8) sc__law_several.nd rfl rfl rfl rfl ⟨aeW,aeW,aeW,(.inl rfl),(.inl rfl),(.inl rfl),aeW⟩ (M:=["_law_k","_law_script","_law_town","_law_wide"]) (.own (.free 0 rfl rfl (.free 1 rfl rfl (.free 4 rfl rfl .nil)))) (cB rfl) rfl (by decide +kernel) (bU rfl T.bP (aA (pv 5) pa_nil)) (λC fp s1 H1=>⟨aN (i:=0) (show(["_law_k","_law_script","_law_town","_law_wide"]:List Str).Nodup by decide +kernel) rfl (afM rfl),dM,(aG (fK T) (hr.mono (by decide)) rfl T.fM T.fE.kp T.fT .nil aH (aA (pv 1) (aA (pv 2) (aA (pv 3) pa_nil))))⟩))
   (aE (aT (i:=9) sc__law_several.nd rfl (afM rfl) (cN pa_nil))
   (aE (cE afP rfl (bU rfl T.bP (aA (pv 3) pa_nil)) (aN (i:=6) sc__law_several.nd rfl (afM rfl)) (aE (aT (i:=10) sc__law_several.nd rfl (afM rfl) (bB dH pe_int (aG (fK T) (hr.mono (by decide)) rfl T.fM T.fE.kp T.fT .nil aH (aA (pv 0) (aA (pv 1) (aA pe_int pa_nil))))))
   (aC (cI (eZ K afX agE agF iA (pv 9) (aA (bH (aA (aG (VZ T) (hr.mono (by decide)) rfl T.YD T.LM.kp T.adY .nil aH (aA (pv 10) (aA (E4 (PW.pt (ES (aZ (eC hr.units) (pv 2) pe_int (bD _)) (ER (aZ (jO) (pv 6) pe_int (bD _))))) (pv 8) (pv 7)) pa_nil))) (aA (pv 10) pa_nil))) pa_nil))))))
   (aE (bF (aZ (eC hr.units) (pv 2) pe_int (bD _)) (aC (kG (bH (aA (aU (aV K) (aU (aV K) (pv 9) (uM qI pe_int) (λ_ _=>rfl)) pe_int (λ_ _=>rfl)) (aA (bB dH pe_int (aG (fK T) (hr.mono (by decide)) rfl T.fM T.fE.kp T.fT .nil aH (aA (pv 0) (aA (pv 1) (aA pe_int pa_nil))))) pa_nil))) (nV (pv 9) (uM qI pe_int) nF (λ_=>rfl)))) bE)
   (aC (aI (bH (aA (pv 9) (aA (pv 7) pa_nil)))))))))))))),?_⟩
  walk_at"rd";refine⟨a,ns,tw,ts,5,rfl,hs,ht,by lia,by decide,λwy H1 ts1 s1 ht1 hl1 wy0 wy1=>?_⟩;walk_at"rd";refine⟨a,ns,tw,ts1,3,rfl,hs.t ht s1,ht1,by lia,by decide,λr2 H2 ts2 s2 ht2 hl2 r20 r21=>?_⟩;have s12:=s1.trans s2;obtain⟨tm,htm⟩:∃tm:Nat,1+r2=(tm:Int):=⟨(1+r2).toNat,by lia⟩
  walk_at"rd";rw[htm];refine⟨by show 4<=sizeLine;decide,λpl hpl=>?_⟩;have ntl:pl≠tw:=λz=>by rw[z,ht2]at hpl;cases hpl
  have s3:SameT tw H2 (upd H2 pl (.lst [V.int 4,V.int 8,V.int 14,V.int 20])):=SameT.of hpl;walk_at"rd";refine⟨a,ns,tw,ts2,pl,_,rfl,hs.t ht (s12.trans s3),by rw[aD (afY ntl)];exact ht2,by lia,aB,ntl,by show 0<4;decide,λv H3 ts3 s4 ht3 hl3 hv=>?_⟩
  obtain⟨wd,rfl,wd4,wd20⟩:∃wd:Int,v=.int wd/\4<=wd/\wd<=20:=by
   simp only[mem_cons,not_mem_nil,or_false]at hv;rcases hv with rfl|rfl|rfl|rfl <;> exact⟨_,rfl,by decide,by decide⟩
  have s13:=(s12.trans s3).trans s4;walk_at"rd";refine⟨a,ns,tw,ts3,6,rfl,hs.t ht s13,ht3,by lia,by decide,λr4 H4 ts4 s5 ht4 hl4 r40 r41=>?_⟩;have s14:=s13.trans s5;obtain⟨n,hn⟩:∃n:Nat,1+r4=(n:Int):=⟨(1+r4).toNat,by lia⟩
  have n1:1<=n:=by lia
  have n6:n<=6:=by lia
  clear s1 s2 s12 s3 s4 s13 s5 hpl;walk_at"rd";rw[hn];refine⟨_,rfl,by lia,by lia,?_⟩;rw[ae6]
  refine fN (bI (by lia)) (λi ys H'=>SameT tw H H'/\(∃ts',H' tw=some (.lst ts')/\ts'.length=ts.length+4+i)/\∃line:List Int,ys=line.map V.int/\line.length=i/\∀v∈line,0<=v/\v<=19)
   ⟨s14,⟨ts4,ht4,by lia⟩,[],rfl,rfl,λ_ h=>nomatch h⟩ (by rintro i ys H' ⟨_,_,line,rfl,rfl,_⟩;simp) ?_ ?_
  ·rintro i ys H5 hi ⟨s6,⟨ts5,ht5,hl5⟩,line,rfl,hli,hlv⟩;walk_at"rd";refine⟨a,ns,tw,ts5,wd,rfl,hs.t ht s6,ht5,by lia,by lia,λr H6 ts6 s7 ht6 hl6 r0 r1'=>?_⟩;refine⟨s6.trans s7,⟨ts6,ht6,by lia⟩,line++[r],by rw[map_append];rfl,by rw[length_append,hli];rfl,λv hv=>?_⟩;rcases mem_append.mp hv with h|h
   ·exact hlv v h
   ·rcases mem_singleton.mp h with rfl;lia
  rintro ys H5 ⟨s6,⟨ts5,ht5,hl5⟩,vals,rfl,hln,hvv⟩ lv hlv;have nv:lv≠tw:=λz=>by rw[z,ht5]at hlv;cases hlv
  have sB:SameT tw H (upd H5 lv (.lst (vals.map V.int))):=s6.trans (SameT.of hlv);have htB:upd H5 lv (.lst (vals.map V.int)) tw=some (.lst ts5):=by rw[aD (afY nv)];exact ht5
  have evB:upd H5 lv (.lst (vals.map V.int)) lv=some (.lst (vals.map V.int)):=aB;generalize upd H5 lv (.lst (vals.map V.int))=HB at sB htB evB;clear s6 hlv ht5 s14 ht4;walk_at"rd";refine⟨_,rfl,by lia,by lia,?_⟩;rw[ae6]
  refine fN (bI (by lia)) (λi ys H'=>SameT tw HB H'/\(∃ts',H' tw=some (.lst ts')/\ts'.length=ts5.length+i)/\∃line:List Int,ys=line.map V.int/\line.length=i)
   ⟨SameT.refl _ _,⟨ts5,htB,by lia⟩,[],rfl,rfl⟩ (by rintro i ys H' ⟨_,_,line,rfl,rfl⟩;simp) ?_ ?_
  ·rintro i ys H6 hi ⟨s6,⟨ts6,ht6,hl6⟩,line,rfl,hli⟩;walk_at"rd";refine⟨a,ns,tw,ts6,wd,rfl,(hs.t ht sB).t htB s6,ht6,by lia,by lia,λr H7 ts7 s7 ht7 hl7 r0 r1'=>?_⟩;exact⟨s6.trans s7,⟨ts7,ht7,by lia⟩,line++[r],by rw[map_append];rfl,by rw[length_append,hli];rfl⟩
  rintro ys H6 ⟨s6,⟨ts6,ht6,hl6⟩,oth,rfl,hlo⟩ lo hlo';have no:lo≠tw:=λz=>by rw[z,ht6]at hlo';cases hlo'
  have ev6:=s6 _ _ evB nv;have nvo:lv≠lo:=aW ev6 hlo';have sC:SameT tw H (upd H6 lo (.lst (oth.map V.int))):=(sB.trans s6).trans (SameT.of hlo');have htC:upd H6 lo (.lst (oth.map V.int)) tw=some (.lst ts6):=by rw[aD (afY no)];exact ht6
  have evC:upd H6 lo (.lst (oth.map V.int)) lv=some (.lst (vals.map V.int)):=by rw[aD nvo];exact ev6
  have eoC:upd H6 lo (.lst (oth.map V.int)) lo=some (.lst (oth.map V.int)):=aB;generalize upd H6 lo (.lst (oth.map V.int))=HC at sC htC evC eoC;clear s6 hlo' ht6 sB htB evB ev6;walk_at"rd";refine⟨ae2 _,λlm hlm=>?_⟩;have nm:lm≠tw:=λz=>by rw[z,htC]at hlm;cases hlm
  have nvm:lv≠lm:=aW evC hlm;have nom:lo≠lm:=aW eoC hlm
  have nmH:H lm=none:=by
   cases e:H lm with
   |none=>rfl
   |some u=>rw[sC _ _ e nm]at hlm;cases hlm
  walk_at"rd";refine⟨_,rfl,by lia,by lia,?_⟩;rw[ae6]
  refine dQ (λi σ H'=>(∃v6 v10,σ=[some (.ref a),some (.ref tw),some (.int wy),some (.int tm),some (.int wd),some (.int n),v6,some (.ref lv),some (.ref lo),some (.ref lm),v10])/\SameT tw H H'/\(∃ts',H' tw=some (.lst ts')/\ts'.length<=ts.length+16+i)/\H' lv=some (.lst (vals.map V.int))/\H' lo=some (.lst (oth.map V.int))/\
   ∃xs sv,H' lm=some (.lst xs)/\sv.length=i/\(∀p∈sv,j0 n p/\mJ n p)/\IsAll H' xs (sv.map (bN n)))
   ⟨⟨_,_,rfl⟩,sC.trans (SameT.of hlm),⟨ts6,by rw[aD (afY nm)];exact htC,by lia⟩,by rw[aD nvm];exact evC,by rw[aD nom];exact eoC,[],[],aB,rfl,(λ_ h=>nomatch h),.nil⟩ ?_ ?_
  ·rintro i σ H1 hi ⟨⟨v6,v10,rfl⟩,s1,⟨ts1',ht1',hl1'⟩,ev1,eo1,zs,sv,ez1,lsv,okv,iz1⟩;walk_at"rd";refine⟨a,ns,tw,ts1',7,rfl,hs.t ht s1,ht1',by lia,by decide,λr H2 ts2 s2 ht2 hl2 r0 r1=>?_⟩;have ev2:=s2 _ _ ev1 nv;have eo2:=s2 _ _ eo1 no;have ez2:=s2 _ _ ez1 nm;have iz2:IsAll H2 zs (sv.map (bN n)):=iz1.tmono (λc us e=>s2 _ _ e (bJ e ht1' (by intro z;cases z))) (eX _ _);have lz:zs.length<=3:=by rw[iz1.length,length_map];lia
   walk_at"rd";refine⟨eO ez2,?_⟩;walk_at"rd";refine bK (λg=>?_) (λg=>?_)
   ·walk_at"rd";refine bK (λg2=>?_) (λg2=>?_)
    ·walk_at"rd";refine⟨lo,_,oth,rfl,.inl eo2,by lia,λo H3 s3 io=>?_⟩;have po:=mZ (st:=1+r) (by lia) (vals:=oth) (by lia) (by lia);rw[hlo]at io po;have tq:mJ n (bS (1+r) oth,1+r):=⟨1+r,oth,by lia,hlo,rfl⟩
     generalize bS (1+r) oth=qs at io po tq;walk_at"rd";refine⟨by show 2<=sizeLine;decide,λp hp=>?_⟩;have s4:=s3.trans (Same.upd (o:=.tup [V.ref o,V.int (1+r)]) hp);have ip:Is (upd H3 p (.tup [V.ref o,V.int (1+r)])) (.ref p) (bN n (qs,1+r)):=.tup aB (.cons (io.same (Same.upd hp)) (.cons (.int _) .nil));generalize upd H3 p (.tup [V.ref o,V.int (1+r)])=H4 at s4 ip;clear hp;walk_at"rd";refine fZ (s4 _ _ ez2) (dU (by lia)) ?_;walk_at"rd"
     have km:∀(c:Addr)(us:List V),H4 c=some (.tup us)->upd H4 lm (.lst (zs++[V.ref p])) c=some (.tup us):=λc us e=>by
      rw[aD (bJ e (s4 _ _ ez2) (by intro z;cases z))];exact e
     refine⟨⟨_,_,rfl⟩,λc u e g=>?_,⟨ts2,by rw[aD (afY nm)];exact s4 _ _ ht2,by lia⟩,by rw[aD nvm];exact s4 _ _ ev2,by rw[aD nom];exact s4 _ _ eo2,_,sv++[(qs,1+r)],aB,by rw[length_append,lsv];rfl,λx hx=>?_,?_⟩
     ·have ec:c≠lm:=λz=>by rw[z,nmH]at e;cases e
      rw[aD ec];exact s4 _ _ (s2 _ _ (s1 _ _ e g) g)
     ·rcases mem_append.mp hx with h|h
      ·exact okv x h
      ·rcases mem_singleton.mp h with rfl;exact⟨⟨po,by show 1<=1+r;lia,by show 1+r<=999;lia⟩,tq⟩
     ·rw[map_append]
      exact((iz2.same s4).tmono km (eX _ _)).append (.cons (ip.tmono km (by
       have:=eX n [(qs,1+r)];rw[map_cons,bA,afB]at this
       exact this.1)) .nil)
    ·walk_at"rd";refine⟨lv,_,vals,rfl,.inl ev2,by lia,λo H3 s3 io=>?_⟩;have po:=mZ (st:=1+r) (by lia) (vals:=vals) (by lia) (by lia);rw[hln]at io po;have tq:mJ n (bS (1+r) vals,1+r):=⟨1+r,vals,by lia,hln,rfl⟩
     generalize bS (1+r) vals=qs at io po tq;walk_at"rd";refine⟨by show 2<=sizeLine;decide,λp hp=>?_⟩;have s4:=s3.trans (Same.upd (o:=.tup [V.ref o,V.int (1+r)]) hp);have ip:Is (upd H3 p (.tup [V.ref o,V.int (1+r)])) (.ref p) (bN n (qs,1+r)):=.tup aB (.cons (io.same (Same.upd hp)) (.cons (.int _) .nil));generalize upd H3 p (.tup [V.ref o,V.int (1+r)])=H4 at s4 ip;clear hp;walk_at"rd";refine fZ (s4 _ _ ez2) (dU (by lia)) ?_;walk_at"rd"
     have km:∀(c:Addr)(us:List V),H4 c=some (.tup us)->upd H4 lm (.lst (zs++[V.ref p])) c=some (.tup us):=λc us e=>by
      rw[aD (bJ e (s4 _ _ ez2) (by intro z;cases z))];exact e
     refine⟨⟨_,_,rfl⟩,λc u e g=>?_,⟨ts2,by rw[aD (afY nm)];exact s4 _ _ ht2,by lia⟩,by rw[aD nvm];exact s4 _ _ ev2,by rw[aD nom];exact s4 _ _ eo2,_,sv++[(qs,1+r)],aB,by rw[length_append,lsv];rfl,λx hx=>?_,?_⟩
     ·have ec:c≠lm:=λz=>by rw[z,nmH]at e;cases e
      rw[aD ec];exact s4 _ _ (s2 _ _ (s1 _ _ e g) g)
     ·rcases mem_append.mp hx with h|h
      ·exact okv x h
      ·rcases mem_singleton.mp h with rfl;exact⟨⟨po,by show 1<=1+r;lia,by show 1+r<=999;lia⟩,tq⟩
     ·rw[map_append]
      exact((iz2.same s4).tmono km (eX _ _)).append (.cons (ip.tmono km (by
       have:=eX n [(qs,1+r)];rw[map_cons,bA,afB]at this
       exact this.1)) .nil)
   ·walk_at"rd";refine⟨lv,_,vals,rfl,.inl ev2,by lia,λo H3 s3 io=>?_⟩;have po:=mZ (st:=1+r) (by lia) (vals:=vals) (by lia) (by lia);rw[hln]at io po;have tq:mJ n (bS (1+r) vals,1+r):=⟨1+r,vals,by lia,hln,rfl⟩
    generalize bS (1+r) vals=qs at io po tq;walk_at"rd";refine⟨by show 2<=sizeLine;decide,λp hp=>?_⟩;have s4:=s3.trans (Same.upd (o:=.tup [V.ref o,V.int (1+r)]) hp);have ip:Is (upd H3 p (.tup [V.ref o,V.int (1+r)])) (.ref p) (bN n (qs,1+r)):=.tup aB (.cons (io.same (Same.upd hp)) (.cons (.int _) .nil));generalize upd H3 p (.tup [V.ref o,V.int (1+r)])=H4 at s4 ip;clear hp;walk_at"rd";refine fZ (s4 _ _ ez2) (dU (by lia)) ?_;walk_at"rd"
    have km:∀(c:Addr)(us:List V),H4 c=some (.tup us)->upd H4 lm (.lst (zs++[V.ref p])) c=some (.tup us):=λc us e=>by
     rw[aD (bJ e (s4 _ _ ez2) (by intro z;cases z))];exact e
    refine⟨⟨_,_,rfl⟩,λc u e g=>?_,⟨ts2,by rw[aD (afY nm)];exact s4 _ _ ht2,by lia⟩,by rw[aD nvm];exact s4 _ _ ev2,by rw[aD nom];exact s4 _ _ eo2,_,sv++[(qs,1+r)],aB,by rw[length_append,lsv];rfl,λx hx=>?_,?_⟩
    ·have ec:c≠lm:=λz=>by rw[z,nmH]at e;cases e
     rw[aD ec];exact s4 _ _ (s2 _ _ (s1 _ _ e g) g)
    ·rcases mem_append.mp hx with h|h
     ·exact okv x h
     ·rcases mem_singleton.mp h with rfl;exact⟨⟨po,by show 1<=1+r;lia,by show 1+r<=999;lia⟩,tq⟩
    ·rw[map_append]
     exact((iz2.same s4).tmono km (eX _ _)).append (.cons (ip.tmono km (by
      have:=eX n [(qs,1+r)];rw[map_cons,bA,afB]at this
      exact this.1)) .nil)
  rintro σ H1 ⟨⟨v6,v10,rfl⟩,s1,⟨ts1',ht1',hl1'⟩,ev1,eo1,zs,sv,ez1,lsv,okv,iz1⟩;have lz:zs.length=sv.length:=by rw[iz1.length,length_map]
  walk_at"rd";refine bK (λg=>?_) (λg=>?_)
  ·have h0:zs[zs.length-1]? =some zs[zs.length-1]:=aeY (by lia);obtain⟨p0,hp0,hm0,ip0⟩:=kH iz1 h0;obtain⟨pa,o0,epa,e0,io0⟩:=kJ ip0;rw[epa]at h0;walk_at"rd";refine⟨_,rfl,?_⟩;refine dX ez1 (J0 (by lia) h0) ?_;walk_at"rd";refine⟨a,ns,tw,ts1',7,rfl,hs.t ht s1,ht1',by lia,by decide,λr H2 ts2 s2 ht2 hl2 r0 r1=>?_⟩;have ev2:=s2 _ _ ev1 nv;have ez2:=s2 _ _ ez1 nm;have keep:∀c us,H1 c=some (.tup us)->H2 c=some (.tup us):=λc us e=>s2 _ _ e (bJ e ht1' (by intro z;cases z));have iz2:IsAll H2 zs (sv.map (bN n)):=iz1.tmono keep (eX _ _);have io2:=io0.tmono keep (lM _ _);walk_at"rd";refine⟨by show 2<=sizeLine;decide,λp hp=>?_⟩;have s4:=Same.upd (o:=.tup [o0,V.int (1+r)]) hp;have ip:Is (upd H2 p (.tup [o0,V.int (1+r)])) (.ref p) (bN n (p0.1,1+r)):=.tup aB (.cons (io2.same (Same.upd hp)) (.cons (.int _) .nil));generalize upd H2 p (.tup [o0,V.int (1+r)])=H4 at s4 ip;clear hp;walk_at"rd";refine⟨_,rfl,?_⟩;refine⟨lm,zs,-1,zs.length-1,rfl,rfl,s4 _ _ ez2,HJ (by lia),?_⟩
   have km:∀(c:Addr)(us:List V),H4 c=some (.tup us)->upd H4 lm (.lst (zs.set (zs.length-1) (V.ref p))) c=some (.tup us):=λc us e=>by
    rw[aD (bJ e (s4 _ _ ez2) (by intro z;cases z))];exact e
   have iN:IsAll (upd H4 lm (.lst (zs.set (zs.length-1) (V.ref p)))) (zs.set (zs.length-1) (V.ref p)) ((sv.set (zs.length-1) (p0.1,1+r)).map (bN n)):=by
    rw[List.map_set]
    exact HP (ip.tmono km (by
     have:=eX n [(p0.1,1+r)];rw[map_cons,bA,afB]at this
     exact this.1)) _ ((iz2.same s4).tmono km (eX _ _))
   have sN:SameT tw H (upd H4 lm (.lst (zs.set (zs.length-1) (V.ref p)))):=λc u e g=>by
    have ec:c≠lm:=λz=>by rw[z,nmH]at e;cases e
    rw[aD ec];exact s4 _ _ (s2 _ _ (s1 _ _ e g) g)
   have htN:upd H4 lm (.lst (zs.set (zs.length-1) (V.ref p))) tw=some (.lst ts2):=by rw[aD (afY nm)];exact s4 _ _ ht2
   have evN:upd H4 lm (.lst (zs.set (zs.length-1) (V.ref p))) lv=some (.lst (vals.map V.int)):=by rw[aD nvm];exact s4 _ _ ev2
   have ezN:upd H4 lm (.lst (zs.set (zs.length-1) (V.ref p))) lm=some (.lst (zs.set (zs.length-1) (V.ref p))):=aB;generalize upd H4 lm (.lst (zs.set (zs.length-1) (V.ref p)))=HN at iN sN htN evN ezN;walk_at"rd";refine⟨by show 2<=sizeLine;decide,λo ho=>?_⟩;have sO:=Same.upd (o:=.tup [V.ref lm,V.ref lv]) ho;refine q o lm lv _ n (sv.set (zs.length-1) (p0.1,1+r)) vals ts2 _ (sN.trans sO.t) (sO _ _ htN) (by lia) nm nv (afY nvm) aB (sO _ _ ezN) (iN.same sO) (by rw[length_set];lia) (by rw[length_set];lia) (λx hx=>?_) n1 n6 (sO _ _ evN) hln hvv;rcases List.mem_or_eq_of_mem_set hx with h|h
   ·exact okv x h
   ·subst h;obtain⟨k1,s0,ln,k2,k3,k4⟩:=okv p0 hm0;exact⟨⟨k1.ord,by show 1<=1+r;lia,by show 1+r<=999;lia⟩,s0,ln,k2,k3,k4⟩
  ·walk_at"rd";refine⟨by show 2<=sizeLine;decide,λo ho=>?_⟩;have sO:=Same.upd (o:=.tup [V.ref lm,V.ref lv]) ho;exact q o lm lv _ n sv vals ts1' _ (s1.trans sO.t) (sO _ _ ht1') (by lia) nm nv (afY nvm) aB (sO _ _ ez1) (iz1.same sO) (by lia) (by lia) okv n1 n6 (sO _ _ ev1) hln hvv
end
noncomputable def e9(n:Nat)(sv:List aY):List Dm:=sv.flatMap λp=>cW n p.1 p.2 n
theorem C5{f:aY->List Dm}{b:Nat}(h:∀p,(f p).length<=b):∀sv:List aY,(sv.flatMap f).length<=sv.length*b
 |[]=>ae2 _
 |p::sv=>by
  rw[List.flatMap_cons,length_append,length_cons,Nat.succ_mul];have:=h p;have:=C5 h sv;lia
theorem abG(n:Nat)(sv:List aY):gJ n (e9 n sv):=λd hd=>by
 obtain⟨p,hp,hd⟩:=mem_flatMap.mp hd;exact IS n p.1 p.2 d hd
section
variable{P:afL}{w:agC}{K:PySem.W.Frag}{mg:Str->Option Value}{base:Heap}{t:Ad}
theorem M6{n:Nat}(f:aY->List Dm){sv:List aY}{i:Nat}{p:aY}(h:sv[i]? =some p):(sv.take (i+1)).flatMap f=(sv.take i).flatMap f++f p:=by
 rw[take_add_one,h,flatMap_append];simp
noncomputable def OT(f:Nat->List aY->List Dm):Sp:=λvs H Q _=>∃(l:Addr)(xs:List V)(n:Nat)(sv:List aY),vs=[.ref l]/\H l=some (.lst xs)/\IsAll H xs (sv.map (bN n))/\sv.length<=3/\n<=8/\∀r zs H',Same H H'->H r=none->H' r=some (.lst zs)->IsAll H' zs ((f n sv).map fW)->Q (.ref r) H'
theorem VQ(T:aP K mg t):FnOk P w K mg base aM 3 t.zT t.xH ["several"] (OT e9):=by
 refine T.LD.ok sc_demands_of_all (λvs H Q E h=>?_) (λcdv A outer s H vs Q E hr h=>?_)
 ·obtain⟨l,xs,n,sv,rfl,_⟩:=h;rfl
 ·obtain⟨l,xs,n,sv,rfl,el,hxs,l3,n8,q⟩:=h
  refine⟨_,(aE (aT (i:=1) sc_demands_of_all.nd rfl (afM rfl) (cN pa_nil))
   (aE (cE afP rfl (dZ K (pv 0)) (gF K rfl (cF (aN (i:=2) sc_demands_of_all.nd rfl (afM rfl)) (cF (aN (i:=3) sc_demands_of_all.nd rfl (afM rfl)) gA))) (aC (cI (eZ K afX PySem.F.slot_list_extend PySem.F.type_list_extend oM (pv 1) (aA (aG (FS T) (hr.mono (by decide)) rfl T.GY T.A9.kp T.JV .nil aH (aA (pv 2) (aA (pv 3) pa_nil))) pa_nil)))))
   (aC (aI (pv 1))))),?_⟩
  have hl:xs.length=sv.length:=by rw[hxs.length,length_map]
  walk_at"rd";refine⟨ae2 _,λr hr'=>?_⟩;have s0:=Same.upd (o:=.lst []) hr';walk_at"rd";refine⟨l,rfl,⟨xs,SqL.of (s0 _ _ el)⟩,?_⟩;refine pD (K:=K) (xs:=xs) (λi σ H'=>(∃v2 v3,σ=[some (.ref l),some (.ref r),v2,v3])/\Same H H'/\∃zs,H' r=some (.lst zs)/\IsAll H' zs ((e9 n (sv.take i)).map fW)) ⟨⟨_,_,rfl⟩,s0,[],aB,.nil⟩ (λi σ H' _ h=>SqL.of (h.2.1 _ _ el)) ?_ ?_
  ·rintro i x σ H1 hx ⟨⟨v2,v3,rfl⟩,s1,zs,hz,iz⟩;obtain⟨p,hp,hm,ip⟩:=kH (hxs.same s1) hx;obtain⟨a,o,rfl,e,io⟩:=kJ ip;walk_at"rd";refine fY e rfl ?_;walk_at"rd";refine⟨eO hz,?_⟩;walk_at"rd";refine⟨_,n,p.1,p.2,rfl,io,n8,λb ys H2 s2 hb hb2 iy=>?_⟩
   have lz:zs.length+ys.length<=1000:=by
    have a1:=iz.length;have a2:=iy.length;rw[length_map]at a1 a2;have b3:n*n<=8*8:=ahO n8 n8;have a3:=C5 (f:=λp=>cW n p.1 p.2 n) (b:=64) (λp=>afO (pI n p.1 p.2 n) b3) (sv.take i);have a4:=pI n p.1 p.2 n;have a5:(sv.take i).length<=3:=by rw[length_take];lia
    have a6:(sv.take i).length*64<=3*64:=ahO a5 (aeU _);unfold e9 at a1;lia
   walk_at"rd";refine nN (s2 _ _ hz) hb2 (bI lz) ?_;walk_at"rd";refine⟨⟨_,_,rfl⟩,λc u ec=>?_,_,aB,?_⟩
   ·have nc:c≠r:=λz=>by rw[z,hr']at ec;cases ec
    rw[aD nc];exact s2 _ _ (s1 _ _ ec)
   ·unfold e9;rw[M6 (n:=n) _ hp,map_append]
    have km:∀(c:Addr)(us:List V),H2 c=some (.tup us)->upd H2 r (.lst (zs++ys)) c=some (.tup us):=λc us e=>by
     rw[aD (bJ e (s2 _ _ hz) (by intro z;cases z))];exact e
    exact IsAll.append ((iz.same s2).tmono km (lK _)) (iy.tmono km (lK _))
  ·rintro σ H1 ⟨⟨v2,v3,rfl⟩,s1,zs,hz,iz⟩;rw[hl,take_length]at iz;walk_at"rd";exact q r zs H1 s1 hr' hz iz
end
theorem aaW{l:List Int}{j v:Nat}{a:Int}(hj:j<l.length):gt (l.set j a) v=if v=j then a else gt l v:=by
 unfold gt;rw[ae9,ae9,List.getElem?_set];by_cases h:v=j
 ·subst h;simp[hj]
 ·rw[if_neg (afY h),if_neg h]
structure AR (ds:List Dm) (s:Rs) (R T:Nat->Nat) (v u:Nat) (b:Int):Prop where
 at':s.2.1[v]? =some (.int (u:Nat))
 mem:(u,v,b)∈ds
 rr:R v<=R u+1
 le:gt s.1 v<=gt s.1 u+b
 lt:T v<T u->gt s.1 v<gt s.1 u+b
structure Gh (n:Nat) (ds:List Dm) (p c:Nat) (pre suf:List Dm) (s:Rs) (R T:Nat->Nat):Prop where
 lv:s.1.length=n
 lo:s.2.1.length=n
 or:∀v,v<n->(s.2.1[v]? =some .non/\R v=0)\/(1<=T v/\∃u b,AR ds s R T v u b)
 suf:∀d∈suf,R d.1+1<p->gt s.1 d.1+d.2.2<=gt s.1 d.2.1
 pre:∀d∈pre,R d.1<p->gt s.1 d.1+d.2.2<=gt s.1 d.2.1
 rp:∀v,R v<=p
 tc:∀v,T v<=c
 inj:∀a b,1<=T a->T a=T b->a=b
noncomputable def kA(R:Nat->Nat)(v k:Nat):Nat->Nat:=λi=>if i=v then k else R i
theorem fH(R:Nat->Nat)(v k:Nat):kA R v k v=k:=by unfold kA;rw[if_pos rfl]
theorem dD{R:Nat->Nat}{v k i:Nat}(h:i≠v):kA R v k i=R i:=by unfold kA;rw[if_neg h]
theorem aa1{n:Nat}{ds:List Dm}(hd:gJ n ds)(hne:∀d∈ds,d.1≠d.2.1){p c:Nat}{pre suf:List Dm}{d:Dm}{s:Rs}{R T:Nat->Nat}(hm:d∈ds)(g:Gh n ds p c pre (d::suf) s R T):
  ∃R' T',Gh n ds p (c+1) (pre++[d]) suf (cA s d) R' T'/\((cA s d).2.2=s.2.2\/∃v:Nat,v<n/\(cA s d).2.2=.int v/\R' v=p)/\∀v,R v=p->R' v=p:=by
 obtain⟨h1,h2⟩:=hd d hm;have hn:=hne d hm;by_cases h:s.1.getD d.1 0+d.2.2>s.1.getD d.2.1 0
 ·have e:cA s d=(s.1.set d.2.1 (s.1.getD d.1 0+d.2.2),s.2.1.set d.2.1 (.int d.1),.int d.2.1):=by unfold cA;rw[if_pos h]
  rw[e]
  have hu:p<=R d.1+1:=by
   refine Nat.le_of_not_lt λz=>?_;have:=g.suf d mem_cons_self z;show False
   have h':gt s.1 d.1+d.2.2>gt s.1 d.2.1:=h;lia
  have hlt:d.2.1<s.1.length:=by rw[g.lv];exact h2
  have gs:∀w,gt (s.1.set d.2.1 (s.1.getD d.1 0+d.2.2)) w=if w=d.2.1 then gt s.1 d.1+d.2.2 else gt s.1 w:=λw=>aaW hlt
  have up:∀w,gt s.1 w<=gt (s.1.set d.2.1 (s.1.getD d.1 0+d.2.2)) w:=λw=>by
   rw[gs];split
   ·rename_i e;subst e;exact Int.le_of_lt h
   ·exact Int.le_refl _
  refine⟨kA R d.2.1 p,kA T d.2.1 (c+1),⟨?_,?_,λv hv=>?_,λx hx hr=>?_,λx hx hr=>?_,λv=>?_,λv=>?_,λa b ha hab=>?_⟩,.inr ⟨d.2.1,h2,rfl,fH _ _ _⟩,λv hv=>?_⟩
  ·show(s.1.set d.2.1 _).length=n;rw[length_set];exact g.lv
  ·show(s.2.1.set d.2.1 _).length=n;rw[length_set];exact g.lo
  ·by_cases ev:v=d.2.1
   ·subst ev;refine .inr ⟨by rw[fH];lia,d.1,d.2.2,?_,hm,?_,?_,?_⟩
    ·show(s.2.1.set d.2.1 (.int d.1))[d.2.1]? =_;rw[List.getElem?_set_self (by rw[g.lo];exact h2)]
    ·rw[fH,dD hn];exact hu
    ·show gt (s.1.set d.2.1 (s.1.getD d.1 0+d.2.2)) d.2.1<=gt (s.1.set d.2.1 (s.1.getD d.1 0+d.2.2)) d.1+d.2.2;rw[gs,gs,if_pos rfl,if_neg hn];exact Int.le_refl _
    ·rw[fH,dD hn];intro z;have:=g.tc d.1;lia
   ·rcases g.or v hv with⟨a,b⟩|⟨t1,u,b,o⟩
    ·refine .inl ⟨?_,by rw[dD ev];exact b⟩;show(s.2.1.set d.2.1 (.int d.1))[v]? =_
     rw[ag6 (afY ev)];exact a
    ·refine .inr ⟨by rw[dD ev];exact t1,u,b,?_,o.mem,?_,?_,?_⟩
     ·show(s.2.1.set d.2.1 (.int d.1))[v]? =_;rw[ag6 (afY ev)];exact o.at'
     ·rw[dD ev];by_cases eu:u=d.2.1
      ·subst eu;rw[fH];have:=g.rp v;lia
      ·rw[dD eu];exact o.rr
     ·show gt (s.1.set d.2.1 (s.1.getD d.1 0+d.2.2)) v<=gt (s.1.set d.2.1 (s.1.getD d.1 0+d.2.2)) u+b;rw[gs v,if_neg ev];have:=up u;have:=o.le;lia
     ·show _->gt (s.1.set d.2.1 (s.1.getD d.1 0+d.2.2)) v<gt (s.1.set d.2.1 (s.1.getD d.1 0+d.2.2)) u+b;rw[gs v,if_neg ev,dD ev];by_cases eu:u=d.2.1
      ·subst eu;intro _;rw[gs,if_pos rfl];have:=o.le;have h':gt s.1 d.1+d.2.2>gt s.1 d.2.1:=h;lia
      ·rw[dD eu,gs u,if_neg eu];exact o.lt
  ·have ex:x.1≠d.2.1:=λz=>by rw[z,fH]at hr;lia
   rw[dD ex]at hr;show gt (s.1.set d.2.1 (s.1.getD d.1 0+d.2.2)) x.1+x.2.2<=gt (s.1.set d.2.1 (s.1.getD d.1 0+d.2.2)) x.2.1
   rw[gs x.1,if_neg ex];have:=g.suf x (mem_cons_of_mem _ hx) hr;have:=up x.2.1;lia
  ·have ex:x.1≠d.2.1:=λz=>by rw[z,fH]at hr;lia
   rw[dD ex]at hr;show gt (s.1.set d.2.1 (s.1.getD d.1 0+d.2.2)) x.1+x.2.2<=gt (s.1.set d.2.1 (s.1.getD d.1 0+d.2.2)) x.2.1
   rw[gs x.1,if_neg ex];rcases mem_append.mp hx with hx|hx
   ·have:=g.pre x hx hr;have:=up x.2.1;lia
   ·rcases mem_singleton.mp hx with rfl;rw[gs,if_pos rfl];exact Int.le_refl _
  ·by_cases ev:v=d.2.1
   ·subst ev;rw[fH];exact aeU _
   ·rw[dD ev];exact g.rp v
  ·by_cases ev:v=d.2.1
   ·subst ev;rw[fH];exact aeU _
   ·rw[dD ev];have:=g.tc v;lia
  ·by_cases ea:a=d.2.1
   ·by_cases eb:b=d.2.1
    ·rw[ea,eb]
    ·subst ea;rw[fH,dD eb]at hab;have:=g.tc b;lia
   ·by_cases eb:b=d.2.1
    ·subst eb;rw[fH,dD ea]at hab;have:=g.tc a;lia
    ·rw[dD ea]at ha hab;rw[dD eb]at hab;exact g.inj a b ha hab
  ·by_cases ev:v=d.2.1
   ·subst ev;rw[fH]
   ·rw[dD ev];exact hv
 ·have e:cA s d=s:=by unfold cA;rw[if_neg h]
  rw[e];refine⟨R,T,⟨g.lv,g.lo,g.or,λx hx=>g.suf x (mem_cons_of_mem _ hx),λx hx hr=>?_,g.rp,λv=>ahY (g.tc v),g.inj⟩,.inl rfl,λv h=>h⟩;rcases mem_append.mp hx with hx|hx
  ·exact g.pre x hx hr
  ·rcases mem_singleton.mp hx with rfl;exact Int.not_lt.mp h
theorem IB{n:Nat}{ds:List Dm}(hd:gJ n ds)(hne:∀d∈ds,d.1≠d.2.1){p:Nat}:∀(suf pre:List Dm)(c:Nat)(s:Rs)(R T:Nat->Nat),(∀d∈suf,d∈ds)->Gh n ds p c pre suf s R T->(s.2.2=.non\/∃v:Nat,v<n/\s.2.2=.int v/\R v=p)->
  ∃c' R' T',Gh n ds p c' (pre++suf) [] (suf.foldl cA s) R' T'/\((suf.foldl cA s).2.2=.non\/∃v:Nat,v<n/\(suf.foldl cA s).2.2=.int v/\R' v=p)
 |[],pre,c,s,R,T,_,g,h=>⟨c,R,T,by rw[append_nil];exact g,h⟩
 | d::suf,pre,c,s,R,T,hs,g,h=>by
  obtain⟨R',T',g',h',k'⟩:=aa1 hd hne (hs d mem_cons_self) g
  have:=IB hd hne suf (pre++[d]) (c+1) (cA s d) R' T' (λx hx=>hs x (mem_cons_of_mem _ hx)) g' (by
   rcases h' with h'|h'
   ·rw[h'];rcases h with h|⟨v,hv,a,b⟩
    ·exact .inl h
    ·exact .inr ⟨v,hv,a,k' v b⟩
   ·exact .inr h')
  rw[append_assoc]at this;exact this
theorem IA{n:Nat}{ds:List Dm}(hd:gJ n ds)(hne:∀d∈ds,d.1≠d.2.1):∀(k:Nat)(p c:Nat)(s:Rs)(R T:Nat->Nat),Gh n ds (p+1) c [] ds s R T->(s.2.2=.non\/∃v:Nat,v<n/\s.2.2=.int v/\R v=p)->(∀v,R v<=p)->
  (bT ds k s.1 s.2.1 s.2.2).2.2≠.non->∃c' R' T',Gh n ds (p+k+1) c' [] ds (bT ds k s.1 s.2.1 s.2.2) R' T'/\∃v:Nat,v<n/\(bT ds k s.1 s.2.1 s.2.2).2.2=.int v/\R' v=p+k
 |0,p,c,s,R,T,g,h,hp,e=>by
  rw[bT]at e ⊢;rcases h with h|h
  ·exact absurd h e
  ·exact⟨c,R,T,g,h⟩
 | k+1,p,c,s,R,T,g,h,hp,e=>by
  rw[bT]at e ⊢;obtain⟨c',R',T',g',h'⟩:=IB hd hne ds [] c (s.1,s.2.1,.non) R T (λ_ h=>h) ⟨g.lv,g.lo,λv hv=>(g.or v hv).imp id λ⟨a,u,b,o⟩=>⟨a,u,b,o.at',o.mem,o.rr,o.le,o.lt⟩,g.suf,g.pre,g.rp,g.tc,g.inj⟩ (.inl rfl);change Gh n ds (p+1) c' ([]++ds) [] (dW ds s.1 s.2.1) R' T' at g';by_cases z:(dW ds s.1 s.2.1).2.2=.non
  ·rw[if_pos z]at e;exact absurd rfl e
  ·rw[if_neg z]at e ⊢;have g2:Gh n ds (p+1+1) c' [] ds (dW ds s.1 s.2.1) R' T':=⟨g'.lv,g'.lo,g'.or,λd hd' hr=>g'.pre d (by simpa using hd') (by lia),λ_ h=>(nomatch h),λv=>ahY (g'.rp v),g'.tc,g'.inj⟩
   have:=IA hd hne k (p+1) c' (dW ds s.1 s.2.1) R' T' g2 h' g'.rp e;rw[show p+(k+1)=p+1+k by lia];exact this
theorem aa2{n:Nat}{ds:List Dm}(hd:gJ n ds)(hne:∀d∈ds,d.1≠d.2.1)(e:(bT ds n (replicate n 0) (replicate n .non) .non).2.2≠.non):
  ∃c R T,Gh n ds (n+1) c [] ds (bT ds n (replicate n 0) (replicate n .non) .non) R T/\∃v:Nat,v<n/\(bT ds n (replicate n 0) (replicate n .non) .non).2.2=.int v/\R v=n:=by
 have g:Gh n ds (0+1) 0 [] ds (replicate n 0,replicate n .non,.non) (λ_=>0) (λ_=>0):=⟨length_replicate,length_replicate,λv hv=>.inl ⟨by rw[List.getElem?_replicate,if_pos hv],rfl⟩,λ_ _ h=>absurd h (by lia),λ_ h=>(nomatch h),λ_=>ae2 _,λ_=>aeU _,λ_ _ h=>absurd h (by decide)⟩
 have:=IA hd hne n 0 0 _ _ _ g (.inl rfl) (λ_=>aeU _) e;rw[Nat.zero_add]at this;exact this
noncomputable def bk(orgs:List V)(v:Nat):Nat:=match orgs[v]? with|some (.int u)=>u.toNat|_=>v
noncomputable def aF(orgs:List V):Nat->Nat->Nat
 |0,v=>v
 |k+1,v=>bk orgs (aF orgs k v)
theorem g8(orgs:List V)(a v:Nat):∀b,aF orgs (a+b) v=aF orgs b (aF orgs a v)
 |0=>rfl
 |b+1=>by show bk orgs (aF orgs (a+b) v)=bk orgs _;rw[g8 orgs a v b]
theorem acT{orgs:List V}{v u:Nat}(h:orgs[v]? =some (.int (u:Nat))):bk orgs v=u:=by
 unfold bk;rw[h];exact ae6 u
theorem T7:∀(n:Nat)(f:Nat->Nat),(∀i,i<=n->f i<n)->∃i j,i<j/\j<=n/\f i=f j:=by
 intro n f h;by_cases z:∃i j,i<j/\j<=n/\f i=f j
 ·exact z
 ·exfalso
  have nd:((range (n+1)).map f).Nodup:=by
   unfold ah4;rw[pairwise_map];refine af7.imp_of_mem ?_ (pairwise_lt_range (n:=n+1));intro a b ha hb hab e;exact z ⟨a,b,hab,by have:=mem_range.mp hb;lia,e⟩
  have sub:((range (n+1)).map f)⊆range n:=λx hx=>by
   obtain⟨i,hi,rfl⟩:=mem_map.mp hx;exact mem_range.mpr (h i (by have:=mem_range.mp hi;lia))
  have:=nd.length_le_of_subset sub;rw[length_map,length_range,length_range]at this;lia
structure KA (n:Nat) (ds:List Dm) (orgs:List V) (s c:Nat):Prop where
 c2:2<=c
 cn:c<=n
 ret:aF orgs c s=s
 first:∀i,1<=i->i<c->aF orgs i s≠s
 org:∀i,∃b,orgs[aF orgs i s]? =some (.int (aF orgs (i+1) s:Nat))/\(aF orgs (i+1) s,aF orgs i s,b)∈ds
 dist:∀i j,i<j->j<c->aF orgs i s≠aF orgs j s
theorem QZ{n:Nat}{ds:List Dm}(hd:gJ n ds)(hne:∀d∈ds,d.1≠d.2.1)(e:(bT ds n (replicate n 0) (replicate n .non) .non).2.2≠.non){orgs:List V}(ho:orgs=(bT ds n (replicate n 0) (replicate n .non) .non).2.1):
  ∃r:Nat,r<n/\(bT ds n (replicate n 0) (replicate n .non) .non).2.2=.int r/\(∀i,orgs[aF orgs i r]? =some (.int (aF orgs (i+1) r:Nat)))/\(∃c,KA n ds orgs (aF orgs n r) c)/\
   ∃(vals:List Int)(T:Nat->Nat),∀i,∃b,(aF orgs (i+1) r,aF orgs i r,b)∈ds/\gt vals (aF orgs i r)<=gt vals (aF orgs (i+1) r)+b/\(T (aF orgs i r)<T (aF orgs (i+1) r)->gt vals (aF orgs i r)<gt vals (aF orgs (i+1) r)+b)/\(T (aF orgs i r)=T (aF orgs (i+1) r)->aF orgs i r=aF orgs (i+1) r):=by
 obtain⟨c,R,T,g,r,hr,er,eR⟩:=aa2 hd hne e
 have st:∀v,v<n->1<=R v->∃b,AR ds (bT ds n (replicate n 0) (replicate n .non) .non) R T v (bk orgs v) b/\1<=T v/\bk orgs v<n:=λv hv h1=>by
  rcases g.or v hv with⟨_,h⟩|⟨t1,u,b,o⟩
  ·lia
  ·have:bk orgs v=u:=acT (by rw[ho];exact o.at');rw[this];exact⟨b,o,t1,(hd _ o.mem).1⟩
 have ch:∀i,i<=n->aF orgs i r<n/\n<=R (aF orgs i r)+i:=by
  intro i
  induction i with
  |zero=>intro _;exact⟨hr,by show n<=R r+0;lia⟩
  |succ i ih=>
   intro hi;obtain⟨a,b⟩:=ih (by lia);obtain⟨w,o,_,l⟩:=st _ a (by lia);refine⟨l,?_⟩;show n<=R (bk orgs (aF orgs i r))+(i+1)
   have:=o.rr;lia
 obtain⟨i,j,hij,hj,ef⟩:=T7 n (λi=>aF orgs i r) λi hi=>(ch i hi).1;have ef':aF orgs i r=aF orgs j r:=ef
 have back:∀m,∃m',m'<j/\aF orgs m r=aF orgs m' r:=by
  intro m
  induction m with
  |zero=>exact⟨0,by lia,rfl⟩
  | succ m ih=>
   obtain⟨m',h1,h2⟩:=ih;have e2:aF orgs (m+1) r=aF orgs (m'+1) r:=by show bk orgs _=bk orgs _;rw[h2]
   by_cases z:m'+1<j
   ·exact⟨m'+1,z,e2⟩
   ·have:m'+1=j:=by lia
    exact⟨i,hij,by rw[e2,this,ef']⟩
 have all:∀m,aF orgs m r<n/\∃b,AR ds (bT ds n (replicate n 0) (replicate n .non) .non) R T (aF orgs m r) (aF orgs (m+1) r) b/\1<=T (aF orgs m r):=λm=>by
  obtain⟨m',h1,h2⟩:=back m;obtain⟨a,b⟩:=ch m' (by lia);have e2:aF orgs (m+1) r=bk orgs (aF orgs m' r):=by show bk orgs _=_;rw[h2]
  rw[e2,h2];obtain⟨w,o,t1,_⟩:=st _ a (by lia);exact⟨a,w,o,t1⟩
 have at':∀m,orgs[aF orgs m r]? =some (.int (aF orgs (m+1) r:Nat)):=λm=>by
  obtain⟨_,b,o,_⟩:=all m;have:=o.at';rw[<-ho]at this;exact this
 have per:aF orgs (j-i) (aF orgs n r)=aF orgs n r:=by
  rw[<-g8,show n+(j-i)=j+(n-i) by lia,g8,<-ef',<-g8,show i+(n-i)=n by lia]
 have ex:∃c,1<=c/\c<=n/\aF orgs c (aF orgs n r)=aF orgs n r/\∀k,1<=k->k<c->aF orgs k (aF orgs n r)≠aF orgs n r:=by
  have:∀m,1<=m->m<=n->aF orgs m (aF orgs n r)=aF orgs n r->∃c,1<=c/\c<=n/\aF orgs c (aF orgs n r)=aF orgs n r/\∀k,1<=k->k<c->aF orgs k (aF orgs n r)≠aF orgs n r:=by
   intro m
   induction m using Nat.strongRecOn with
   | _ m ih=>
    intro h1 h2 h3;by_cases z:∃k,1<=k/\k<m/\aF orgs k (aF orgs n r)=aF orgs n r
    ·obtain⟨k,k1,k2,k3⟩:=z;exact ih k k2 k1 (by lia) k3
    ·exact⟨m,h1,h2,h3,λk k1 k2 k3=>z ⟨k,k1,k2,k3⟩⟩
  exact this (j-i) (by lia) (by lia) per
 obtain⟨c0,c1,cn,cr,cf⟩:=ex;refine⟨r,hr,er,at',⟨c0,⟨?_,cn,cr,cf,λm=>?_,λa b hab hb z=>?_⟩⟩,(bT ds n (replicate n 0) (replicate n .non) .non).1,T,λm=>?_⟩
 ·refine Nat.le_of_not_lt λz=>?_;have e1:c0=1:=by lia
  subst e1;obtain⟨_,b,o,_⟩:=all n;have:=hne _ o.mem;exact this cr
 ·rw[<-g8,<-g8];obtain⟨_,b,o,_⟩:=all (n+m);exact⟨b,at' (n+m),o.mem⟩
 ·
  have e1:aF orgs (c0-b) (aF orgs a (aF orgs n r))=aF orgs (c0-b) (aF orgs b (aF orgs n r)):=by rw[z]
  have e2:aF orgs (a+(c0-b)) (aF orgs n r)=aF orgs (b+(c0-b)) (aF orgs n r):=by rw[g8,g8];exact e1
  rw[show b+(c0-b)=c0 by lia,cr]at e2;exact cf (a+(c0-b)) (by lia) (by lia) e2
 ·obtain⟨_,b,o,t1⟩:=all m;exact⟨b,o.mem,o.le,o.lt,λz=>g.inj _ _ t1 z⟩
theorem mem_dm{n:Nat}{ps:List (Int×Int)}{st:Int}{d:Dm}:d∈cW n ps st n<->d.1<n/\d.2.1<n/\d.1≠d.2.1/\fR ps st d.1 d.2.1=some d.2.2:=by
 unfold cW gH;rw[mem_flatMap];constructor
 ·rintro⟨i,hi,h⟩;obtain⟨j,hj,h⟩:=mem_flatMap.mp h;unfold fA at h;split at h
  ·cases h
  ·rename_i hne;split at h
   ·rename_i k e;rcases mem_singleton.mp h with rfl;exact⟨mem_range.mp hi,mem_range.mp hj,hne,e⟩
   ·cases h
 ·rintro⟨hi,hj,hne,e⟩;refine⟨d.1,mem_range.mpr hi,mem_flatMap.mpr ⟨d.2.1,mem_range.mpr hj,?_⟩⟩;unfold fA;rw[if_neg hne,e];exact mem_singleton.mpr rfl
theorem IP{n:Nat}{ps:List (Int×Int)}{st:Int}:∀d∈cW n ps st n,d.1≠d.2.1:=λd h=>(mem_dm.mp h).2.2.1
theorem NC{n:Nat}{sv:List aY}:∀d∈e9 n sv,d.1≠d.2.1:=λd h=>by
 obtain⟨p,_,h⟩:=mem_flatMap.mp h;exact IP d h
noncomputable def jF(orgs:List V)(s c:Nat):List Nat:=((range c).map λi=>aF orgs i s).reverse
theorem DQ(orgs:List V)(s c:Nat):(jF orgs s c).length=c:=by simp[jF]
theorem nJ{orgs:List V}{s c i:Nat}(h:i<c):(jF orgs s c)[i]? =some (aF orgs (c-1-i) s):=by
 unfold jF;rw[List.getElem?_reverse (by simpa using h),ae4,length_map,length_range,ahL (by lia)];rfl
structure RB (n:Nat) (ds:List Dm) (orgs:List V) (r c:Nat):Prop where
 lo:orgs.length=n
 rn:r<n
 at':∀i,orgs[aF orgs i r]? =some (.int (aF orgs (i+1) r:Nat))
 rnd:KA n ds orgs (aF orgs n r) c
 val:∃(vals:List Int)(T:Nat->Nat),∀i,∃b,(aF orgs (i+1) r,aF orgs i r,b)∈ds/\gt vals (aF orgs i r)<=gt vals (aF orgs (i+1) r)+b/\(T (aF orgs i r)<T (aF orgs (i+1) r)->gt vals (aF orgs i r)<gt vals (aF orgs (i+1) r)+b)/\(T (aF orgs i r)=T (aF orgs (i+1) r)->aF orgs i r=aF orgs (i+1) r)
noncomputable def J9(n:Nat)(ds:List Dm):Rs:=bT ds n (replicate n 0) (replicate n .non) .non
noncomputable def iR(n:Nat)(ds:List Dm)(th:List Nat):Prop:=∃orgs r c,RB n ds orgs r c/\th=jF orgs (aF orgs n r) c/\orgs=(J9 n ds).2.1/\(J9 n ds).2.2=.int (r:Nat)
theorem HL{n:Nat}{ds:List Dm}{th th':List Nat}(h:iR n ds th)(h':iR n ds th'):th=th':=by
 obtain⟨orgs,r,c,R,rfl,rfl,e2⟩:=h;obtain⟨orgs',r',c',R',rfl,rfl,e2'⟩:=h';rw[e2]at e2';injection e2' with e2';have er:r=r':=by lia
 subst er;rcases Nat.lt_trichotomy c c' with g|g|g
 ·exact absurd R.rnd.ret (R'.rnd.first c (by have:=R.rnd.c2;lia) g)
 ·rw[g]
 ·exact absurd R'.rnd.ret (R.rnd.first c' (by have:=R'.rnd.c2;lia) g)
theorem l4{n:Nat}{ds:List Dm}{th:List Nat}(h:iR n ds th):2<=th.length/\th.length<=n:=by
 obtain⟨orgs,r,c,R,rfl,_⟩:=h;rw[DQ];exact⟨R.rnd.c2,R.rnd.cn⟩
theorem aaA{n:Nat}{ds:List Dm}{th:List Nat}(h:iR n ds th){i:Nat}(hi:i<th.length):∃a b k,th[i]? =some a/\th[(i+1)%th.length]? =some b/\(a,b,k)∈ds:=by
 obtain⟨orgs,r,c,R,rfl,_⟩:=h;rw[DQ]at hi ⊢;by_cases z:i+1<c
 ·rw[Nat.mod_eq_of_lt z,nJ hi,nJ z];obtain⟨k,_,m⟩:=R.rnd.org (c-1-(i+1));rw[show c-1-(i+1)+1=c-1-i by lia]at m;exact⟨_,_,k,rfl,rfl,m⟩
 ·have e:i+1=c:=by lia
  rw[e,Nat.mod_self,nJ hi,nJ (by lia)];obtain⟨k,_,m⟩:=R.rnd.org (c-1);rw[show c-1+1=c by lia,R.rnd.ret]at m;rw[show c-1-i=0 by lia];exact⟨_,_,k,rfl,rfl,m⟩
noncomputable def nI(th:List Nat):List V:=th.map λ(i:Nat)=>V.int (i:Int)
section
variable{P:afL}{w:agC}{K:PySem.W.Frag}{mg:Str->Option Value}{base:Heap}{t:Ad}
noncomputable def O0:Sp:=λvs H Q _=>∃(o:Addr)(n:Nat)(ds:List Dm)(orgs:List V)(r c:Nat),vs=[.ref o,.int (r:Nat)]/\n<=8/\H o=some (.lst orgs)/\RB n ds orgs r c/\
 ∀l H',Same H H'->H l=none->H' l=some (.lst (nI (jF orgs (aF orgs n r) c)))->Q (.ref l) H'
theorem U3(T:aP K mg t):FnOk P w K mg base aM 1 t.yX t.wJ ["origins","raised"] O0:=by
 refine T.KL.ok sc_round_behind (λvs H Q E h=>?_) (λcdv A outer s H vs Q E hr h=>?_)
 ·obtain⟨o,n,ds,orgs,r,c,rfl,_⟩:=h;rfl
 ·obtain⟨o,n,ds,orgs,r,c,rfl,n8,ho,R,q⟩:=h
  refine⟨_,(aE (aT (i:=2) sc_round_behind.nd rfl (afM rfl) (pv 1))
   (aE (cE afP rfl (bU rfl T.bP (aA (bC (cK K) (by rfl) T.cJ cL (aA (pv 0) pa_nil)) pa_nil)) (aN (i:=3) sc_round_behind.nd rfl (afM rfl)) (aC (aT (i:=2) sc_round_behind.nd rfl (afM rfl) (aU (aV K) (pv 0) (pv 2) (λ_ _=>rfl)))))
   (aE (aT (i:=4) sc_round_behind.nd rfl (afM rfl) (cN (aA (pv 2) pa_nil)))
   (aE (aT (i:=5) sc_round_behind.nd rfl (afM rfl) (aU (aV K) (pv 0) (pv 2) (λ_ _=>rfl)))
   (aE (uJ afP (aZ (iW hr.units) (pv 5) (pv 2) (bD _)) (aE (cI (eZ K afX agE agF iA (pv 4) (aA (pv 5) pa_nil)))
   (aC (aT (i:=5) sc_round_behind.nd rfl (afM rfl) (aU (aV K) (pv 0) (pv 5) (λ_ _=>rfl))))))
   (aC (aI (ZW K rfl T.kI rfl T.WU (aA (pv 4) pa_nil))))))))),?_⟩
  have lo:=R.lo;walk_at"rd";refine⟨_,rfl,by lia,by lia,?_⟩;rw[R.lo,ae6];refine dQ (λi σ H'=>(∃v3 v4 v5,σ=[some (.ref o),some (.int r),some (.int (aF orgs i r:Nat)),v3,v4,v5])/\H'=H) ⟨⟨_,_,_,rfl⟩,rfl⟩ ?_ ?_
  ·rintro i σ H1 hi ⟨⟨v3,v4,v5,rfl⟩,rfl⟩;walk_at"rd";refine dX ho (atI_of rfl (R.at' i)) ?_;walk_at"rd";exact⟨⟨_,_,_,rfl⟩,rfl⟩
  ·rintro σ H1 ⟨⟨v3,v4,v5,rfl⟩,rfl⟩;walk_at"rd";refine⟨by show 1<=sizeLine;decide,λl hl=>?_⟩;have s1:=Same.upd (o:=.lst [V.int (aF orgs n r:Nat)]) hl;walk_at"rd";generalize hs0:aF orgs n r=s0 at *
   have at0:∀i,orgs[aF orgs i s0]? =some (.int (aF orgs (i+1) s0:Nat)):=λi=>by
    have:=R.at' (n+i);rw[g8,show n+i+1=n+(i+1) by lia,g8,hs0]at this;exact this
   refine dX (s1 _ _ ho) (atI_of rfl (at0 0)) ?_;have R':=R.rnd;rw[hs0]at R';have c2:=R'.c2;have cn:=R'.cn;walk_at"rd";refine⟨λm σ H'=>∃k,m=c-1-k/\k<c/\(∃v1 v3,σ=[some (.ref o),v1,some (.int (s0:Nat)),v3,some (.ref l),some (.int (aF orgs (k+1) s0:Nat))])/\Same H1 H'/\H' l=some (.lst (nI ((range (k+1)).map λi=>aF orgs i s0))),⟨_,0,rfl,by lia,⟨_,_,rfl⟩,s1,aB⟩,?_⟩;rintro m σ H2 ⟨k,rfl,hk,⟨v1,v3,rfl⟩,s2,hl2⟩;walk_at"rd";have ln:(nI ((range (k+1)).map λi=>aF orgs i s0)).length=k+1:=by simp[nI]
   refine bK (λg=>?_) (λg=>?_)
   ·have hne:aF orgs (k+1) s0≠s0:=λz=>by rw[z]at g;simp at g
    have hk1:k+1<c:=by
     refine Nat.lt_of_le_of_ne hk λz=>hne ?_;have:=R'.ret;rw[<-z]at this;exact this
    refine⟨λσ' H'=>∃m',m'<c-1-k/\∃k,m'=c-1-k/\k<c/\(∃v1 v3,σ'=[some (.ref o),v1,some (.int (s0:Nat)),v3,some (.ref l),some (.int (aF orgs (k+1) s0:Nat))])/\Same H1 H'/\H' l=some (.lst (nI ((range (k+1)).map λi=>aF orgs i s0))),λσ' H' h=>h,?_⟩;walk_at"rd";refine⟨eO hl2,?_⟩;walk_at"rd";refine fZ hl2 (dU (by lia)) ?_;have nol:o≠l:=aW ho hl;walk_at"rd";refine dX (by rw[aD nol];exact s2 _ _ ho) (atI_of rfl (at0 (k+1))) ?_;walk_at"rd";refine⟨c-1-(k+1),by lia,k+1,rfl,hk1,⟨_,_,rfl⟩,λb u e=>?_,?_⟩
    ·rw[aD (aW e hl)];exact s2 _ _ e
    ·rw[aB,range_succ (n:=k+1)];simp[nI]
   ·have hz:aF orgs (k+1) s0=s0:=by
     have:((aF orgs (k+1) s0:Nat):Int)=(s0:Int):=by simpa using g
     lia
    have hk1:k+1=c:=by
     refine Nat.le_antisymm hk (Nat.le_of_not_lt λz=>R'.first (k+1) (by lia) z hz)
    walk_at"rd";refine SC ?_;walk_at"rd";refine⟨l,_,rfl,SqL.of hl2,by lia,λp hp=>?_⟩;have s3:=Same.upd (o:=.lst (nI ((range (k+1)).map λi=>aF orgs i s0)).reverse) hp;refine q p _ (s2.trans s3) (s2.free hp) ?_;rw[aB,hk1];unfold jF nI;rw[List.map_reverse]
noncomputable def NK:Sp:=λvs H Q _=>∃l ds n xs,vs=[.int (n:Nat),.ref l]/\n<=8/\H l=some (.lst xs)/\IsAll H xs (ds.map fW)/\gJ n ds/\(∀d∈ds,d.1≠d.2.1)/\
 ∀H',Same H H'->(lv n ds≠none->Q .non H')/\∀p th,lv n ds=none->iR n ds th->H p=none->H' p=some (.lst (nI th))->Q (.ref p) H'
theorem FF(T:aP K mg t):FnOk P w K mg base aM 3 t.yT t.wF ["many","demands"] NK:=by
 refine T.AU.ok sc_things_in_round (λvs H Q E h=>?_) (λcdv A outer s H vs Q E hr h=>?_)
 ·obtain⟨l,ds,n,xs,rfl,_⟩:=h;rfl
 ·obtain⟨l,ds,n,xs,rfl,hn,hl,hxs,hds,hne,q⟩:=h
  refine⟨_,(aE (aT (i:=2) sc_things_in_round.nd rfl (afM rfl) (bB FA (cN (aA pe_non pa_nil)) (pv 0)))
   (aE (aT (i:=3) sc_things_in_round.nd rfl (afM rfl) (aG (U5 T) (hr.mono (by decide)) rfl T.XM T.KN.kp T.ac8 .nil aH (aA (pv 1) (aA (bB FA (cN (aA pe_int pa_nil)) (pv 0)) (aA (pv 2) pa_nil)))))
   (aE (bF (aZ lJ (pv 3) pe_non (bD _)) (aC (aI pe_non)) bE)
   (aC (aI (aG (U3 T) (hr.mono (by decide)) rfl T.XJ T.KL.kp T.ac6 .nil aH (aA (pv 2) (aA (pv 3) pa_nil)))))))),?_⟩
  walk_at"rd";refine⟨by show 1<=sizeLine;decide,λp1 hp1=>?_⟩;have s1:=Same.upd (o:=.lst [V.non]) hp1;walk_at"rd";refine D0 aB (by lia) λo ho=>?_;have s2:=s1.trans (Same.upd (o:=.lst (replicate n V.non)) ho);walk_at"rd";refine⟨by show 1<=sizeLine;decide,λp2 hp2=>?_⟩;have s3:=s2.trans (Same.upd (o:=.lst [V.int 0]) hp2);walk_at"rd";refine D0 aB (by lia) λv hv=>?_;walk_at"rd";generalize hG:upd (upd (upd (upd H p1 (.lst [V.non])) o (.lst (replicate n V.non))) p2 (.lst [V.int 0])) v (.lst (replicate n (V.int 0)))=G at *;have s4:Same H G:=by rw[<-hG];exact s3.trans (Same.upd hv)
  have nop:o≠p2:=aW aB hp2
  have nov:o≠v:=by
   refine aW (o:=.lst (replicate n V.non)) ?_ hv;rw[aD nop,aB]
  have go:G o=some (.lst (replicate n V.non)):=by rw[<-hG,aD nov,aD nop,aB]
  have gv:G v=some (.lst ((replicate n (0:Int)).map V.int)):=by rw[<-hG,aB,Q5]
  have nlo:l≠o:=by
   intro z;subst z;rw[s1 _ _ hl]at ho;cases ho
  have nlv:l≠v:=by
   intro z;subst z;rw[s3 _ _ hl]at hv;cases hv
  refine⟨l,v,o,ds,_,_,n,xs,rfl,hn,s4 _ _ hl,hxs.same s4,⟨gv,go,length_replicate,length_replicate⟩,nlv,nlo,afY nov,hds,λH' s5 V5=>?_⟩
  have sH:Same H H':=λb u e=>by
   refine s5 b u (s4 b u e) ?_ ?_
   ·intro z;subst z;rw[s3 _ _ e]at hv;cases hv
   ·intro z;subst z;rw[s1 _ _ e]at ho;cases ho
  have ho5:=V5.ho;rcases(show(bT ds n (replicate n 0) (replicate n .non) .non).2.2=.non\/¬(bT ds n (replicate n 0) (replicate n .non) .non).2.2=.non from Classical.em _) with hz|hz
  ·rw[hz];walk_at"rd";exact(q H' sH).1 (by unfold lv;rw[if_pos hz];simp)
  ·have hlv:lv n ds=none:=by unfold lv;rw[if_neg hz]
   obtain⟨r,hr',er,at',⟨c,R⟩,vals,T',hval⟩:=QZ hds hne hz rfl;rw[er];walk_at"rd";refine⟨o,n,ds,_,r,c,rfl,hn,ho5,⟨V5.lo,hr',at',R,vals,T',hval⟩,λp H2 s6 hp e=>?_⟩;exact(q H2 (sH.trans s6)).2 p _ hlv ⟨_,r,c,⟨V5.lo,hr',at',R,vals,T',hval⟩,rfl,rfl,er⟩ (sH.free hp) e
end
noncomputable def cR(sv:List aY)(a b:Int)(i:Nat):Option Int:=(sv[i]?).bind λp=>fR p.1 p.2 a b
noncomputable def dL(sv:List aY)(a b:Int)(m:Nat):List Nat:=(range m).filter λi=>(cR sv a b i).isSome
theorem TX(sv:List aY)(a b:Int)(m:Nat):dL sv a b (m+1)=dL sv a b m++if(cR sv a b m).isSome then[m] else[]:=by
 unfold dL;rw[range_succ,filter_append,filter_cons,List.filter_nil]
theorem TY(sv:List aY)(a b:Int)(m:Nat):(dL sv a b m).length<=m:=afO (length_filter_le _ _) (by simp)
theorem mem_plc{sv:List aY}{a b:Int}{m i:Nat}:i∈dL sv a b m<->i<m/\(cR sv a b i).isSome=true:=by
 unfold dL;rw[mem_filter,mem_range]
theorem WY{th:List Nat}{i a:Nat}(h:th[i]? =some a):(nI th)[i]? =some (.int (a:Int)):=by
 unfold nI;rw[ae4,h];rfl
theorem oK{th:List Nat}{i:Nat}{x:V}(h:(nI th)[i]? =some x):∃a:Nat,th[i]? =some a/\x=.int (a:Int):=by
 unfold nI at h;rw[ae4]at h
 cases e:th[i]? with
 |none=>rw[e]at h;cases h
 |some a=>rw[e]at h;cases h;exact⟨a,rfl,rfl⟩
theorem jP(th:List Nat):(nI th).length=th.length:=length_map _
section
variable{P:afL}{w:agC}{K:PySem.W.Frag}{mg:Str->Option Value}{base:Heap}{t:Ad}
noncomputable def OU:Sp:=λvs H Q _=>∃(l:Addr)(xs:List V)(n:Nat)(sv:List aY)(i:Nat)(p:aY)(a b:Int),vs=[.ref l,.int (i:Nat),.int a,.int b]/\H l=some (.lst xs)/\IsAll H xs (sv.map (bN n))/\sv[i]? =some p/\
 ∀H',Same H H'->Q (oV (fR p.1 p.2 a b)) H'
theorem FK(T:aP K mg t):FnOk P w K mg base aM 2 t.zU t.xI ["several","place","one","other"] OU:=by
 refine T.AZ.ok QE (λvs H Q E h=>?_) (λcdv A outer s H vs Q E hr h=>?_)
 ·obtain⟨l,xs,n,sv,i,p,a,b,rfl,_⟩:=h;rfl
 ·obtain⟨l,xs,n,sv,i,p,a,b,rfl,el,hxs,hp,q⟩:=h;refine⟨_,(aC (aI (aG (FL T) (hr.mono (by decide)) rfl T.GR T.A0.kp T.JO .nil aH (aA (aU (aV K) (aU (aV K) (aU (aV K) (pv 0) (pv 1) (λ_ _=>rfl)) pe_int (λ_ _=>rfl)) pe_int (λ_ _=>rfl)) (aA (aU (aV K) (aU (aV K) (pv 0) (pv 1) (λ_ _=>rfl)) pe_int (λ_ _=>rfl)) (aA (pv 2) (aA (pv 3) pa_nil))))))),?_⟩;have hi:i<xs.length:=by rw[hxs.length,length_map];exact(ae3.mp hp).1
  obtain⟨x,hx⟩:∃x,xs[i]? =some x:=⟨_,aeY hi⟩
  obtain⟨p',hp',_,ip⟩:=kH hxs hx;rw[hp]at hp';cases hp';obtain⟨pa,o,rfl,e,io⟩:=kJ ip;obtain⟨oa,ob,ys,rfl,ea,eb,hys⟩:=eH io;walk_at"rd";refine dX el (atI_of rfl hx) ?_;walk_at"rd";refine dX el (atI_of rfl hx) ?_;walk_at"rd";exact⟨_,p.1,p.2,a,b,rfl,.tup eb hys,q⟩
noncomputable def dN:Str:="greatest_place"++".<locals>."++"<lambda>"
noncomputable def dP:Pos:=⟨247,27,247,78⟩
theorem R5{σ:St}{H:Hp}{Q:VK}{Pt:Addr}{qual:Str}{pos:Pos}{fm:List (Option Nat)}{lt:R2}{ta:TA}{te:TE}(h:ta σ H λvs H1=>cO H1 Pt qual pos/\∃l xs x0,vs=[.ref l]/\xs[0]? =some x0/\
 ∀(c:Addr)(H2:Hp),SameT Pt H1 H2->jZ H2 Pt qual pos c->H2 l=some (.lst xs)/\∃W:Nat->Nat->V->Hp->Prop,AS K σ l xs lt te (λv=>(bR fm σ).set 0 (some v)) (λH=>H c=some (.ext (i8 c qual))) W Q/\
  te ((bR fm σ).set 0 (some x0)) H2 λk H3=>W 1 0 k H3):CP K Pt qual pos fm lt ta te σ H Q:=h
theorem dC{H H':Hp}{Pt:Addr}{qual:Str}{pos:Pos}(h:cO H Pt qual pos)(s:Same H H'):cO H' Pt qual pos:=by
 rcases h with z|⟨c,z,y⟩
 ·exact .inl (s _ _ z)
 ·exact .inr ⟨c,s _ _ z,s _ _ y⟩
theorem qK{H H':Hp}{Pt c:Addr}{qual:Str}{pos:Pos}(h:jZ H Pt qual pos c)(s:Same H H'):jZ H' Pt qual pos c:=⟨s _ _ h.1,s _ _ h.2⟩
theorem jC{H:Hp}{Pt:Addr}{qual:Str}{pos:Pos}(h:cO H Pt qual pos):∃ps,H Pt=some (.tbl ps):=by
 rcases h with z|⟨c,z,y⟩
 ·exact⟨_,z⟩
 ·exact⟨_,z⟩
theorem nX{H H':Hp}{Pt:Addr}{tb:Array Value}(hp:H Pt=some (.tbl tb))(s:SameT Pt H H'){xs:List V}{n:Nat}{sv:List aY}(h:IsAll H xs (sv.map (bN n))):IsAll H' xs (sv.map (bN n)):=
 h.tmono (λc us e=>s _ _ e (bJ e hp (by intro z;cases z))) (eX _ _)
structure pQ (sv:List aY) (a b:Int) (i:Nat) (k:Int):Prop where
 at':cR sv a b i=some k
 most:∀j k',cR sv a b j=some k'->k'<=k
 first:∀j k',j<i->cR sv a b j=some k'->k'<k
theorem M3{sv:List aY}{a b:Int}{i i':Nat}{k k':Int}(h:pQ sv a b i k)(h':pQ sv a b i' k'):i=i':=by
 have e:k=k':=Int.le_antisymm (h'.most _ _ h.at') (h.most _ _ h'.at');subst e;rcases Nat.lt_trichotomy i i' with g|g|g
 ·have:=h'.first i k g h.at';lia
 ·exact g
 ·have:=h.first i' k g h'.at';lia
theorem TW(sv:List aY)(a b:Int)(m:Nat):(dL sv a b m).Pairwise (· < ·):=af7.filter _ (pairwise_lt_range)
noncomputable def OM(Pt:Addr):Sp:=λvs H Q _=>∃(l:Addr)(xs:List V)(n:Nat)(sv:List aY)(a b:Int),vs=[.ref l,.int a,.int b]/\H l=some (.lst xs)/\IsAll H xs (sv.map (bN n))/\sv.length<=3/\(∃i k,cR sv a b i=some k)/\cO H Pt dN dP/\
 ∀H'(i:Nat)k,SameT Pt H H'->cO H' Pt dN dP->pQ sv a b i k->Q (.int (i:Nat)) H'
theorem VL(T:aP K mg t){c Pt:Addr}(B:jY K base mg "greatest_place" c Pt):FnOk P w K mg base aM 9 t.zO t.xC ["several","one","other"] (OM Pt):=by
 refine T.K2.okC B T.GP sc_greatest_place (λvs H Q E h=>?_) (λA outer s H vs Q E hr h=>?_)
 ·obtain⟨l,xs,n,sv,a,b,rfl,_⟩:=h;rfl
 ·obtain⟨l,xs,n,sv,a,b,rfl,el,hxs,l3,hex,tb,q⟩:=h
  refine⟨_,(aE (hV (i:=3) sc_greatest_place.nd rfl rfl rfl rfl ⟨aeW,aeW,aeW,(.inl rfl),(.inl rfl),(.inl rfl),aeW⟩ (M:=["place","one","other","several"]) (.own (.free 1 rfl rfl (.free 2 rfl rfl (.free 0 rfl rfl .nil)))) (cB rfl) rfl (by decide +kernel) (bU rfl T.bP (aA (bC (cK K) (by rfl) T.cJ cL (aA (pv 0) pa_nil)) pa_nil)) (λC fp s1 H1=>⟨aN (i:=0) (show(["place","one","other","several"]:List Str).Nodup by decide +kernel) rfl (afM rfl),eV (aZ uV (aG (FK T) (hr.mono (by decide)) rfl T.GQ T.AZ.kp T.JN .nil aH (aA (pv 3) (aA (pv 0) (aA (pv 1) (aA (pv 2) pa_nil))))) pe_non (bD _)),(pv 0)⟩))
   (aC (aI (UI (c:=c) (P:=Pt) (M:=["place","one","other","several"]) (y:="place") rfl hr.depth (by rfl) T.uY (aA (pv 3) pa_nil) B.b rfl rfl rfl ⟨aeW,(.inl rfl),(.inl rfl),(.inl rfl),aeW,aeW⟩ rfl rfl rfl (.own (.free 1 rfl rfl (.free 2 rfl rfl (.free 0 rfl rfl .nil)))) rfl rfl (λ_ _ _ _ _=>rfl) jO
    (λq cd s1 H1=>aG (FK T) (((hr.in1 (k:=7)).deeper (k:=6) _).mono (by decide)) rfl T.GQ T.AZ.kp T.JN .nil aH (aA (pv 3) (aA (pv 0) (aA (pv 1) (aA (pv 2) pa_nil))))))))),?_⟩
  have hl:xs.length=sv.length:=by rw[hxs.length,length_map]
  walk_at"rd";refine⟨_,rfl,by lia,by lia,?_⟩;rw[hl,ae6]
  refine fN (bI (by lia)) (λj ys H'=>Same H H'/\ys=nI (dL sv a b j)) ⟨Same.refl _,rfl⟩ (by
   rintro j ys H' ⟨_,rfl⟩;rw[jP]
   exact TY _ _ _ _) ?_ ?_
  ·rintro j ys H1 hj ⟨s1,rfl⟩;obtain⟨p,hp⟩:∃p,sv[j]? =some p:=⟨_,aeY hj⟩
   have ed:cR sv a b j=fR p.1 p.2 a b:=by unfold cR;rw[hp];rfl
   walk_at"rd";rw[agI];refine⟨l,xs,n,sv,j,p,a,b,rfl,s1 _ _ el,hxs.same s1,hp,λH2 s2=>?_⟩;rw[TX,ed]
   cases hd:fR p.1 p.2 a b with
   |none=>
    rw[show oV none=V.non from rfl];walk_at"rd"
    exact⟨s1.trans s2,by simp⟩
   |some k=>
    rw[show oV (some k)=V.int k from rfl];walk_at"rd";refine⟨s1.trans s2,?_⟩;simp[nI]
  ·rintro ys H1 ⟨s1,rfl⟩ p hp;have s2:=Same.upd (o:=.lst (nI (dL sv a b sv.length))) hp;have hpl:upd H1 p (.lst (nI (dL sv a b sv.length))) p=some (.lst (nI (dL sv a b sv.length))):=aB;have s12:=s1.trans s2;generalize upd H1 p (.lst (nI (dL sv a b sv.length)))=H2 at s2 hpl s12;have tb2:cO H2 Pt dN dP:=dC tb s12;obtain⟨tbl,htb⟩:=jC tb2;have nlP:l≠Pt:=bJ (s12 _ _ el) htb (by intro z;cases z);have npP:p≠Pt:=bJ hpl htb (by intro z;cases z);obtain⟨i0,k0,hd0⟩:=hex
   have hi0:i0<sv.length:=by
    refine Nat.lt_of_not_le λz=>?_;unfold cR at hd0;rw[af0 z]at hd0;cases hd0
   have hlt:∀{i k},cR sv a b i=some k->i∈dL sv a b sv.length:=λ{i k}h=>by
    refine mem_plc.mpr ⟨Nat.lt_of_not_le λz=>?_,by rw[h];rfl⟩;unfold cR at h;rw[af0 z]at h;cases h
   have ps0:0<(dL sv a b sv.length).length:=List.length_pos_of_mem (hlt hd0);obtain⟨f0,hf0⟩:∃f0,(dL sv a b sv.length)[0]? =some f0:=⟨_,aeY ps0⟩
   generalize hpp:dL sv a b sv.length=pl at *
   have pin:∀{j i:Nat},pl[j]? =some i->∃p k,sv[i]? =some p/\fR p.1 p.2 a b=some k/\cR sv a b i=some k:=λ{j i}h=>by
    have hm:=af3 h;rw[<-hpp]at hm;obtain⟨h1,h2⟩:=mem_plc.mp hm;obtain⟨p,hp⟩:∃p,sv[i]? =some p:=⟨_,aeY h1⟩
    have ed:cR sv a b i=fR p.1 p.2 a b:=by unfold cR;rw[hp];rfl
    cases hd:fR p.1 p.2 a b with
    |none=>rw[ed,hd]at h2;cases h2
    |some k=>exact⟨p,k,hp,hd,by rw[ed,hd]⟩
   walk_at"rd";refine R5 ?_;walk_at"rd";refine⟨tb2,p,nI pl,.int (f0:Nat),rfl,WY hf0,λc' H3 s3 tc=>⟨s3 _ _ hpl npP,?_⟩⟩;refine⟨λj bb kk H=>SameT Pt H2 H/\jZ H Pt dN dP c'/\∃i k,pl[bb]? =some i/\cR sv a b i=some k/\kk=.int k/\(∀j' i' k',j'<j->pl[j']? =some i'->cR sv a b i'=some k'->k'<=k)/\∀j' i' k',j'<bb->pl[j']? =some i'->cR sv a b i'=some k'->k'<k,⟨?_,?_,?_⟩,?_⟩
   ·rintro j bb kk H4 ⟨sH,hc,_⟩;exact⟨sH _ _ hpl npP,hc.2⟩
   ·rintro j bb kk H4 x ⟨s4,hc,i,k,hi,hk,rfl,hmax,hfst⟩ hx;obtain⟨i',hi',rfl⟩:=oK hx;obtain⟨p',k',hp',hd',hda'⟩:=pin hi';walk_at"rd";refine⟨l,xs,n,sv,i',p',a,b,rfl,s4 _ _ (s12 _ _ el) nlP,nX htb s4 (hxs.same s12),hp',λH5 s5=>?_⟩;rw[hd',show oV (some k')=V.int k' from rfl];walk_at"rd";by_cases g:k<k'
    ·rw[if_pos (decide_eq_true g)];refine⟨s4.trans s5.t,qK hc s5,i',k',hi',hda',rfl,λj2 i2 k2 h2 h3 h4=>?_,λj2 i2 k2 h2 h3 h4=>Int.lt_of_le_of_lt (hmax j2 i2 k2 h2 h3 h4) g⟩;by_cases e:j2=j
     ·subst e;rw[hi']at h3;cases h3;rw[hda']at h4;cases h4;exact Int.le_refl _
     ·exact Int.le_of_lt (Int.lt_of_le_of_lt (hmax j2 i2 k2 (by lia) h3 h4) g)
    ·rw[if_neg (by simpa using g)];refine⟨s4.trans s5.t,qK hc s5,i,k,hi,hk,rfl,λj2 i2 k2 h2 h3 h4=>?_,hfst⟩;by_cases e:j2=j
     ·subst e;rw[hi']at h3;cases h3;rw[hda']at h4;cases h4;lia
     ·exact hmax j2 i2 k2 (by lia) h3 h4
   ·rintro bb kk H4 x ⟨s4,hc,i,k,hi,hk,rfl,hmax,hfst⟩ hx;obtain⟨i',hi',rfl⟩:=oK hx;rw[hi]at hi';cases hi';refine q H4 i k (s12.t.trans s4) (.inr ⟨c',hc⟩) ⟨hk,λj2 k2 h2=>?_,λj2 k2 hlt2 h2=>?_⟩
    ·obtain⟨jj,hjj⟩:=List.getElem?_of_mem (hlt h2);exact hmax jj j2 k2 (by rw[jP];exact(ae3.mp hjj).1) hjj h2
    ·obtain⟨jj,hjj⟩:=List.getElem?_of_mem (hlt h2);refine hfst jj j2 k2 ?_ hjj h2;refine Nat.lt_of_not_le λz=>?_;have up:=TW sv a b sv.length;rw[hpp]at up;obtain⟨l1,e1⟩:=ae3.mp hi;obtain⟨l2,e2⟩:=ae3.mp hjj;rcases Nat.lt_or_eq_of_le z with z|z
     ·have:=pairwise_iff_getElem.mp up bb jj l1 l2 z;lia
     ·subst z;lia
   ·obtain⟨p',k',hp',hd',hda'⟩:=pin hf0;walk_at"rd";refine⟨l,xs,n,sv,f0,p',a,b,rfl,s3 _ _ (s12 _ _ el) nlP,nX htb s3 (hxs.same s12),hp',λH5 s5=>?_⟩;rw[hd',show oV (some k')=V.int k' from rfl];refine⟨s3.trans s5.t,qK tc s5,f0,k',hf0,hda',rfl,λj2 i2 k2 h2 h3 h4=>?_,λj2 _ _ h2=>absurd h2 (Nat.not_lt_zero _)⟩;have e:j2=0:=by lia
    subst e;rw[hf0]at h3;cases h3;rw[hda']at h4;cases h4;exact Int.le_refl _
end
noncomputable def eU(th:List Nat):List Nat:=th.drop 1++th.take 1
theorem DP(th:List Nat):(eU th).length=th.length:=by
 unfold eU;rw[length_append,length_drop,length_take];lia
theorem QY{th:List Nat}{i:Nat}(h:i<th.length):(eU th)[i]? =th[(i+1)%th.length]? :=by
 unfold eU;by_cases z:i+1<th.length
 ·rw[Nat.mod_eq_of_lt z,agU (by rw[length_drop];lia),List.getElem?_drop,Nat.add_comm]
 ·have e:i+1=th.length:=by lia
  rw[e,Nat.mod_self,agQ (by rw[length_drop];lia),length_drop,List.getElem?_take,if_pos (by lia)]
  congr 1
  lia
theorem abL(xs:List V)(h:1<=xs.length):iJ xs (some 1) none=xs.drop 1:=by
 have e1:HT.cS xs.length 0 (some 1)=1:=by
  have:=HT.DI xs.length 0 1;rw[show((1:Nat):Int)=1 from rfl]at this;rw[this];lia
 unfold iJ;rw[e1,HT.DH,take_of_length_le (by rw[length_drop];lia)]
theorem abM(xs:List V)(h:1<=xs.length):iJ xs none (some 1)=xs.take 1:=by
 have e1:HT.cS xs.length xs.length (some 1)=1:=by
  have:=HT.DI xs.length xs.length 1;rw[show((1:Nat):Int)=1 from rfl]at this;rw[this];lia
 unfold iJ;rw[e1,HT.DH,List.drop_zero]
theorem WX(th:List Nat):(nI th).drop 1++(nI th).take 1=nI (eU th):=by
 unfold nI eU;rw[map_append,List.map_drop,List.map_take]
theorem DY{K:PySem.W.Frag}{H:Hp}{Q:VK}{a:Addr}{xs:List V}{lo hi:Option Int}(e:H a=some (.lst xs))(h:∀p,H p=none->Q (.ref p) (upd H p (.lst (iJ xs lo hi)))):uC K (.ref a) lo hi H Q:=⟨a,xs,rfl,SqL.of e,h⟩
theorem ad4{n:Nat}{sv:List aY}{a b:Nat}{k:Int}(h:(a,b,k)∈e9 n sv):∃i,cR sv a b i=some k:=by
 obtain⟨p,hp,h⟩:=mem_flatMap.mp h;obtain⟨i,hi⟩:=List.getElem?_of_mem hp;refine⟨i,?_⟩;unfold cR;rw[hi];exact(mem_dm.mp h).2.2.2
noncomputable def Top(sv:List aY)(a b:Int)(p:Int×Int):Prop:=∃(i:Nat)(k:Int),p=(a,(i:Int))/\pQ sv a b i k
noncomputable def mR(sv:List aY)(th:List Nat)(m:Nat)(prs:List (Int×Int)):Prop:=prs.length=m/\∀(i:Nat)(a b:Nat),i<m->th[i]? =some a->(eU th)[i]? =some b->∃p,prs[i]? =some p/\Top sv a b p
theorem acZ{sv:List aY}{th:List Nat}{prs prs':List (Int×Int)}(h:mR sv th th.length prs)(h':mR sv th th.length prs'):prs=prs':=by
 refine aiF λi=>?_;by_cases hi:i<th.length
 ·obtain⟨a,ha⟩:∃a,th[i]? =some a:=⟨_,aeY hi⟩
  obtain⟨b,hb⟩:∃b,(eU th)[i]? =some b:=⟨_,aeY (by rw[DP];exact hi)⟩
  obtain⟨p,e,j,k,rfl,t1⟩:=h.2 i a b hi ha hb;obtain⟨p',e',j',k',rfl,t2⟩:=h'.2 i a b hi ha hb;rw[e,e',M3 t1 t2]
 ·rw[af0 (by rw[h.1];lia),af0 (by rw[h'.1];lia)]
section
variable{P:afL}{w:agC}{K:PySem.W.Frag}{mg:Str->Option Value}{base:Heap}{t:Ad}
noncomputable def O2(Pt:Addr):Sp:=λvs H Q _=>∃(l:Addr)(xs:List V)(n:Nat)(sv:List aY),vs=[.ref l]/\H l=some (.lst xs)/\IsAll H xs (sv.map (bN n))/\1<=sv.length/\sv.length<=3/\(∀p∈sv,j0 n p)/\n<=8/\cO H Pt dN dP/\
 ∀H',SameT Pt H H'->cO H' Pt dN dP->(lv n (e9 n sv)≠none->Q .non H')/\∀p zs th prs,lv n (e9 n sv)=none->iR n (e9 n sv) th->mR sv th th.length prs->H p=none->H' p=some (.lst zs)->IsAll H' zs (prs.map aJ)->Q (.ref p) H'
theorem VX(T:aP K mg t){c Pt:Addr}(B:jY K base mg "greatest_place" c Pt):FnOk P w K mg base aM 10 t.z5 t.xQ ["several"] (O2 Pt):=by
 refine T.LK.ok sc_bar_for (λvs H Q E h=>?_) (λcdv A outer s H vs Q E hr h=>?_)
 ·obtain⟨l,xs,n,sv,rfl,_⟩:=h;rfl
 ·obtain⟨l,xs,n,sv,rfl,el,hxs,l1,l3,ok,n8,tb,q⟩:=h
  refine⟨_,(aE (cI (aG (VB T) (hr.mono (by decide)) rfl T.XR T.KR.kp T.adC .nil aH (aA (pv 0) pa_nil)))
   (aE (aT (i:=1) sc_bar_for.nd rfl (afM rfl) (aG (FF T) (hr.mono (by decide)) rfl T.GI T.AU.kp T.JI .nil aH (aA (aG (VR T) (hr.mono (by decide)) rfl T.X5 T.LE.kp T.adQ .nil aH (aA (pv 0) pa_nil)) (aA (aG (VQ T) (hr.mono (by decide)) rfl T.X4 T.LD.kp T.adP .nil aH (aA (pv 0) pa_nil)) pa_nil))))
   (aE (bF (aZ lJ (pv 1) pe_non (bD _)) (aC (aI pe_non)) bE)
   (aE (aT (i:=2) sc_bar_for.nd rfl (afM rfl) (bB FB (E3 (HF K) (pv 1) (EX pe_int) EY) (E3 (HF K) (pv 1) EY (EX pe_int))))
   (aC (aI (cQ rfl ⟨aeW,aeW,aeW,aeW,(.inl rfl),aeW⟩ (M:=["one","other","several"]) (.own (.own (.free 0 rfl rfl .nil))) (pA (i5 rfl (i5 rfl o9))) rfl (by decide +kernel) (ZR K rfl T.WS (aA (pv 1) (aA (pv 2) pa_nil))) (λC fp s1 H1=>⟨gF K (n:=2) rfl (cF (aN (i:=0) (show(["one","other","several"]:List Str).Nodup by decide +kernel) rfl (afM rfl)) (cF (aN (i:=1) (show(["one","other","several"]:List Str).Nodup by decide +kernel) rfl (afM rfl)) gA)),dM,(bH (aA (pv 0) (aA (aG (VL T B) (hr.mono (by decide)) rfl T.GP T.K2.kp T.adK .nil aH (aA (pv 2) (aA (pv 0) (aA (pv 1) pa_nil)))) pa_nil)))⟩)))))))),?_⟩
  walk_at"rd";refine⟨l,xs,n,sv,rfl,el,hxs,l1,l3,ok,λH1 s1=>?_⟩;walk_at"rd";refine⟨l,xs,n,sv,rfl,s1 _ _ el,hxs.same s1,l1,?_⟩;walk_at"rd";refine⟨l,xs,n,sv,rfl,s1 _ _ el,hxs.same s1,l3,n8,λr zs H2 s2 _ hz iz=>?_⟩;walk_at"rd";have s12:=s1.trans s2;refine⟨r,_,n,zs,rfl,n8,hz,iz,abG n sv,NC,λH3 s3=>⟨λhn=>?_,λp th hn hR hp e=>?_⟩⟩
  ·walk_at"rd";exact(q H3 (s12.trans s3).t (dC tb (s12.trans s3))).1 hn
  ·obtain⟨c2,cn⟩:=l4 hR;have s13:=s12.trans s3;have el3:=s13 _ _ el;have tb3:=dC tb s13;have hxs3:=hxs.same s13;have qq:=λH'(s:SameT Pt H3 H')=>q H' (s13.t.trans s);have ln:(nI th).length=th.length:=jP th;walk_at"rd";refine DZ ?_;walk_at"rd";refine D1 ?_;walk_at"rd";refine⟨1,rfl,?_⟩;refine D3 ?_;refine DY e λp1 hp1=>?_;rw[abL _ (by lia)];have f1:=Same.upd (o:=.lst ((nI th).drop 1)) hp1;walk_at"rd";refine DZ ?_;walk_at"rd";refine D3 ?_;refine D1 ?_;walk_at"rd";refine⟨1,rfl,?_⟩;refine DY (f1 _ _ e) λp2 hp2=>?_;rw[abM _ (by lia)];have f2:=Same.upd (o:=.lst ((nI th).take 1)) hp2;refine EB (f2 _ _ aB) aB (by rw[length_drop,length_take];exact bI (by lia)) λp3 hp3=>?_;rw[WX];have f3:=Same.upd (o:=.lst (nI (eU th))) hp3;have f13:=(f1.trans f2).trans f3;have e3:=f13 _ _ e;have er:upd (upd (upd H3 p1 (.lst ((nI th).drop 1))) p2 (.lst ((nI th).take 1))) p3 (.lst (nI (eU th))) p3=some (.lst (nI (eU th))):=aB;generalize upd (upd (upd H3 p1 (.lst ((nI th).drop 1))) p2 (.lst ((nI th).take 1))) p3 (.lst (nI (eU th)))=H4 at f13 e3 er;have tb4:=dC tb3 f13;obtain⟨tbl,htb⟩:=jC tb4;have nlP:l≠Pt:=bJ (f13 _ _ el3) htb (by intro z;cases z);have npP:p≠Pt:=bJ e3 htb (by intro z;cases z);have nrP:p3≠Pt:=bJ er htb (by intro z;cases z);walk_at"rd";refine Q7 ?_;walk_at"rd";refine⟨p,p3,rfl,⟨_,SqL.of e3⟩,⟨_,SqL.of er⟩,?_⟩
   refine YW (xs:=nI th) (ys:=nI (eU th)) (bI (by lia)) (by rw[jP,jP,DP]) (λj zs H'=>SameT Pt H4 H'/\cO H' Pt dN dP/\∃prs,IsAll H' zs (prs.map aJ)/\mR sv th j prs) ⟨SameT.refl _ _,tb4,[],.nil,rfl,λi a b h=>absurd h (Nat.not_lt_zero _)⟩ (by
    rintro j zs H' ⟨_,_,prs,h,h2⟩;rw[h.length,length_map,h2.1]
    exact aeU _) (λj zs H' _ h=>⟨SqL.of (h.1 _ _ e3 npP),SqL.of (h.1 _ _ er nrP)⟩) ?_ ?_
   ·rintro j x y zs H5 T1 hx hy ⟨s5,tb5,prs,iz,hB⟩ hT1;obtain⟨a,ha,rfl⟩:=oK hx;obtain⟨b,hb,rfl⟩:=oK hy;have hj:j<th.length:=(ae3.mp ha).1;have g1:=Same.upd (o:=.tup [V.int (a:Int),V.int (b:Int)]) hT1;refine fY aB rfl ?_;have el5:=g1 _ _ (s5 _ _ (f13 _ _ el3) nlP);have hxs5:=(nX htb s5 (hxs3.same f13)).same g1;have tb6:=dC tb5 g1;have iz6:=iz.same g1;have s56:=s5.trans g1.t;generalize upd H5 T1 (.tup [V.int (a:Int),V.int (b:Int)])=H6 at el5 hxs5 tb6 iz6 s56;obtain⟨a',b',k,ha',hb',hk⟩:=aaA hR hj;rw[ha]at ha';cases ha';rw[<-QY hj,hb]at hb';cases hb';obtain⟨i0,hi0⟩:=ad4 hk;walk_at"rd";refine⟨l,xs,n,sv,a,b,rfl,el5,hxs5,l3,⟨i0,k,hi0⟩,tb6,λH7 i k2 s7 tb7 hd=>?_⟩;walk_at"rd";refine⟨cP,λo ho=>?_⟩;have g2:=Same.upd (o:=.tup [V.int (a:Int),V.int (i:Int)]) ho;obtain⟨tbl6,htb6⟩:=jC tb6;refine⟨(s56.trans s7).trans g2.t,dC tb7 g2,prs++[((a:Int),(i:Int))],?_,by rw[length_append,hB.1];rfl,λi2 a2 b2 h2 h3 h4=>?_⟩
    ·rw[map_append];refine((iz6.tmono (λc us e=>s7 _ _ e (bJ e htb6 (by intro z;cases z))) (gX _)).same g2).append (.cons (.tup aB (.cons (.int _) (.cons (.int _) .nil))) .nil)
    ·by_cases z:i2<j
     ·obtain⟨p5,h5,h6⟩:=hB.2 i2 a2 b2 z h3 h4;exact⟨p5,by rw[agU (by rw[hB.1];exact z)];exact h5,h6⟩
     ·have e2:i2=j:=by lia
      subst e2;rw[ha]at h3;cases h3;rw[hb]at h4;cases h4;exact⟨_,by rw[agQ (by rw[hB.1];exact aeU _),hB.1,Nat.sub_self];rfl,i,k2,rfl,hd⟩
   ·rintro zs H5 ⟨s5,tb5,prs,iz,hB⟩ p5 hp5;rw[jP]at hB;have g1:=Same.upd (o:=.lst zs) hp5;have s35:SameT Pt H3 (upd H5 p5 (.lst zs)):=(f13.t.trans s5).trans g1.t;walk_at"rd";refine(qq _ s35 (dC tb5 g1)).2 p5 zs th prs hn hR hB ?_ aB (iz.same g1)
    cases hh:H p5 with
    |none=>rfl
    | some u=>
     have:=s5 _ _ (f13 _ _ (s13 _ _ hh)) (λz=>by
      obtain⟨tb0,htb0⟩:=jC tb5;rw[z]at hp5;rw[hp5]at htb0
      cases htb0)
     rw[hp5]at this;cases this
noncomputable def NO:Sp:=λvs H Q _=>∃x n ps st,vs=[x,.int st]/\Is H x (aX n ps)/\Ord n ps/\1<=st/\st<=999/\
 ∀H',Same H H'->(lv n (cW n ps st n)≠none->Q .non H')/\∀p th,lv n (cW n ps st n)=none->iR n (cW n ps st n) th->H p=none->H' p=some (.lst (nI th))->Q (.ref p) H'
theorem U2(T:aP K mg t):FnOk P w K mg base aM 6 t.yW t.wI ["order","step"] NO:=by
 refine T.KK.ok PV (λvs H Q E h=>?_) (λcdv A outer s H vs Q E hr h=>?_)
 ·obtain⟨x,n,ps,st,rfl,_⟩:=h;rfl
 ·obtain⟨x,n,ps,st,rfl,hx,ho,h1,h2,q⟩:=h
  refine⟨_,(aE (cI (aG (uS T) (hr.mono (by decide)) rfl T.vD T.pZ.kp T.yO .nil aH (aA (pv 0) pa_nil)))
   (aE (cI (aG (VA T) (hr.mono (by decide)) rfl T.XQ T.KQ.kp T.adB .nil aH (aA (pv 1) pa_nil)))
   (aC (aI (aG (FF T) (hr.mono (by decide)) rfl T.GI T.AU.kp T.JI .nil aH (aA (aU (aV K) (pv 0) pe_int (λ_ _=>rfl)) (aA (aG (FS T) (hr.mono (by decide)) rfl T.GY T.A9.kp T.JV .nil aH (aA (pv 0) (aA (pv 1) pa_nil))) pa_nil))))))),?_⟩
  walk_at"rd";refine⟨_,_,rfl,hx,ho.okd,ho.yes,λH1 s1=>?_⟩;walk_at"rd";refine⟨_,_,rfl,.int st,C6 h1 h2,?_⟩;obtain⟨a,b,xs,rfl,ea,eb,hxs⟩:=eH (hx.same s1);walk_at"rd";refine⟨_,n,ps,st,rfl,hx.same s1,ho.hi,λl ys H2 s2 hl hl2 hys=>?_⟩;walk_at"rd";refine⟨l,_,n,ys,rfl,ho.hi,hl2,hys,IS n ps st,IP,λH3 s3=>⟨λhn=>(q H3 ((s1.trans s2).trans s3)).1 hn,λp th hn hR hp e=>(q H3 ((s1.trans s2).trans s3)).2 p th hn hR ((s1.trans s2).free hp) e⟩⟩
end
theorem uK{H:Hp}{xs:List V}{ps:List (Int×Int)}{i:Nat}{x:V}(h:IsAll H xs (ps.map aJ))(hx:xs[i]? =some x):∃p r,ps[i]? =some p/\x=.ref r/\H r=some (.tup [.int p.1,.int p.2]):=by
 obtain⟨d,ed,id⟩:=h.get' hx;rw[ae4]at ed
 cases e:ps[i]? with
 |none=>rw[e]at ed;cases ed
 | some p=>
  rw[e]at ed;cases ed;unfold aJ at id
  cases id with
  |@tup r ys _ er hys=>
   obtain rfl:=lA hys;exact⟨p,r,rfl,rfl,er⟩
noncomputable def gL(ps:List (Int×Int))(c:Int):List Int:=(ps.filter λp=>p.2==c).map (·.1)
noncomputable def gN(ps:List (Int×Int))(c:Int):List Int:=(ps.filter λp=>p.1==c).map (·.2)
noncomputable def o8(ps:List (Int×Int))(c:Int):Int:=((gL ps c).length:Int)-((gN ps c).length:Int)
noncomputable def cU(n:Nat)(ps:List (Int×Int)):List Int:=(range n).map λ(i:Nat)=>o8 ps (i:Int)
noncomputable def kR(hs:List Int)(v:Int):List Int:=((range hs.length).filter λi=>hs.getD i 0==v).map λ(i:Nat)=>(i:Int)
theorem acX(ps:List (Int×Int))(c:Int)(k:Nat)(p:Int×Int)(h:ps[k]? =some p):gL (ps.take (k+1)) c=gL (ps.take k) c++(if p.2==c then[p.1] else[]):=by
 unfold gL;rw[take_add_one,h,filter_append,map_append];show _++((List.filter _ [p]).map _)=_
 rw[filter_cons];split <;> rfl
theorem aeE(ps:List (Int×Int))(c:Int)(k:Nat)(p:Int×Int)(h:ps[k]? =some p):gN (ps.take (k+1)) c=gN (ps.take k) c++(if p.1==c then[p.2] else[]):=by
 unfold gN;rw[take_add_one,h,filter_append,map_append];show _++((List.filter _ [p]).map _)=_
 rw[filter_cons];split <;> rfl
theorem acY(ps:List (Int×Int))(c:Int):(gL ps c).length<=ps.length:=by unfold gL;rw[length_map];exact length_filter_le _ _
theorem aeF(ps:List (Int×Int))(c:Int):(gN ps c).length<=ps.length:=by unfold gN;rw[length_map];exact length_filter_le _ _
noncomputable def kQ(hs:List Int)(v:Int)(k:Nat):List Int:=((range k).filter λi=>hs.getD i 0==v).map λ(i:Nat)=>(i:Int)
theorem ad5(hs:List Int)(v:Int)(k:Nat):kQ hs v (k+1)=kQ hs v k++(if hs.getD k 0==v then[(k:Int)] else[]):=by
 unfold kQ;rw[range_succ,filter_append,map_append];show _++((List.filter _ [k]).map _)=_
 rw[filter_cons];split <;> rfl
theorem ad6(hs:List Int)(v:Int)(k:Nat):(kQ hs v k).length<=k:=by
 unfold kQ;rw[length_map];have:=length_filter_le (λi=>hs.getD i 0==v) (range k);rw[length_range]at this;exact this
theorem len_sub:∀{L ns:List Int},L.Nodup->(∀x∈L,x∈ns)->L.length<=ns.length
 |[],ns,_,_=>ae2 _
 |x::L,ns,nd,sub=>by
  have hx:=sub x mem_cons_self;rw[nodup_cons]at nd;have p1:=(List.perm_cons_erase hx).length_eq;have:=len_sub (L:=L) (ns:=ns.erase x) nd.2 λy hy=>(List.mem_erase_of_ne (λz:y=x=>nd.1 (z▸hy))).mpr (sub y (mem_cons_of_mem _ hy));simp only[length_cons]at p1 ⊢;lia
theorem WG{ns ms:List Int}(h:j1 ns ms):ms.Nodup:=h.up.imp λh=>Int.ne_of_lt h
theorem FZ{ns ms:List Int}(h:j1 ns ms):ms.length<=ns.length:=len_sub (WG h) λx hx=>(h.mem x).mp hx
section
variable{P:afL}{w:agC}{K:PySem.W.Frag}{mg:Str->Option Value}{base:Heap}{t:Ad}
noncomputable def OL:Sp:=λvs H Q _=>∃(x:V)(ps:List (Int×Int))(c:Int),vs=[x,.int c]/\Is H x (.tuple (ps.map aJ))/\ps.length<=1000/\∀H',Same H H'->Q (.int (o8 ps c)) H'
theorem VJ(T:aP K mg t):FnOk P w K mg base aM 1 t.zN t.xB ["pairs","thing"] OL:=by
 refine T.K1.ok sc_height (λvs H Q E h=>?_) (λcdv A outer s H vs Q E hr h=>?_)
 ·obtain⟨x,ps,c,rfl,_⟩:=h;rfl
 ·obtain⟨x,ps,c,rfl,hx,sz,q⟩:=h
  refine⟨_,(aE (hV (i:=2) sc_height.nd rfl rfl rfl rfl ⟨aeW,aeW,aeW,(.inl rfl),aeW⟩ (M:=["one","other","thing"]) (.own (.own (.free 1 rfl rfl .nil))) (pA (i5 rfl (i5 rfl o9))) rfl (by decide +kernel) (i3 K (pv 0)) (λC fp s1 H1=>⟨gF K (n:=2) rfl (cF (aN (i:=0) (show(["one","other","thing"]:List Str).Nodup by decide +kernel) rfl (afM rfl)) (cF (aN (i:=1) (show(["one","other","thing"]:List Str).Nodup by decide +kernel) rfl (afM rfl)) gA)),eV (aZ (eC hr.units) (pv 1) (pv 2) (bD _)),(pv 0)⟩))
   (aE (hV (i:=3) sc_height.nd rfl rfl rfl rfl ⟨aeW,aeW,aeW,(.inl rfl),aeW⟩ (M:=["one","other","thing"]) (.own (.own (.free 1 rfl rfl .nil))) (pA (i5 rfl (i5 rfl o9))) rfl (by decide +kernel) (i3 K (pv 0)) (λC fp s1 H1=>⟨gF K (n:=2) rfl (cF (aN (i:=0) (show(["one","other","thing"]:List Str).Nodup by decide +kernel) rfl (afM rfl)) (cF (aN (i:=1) (show(["one","other","thing"]:List Str).Nodup by decide +kernel) rfl (afM rfl)) gA)),eV (aZ (eC hr.units) (pv 0) (pv 2) (bD _)),(pv 1)⟩))
   (aC (aI (bB jM (bC (cK K) (by rfl) T.cJ cL (aA (pv 2) pa_nil)) (bC (cK K) (by rfl) T.cJ cL (aA (pv 3) pa_nil))))))),?_⟩
  cases hx with
  |@tup b xs _ eb hxs=>
  have hl:xs.length=ps.length:=by rw[hxs.length,length_map]
  walk_at"rd";refine⟨b,rfl,⟨xs,SqT.of eb⟩,?_⟩
  refine lO (K:=K) (xs:=xs) (bI (by lia)) (λj zs H'=>Same H H'/\zs=(gL (ps.take j) c).map V.int) ⟨Same.refl _,rfl⟩ (by
   rintro j zs H' ⟨_,rfl⟩;rw[length_map];have:=acY (ps.take j) c;rw[length_take]at this
   lia) (λj zs H' _ h=>SqT.of (h.1 _ _ eb)) ?_ ?_
  ·rintro j x zs H2 hx ⟨s2,rfl⟩;obtain⟨p0,r,hp0,rfl,er⟩:=uK (hxs.same s2) hx;walk_at"rd";refine fY er rfl ?_;walk_at"rd";rw[acX _ _ _ _ hp0];refine bK (λg=>?_) (λg=>?_)
   ·have g':(p0.2==c)=true:=g;walk_at"rd";rw[if_pos g',map_append];exact⟨s2,rfl⟩
   ·have g':(p0.2==c)=false:=g;rw[if_neg (by rw[g'];exact afK),append_nil];exact⟨s2,rfl⟩
  ·rintro zs H2 ⟨s2,rfl⟩ l1 hl1;rw[hl,take_length];have s3:=s2.trans (Same.upd (o:=.lst ((gL ps c).map V.int)) hl1);have e1:upd H2 l1 (.lst ((gL ps c).map V.int)) l1=some (.lst ((gL ps c).map V.int)):=aB;generalize upd H2 l1 (.lst ((gL ps c).map V.int))=H3 at s3 e1;walk_at"rd";refine⟨b,rfl,⟨xs,SqT.of (s3 _ _ eb)⟩,?_⟩
   refine lO (K:=K) (xs:=xs) (bI (by lia)) (λj zs H'=>Same H3 H'/\zs=(gN (ps.take j) c).map V.int) ⟨Same.refl _,rfl⟩ (by
    rintro j zs H' ⟨_,rfl⟩;rw[length_map];have:=aeF (ps.take j) c;rw[length_take]at this
    lia) (λj zs H' _ h=>SqT.of (h.1 _ _ (s3 _ _ eb))) ?_ ?_
   ·rintro j x zs H4 hx ⟨s4,rfl⟩;obtain⟨p0,r,hp0,rfl,er⟩:=uK ((hxs.same s3).same s4) hx;walk_at"rd";refine fY er rfl ?_;walk_at"rd";rw[aeE _ _ _ _ hp0];refine bK (λg=>?_) (λg=>?_)
    ·have g':(p0.1==c)=true:=g;walk_at"rd";rw[if_pos g',map_append];exact⟨s4,rfl⟩
    ·have g':(p0.1==c)=false:=g;rw[if_neg (by rw[g'];exact afK),append_nil];exact⟨s4,rfl⟩
   ·rintro zs H4 ⟨s4,rfl⟩ l2 hl2;rw[hl,take_length];have s5:=s4.trans (Same.upd (o:=.lst ((gN ps c).map V.int)) hl2);have e2:upd H4 l2 (.lst ((gN ps c).map V.int)) l2=some (.lst ((gN ps c).map V.int)):=aB;generalize upd H4 l2 (.lst ((gN ps c).map V.int))=H5 at s5 e2;have e1':=s5 _ _ e1;walk_at"rd";have q':=q H5 (s3.trans s5);unfold o8 at q';simpa using q'
noncomputable def NJ:Sp:=λvs H Q _=>∃(l:Addr)(hs:List Int)(v:Int),vs=[.ref l,.int v]/\H l=some (.lst (hs.map V.int))/\hs.length<=8/\∀r H',Same H H'->H r=none->H' r=some (.lst ((kR hs v).map V.int))->Q (.ref r) H'
theorem U0(T:aP K mg t):FnOk P w K mg base aM 1 t.yU t.wG ["heights","level"] NJ:=by
 refine T.KI.ok PU (λvs H Q E h=>?_) (λcdv A outer s H vs Q E hr h=>?_)
 ·obtain⟨l,hs,v,rfl,_⟩:=h;rfl
 ·obtain⟨l,hs,v,rfl,el,h8,q⟩:=h;refine⟨_,(aC (aI (cQ rfl ⟨aeW,aeW,(.inl rfl),(.inl rfl),aeW⟩ (M:=["thing","heights","level"]) (.own (.free 0 rfl rfl (.free 1 rfl rfl .nil))) (cB rfl) rfl (by decide +kernel) (bU rfl T.bP (aA (bC (cK K) (by rfl) T.cJ cL (aA (pv 0) pa_nil)) pa_nil)) (λC fp s1 H1=>⟨aN (i:=0) (show(["thing","heights","level"]:List Str).Nodup by decide +kernel) rfl (afM rfl),eV (aZ (eC hr.units) (aU (aV K) (pv 1) (pv 0) (λ_ _=>rfl)) (pv 2) (bD _)),(pv 0)⟩)))),?_⟩;walk_at"rd";refine⟨_,rfl,by simp,by simp;lia,?_⟩;rw[length_map,ae6]
  refine fN (bI (by lia)) (λi ys H'=>Same H H'/\ys=(kQ hs v i).map V.int) ⟨Same.refl _,rfl⟩ (by
   rintro i ys H' ⟨_,rfl⟩;rw[length_map]
   exact ad6 _ _ _) ?_ ?_
  ·rintro k ys H2 hk ⟨s2,rfl⟩;have el2:=s2 _ _ el;walk_at"rd";rw[agI,ad5];refine dX el2 (atI_of rfl (pB hk)) ?_;walk_at"rd";refine bK (λg=>?_) (λg=>?_)
   ·have g':(hs.getD k 0==v)=true:=g;walk_at"rd";rw[if_pos g',map_append];exact⟨s2,rfl⟩
   ·have g':(hs.getD k 0==v)=false:=g;rw[if_neg (by rw[g'];exact afK),append_nil];exact⟨s2,rfl⟩
  ·rintro ys H2 ⟨s2,rfl⟩ r hr';walk_at"rd"
   have hn:H r=none:=by
    cases e:H r with
    |none=>rfl
    |some u=>rw[s2 _ _ e]at hr';cases hr'
   exact q r _ (s2.trans (Same.upd hr')) hn aB
noncomputable def Rws(H:Hp)(hs:List Int)(zs:List V)(ms:List Int):Prop:=zs.length=ms.length/\∀(j:Nat)(v:Int),ms[j]? =some v->∃r,zs[j]? =some (.ref r)/\H r=some (.lst ((kR hs v).map V.int))
theorem Rws.is{H:Hp}{hs:List Int}{zs:List V}{ms:List Int}(h:Rws H hs zs ms):IsAll H zs (ms.map λv=>PyData.list ((kR hs v).map aiD)):=by
 induction ms generalizing zs with
 |nil=>
  obtain rfl:zs=[]:=eq_nil_of_length_eq_zero h.1
  exact .nil
 | cons v ms ih=>
  obtain⟨r,e1,e2⟩:=h.2 0 v rfl
  cases zs with
  |nil=>cases e1
  |cons z zs=>
   cases e1;exact .cons (.lst (.inl e2) (IsAll.ints _)) (ih ⟨by simpa using h.1,λj u hu=>by simpa using h.2 (j+1) u (by simpa using hu)⟩)
theorem Rws.same{H H':Hp}{hs:List Int}{zs:List V}{ms:List Int}(h:Rws H hs zs ms)(s:Same H H'):Rws H' hs zs ms:=⟨h.1,λj v e=>let⟨r,e1,e2⟩:=h.2 j v e;⟨r,e1,s _ _ e2⟩⟩
theorem Rws.snoc{H:Hp}{hs:List Int}{zs:List V}{ms:List Int}{v:Int}{r:Addr}(h:Rws H hs zs ms)(e:H r=some (.lst ((kR hs v).map V.int))):Rws H hs (zs++[.ref r]) (ms++[v]):=by
 refine⟨by simp[h.1],λj u hu=>?_⟩;by_cases g:j<ms.length
 ·rw[agU g]at hu;rw[agU (by rw[h.1];exact g)];exact h.2 j u hu
 ·have ej:j=ms.length:=by
   have:=(ae3.mp hu).1;simp at this;lia
  subst ej;rw[agQ (aeU _)]at hu;rw[agQ (by rw[h.1];exact aeU _),h.1];simp at hu ⊢;subst hu;exact e
noncomputable def NN:Sp:=λvs H Q _=>∃(x:V)(n:Nat)(ps:List (Int×Int)),vs=[x]/\Is H x (aX n ps)/\Ord n ps/\cH n ps=false/\
 ∀r zs ms H',Same H H'->H r=none->j1 (cU n ps) ms->H' r=some (.lst zs)->Rws H' (cU n ps) zs ms->Q (.ref r) H'
theorem U1(T:aP K mg t):FnOk P w K mg base aM 8 t.yV t.wH ["order"] NN:=by
 refine T.KJ.ok sc_row (λvs H Q E h=>?_) (λcdv A outer s H vs Q E hr h=>?_)
 ·obtain⟨x,n,ps,rfl,_⟩:=h;rfl
 ·obtain⟨x,n,ps,rfl,hx,ho,hb,q⟩:=h
  refine⟨_,(aE (cI (aG (uR T) (hr.mono (by decide)) rfl T.vC T.pY.kp T.yN .nil aH (aA (pv 0) pa_nil)))
   (aE (aT (i:=1) sc_row.nd rfl (Or.inr rfl) (cQ rfl ⟨aeW,aeW,aeW,(.inl rfl),aeW⟩ (M:=["thing","order"]) (.own (.free 0 rfl rfl .nil)) (cB rfl) rfl (by decide +kernel) (bU rfl T.bP (aA (aU (aV K) (pv 0) pe_int (λ_ _=>rfl)) pa_nil)) (λC fp s1 H1=>⟨aN (i:=0) (show(["thing","order"]:List Str).Nodup by decide +kernel) rfl (afM rfl),dM,(aG (VJ T) (hr.mono (by decide)) rfl T.XZ T.K1.kp T.adJ .nil aH (aA (aU (aV K) (pv 1) pe_int (λ_ _=>rfl)) (aA (pv 0) pa_nil)))⟩)))
   (aC (aI (cQ rfl ⟨aeW,aeW,aeW,(.inl rfl),aeW⟩ (M:=["level","heights"]) (.own (.free 1 rfl rfl .nil)) (cB rfl) rfl (by decide +kernel) (dZ K (ZO K rfl T.oJ rfl T.WT (aA (pv 1) pa_nil))) (λC fp s1 H1=>⟨aN (i:=0) (show(["level","heights"]:List Str).Nodup by decide +kernel) rfl (afM rfl),dM,(aG (U0 T) (hr.mono (by decide)) rfl T.XG T.KI.kp T.ac3 .nil aH (aA (pv 1) (aA (pv 0) pa_nil)))⟩)))))),?_⟩
  have n8:=ho.hi;walk_at"rd";refine⟨x,n,ps,rfl,hx,ho,hb,λH1 s1=>?_⟩;obtain⟨oa,ob,xs,rfl,ea,eb,hxs⟩:=eH (hx.same s1);walk_at"rd";refine⟨_,rfl,by lia,by lia,?_⟩;rw[ae6]
  refine fN (bI (by lia)) (λi ys H'=>Same H1 H'/\ys=((cU n ps).take i).map V.int) ⟨Same.refl _,rfl⟩ (by
   rintro i ys H' ⟨_,rfl⟩;rw[length_map,length_take]
   lia) ?_ ?_
  ·rintro k ys H2 hk ⟨s2,rfl⟩;have ea2:=s2 _ _ ea;walk_at"rd";refine⟨_,ps,_,rfl,.tup (s2 _ _ eb) (hxs.same s2),ho.sz,λH3 s3=>⟨s2.trans s3,?_⟩⟩
   have hu:(cU n ps)[k]? =some (o8 ps (k:Int)):=by
    unfold cU;rw[ae4,ahL hk];rfl
   rw[take_add_one,hu,map_append,agI];rfl
  ·rintro ys H2 ⟨s2,rfl⟩ l hl;have hlen:(cU n ps).length=n:=by unfold cU;rw[length_map,length_range]
   rw[take_of_length_le (by lia)];have s3:=s2.trans (Same.upd (o:=.lst ((cU n ps).map V.int)) hl);have e1:upd H2 l (.lst ((cU n ps).map V.int)) l=some (.lst ((cU n ps).map V.int)):=aB;generalize upd H2 l (.lst ((cU n ps).map V.int))=H3 at s3 e1;walk_at"rd";refine RG ?_;walk_at"rd";refine⟨l,cU n ps,rfl,SqL.of e1,by lia,λr ms hr' nb=>?_⟩;have lm:=FZ nb;have s4:=s3.trans (Same.upd (o:=.lst (ms.map V.int)) hr');have e2:upd H3 r (.lst (ms.map V.int)) r=some (.lst (ms.map V.int)):=aB;have e1':upd H3 r (.lst (ms.map V.int)) l=some (.lst ((cU n ps).map V.int)):=(Same.upd hr') _ _ e1;generalize upd H3 r (.lst (ms.map V.int))=H4 at s4 e2 e1';refine⟨r,rfl,⟨_,SqL.of e2⟩,?_⟩
   refine gE (K:=K) (xs:=ms.map V.int) (bI (by rw[length_map];lia)) (λj zs H'=>Same H4 H'/\Rws H' (cU n ps) zs (ms.take j)) ⟨Same.refl _,rfl,λj v e=>by simp at e⟩ (by
    rintro j zs H' ⟨_,h⟩;rw[h.1,length_take]
    lia) (λj zs H' _ h=>SqL.of (h.1 _ _ e2)) ?_ ?_
   ·rintro j x zs H5 hx5 ⟨s5,iz⟩;rw[ae4]at hx5
    cases em:ms[j]? with
    |none=>rw[em]at hx5;cases hx5
    |some v=>
    rw[em]at hx5;cases hx5;walk_at"rd";refine⟨l,cU n ps,v,rfl,s5 _ _ e1',by lia,λr6 H6 s6 hn6 e6=>⟨s5.trans s6,?_⟩⟩;rw[take_add_one,em];exact(iz.same s6).snoc e6
   ·rintro zs H5 ⟨s5,iz⟩ r6 hr6;rw[take_of_length_le (by rw[length_map];exact aeU _)]at iz;have s6:=Same.upd (o:=.lst zs) hr6
    have hn:H r6=none:=by
     cases e:H r6 with
     |none=>rfl
     |some u=>rw[(((s1.trans s4).trans s5)) _ _ e]at hr6;cases hr6
    exact q r6 zs ms _ (((s1.trans s4).trans s5).trans s6) hn nb aB (iz.same s6)
noncomputable def NV:Sp:=λvs H Q _=>∃x d m,vs=[x,.int m]/\Is H x d/\bZ d 0 (m-1)=true/\Q .non H
theorem U9(T:aP K mg t):FnOk P w K mg base aM 3 t.y6 t.wO ["value","many"] NV:=by
 refine T.KP.ok PY (λvs H Q E h=>?_) (λcdv A outer s H vs Q E hr h=>?_)
 ·obtain⟨x,d,m,rfl,_⟩:=h;rfl
 ·obtain⟨x,d,m,rfl,hx,ho,q⟩:=h;refine⟨_,(aC (bF (dF (bW (aG (uT T) (hr.mono (by decide)) rfl T.vE T.p7.kp T.yP .nil aH (aA (pv 0) (aA (pv 1) pa_nil))))) (aC kF) bE)),?_⟩;walk_at"rd";refine⟨_,_,_,rfl,hx,?_⟩;rw[ho];walk_at"rd";exact q
noncomputable def iM(ps:List (Int×Int))(k:Int)(m:Nat):List Int:=((range m).filter λ(j:Nat)=>jV ps k j).map λ(j:Nat)=>(j:Int)
theorem JE(ps:List (Int×Int))(k:Int)(m:Nat):iM ps k (m+1)=iM ps k m++(if jV ps k m=true then[(m:Int)] else[]):=by
 unfold iM;rw[range_succ,filter_append,map_append,kM];split <;> rfl
theorem yL(ps:List (Int×Int))(k:Int):∀m,(iM ps k m).length<=m
 |0=>aeU _
 |m+1=>by
  rw[JE,length_append];have:=yL ps k m;split <;> simp <;> lia
noncomputable def OZ:Sp:=λvs H Q _=>∃x n ps k,vs=[x,.int k]/\Is H x (aX n ps)/\Ord n ps/\0<=k/\k<n/\∀p H',Same H H'->H p=none->H' p=some (.lst ((iM ps k n).map V.int))->Q (.ref p) H'
theorem VU(T:aP K mg t):FnOk P w K mg base aM 6 t.zZ t.xN ["order","thing"] OZ:=by
 refine T.LH.ok QI (λvs H Q E h=>?_) (λcdv A outer s H vs Q E hr h=>?_)
 ·obtain⟨x,n,ps,k,rfl,_⟩:=h;rfl
 ·obtain⟨x,n,ps,k,rfl,hx,ho,k0,k1,q⟩:=h
  refine⟨_,(aE (cI (aG (uS T) (hr.mono (by decide)) rfl T.vD T.pZ.kp T.yO .nil aH (aA (pv 0) pa_nil)))
   (aE (cI (aG (U9 T) (hr.mono (by decide)) rfl T.XO T.KP.kp T.adA .nil aH (aA (pv 1) (aA (aU (aV K) (pv 0) pe_int (λ_ _=>rfl)) pa_nil))))
   (aC (aI (cQ rfl ⟨aeW,aeW,aeW,(.inl rfl),(.inl rfl),aeW⟩ (M:=["other","order","thing"]) (.own (.free 0 rfl rfl (.free 1 rfl rfl .nil))) (cB rfl) rfl (by decide +kernel) (bU rfl T.bP (aA (aU (aV K) (pv 0) pe_int (λ_ _=>rfl)) pa_nil)) (λC fp s1 H1=>⟨aN (i:=0) (show(["other","order","thing"]:List Str).Nodup by decide +kernel) rfl (afM rfl),eV (bW (aG (FO T) (hr.mono (by decide)) rfl T.GU T.A5.kp T.JR .nil aH (aA (aU (aV K) (pv 1) pe_int (λ_ _=>rfl)) (aA (pv 2) (aA (pv 0) pa_nil))))),(pv 0)⟩)))))),?_⟩
  have hn:=ho.hi;walk_at"rd";refine⟨_,_,rfl,hx,ho.okd,ho.yes,λH1 s1=>?_⟩;obtain⟨a,b,xs,rfl,ea,eb,hxs⟩:=eH (hx.same s1);walk_at"rd";refine⟨_,_,_,rfl,.int k,M5 k0 k1,?_⟩;walk_at"rd";refine⟨_,rfl,by lia,by lia,?_⟩;rw[ae6];refine fN (bI (by lia)) (λj ys H'=>Same H1 H'/\ys=(iM ps k j).map V.int) ⟨Same.refl _,rfl⟩ (by rintro j ys H' ⟨_,rfl⟩;rw[length_map];exact yL _ _ _) ?_ ?_
  ·rintro j ys H2 hj ⟨s2,rfl⟩;have ea2:=s2 _ _ ea;have eb2:=s2 _ _ eb;walk_at"rd";refine⟨_,ps,_,_,rfl,.tup eb2 (hxs.same s2),λH3 s3=>?_⟩;rw[agI,JE];walk_at"rd";refine bK (λh1=>?_) (λh1=>?_)
   ·walk_at"rd";refine⟨s2.trans s3,?_⟩;rw[if_pos h1,map_append];rfl
   ·refine⟨s2.trans s3,?_⟩;rw[if_neg (by rw[h1];exact afK),append_nil]
  ·rintro ys H2 ⟨s2,rfl⟩ p hp;walk_at"rd";exact q p _ ((s1.trans s2).trans (Same.upd hp)) ((s1.trans s2).free hp) aB
end
noncomputable def qJ:PyData->Int
 | .int i=>i
 |_=>0
theorem G6:∀l m:List Int,eY (l.map .int) (m.map .int)=HT.lexLt l m
 |[],[]=>rfl
 |[],_::_=>rfl
 |_::_,[]=>rfl
 | a::l,b::m=>by
  rw[map_cons,map_cons,eY,G6 l m,HT.eF]
  have e:agN (.int a) (.int b)=decide (a=b):=by
   rw[agN];by_cases g:a=b
   ·simp[g]
   ·simp[g]
  rw[e];by_cases g:a=b
  ·rw[if_pos (by simpa using g),if_pos g]
  ·rw[if_neg (by simpa using g),if_neg g,dI]
theorem IX:∀l m:List Int,cY (l.map .int) (m.map .int)=true
 |[],_=>by rw[map_nil,cY]
 |_::_,[]=>by rw[map_nil,map_cons,cY]
 |a::l,b::m=>by
  rw[map_cons,map_cons,cY,IX l m,fB];split <;> rfl
noncomputable def eN(i j:Nat):List (Int×Int):=if i=j then[] else[((i:Int),(j:Int))]
noncomputable def eM(i m:Nat):List (Int×Int):=(range m).flatMap (eN i)
noncomputable def gO(n m:Nat):List (Int×Int):=(range m).flatMap λi=>eM i n
noncomputable def eL(n:Nat):List (Int×Int):=gO n n
theorem qF(i m:Nat):eM i (m+1)=eM i m++eN i m:=by
 unfold eM;rw[range_succ,flatMap_append];simp
theorem qH(n m:Nat):gO n (m+1)=gO n m++eM m n:=by
 unfold gO;rw[range_succ,flatMap_append];simp
theorem MM(i j:Nat):(eN i j).length<=1:=by unfold eN;split <;> simp
theorem qG(i:Nat):∀m,(eM i m).length<=m
 |0=>aeU _
 |m+1=>by
  rw[qF,length_append];have:=qG i m;have:=MM i m;lia
theorem B4(n:Nat):∀m,(gO n m).length<=m*n
 |0=>ae2 _
 |m+1=>by
  rw[qH,length_append,Nat.succ_mul];have:=B4 n m;have:=qG m n;lia
theorem mem_upr{n:Nat}{p:Int×Int}:p∈eL n<->inN n p:=by
 unfold eL gO eM;constructor
 ·intro h;obtain⟨i,hi,h⟩:=mem_flatMap.mp h;obtain⟨j,hj,h⟩:=mem_flatMap.mp h;have hi:=mem_range.mp hi;have hj:=mem_range.mp hj;unfold eN at h;split at h
  ·cases h
  ·rename_i ne;rcases mem_singleton.mp h with rfl;exact⟨by show(0:Int)<=i;lia,by show(i:Int)<n;lia,by show(0:Int)<=j;lia,by show(j:Int)<n;lia,λz=>ne (by have z':(i:Int)=j:=z;lia)⟩
 ·rintro⟨h1,h2,h3,h4,h5⟩;refine mem_flatMap.mpr ⟨p.1.toNat,mem_range.mpr (by lia),mem_flatMap.mpr ⟨p.2.toNat,mem_range.mpr (by lia),?_⟩⟩;unfold eN;rw[if_neg (λz=>h5 (by lia))];refine mem_singleton.mpr (Prod.ext ?_ ?_)
  ·show p.1=((p.1.toNat:Nat):Int);lia
  ·show p.2=((p.2.toNat:Nat):Int);lia
theorem BZ(i:Nat):∀m,(eM i m).Pairwise gD
 |0=>.nil
 | m + 1=>by
  rw[qF,pairwise_append];refine⟨BZ i m,?_,λp hp q hq=>?_⟩
  ·unfold eN;split
   ·exact .nil
   ·exact pairwise_singleton _ _
  ·unfold eM at hp;obtain⟨j,hj,hp⟩:=mem_flatMap.mp hp;have hj:=mem_range.mp hj;unfold eN at hp hq;split at hp
   ·cases hp
   ·split at hq
    ·cases hq
    ·rcases mem_singleton.mp hp with rfl;rcases mem_singleton.mp hq with rfl;exact oU (.inr ⟨rfl,by show(j:Int)<m;lia⟩)
theorem B0(n:Nat):∀m,(gO n m).Pairwise gD
 |0=>.nil
 | m+1=>by
  rw[qH,pairwise_append];refine⟨B0 n m,BZ m n,λp hp q hq=>?_⟩;unfold gO eM at hp;unfold eM at hq;obtain⟨i,hi,hp⟩:=mem_flatMap.mp hp;obtain⟨j,hj,hp⟩:=mem_flatMap.mp hp;obtain⟨k,hk,hq⟩:=mem_flatMap.mp hq;have hi:=mem_range.mp hi;unfold eN at hp hq;split at hp
  ·cases hp
  ·split at hq
   ·cases hq
   ·rcases mem_singleton.mp hp with rfl;rcases mem_singleton.mp hq with rfl;exact oU (.inl (by show(i:Int)<m;lia))
noncomputable def jT(c:List (List (Int×Int)))(p:Int×Int):List (List (Int×Int)):=c++c.map λs=>s++[p]
noncomputable def cX(l:List (Int×Int)):List (List (Int×Int)):=l.foldl jT [[]]
theorem yH(l:List (Int×Int))(p:Int×Int):cX (l++[p])=jT (cX l) p:=by
 unfold cX;rw[List.foldl_append];rfl
theorem abU{l:List (Int×Int)}{i:Nat}{p:Int×Int}(h:l[i]? =some p):cX (l.take (i+1))=jT (cX (l.take i)) p:=by
 rw[take_add_one,h];exact yH _ _
theorem abT(c:List (List (Int×Int)))(p:Int×Int):(jT c p).length=2*c.length:=by
 unfold jT;rw[length_append,length_map];lia
theorem yI:∀(k:Nat)(l:List (Int×Int)),l.length=k->(cX l).length=2^k
 |0,l,h=>by
  rw[length_eq_zero_iff.mp h]
  rfl
 | k+1,l,h=>by
  have e:l=l.take k++[l.getD k (0,0)]:=by
   have:=take_add_one (l:=l) (i:=k);rw[take_of_length_le (by lia)]at this;rw[ae9];rw[this.symm.trans this]at this;have hk:k<l.length:=by lia
   rw[aeY hk]at this ⊢;exact this
  rw[e,yH,abT,yI k _ (by rw[length_take];lia)];lia
theorem u7:∀(k:Nat)(l:List (Int×Int)),l.length=k->∀s,s∈cX l<->s.Sublist l
 | 0,l,h=>λs=>by
  rw[length_eq_zero_iff.mp h];constructor
  ·intro z;rcases mem_singleton.mp z with rfl;exact List.Sublist.refl _
  ·intro z;rw[List.sublist_nil.mp z]
   exact mem_singleton.mpr rfl
 | k + 1,l,h=>λs=>by
  have hk:k<l.length:=by lia
  have e:l=l.take k++[l[k]]:=by
   have:=take_add_one (l:=l) (i:=k);rw[take_of_length_le (by lia),aeY hk]at this;exact this
  have ih:=u7 k (l.take k) (by rw[length_take];lia);rw[e,yH,List.sublist_append_iff];unfold jT;rw[mem_append,mem_map];constructor
  ·rintro(z|⟨s',z,rfl⟩)
   ·exact⟨s,[],by simp,(ih s).mp z,List.nil_sublist _⟩
   ·exact⟨s',[l[k]],rfl,(ih s').mp z,List.Sublist.refl _⟩
  ·rintro⟨s1,s2,rfl,z1,z2⟩
   have:s2=[]\/s2=[l[k]]:=by
    match s2,z2 with
    |[],_=>exact .inl rfl
    |[a],z2=>
     have:=List.singleton_sublist.mp z2;rw[mem_singleton.mp this]
     exact .inr rfl
    |a::b::r,z2=>
     have:=z2.length_le;simp at this
   rcases this with rfl|rfl
   ·rw[append_nil];exact .inl ((ih s1).mpr z1)
   ·exact .inr ⟨s1,(ih s1).mpr z1,rfl⟩
theorem abS{n:Nat}(n1:1<=n)(n8:n<=8){s:List (Int×Int)}(h:s∈cX (eL n)):Ord n s:=by
 have hs:=(u7 _ _ rfl s).mp h;have up:(eL n).Pairwise gD:=B0 n n;exact E9 n1 n8 (λp hp=>mem_upr.mp (hs.subset hp)) (up.sublist hs)
noncomputable def pP(n:Nat):List (List (Int×Int)):=(cX (eL n)).filter λs=> !cH n s
noncomputable def dR(ps:List (Int×Int)):List Int:=ps.flatMap λp=>[p.1,p.2]
theorem II:∀{ps qs:List (Int×Int)},dR ps=dR qs->ps=qs
 |[],[],_=>rfl
 |[],q::qs,h=>by simp[dR]at h
 |p::ps,[],h=>by simp[dR]at h
 |p::ps,q::qs,h=>by
  simp only[dR,List.flatMap_cons,List.cons_append,List.nil_append]at h;injection h with h1 h2;injection h2 with h2 h3;rw[II (ps:=ps) (qs:=qs) h3]
  congr 1
  exact Prod.ext h1 h2
theorem aeB{n:Nat}(h:n=1\/n=2\/n=3):(pP n).Nodup:=by
 rcases h with rfl|rfl|rfl
 ·decide +kernel
 ·decide +kernel
 ·decide +kernel
theorem aeC{n:Nat}(h:n=1\/n=2\/n=3):(pP n).length=[1,3,19].getD (n-1) 0:=by
 rcases h with rfl|rfl|rfl
 ·decide +kernel
 ·decide +kernel
 ·decide +kernel
noncomputable def fP:PyData->List Int
 | .tuple [_,.tuple ds]=>ds.flatMap λd=>match d with| .tuple es=>es.map qJ|_=>[]
 |_=>[]
theorem oZ(n:Nat)(ps:List (Int×Int)):fP (aX n ps)=dR ps:=by
 show(ps.map aJ).flatMap _=dR ps;unfold dR;rw[List.flatMap_map];rfl
theorem G5:∀ps qs:List (Int×Int),eY (ps.map aJ) (qs.map aJ)=HT.lexLt (dR ps) (dR qs)
 |[],[]=>rfl
 |[],_::_=>rfl
 |_::_,[]=>rfl
 | p::ps,q::qs=>by
  rw[map_cons,map_cons,eY,v0,G5 ps qs];show _=HT.lexLt (p.1::p.2::dR ps) (q.1::q.2::dR qs)
  rw[HT.eF,HT.eF]
  have e:dI (aJ p) (aJ q)=HT.lexLt [p.1,p.2] [q.1,q.2]:=by
   unfold aJ;rw[dI];exact G6 [p.1,p.2] [q.1,q.2]
  rw[e,HT.eF,HT.eF];by_cases h1:p.1=q.1
  ·by_cases h2:p.2=q.2
   ·have:p=q:=Prod.ext h1 h2;simp[this]
   ·have:¬p=q:=λz=>h2 (by rw[z]);simp[this,h1,h2]
  ·have:¬p=q:=λz=>h1 (by rw[z]);simp[this,h1]
theorem IW:∀ps qs:List (Int×Int),cY (ps.map aJ) (qs.map aJ)=true
 |[],_=>by rw[map_nil,cY]
 |_::_,[]=>by rw[map_nil,map_cons,cY]
 | p::ps,q::qs=>by
  rw[map_cons,map_cons,cY,IW ps qs];split
  ·rfl
  ·unfold aJ;rw[fB];exact IX [p.1,p.2] [q.1,q.2]
theorem UR(n:Nat)(ps qs:List (Int×Int)):fB (aX n ps) (aX n qs)=true/\dI (aX n ps) (aX n qs)=HT.lexLt (dR ps) (dR qs):=by
 have e1:agN (.int (n:Int)) (.int (n:Int))=true:=by rw[agN];simp
 have e2:agN (.tuple (ps.map aJ)) (.tuple (qs.map aJ))=decide (ps=qs):=by rw[agN,IM]
 unfold aX;constructor
 ·rw[fB,cY,if_pos e1,cY,e2];split
  ·rw[cY]
  ·rw[fB];exact IW ps qs
 ·rw[dI,eY,if_pos e1,eY,e2];by_cases h:ps=qs
  ·rw[if_pos (by simpa using h),h,eY]
   cases e:HT.lexLt (dR qs) (dR qs) with
   |false=>rfl
   |true=>have:=iY e;rw[e]at this;cases this
  ·rw[if_neg (by simpa using h),dI];exact G5 ps qs
theorem U8(n:Nat)(ps:List (Int×Int)):fL (aX n ps)/\bO (aX n ps)=true:=by
 obtain⟨a,b⟩:=U6 ps
 have h:afI (ps.map aJ)<=1:=by
  clear a b
  induction ps with
  |nil=>exact ae2 _
  |cons p ps ih=>
   rw[map_cons,afI];exact Nat.max_le.mpr ⟨aeU _,ih⟩
 refine⟨⟨?_,?_⟩,?_⟩
 ·unfold aX;rw[aiM,agA,agA,a];rfl
 ·unfold aX;rw[ag1,afI,afI,afI,ag1];have e0:(aiD (n:Int)).depth=0:=rfl;rw[e0];lia
 ·unfold aX;rw[bO,bA,bA,bA,bO,bO,gX];rfl
theorem PD{K:PySem.W.Frag}{H:Hp}{Q:VK}{p:Addr}{vs:List V}{n:Nat}{l:List (List (Int×Int))}(nd:l.Nodup)(e:H p=some (.lst vs))(ha:IsAll H vs (l.map (aX n)))
  (h:∀r vs' ds,H r=none->IsAll H vs' ds->ds.Perm (l.map (aX n))->ds.Pairwise (λa c=>HT.lexLt (fP a) (fP c)=true)->Q (.ref r) (upd H r (.lst vs'))):nQ K [.ref p] H Q:=by
 have hm:∀d∈l.map (aX n),∃ps∈l,d=aX n ps:=λd hd=>by
  obtain⟨x,hx,rfl⟩:=mem_map.mp hd;exact⟨x,hx,rfl⟩
 refine RI fP e ha (.inl λd hd=>?_) (λd hd=>?_) (λd hd e he=>?_) ?_ h
 ·obtain⟨m,_,rfl⟩:=hm d hd;exact⟨_,_,rfl⟩
 ·obtain⟨m,_,rfl⟩:=hm d hd;exact U8 _ _
 ·obtain⟨m,_,rfl⟩:=hm d hd;obtain⟨m',_,rfl⟩:=hm e he;rw[oZ,oZ];exact UR n m m'
 ·unfold ah4 at nd ⊢;rw[pairwise_map,pairwise_map];refine nd.imp ?_;intro a c h z;rw[oZ,oZ]at z;exact h (II z)
theorem ZK(a c:PyData):HT.lexLt (fP a) (fP c)=true->¬HT.lexLt (fP c) (fP a)=true:=λh1 h2=>by
 have:=iY h1;rw[h2]at this;cases this
noncomputable def jB(ps:List (Int×Int)):PyData:=.tuple (ps.map aJ)
section
variable{P:afL}{w:agC}{K:PySem.W.Frag}{mg:Str->Option Value}{base:Heap}{t:Ad}
noncomputable def NG:Sp:=λvs H Q _=>∃n:Nat,vs=[.int (n:Nat)]/\n<=3/\∀l zs H',Same H H'->H l=none->H' l=some (.lst zs)->IsAll H' zs ((eL n).map aJ)->Q (.ref l) H'
theorem UZ(T:aP K mg t):FnOk P w K mg base aM 1 t.yR t.wC ["many"] NG:=by
 refine T.KH.ok sc_unlike_pairs (λvs H Q E h=>?_) (λcdv A outer s H vs Q E hr h=>?_)
 ·obtain⟨n,rfl,_⟩:=h;rfl
 ·obtain⟨n,rfl,n3,q⟩:=h
  refine⟨_,(aE (aT (i:=1) sc_unlike_pairs.nd rfl (afM rfl) (cN pa_nil))
   (aE (cE afP rfl (bU rfl T.bP (aA (pv 0) pa_nil)) (aN (i:=2) sc_unlike_pairs.nd rfl (afM rfl)) (aC (cE afP rfl (bU rfl T.bP (aA (pv 0) pa_nil)) (aN (i:=3) sc_unlike_pairs.nd rfl (afM rfl)) (aC (bF (aZ (iW hr.units) (pv 2) (pv 3) (bD _)) (aC (cI (eZ K afX agE agF iA (pv 1) (aA (bH (aA (pv 2) (aA (pv 3) pa_nil))) pa_nil)))) bE)))))
   (aC (aI (pv 1))))),?_⟩
  walk_at"rd";refine⟨ae2 _,λl hl=>?_⟩;have s0:=Same.upd (o:=.lst []) hl;walk_at"rd";refine⟨_,rfl,by lia,by lia,?_⟩;rw[ae6];refine dQ (λi σ H'=>(∃va vb,σ=[some (.int n),some (.ref l),va,vb])/\Same H H'/\∃zs,H' l=some (.lst zs)/\IsAll H' zs ((gO n i).map aJ)) ⟨⟨_,_,rfl⟩,s0,[],aB,.nil⟩ ?_ ?_
  ·rintro i σ H1 hi ⟨⟨va,vb,rfl⟩,s1,zs,hz,iz⟩;walk_at"rd";refine⟨_,rfl,by lia,by lia,?_⟩;rw[ae6];refine dQ (λj σ H'=>(∃vb,σ=[some (.int n),some (.ref l),some (.int (0+i)),vb])/\Same H H'/\∃zs,H' l=some (.lst zs)/\IsAll H' zs ((gO n i++eM i j).map aJ)) ⟨⟨_,rfl⟩,s1,zs,hz,by simpa[eM]using iz⟩ ?_ ?_
   ·rintro j σ H2 hj ⟨⟨vb,rfl⟩,s2,zs2,hz2,iz2⟩;rw[qF,<-append_assoc,map_append];walk_at"rd";refine bK (λh1=>?_) (λh1=>?_)
    ·have hij:i≠j:=by intro z;subst z;simp at h1
     have e1:eN i j=[((i:Int),(j:Int))]:=by unfold eN;rw[if_neg hij]
     rw[e1];walk_at"rd";refine⟨eO hz2,?_⟩;walk_at"rd";refine⟨by show 2<=sizeLine;decide,λo ho=>?_⟩;have hlo:l≠o:=aW hz2 ho
     have lz:zs2.length<=100:=by
      rw[iz2.length,length_map,length_append];have h1:=B4 n i;have h2:=qG i j;have h3:i*n<=3*3:=ahO (by lia) n3;lia
     walk_at"rd";refine fZ (xs:=zs2) (by rw[aD hlo];exact hz2) (dU (by lia)) ?_;walk_at"rd";refine⟨⟨_,rfl⟩,λc u e=>?_,_,aB,?_⟩
     ·have e3:=s2 c u e;rw[aD (aW e hl),aD (aW e3 ho)];exact e3
     ·rw[agI,agI];refine grow (gX _) hz2 ho iz2 (.tup ?_ (.cons (.int _) (.cons (.int _) .nil)));rw[aD (afY hlo),aB]
    ·have hij:i=j:=by
      have h1':((i:Int)==(j:Int))=true:=by simpa using h1
      have:=eq_of_beq h1';lia
     have e1:eN i j=[]:=by unfold eN;rw[if_pos hij]
     rw[e1];walk_at"rd";exact⟨⟨_,rfl⟩,s2,zs2,hz2,by simpa using iz2⟩
   ·rintro σ H2 ⟨⟨vb,rfl⟩,s2,zs2,hz2,iz2⟩;exact⟨⟨_,_,rfl⟩,s2,zs2,hz2,by rw[qH];exact iz2⟩
  ·rintro σ H1 ⟨⟨va,vb,rfl⟩,s1,zs,hz,iz⟩;walk_at"rd";exact q l zs H1 s1 hl hz iz
theorem B7{H:Hp}{ys:List V}{l:List (List (Int×Int))}{i:Nat}{x:V}(h:IsAll H ys (l.map jB))(hx:ys[i]? =some x):∃s a xs,l[i]? =some s/\x=.ref a/\H a=some (.tup xs)/\IsAll H xs (s.map aJ):=by
 obtain⟨d,ed,id⟩:=h.get' hx;rw[ae4]at ed
 cases e:l[i]? with
 |none=>rw[e]at ed;cases ed
 |some s=>
  rw[e]at ed;cases ed;unfold jB at id
  cases id with
  |@tup a xs _ ea hxs=>exact⟨s,a,xs,rfl,rfl,ea,hxs⟩
theorem lB{H:Hp}{ys:List V}{l:List (List (Int×Int))}(h:IsAll H ys (l.map jB)):ys.length=l.length:=by rw[h.length,length_map]
theorem NE{ps:List (Int×Int)}{l:List (Int×Int)}(h:ps∈cX l):ps.length<=l.length:=((u7 _ _ rfl ps).mp h).length_le
noncomputable def OX:Sp:=λvs H Q _=>∃(l:Addr)(zs:List V)(ps:List (Int×Int)),vs=[.ref l]/\H l=some (.lst zs)/\IsAll H zs (ps.map aJ)/\ps.length<=6/\∀r ys H',Same H H'->H' r=some (.lst ys)->IsAll H' ys ((cX ps).map jB)->Q (.ref r) H'
theorem VS(T:aP K mg t):FnOk P w K mg base aM 1 t.zX t.xL ["pairs"] OX:=by
 refine T.LF.ok sc_choices (λvs H Q E h=>?_) (λcdv A outer s H vs Q E hr h=>?_)
 ·obtain⟨l,zs,ps,rfl,_⟩:=h;rfl
 ·obtain⟨l,zs,ps,rfl,hl,iz,l6,q⟩:=h
  refine⟨_,(aE (aT (i:=1) sc_choices.nd rfl (afM rfl) (cN (aA (bH pa_nil) pa_nil)))
   (aE (cE afP rfl (dZ K (pv 0)) (aN (i:=2) sc_choices.nd rfl (Or.inr rfl)) (aC (aT (i:=1) sc_choices.nd rfl (afM rfl) (bB FB (pv 1) (cQ rfl ⟨aeW,aeW,(.inl rfl),aeW⟩ (M:=["some","pair"]) (.own (.free 2 rfl rfl .nil)) (cB rfl) rfl (by decide +kernel) (dZ K (pv 1)) (λC fp s1 H1=>⟨aN (i:=0) (show(["some","pair"]:List Str).Nodup by decide +kernel) rfl (afM rfl),dM,(bB uP (pv 0) (bH (aA (pv 1) pa_nil)))⟩))))))
   (aC (aI (pv 1))))),?_⟩
  have lz:zs.length=ps.length:=by rw[iz.length,length_map]
  walk_at"rd";refine⟨ae2 _,λe0 he0=>?_⟩;have s0:=Same.upd (o:=.tup []) he0;walk_at"rd";refine⟨by show 1<=sizeLine;decide,λc0 hc0=>?_⟩;have s1:=s0.trans (Same.upd (o:=.lst [V.ref e0]) hc0);have i1:IsAll (upd (upd H e0 (.tup [])) c0 (.lst [V.ref e0])) [V.ref e0] ((cX []).map jB):=.cons (.tup (by rw[aD (aW aB hc0),aB]) .nil) .nil;have ec1:upd (upd H e0 (.tup [])) c0 (.lst [V.ref e0]) c0=some (.lst [V.ref e0]):=aB;generalize upd (upd H e0 (.tup [])) c0 (.lst [V.ref e0])=H1 at s1 i1 ec1;walk_at"rd";refine⟨l,rfl,⟨zs,SqL.of (s1 _ _ hl)⟩,?_⟩;refine pD (K:=K) (xs:=zs) (λi σ H'=>Same H H'/\∃c ys,(∃v2,σ=[some (.ref l),some (.ref c),v2])/\H' c=some (.lst ys)/\IsAll H' ys ((cX (ps.take i)).map jB)) ⟨s1,c0,_,⟨_,rfl⟩,ec1,i1⟩ (λi σ H' _ h=>SqL.of (h.1 _ _ hl)) ?_ ?_
  ·rintro i x σ H2 hx ⟨s2,c,ys,⟨v2,rfl⟩,ec,iy⟩;obtain⟨p0,r0,hp0,rfl,er0⟩:=uK (iz.same s2) hx
   have li:i<ps.length:=by
    have:=(ae3.mp hp0).1;exact this
   have lc:ys.length<=64:=by
    rw[lB iy,yI _ _ rfl,length_take];exact afO (Nat.pow_le_pow_right (by decide) (show min i ps.length<=6 by lia)) (by decide)
   walk_at"rd";refine⟨c,rfl,⟨ys,SqL.of ec⟩,?_⟩
   refine gE (K:=K) (xs:=ys) (bI (by lia)) (λj ws H'=>Same H2 H'/\IsAll H' ws (((cX (ps.take i)).take j).map λs=>jB (s++[p0]))) ⟨Same.refl _,.nil⟩ (by
    rintro j ws H' ⟨_,h⟩;rw[h.length,length_map,length_take]
    lia) (λj ws H' _ h=>SqL.of (h.1 _ _ ec)) ?_ ?_
   ·rintro j y ws H3 hy ⟨s3,iw⟩;obtain⟨s',a,xs,hs',rfl,ea,hxs⟩:=B7 (iy.same s3) hy
    have lx:xs.length<=6:=by
     rw[hxs.length,length_map];have:=NE (af3 hs');rw[length_take]at this;lia
    walk_at"rd";refine⟨by show 1<=sizeLine;decide,λq1 hq1=>?_⟩;have f1:=Same.upd (o:=.tup [V.ref r0]) hq1;refine tZ (f1 _ _ ea) aB (bI (by show _+1<=1000;lia)) λu H4 s4 eu=>?_;refine⟨(s3.trans f1).trans s4,?_⟩;rw[take_add_one,hs',map_append];refine((iw.same f1).same s4).append (.cons (.tup eu ?_) .nil);rw[map_append];exact((hxs.same f1).same s4).append (.cons (.tup (s4 _ _ (f1 _ _ (s3 _ _ er0))) (.cons (.int _) (.cons (.int _) .nil))) .nil)
   rintro ws H3 ⟨s3,iw⟩ p4 hp4;have f4:=Same.upd (o:=.lst ws) hp4
   have lw:ws.length<=64:=by
    rw[iw.length,length_map,length_take];lia
   rw[lB iy,take_length]at iw;refine EB (f4 _ _ (s3 _ _ ec)) aB (bI (by lia)) λp5 hp5=>?_;have f5:=Same.upd (o:=.lst (ys++ws)) hp5;walk_at"rd";refine⟨((s2.trans s3).trans f4).trans f5,p5,_,⟨_,rfl⟩,aB,?_⟩;rw[abU hp0];unfold jT;rw[map_append,map_map];exact(((iy.same s3).same f4).same f5).append ((iw.same f4).same f5)
  ·rintro σ H2 ⟨s2,c,ys,⟨v2,rfl⟩,ec,iy⟩;rw[lz,take_length]at iy;walk_at"rd";exact q c ys H2 s2 ec iy
theorem MJ{n:Nat}(h:n=1\/n=2\/n=3):(eL n).length<=6:=by
 rcases h with rfl|rfl|rfl <;> decide
noncomputable def Few(n:Nat):Prop:=n=1\/n=2\/n=3
noncomputable def O5:Sp:=λvs H Q _=>∃n:Nat,vs=[.int (n:Nat)]/\Few n/\∀r ys ds H',Same H H'->H r=none->H' r=some (.lst ys)->IsAll H' ys ds->ds.Perm ((pP n).map (aX n))->ds.Pairwise (λa c=>HT.lexLt (fP a) (fP c)=true)->Q (.ref r) H'
theorem WD{H:Hp}{ys:List V}{n:Nat}{l:List (List (Int×Int))}{i:Nat}{x:V}(h:IsAll H ys (l.map (aX n)))(hx:ys[i]? =some x):∃s,l[i]? =some s/\Is H x (aX n s):=by
 obtain⟨d,ed,id⟩:=h.get' hx;rw[ae4]at ed
 cases e:l[i]? with
 |none=>rw[e]at ed;cases ed
 |some s=>
  rw[e]at ed;cases ed;exact⟨s,rfl,id⟩
theorem VY(T:aP K mg t):FnOk P w K mg base aM 7 t.AA t.xV ["many"] O5:=by
 refine T.LL.ok sc_all_orders (λvs H Q E h=>?_) (λcdv A outer s H vs Q E hr h=>?_)
 ·obtain⟨n,rfl,_⟩:=h;rfl
 ·obtain⟨n,rfl,fw,q⟩:=h;have n1:1<=n:=by rcases fw with rfl|rfl|rfl <;> decide
  have n3:n<=3:=by rcases fw with rfl|rfl|rfl <;> decide
  have ul:=MJ fw
  refine⟨_,(aE (bF (dF (bW (aG (oF T) (hr.mono (by decide)) rfl T.oR T.mQ.kp T.pN .nil aH (aA (pv 0) (aA pe_int (aA (nW rfl T.acI) pa_nil)))))) (aC kF) bE)
   (aE (hV (i:=1) sc_all_orders.nd rfl rfl rfl rfl ⟨aeW,aeW,(.inl rfl),aeW⟩ (M:=["pairs","many"]) (.own (.free 0 rfl rfl .nil)) (cB rfl) rfl (by decide +kernel) (dZ K (aG (VS T) (hr.mono (by decide)) rfl T.X6 T.LF.kp T.adR .nil aH (aA (aG (UZ T) (hr.mono (by decide)) rfl T.XF T.KH.kp T.ac2 .nil aH (aA (pv 0) pa_nil)) pa_nil))) (λC fp s1 H1=>⟨aN (i:=0) (show(["pairs","many"]:List Str).Nodup by decide +kernel) rfl (afM rfl),dM,(bH (aA (pv 1) (aA (pv 0) pa_nil)))⟩))
   (aC (aI (bC (ZQ K hr.units) (by rfl) T.oJ pM (aA (cQ rfl ⟨aeW,aeW,aeW,aeW⟩ (M:=["order"]) (.own .nil) (cB rfl) rfl (by decide +kernel) (dZ K (pv 1)) (λC fp s1 H1=>⟨aN (i:=0) (show(["order"]:List Str).Nodup by decide +kernel) rfl (afM rfl),eV (aZ lJ (aG (FM T) (hr.mono (by decide)) rfl T.GS T.A2.kp T.JP .nil aH (aA (pv 0) pa_nil)) pe_non (bD _)),(pv 0)⟩)) pa_nil)))))),?_⟩
  walk_at"rd";refine⟨_,_,_,_,rfl,.int _,?_⟩
  rw[show bZ (.int (n:Int)) 1 3=true from by
   show(decide ((1:Int)<=n)&&decide ((n:Int)<=3))=true;rw[decide_eq_true (by lia),decide_eq_true (by lia)]
   rfl]
  walk_at"rd";refine⟨n,rfl,n3,λl zs H1 s1 nl hl iz=>?_⟩;walk_at"rd";refine⟨l,zs,eL n,rfl,hl,iz,ul,λc ys H2 s2 hc iy=>?_⟩
  have ly:ys.length<=64:=by
   rw[lB iy,yI _ _ rfl];exact afO (Nat.pow_le_pow_right (by decide) ul) (by decide)
  walk_at"rd";refine⟨c,rfl,⟨ys,SqL.of hc⟩,?_⟩
  refine gE (K:=K) (xs:=ys) (bI (by lia)) (λj ws H'=>Same H2 H'/\IsAll H' ws (((cX (eL n)).take j).map (aX n))) ⟨Same.refl _,.nil⟩ (by
   rintro j ws H' ⟨_,h⟩;rw[h.length,length_map,length_take]
   lia) (λj ws H' _ h=>SqL.of (h.1 _ _ hc)) ?_ ?_
  ·rintro j y ws H3 hy ⟨s3,iw⟩;obtain⟨s',a,xs,hs',rfl,ea,hxs⟩:=B7 (iy.same s3) hy;walk_at"rd";refine⟨by show 2<=sizeLine;decide,λq1 hq1=>?_⟩;have f1:=Same.upd (o:=.tup [V.int n,V.ref a]) hq1;refine⟨s3.trans f1,?_⟩;rw[take_add_one,hs',map_append];exact(iw.same f1).append (.cons (.tup aB (.cons (.int _) (.cons (.tup (f1 _ _ ea) (hxs.same f1)) .nil))) .nil)
  rintro ws H3 ⟨s3,iw⟩ p4 hp4;rw[lB iy,take_length]at iw;have f4:=Same.upd (o:=.lst ws) hp4;have s4:=((s1.trans s2).trans s3).trans f4;have iw4:=iw.same f4;have e4:upd H3 p4 (.lst ws) p4=some (.lst ws):=aB;generalize upd H3 p4 (.lst ws)=H4 at s4 iw4 e4;have lw:ws.length=(cX (eL n)).length:=by rw[iw.length,length_map]
  have ly2:(cX (eL n)).length<=64:=by rw[<-lB iy];exact ly
  clear iw f4 hp4 s3 iy hc s2 iz hl s1;walk_at"rd";refine⟨p4,rfl,⟨ws,SqL.of e4⟩,?_⟩
  refine gE (K:=K) (xs:=ws) (bI (by lia)) (λj us H'=>Same H4 H'/\IsAll H' us ((((cX (eL n)).take j).filter λs=> !cH n s).map (aX n))) ⟨Same.refl _,.nil⟩ (by
   rintro j us H' ⟨_,h⟩;rw[h.length,length_map];have:=length_filter_le (λs=> !cH n s) ((cX (eL n)).take j);rw[length_take]at this
   lia) (λj us H' _ h=>SqL.of (h.1 _ _ e4)) ?_ ?_
  ·rintro j y us H5 hy ⟨s5,iu⟩;obtain⟨s',hs',iy'⟩:=WD (iw4.same s5) hy;have ho:=abS n1 (by lia) (af3 hs');walk_at"rd";refine⟨y,n,s',rfl,iy',ho,λv H6 s6 iv=>?_⟩;rw[take_add_one,hs',show(some s').toList=[s'] from rfl,filter_append];walk_at"rd";rw[ac0 iv]
   cases hb:cH n s' with
   |true=>
    refine bY rfl ?_;refine⟨s5.trans s6,?_⟩;have e0:[s'].filter (λs=> !cH n s)=[]:=by simp[hb]
    rw[e0,append_nil]
    exact iu.same s6
   |false=>
    refine iF rfl ?_;walk_at"rd";refine⟨s5.trans s6,?_⟩;have e0:[s'].filter (λs=> !cH n s)=[s']:=by simp[hb]
    rw[e0,map_append];exact(iu.same s6).append (.cons (iy'.same s6) .nil)
  rintro us H5 ⟨s5,iu⟩ p6 hp6;rw[lw,take_length]at iu;have f6:=Same.upd (o:=.lst us) hp6;walk_at"rd";refine PD (aeB fw) aB (iu.same f6) λr vs' ds hr' ia pm up=>?_;have f7:=Same.upd (o:=.lst vs') hr';exact q r _ ds _ (((s4.trans s5).trans f6).trans f7) (((s4.trans s5).trans f6).free hr') aB (ia.same f7) pm up
theorem BX{n j:Nat}(h:j<n):(L2.upTo n).getD j 0=(j:Int):=by
 unfold L2.upTo;simp[ae9,h]
noncomputable def OE(K:PySem.W.Frag):Sp:=λvs H Q _=>∃(a:Addr)(ns:List Int)(tw:Addr)(ts:List V)(hi:Int),vs=[.ref a,.ref tw,.int hi]/\1<=hi/\hi<=6/\Scr K H a ns/\H tw=some (.lst ts)/\ts.length<=60/\
 ∀(x:V)(H':Hp)(st:Int)(line:List Int)(ts':List V),SameT tw H H'->H' tw=some (.lst ts')->ts'.length<=ts.length+20->1<=st->(line.length:Int)<=hi->1<=line.length->Is H' x (aX line.length (bS st line))->Q x H'
theorem V8(T:aP K mg t):FnOk P w K mg base aM 6 t.AK t.yB ["_law_script","_law_town","_law_most"] (OE K):=by
 refine T.LQ.ok sc__law_few (λvs H Q E h=>?_) (λcdv A outer s H vs Q E hr h=>?_)
 ·obtain⟨a,ns,tw,ts,hi,rfl,_⟩:=h;rfl
 ·obtain⟨a,ns,tw,ts,hi,rfl,kK,hi6,hs,ht,hl,q⟩:=h
  refine⟨_,(aE (kG (aG (V7 T) (hr.mono (by decide)) rfl T.YG T.LP.kp T.ad1 .nil aH (aA (pv 0) (aA (pv 1) (aA pe_int (aA (pv 2) pa_nil))))) (gF K rfl (cF (aN (i:=3) sc__law_few.nd rfl (afM rfl)) (cF (aN (i:=4) sc__law_few.nd rfl (afM rfl)) gA))))
   (aE (bF (aZ (uO) (bC (cK K) (by rfl) T.cJ cL (aA (pv 4) pa_nil)) (bB jM (pv 3) pe_int) (bD _)) (aE (aT (i:=4) sc__law_few.nd rfl (afM rfl) (bH pa_nil))
   (aC (cE afP rfl (bU rfl T.bP (aA (pv 3) pa_nil)) (aN (i:=5) sc__law_few.nd rfl (Or.inr rfl)) (aC (aT (i:=4) sc__law_few.nd rfl (afM rfl) (bB uP (pv 4) (jL (o5 K) (by rfl) T.iX i9 (aA (cQ rfl ⟨aeW,aeW,(.inl rfl),aeW⟩ (M:=["_law_other","_law_one"]) (.own (.free 5 rfl rfl .nil)) (cB rfl) rfl (by decide +kernel) (bU rfl T.bP (aA (pv 3) pa_nil)) (λC fp s1 H1=>⟨aN (i:=0) (show(["_law_other","_law_one"]:List Str).Nodup by decide +kernel) rfl (afM rfl),eV (aZ (jO) (pv 0) (bB dH (pv 1) pe_int) (bD _)),(bH (aA (pv 1) (aA (pv 0) pa_nil)))⟩)) pa_nil)))))))) bE)
   (aC (aI (bH (aA (pv 3) (aA (pv 4) pa_nil))))))),?_⟩
  walk_at"rd";refine⟨a,ns,tw,ts,1,hi,rfl,by decide,by lia,by lia,hs,ht,by lia,λx H1 st line ts1 s1 ht1 hl1 st1 st5 llo lhi l1 l8 hlv hx=>?_⟩;obtain⟨oa,ob,xs,rfl,ea,eb,hxs⟩:=eH hx;refine fY ea rfl ?_;walk_at"rd";refine bK (λg=>?_) (λg=>?_)
  ·have q':=q;obtain⟨n,hn⟩:∃n,n=line.length:=⟨_,rfl⟩
   rw[<-hn]at l1 l8 lhi ⊢;walk_at"rd";refine⟨ae2 _,λe0 he0=>?_⟩;have s2:=Same.upd (o:=.tup []) he0;walk_at"rd";refine⟨_,rfl,by lia,by lia,?_⟩;rw[ae6];have lu:=L2.j5 n;refine dQ (λi σ H'=>∃u v5 zs,σ=[some (.ref a),some (.ref tw),some (.int hi),some (.int n),some (.ref u),v5]/\Same H1 H'/\H' u=some (.tup zs)/\IsAll H' zs ((eQ 2 (L2.upTo n) i).map aJ)) ⟨e0,_,[],rfl,s2,aB,.nil⟩ ?_ ?_
   ·rintro i σ H2 hi' ⟨u,v5,zs,rfl,s3,hu,iz⟩;walk_at"rd";refine⟨_,rfl,by lia,by lia,?_⟩;rw[ae6]
    refine fN (bI (by lia)) (λj ys H'=>Same H2 H'/\IsAll H' ys ((eP 2 (L2.upTo n) i j).map aJ)) ⟨Same.refl _,.nil⟩ (by
     rintro j ys H' ⟨_,h⟩;rw[h.length,length_map]
     exact hJ _ _ _ _) ?_ ?_
    ·rintro j ys H3 hj ⟨s4,iy⟩;rw[j6,map_append];have ui:=BX hi';have uj:=BX hj;walk_at"rd";rw[agI,agI];refine bK (λg2=>?_) (λg2=>?_)
     ·have g':(L2.upTo n).getD j 0-(L2.upTo n).getD i 0>=2:=by
       have:=of_decide_eq_true g2;lia
      walk_at"rd";refine⟨cP,λp hp=>?_⟩;have s5:=Same.upd (o:=.tup [V.int (i:Nat),V.int (j:Nat)]) hp;have e1:cM 2 (L2.upTo n) i j=[((i:Int),(j:Int))]:=by unfold cM;rw[if_pos g']
      rw[e1];exact⟨s4.trans s5,(iy.same s5).append (.cons (.tup aB (.cons (.int _) (.cons (.int _) .nil))) .nil)⟩
     ·have g':¬(L2.upTo n).getD j 0-(L2.upTo n).getD i 0>=2:=by
       have:=of_decide_eq_false g2;lia
      have e1:cM 2 (L2.upTo n) i j=[]:=by unfold cM;rw[if_neg g']
      rw[e1,map_nil,append_nil];exact⟨s4,iy⟩
    ·rintro ys H3 ⟨s4,iy⟩ lb hlb;have s5:=s4.trans (Same.upd (o:=.lst ys) hlb);have elb:upd H3 lb (.lst ys) lb=some (.lst ys):=aB;walk_at"rd";intro tp htp;have s6:=s5.trans (Same.upd (o:=.tup ys) htp)
     have lz:zs.length+ys.length<=1000:=by
      have a1:=iz.length;have a2:=iy.length;rw[length_map]at a1 a2;have a3:=nA 2 (L2.upTo n) i;have a4:=hJ 2 (L2.upTo n) i n;rw[lu]at a3;have a5:i*n<=8*8:=ahO (by lia) (by lia);lia
     refine tZ (s6 _ _ hu) aB (bI lz) λr H4 s7 er=>?_;walk_at"rd";refine⟨r,_,zs++ys,rfl,(s3.trans s6).trans s7,er,?_⟩;rw[j7,lu,map_append];exact((iz.same s6).same s7).append (((iy.same (Same.upd hlb)).same (Same.upd htp)).same s7)
   ·rintro σ H2 ⟨u,v5,zs,rfl,s3,hu,iz⟩;walk_at"rd";refine⟨by show 2<=sizeLine;decide,λo ho=>?_⟩;have s4:=Same.upd (o:=.tup [V.int (n:Nat),V.ref u]) ho;refine q' _ _ 2 (L2.upTo n) ts1 (s1.trans (s3.trans s4).t) ((s3.trans s4) _ _ ht1) (by lia) (by decide) (by lia) (by lia) ?_;unfold bS;rw[lu];exact .tup aB (.cons (.int _) (.cons (.tup (s4 _ _ hu) (iz.same s4)) .nil))
  ·walk_at"rd";refine⟨by show 2<=sizeLine;decide,λo ho=>?_⟩;have s4:=Same.upd (o:=.tup [V.int line.length,V.ref ob]) ho;exact q _ _ st line ts1 (s1.trans s4.t) (s4 _ _ ht1) (by lia) st1 (by lia) l1 (.tup aB (.cons (.int _) (.cons (.tup (s4 _ _ eb) (hxs.same s4)) .nil)))
end
theorem oN{C C':List (List Int)}(h:∀c,c∈C<->c∈C')(S:List Int):GM.most C S=GM.most C' S:=by
 have one:∀{C C':List (List Int)},(∀c,c∈C<->c∈C')->GM.most C S<=GM.most C' S:=λ{C C'}h=>by
  rcases GM.GG (C:=C) (S:=S) with z|⟨c,hc,hs,e⟩
  ·lia
  ·rw[<-e];exact GM.lV ((h c).mp hc) hs
 exact Nat.le_antisymm (one h) (one λc=>(h c).symm)
theorem aaY{PL CL PL' CL':List (List Int)}(hp:∀p,p∈PL<->p∈PL')(hc:∀c,c∈CL<->c∈CL'){S:List Int}{res res':List (List Int)}(h:eA PL CL S res):eA PL' CL' S res'->res=res':=by
 induction h generalizing res' with
 |nil=>
  intro h'
  cases h' with
  |nil=>rfl
  |cons h0=>exact absurd rfl h0
 | @cons S p res h0 hm hs hl hmin _ ih=>
  intro h'
  cases h' with
  |nil=>exact absurd rfl h0
  | @cons _ p' res' _ hm' hs' hl' hmin' h2=>
   have e:p=p':=by
    by_cases z:p=p'
    ·exact z
    ·have a:=hmin p' ((hp _).mpr hm') hs' (by rw[oN hc,oN hc S];exact hl');have b:=hmin' p ((hp _).mp hm) hs (by rw[<-oN hc,<-oN hc S];exact hl);rw[lU z b]at a;cases a
   subst e;rw[ih h2]
theorem aaZ{PL CL:List (List Int)}(hp:∀p∈PL,p≠[]){S:List Int}{res:List (List Int)}(h:eA PL CL S res):res.length<=S.length:=by
 induction h with
 |nil=>exact aeU _
 |@cons S p res h0 hm hs hl hmin _ ih=>
  obtain⟨t,ht⟩:=List.exists_mem_of_ne_nil p (hp p hm);have:=DG ht (hs t ht);rw[length_cons];lia
theorem BU:∀{l1 l2:List Int},l1.Pairwise (· < ·)->l2.Pairwise (· < ·)->(∀x,x∈l1<->x∈l2)->l1=l2
 |[],[],_,_,_=>rfl
 |[],b::t,_,_,h=>by cases(h b).mpr mem_cons_self
 |a::t,[],_,_,h=>by cases(h a).mp mem_cons_self
 | a::t1,b::t2,p1,p2,h=>by
  have q1:=pairwise_cons.mp p1;have q2:=pairwise_cons.mp p2
  have e:a=b:=by
   rcases mem_cons.mp ((h a).mp mem_cons_self) with g|g
   ·exact g
   ·rcases mem_cons.mp ((h b).mpr mem_cons_self) with g'|g'
    ·exact g'.symm
    ·have:=q1.1 b g';have:=q2.1 a g;lia
  subst e;rw[BU q1.2 q2.2 λx=>⟨λhx=>(mem_cons.mp ((h x).mp (mem_cons_of_mem _ hx))).resolve_left (λz=>by have:=q1.1 x hx;lia),λhx=>(mem_cons.mp ((h x).mpr (mem_cons_of_mem _ hx))).resolve_left (λz=>by have:=q2.1 x hx;lia)⟩]
mutual
noncomputable def wD:PyData->Bool
 | .int _=>true
 | .tuple ds=>dB ds
 |_=>false
noncomputable def dB:List PyData->Bool
 |[]=>true
 |d::ds=>wD d&&dB ds
end
mutual
theorem ME:∀d:PyData,wD d=true->agN d d=true
 | .int i,_=>by simp[agN]
 | .tuple ds,h=>by
  rw[wD]at h;rw[agN]
  exact qE ds h
 | .none,h=>by cases h
 | .bool _,h=>by cases h
 | .str _,h=>by cases h
 | .list _,h=>by cases h
 | .dict _,h=>by cases h
theorem qE:∀ds:List PyData,dB ds=true->PyData.eqvAll ds ds=true
 |[],_=>by rw[PyData.eqvAll]
 |d::ds,h=>by
  rw[dB,afB]at h;rw[PyData.eqvAll,ME d h.1,qE ds h.2];rfl
end
mutual
theorem MD:∀d:PyData,wD d=true->d.canLay0=true
 | .int i,_=>by rw[aiM]
 | .tuple ds,h=>by
  rw[wD]at h;rw[aiM]
  exact qD ds h
 | .none,h=>by cases h
 | .bool _,h=>by cases h
 | .str _,h=>by cases h
 | .list _,h=>by cases h
 | .dict _,h=>by cases h
theorem qD:∀ds:List PyData,dB ds=true->agA ds=true
 |[],_=>by rw[agA]
 |d::ds,h=>by
  rw[dB,afB]at h;rw[agA,MD d h.1,qD ds h.2];rfl
end
mutual
theorem MC:∀d:PyData,wD d=true->bO d=true
 | .int i,_=>by rw[bO]
 | .tuple ds,h=>by
  rw[wD]at h;rw[bO]
  exact mU ds h
 | .none,h=>by cases h
 | .bool _,h=>by cases h
 | .str _,h=>by cases h
 | .list _,h=>by cases h
 | .dict _,h=>by cases h
theorem mU:∀ds:List PyData,dB ds=true->bA ds=true
 |[],_=>by rw[bA]
 |d::ds,h=>by
  rw[dB,afB]at h;rw[bA,MC d h.1,mU ds h.2];rfl
end
theorem jA:∀{ds:List PyData},(∀d∈ds,wD d=true)->dB ds=true
 |[],_=>rfl
 |d::ds,h=>by rw[dB,h d (.head _),jA λx hx=>h x (.tail _ hx)];rfl
theorem pJ{b:Nat}:∀{ds:List PyData},(∀d∈ds,d.depth<=b)->afI ds<=b
 |[],_=>ae2 _
 |d::ds,h=>by
  rw[afI];have h1:=h d (.head _);have h2:=pJ (b:=b) λx hx=>h x (.tail _ hx);lia
structure Wh (d:PyData):Prop where
 w:wD d=true
 dep:d.depth<=5
theorem qC(i:Int):Wh (.int i):=⟨rfl,by rw[ag1];lia⟩
theorem aaD(l:List Int):dB (l.map aiD)=true:=jA λd hd=>by
 obtain⟨i,_,rfl⟩:=mem_map.mp hd;rfl
theorem aaG(l:List Int):afI (l.map aiD)<=0:=pJ λd hd=>by
 obtain⟨i,_,rfl⟩:=mem_map.mp hd;rw[ag1];exact aeU _
theorem qB(l:List Int):Wh (.tuple (l.map .int)):=⟨by rw[wD];exact aaD l,by rw[ag1];have:=aaG l;lia⟩
theorem BQ(p:Int×Int):Wh (aJ p):=qB [p.1,p.2]
theorem EU(ps:List (Int×Int)):afI (ps.map aJ)<=1:=pJ λd hd=>by
 obtain⟨p,_,rfl⟩:=mem_map.mp hd;exact aeU 1
theorem BR(n:Nat)(ps:List (Int×Int)):Wh (aX n ps):=by
 refine⟨?_,?_⟩
 ·unfold aX;rw[wD,dB,dB,dB,wD,wD,jA λd hd=>by obtain⟨p,_,rfl⟩:=mem_map.mp hd;exact(BQ p).w];rfl
 ·unfold aX;rw[ag1,afI,afI,afI,ag1,ag1];have:=EU ps;lia
theorem oC{ds:List PyData}(h:∀d∈ds,Wh d):fL (.list ds):=by
 refine⟨?_,?_⟩
 ·rw[aiM];exact qD ds (jA λd hd=>(h d hd).w)
 ·rw[ag1];have:=pJ (b:=5) λd hd=>(h d hd).dep;lia
theorem IL{ds:List PyData}(h:∀d∈ds,Wh d):agN (.list ds) (.list ds)=true:=by
 rw[agN];exact qE ds (jA λd hd=>(h d hd).w)
noncomputable def mP(n:Nat)(al ac:GM.bL)(ds:List PyData):Prop:=∃res PL CL,GM.Parts n al PL/\GM.Parts n ac CL/\eA PL CL (L2.upTo n) res/\ds=res.map (cC [])
noncomputable def aeM(m:Nat)(sv:List aY)(ds:List PyData):Prop:=(lv m (e9 m sv)≠none/\ds=[.int 1])\/(lv m (e9 m sv)=none/\∃th prs,iR m (e9 m sv) th/\mR sv th th.length prs/\ds=prs.map aJ)
noncomputable def aeI(n:Nat)(dm:List Dm)(ds:List PyData):Prop:=(lv n dm≠none/\ds=[.int 1])\/(lv n dm=none/\∃th,iR n dm th/\ds=th.map λi:Nat=>aiD (i:Int))
noncomputable def nH:List (Int×Int):=[(0,1),(1,2)]
noncomputable def fG(k n:Nat)(ps:List (Int×Int))(m:Nat)(sv:List aY)(ds:List PyData):Prop:=match k with
 |0=>mP n (GM.gr (has ps)) (has ps) ds
 |1=>mP n (has ps) (GM.gr (has ps)) ds
 |2=>ds=(iM ps 0 n).map .int
 |3=>∃ms,j1 (cU n ps) ms/\ds=ms.map λv=>PyData.tuple ((kR (cU n ps) v).map .int)
 |4=>ds.Perm ((pP 2).map (aX 2))/\ds.Pairwise (λa c=>HT.lexLt (fP a) (fP c)=true)
 |5=>aeM m sv ds
 |_=>aeI 3 (cW 3 nH 1 3) ds
theorem IK{n:Nat}{al ac:GM.bL}{ds ds':List PyData}(h:mP n al ac ds)(h':mP n al ac ds'):ds=ds':=by
 obtain⟨res,PL,CL,p1,p2,g,rfl⟩:=h;obtain⟨res',PL',CL',p1',p2',g',rfl⟩:=h';rw[aaY (λp=>(p1.mem p).trans (p1'.mem p).symm) (λp=>(p2.mem p).trans (p2'.mem p).symm) g g']
theorem ad8{k n m:Nat}{ps:List (Int×Int)}{sv:List aY}{ds ds':List PyData}(h:fG k n ps m sv ds)(h':fG k n ps m sv ds'):ds=ds':=by
 match k,h,h' with
 |0,h,h'=>exact IK h h'
 |1,h,h'=>exact IK h h'
 |2,h,h'=>exact Eq.trans h (Eq.symm h')
 |3,⟨ms,h,e⟩,⟨ms',h',e'⟩=>rw[e,e',BU h.up h'.up λx=>(h.mem x).trans (h'.mem x).symm]
 |4,⟨h,u⟩,⟨h',u'⟩=>exact ah6.eq_of_pairwise (λa b _ _ h1 h2=>absurd h2 (ZK a b h1)) u u' (h.trans h'.symm)
 |5,.inl h,.inl h'=>rw[h.2,h'.2]
 |5,.inl h,.inr h'=>exact absurd h'.1 h.1
 |5,.inr h,.inl h'=>exact absurd h.1 h'.1
 |5,.inr ⟨_,th,prs,a,b,e⟩,.inr ⟨_,th',prs',a',b',e'⟩=>
  obtain rfl:=HL a a'
  rw[e,e',acZ b b']
 |k+6,.inl h,.inl h'=>rw[h.2,h'.2]
 |k+6,.inl h,.inr h'=>exact absurd h'.1 h.1
 |k+6,.inr h,.inl h'=>exact absurd h.1 h'.1
 |k+6,.inr ⟨_,th,a,e⟩,.inr ⟨_,th',a',e'⟩=>rw[e,e',HL a a']
theorem pE{n:Nat}{al ac:GM.bL}{ds:List PyData}(h:mP n al ac ds):(∀d∈ds,Wh d)/\ds.length<=n:=by
 obtain⟨res,PL,CL,p1,p2,g,rfl⟩:=h;refine⟨λd hd=>?_,?_⟩
 ·obtain⟨l,_,rfl⟩:=mem_map.mp hd;exact qB l
 ·rw[length_map];have:=aaZ (λp hp=>((p1.mem p).mp hp).1) g;rw[L2.j5]at this;exact this
theorem J2{k n m:Nat}{ps:List (Int×Int)}{sv:List aY}{ds:List PyData}(n8:n<=8)(m8:m<=8)(h:fG k n ps m sv ds):(∀d∈ds,Wh d)/\ds.length<=100:=by
 have one:∀{ds:List PyData},ds=[.int 1]->(∀d∈ds,Wh d)/\ds.length<=100:=λ{ds}e=>by
  subst e;refine⟨λd hd=>?_,by show 1<=100;decide⟩;rw[mem_singleton.mp hd];exact qC 1
 match k,h with
 |0,h=>exact⟨(pE h).1,by have:=(pE h).2;lia⟩
 |1,h=>exact⟨(pE h).1,by have:=(pE h).2;lia⟩
 |2,h=>
  have h:ds=(iM ps 0 n).map .int:=h;subst h;refine⟨λd hd=>?_,by rw[length_map];have:=yL ps 0 n;lia⟩;obtain⟨i,_,rfl⟩:=mem_map.mp hd
  exact qC i
 | 3,⟨ms,hN,e⟩=>
  subst e;refine⟨λd hd=>?_,?_⟩
  ·obtain⟨i,_,rfl⟩:=mem_map.mp hd;exact qB _
  ·rw[length_map];have:=FZ hN;unfold cU at this;rw[length_map,length_range]at this
   lia
 | 4,⟨h,u⟩=>
  refine⟨λd hd=>?_,?_⟩
  ·obtain⟨p,_,rfl⟩:=mem_map.mp (h.mem_iff.mp hd);exact BR 2 p
  ·rw[h.length_eq,length_map,aeC (.inr (.inl rfl))]
   decide
 |5,.inl h=>exact one h.2
 | 5,.inr ⟨_,th,prs,a,b,e⟩=>
  subst e;refine⟨λd hd=>?_,?_⟩
  ·obtain⟨p,_,rfl⟩:=mem_map.mp hd;exact BQ p
  ·rw[length_map,b.1];have:=(l4 a).2
   lia
 |k+6,.inl h=>exact one h.2
 | k+6,.inr ⟨_,th,a,e⟩=>
  subst e;refine⟨λd hd=>?_,?_⟩
  ·obtain⟨p,_,rfl⟩:=mem_map.mp hd;exact qC _
  ·rw[length_map];have:=(l4 a).2;lia
noncomputable def Fl(H:Hp)(x:V)(d:PyData):Prop:=(Is H x d/\isLstD d=false)\/∃(r:Addr)(is:List Int),x=.ref r/\H r=some (.lst (is.map V.int))/\d=.tuple (is.map .int)
noncomputable def FlA(H:Hp)(zs:List V)(ds:List PyData):Prop:=zs.length=ds.length/\∀(k:Nat)(x:V)(d:PyData),zs[k]? =some x->ds[k]? =some d->Fl H x d
theorem L4{d:PyData}(h:Wh d):isLstD d=false:=by
 cases d with
 |list=>cases h.w
 |_=>rfl
theorem i6{H:Hp}{zs:List V}{ds:List PyData}(h:IsAll H zs ds)(w:∀d∈ds,Wh d):FlA H zs ds:=by
 refine⟨h.length,λk x d e1 e2=>?_⟩;obtain⟨d',e,i⟩:=h.get' e1;rw[e2]at e;cases e;exact .inl ⟨i,L4 (w d (af3 e2))⟩
section
variable{P:afL}{w:agC}{K:PySem.W.Frag}{mg:Str->Option Value}{base:Heap}{t:Ad}
noncomputable def OO:Sp:=λvs H Q _=>∃l zs ds,vs=[.ref l]/\H l=some (.lst zs)/\FlA H zs ds/\ds.length<=100/\∀r us H',Same H H'->H r=none->H' r=some (.lst us)->IsAll H' us ds->Q (.ref r) H'
theorem FU(T:aP K mg t):FnOk P w K mg base aM 1 t.AJ t.yA ["_law_made"] OO:=by
 refine T.BB.ok QP (λvs H Q E h=>?_) (λcdv A outer s H vs Q E hr h=>?_)
 ·obtain⟨l,zs,ds,rfl,_⟩:=h;rfl
 ·obtain⟨l,zs,ds,rfl,hl,⟨ln,fl⟩,lm,q⟩:=h;refine⟨_,(aC (aI (cQ rfl ⟨aeW,aeW,aeW,aeW,aeW,aeW⟩ (M:=["_law_one"]) (.own .nil) (cB rfl) rfl (by decide +kernel) (dZ K (pv 0)) (λC fp s1 H1=>⟨aN (i:=0) (show(["_law_one"]:List Str).Nodup by decide +kernel) rfl (afM rfl),dM,(E4 (bW (bC iK (by rfl) T.hZ iL (aA (pv 0) (aA (hX (v:=.ty "list") rfl T.kI kP rfl) pa_nil)))) (jL (o5 K) (by rfl) T.iX i9 (aA (pv 0) pa_nil)) (pv 0))⟩)))),?_⟩;walk_at"rd";refine⟨l,rfl,⟨zs,SqL.of hl⟩,?_⟩
  refine gE (K:=K) (xs:=zs) (bI (by lia)) (λk us H'=>Same H H'/\IsAll H' us (ds.take k)) ⟨Same.refl _,.nil⟩ (by
   rintro k us H' ⟨_,h⟩;rw[h.length,length_take]
   lia) (λk us H' _ h=>SqL.of (h.1 _ _ hl)) ?_ ?_
  ·rintro k x us H1 hx ⟨s1,iu⟩;have hk:k<zs.length:=(ae3.mp hx).1;obtain⟨d,hd⟩:∃d,ds[k]? =some d:=⟨_,aeY (by lia)⟩
   rw[take_add_one,hd];rcases fl k x d hx hd with⟨i,nl⟩|⟨r,is,rfl,er,rfl⟩
   ·walk_at"rd";refine nM (i.same s1) ?_;rw[nl];walk_at"rd";exact⟨s1,iu.append (.cons (i.same s1) .nil)⟩
   ·have er1:=s1 _ _ er;walk_at"rd";refine nM (d:=.list (is.map .int)) (.lst (Rd.of er1) (IsAll.ints is)) ?_;walk_at"rd";intro p hp;have f:=Same.upd (o:=.tup (is.map V.int)) hp;exact⟨s1.trans f,(iu.same f).append (.cons (.tup aB (IsAll.ints is)) .nil)⟩
  ·rintro us H1 ⟨s1,iu⟩ p hp;rw[ln,take_length]at iu;have f:=Same.upd (o:=.lst us) hp;walk_at"rd";exact q p us _ (s1.trans f) (s1.free hp) aB (iu.same f)
end
theorem QX:Ord 3 nH:=by
 refine E9 (by decide) (by decide) (λp hp=>?_) (.cons (λb hb=>by rw[mem_singleton.mp hb];rfl) (.cons (λ_ h=>nomatch h) .nil));unfold nH at hp;simp only[mem_cons,not_mem_nil,or_false]at hp;unfold inN;rcases hp with rfl|rfl <;> dsimp only <;> lia
theorem aa6{H H':Hp}{Pt p:Addr}(s:SameT Pt H H')(tb:cO H' Pt dN dP)(hp:H' p=none):H p=none:=by
 cases hh:H p with
 |none=>rfl
 | some u=>
  have:=s _ _ hh (λz=>by
   obtain⟨tb0,htb0⟩:=jC tb;rw[z]at hp;rw[hp]at htb0
   cases htb0)
  rw[hp]at this;cases this
theorem IN{xs:List V}(h:xs≠[]):(!xs.isEmpty)=true:=by
 cases xs with
 |nil=>exact absurd rfl h
 |cons=>rfl
section
variable{P:afL}{w:agC}{K:PySem.W.Frag}{mg:Str->Option Value}{base:Heap}{t:Ad}
noncomputable def O3(Pt:Addr):Sp:=λvs H Q _=>∃(c:Int)(k:Nat)(x:V)(n:Nat)(ps:List (Int×Int))(l:Addr)(xs:List V)(m:Nat)(sv:List aY),vs=[.int c,x,.ref l]/\c=(k:Int)/\k<7/\Is H x (aX n ps)/\Ord n ps/\cH n ps=false/\n<=6/\
 H l=some (.lst xs)/\IsAll H xs (sv.map (bN m))/\1<=sv.length/\sv.length<=3/\(∀p∈sv,j0 m p)/\m<=8/\cO H Pt dN dP/\
 ∀r zs ds H',SameT Pt H H'->cO H' Pt dN dP->H r=none->H' r=some (.lst zs)->FlA H' zs ds->fG k n ps m sv ds->Q (.ref r) H'
theorem FV(T:aP K mg t){c Pt:Addr}(B:jY K base mg "greatest_place" c Pt):FnOk P w K mg base aM 11 t.AN t.yE ["_law_what","_law_order","_law_several_here"] (O3 Pt):=by
 refine T.BC.ok QS (λvs H Q E h=>?_) (λcdv A outer s H vs Q E hr h=>?_)
 ·obtain⟨c,k,x,n,ps,l,xs,m,sv,rfl,_⟩:=h;rfl
 ·obtain⟨c,k,x,n,ps,l,xs,m,sv,rfl,hc,hk,hx,ho,hb,n6,el,hxs,l1,l3,ok,m8,tb,q⟩:=h
  refine⟨_,(aE (bF (aZ (eC hr.units) (pv 0) pe_int (bD _)) (aC (aI (aG (VP T) (hr.mono (by decide)) rfl T.X3 T.LC.kp T.adO .nil aH (aA (pv 1) pa_nil)))) bE)
   (aE (bF (aZ (eC hr.units) (pv 0) pe_int (bD _)) (aC (aI (aG (VO T) (hr.mono (by decide)) rfl T.X2 T.LB.kp T.adN .nil aH (aA (pv 1) pa_nil)))) bE)
   (aE (bF (aZ (eC hr.units) (pv 0) pe_int (bD _)) (aC (aI (aG (VU T) (hr.mono (by decide)) rfl T.X8 T.LH.kp T.adT .nil aH (aA (pv 1) (aA pe_int pa_nil))))) bE)
   (aE (bF (aZ (eC hr.units) (pv 0) pe_int (bD _)) (aC (aI (aG (U1 T) (hr.mono (by decide)) rfl T.XH T.KJ.kp T.ac4 .nil aH (aA (pv 1) pa_nil)))) bE)
   (aE (bF (aZ (eC hr.units) (pv 0) pe_int (bD _)) (aC (aI (aG (VY T) (hr.mono (by decide)) rfl T.YC T.LL.kp T.adX .nil aH (aA pe_int pa_nil)))) bE)
   (aE (bF (aZ (eC hr.units) (pv 0) pe_int (bD _)) (aC (aI (HG K (aG (VX T B) (hr.mono (by decide)) rfl T.YB T.LK.kp T.adW .nil aH (aA (pv 2) pa_nil)) (jK (cN (aA pe_int pa_nil)))))) bE)
   (aC (aI (HG K (aG (U2 T) (hr.mono (by decide)) rfl T.XI T.KK.kp T.ac5 .nil aH (aA (bH (aA pe_int (aA (bH (aA (bH (aA pe_int (aA pe_int pa_nil))) (aA (bH (aA pe_int (aA pe_int pa_nil))) pa_nil))) pa_nil))) (aA pe_int pa_nil))) (jK (cN (aA pe_int pa_nil)))))))))))),?_⟩
  have n1:=ho.lo;have hcs:k=0\/k=1\/k=2\/k=3\/k=4\/k=5\/k=6:=by lia
  have wh:∀{ds:List PyData},fG k n ps m sv ds->∀d∈ds,Wh d:=λh=>(J2 (by lia) m8 h).1;rcases hcs with rfl|rfl|rfl|rfl|rfl|rfl|rfl
  ·have e:c=0:=hc;cases e;walk_at"rd";refine iF (by decide) ?_;walk_at"rd";refine⟨x,n,ps,rfl,hx,ho,hb,n6,λr H' zs res PL CL hr s e tp p1 p2 g=>?_⟩;have a:fG 0 n ps m sv (res.map (cC [])):=⟨res,PL,CL,p1,p2,g,rfl⟩
   exact q r zs _ H' s.t (dC tb s) hr e (i6 tp (wh a)) a
  ·have e:c=1:=hc;cases e;walk_at"rd";refine bY (by decide) ?_;walk_at"rd";refine iF (by decide) ?_;walk_at"rd";refine⟨x,n,ps,rfl,hx,ho,hb,n6,λr H' zs res PL CL hr s e tp p1 p2 g=>?_⟩;have a:fG 1 n ps m sv (res.map (cC [])):=⟨res,PL,CL,p1,p2,g,rfl⟩
   exact q r zs _ H' s.t (dC tb s) hr e (i6 tp (wh a)) a
  ·have e:c=2:=hc;cases e;walk_at"rd";refine bY (by decide) ?_;walk_at"rd";refine bY (by decide) ?_;walk_at"rd";refine iF (by decide) ?_;walk_at"rd";refine⟨x,n,ps,0,rfl,hx,ho,by decide,by lia,λp H' s hp e=>?_⟩;have a:fG 2 n ps m sv ((iM ps 0 n).map .int):=rfl;exact q p _ _ H' s.t (dC tb s) hp e (i6 (IsAll.ints _) (wh a)) a
  ·have e:c=3:=hc;cases e;walk_at"rd";refine bY (by decide) ?_;walk_at"rd";refine bY (by decide) ?_;walk_at"rd";refine bY (by decide) ?_;walk_at"rd";refine iF (by decide) ?_;walk_at"rd";refine⟨x,n,ps,rfl,hx,ho,hb,λr zs ms H' s hr nub e rws=>?_⟩;refine q r zs (ms.map λv=>PyData.tuple ((kR (cU n ps) v).map .int)) H' s.t (dC tb s) hr e ⟨by rw[rws.1,length_map],λk x d e1 e2=>?_⟩ ⟨ms,nub,rfl⟩;rw[ae4]at e2
   cases hm:ms[k]? with
   |none=>rw[hm]at e2;cases e2
   |some v=>
    rw[hm]at e2;cases e2;obtain⟨r',e3,e4⟩:=rws.2 k v hm;rw[e1]at e3;cases e3;exact .inr ⟨r',_,rfl,e4,rfl⟩
  ·have e:c=4:=hc;cases e;walk_at"rd";refine bY (by decide) ?_;walk_at"rd";refine bY (by decide) ?_;walk_at"rd";refine bY (by decide) ?_;walk_at"rd";refine bY (by decide) ?_;walk_at"rd";refine iF (by decide) ?_;walk_at"rd";refine⟨2,rfl,.inr (.inl rfl),λr ys ds H' s hr e iy pm pw=>?_⟩;have a:fG 4 n ps m sv ds:=⟨pm,pw⟩
   exact q r ys ds H' s.t (dC tb s) hr e (i6 iy (wh a)) a
  ·have e:c=5:=hc;cases e;walk_at"rd";refine bY (by decide) ?_;walk_at"rd";refine bY (by decide) ?_;walk_at"rd";refine bY (by decide) ?_;walk_at"rd";refine bY (by decide) ?_;walk_at"rd";refine bY (by decide) ?_;walk_at"rd";refine iF (by decide) ?_;walk_at"rd";refine D2 ?_;walk_at"rd";refine⟨l,xs,m,sv,rfl,el,hxs,l1,l3,ok,m8,tb,λH' s tb'=>⟨λhn=>⟨false,rfl,?_⟩,λp zs th prs hn hR hB hp e iz=>⟨true,.inl ⟨zs,SqL.of e,?_⟩,?_⟩⟩⟩
   ·walk_at"rd";refine⟨by show 1<=sizeLine;decide,λp hp=>?_⟩;have f:=Same.upd (o:=.lst [V.int 1]) hp;have a:fG 5 n ps m sv [.int 1]:=.inl ⟨hn,rfl⟩;exact q p _ _ _ (s.trans f.t) (dC tb' f) (aa6 s tb' hp) aB (i6 (.cons (.int _) .nil) (wh a)) a
   ·refine(IN λz=>?_).symm;have h1:=iz.length;have h2:=(l4 hR).1;rw[z,length_map,hB.1,length_nil]at h1;lia
   ·walk_at"rd";have a:fG 5 n ps m sv (prs.map aJ):=.inr ⟨hn,th,prs,hR,hB,rfl⟩;exact q p zs _ H' s tb' hp e (i6 iz (wh a)) a
  ·have e:c=6:=hc;cases e;walk_at"rd";refine bY (by decide) ?_;walk_at"rd";refine bY (by decide) ?_;walk_at"rd";refine bY (by decide) ?_;walk_at"rd";refine bY (by decide) ?_;walk_at"rd";refine bY (by decide) ?_;walk_at"rd";refine bY (by decide) ?_;walk_at"rd";refine D2 ?_;walk_at"rd";refine⟨cP,λp1 hp1=>?_⟩;have f1:=Same.upd (o:=.tup [V.int 0,V.int 1]) hp1;walk_at"rd";refine⟨cP,λp2 hp2=>?_⟩;have f2:=Same.upd (o:=.tup [V.int 1,V.int 2]) hp2;walk_at"rd";refine⟨by show 2<=sizeLine;decide,λp3 hp3=>?_⟩;have f3:=Same.upd (o:=.tup [V.ref p1,V.ref p2]) hp3;walk_at"rd";refine⟨by show 2<=sizeLine;decide,λp4 hp4=>?_⟩;have f4:=Same.upd (o:=.tup [V.int 3,V.ref p3]) hp4;have s4:=((f1.trans f2).trans f3).trans f4;walk_at"rd";refine⟨_,3,nH,1,rfl,.tup aB (.cons (.int _) (.cons (.tup (f4 _ _ aB) (.cons (.tup (f4 _ _ (f3 _ _ (f2 _ _ aB))) (.cons (.int _) (.cons (.int _) .nil))) (.cons (.tup (f4 _ _ (f3 _ _ aB)) (.cons (.int _) (.cons (.int _) .nil))) .nil))) .nil)),QX,by decide,by decide,λH' s=>⟨λhn=>⟨false,rfl,?_⟩,λp th hn hR hp e=>⟨true,.inl ⟨_,SqL.of e,?_⟩,?_⟩⟩⟩
   ·walk_at"rd";refine⟨by show 1<=sizeLine;decide,λp hp=>?_⟩;have f:=Same.upd (o:=.lst [V.int 1]) hp;have a:fG 6 n ps m sv [.int 1]:=.inl ⟨hn,rfl⟩;have sA:=s4.trans s;exact q p _ _ _ ((sA.trans f).t) (dC tb (sA.trans f)) (sA.free hp) aB (i6 (.cons (.int _) .nil) (wh a)) a
   ·refine(IN λz=>?_).symm;have h2:=(l4 hR).1;rw[<-jP,z,length_nil]at h2;lia
   ·walk_at"rd";have a:fG 6 n ps m sv (th.map λi:Nat=>aiD (i:Int)):=.inr ⟨hn,th,hR,rfl⟩;have sA:=s4.trans s;refine q p _ _ H' sA.t (dC tb sA) (s4.free hp) e (i6 ?_ (wh a)) a;unfold nI;have:=IsAll.ints (H:=H') (th.map λi:Nat=>(i:Int));rw[map_map,map_map]at this;exact this
end
theorem L3(n:Nat)(p:aY):Wh (bN n p):=by
 refine⟨?_,?_⟩
 ·unfold bN;rw[wD,dB,dB,dB,(BR n p.1).w,wD];rfl
 ·unfold bN
  have e:(aX n p.1).depth<=3:=by
   unfold aX;rw[ag1,afI,afI,afI,ag1,ag1];have:=EU p.1;lia
  rw[ag1,afI,afI,afI,ag1];lia
theorem qA(n:Nat)(sv:List aY):∀d∈sv.map (bN n),Wh d:=λd hd=>by
 obtain⟨p,_,rfl⟩:=mem_map.mp hd;exact L3 n p
theorem J5{H:Hp}:∀{zs:List V},(∀x∈zs,∃d,Is H x d)->∃ds,IsAll H zs ds
 |[],_=>⟨[],.nil⟩
 |x::zs,h=>by
  obtain⟨d,hd⟩:=h x (.head _);obtain⟨ds,hds⟩:=J5 λy hy=>h y (.tail _ hy);exact⟨d::ds,.cons hd hds⟩
theorem FlA.is{H:Hp}{zs:List V}{ds:List PyData}(h:FlA H zs ds):∃ds',IsAll H zs ds':=J5 λx hx=>by
 obtain⟨k,hk⟩:=List.getElem?_of_mem hx;have hl:k<zs.length:=(ae3.mp hk).1;obtain⟨d,hd⟩:∃d,ds[k]? =some d:=⟨_,aeY (by rw[<-h.1];exact hl)⟩
 rcases h.2 k x d hk hd with⟨i,_⟩|⟨r,is,rfl,er,_⟩
 ·exact⟨d,i⟩
 ·exact⟨.list (is.map .int),.lst (Rd.of er) (IsAll.ints is)⟩
theorem PP{ta tb:TS}{D:eK}{σ:St}{H:Hp}(C:St->Hp->Prop)(bM:∀σ' H',C σ' H'->tb D σ' H')(h:∀D':eK,D'.rt=D.rt->(∀σ' H',C σ' H'->D'.nx σ' H')->ta D' σ H):qO ta tb D σ H:=h { D with nx:=tb D } rfl bM
theorem nC{H H':Hp}{tw Pt:Addr}{ts:List V}(hw:H tw=some (.lst ts))(s:SameT tw H H')(h:cO H Pt dN dP):cO H' Pt dN dP:=by
 rcases h with z|⟨c,z,y⟩
 ·exact .inl (s _ _ z (bJ z hw (by intro z;cases z)))
 ·exact .inr ⟨c,s _ _ z (bJ z hw (by intro z;cases z)),s _ _ y (bJ y hw (by intro z;cases z))⟩
structure Kp (H:Hp) (x:V) (n:Nat) (ps:List (Int×Int)) (l lk:Addr) (xs:List V) (m:Nat) (sv:List aY) (Pt:Addr):Prop where
 ord:Is H x (aX n ps)
 el:H l=some (.lst xs)
 ek:H lk=some (.lst xs)
 is:IsAll H xs (sv.map (bN m))
 tab:cO H Pt dN dP
section
variable{H H':Hp}{x:V}{n:Nat}{ps:List (Int×Int)}{l lk:Addr}{xs:List V}{m:Nat}{sv:List aY}{Pt:Addr}
theorem Kp.same(h:Kp H x n ps l lk xs m sv Pt)(s:Same H H'):Kp H' x n ps l lk xs m sv Pt:=⟨h.ord.same s,s _ _ h.el,s _ _ h.ek,h.is.same s,dC h.tab s⟩
theorem Kp.tT(h:Kp H x n ps l lk xs m sv Pt)(s:SameT Pt H H')(tb:cO H' Pt dN dP):Kp H' x n ps l lk xs m sv Pt:=by
 obtain⟨tbl,hb⟩:=jC h.tab;have tm:∀(c:Addr)(us:List V),H c=some (.tup us)->H' c=some (.tup us):=λc us e=>s _ _ e (bJ e hb (by intro z;cases z));exact⟨h.ord.tmono tm (lM _ _),s _ _ h.el (bJ h.el hb (by intro z;cases z)),s _ _ h.ek (bJ h.ek hb (by intro z;cases z)),nX hb s h.is,tb⟩
theorem Kp.lst{r:Addr}{ys:List V}(h:Kp H x n ps l lk xs m sv Pt)(hr:H r=some (.lst ys))(n1:l≠r)(n2:lk≠r)(s:SameT r H H'):Kp H' x n ps l lk xs m sv Pt:=by
 have tm:∀(c:Addr)(us:List V),H c=some (.tup us)->H' c=some (.tup us):=λc us e=>s _ _ e (bJ e hr (by intro z;cases z));exact⟨h.ord.tmono tm (lM _ _),s _ _ h.el n1,s _ _ h.ek n2,h.is.tmono tm (eX _ _),nC hr s h.tab⟩
end
section
variable{P:afL}{w:agC}{K:PySem.W.Frag}{mg:Str->Option Value}{base:Heap}{t:Ad}
noncomputable def qW(K:PySem.W.Frag)(Pt:Addr):Sp:=λvs H Q _=>∃a ns,vs=[.ref a]/\Scr K H a ns/\H Pt=some (.tbl #[])/\∀H',Q (.bl true) H'
theorem VE(T:aP K mg t){c Pt:Addr}(B:jY K base mg "greatest_place" c Pt):FnOk P w K mg base aM 12 t.zD t.wV ["_law_script"] (qW K Pt):=by
 refine T.KU.ok sc_law (λvs H Q E h=>?_) (λcdv A outer s H vs Q E hr h=>?_)
 ·obtain⟨a,ns,rfl,_⟩:=h;rfl
 ·obtain⟨a,ns,rfl,hs,hP,q⟩:=h
  refine⟨_,(aE (aT (i:=1) sc_law.nd rfl (afM rfl) (cN pa_nil))
   (aE (aT (i:=2) sc_law.nd rfl (afM rfl) (aG (fK T) (hr.mono (by decide)) rfl T.fM T.fE.kp T.fT .nil aH (aA (pv 0) (aA (pv 1) (aA pe_int pa_nil)))))
   (aE (aT (i:=3) sc_law.nd rfl (afM rfl) (aG (V8 T) (hr.mono (by decide)) rfl T.YH T.LQ.kp T.ad2 .nil aH (aA (pv 0) (aA (pv 1) (aA pe_int pa_nil)))))
   (aE (kG (aG (V4 T) (hr.mono (by decide)) rfl T.YE T.LN.kp T.adZ .nil aH (aA (pv 0) (aA (pv 1) pa_nil))) (gF K rfl (cF (aN (i:=4) sc_law.nd rfl (afM rfl)) (cF (aN (i:=5) sc_law.nd rfl (afM rfl)) gA))))
   (aE (aT (i:=6) sc_law.nd rfl (afM rfl) (jL (ZX K) (by rfl) T.kI kP (aA (pv 4) pa_nil)))
   (aE (cE afP rfl (bU rfl T.bP (aA pe_int pa_nil)) (aN (i:=7) sc_law.nd rfl (afM rfl)) (aE (aT (i:=8) sc_law.nd rfl (afM rfl) (bB jN (bB dH (pv 2) (bB n9 pe_int (pv 7))) pe_int))
   (aE (aT (i:=9) sc_law.nd rfl (afM rfl) (aG (FV T B) (hr.mono (by decide)) rfl T.G1 T.BC.kp T.JY .nil aH (aA (pv 8) (aA (pv 3) (aA (pv 4) pa_nil)))))
   (aE (aT (i:=10) sc_law.nd rfl (afM rfl) (aG (FU T) (hr.mono (by decide)) rfl T.G0 T.BB.kp T.JX .nil aH (aA (pv 9) pa_nil)))
   (aE (cI (eZ K afX agE agF iA (pv 9) (aA pe_str pa_nil)))
   (aE (bF (aZ (eC hr.units) (bB jN (pv 8) pe_int) pe_int (bD _)) (aC (kG pe_non (nV (pv 9) pe_int nF (λ_=>rfl)))) bE)
   (aE (aT (i:=11) sc_law.nd rfl (afM rfl) (aG (FV T B) (hr.mono (by decide)) rfl T.G1 T.BC.kp T.JY .nil aH (aA (pv 8) (aA (pv 3) (aA (pv 4) pa_nil)))))
   (aC (bF (PW.pt (gW (aZ (iW hr.units) (aG (FU T) (hr.mono (by decide)) rfl T.G0 T.BB.kp T.JX .nil aH (aA (pv 11) pa_nil)) (pv 10) (bD _)) (gU (dF (bW (bC iK (by rfl) T.hZ iL (aA (pv 11) (aA (hX (v:=.ty "list") rfl T.kI kP rfl) pa_nil)))))))) (aC (aI pe_bl)) bE)))))))))
   (aC (aI (eW (eC hr.units) (pv 4) (pv 6) (bD _)))))))))),?_⟩
  walk_at"rd";refine⟨ae2 _,λtw htw=>?_⟩;have s0:=Same.upd (o:=.lst []) htw;have hs0:=hs.same s0;have tb0:cO (upd H tw (.lst [])) Pt dN dP:=.inl (s0 _ _ hP);have et0:upd H tw (.lst []) tw=some (.lst []):=aB;generalize upd H tw (.lst [])=H0 at s0 hs0 tb0 et0;walk_at"rd";refine⟨a,ns,tw,[],7,rfl,hs0,et0,by decide,by decide,λr0 H1 ts1 s1 ht1 hl1 r00 r01=>?_⟩;have l1':ts1.length<=1:=by simp at hl1;lia
  walk_at"rd";refine⟨a,ns,tw,ts1,6,rfl,by decide,by decide,hs0.t et0 s1,ht1,by lia,λx H2 st line ts2 s2 ht2 hl2 st1 l6 l1 hx=>?_⟩;have ho:=mZ (vals:=line) st1 (by lia) (by lia);have hb:cH line.length (bS st line)=false:=WK;have n6:line.length<=6:=by lia
  generalize bS st line=ps at ho hb hx;generalize line.length=n at ho hb hx n6 l1 l6;walk_at"rd";refine⟨a,ns,tw,ts2,rfl,(hs0.t et0 s1).t ht1 s2,ht2,by lia,λr l v xs m sv vals ts3 H3 s3 ht3 hl3 nlt nvt nlv er el hxs v1 v3 ok m1 m6 ev lv bv=>?_⟩;have tb3:cO H3 Pt dN dP:=nC ht2 s3 (nC ht1 s2 (nC et0 s1 tb0));have hx3:Is H3 x (aX n ps):=hx.tmono (λc us e=>s3 _ _ e (bJ e ht2 (by intro z;cases z))) (lM _ _);clear s0 hs0 tb0 et0 hs hP htw s1 s2 s3 ht1 ht2 ht3 hx hl1 hl2 hl3 ev lv bv vals;walk_at"rd";refine fY er rfl ?_;walk_at"rd";refine SA el λlk hlk=>?_;have f4:=Same.upd (o:=.lst xs) hlk;have K4:Kp (upd H3 lk (.lst xs)) x n ps l lk xs m sv Pt:=⟨hx3.same f4,f4 _ _ el,aB,hxs.same f4,dC tb3 f4⟩
  generalize upd H3 lk (.lst xs)=H4 at K4;clear f4 hlk hxs er el tb3 hx3;walk_at"rd";refine⟨_,rfl,by lia,by lia,?_⟩;refine dQ (λi σ H'=>(∃v7 v8 v9 v10 v11,σ=[some (.ref a),some (.ref tw),some (.int r0),some x,some (.ref l),some (.ref v),some (.ref lk),v7,v8,v9,v10,v11])/\Kp H' x n ps l lk xs m sv Pt) ⟨⟨_,_,_,_,_,rfl⟩,K4⟩ ?_ ?_
  ·rintro i σ H5 hi ⟨⟨v7,v8,v9,v10,v11,rfl⟩,K5⟩;walk_at"rd";refine fJ (.inl ⟨by decide,by decide⟩) ?_;walk_at"rd";refine fJ (by lia) ?_;obtain⟨cw,hcw⟩:∃cw:Int,cw=(r0+3*(0+(i:Int)))%7:=⟨_,rfl⟩
   rw[<-hcw];have c0:0<=cw:=by lia
   have c7:cw<7:=by lia
   clear hcw;walk_at"rd";refine⟨cw,cw.toNat,x,n,ps,l,xs,m,sv,rfl,by lia,by lia,K5.ord,ho,hb,n6,K5.el,K5.is,v1,v3,λp hp=>(ok p hp).1,by lia,K5.tab,λr1 zs1 ds1 H6 s6 tb6 hr1 er1 fl1 A1=>?_⟩;have K6:=K5.tT s6 tb6;obtain⟨wh1,len1⟩:=J2 (by lia) (by lia) A1;have n1:l≠r1:=λz=>by rw[<-z,K5.el]at hr1;cases hr1
   have n2:lk≠r1:=λz=>by rw[<-z,K5.ek]at hr1;cases hr1
   have lz1:zs1.length=ds1.length:=fl1.1;clear s6 hr1 K5;walk_at"rd";refine⟨r1,zs1,ds1,rfl,er1,fl1,len1,λr2 us H7 s7 hr2 er2 iu=>?_⟩;have K7:=K6.same s7;have er7:=s7 _ _ er1;have n3:r2≠r1:=λz=>by rw[z,er1]at hr2;cases hr2
   clear s7 hr2 K6 fl1 er1;walk_at"rd";refine⟨eO er7,?_⟩;walk_at"rd";refine fZ er7 (dU (by lia)) ?_;have s8:SameT r1 H7 (upd H7 r1 (.lst (zs1++[V.str (agW "changed")]))):=λb u e g=>by rw[aD g];exact e
   have er8:upd H7 r1 (.lst (zs1++[V.str (agW "changed")])) r1=some (.lst (zs1++[V.str (agW "changed")])):=aB;generalize upd H7 r1 (.lst (zs1++[V.str (agW "changed")]))=H8 at s8 er8
   (repeat (first|with_reducible refine EA ?_|dsimp only))
   refine PP (λσ' H'=>σ'=[some (.ref a),some (.ref tw),some (.int r0),some x,some (.ref l),some (.ref v),some (.ref lk),some (.int (0+i)),some (.int cw),some (.ref r1),some (.ref r2),v11]/\SameT r1 H7 H') ?_ (λD' hrt hnx=>?_)
   rotate_left
   ·walk_at"rd";refine fJ (by lia) ?_;walk_at"rd";refine bK (λg=>?_) (λg=>?_)
    ·walk_at"rd";refine tW (j:=0) er8 rfl (by rw[length_append];show 0<_+1;lia) ?_;exact hnx _ _ ⟨rfl,s8.trans λb u e g=>by rw[aD g];exact e⟩
    ·walk_at"rd";exact hnx _ _ ⟨rfl,s8⟩
   ·clear s8 er8 H8;rintro σ' H8 ⟨rfl,s8⟩;have K8:=K7.lst er7 n1 n2 s8;have er28:=s8 _ _ er2 n3;have iu8:IsAll H8 us ds1:=iu.tmono (λc us e=>s8 _ _ e (bJ e er7 (by intro z;cases z))) (mU _ (jA λd hd=>(wh1 d hd).w));clear s8 er7 K7 er2 iu;walk_at"rd";refine⟨cw,cw.toNat,x,n,ps,l,xs,m,sv,rfl,by lia,by lia,K8.ord,ho,hb,n6,K8.el,K8.is,v1,v3,λp hp=>(ok p hp).1,by lia,K8.tab,λr3 zs3 ds3 H9 s9 tb9 hr3 er3 fl3 A3=>?_⟩;obtain rfl:=ad8 A1 A3;have K9:=K8.tT s9 tb9;obtain⟨tbl,htb⟩:=jC K8.tab;have er29:=s9 _ _ er28 (bJ er28 htb (by intro z;cases z));have iu9:IsAll H9 us ds1:=iu8.tmono (λc us e=>s9 _ _ e (bJ e htb (by intro z;cases z))) (mU _ (jA λd hd=>(wh1 d hd).w));clear s9 hr3 K8 er28 iu8;walk_at"rd";refine⟨r3,zs3,ds1,rfl,er3,fl3,len1,λr4 us4 H10 s10 hr4 er4 iu4=>?_⟩;walk_at"rd";refine⟨.list ds1,.list ds1,.lst (Rd.of er4) iu4,.lst (Rd.of (s10 _ _ er29)) (iu9.same s10),oC wh1,oC wh1,?_⟩;rw[IL wh1];refine⟨_,rfl,?_⟩;refine bY (by decide) ?_;walk_at"rd";obtain⟨ds',is3⟩:=fl3.is;refine nM (d:=.list ds') (.lst (Rd.of (s10 _ _ er3)) (is3.same s10)) ?_;walk_at"rd";exact⟨⟨_,_,_,_,_,rfl⟩,K9.same s10⟩
  ·rintro σ H5 ⟨⟨v7,v8,v9,v10,v11,rfl⟩,K5⟩;walk_at"rd";refine⟨.list (sv.map (bN m)),.list (sv.map (bN m)),.lst (Rd.of K5.el) K5.is,.lst (Rd.of K5.ek) K5.is,oC (qA m sv),oC (qA m sv),?_⟩;rw[if_neg afK,IL (qA m sv)];exact q _
end
theorem WC{P:List Value->Prop}(h:P [])(us:List Value)(e:us.length=0):P us:=by
 cases us with
 |nil=>exact h
 |cons a us=>cases e
theorem bX{P:List Value->Prop}(h:∀a,P [a])(us:List Value)(e:us.length=1):P us:=by
 cases us with
 |nil=>cases e
 |cons a us=>exact WC (P:=λus=>P (a::us)) (h a) us (Nat.succ.inj e)
theorem cT{P:List Value->Prop}(h:∀a b,P [a,b])(us:List Value)(e:us.length=2):P us:=by
 cases us with
 |nil=>cases e
 |cons a us=>exact bX (P:=λus=>P (a::us)) (h a) us (Nat.succ.inj e)
theorem dY{P:List Value->Prop}(h:∀a b c,P [a,b,c])(us:List Value)(e:us.length=3):P us:=by
 cases us with
 |nil=>cases e
 |cons a us=>exact cT (P:=λus=>P (a::us)) (h a) us (Nat.succ.inj e)
theorem oH{P:List Value->Prop}(h:∀a b c d,P [a,b,c,d])(us:List Value)(e:us.length=4):P us:=by
 cases us with
 |nil=>cases e
 |cons a us=>exact dY (P:=λus=>P (a::us)) (h a) us (Nat.succ.inj e)
theorem FY{P:List Value->Prop}(h:∀a b c d f,P [a,b,c,d,f])(us:List Value)(e:us.length=5):P us:=by
 cases us with
 |nil=>cases e
 |cons a us=>exact oH (P:=λus=>P (a::us)) (h a) us (Nat.succ.inj e)
theorem aS{K:PySem.W.Frag}{h:Heap}{mg:Str->Option Value}(X:K.In h)(G:h.Ns agZ mg){f:Str}{st:Stmt}{ps:List Str}{a:Addr}{od an:Option Addr}{sl:Array (Option Value)}{oc kV dc pm cd ct:Value}
  (hb:∀(kV doc pm:Value)(an:Option Addr)(cdv ct:Value)(us:List Value),us.length=ps.length->bindArgs (PySem.W.fnOf f f (kN st) (i7 st) (aL st) .none kV doc pm an cdv ct) ⟨us,[]⟩=pure (ps.zip us))
  (e:PySem.W.nsIn K agZ f=some (some (.ref a))) (l:K.lookup a=some ⟨oc,od,.func (PySem.W.fnOf f f (kN st) (i7 st) (aL st) .none kV dc pm an cd ct),sl⟩) (c:PySem.W.codeIn K cd f=true) (k:ah7 K (.ref a)=true):
  ∃a d,mg f=some (.ref a)/\Fun K f f st a d/\Binds K d ps []:=by
 have F:=aa5 (st:=st) l c k;exact⟨a,_,PySem.W.mg_of X G e,F,F.binds hb⟩
theorem eE{K:PySem.W.Frag}{h:Heap}{mg:Str->Option Value}(X:K.In h)(G:h.Ns agZ mg){f:Str}(e:PySem.W.nsIn K agZ f=some none):mg f=none:=PySem.W.mg_none_of X G e
theorem mkM{K:PySem.W.Frag}{h:Heap}{mg:Str->Option Value}(X:K.In h)(G:h.Ns agZ mg){f:Str}{C:Addr}(e:PySem.W.nsIn K agZ f=some (some (.ref C))):mg f=some (.ref C):=PySem.W.mg_of X G e
theorem oO{K:PySem.W.Frag}{h:Heap}{mg:Str->Option Value}(X:K.In h)(G:h.Ns agZ mg){f:Str}{n:Int}{tk:Tok}(e:PySem.W.nsIn K agZ f=some (some (.int n tk))):∃tk,mg f=some (.int n tk):=⟨tk,PySem.W.mg_of X G e⟩
theorem mkS{K:PySem.W.Frag}{h:Heap}{mg:Str->Option Value}(X:K.In h)(G:h.Ns agZ mg){f z:Str}{tk:Tok}(e:PySem.W.nsIn K agZ f=some (some (.str z tk))):∃tk,mg f=some (.str z tk):=⟨tk,PySem.W.mg_of X G e⟩
theorem Y6{K:PySem.W.Frag}{a:Addr}{fd:afD}(F:Fun K "law" "law" nG a fd)(s:aeV)(v:Value):BindsTo s fd ⟨[v],[]⟩ [("_law_script",v)]:=by
 obtain⟨oc,od,kV,doc,pm,an,cdv,ct,osl,rfl,lk,hcd⟩:=F.ex;exact .of_eq rfl
theorem L9{l:PySem.W.OpenLaw}{q:afL}{loose:List Str}{XP:(Str->Option Value)->Heap->Prop}{YP:agC->Heap->Prop}{d:DefRec}{K:Params->PySem.W.Frag}{ts:List Addr}(hn:l.most=some 63)(hdf:d.params.defaults=[])
  (hY:∀(w:agC)(h:Heap),YP w h->(K w.params).In h) (hT:∀(w:agC)(h:Heap),YP w h->∀P∈ts,h.get? P=some (PySem.W.tabObj #[])) (htab:∀p,nB (K p) "greatest_place" ts=true)
  (F:∀(w:agC)(mg:Str->Option Value)(fa:Addr)(h:Heap),(K w.params).In h->h.Ns agZ mg->mg d.name=some (.ref fa)->
   ∃fd:afD,(∀(s:aeV)(u:Value),BindsTo s fd ⟨[u],[]⟩ [("_law_script",u)])/\∀(base:Heap)(c P:Addr),jY (K w.params) base mg "greatest_place" c P->FnOk l.prog w (K w.params) mg base aM 12 fa fd ["_law_script"] (qW (K w.params) P)):
  PySem.W.WalkO q loose XP YP l.row.toRowW d [] (λf vs=>PySem.call f vs):=
 L2.L7 (n:=63) (k:=12) (x:="_law_script") (xt:="greatest_place") (sp:=λw=>qW (K w.params)) hn (by decide) hdf ⟨rfl,by decide,by decide⟩ hY hT htab F (λ_ _ a P ns _ hS hP=>⟨a,ns,rfl,hS,hP,λ_=>rfl⟩)
noncomputable abbrev J8(K:PySem.W.Frag)(mg:Str->Option Value):Prop:=(∃a d,mg "is_whole"=some (ae0 a)/\L2.Fun K "is_whole" "is_whole" My.rS a d/\L2.Binds K d ["value","low","high"] [])/\(∃a d,mg "is_thing"=some (ae0 a)/\L2.Fun K "is_thing" "is_thing" My.rT a d/\L2.Binds K d ["value","many"] [])/\(∃a d,mg "is_pair"=some (ae0 a)/\L2.Fun K "is_pair" "is_pair" My.rY a d/\L2.Binds K d ["value","many"] [])/\(∃a d,mg "is_rising"=some (ae0 a)/\L2.Fun K "is_rising" "is_rising" My.rX a d/\L2.Binds K d ["pairs"] [])/\(∃a d,mg "is_order"=some (ae0 a)/\L2.Fun K "is_order" "is_order" My.sD a d/\L2.Binds K d ["value"] [])/\(∃a d,mg "is_step"=some (ae0 a)/\L2.Fun K "is_step" "is_step" My.rV a d/\L2.Binds K d ["value"] [])/\(∃a d,mg "is_order_with_step"=some (ae0 a)/\L2.Fun K "is_order_with_step" "is_order_with_step" My.rZ a d/\L2.Binds K d ["value"] [])/\(∃a d,mg "is_several"=some (ae0 a)/\L2.Fun K "is_several" "is_several" My.rW a d/\L2.Binds K d ["value"] [])/\(∃a d,mg "need_order"=some (ae0 a)/\L2.Fun K "need_order" "need_order" My.rN a d/\L2.Binds K d ["value"] [])/\(∃a d,mg "need_step"=some (ae0 a)/\L2.Fun K "need_step" "need_step" My.rL a d/\L2.Binds K d ["value"] [])/\(∃a d,mg "need_thing"=some (ae0 a)/\L2.Fun K "need_thing" "need_thing" My.rK a d/\L2.Binds K d ["value","many"] [])/\(∃a d,mg "need_several"=some (ae0 a)/\L2.Fun K "need_several" "need_several" My.rM a d/\L2.Binds K d ["value"] [])/\(∃a d,mg "bars_as_two"=some (ae0 a)/\L2.Fun K "bars_as_two" "bars_as_two" My.sU a d/\L2.Binds K d ["pairs","a","b","c","d"] [])/\(∃a d,mg "bars_as_three"=some (ae0 a)/\L2.Fun K "bars_as_three" "bars_as_three" My.sV a d/\L2.Binds K d ["pairs","a","b","c","d"] [])/\(∃a d,mg "first_two"=some (ae0 a)/\L2.Fun K "first_two" "first_two" My.sG a d/\L2.Binds K d ["pairs"] [])/\(∃a d,mg "first_three"=some (ae0 a)/\L2.Fun K "first_three" "first_three" My.sI a d/\L2.Binds K d ["many","pairs"] [])/\(∃a d,mg "bar"=some (ae0 a)/\L2.Fun K "bar" "bar" My.sX a d/\L2.Binds K d ["order"] [])/\(∃a d,mg "need_unbarred"=some (ae0 a)/\L2.Fun K "need_unbarred" "need_unbarred" My.rJ a d/\L2.Binds K d ["order"] [])/\(∃a d,mg "are_beside"=some (ae0 a)/\L2.Fun K "are_beside" "are_beside" My.sZ a d/\L2.Binds K d ["pairs","one","other"] [])/\(∃a d,mg "beside"=some (ae0 a)/\L2.Fun K "beside" "beside" My.sT a d/\L2.Binds K d ["order","thing"] [])/\(∃a d,mg "may_stand_behind"=some (ae0 a)/\L2.Fun K "may_stand_behind" "may_stand_behind" My.rP a d/\L2.Binds K d ["allowed","part","thing"] [])/\(∃a d,mg "longer_parts"=some (ae0 a)/\L2.Fun K "longer_parts" "longer_parts" My.rQ a d/\L2.Binds K d ["many","allowed","parts"] [])/\(∃a d,mg "all_parts"=some (ae0 a)/\L2.Fun K "all_parts" "all_parts" My.tD a d/\L2.Binds K d ["many","allowed"] [])/\(∃a d,mg "pairs_beside"=some (ae0 a)/\L2.Fun K "pairs_beside" "pairs_beside" My.rH a d/\L2.Binds K d ["order"] [])/\(∃a d,mg "all_groups"=some (ae0 a)/\L2.Fun K "all_groups" "all_groups" My.tG a d/\L2.Binds K d ["order"] [])/\(∃a d,mg "all_lines"=some (ae0 a)/\L2.Fun K "all_lines" "all_lines" My.tF a d/\L2.Binds K d ["order"] [])/\(∃a d,mg "is_within"=some (ae0 a)/\L2.Fun K "is_within" "is_within" My.rR a d/\L2.Binds K d ["part","things"] [])/\(∃a d,mg "things_without"=some (ae0 a)/\L2.Fun K "things_without" "things_without" My.q9 a d/\L2.Binds K d ["things","part"] [])/\(∃a d,mg "most_within"=some (ae0 a)/\L2.Fun K "most_within" "most_within" My.rO a d/\L2.Binds K d ["parts","things"] [])/\(∃a d,mg "can_be_next"=some (ae0 a)/\L2.Fun K "can_be_next" "can_be_next" My.sS a d/\L2.Binds K d ["part","across","things"] [])/\(∃a d,mg "as_few_as_can_be"=some (ae0 a)/\L2.Fun K "as_few_as_can_be" "as_few_as_can_be" My.sY a d/\L2.Binds K d ["many","parts","across"] [])/\(∃a d,mg "few_groups"=some (ae0 a)/\L2.Fun K "few_groups" "few_groups" My.sK a d/\L2.Binds K d ["order"] [])/\(∃a d,mg "few_lines"=some (ae0 a)/\L2.Fun K "few_lines" "few_lines" My.sJ a d/\L2.Binds K d ["order"] [])/\(∃a d,mg "demand"=some (ae0 a)/\L2.Fun K "demand" "demand" My.sP a d/\L2.Binds K d ["pairs","step","one","other"] [])/\(∃a d,mg "all_demands"=some (ae0 a)/\L2.Fun K "all_demands" "all_demands" My.tH a d/\L2.Binds K d ["order","step"] [])/\(∃a d,mg "raise_once"=some (ae0 a)/\L2.Fun K "raise_once" "raise_once" My.rF a d/\L2.Binds K d ["demands","values","origins"] [])/\(∃a d,mg "raise_all"=some (ae0 a)/\L2.Fun K "raise_all" "raise_all" My.rG a d/\L2.Binds K d ["demands","values","origins"] [])/\(∃a d,mg "round_behind"=some (ae0 a)/\L2.Fun K "round_behind" "round_behind" My.rE a d/\L2.Binds K d ["origins","raised"] [])/\(∃a d,mg "things_in_round"=some (ae0 a)/\L2.Fun K "things_in_round" "things_in_round" My.rA a d/\L2.Binds K d ["many","demands"] [])/\(∃a d,mg "round_of"=some (ae0 a)/\L2.Fun K "round_of" "round_of" My.rD a d/\L2.Binds K d ["order","step"] [])/\(∃a d,mg "height"=some (ae0 a)/\L2.Fun K "height" "height" My.sE a d/\L2.Binds K d ["pairs","thing"] [])/\(∃a d,mg "things_at"=some (ae0 a)/\L2.Fun K "things_at" "things_at" My.rB a d/\L2.Binds K d ["heights","level"] [])/\(∃a d,mg "row"=some (ae0 a)/\L2.Fun K "row" "row" My.rC a d/\L2.Binds K d ["order"] [])/\(∃a d,mg "unlike_pairs"=some (ae0 a)/\L2.Fun K "unlike_pairs" "unlike_pairs" My.qZ a d/\L2.Binds K d ["many"] [])/\(∃a d,mg "choices"=some (ae0 a)/\L2.Fun K "choices" "choices" My.sR a d/\L2.Binds K d ["pairs"] [])/\(∃a d,mg "all_orders"=some (ae0 a)/\L2.Fun K "all_orders" "all_orders" My.tE a d/\L2.Binds K d ["many"] [])/\(∃a d,mg "count_of_things"=some (ae0 a)/\L2.Fun K "count_of_things" "count_of_things" My.sQ a d/\L2.Binds K d ["several"] [])/\(∃a d,mg "demands_of_all"=some (ae0 a)/\L2.Fun K "demands_of_all" "demands_of_all" My.sL a d/\L2.Binds K d ["several"] [])/\(∃a d,mg "demand_at"=some (ae0 a)/\L2.Fun K "demand_at" "demand_at" My.sM a d/\L2.Binds K d ["several","place","one","other"] [])/\(∃a d,mg "greatest_place"=some (ae0 a)/\L2.Fun K "greatest_place" "greatest_place" My.sF a d/\L2.Binds K d ["several","one","other"] [])/\(∃a d,mg "bar_for"=some (ae0 a)/\L2.Fun K "bar_for" "bar_for" My.sW a d/\L2.Binds K d ["several"] [])/\(∃a d,mg "_law_cell_at"=some (ae0 a)/\L2.Fun K "_law_cell_at" "_law_cell_at" My.tQ a d/\L2.Binds K d ["_law_script","_law_k"] [])/\(∃a d,mg "_law_mixed"=some (ae0 a)/\L2.Fun K "_law_mixed" "_law_mixed" My.tL a d/\L2.Binds K d ["_law_script","_law_k","_law_many"] [])/\(∃a d,mg "_law_draw"=some (ae0 a)/\L2.Fun K "_law_draw" "_law_draw" My.tP a d/\L2.Binds K d ["_law_script","_law_town","_law_many"] [])/\(∃a d,mg "_law_pick"=some (ae0 a)/\L2.Fun K "_law_pick" "_law_pick" My.tK a d/\L2.Binds K d ["_law_script","_law_town","_law_some"] [])/\(∃a d,mg "_law_free"=some (ae0 a)/\L2.Fun K "_law_free" "_law_free" My.tM a d/\L2.Binds K d ["_law_script","_law_town","_law_low","_law_most"] [])/\(∃a d,mg "_law_few"=some (ae0 a)/\L2.Fun K "_law_few" "_law_few" My.tO a d/\L2.Binds K d ["_law_script","_law_town","_law_most"] [])/\(∃a d,mg "_law_told"=some (ae0 a)/\L2.Fun K "_law_told" "_law_told" My.tI a d/\L2.Binds K d ["_law_step","_law_values"] [])/\(∃a d,mg "_law_several"=some (ae0 a)/\L2.Fun K "_law_several" "_law_several" My.tJ a d/\L2.Binds K d ["_law_script","_law_town"] [])/\(∃a d,mg "_law_ask"=some (ae0 a)/\L2.Fun K "_law_ask" "_law_ask" My.tR a d/\L2.Binds K d ["_law_what","_law_order","_law_several_here"] [])/\(∃a d,mg "_law_flat"=some (ae0 a)/\L2.Fun K "_law_flat" "_law_flat" My.tN a d/\L2.Binds K d ["_law_made"] [])/\(∃a d,mg "law"=some (ae0 a)/\L2.Fun K "law" "law" My.nG a d/\L2.Binds K d ["_law_script"] [])/\(mg "all"=none)/\(mg "bool"=none)/\(mg "int"=none)/\(mg "isinstance"=none)/\(mg "len"=none)/\(mg "list"=none)/\(mg "max"=none)/\(mg "min"=none)/\(mg "range"=none)/\(mg "reversed"=none)/\(mg "set"=none)/\(mg "sorted"=none)/\(mg "tuple"=none)/\(mg "zip"=none)/\(∃tk,mg "MOST_LISTED"=some (ae5.int 3 tk))/\(∃tk,mg "MOST_SEVERAL"=some (ae5.int 3 tk))/\(∃tk,mg "MOST_STEP"=some (ae5.int 999 tk))/\(∃tk,mg "MOST_THINGS"=some (ae5.int 8 tk))
theorem uQ9{A B:Type}{P:A->B->Prop}{R Q:Prop}(h:(∃a b,P a b)/\R)(k:∀a b,P a b->R->Q):Q:=h.1.elim λa x=>x.elim λb p=>k a b p h.2
theorem MO{K:PySem.W.Frag}{mg:Str->Option Value}(TS:J8 K mg):∃t:Ad,aP K mg t:=
 uQ9 TS λa0 d0 p0 r=>uQ9 r λa1 d1 p1 r=>uQ9 r λa2 d2 p2 r=>uQ9 r λa3 d3 p3 r=>uQ9 r λa4 d4 p4 r=>uQ9 r λa5 d5 p5 r=>uQ9 r λa6 d6 p6 r=>uQ9 r λa7 d7 p7 r=>uQ9 r λa8 d8 p8 r=>uQ9 r λa9 d9 p9 r=>uQ9 r λa10 d10 p10 r=>uQ9 r λa11 d11 p11 r=>uQ9 r λa12 d12 p12 r=>uQ9 r λa13 d13 p13 r=>uQ9 r λa14 d14 p14 r=>uQ9 r λa15 d15 p15 r=>uQ9 r λa16 d16 p16 r=>uQ9 r λa17 d17 p17 r=>uQ9 r λa18 d18 p18 r=>uQ9 r λa19 d19 p19 r=>uQ9 r λa20 d20 p20 r=>uQ9 r λa21 d21 p21 r=>uQ9 r λa22 d22 p22 r=>uQ9 r λa23 d23 p23 r=>uQ9 r λa24 d24 p24 r=>uQ9 r λa25 d25 p25 r=>uQ9 r λa26 d26 p26 r=>uQ9 r λa27 d27 p27 r=>uQ9 r λa28 d28 p28 r=>uQ9 r λa29 d29 p29 r=>uQ9 r λa30 d30 p30 r=>uQ9 r λa31 d31 p31 r=>uQ9 r λa32 d32 p32 r=>uQ9 r λa33 d33 p33 r=>uQ9 r λa34 d34 p34 r=>uQ9 r λa35 d35 p35 r=>uQ9 r λa36 d36 p36 r=>uQ9 r λa37 d37 p37 r=>uQ9 r λa38 d38 p38 r=>uQ9 r λa39 d39 p39 r=>uQ9 r λa40 d40 p40 r=>uQ9 r λa41 d41 p41 r=>uQ9 r λa42 d42 p42 r=>uQ9 r λa43 d43 p43 r=>uQ9 r λa44 d44 p44 r=>uQ9 r λa45 d45 p45 r=>uQ9 r λa46 d46 p46 r=>uQ9 r λa47 d47 p47 r=>uQ9 r λa48 d48 p48 r=>uQ9 r λa49 d49 p49 r=>uQ9 r λa50 d50 p50 r=>uQ9 r λa51 d51 p51 r=>uQ9 r λa52 d52 p52 r=>uQ9 r λa53 d53 p53 r=>uQ9 r λa54 d54 p54 r=>uQ9 r λa55 d55 p55 r=>uQ9 r λa56 d56 p56 r=>uQ9 r λa57 d57 p57 r=>uQ9 r λa58 d58 p58 r=>uQ9 r λa59 d59 p59 r=>uQ9 r λa60 d60 p60 r=>uQ9 r λa61 d61 p61 r=>⟨⟨a0,d0,a1,d1,a2,d2,a3,d3,a4,d4,a5,d5,a6,d6,a7,d7,a8,d8,a9,d9,a10,d10,a11,d11,a12,d12,a13,d13,a14,d14,a15,d15,a16,d16,a17,d17,a18,d18,a19,d19,a20,d20,a21,d21,a22,d22,a23,d23,a24,d24,a25,d25,a26,d26,a27,d27,a28,d28,a29,d29,a30,d30,a31,d31,a32,d32,a33,d33,a34,d34,a35,d35,a36,d36,a37,d37,a38,d38,a39,d39,a40,d40,a41,d41,a42,d42,a43,d43,a44,d44,a45,d45,a46,d46,a47,d47,a48,d48,a49,d49,a50,d50,a51,d51,a52,d52,a53,d53,a54,d54,a55,d55,a56,d56,a57,d57,a58,d58,a59,d59,a60,d60,a61,d61⟩,⟨p0.1,p0.2.1,p0.2.2,p1.1,p1.2.1,p1.2.2,p2.1,p2.2.1,p2.2.2,p3.1,p3.2.1,p3.2.2,p4.1,p4.2.1,p4.2.2,p5.1,p5.2.1,p5.2.2,p6.1,p6.2.1,p6.2.2,p7.1,p7.2.1,p7.2.2,p8.1,p8.2.1,p8.2.2,p9.1,p9.2.1,p9.2.2,p10.1,p10.2.1,p10.2.2,p11.1,p11.2.1,p11.2.2,p12.1,p12.2.1,p12.2.2,p13.1,p13.2.1,p13.2.2,p14.1,p14.2.1,p14.2.2,p15.1,p15.2.1,p15.2.2,p16.1,p16.2.1,p16.2.2,p17.1,p17.2.1,p17.2.2,p18.1,p18.2.1,p18.2.2,p19.1,p19.2.1,p19.2.2,p20.1,p20.2.1,p20.2.2,p21.1,p21.2.1,p21.2.2,p22.1,p22.2.1,p22.2.2,p23.1,p23.2.1,p23.2.2,p24.1,p24.2.1,p24.2.2,p25.1,p25.2.1,p25.2.2,p26.1,p26.2.1,p26.2.2,p27.1,p27.2.1,p27.2.2,p28.1,p28.2.1,p28.2.2,p29.1,p29.2.1,p29.2.2,p30.1,p30.2.1,p30.2.2,p31.1,p31.2.1,p31.2.2,p32.1,p32.2.1,p32.2.2,p33.1,p33.2.1,p33.2.2,p34.1,p34.2.1,p34.2.2,p35.1,p35.2.1,p35.2.2,p36.1,p36.2.1,p36.2.2,p37.1,p37.2.1,p37.2.2,p38.1,p38.2.1,p38.2.2,p39.1,p39.2.1,p39.2.2,p40.1,p40.2.1,p40.2.2,p41.1,p41.2.1,p41.2.2,p42.1,p42.2.1,p42.2.2,p43.1,p43.2.1,p43.2.2,p44.1,p44.2.1,p44.2.2,p45.1,p45.2.1,p45.2.2,p46.1,p46.2.1,p46.2.2,p47.1,p47.2.1,p47.2.2,p48.1,p48.2.1,p48.2.2,p49.1,p49.2.1,p49.2.2,p50.1,p50.2.1,p50.2.2,p51.1,p51.2.1,p51.2.2,p52.1,p52.2.1,p52.2.2,p53.1,p53.2.1,p53.2.2,p54.1,p54.2.1,p54.2.2,p55.1,p55.2.1,p55.2.2,p56.1,p56.2.1,p56.2.2,p57.1,p57.2.1,p57.2.2,p58.1,p58.2.1,p58.2.2,p59.1,p59.2.1,p59.2.2,p60.1,p60.2.1,p60.2.2,p61.1,p61.2.1,p61.2.2,r.1,r.2.1,r.2.2.1,r.2.2.2.1,r.2.2.2.2.1,r.2.2.2.2.2.1,r.2.2.2.2.2.2.1,r.2.2.2.2.2.2.2.1,r.2.2.2.2.2.2.2.2.1,r.2.2.2.2.2.2.2.2.2.1,r.2.2.2.2.2.2.2.2.2.2.1,r.2.2.2.2.2.2.2.2.2.2.2.1,r.2.2.2.2.2.2.2.2.2.2.2.2.1,r.2.2.2.2.2.2.2.2.2.2.2.2.2.1,r.2.2.2.2.2.2.2.2.2.2.2.2.2.2.1,r.2.2.2.2.2.2.2.2.2.2.2.2.2.2.2.1,r.2.2.2.2.2.2.2.2.2.2.2.2.2.2.2.2.1,r.2.2.2.2.2.2.2.2.2.2.2.2.2.2.2.2.2⟩⟩
end My
open PySem PySem.W PyProof.Rows
namespace PySem.W.Fast
def tw799489771286957039:=0
def tw4692124980533747238:=0
def tw6350378099563705242:=0
def tw7305558966825400766:=0
def tw16000094556264728235:=0
def tw15013415395390714633:=0
def tw2076079735473579501:=0
def tw7581284687215742969:=0
def tw16165830008890800283:=0
def tw985586025237906301:=0
def tw579290177234579622:=0
def tw604474031827387063:=0
def tw10482932035526383616:=0
def tw11765280997798279078:=0
def tw15104687040966556737:=0
def tw7356630104755886539:=0
def tw4389131709840983681:=0
def tw3492929378452548002:=0
def tw3981182067065571642:=0
def tw4575766518538283224:=0
def tw1023804704049185389:=0
def tw2455855233511255662:=0
def tw2805238358532581530:=0
def tw14241687019196373274:=0
def tw10411278969088062445:=0
def tw12959766921731606558:=0
def tw567085265182033232:=0
def tw156711121700984647:=0
def tw9821292209267155186:=0
def tw4227570033694576462:=0
def tw4120938520933123243:=0
def tw1865344392914831593:=0
def tw16131248055743272500:=0
def tw10117682580737217349:=0
def tw3916933278586199527:=0
def tw1676670709436522376:=0
def tw11214374545703008996:=0
def tw9242132910806233628:=0
def tw6981192035634363761:=0
def tw7360281504245089068:=0
def tw560768065676219244:=0
def tw15948571561761061700:=0
def tw11967994668840727576:=0
def tw14329813701404782765:=0
def tw15326178965959114316:=0
def tw11926100983308616893:=0
def tw4078232791585829428:=0
def tw12328780735848876347:=0
def tw7537166588787226095:=0
def tw9652608000759727547:=0
def tw3965652818937857358:=0
def tw13630620789920995997:=0
def tw12242535658827269245:=0
def tw6666368268632358574:=0
def tw10385820367229365652:=0
def tw17323281169140736288:=0
def tw11047192931144285403:=0
def tw3256937022316228569:=0
def tw16556383692002260171:=0
def tw8071534850549404709:=0
def tw13218832058522595777:=0
def tw13864178739597842868:=0
def tw17868263905694227590:=0
def tw12172966075994961134:=0
def tw11753641211010561635:=0
def tw748465933139029859:=0
def tw13495920615881283650:=0
def tw9071982983140902757:=0
def tw8005110607978888127:=0
def tw5369289858867735143:=0
def tw12370018911169268889:=0
def tw1791528001718514745:=0
def tw3534080208054763038:=0
def tw8605411878391381665:=0
def tw1171711356050197671:=0
def tw14503814195857297448:=0
def tw14782286970444449427:=0
def tw11313054605370756641:=0
def tw6252933807165694987:=0
def tw5421049620136306500:=0
def tw17577752883825997211:=0
def tw10776462616581924103:=0
def tw203812165736517045:=0
def tw6340207667828900356:=0
def tw14079487293979815721:=0
def tw8611316932555938288:=0
def tw14786992484202846544:=0
def tw1923571719928271489:=0
def tw15559115777481965767:=0
def tw16800479473963880516:=0
def tw15310607584209014477:=0
def tw18373561651539671296:=0
def tw10514079027421515097:=0
def tw14862035349929000094:=0
def tw1825924689393415830:=0
def tw16715854128845568820:=0
def tw11569542204751476069:=0
def tw17128448536390315850:=0
def tw9095697801394680909:=0
def tw4015273135359255211:=0
def tw5444765742926208123:=0
def tw15518186418065973429:=0
def tw5662836490161989337:=0
def tw11777314641489303756:=0
def tw10018390283282271803:=0
def tw11667508515987554252:=0
def tw9725917814545311970:=0
def tw13416369497920925882:=0
def tw12975820408970630885:=0
def tw5673730398044318123:=0
def tw15814704858707383529:=0
def tw12571815777752304006:=0
def tw8889054057101227170:=0
def tw5642462817674272656:=0
def tw3896337432327410087:=0
def tw9838860341116355727:=0
def tw9050106654795152770:=0
def tw5873134170596888048:=0
def tw4052061952467725317:=0
def tw12264441370375073586:=0
def tw2690609036888129689:=0
def tw2030903287965894520:=0
def tw14533878664130930147:=0
def tw17425268411843798447:=0
def tw12311597287398021277:=0
def tw74686616231569984:=0
def tw656129762190974065:=0
def tw17030629581056367758:=0
def tw10044009393819283105:=0
def tw16017951764491014582:=0
def tw15558380220804581683:=0
def tw13185867838844887079:=0
def tw16178377802796164239:=0
def tw5843522142811819058:=0
def tw14375140903374098779:=0
def tw910988891330221064:=0
def tw4921769415154598199:=0
def tw1276682995585273789:=0
def tw12241935948566588819:=0
def tw8995725972777899920:=0
def tw12118108062484653922:=0
def tw4534353826476157863:=0
def tw4587961840827236428:=0
def tw4810883404600340872:=0
def tw13887042136898199283:=0
def tw13266573133951168842:=0
def tw10261948148703585749:=0
def tw14541000279819855858:=0
def tw14289182360182494101:=0
def tw2253836348390040657:=0
def tw9347855171684091093:=0
def tw9153889516658031655:=0
def tw15510357764857401668:=0
def tw1428057540018248940:=0
def tw11349186128066078280:=0
def tw9983996297514972627:=0
def tw5449570784865393750:=0
def tw15341351144326859545:=0
def tw14817168959751175506:=0
def tw9635256693043318334:=0
def tw8621805670237817282:=0
def tw9515375232590516112:=0
def tw5995680364066396904:=0
def tw14763274170307599464:=0
def tw11238635541859238367:=0
def tw5525676923630795311:=0
def tw9792701688322854157:=0
def tw9089026283211509482:=0
def tw8128275195321738701:=0
def tw627906113410551574:=0
def tw16239726835749819306:=0
def tw5378336648980753819:=0
def tw12153530311448968369:=0
def tw16257319625591656673:=0
def tw1334148110165141709:=0
def tw10159707189948740552:=0
def tw5127469345326459711:=0
def tw9020327963955716779:=0
def tw606581634031276623:=0
def tw3464334001850387190:=0
def tw17444110911167926539:=0
def tw16411461197960012891:=0
def tw11307812176275889591:=0
def tw14870213938522987754:=0
def tw6457690169394486276:=0
def tw10265121039220917885:=0
def tw18309466266284762779:=0
def tw14201944798505450596:=0
def tw10316568544772866095:=0
def tw2828703919292490503:=0
def tw3014096884035181106:=0
def tw3954029925352088167:=0
def tw6642960305438719435:=0
def tw14883009086231622750:=0
def tw4514909873226267432:=0
def tw3523829226095819510:=0
def tw11493025201778796746:=0
def tw15983722884812926691:=0
def tw15736525388616934816:=0
def tw16874664431509448741:=0
def tw11285730682276745890:=0
def tw17166292770622357130:=0
def tw10551590390673500361:=0
def tw8699545077684007814:=0
def tw15778797763067763237:=0
def tw16894272542495605736:=0
def tw7269486337949599643:=0
def tw8932069476364414892:=0
def tw7386455418204402716:=0
def tw14237356217040477257:=0
def tw1361788968635585734:=0
def tw8552937741545408168:=0
def tw4507114350691594480:=0
def tw17645823698414528361:=0
def tw5906268547743945155:=0
def tw544126023968344638:=0
def tw5069043131971461736:=0
def tw9132189886890805267:=0
def tw12340079940892631338:=0
def tw6849928894547748890:=0
def tw14777523060663242246:=0
def tw4188178252734108779:=0
def tw14029070335157013325:=0
def tw4649659399233440361:=0
def tw14609764963548444659:=0
def tw12435843708436149901:=0
def tw17272684343848683641:=0
def tw8560985692457980846:=0
def tw13316830055074073114:=0
def tw10428245479563248642:=0
def tw1503658964989048938:=0
def tw13106751542375983979:=0
def tw10915349954980399960:=0
def tw9064735649498138563:=0
def tw13037583381868423987:=0
end PySem.W.Fast
set_option maxRecDepth 100000 in
set_option maxHeartbeats 0 in
theorem PySem.Challenge.cw_noticed_k40_whole_again_and_kept_holds : PySem.Challenge.rw_noticed_k40_whole_again_and_kept.Holds := by
 w_on;o_law;k_head;(case hw=>w_witness2)
 k_fill
 refine My.L9 (l:=PySem.Challenge.rw_noticed_k40_whole_again_and_kept) rfl rfl (λw h Y=>PySem.W.km_in_of Y) (λw h Y=>PySem.W.km_tabs_of Y) ?T ?F
 case T=>intro p;kernel_rfl
 case F=>
  intro w mg fa h KX G hmg
  have TS:My.J8 (L2.aQ KX) mg:=by
   refine'⟨?t0,?t1,?t2,?t3,?t4,?t5,?t6,?t7,?t8,?t9,?t10,?t11,?t12,?t13,?t14,?t15,?t16,?t17,?t18,?t19,?t20,?t21,?t22,?t23,?t24,?t25,?t26,?t27,?t28,?t29,?t30,?t31,?t32,?t33,?t34,?t35,?t36,?t37,?t38,?t39,?t40,?t41,?t42,?t43,?t44,?t45,?t46,?t47,?t48,?t49,?t50,?t51,?t52,?t53,?t54,?t55,?t56,?t57,?t58,?t59,?t60,?t61,?t62,?t63,?t64,?t65,?t66,?t67,?t68,?t69,?t70,?t71,?t72,?t73,?t74,?t75,?t76,?t77,?t78,?t79⟩
   case t0=>
    dsimp only[L2.aQ];refine' My.aS KX G ?hb ?e ?l ?c ?k
    (case hb=>exact λ_ _ _ _ _ _=>My.dY (λ_ _ _=>rfl))
    (case e=>k_is);(case l=>k_is);(case c=>k_is);(case k=>k_is)
   case t1=>
    dsimp only[L2.aQ];refine' My.aS KX G ?hb ?e ?l ?c ?k
    (case hb=>exact λ_ _ _ _ _ _=>My.cT (λ_ _=>rfl))
    (case e=>k_is);(case l=>k_is);(case c=>k_is);(case k=>k_is)
   case t2=>
    dsimp only[L2.aQ];refine' My.aS KX G ?hb ?e ?l ?c ?k
    (case hb=>exact λ_ _ _ _ _ _=>My.cT (λ_ _=>rfl))
    (case e=>k_is);(case l=>k_is);(case c=>k_is);(case k=>k_is)
   case t3=>
    dsimp only[L2.aQ];refine' My.aS KX G ?hb ?e ?l ?c ?k
    (case hb=>exact λ_ _ _ _ _ _=>My.bX (λ_=>rfl))
    (case e=>k_is);(case l=>k_is);(case c=>k_is);(case k=>k_is)
   case t4=>
    dsimp only[L2.aQ];refine' My.aS KX G ?hb ?e ?l ?c ?k
    (case hb=>exact λ_ _ _ _ _ _=>My.bX (λ_=>rfl))
    (case e=>k_is);(case l=>k_is);(case c=>k_is);(case k=>k_is)
   case t5=>
    dsimp only[L2.aQ];refine' My.aS KX G ?hb ?e ?l ?c ?k
    (case hb=>exact λ_ _ _ _ _ _=>My.bX (λ_=>rfl))
    (case e=>k_is);(case l=>k_is);(case c=>k_is);(case k=>k_is)
   case t6=>
    dsimp only[L2.aQ];refine' My.aS KX G ?hb ?e ?l ?c ?k
    (case hb=>exact λ_ _ _ _ _ _=>My.bX (λ_=>rfl))
    (case e=>k_is);(case l=>k_is);(case c=>k_is);(case k=>k_is)
   case t7=>
    dsimp only[L2.aQ];refine' My.aS KX G ?hb ?e ?l ?c ?k
    (case hb=>exact λ_ _ _ _ _ _=>My.bX (λ_=>rfl))
    (case e=>k_is);(case l=>k_is);(case c=>k_is);(case k=>k_is)
   case t8=>
    dsimp only[L2.aQ];refine' My.aS KX G ?hb ?e ?l ?c ?k
    (case hb=>exact λ_ _ _ _ _ _=>My.bX (λ_=>rfl))
    (case e=>k_is);(case l=>k_is);(case c=>k_is);(case k=>k_is)
   case t9=>
    dsimp only[L2.aQ];refine' My.aS KX G ?hb ?e ?l ?c ?k
    (case hb=>exact λ_ _ _ _ _ _=>My.bX (λ_=>rfl))
    (case e=>k_is);(case l=>k_is);(case c=>k_is);(case k=>k_is)
   case t10=>
    dsimp only[L2.aQ];refine' My.aS KX G ?hb ?e ?l ?c ?k
    (case hb=>exact λ_ _ _ _ _ _=>My.cT (λ_ _=>rfl))
    (case e=>k_is);(case l=>k_is);(case c=>k_is);(case k=>k_is)
   case t11=>
    dsimp only[L2.aQ];refine' My.aS KX G ?hb ?e ?l ?c ?k
    (case hb=>exact λ_ _ _ _ _ _=>My.bX (λ_=>rfl))
    (case e=>k_is);(case l=>k_is);(case c=>k_is);(case k=>k_is)
   case t12=>
    dsimp only[L2.aQ];refine' My.aS KX G ?hb ?e ?l ?c ?k
    (case hb=>exact λ_ _ _ _ _ _=>My.FY (λ_ _ _ _ _=>rfl))
    (case e=>k_is);(case l=>k_is);(case c=>k_is);(case k=>k_is)
   case t13=>
    dsimp only[L2.aQ];refine' My.aS KX G ?hb ?e ?l ?c ?k
    (case hb=>exact λ_ _ _ _ _ _=>My.FY (λ_ _ _ _ _=>rfl))
    (case e=>k_is);(case l=>k_is);(case c=>k_is);(case k=>k_is)
   case t14=>
    dsimp only[L2.aQ];refine' My.aS KX G ?hb ?e ?l ?c ?k
    (case hb=>exact λ_ _ _ _ _ _=>My.bX (λ_=>rfl))
    (case e=>k_is);(case l=>k_is);(case c=>k_is);(case k=>k_is)
   case t15=>
    dsimp only[L2.aQ];refine' My.aS KX G ?hb ?e ?l ?c ?k
    (case hb=>exact λ_ _ _ _ _ _=>My.cT (λ_ _=>rfl))
    (case e=>k_is);(case l=>k_is);(case c=>k_is);(case k=>k_is)
   case t16=>
    dsimp only[L2.aQ];refine' My.aS KX G ?hb ?e ?l ?c ?k
    (case hb=>exact λ_ _ _ _ _ _=>My.bX (λ_=>rfl))
    (case e=>k_is);(case l=>k_is);(case c=>k_is);(case k=>k_is)
   case t17=>
    dsimp only[L2.aQ];refine' My.aS KX G ?hb ?e ?l ?c ?k
    (case hb=>exact λ_ _ _ _ _ _=>My.bX (λ_=>rfl))
    (case e=>k_is);(case l=>k_is);(case c=>k_is);(case k=>k_is)
   case t18=>
    dsimp only[L2.aQ];refine' My.aS KX G ?hb ?e ?l ?c ?k
    (case hb=>exact λ_ _ _ _ _ _=>My.dY (λ_ _ _=>rfl))
    (case e=>k_is);(case l=>k_is);(case c=>k_is);(case k=>k_is)
   case t19=>
    dsimp only[L2.aQ];refine' My.aS KX G ?hb ?e ?l ?c ?k
    (case hb=>exact λ_ _ _ _ _ _=>My.cT (λ_ _=>rfl))
    (case e=>k_is);(case l=>k_is);(case c=>k_is);(case k=>k_is)
   case t20=>
    dsimp only[L2.aQ];refine' My.aS KX G ?hb ?e ?l ?c ?k
    (case hb=>exact λ_ _ _ _ _ _=>My.dY (λ_ _ _=>rfl))
    (case e=>k_is);(case l=>k_is);(case c=>k_is);(case k=>k_is)
   case t21=>
    dsimp only[L2.aQ];refine' My.aS KX G ?hb ?e ?l ?c ?k
    (case hb=>exact λ_ _ _ _ _ _=>My.dY (λ_ _ _=>rfl))
    (case e=>k_is);(case l=>k_is);(case c=>k_is);(case k=>k_is)
   case t22=>
    dsimp only[L2.aQ];refine' My.aS KX G ?hb ?e ?l ?c ?k
    (case hb=>exact λ_ _ _ _ _ _=>My.cT (λ_ _=>rfl))
    (case e=>k_is);(case l=>k_is);(case c=>k_is);(case k=>k_is)
   case t23=>
    dsimp only[L2.aQ];refine' My.aS KX G ?hb ?e ?l ?c ?k
    (case hb=>exact λ_ _ _ _ _ _=>My.bX (λ_=>rfl))
    (case e=>k_is);(case l=>k_is);(case c=>k_is);(case k=>k_is)
   case t24=>
    dsimp only[L2.aQ];refine' My.aS KX G ?hb ?e ?l ?c ?k
    (case hb=>exact λ_ _ _ _ _ _=>My.bX (λ_=>rfl))
    (case e=>k_is);(case l=>k_is);(case c=>k_is);(case k=>k_is)
   case t25=>
    dsimp only[L2.aQ];refine' My.aS KX G ?hb ?e ?l ?c ?k
    (case hb=>exact λ_ _ _ _ _ _=>My.bX (λ_=>rfl))
    (case e=>k_is);(case l=>k_is);(case c=>k_is);(case k=>k_is)
   case t26=>
    dsimp only[L2.aQ];refine' My.aS KX G ?hb ?e ?l ?c ?k
    (case hb=>exact λ_ _ _ _ _ _=>My.cT (λ_ _=>rfl))
    (case e=>k_is);(case l=>k_is);(case c=>k_is);(case k=>k_is)
   case t27=>
    dsimp only[L2.aQ];refine' My.aS KX G ?hb ?e ?l ?c ?k
    (case hb=>exact λ_ _ _ _ _ _=>My.cT (λ_ _=>rfl))
    (case e=>k_is);(case l=>k_is);(case c=>k_is);(case k=>k_is)
   case t28=>
    dsimp only[L2.aQ];refine' My.aS KX G ?hb ?e ?l ?c ?k
    (case hb=>exact λ_ _ _ _ _ _=>My.cT (λ_ _=>rfl))
    (case e=>k_is);(case l=>k_is);(case c=>k_is);(case k=>k_is)
   case t29=>
    dsimp only[L2.aQ];refine' My.aS KX G ?hb ?e ?l ?c ?k
    (case hb=>exact λ_ _ _ _ _ _=>My.dY (λ_ _ _=>rfl))
    (case e=>k_is);(case l=>k_is);(case c=>k_is);(case k=>k_is)
   case t30=>
    dsimp only[L2.aQ];refine' My.aS KX G ?hb ?e ?l ?c ?k
    (case hb=>exact λ_ _ _ _ _ _=>My.dY (λ_ _ _=>rfl))
    (case e=>k_is);(case l=>k_is);(case c=>k_is);(case k=>k_is)
   case t31=>
    dsimp only[L2.aQ];refine' My.aS KX G ?hb ?e ?l ?c ?k
    (case hb=>exact λ_ _ _ _ _ _=>My.bX (λ_=>rfl))
    (case e=>k_is);(case l=>k_is);(case c=>k_is);(case k=>k_is)
   case t32=>
    dsimp only[L2.aQ];refine' My.aS KX G ?hb ?e ?l ?c ?k
    (case hb=>exact λ_ _ _ _ _ _=>My.bX (λ_=>rfl))
    (case e=>k_is);(case l=>k_is);(case c=>k_is);(case k=>k_is)
   case t33=>
    dsimp only[L2.aQ];refine' My.aS KX G ?hb ?e ?l ?c ?k
    (case hb=>exact λ_ _ _ _ _ _=>My.oH (λ_ _ _ _=>rfl))
    (case e=>k_is);(case l=>k_is);(case c=>k_is);(case k=>k_is)
   case t34=>
    dsimp only[L2.aQ];refine' My.aS KX G ?hb ?e ?l ?c ?k
    (case hb=>exact λ_ _ _ _ _ _=>My.cT (λ_ _=>rfl))
    (case e=>k_is);(case l=>k_is);(case c=>k_is);(case k=>k_is)
   case t35=>
    dsimp only[L2.aQ];refine' My.aS KX G ?hb ?e ?l ?c ?k
    (case hb=>exact λ_ _ _ _ _ _=>My.dY (λ_ _ _=>rfl))
    (case e=>k_is);(case l=>k_is);(case c=>k_is);(case k=>k_is)
   case t36=>
    dsimp only[L2.aQ];refine' My.aS KX G ?hb ?e ?l ?c ?k
    (case hb=>exact λ_ _ _ _ _ _=>My.dY (λ_ _ _=>rfl))
    (case e=>k_is);(case l=>k_is);(case c=>k_is);(case k=>k_is)
   case t37=>
    dsimp only[L2.aQ];refine' My.aS KX G ?hb ?e ?l ?c ?k
    (case hb=>exact λ_ _ _ _ _ _=>My.cT (λ_ _=>rfl))
    (case e=>k_is);(case l=>k_is);(case c=>k_is);(case k=>k_is)
   case t38=>
    dsimp only[L2.aQ];refine' My.aS KX G ?hb ?e ?l ?c ?k
    (case hb=>exact λ_ _ _ _ _ _=>My.cT (λ_ _=>rfl))
    (case e=>k_is);(case l=>k_is);(case c=>k_is);(case k=>k_is)
   case t39=>
    dsimp only[L2.aQ];refine' My.aS KX G ?hb ?e ?l ?c ?k
    (case hb=>exact λ_ _ _ _ _ _=>My.cT (λ_ _=>rfl))
    (case e=>k_is);(case l=>k_is);(case c=>k_is);(case k=>k_is)
   case t40=>
    dsimp only[L2.aQ];refine' My.aS KX G ?hb ?e ?l ?c ?k
    (case hb=>exact λ_ _ _ _ _ _=>My.cT (λ_ _=>rfl))
    (case e=>k_is);(case l=>k_is);(case c=>k_is);(case k=>k_is)
   case t41=>
    dsimp only[L2.aQ];refine' My.aS KX G ?hb ?e ?l ?c ?k
    (case hb=>exact λ_ _ _ _ _ _=>My.cT (λ_ _=>rfl))
    (case e=>k_is);(case l=>k_is);(case c=>k_is);(case k=>k_is)
   case t42=>
    dsimp only[L2.aQ];refine' My.aS KX G ?hb ?e ?l ?c ?k
    (case hb=>exact λ_ _ _ _ _ _=>My.bX (λ_=>rfl))
    (case e=>k_is);(case l=>k_is);(case c=>k_is);(case k=>k_is)
   case t43=>
    dsimp only[L2.aQ];refine' My.aS KX G ?hb ?e ?l ?c ?k
    (case hb=>exact λ_ _ _ _ _ _=>My.bX (λ_=>rfl))
    (case e=>k_is);(case l=>k_is);(case c=>k_is);(case k=>k_is)
   case t44=>
    dsimp only[L2.aQ];refine' My.aS KX G ?hb ?e ?l ?c ?k
    (case hb=>exact λ_ _ _ _ _ _=>My.bX (λ_=>rfl))
    (case e=>k_is);(case l=>k_is);(case c=>k_is);(case k=>k_is)
   case t45=>
    dsimp only[L2.aQ];refine' My.aS KX G ?hb ?e ?l ?c ?k
    (case hb=>exact λ_ _ _ _ _ _=>My.bX (λ_=>rfl))
    (case e=>k_is);(case l=>k_is);(case c=>k_is);(case k=>k_is)
   case t46=>
    dsimp only[L2.aQ];refine' My.aS KX G ?hb ?e ?l ?c ?k
    (case hb=>exact λ_ _ _ _ _ _=>My.bX (λ_=>rfl))
    (case e=>k_is);(case l=>k_is);(case c=>k_is);(case k=>k_is)
   case t47=>
    dsimp only[L2.aQ];refine' My.aS KX G ?hb ?e ?l ?c ?k
    (case hb=>exact λ_ _ _ _ _ _=>My.bX (λ_=>rfl))
    (case e=>k_is);(case l=>k_is);(case c=>k_is);(case k=>k_is)
   case t48=>
    dsimp only[L2.aQ];refine' My.aS KX G ?hb ?e ?l ?c ?k
    (case hb=>exact λ_ _ _ _ _ _=>My.oH (λ_ _ _ _=>rfl))
    (case e=>k_is);(case l=>k_is);(case c=>k_is);(case k=>k_is)
   case t49=>
    dsimp only[L2.aQ];refine' My.aS KX G ?hb ?e ?l ?c ?k
    (case hb=>exact λ_ _ _ _ _ _=>My.dY (λ_ _ _=>rfl))
    (case e=>k_is);(case l=>k_is);(case c=>k_is);(case k=>k_is)
   case t50=>
    dsimp only[L2.aQ];refine' My.aS KX G ?hb ?e ?l ?c ?k
    (case hb=>exact λ_ _ _ _ _ _=>My.bX (λ_=>rfl))
    (case e=>k_is);(case l=>k_is);(case c=>k_is);(case k=>k_is)
   case t51=>
    dsimp only[L2.aQ];refine' My.aS KX G ?hb ?e ?l ?c ?k
    (case hb=>exact λ_ _ _ _ _ _=>My.cT (λ_ _=>rfl))
    (case e=>k_is);(case l=>k_is);(case c=>k_is);(case k=>k_is)
   case t52=>
    dsimp only[L2.aQ];refine' My.aS KX G ?hb ?e ?l ?c ?k
    (case hb=>exact λ_ _ _ _ _ _=>My.dY (λ_ _ _=>rfl))
    (case e=>k_is);(case l=>k_is);(case c=>k_is);(case k=>k_is)
   case t53=>
    dsimp only[L2.aQ];refine' My.aS KX G ?hb ?e ?l ?c ?k
    (case hb=>exact λ_ _ _ _ _ _=>My.dY (λ_ _ _=>rfl))
    (case e=>k_is);(case l=>k_is);(case c=>k_is);(case k=>k_is)
   case t54=>
    dsimp only[L2.aQ];refine' My.aS KX G ?hb ?e ?l ?c ?k
    (case hb=>exact λ_ _ _ _ _ _=>My.dY (λ_ _ _=>rfl))
    (case e=>k_is);(case l=>k_is);(case c=>k_is);(case k=>k_is)
   case t55=>
    dsimp only[L2.aQ];refine' My.aS KX G ?hb ?e ?l ?c ?k
    (case hb=>exact λ_ _ _ _ _ _=>My.oH (λ_ _ _ _=>rfl))
    (case e=>k_is);(case l=>k_is);(case c=>k_is);(case k=>k_is)
   case t56=>
    dsimp only[L2.aQ];refine' My.aS KX G ?hb ?e ?l ?c ?k
    (case hb=>exact λ_ _ _ _ _ _=>My.dY (λ_ _ _=>rfl))
    (case e=>k_is);(case l=>k_is);(case c=>k_is);(case k=>k_is)
   case t57=>
    dsimp only[L2.aQ];refine' My.aS KX G ?hb ?e ?l ?c ?k
    (case hb=>exact λ_ _ _ _ _ _=>My.cT (λ_ _=>rfl))
    (case e=>k_is);(case l=>k_is);(case c=>k_is);(case k=>k_is)
   case t58=>
    dsimp only[L2.aQ];refine' My.aS KX G ?hb ?e ?l ?c ?k
    (case hb=>exact λ_ _ _ _ _ _=>My.cT (λ_ _=>rfl))
    (case e=>k_is);(case l=>k_is);(case c=>k_is);(case k=>k_is)
   case t59=>
    dsimp only[L2.aQ];refine' My.aS KX G ?hb ?e ?l ?c ?k
    (case hb=>exact λ_ _ _ _ _ _=>My.dY (λ_ _ _=>rfl))
    (case e=>k_is);(case l=>k_is);(case c=>k_is);(case k=>k_is)
   case t60=>
    dsimp only[L2.aQ];refine' My.aS KX G ?hb ?e ?l ?c ?k
    (case hb=>exact λ_ _ _ _ _ _=>My.bX (λ_=>rfl))
    (case e=>k_is);(case l=>k_is);(case c=>k_is);(case k=>k_is)
   case t61=>
    dsimp only[L2.aQ];refine' My.aS KX G ?hb ?e ?l ?c ?k
    (case hb=>exact λ_ _ _ _ _ _=>My.bX (λ_=>rfl))
    (case e=>k_is);(case l=>k_is);(case c=>k_is);(case k=>k_is)
   case t62=>
    refine' My.eE KX G ?e
    (case e=>k_is)
   case t63=>
    refine' My.eE KX G ?e
    (case e=>k_is)
   case t64=>
    refine' My.eE KX G ?e
    (case e=>k_is)
   case t65=>
    refine' My.eE KX G ?e
    (case e=>k_is)
   case t66=>
    refine' My.eE KX G ?e
    (case e=>k_is)
   case t67=>
    refine' My.eE KX G ?e
    (case e=>k_is)
   case t68=>
    refine' My.eE KX G ?e
    (case e=>k_is)
   case t69=>
    refine' My.eE KX G ?e
    (case e=>k_is)
   case t70=>
    refine' My.eE KX G ?e
    (case e=>k_is)
   case t71=>
    refine' My.eE KX G ?e
    (case e=>k_is)
   case t72=>
    refine' My.eE KX G ?e
    (case e=>k_is)
   case t73=>
    refine' My.eE KX G ?e
    (case e=>k_is)
   case t74=>
    refine' My.eE KX G ?e
    (case e=>k_is)
   case t75=>
    refine' My.eE KX G ?e
    (case e=>k_is)
   case t76=>
    refine' My.oO KX G ?e
    (case e=>k_is)
   case t77=>
    refine' My.oO KX G ?e
    (case e=>k_is)
   case t78=>
    refine' My.oO KX G ?e
    (case e=>k_is)
   case t79=>
    refine' My.oO KX G ?e
    (case e=>k_is)
  obtain⟨t,T⟩:=My.MO TS;have e:=hmg.symm.trans T.XU;cases e;exact⟨_,My.Y6 T.KU,λbase _ _ B=>My.VE T B⟩
#print axioms PySem.Challenge.cw_noticed_k40_whole_again_and_kept_holds
