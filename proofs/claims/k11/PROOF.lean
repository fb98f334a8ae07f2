import PyProof.Rows.All
import Wide.All
import OpenK.AllK
import Wide.FinOn
import PySem.Challenge.RW_chipyard_k11_whole_trees_of_parkings
import Lean
import PyProof.EqAt
import PyProof.EqKinds
import PyProof.TupleCall
set_option Elab.async false
set_option linter.all false
set_option Elab.async false
set_option linter.all false
set_option maxRecDepth 100000
open PySem renaming wpAny_bind->Qa,wpAny_pure->Qh,sizeLine_eq->Q3,wpAny_holding->Jf,wpAny_callSpecial?_slot->Ji,wpAny_newObj_type->Jm,wpAny_field->Jp,wpAny_call_entry->Jq,wpAny_mono->Jx,wpAny_seqItems->Jz,wpAny_truthy_bool->JQ,wpAny_setState_of->JR,wpAny_typeNameOfWhole_keyiter->JZ,wpAny_setField_rec->J0,wpAny_passesOwn->J1
open List renaming length_map->Qb,mem_cons_of_mem->Qc,mem_cons_self->Qd,map_cons->Qe,mem_append_right->Qg,length_append->Qi,length_cons->Qk,size_toArray->Ql,mem_cons->Qm,mem_map->Qn,getElem?_eq_some_iff->Qp,getElem?_eq_getElem->Qq,length_range->Qt,mem_append->Qu,mem_append_left->Qw,getD_eq_getElem?_getD->Qx,getElem?_eq_none->QA,getElem?_set_ne->QB,getElem?_map->QC,map_map->QF,mem_filter->QH,map_nil->QI,mem_range->QK,getElem?_append_left->QL,map_append->QM,nodup_cons->QP,map_congr_left->QQ,pairwise_cons->QS,getElem?_append_right->QT,getElem?_replicate->QV,length_singleton->QW,nil_append->QX,getElem?_set_self->QY,pairwise_map->Q0,append_nil->Q1,append_assoc->Q2,mem_singleton->Q4,length_filter_le->Q5,not_mem_nil->Q6,length_nil->Q7,flatMap_cons->Q8,all_eq_true->Ja,nodup_append->Jb,replicate_succ->Je,zip_cons_cons->Jg,mem_of_getElem?->Jh,drop_eq_getElem_cons->Jj,flatten_cons->Jk,sum_cons->Jr,find?_cons->Ju,mergeSort_perm->JA,any_cons->JC,length_replicate->JG,foldl_cons->JJ,ext_getElem?->JL,all_cons->JN,length_pos_iff->JS,length_take->JT,filter_cons_of_pos->JU,filter_cons_of_neg->JV,range_succ->JY,cons_append->J3,getElem?_cons_zero->J5,set_cons_zero->J9,set_cons_succ->Ta,getElem?_cons_succ->Tc,getElem?_nil->Tf
open PySem.Heap renaming get?_push_of_some->Qf,lt_size->Qr,get?_push_size->Qv,size_push->Jl
open Nat renaming le_refl->Qj,ne_of_lt->Qy,lt_of_lt_of_le->QJ,zero_le->QZ,lt_succ_of_lt->Jc,le_trans->Jt,le_succ->Jv,lt_succ_self->JE,min_eq_left->JK,lt_irrefl->JP,max_eq_right->JW
open Bool renaming false_eq_true->Qo,false_ne_true->QE,and_eq_true->QO,not_true->JD,and_self->JO,not_false->J7
open PySem.W renaming mg_of->Qs,mg_none_of->QR,kia_one->Js
open Int renaming toNat_natCast->Qz,le_refl->JM,cast_ofNat_Int->JX,natCast_add->Tg
open Classical renaming byContradiction->QD
open PySem.PassesOwn renaming never->QG
open Option renaming bind_some->QN,map_some->J4,getD_none->J8,getD_some->Td,bind_none->Te
open Array renaming length_toList->QU,getD_eq_getD_getElem?->Jo,getElem?_eq_getElem->Jw
open Option.some renaming inj->Q9
open PyProof.Rows renaming slot_tuple_getitem->Jd,callWith_type1->Jy,listItems_at->JF
open PySem.F renaming slot_dict_keyiterator_next->JB
open PySem.Heap.SameBut renaming update->JH
open PySem.MeetsSeq3 renaming plain_eq_loop->JI
noncomputable section
namespace L2
open PySem PySem.Spec PyProof.Rows
abbrev Y5:=Sum Int Str
def Zga:Y5->Value->Bool
 |.inl k,v=>Value.isInt k v
 |.inr x,v=>Value.isStrOf x v
def keyH(w:World):Y5->Int
 |.inl k=>hashInt k
 |.inr x=>hashStr w x
theorem Y2:∀{k:Y5} {v:Value},Zga k v=true->(∃i t,k=Sum.inl i/\v=Value.int i t)\/(∃x t,k=Sum.inr x/\v=Value.str x t)
 |.inl i,v,h=>by
  obtain⟨t,e⟩:=Value.isInt_shape (k:=i) (v:=v) h
  exact .inl ⟨i,t,rfl,e⟩
 |.inr x,v,h=>by
  obtain⟨t,e⟩:=Value.isStrOf_shape (x:=x) (v:=v) h
  exact .inr ⟨x,t,rfl,e⟩
theorem Zpl(i:Int)(t:Tok):Zga (.inl i) (.int i t)=true:=by simp[Zga,Value.isInt]
theorem Zpk(x:Str)(t:Tok):Zga (.inr x) (.str x t)=true:=by simp[Zga,Value.isStrOf]
theorem Z0l(a b:Int):decide ((Sum.inl a:Y5)=Sum.inl b)=(a == b):=by
 by_cases e:a=b
 ·subst e;simp
 ·have h:¬(Sum.inl a:Y5)=Sum.inl b:=fun q=>e (Sum.inl.inj q)
  rw[decide_eq_false h]
  exact(beq_eq_false_iff_ne.mpr e).symm
theorem Z0i(a b:Str):decide ((Sum.inr a:Y5)=Sum.inr b)=decide (a=b):=by
 by_cases e:a=b
 ·subst e;simp
 ·have h:¬(Sum.inr a:Y5)=Sum.inr b:=fun q=>e (Sum.inr.inj q)
  rw[decide_eq_false h,decide_eq_false e]
theorem Z0k(a:Int)(b:Str):decide ((Sum.inl a:Y5)=Sum.inr b)=false:=decide_eq_false (fun q=>nomatch q)
theorem Z0j(a:Str)(b:Int):decide ((Sum.inr a:Y5)=Sum.inl b)=false:=decide_eq_false (fun q=>nomatch q)
def YV(prog:Program)(w:World):PySem.KeyKind prog w Y5 where
 is:=Zga
 hash:=keyH w
 inj:=fun v a b ha hb=>by
  rcases Y2 ha with⟨i,t,rfl,rfl⟩|⟨x,t,rfl,rfl⟩
  ·rcases Y2 hb with⟨j,u,rfl,e⟩|⟨y,u,rfl,e⟩
   ·injection e with e1 _;rw[e1]
   ·exact nomatch e
  ·rcases Y2 hb with⟨j,u,rfl,e⟩|⟨y,u,rfl,e⟩
   ·exact nomatch e
   ·injection e with e1 _;rw[e1]
 byValue:=fun k v h=>by
  rcases Y2 h with⟨i,t,rfl,rfl⟩|⟨x,t,rfl,rfl⟩<;>rfl
 pyHash:=fun hv h=>by
  rcases Y2 hv with⟨i,t,rfl,rfl⟩|⟨x,t,rfl,rfl⟩
  ·exact wpAny_pyHash_int h
  ·exact wpAny_pyHash_str h
 eqBool:=fun hu hv h=>by
  rcases Y2 hu with⟨i,t,rfl,rfl⟩|⟨x,t,rfl,rfl⟩
  ·rcases Y2 hv with⟨j,u,rfl,rfl⟩|⟨y,u,rfl,rfl⟩
   ·rw[Z0l]at h;exact wpAny_eqBool_int h
   ·rw[Z0k]at h;exact SeqAt.EqAt.int_str i t y u _ _ _ _ h
  ·rcases Y2 hv with⟨j,u,rfl,rfl⟩|⟨y,u,rfl,rfl⟩
   ·rw[Z0j]at h;exact SeqAt.EqAt.str_int x t j u _ _ _ _ h
   ·rw[Z0i]at h;exact wpAny_eqBool_str h
 «strs»:=fun k x t v h=>by
  rcases Y2 h with⟨i,u,rfl,e⟩|⟨y,u,rfl,e⟩
  ·exact nomatch e
  ·injection e with e1 _
   subst e1
   cases v<;>rfl
theorem Zj3(prog:Program)(w:World)(i:Int)(t:Tok):(YV prog w).is (.inl i) (.int i t)=true:=Zpl i t
theorem Zj2(prog:Program)(w:World)(x:Str)(t:Tok):(YV prog w).is (.inr x) (.str x t)=true:=Zpk x t
inductive V where
 |non|bl (b:Bool)|int (i:Int)|str (x:Str)|byt (b:Array UInt8)|flt (b:UInt64)|ref (a:Addr)|ty (n:String)
 deriving DecidableEq
def Z2:V->Value->Prop
 |.non,u=>u=Value.none
 |.bl b,u=>u=Value.bool b
 |.int i,u=>∃t,u=Value.int i t
 |.str x,u=>∃t,u=Value.str x t
 |.byt b,u=>∃t,u=Value.bytes b t
 |.flt b,u=>∃t,u=Value.float b t
 |.ref a,u=>u=Value.ref a
 |.ty n,u=>u=Value.type n
abbrev ZM:List V->List Value->Prop:=Paired Z2
theorem ZM.length{xs:List V}{us:List Value}(r:ZM xs us):xs.length=us.length:=Paired.length r
theorem ZM.get:∀{xs:List V} {us:List Value} {i:Nat} {x:V},ZM xs us->xs[i]?=some x->∃u,us[i]?=some u/\Z2 x u
 |_,_,_,_,.nil,e=>by simp at e
 |_,_,0,_,.cons r _,e=>by simp at e;subst e;exact⟨_,rfl,r⟩
 |_,_,i+1,x,.cons _ t,e=>by
  obtain⟨u,h1,h2⟩:=ZM.get (i:=i) (x:=x) t (by simpa using e)
  exact⟨u,by simpa using h1,h2⟩
theorem ZM.set{x:V}{u:Value}(r:Z2 x u):∀{xs:List V} {us:List Value} (i:Nat),ZM xs us->ZM (xs.set i x) (us.set i u)
 |_,_,_,.nil=>.nil
 |_,_,0,.cons _ t=>.cons r t
 |_,_,i+1,.cons q t=>.cons q (ZM.set r i t)
theorem ZM.append:∀{xs ys:List V} {us ws:List Value},ZM xs us->ZM ys ws->ZM (xs++ys) (us++ws)
 |_,_,_,_,.nil,s=>s
 |_,_,_,_,.cons r t,s=>.cons r (ZM.append t s)
theorem ZM.take:∀{xs:List V} {us:List Value} (n:Nat),ZM xs us->ZM (xs.take n) (us.take n)
 |_,_,0,_=>.nil
 |_,_,_+1,.nil=>.nil
 |_,_,n+1,.cons r t=>.cons r (ZM.take n t)
theorem ZM.drop:∀{xs:List V} {us:List Value} (n:Nat),ZM xs us->ZM (xs.drop n) (us.drop n)
 |_,_,0,r=>r
 |_,_,_+1,.nil=>.nil
 |_,_,n+1,.cons _ t=>ZM.drop n t
theorem ZM.none_of:∀{xs:List V} {us:List Value} {i:Nat},ZM xs us->xs[i]?=none->us[i]?=none:=fun{xs us i} r e=>by
 have h1:=r.length
 have h2:xs.length<=i:=List.getElem?_eq_none_iff.mp e
 exact List.getElem?_eq_none_iff.mpr (by omega)
def Za8:Option V->Option Value->Prop
 |some v,some u=>Z2 v u
 |none,none=>True
 |_,_=>False
def KV{κ:Type}:List (κ×V)->List (κ×Value)->Prop:=Paired fun(p:κ×V) (q:κ×Value)=>p.1=q.1/\Z2 p.2 q.2
def kV:Y5->V
 |.inl i=>.int i
 |.inr x=>.str x
inductive HO where
  |lst (xs:List V)
  |tup (xs:List V)
  |dK (kvs:List (Y5×V))|dT (kvs:List (List Y5×V))
  |set (S:Int->Bool) (n:Nat)
  |ins (C dx:Addr) (fs:List (Str×V))
  |own (x:Addr)
  |xd (fs:List (Str×V))
  |met (f x:Addr)
  |rng (lo hi:Int)
  |frz (o:Obj) (u:HO)
  |tbl (ps:Array Value)
  |ext (φ:Heap->Prop)
abbrev Hp:=Addr->Option HO
def YZ(H:Hp)(a:Addr)(o:HO):Hp:=fun b=>if b=a then some o else H b
theorem ZS{H:Hp}{a:Addr}{o:HO}:YZ H a o a=some o:=by unfold YZ;rw[if_pos rfl]
theorem ZE{H:Hp}{a b:Addr}{o:HO}(h:b≠a):YZ H a o b=H b:=by unfold YZ;rw[if_neg h]
theorem Zus{H:Hp}{a:Addr}{o u:HO}:YZ (YZ H a o) a u=YZ H a u:=by
 funext b;unfold YZ;split<;>rfl
theorem ne_of{H:Hp}{a b:Addr}{o u:HO}(h:H a=some o)(h':H b=some u)(d:o≠u):a≠b:=by
 intro e;subst e;rw[h]at h';exact d (Q9 h')
theorem ZW{H:Hp}{a b:Addr}{o:HO}(h:H a=some o)(h':H b=none):a≠b:=by
 intro e;subst e;rw[h]at h';cases h'
section
variable(P:Program)(w:World)
def YI(H:Hp)(h:Heap)(a:Addr):HO->Prop
 |.lst xs=>xs.length<=sizeLine/\∃(its:List Value) (n:Nat),ZM xs its/\h.get? a=some { cls:=.type "list",data:=.seq its.toArray n }
 |.tup xs=>xs.length<=sizeLine/\∃its:List Value,ZM xs its/\IsTup h a its.toArray
 |.dK kvs=>kvs.length<=sizeLine/\(a == sysModules)=false/\∃vs,KV kvs vs/\h.DictOf (YV P w) a vs
 |.dT kvs=>kvs.length<=sizeLine/\(a == sysModules)=false/\∃xs:List (List Y5×Addr×Value),
   Paired (fun(p:List Y5×V) (q:List Y5×Addr×Value)=>p.1=q.1/\H q.2.1=some (.tup (p.1.map kV))/\Z2 p.2 q.2.2) kvs xs /\
   ∃o es ep,h.get? a=some o/\o.ExactDict/\o.data=.dict es ep/\es.toList=xs.map (entryOfKey (tupleKind (YV P w)))/\(xs.map (·.1)).Nodup
 |.set S n=>h.SetOf (intKind P w) a S n
 |.ins C dx fs=>H dx=some (.own a)/\fs.length<=1000/\dx≠a/\h.get? a=some (PySem.W.instObj C dx) /\
   ∃mA,h.Ns1 dx mA/\(∀f,Za8 (fs.lookup f) (mA f))/\PySem.Within mA (fs.map (·.1))
 |.own _=>∃o,h.get? a=some o
 |.xd fs=>∃mA,h.Ns1 a mA/\∀f,Za8 (fs.lookup f) (mA f)
 |.rng lo hi=>∃t u v,h.get? a=some { cls:=.type "range",data:=.fields #[.int lo t,.int hi u,.int 1 v] }
 |.frz o u=>h.get? a=some o/\YI H h a u
 |.tbl ps=>h.get? a=some { cls:=.none,data:=.fields ps }
 |.met f x=>h.get? a=some (PySem.W.methodObj (.ref f) (.ref x))
 |.ext φ=>φ h/\(∃o,h.get? a=some o)/\∀h1 h2:Heap,φ h1->(∀o,h1.get? a=some o->h2.get? a=some o)->φ h2
def UL(H:Hp)(h:Heap):Prop:=∀a o,H a=some o->YI P w H h a o
end
section
variable{P:Program}{w:World}{H H':Hp}{h h':Heap}{a:Addr}{o:HO}
theorem YI.lt(x:YI P w H h a o):a<h.objs.size:=by
 cases o with
 |lst xs=>obtain⟨_,_,_,_,e⟩:=x;exact Qr e
 |tup xs=>obtain⟨_,_,_,p⟩:=x;exact p.lt
 |dK kvs=>obtain⟨_,_,_,_,o,_,_,e,_⟩:=x;exact Qr e
 |dT kvs=>obtain⟨_,_,_,_,o,_,_,e,_⟩:=x;exact Qr e
 |set S n=>obtain⟨o,_,_,_,e,_⟩:=x;exact Qr e
 |ins C dx fs=>obtain⟨_,_,_,e,_⟩:=x;exact Qr e
 |own y=>obtain⟨_,e⟩:=x;exact Qr e
 |xd fs=>obtain⟨_,⟨_,_,_,e,_⟩,_⟩:=x;exact Qr e
 |rng lo hi=>obtain⟨_,_,_,e⟩:=x;exact Qr e
 |frz ob u=>obtain⟨e,_⟩:=x;exact Qr e
 |tbl ps=>exact Qr (show h.get? a=some _ from x)
 |met f y=>exact Qr (show h.get? a=some _ from x)
 |ext φ=>obtain⟨_,⟨_,e⟩,_⟩:=x;exact Qr e
theorem Paired.mapP{α β:Type}{F G:α->β->Prop}:∀{l₁:List α} {l₂:List β},Paired F l₁ l₂->(∀a b,F a b->G a b)->Paired G l₁ l₂
 |_,_,.nil,_=>.nil
 |_,_,.cons r t,f=>.cons (f _ _ r) (Paired.mapP t f)
theorem YI.stay(x:YI P w H h a o)(k:∀b u,(b=a\/H b=some (.own a))->h.get? b=some u->h'.get? b=some u)
  (ho:∀b,H b=some (.own a)->H' b=some (.own a)) (ht:∀b xs,H b=some (.tup xs)->H' b=some (.tup xs)):YI P w H' h' a o:=by
 induction o with
 |lst xs=>obtain⟨z,its,n,r,e⟩:=x;exact⟨z,its,n,r,k _ _ (.inl rfl) e⟩
 |tup xs=>obtain⟨z,its,r,ob,e,c⟩:=x;exact⟨z,its,r,ob,k _ _ (.inl rfl) e,c⟩
 |dK kvs=>obtain⟨z,y,vs,r,ob,es,ep,e,c⟩:=x;exact⟨z,y,vs,r,ob,es,ep,k _ _ (.inl rfl) e,c⟩
 |dT kvs =>
  obtain⟨z,y,xs,r,ob,es,ep,e,c⟩:=x
  exact⟨z,y,xs,Paired.mapP r fun p q z=>⟨z.1,ht _ _ z.2.1,z.2.2⟩,ob,es,ep,k _ _ (.inl rfl) e,c⟩
 |set S n=>obtain⟨ob,es,ep,t,e,c⟩:=x;exact⟨ob,es,ep,t,k _ _ (.inl rfl) e,c⟩
 |ins C dx fs =>
  obtain⟨d,z,ne,e,mA,⟨od,es,ep,e2,c⟩,r⟩:=x
  exact⟨ho _ d,z,ne,k _ _ (.inl rfl) e,mA,⟨od,es,ep,k _ _ (.inr d) e2,c⟩,r⟩
 |own y=>obtain⟨ob,e⟩:=x;exact⟨ob,k _ _ (.inl rfl) e⟩
 |xd fs=>obtain⟨mA,⟨od,es,ep,e,c⟩,r⟩:=x;exact⟨mA,⟨od,es,ep,k _ _ (.inl rfl) e,c⟩,r⟩
 |rng lo hi=>obtain⟨t,u,v,e⟩:=x;exact⟨t,u,v,k _ _ (.inl rfl) e⟩
 |frz ob u ih=>obtain⟨e,q⟩:=x;exact⟨k _ _ (.inl rfl) e,ih q⟩
 |tbl ps =>
  have e:h.get? a=some { cls:=.none,data:=.fields ps }:=x
  show h'.get? a=some { cls:=.none,data:=.fields ps }
  exact k a _ (.inl rfl) e
 |met f y =>
  have e:h.get? a=some (PySem.W.methodObj (.ref f) (.ref y)):=x
  show h'.get? a=some (PySem.W.methodObj (.ref f) (.ref y))
  exact k a _ (.inl rfl) e
 |ext φ=>obtain⟨p,⟨o,e⟩,st⟩:=x;exact⟨st _ _ p fun o q=>k _ _ (.inl rfl) q,⟨o,k _ _ (.inl rfl) e⟩,st⟩
theorem UL.lt(x:UL P w H h)(e:H a=some o):a<h.objs.size:=(x a o e).lt
theorem UL.fresh(x:UL P w H h)(e:h.objs.size<=a):H a=none:=by
 cases q:H a with
 |none=>rfl
 |some u=>exact absurd (QJ (x.lt q) e) (JP _)
theorem UL.kept(x:UL P w H h)(k:∀b u,h.get? b=some u->h'.get? b=some u):UL P w H h':=fun a o e =>
 (x a o e).stay (fun b u _ q=>k b u q) (fun _ q=>q) fun _ _ q=>q
theorem UL.laid(x:UL P w H h)(k:∀b u,h.get? b=some u->h'.get? b=some u)(hp:h.objs.size<=a)(new:YI P w (YZ H a o) h' a o):UL P w (YZ H a o) h':=fun b u e=>by
 have hn:=x.fresh hp
 by_cases hb:b=a
 ·subst hb;rw[ZS]at e;cases e;exact new
 ·rw[ZE hb]at e
  exact(x b u e).stay (fun c v _ q=>k c v q) (fun c q=>by rw[ZE (ZW q hn)];exact q) fun c xs q=>by rw[ZE (ZW q hn)];exact q
end
def Rd(H:Hp)(a:Addr)(u:HO):Prop:=H a=some u\/∃o,H a=some (.frz o u)
theorem Rd.of{H:Hp}{a:Addr}{u:HO}(h:H a=some u):Rd H a u:=.inl h
theorem Rd.ok{P:Program}{w:World}{H:Hp}{h:Heap}{a:Addr}{u:HO}(r:Rd H a u)(x:UL P w H h):YI P w H h a u:=by
 rcases r with r|⟨o,r⟩
 ·exact x a u r
 ·obtain⟨_,q⟩:=x a _ r
  exact q
def Mut:Option HO->Prop
 |some (.lst _)=>True
 |some (.dK _)=>True
 |some (.dT _)=>True
 |some (.set _ _)=>True
 |some (.ins _ _ _)=>True
 |some (.ext _)=>True
 |_=>False
section
variable{P:Program}{w:World}{H:Hp}{h h':Heap}{x e:Addr}{o':HO}
theorem UL.write(ok:UL P w H h)(mu:Mut (H x))(he:e=x\/H e=some (.own x))(k:∀b u,b≠e->h.get? b=some u->h'.get? b=some u)(heo:∃u,h'.get? e=some u)
  (new:YI P w (YZ H x o') h' x o'):UL P w (YZ H x o') h':=fun b u q=>by
 have nown:∀c y,H c=some (.own y)->c≠x:=fun c y r z=>by subst z;rw[r]at mu;exact mu
 have ntup:∀c xs,H c=some (.tup xs)->c≠x:=fun c xs r z=>by subst z;rw[r]at mu;exact mu
 by_cases hb:b=x
 ·subst hb;rw[ZS]at q;cases q;exact new
 ·rw[ZE hb]at q
  by_cases hbe:b=e
  ·have q':H b=some (.own x):=by
    rcases he with z|z
    ·exact absurd (hbe.trans z) hb
    ·rw[hbe];exact z
   rw[q]at q';cases q'
   obtain⟨v,hv⟩:=heo
   exact⟨v,by rw[hbe];exact hv⟩
  ·refine(ok b u q).stay (fun c v hc r=>k c v ?_ r) (fun c r=>by rw[ZE (nown c b r)];exact r) fun c xs r=>by rw[ZE (ntup c xs r)];exact r
   rcases hc with rfl|hc
   ·exact hbe
   ·rintro rfl
    rcases he with z|z
    ·exact nown c b hc z
    ·rw[hc]at z;cases z;exact hb rfl
end
structure Un(fs ex:List Addr)(H H':Hp)(h h':Heap):Prop where
 keep:∀b o,h.get? b=some o->H b=none->b∉fs->b∉ex->h'.get? b=some o
 slot:∀b o,h.get? b=some o->H b=none->b∈fs->b∉ex->∃sl,h'.get? b=some { o with slots:=sl }
 free:∀b o,h.get? b=some o->H b=none->b∉ex->H' b=none
 there:∀b o,h.get? b=some o->b∉ex->∃o',h'.get? b=some o'
 tups:∀b xs,H b=some (.tup xs)->H' b=some (.tup xs)
 frzs:∀b o u,H b=some (.frz o u)->H' b=some (.frz o u)
 tbls:∀b ps,H b=some (.tbl ps)->∃more,H' b=some (.tbl (ps++more))
section
variable{fs fs' ex ex':List Addr}{H H1 H2:Hp}{h h1 h2 h':Heap}{a x e:Addr}{o:HO}
theorem Un.any(u:Un fs ex H H1 h h1){b:Addr}{ob:Obj}(q:h.get? b=some ob)(n:H b=none)(hx:b∉ex):∃sl,h1.get? b=some { ob with slots:=sl }:=by
 by_cases hb:b∈fs
 ·exact u.slot b ob q n hb hx
 ·exact⟨ob.slots,u.keep b ob q n hb hx⟩
theorem Un.trans(a:Un fs ex H H1 h h1)(b:Un fs ex H1 H2 h1 h2):Un fs ex H H2 h h2 where
 keep:=fun c ob q n hc hx=>b.keep c ob (a.keep c ob q n hc hx) (a.free c ob q n hx) hc hx
 slot:=fun c ob q n hc hx=>by
  obtain⟨sl,e1⟩:=a.slot c ob q n hc hx
  obtain⟨sl',e2⟩:=b.slot c _ e1 (a.free c ob q n hx) hc hx
  exact⟨sl',e2⟩
 free:=fun c ob q n hx=>by
  obtain⟨o',e1⟩:=a.there c ob q hx
  exact b.free c o' e1 (a.free c ob q n hx) hx
 there:=fun c ob q hx=>by
  obtain⟨o',e1⟩:=a.there c ob q hx
  exact b.there c o' e1 hx
 tups:=fun c xs q=>b.tups c xs (a.tups c xs q)
 frzs:=fun c ob xs q=>b.frzs c ob xs (a.frzs c ob xs q)
 tbls:=fun c ps q=>by
  obtain⟨m1,e1⟩:=a.tbls c ps q
  obtain⟨m2,e2⟩:=b.tbls c _ e1
  exact⟨m1++m2,by rw[e2,Array.append_assoc]⟩
theorem Un.kept(k:∀b u,h.get? b=some u->h'.get? b=some u):Un fs ex H H h h' :=
 ⟨fun b ob q _ _ _=>k b ob q,fun b ob q _ _ _=>⟨ob.slots,k b ob q⟩,fun _ _ _ n _=>n,fun b ob q _=>⟨ob,k b ob q⟩,fun _ _ q=>q,fun _ _ _ q=>q,fun _ ps q=>⟨#[],by rw[q];simp⟩⟩
theorem Un.refl:Un fs ex H H h h:=Un.kept fun _ _ q=>q
theorem Un.laid(k:∀b u,h.get? b=some u->h'.get? b=some u)(hp:h.objs.size<=a)(hn:H a=none):Un fs ex H (YZ H a o) h h' where
 keep:=fun b u q _ _ _=>k b u q
 slot:=fun b u q _ _ _=>⟨u.slots,k b u q⟩
 free:=fun b u q n _=>by rw[ZE (Qy (QJ (Qr q) hp))];exact n
 there:=fun b u q _=>⟨u,k b u q⟩
 tups:=fun b xs q=>by rw[ZE (ZW q hn)];exact q
 frzs:=fun b u xs q=>by rw[ZE (ZW q hn)];exact q
 tbls:=fun b ps q=>⟨#[],by rw[ZE (ZW q hn),q];simp⟩
theorem Un.write(mu:Mut (H x))(he:e=x\/H e=some (.own x))(k:∀b u,b≠e->h.get? b=some u->h'.get? b=some u)(heo:∃u,h'.get? e=some u):Un fs ex H (YZ H x o) h h':=by
 have hx:∀b,H b=none->b≠x:=fun b n z=>by subst z;rw[n]at mu;exact mu
 have hb:∀b,H b=none->b≠e:=fun b n z=>by
  subst z
  rcases he with r|r
  ·exact hx b n r
  ·rw[n]at r;cases r
 have hm:∀b u,H b=some u->¬Mut (some u)->b≠x:=fun b u q nm z=>by subst z;rw[q]at mu;exact nm mu
 refine⟨fun b u q n _ _=>k b u (hb b n) q,fun b u q n _ _=>⟨u.slots,k b u (hb b n) q⟩,fun b u q n _=>by rw[ZE (hx b n)];exact n,fun b u q _=>?_,
  fun b xs q=>by rw[ZE (hm b _ q fun z=>z)];exact q,fun b u xs q=>by rw[ZE (hm b _ q fun z=>z)];exact q,fun b ps q=>⟨#[],by rw[ZE (hm b _ q fun z=>z),q];simp⟩⟩
 by_cases hbe:b=e
 ·subst hbe;exact heo
 ·exact⟨u,k b u hbe q⟩
theorem Un.mono(u:Un fs ex H H1 h h1)(hs:∀b∈fs,b∈fs')(hx:∀b∈ex,b∈ex'):Un fs' ex' H H1 h h1 :=
 ⟨fun b ob q n hb he=>u.keep b ob q n (fun z=>hb (hs b z)) fun z=>he (hx b z),fun _ _ q n _ he=>u.any q n fun z=>he (hx _ z),fun b ob q n he=>u.free b ob q n fun z=>he (hx b z),fun b ob q he=>u.there b ob q fun z=>he (hx b z),u.tups,u.frzs,u.tbls⟩
end
def trk(h:Heap)(H:Hp):List Addr:=(List.range h.objs.size).filter fun a=>(H a).isSome
def Zia(h:Heap)(H:Hp):Heap:=PySem.W.hideAll h (trk h H)
theorem Zpp(h:Heap)(H:Hp):(Zia h H).objs.size=h.objs.size:=PySem.W.hideAll_size _ _
theorem Zta{h:Heap}{H:Hp}{b:Addr}{o:Obj}(e:h.get? b=some o)(n:H b=none):(Zia h H).get? b=some o :=
 PySem.W.hideAll_get _ e fun hm=>by
  have q:(H b).isSome=true:=(QH.mp hm).2
  rw[n]at q;simp at q
theorem Zv5{h:Heap}{H:Hp}{b:Addr}{o:Obj}(e:(Zia h H).get? b=some o):h.get? b=some o/\H b=none:=by
 have e':h.get? b=some o:=PySem.W.of_hideAll (trk h H) e
 refine⟨e',?_⟩
 cases q:H b with
 |none=>rfl
 |some x =>
  have hm:b∈trk h H:=QH.mpr ⟨QK.mpr (Qr e'),by simp[q]⟩
  have z:(Zia h H).get? b=none:=PySem.W.hideAll_none (trk h H) hm
  rw[z]at e;cases e
def Zw5(g h:Heap)(L:Addr):List (Addr×Obj):=(List.range h.objs.size).filterMap fun a=>if a=L\/(g.get? a).isSome=true then none else(h.get? a).map fun o=>(a,o)
def YK(g h:Heap)(L d:Addr):List (Addr×Obj):=(Zw5 g h L).filter fun p=>decide (p.1≠d)
structure Mod(K:PySem.W.Frag)(mg:Str->Option Value)(base:Heap):Prop where
 kin:K.In base
 glob:base.Ns mainGlobals mg
 blt:∃mb,base.Ns builtinsNs mb/\∀x:Str,x≠"__name__"->mb x=bootBuiltins x
 nolimit:base.NoLimit
structure Cx where
 prog:Program
 w:World
 K:PySem.W.Frag
 mg:Str->Option Value
 base:Heap
 A:Around
 N:List Str
 s₀:Shared
 H₀:Hp
 env:Env
 outer:List Env
 stack:List Env
 ex:List Addr
 fn:Str->Bool
 calm:Bool
 pn:List (Addr×Obj)
 xe:Value->Shared->Prop
def Zkl(l:List Env):List Addr:=l.filterMap (·.frame)
abbrev Cx.fs(X:Cx):List Addr:=Zkl X.outer
def Zul(sc:Scope)(x:Str):Prop:=sc.names.lookup x=some .local\/sc.names.lookup x=some .cell\/sc.names.lookup x=some .free
def Zp9(sc:Scope)(x:Str):Prop:=sc.names.lookup x=some .local\/sc.names.lookup x=some .cell
def Look(env:Env)(h:Heap)(m:Str->Option Value)(x:Str)(u:Value):Prop :=
 (env.kindOf x=some .local/\m x=some u)\/((env.kindOf x=some .cell\/env.kindOf x=some .free)/\∃c,env.cells.lookup x=some c/\h.IsCell c (some u))
structure Cx.Ok(X:Cx):Prop where
 mod:Mod X.K X.mg X.base
 kind:X.env.scope.kind=.function
 glob:X.env.globals=mainGlobals
 blt:X.env.builtins=builtinsNs
 above:X.s₀.heap.objs.size<=X.env.locals
 inj:∀x y c,X.env.cells.lookup x=some c->X.env.cells.lookup y=some c->x=y
 has:∀x,(X.env.kindOf x=some .cell\/X.env.kindOf x=some .free)->∃c,X.env.cells.lookup x=some c
 cab:∀x c,X.fn x=true->X.env.cells.lookup x=some c->X.s₀.heap.objs.size<=c
 hd:X.calm=true->X.A.handled=none
 frames:X.A.frames=some X.stack
 stk:X.stack=X.outer\/(X.stack=X.env::X.outer/\X.env.frame=some X.env.locals)
 exf:∀b∈X.ex,b≠X.env.locals/\∀x c,X.env.cells.lookup x=some c->c≠b
 bs:∀b o,X.base.get? b=some o->X.s₀.heap.get? b=some o/\X.H₀ b=none
 bsz:X.base.objs.size<=X.s₀.heap.objs.size
 noex:∀b o,X.base.get? b=some o->b∉X.ex
 exfs:∀b∈X.ex,b∉X.fs
 funs:X.s₀.heap.FunFrames X.base X.outer
 frf:∀b∈X.fs,X.H₀ b=none
structure ZA(X:Cx)(pins:List (Addr×Obj))(σ:List (Option V))(H:Hp)(s:Shared):Prop where
 ok:X.Ok
 os:s.os=X.s₀.os
 bare:AllBare s.gens
 base:Un X.fs X.ex X.H₀ H X.s₀.heap s.heap
 loc:∃m,s.heap.Ns X.env.locals m/\∀(i:Nat) (x:Str) (v:V),X.N[i]?=some x->σ[i]?=some (some v)->Zul X.env.scope x->∃u,Z2 v u/\Look X.env s.heap m x u
 cell:∀x c,X.env.cells.lookup x=some c->∃v,s.heap.IsCell c v
 free:H X.env.locals=none
 freeC:∀x c,X.env.cells.lookup x=some c->H c=none
 pin:∀p∈X.pn++pins,s.heap.get? p.1=some p.2/\H p.1=none/\p.1≠X.env.locals/\p.1∉X.fs/\∀v,p.2.data≠.cell v
 hok:UL X.prog X.w H s.heap
 len:σ.length=X.N.length
section
variable{X:Cx}{pins:List (Addr×Obj)}{σ:List (Option V)}{H H':Hp}{s:Shared}{h':Heap}
theorem Cx.Ok.nofr(ok:X.Ok){b:Addr}{o:Obj}(e:X.base.get? b=some o):b∉X.fs:=fun hb=>by
 have:=(ok.funs.mem hb).1
 rw[e]at this;cases this
theorem ZA.bs(I:ZA X pins σ H s):∀b o,X.base.get? b=some o->s.heap.get? b=some o/\H b=none:=fun b o e =>
 ⟨I.base.keep b o (I.ok.bs b o e).1 (I.ok.bs b o e).2 (I.ok.nofr e) (I.ok.noex b o e),I.base.free b o (I.ok.bs b o e).1 (I.ok.bs b o e).2 (I.ok.noex b o e)⟩
theorem ZA.bk(I:ZA X pins σ H s):∀b o,X.base.get? b=some o->s.heap.get? b=some o:=fun b o e=>(I.bs b o e).1
theorem ZA.mod(I:ZA X pins σ H s):Mod X.K X.mg X.base:=I.ok.mod
theorem ZA.kIn(I:ZA X pins σ H s):X.K.In s.heap:=I.ok.mod.kin.keeps I.bk
theorem ZA.nolimit(I:ZA X pins σ H s):s.heap.NoLimit:=I.ok.mod.nolimit.keeps I.bk
theorem ZA.fr(I:ZA X pins σ H s):∃m,Fr X.base X.env.locals s.heap m :=
 let⟨m,hn,_⟩:=I.loc
 ⟨m,hn,I.bk,Jt I.ok.bsz I.ok.above⟩
theorem ZA.lt(I:ZA X pins σ H s):X.env.locals<s.heap.objs.size:=let⟨_,hn,_⟩:=I.loc;hn.lt
theorem ZA.sz(I:ZA X pins σ H s):X.s₀.heap.objs.size<=s.heap.objs.size:=Jt I.ok.above (Nat.le_of_lt I.lt)
theorem ZA.nofs(I:ZA X pins σ H s){a:Addr}(h:s.heap.objs.size<=a):a∉X.fs:=fun hb=>by
 obtain⟨_,o,ho,_⟩:=I.ok.funs.mem hb
 exact absurd (QJ (Qr ho) (Jt I.sz h)) (JP _)
theorem ZA.cne(I:ZA X pins σ H s):∀x c,X.env.cells.lookup x=some c->c≠X.env.locals:=fun x c e z=>by
 obtain⟨v,o,ho,hd⟩:=I.cell x c e
 obtain⟨m,⟨o',es,ep,ho',hd',_⟩,_⟩:=I.loc
 rw[z,ho']at ho;cases ho;rw[hd']at hd;cases hd
theorem ZA.funs(I:ZA X pins σ H s):s.heap.FunFrames X.base X.outer:=by
 have all:∀(l:List Env),(∀b∈Zkl l,b∈X.fs)->X.s₀.heap.FunFrames X.base l->s.heap.FunFrames X.base l:=by
  intro l
  induction l with
  |nil=>intro _ _;trivial
  |cons env r ih =>
   intro hs hl
   obtain⟨hk,⟨L,o,hf,hn,ho,hd⟩,hr⟩:=hl
   have hL:L∈X.fs:=hs L (by unfold Zkl;rw[List.filterMap_cons,hf];exact Qd)
   obtain⟨sl,e⟩:=I.base.slot L o ho (I.ok.frf L hL) hL fun z=>I.ok.exfs L z hL
   exact⟨hk,⟨L,_,hf,hn,e,hd⟩,ih (fun b hb=>hs b (by unfold Zkl;rw[List.filterMap_cons,hf];exact Qc _ hb)) hr⟩
 exact all X.outer (fun _ hb=>hb) I.ok.funs
theorem ZA.stack(I:ZA X pins σ H s):s.heap.FunFrames X.base X.stack:=by
 rcases I.ok.stk with e|⟨e,hf⟩
 ·rw[e];exact I.funs
 ·rw[e]
  obtain⟨m,hn,_⟩:=I.loc
  refine .cons (by rw[I.ok.kind];decide) hf hn ?_ I.funs
  exact Heap.get?_none_of_le (Jt I.ok.bsz I.ok.above)
theorem ZA.stkSub(I:ZA X pins σ H s):∀b∈Zkl X.stack,b∈X.env.locals::X.fs:=fun b hb=>by
 rcases I.ok.stk with e|⟨e,hf⟩
 ·rw[e]at hb;exact Qc _ hb
 ·rw[e]at hb
  unfold Zkl at hb
  rw[List.filterMap_cons,hf]at hb
  exact hb
theorem ZA.stkFree(I:ZA X pins σ H s):∀b∈Zkl X.stack,H b=none:=fun b hb=>by
 rcases Qm.mp (I.stkSub b hb) with e|hb
 ·rw[e];exact I.free
 ·obtain⟨_,o,ho,_⟩:=I.ok.funs.mem hb
  exact I.base.free b o ho (I.ok.frf b hb) fun z=>I.ok.exfs b z hb
theorem ZA.step{g':Array GenState}{t':Nat}{d':Drawn}{ch:List Addr}(I:ZA X pins σ H s)
  (hch:∀b∈ch,(b∈X.ex\/X.s₀.heap.objs.size<=b)/\b≠X.env.locals/\(∀x c,X.env.cells.lookup x=some c->c≠b)/\∀p∈X.pn++pins,p.1≠b)
  (keep:∀b o,b≠X.env.locals->b∉X.fs->b∉ch->s.heap.get? b=some o->H b=none->h'.get? b=some o)
  (slot:∀b o,b≠X.env.locals->b∈X.fs->b∉ch->s.heap.get? b=some o->H b=none->∃sl,h'.get? b=some { o with slots:=sl }) (free:∀b o,b∉ch->s.heap.get? b=some o->H b=none->H' b=none)
  (there:∀b o,b∉ch->s.heap.get? b=some o->∃o',h'.get? b=some o')
  (tups:∀b xs,H b=some (.tup xs)->H' b=some (.tup xs)) (frzs:∀b o u,H b=some (.frz o u)->H' b=some (.frz o u)) (tbls:∀b ps,H b=some (.tbl ps)->∃more,H' b=some (.tbl (ps++more)))
  (ns:∀m,s.heap.Ns X.env.locals m->h'.Ns X.env.locals m) (hok:UL X.prog X.w H' h') (hg:AllBare g') :
  ZA X pins σ H' { s with heap:=h',gens:=g',drawn:=d',toks:=t' }:=by
 have neL:∀b o,X.s₀.heap.get? b=some o->b≠X.env.locals:=fun b o e=>Qy (QJ (Qr e) I.ok.above)
 have neC:∀b o,X.s₀.heap.get? b=some o->b∉X.ex->b∉ch:=fun b o e hx hb=>by
  rcases(hch b hb).1 with z|z
  ·exact hx z
  ·exact absurd (QJ (Qr e) z) (JP _)
 have cellK:∀x c,X.env.cells.lookup x=some c->∀v,s.heap.IsCell c v->h'.IsCell c v:=fun x c e v ⟨o,ho,hd⟩=>by
  have nch:c∉ch:=fun z=>(hch c z).2.2.1 x c e rfl
  by_cases hc:c∈X.fs
  ·obtain⟨sl,q⟩:=slot c o (I.cne x c e) hc nch ho (I.freeC x c e)
   exact⟨_,q,hd⟩
  ·exact⟨o,keep c o (I.cne x c e) hc nch ho (I.freeC x c e),hd⟩
 refine⟨I.ok,I.os,hg,⟨fun b o e n hb hx=>?_,fun b o e n hb hx=>?_,fun b o e n hx=>?_,fun b o e hx=>?_,fun b xs e=>tups b xs (I.base.tups b xs e),fun b o xs e=>frzs b o xs (I.base.frzs b o xs e),fun b ps e=>?_⟩,?_,fun x c e=>?_,?_,fun x c e=>?_,fun p hp=>?_,hok,I.len⟩
 ·exact keep b o (neL b o e) hb (neC b o e hx) (I.base.keep b o e n hb hx) (I.base.free b o e n hx)
 ·obtain⟨sl,e1⟩:=I.base.slot b o e n hb hx
  obtain⟨sl',e2⟩:=slot b _ (neL b o e) hb (neC b o e hx) e1 (I.base.free b o e n hx)
  exact⟨sl',e2⟩
 ·obtain⟨o',e1⟩:=I.base.there b o e hx
  exact free b o' (neC b o e hx) e1 (I.base.free b o e n hx)
 ·obtain⟨o',e1⟩:=I.base.there b o e hx
  exact there b o' (neC b o e hx) e1
 ·obtain⟨m1,e1⟩:=I.base.tbls b ps e
  obtain⟨m2,e2⟩:=tbls b _ e1
  exact⟨m1++m2,by rw[e2,Array.append_assoc]⟩
 ·obtain⟨m,hn,hl⟩:=I.loc
  refine⟨m,ns m hn,fun i x v e1 e2 e3=>?_⟩
  obtain⟨u,r,l⟩:=hl i x v e1 e2 e3
  refine⟨u,r,?_⟩
  rcases l with l|⟨k,c,e,z⟩
  ·exact .inl l
  ·exact .inr ⟨k,c,e,cellK x c e _ z⟩
 ·obtain⟨v,z⟩:=I.cell x c e
  exact⟨v,cellK x c e v z⟩
 ·obtain⟨m,⟨o,_,_,ho,_⟩,_⟩:=I.loc
  exact free _ o (fun z=>(hch _ z).2.1 rfl) ho I.free
 ·obtain⟨v,o,ho,hd⟩:=I.cell x c e
  exact free c o (fun z=>(hch c z).2.2.1 x c e rfl) ho (I.freeC x c e)
 ·obtain⟨e,n,ne,nf,d⟩:=I.pin p hp
  have nch:p.1∉ch:=fun z=>(hch p.1 z).2.2.2 p hp rfl
  exact⟨keep p.1 p.2 ne nf nch e n,free p.1 p.2 nch e n,ne,nf,d⟩
theorem ZA.un{t':Nat}(I:ZA X pins σ H s)(u:Un X.fs [] H H' s.heap h')(hok:UL X.prog X.w H' h'):ZA X pins σ H' { s with heap:=h',toks:=t' }:=by
 obtain⟨m,⟨o,es,ep,ho,r⟩,_⟩:=id I.loc
 obtain⟨sl,hL⟩:=u.any ho I.free (by simp)
 exact I.step (g':=s.gens) (d':=s.drawn) (ch:=[]) (fun _ z=>nomatch z) (fun b o _ hb _ e n=>u.keep b o e n hb (by simp)) (fun b o _ hb _ e n=>u.slot b o e n hb (by simp)) (fun b o _ e n=>u.free b o e n (by simp)) (fun b o _ e=>u.there b o e (by simp)) u.tups u.frzs u.tbls (fun m' hm=>by
  obtain⟨o',es',ep',ho',r'⟩:=hm
  rw[ho]at ho';cases ho'
  exact⟨_,es',ep',hL,r'⟩) hok I.bare
theorem ZA.call{g':Array GenState}{t':Nat}{d':Drawn}{ch:List Addr}(I:ZA X pins σ H s)(u:Un (Zkl X.stack) ch H H' s.heap h')(hok:UL X.prog X.w H' h')(hg:AllBare g')
  (hch:∀b∈ch,(b∈X.ex\/X.s₀.heap.objs.size<=b)/\b≠X.env.locals/\(∀x c,X.env.cells.lookup x=some c->c≠b)/\∀p∈X.pn++pins,p.1≠b) :
  ZA X pins σ H' { s with heap:=h',gens:=g',drawn:=d',toks:=t' }:=by
 obtain⟨m,⟨o,es,ep,ho,r⟩,_⟩:=id I.loc
 obtain⟨sl,hL⟩:=u.any ho I.free fun z=>(hch _ z).2.1 rfl
 exact I.step (ch:=ch) hch (fun b o hL hb hc e n=>u.keep b o e n (fun z=>(Qm.mp (I.stkSub b z)).elim hL hb) hc) (fun b o _ _ hc e n=>u.any e n hc) (fun b o hc e n=>u.free b o e n hc) (fun b o hc e=>u.there b o e hc) u.tups u.frzs u.tbls (fun m' hm=>by
  obtain⟨o',es',ep',ho',r'⟩:=hm
  rw[ho]at ho';cases ho'
  exact⟨_,es',ep',hL,r'⟩) hok hg
theorem ZA.turned{t':Nat}{it:Addr}(I:ZA X pins σ H s)(k:∀b o,b≠it->s.heap.get? b=some o->h'.get? b=some o)(hn:H it=none)(hL:it≠X.env.locals)
  (h1:it∈X.ex\/X.s₀.heap.objs.size<=it) (h2:∀x c,X.env.cells.lookup x=some c->c≠it) (h3:∀p∈X.pn++pins,p.1≠it):ZA X pins σ H { s with heap:=h',toks:=t' }:=by
 have nit:∀b u,H b=some u->b≠it:=fun b u e z=>by rw[z,hn]at e;cases e
 refine I.step (g':=s.gens) (d':=s.drawn) (ch:=[it]) (fun b hb=>?_) (fun b o _ _ hc e _=>k b o (fun z=>hc (by simp[z])) e) (fun b o _ _ hc e _=>⟨o.slots,k b o (fun z=>hc (by simp[z])) e⟩) (fun _ _ _ _ n=>n)
  (fun b o hc e=>⟨o,k b o (fun z=>hc (by simp[z])) e⟩) (fun _ _ e=>e) (fun _ _ _ e=>e) (fun b ps e=>⟨#[],by rw[e];simp⟩) (fun m hm=>?_) (fun b u e=>?_) I.bare
 ·have e:b=it:=by simpa using hb
  subst e
  exact⟨h1,hL,h2,h3⟩
 ·obtain⟨o,es,ep,ho,r⟩:=hm
  exact⟨o,es,ep,k _ o (Ne.symm hL) ho,r⟩
 ·refine(I.hok b u e).stay (fun c v hc q=>k c v ?_ q) (fun _ q=>q) fun _ _ q=>q
  rcases hc with z|z
  ·rw[z];exact nit b u e
  ·exact nit c _ z
theorem ZA.tok(I:ZA X pins σ H s)(t:Nat):ZA X pins σ H { s with toks:=t }:=I.un (h':=s.heap) (t':=t) Un.refl I.hok
theorem ZA.kept{t':Nat}(I:ZA X pins σ H s)(k:∀b u,s.heap.get? b=some u->h'.get? b=some u):ZA X pins σ H { s with heap:=h',toks:=t' }:=I.un (Un.kept k) (I.hok.kept k)
theorem ZA.laid{a:Addr}{o:HO}{t':Nat}(I:ZA X pins σ H s)(k:∀b u,s.heap.get? b=some u->h'.get? b=some u)(hp:s.heap.objs.size<=a)(new:YI X.prog X.w (YZ H a o) h' a o) :
  ZA X pins σ (YZ H a o) { s with heap:=h',toks:=t' }:=I.un (Un.laid k hp (I.hok.fresh hp)) (I.hok.laid k hp new)
theorem ZA.write{x e:Addr}{o:HO}{t':Nat}(I:ZA X pins σ H s)(mu:Mut (H x))(he:e=x\/H e=some (.own x))(k:∀b u,b≠e->s.heap.get? b=some u->h'.get? b=some u)(heo:∃u,h'.get? e=some u)
  (new:YI X.prog X.w (YZ H x o) h' x o):ZA X pins σ (YZ H x o) { s with heap:=h',toks:=t' }:=I.un (Un.write mu he k heo) (I.hok.write mu he k heo new)
theorem ZA.weak{σ':List (Option V)}(I:ZA X pins σ H s)(hl:σ'.length=σ.length)(w:∀(i:Nat) v,σ'[i]?=some (some v)->σ[i]?=some (some v)):ZA X pins σ' H s :=
 ⟨I.ok,I.os,I.bare,I.base,let⟨m,hn,hl'⟩:=I.loc;⟨m,hn,fun i x v e1 e2 e3=>hl' i x v e1 (w i v e2) e3⟩,I.cell,I.free,I.freeC,I.pin,I.hok,hl.trans I.len⟩
theorem ZA.pins_of{pins':List (Addr×Obj)}(I:ZA X pins σ H s)(h:∀p∈pins',s.heap.get? p.1=some p.2/\H p.1=none/\p.1≠X.env.locals/\p.1∉X.fs/\∀v,p.2.data≠.cell v):ZA X pins' σ H s :=
 ⟨I.ok,I.os,I.bare,I.base,I.loc,I.cell,I.free,I.freeC,fun p hp=>(Qu.mp hp).elim (fun z=>I.pin p (Qw _ z)) (h p),I.hok,I.len⟩
theorem Zj0{N:List Str}(hN:N.Nodup){i j:Nat}{x:Str}(a:N[i]?=some x)(b:N[j]?=some x):i=j:=by
 obtain⟨h1,e1⟩:=Qp.mp a
 obtain⟨h2,e2⟩:=Qp.mp b
 exact(List.getElem_inj hN).mp (e1.trans e2.symm)
theorem Zf0{M:Model}{A:Around}{E:Value->Shared->Prop}{i:Nat}{x:Str}{v:V}{u:Value}{Q:Unit->Shared->Prop}(I:ZA X pins σ H s)(hN:X.N.Nodup)(hi:X.N[i]?=some x)(hx:Zp9 X.env.scope x)(r:Z2 v u)
  (h:∀s',ZA X pins (σ.set i (some v)) H s'->(∃a,Heap.SameBut a s.heap s'.heap/\(a=X.env.locals\/X.env.cells.lookup x=some a))->Q () s') (hf:X.fn x=true\/X.env.scope.names.lookup x=some .local:=by first|exact .inl rfl|exact .inr rfl|assumption):wpAny M A (storeName X.env x u) Q E s:=by
 obtain⟨m,hn,hl⟩:=id I.loc
 have hcls:(X.env.scope.kind == .class||(X.env.scope.kind == .module&&X.env.locals != X.env.globals))=false:=by rw[I.ok.kind];rfl
 have hiσ:i<σ.length:=by rw[I.len];exact(Qp.mp hi).1
 have cne:=I.cne
 have tracked:∀{a:Addr} {h':Heap},(∃o,s.heap.get? a=some o/\H a=none)->Heap.SameBut a s.heap h'->UL X.prog X.w H h':=fun{a h'} ha hs b ob e=>by
  obtain⟨_,_,hfree⟩:=ha
  refine(I.hok b ob e).stay (fun c w' hc q=>(hs.2 c ?_).trans q) (fun _ q=>q) fun _ _ q=>q
  rintro rfl
  rcases hc with rfl|hc
  ·rw[hfree]at e;cases e
  ·rw[hfree]at hc;cases hc
 rcases hx with hk|hk
 ·refine wpAny_storeName_local hk hn (fun h' hn' hs=>?_) hcls
  obtain⟨oL,_,_,hoL,_⟩:=id hn
  refine h _ ⟨I.ok,I.os,I.bare,⟨fun b o e n hb hx=>?_,fun b o e n hb hx=>?_,I.base.free,fun b o e hx=>?_,I.base.tups,I.base.frzs,I.base.tbls⟩,⟨_,hn',fun j y v' e1 e2 e3=>?_⟩,fun y c e=>?_,I.free,I.freeC,fun p hp=>?_,tracked ⟨oL,hoL,I.free⟩ hs,by simpa using I.len⟩ ⟨_,hs,.inl rfl⟩
  ·exact(hs.2 b (Qy (QJ (Qr e) I.ok.above))).trans (I.base.keep b o e n hb hx)
  ·obtain⟨sl,e1⟩:=I.base.slot b o e n hb hx
   exact⟨sl,(hs.2 b (Qy (QJ (Qr e) I.ok.above))).trans e1⟩
  ·obtain⟨o',e1⟩:=I.base.there b o e hx
   exact⟨o',(hs.2 b (Qy (QJ (Qr e) I.ok.above))).trans e1⟩
  ·by_cases hj:j=i
   ·subst hj
    rw[hi]at e1;cases e1
    rw[QY hiσ]at e2
    cases e2
    exact⟨u,r,.inl ⟨hk,by simp⟩⟩
   ·rw[QB (Ne.symm hj)]at e2
    obtain⟨u',r',q⟩:=hl j y v' e1 e2 e3
    refine⟨u',r',?_⟩
    rcases q with⟨k,e⟩|⟨k,c,e,z⟩
    ·refine .inl ⟨k,?_⟩
     have:y≠x:=fun e=>hj (Zj0 hN e1 (e▸hi))
     simp[this,e]
    ·exact .inr ⟨k,c,e,z.sameBut hs (cne y c e)⟩
  ·obtain⟨w',z⟩:=I.cell y c e
   exact⟨w',z.sameBut hs (cne y c e)⟩
  ·obtain⟨e,n,ne,nf,d⟩:=I.pin p hp
   exact⟨(hs.2 p.1 ne).trans e,n,ne,nf,d⟩
 ·have hfn:X.fn x=true:=by
   rcases hf with z|z
   ·exact z
   ·rw[z]at hk;cases hk
  obtain⟨c,hc⟩:=I.ok.has x (.inl hk)
  obtain⟨w',z⟩:=I.cell x c hc
  refine wpAny_storeName_cell I.ok.kind hk hc z (fun h' hc' hs=>?_)
  obtain⟨oc,hoc,hocd⟩:=id z
  refine h { s with heap:=h' } ⟨I.ok,I.os,I.bare,⟨fun b o e n hb hx=>?_,fun b o e n hb hx=>?_,I.base.free,fun b o e hx=>?_,I.base.tups,I.base.frzs,I.base.tbls⟩,⟨m,hn.sameBut hs (Ne.symm (cne x c hc)),fun j y v' e1 e2 e3=>?_⟩,fun y c' e=>?_,I.free,I.freeC,fun p hp=>?_,tracked ⟨oc,hoc,I.freeC x c hc⟩ hs,by simpa using I.len⟩ ⟨c,hs,.inr hc⟩
  ·exact(hs.2 b (Qy (QJ (Qr e) (I.ok.cab x c hfn hc)))).trans (I.base.keep b o e n hb hx)
  ·obtain⟨sl,e1⟩:=I.base.slot b o e n hb hx
   exact⟨sl,(hs.2 b (Qy (QJ (Qr e) (I.ok.cab x c hfn hc)))).trans e1⟩
  ·obtain⟨o',e1⟩:=I.base.there b o e hx
   exact⟨o',(hs.2 b (Qy (QJ (Qr e) (I.ok.cab x c hfn hc)))).trans e1⟩
  ·by_cases hj:j=i
   ·subst hj
    rw[hi]at e1;cases e1
    rw[QY hiσ]at e2
    cases e2
    exact⟨u,r,.inr ⟨.inl hk,c,hc,hc'⟩⟩
   ·rw[QB (Ne.symm hj)]at e2
    obtain⟨u',r',q⟩:=hl j y v' e1 e2 e3
    refine⟨u',r',?_⟩
    rcases q with q|⟨k,c',e,z'⟩
    ·exact .inl q
    ·refine .inr ⟨k,c',e,z'.sameBut hs ?_⟩
     rintro rfl
     exact hj (Zj0 hN e1 (I.ok.inj _ _ _ e hc▸hi))
  ·by_cases hcc:c'=c
   ·subst hcc;exact⟨_,hc'⟩
   ·obtain⟨w2,z2⟩:=I.cell y c' e
    exact⟨w2,z2.sameBut hs hcc⟩
  ·obtain⟨e,n,ne,nf,d⟩:=I.pin p hp
   refine⟨(hs.2 p.1 ?_).trans e,n,ne,nf,d⟩
   intro q
   rw[q,hoc]at e
   have q':oc=p.2:=Q9 e
   exact d w' (by rw[<- q'];exact hocd)
theorem Zjc{M:Model}{A:Around}{E:Value->Shared->Prop}{i:Nat}{x:Str}{v:V}{u:Value}{Q:Unit->Shared->Prop}(I:ZA X pins σ H s)(hN:X.N.Nodup)(hi:X.N[i]?=some x)(hx:Zp9 X.env.scope x)(r:Z2 v u)
  (h:∀s',ZA X pins (σ.set i (some v)) H s'->Q () s') (hf:X.fn x=true\/X.env.scope.names.lookup x=some .local:=by first|exact .inl rfl|exact .inr rfl|assumption):wpAny M A (storeName X.env x u) Q E s :=
 Zf0 I hN hi hx r (fun s' I' _=>h s' I') hf
theorem ZA.call'{s':Shared}{ch:List Addr}(I:ZA X pins σ H s)(ho:s'.os=s.os)(u:Un (Zkl X.stack) ch H H' s.heap s'.heap)(hok:UL X.prog X.w H' s'.heap)(hg:AllBare s'.gens)
  (hch:∀b∈ch,(b∈X.ex\/X.s₀.heap.objs.size<=b)/\b≠X.env.locals/\(∀x c,X.env.cells.lookup x=some c->c≠b)/\∀p∈X.pn++pins,p.1≠b):ZA X pins σ H' s':=by
 obtain⟨h',g',d',t',o'⟩:=s'
 have e:o'=s.os:=ho
 subst e
 exact I.call (g':=g') (t':=t') (d':=d') u hok hg hch
end
abbrev XK:=Value->Option Addr->Hp->Prop
abbrev St:=List (Option V)
abbrev VK:=V->Hp->Prop
abbrev TE:=St->Hp->VK->Prop
abbrev TT:=St->Hp->(Bool->Hp->Prop)->Prop
abbrev TA:=St->Hp->(List V->Hp->Prop)->Prop
structure Ziu where
 nx:St->Hp->Prop
 rt:VK
 bk:St->Hp->Prop:=fun _ _=>False
 ct:St->Hp->Prop:=fun _ _=>False
abbrev TS:=Ziu->St->Hp->Prop
def EP(X:Cx)(pins:List (Addr×Obj))(σ:St)(Q:VK)(u:Value)(s':Shared):Prop:=∃v H',ZA X pins σ H' s'/\Z2 v u/\Q v H'
def TP(X:Cx)(pins:List (Addr×Obj))(σ:St)(Q:Bool->Hp->Prop)(b:Bool)(s':Shared):Prop:=∃H',ZA X pins σ H' s'/\Q b H'
def AP(X:Cx)(pins:List (Addr×Obj))(σ:St)(Q:List V->Hp->Prop)(us:List Value)(s':Shared):Prop:=∃vs H',ZA X pins σ H' s'/\ZM vs us/\Q vs H'
def SP(X:Cx)(pins:List (Addr×Obj))(D:Ziu)(f:Flow)(s':Shared):Prop :=
 match f with
 |.next=>∃σ' H',ZA X pins σ' H' s'/\D.nx σ' H'
 |.brk=>∃σ' H',ZA X pins σ' H' s'/\D.bk σ' H'
 |.cont=>∃σ' H',ZA X pins σ' H' s'/\D.ct σ' H'
 |.ret u=>∃v σ' H',ZA X pins σ' H' s'/\Z2 v u/\D.rt v H'
def PE(X:Cx)(e:Expr)(t:TE):Prop :=
 ∀(pins:List (Addr×Obj)) (s:Shared) (σ:St) (H:Hp) (Q:VK),ZA X pins σ H s->t σ H Q->wpAny (model X.prog X.w) X.A (eval e X.env) (EP X pins σ Q) X.xe s
def PT(X:Cx)(e:Expr)(t:TT):Prop :=
 ∀(pins:List (Addr×Obj)) (s:Shared) (σ:St) (H:Hp) (Q:Bool->Hp->Prop),ZA X pins σ H s->t σ H Q->wpAny (model X.prog X.w) X.A (isTrue e X.env (eval e X.env)) (TP X pins σ Q) X.xe s
def PW(X:Cx)(e:Expr)(t:TT):Prop :=
 ∀(Zae:Sem Value) (pins:List (Addr×Obj)) (s:Shared) (σ:St) (H:Hp) (Q:Bool->Hp->Prop),ZA X pins σ H s->t σ H Q->wpAny (model X.prog X.w) X.A (isTrue e X.env Zae) (TP X pins σ Q) X.xe s
theorem PW.pt{X:Cx}{e:Expr}{t:TT}(h:PW X e t):PT X e t:=h _
def PA(X:Cx)(es:List Expr)(t:TA):Prop :=
 ∀(pos:Pos) (pins:List (Addr×Obj)) (s:Shared) (σ:St) (H:Hp) (Q:List V->Hp->Prop),ZA X pins σ H s->t σ H Q->wpAny (model X.prog X.w) X.A (spliced (backTo pos (starEach es X.env))) (AP X pins σ Q) X.xe s
def PS(X:Cx)(st:Stmt)(t:TS):Prop :=
 ∀(pins:List (Addr×Obj)) (s:Shared) (σ:St) (H:Hp) (D:Ziu),ZA X pins σ H s->t D σ H->wpAny (model X.prog X.w) X.A (exec st X.env) (SP X pins D) X.xe s
def Zc7(X:Cx)(st:List Stmt)(t:TS):Prop :=
 ∀(pins:List (Addr×Obj)) (s:Shared) (σ:St) (H:Hp) (D:Ziu),ZA X pins σ H s->t D σ H->wpAny (model X.prog X.w) X.A (execs st X.env) (SP X pins D) X.xe s
theorem Xd{α:Type}{t:Sem α}{Q Q':α->Shared->Prop}{M:Model}{A:Around}{E:Value->Shared->Prop}{s:Shared}(h:wpAny M A t Q E s)(hQ:∀a s,Q a s->Q' a s):wpAny M A t Q' E s:=Jx h hQ fun _ _ x=>x
section
variable{X:Cx}
theorem bin{a b:Expr}{ta tb:TE}(ha:PE X a ta)(hb:PE X b tb){pins:List (Addr×Obj)}{s:Shared}{σ:St}{H:Hp}{R:V->V->Hp->Prop}(I:ZA X pins σ H s)(h:ta σ H fun x H1=>tb σ H1 fun y H2=>R x y H2)
  {α:Type} {Q:α->Shared->Prop} {f:Value->Value->Sem α}
  (hf:∀v u s2 x y H2,ZA X pins σ H2 s2->Z2 x v->Z2 y u->R x y H2->wpAny (model X.prog X.w) X.A (f v u) Q X.xe s2) :
  wpAny (model X.prog X.w) X.A (eval a X.env) (fun v s₁=>wpAny (model X.prog X.w) X.A (eval b X.env) (fun u s₂=>wpAny (model X.prog X.w) X.A (f v u) Q X.xe s₂) X.xe s₁) X.xe s:=by
 refine Xd (ha pins s σ H _ I h) fun v s1 ⟨x,H1,I1,r1,q1⟩=>?_
 refine Xd (hb pins s1 σ H1 _ I1 q1) fun u s2 ⟨y,H2,I2,r2,q2⟩=>?_
 exact hf v u s2 x y H2 I2 r1 r2 q2
def Zg7(i:Nat):TE:=fun σ H Q=>∃v,σ[i]?=some (some v)/\Q v H
def tC(v:V):TE:=fun _ H Q=>Q v H
theorem VH{i:Nat}{x:Str}{pos:Pos}(hN:X.N[i]?=some x)(hv:Zul X.env.scope x)(hd:(x == ("__debug__":Str))=false:=by decide)(hcd:(x == ("__classdict__":Str))=false:=by decide):PE X (.Name x pos) (Zg7 i):=by
 intro pins s σ H Q I h
 obtain⟨v,e,h⟩:=h
 obtain⟨m,hn,hl⟩:=I.loc
 obtain⟨u,r,l⟩:=hl i x v hN e hv
 have fin:EP X pins σ Q u s:=⟨v,H,I,r,h⟩
 rcases l with⟨hk,hm⟩|⟨hk,c,hc,hcell⟩
 ·exact wpAny_Name (wpAny_loadName_local I.ok.kind hk hn hm fin) hd
 ·rcases hk with hk|hk
  ·exact wpAny_Name (wpAny_loadName_cell I.ok.kind hk hc hcell fin) hd
  ·exact wpAny_Name (wpAny_loadName_free I.ok.kind hk hc hcell fin hcd) hd
theorem Zry{i j pos}:PE X (.Constant (.int i) j pos) (tC (.int i)):=fun _ _ _ H _ I h=>wpAny_Constant_int ⟨.int i,H,I.tok _,⟨_,rfl⟩,h⟩
theorem Zxk{b j pos}:PE X (.Constant (.bool b) j pos) (tC (.bl b)):=fun _ _ _ H _ I h=>Constant_bool ⟨.bl b,H,I,rfl,h⟩
theorem Zzp{j pos}:PE X (.Constant .none j pos) (tC .non):=fun _ _ _ H _ I h=>Constant_none ⟨.non,H,I,rfl,h⟩
def Gl(X:Cx)(x:Str):Prop:=X.env.kindOf x=some .globalImplicit
theorem Zns{E:Value->Shared->Prop}{pins:List (Addr×Obj)}{s:Shared}{σ:St}{H:Hp}{x:Str}{u:Value}{pos:Pos}{Q:Value->Shared->Prop}(I:ZA X pins σ H s)(hg:Gl X x)(hm:X.mg x=some u)(h:Q u s)
  (hd:(x == ("__debug__":Str))=false:=by decide):wpAny (model X.prog X.w) X.A (eval (.Name x pos) X.env) Q E s :=
 Calls.Name_function_global I.ok.kind hg (Calls.loadGlobal_global (by rw[I.ok.glob];exact I.mod.glob.keeps I.bk) hm h) hd
theorem U1{E:Value->Shared->Prop}{pins:List (Addr×Obj)}{s:Shared}{σ:St}{H:Hp}{x:Str}{u:Value}{pos:Pos}{Q:Value->Shared->Prop}(I:ZA X pins σ H s)(hg:Gl X x)(hm:X.mg x=none)(hv:bootBuiltins x=some u)(h:Q u s)
  (hn:x≠"__name__":=by decide) (hd:(x == ("__debug__":Str))=false:=by decide):wpAny (model X.prog X.w) X.A (eval (.Name x pos) X.env) Q E s:=by
 obtain⟨mb,h1,h2⟩:=I.mod.blt
 exact Calls.Name_function_global I.ok.kind hg (Calls.loadGlobal_builtin (by rw[I.ok.glob];exact I.mod.glob.keeps I.bk) hm (by rw[I.ok.blt];exact h1.keeps I.bk) ((h2 x hn).trans hv) h) hd
theorem Zvt{x:Str}{v:V}{u:Value}{pos:Pos}(hg:Gl X x)(hm:X.mg x=some u)(r:Z2 v u)(hd:(x == ("__debug__":Str))=false:=by decide):PE X (.Name x pos) (tC v) :=
 fun _ _ _ H _ I h=>Zns I hg hm ⟨v,H,I,r,h⟩ hd
theorem Zvy{x:Str}{v:V}{u:Value}{pos:Pos}(hg:Gl X x)(hm:X.mg x=none)(hv:bootBuiltins x=some u)(r:Z2 v u)(hn:x≠"__name__":=by decide)(hd:(x == ("__debug__":Str))=false:=by decide):PE X (.Name x pos) (tC v) :=
 fun _ _ _ H _ I h=>U1 I hg hm hv ⟨v,H,I,r,h⟩ hn hd
variable{a b:Expr}{ta tb:TE}{pos:Pos}
variable{tA tB':TT}{YK:List Expr}
def tAnd(t u:TT):TT:=fun σ H Q=>t σ H fun c H1=>if c=true then u σ H1 Q else Q false H1
def tOr(t u:TT):TT:=fun σ H Q=>t σ H fun c H1=>if c=true then Q true H1 else u σ H1 Q
def tNot(t:TT):TT:=fun σ H Q=>t σ H fun c H1=>Q (!c) H1
theorem Zve(ha:PT X a tA):PW X (.BoolOp .And [a] pos) tA:=by
 intro wh pins s σ H Q I h
 refine isTrue_and (Xd (ha pins s σ H Q I h) fun c s1 e=>?_)
 cases c with
 |true=>exact isTrue_and_nil e
 |false=>exact e
theorem Zzd(ha:PT X a tA):PW X (.BoolOp .Or [a] pos) tA:=by
 intro wh pins s σ H Q I h
 refine isTrue_or (Xd (ha pins s σ H Q I h) fun c s1 e=>?_)
 cases c with
 |false=>exact isTrue_or_nil e
 |true=>exact e
theorem Zze(ha:PT X a tA)(hb:PW X (.BoolOp .And (b::YK) pos) tB'):PW X (.BoolOp .And (a::b::YK) pos) (tAnd tA tB'):=by
 intro wh pins s σ H Q I h
 refine isTrue_and (Xd (ha pins s σ H _ I h) fun c s1 ⟨H1,I1,q1⟩=>?_)
 cases c with
 |true=>exact hb wh pins s1 σ H1 Q I1 q1
 |false=>exact⟨H1,I1,q1⟩
theorem pw_or(ha:PT X a tA)(hb:PW X (.BoolOp .Or (b::YK) pos) tB'):PW X (.BoolOp .Or (a::b::YK) pos) (tOr tA tB'):=by
 intro wh pins s σ H Q I h
 refine isTrue_or (Xd (ha pins s σ H _ I h) fun c s1 ⟨H1,I1,q1⟩=>?_)
 cases c with
 |true=>exact⟨H1,I1,q1⟩
 |false=>exact hb wh pins s1 σ H1 Q I1 q1
theorem Zzf(ha:PT X a tA):PT X (.UnaryOp .Not a pos) (tNot tA):=by
 intro pins s σ H Q I h
 exact isTrue_not (ha pins s σ H (fun c H1=>Q (!c) H1) I h)
def tAndV(ta tb:TE):TE:=fun σ H Q=>ta σ H fun x H1=>∃c,x=.bl c/\if c=true then tb σ H1 Q else Q (.bl false) H1
def tNotV(ta:TE):TE:=fun σ H Q=>ta σ H fun x H1=>∃c,x=.bl c/\Q (.bl (!c)) H1
theorem Zzn{op}{t:TE}(h:PE X a t):PE X (.BoolOp op [a] pos) t:=fun pins s σ H Q I hw=>BoolOp_one (h pins s σ H Q I hw)
theorem Zzq(ha:PE X a ta)(hb:PE X (.BoolOp .And (b::YK) pos) tb):PE X (.BoolOp .And (a::b::YK) pos) (tAndV ta tb):=by
 intro pins s σ H Q I h
 refine BoolOp_and (Xd (ha pins s σ H _ I h) fun v s1 ⟨x,H1,I1,r1,q1⟩=>?_)
 obtain⟨c,rfl,q1⟩:=q1
 cases r1
 refine JQ ?_
 cases c with
 |true=>exact hb pins s1 σ H1 Q I1 q1
 |false=>exact⟨.bl false,H1,I1,rfl,q1⟩
theorem Zzo(ha:PE X a ta):PE X (.UnaryOp .Not a pos) (tNotV ta):=by
 intro pins s σ H Q I h
 refine UnaryOp_ (Xd (ha pins s σ H _ I h) fun v s1 ⟨x,H1,I1,r1,q1⟩=>?_)
 obtain⟨c,rfl,q1⟩:=q1
 cases r1
 exact not_of (JQ ⟨.bl (!c),H1,I1,rfl,q1⟩)
def tIf(t:TT)(ta tb:TE):TE:=fun σ H Q=>t σ H fun c H1=>if c=true then ta σ H1 Q else tb σ H1 Q
theorem Zrz{c:Expr}(hc:PT X c tA)(ha:PE X a ta)(hb:PE X b tb):PE X (.IfExp c a b pos) (tIf tA ta tb):=by
 intro pins s σ H Q I h
 refine wpAny_IfExp (Xd (hc pins s σ H _ I h) fun d s1 ⟨H1,I1,q1⟩=>?_)
 cases d with
 |true=>exact ha pins s1 σ H1 Q I1 q1
 |false=>exact hb pins s1 σ H1 Q I1 q1
end
def XX(K:PySem.W.Frag)(H:Hp)(a:Addr)(xs:List V):Prop :=
 Rd H a (.lst xs) \/
  ∃(o:Obj) (its:Array Value) (n:Nat),K.lookup a=some o/\o.cls=.type "list"/\o.dict=none/\o.data=.seq its n/\its.size<=sizeLine/\ZM xs its.toList
def Wx(K:PySem.W.Frag)(H:Hp)(a:Addr)(xs:List V):Prop :=
 Rd H a (.tup xs) \/
  ∃(o:Obj) (its:Array Value) (n:Nat),K.lookup a=some o/\o.cls=.type "tuple"/\o.data=.seq its n/\its.size<=sizeLine/\ZM xs its.toList
def absV:Value->Option V
 |.none=>some .non
 |.bool b=>some (.bl b)
 |.int i _=>some (.int i)
 |.str x _=>some (.str x)
 |.bytes b _=>some (.byt b)
 |.float b _=>some (.flt b)
 |.ref a=>some (.ref a)
 |.type n=>some (.ty n)
 |_=>none
theorem Z2.abs{x:V}{u:Value}(r:Z2 x u):absV u=some x:=by
 cases x with
 |non=>cases r;rfl
 |bl _=>cases r;rfl
 |int _=>obtain⟨t,rfl⟩:=r;rfl
 |str _=>obtain⟨t,rfl⟩:=r;rfl
 |byt _=>obtain⟨t,rfl⟩:=r;rfl
 |flt _=>obtain⟨t,rfl⟩:=r;rfl
 |ref _=>cases r;rfl
 |ty _=>cases r;rfl
theorem Z2.inj{x y:V}{u:Value}(r:Z2 x u)(q:Z2 y u):x=y:=Q9 (r.abs.symm.trans q.abs)
theorem ZM.inj:∀{xs ys:List V} {us:List Value},ZM xs us->ZM ys us->xs=ys
 |_,_,_,.nil,.nil=>rfl
 |_,_,_,.cons r t,.cons r' t'=>by rw[r.inj r',ZM.inj t t']
section
variable{X:Cx}{pins:List (Addr×Obj)}{σ:St}{H:Hp}{s:Shared}{a:Addr}{xs ys:List V}
theorem XX.of{K:PySem.W.Frag}(h:H a=some (.lst xs)):XX K H a xs:=.inl (.inl h)
theorem Wx.of{K:PySem.W.Frag}(h:H a=some (.tup xs)):Wx K H a xs:=.inl (.inl h)
theorem ZA.list(I:ZA X pins σ H s)(h:XX X.K H a xs):∃its:List Value,ZM xs its/\PlainL s.heap a its.toArray/\xs.length<=sizeLine:=by
 rcases h with h|⟨o,its,n,hk,hc,hd,hs,hz,r⟩
 ·obtain⟨z,its,n,r,e⟩:=h.ok I.hok
  exact⟨its,r,⟨_,n,e,rfl,rfl,rfl⟩,z⟩
 ·refine⟨its.toList,r,⟨o,n,I.kIn a o hk,hc,hd,by simpa using hs⟩,?_⟩
  have e:=r.length
  simp only[QU]at e
  omega
theorem ZA.tuple(I:ZA X pins σ H s)(h:Wx X.K H a xs):∃its:List Value,ZM xs its/\IsTup s.heap a its.toArray/\xs.length<=sizeLine:=by
 rcases h with h|⟨o,its,n,hk,hc,hs,hz,r⟩
 ·obtain⟨z,its,r,p⟩:=h.ok I.hok
  exact⟨its,r,p,z⟩
 ·refine⟨its.toList,r,⟨o,I.kIn a o hk,hc,n,by simpa using hs⟩,?_⟩
  have e:=r.length
  simp only[QU]at e
  omega
theorem ZA.list_inj(I:ZA X pins σ H s)(h:XX X.K H a xs)(h':XX X.K H a ys):xs=ys:=by
 obtain⟨its,r,⟨o,n,e,_,_,d⟩,_⟩:=I.list h
 obtain⟨its',r',⟨o',n',e',_,_,d'⟩,_⟩:=I.list h'
 rw[e]at e';cases e'
 rw[d]at d'
 injection d' with d1 _
 have:its=its':=by simpa using congrArg Array.toList d1
 subst this
 exact r.inj r'
theorem ZA.tuple_inj(I:ZA X pins σ H s)(h:Wx X.K H a xs)(h':Wx X.K H a ys):xs=ys:=by
 obtain⟨its,r,⟨o,e,_,n,d⟩,_⟩:=I.tuple h
 obtain⟨its',r',⟨o',e',_,n',d'⟩,_⟩:=I.tuple h'
 rw[e]at e';cases e'
 rw[d]at d'
 injection d' with d1 _
 have:its=its':=by simpa using congrArg Array.toList d1
 subst this
 exact r.inj r'
end
abbrev Cx.wish(X:Cx)(E:Value->Shared->Prop):Cx:={ X with xe:=E }
abbrev Cx.nox(X:Cx):Cx:=X.wish fun _ _=>False
theorem Cx.Ok.wish{X:Cx}(ok:X.Ok)(E:Value->Shared->Prop):(X.wish E).Ok :=
 ⟨ok.mod,ok.kind,ok.glob,ok.blt,ok.above,ok.inj,ok.has,ok.cab,ok.hd,ok.frames,ok.stk,ok.exf,ok.bs,ok.bsz,ok.noex,ok.exfs,ok.funs,ok.frf⟩
theorem Cx.Ok.unwish{X:Cx}{E:Value->Shared->Prop}(ok:(X.wish E).Ok):X.Ok :=
 ⟨ok.mod,ok.kind,ok.glob,ok.blt,ok.above,ok.inj,ok.has,ok.cab,ok.hd,ok.frames,ok.stk,ok.exf,ok.bs,ok.bsz,ok.noex,ok.exfs,ok.funs,ok.frf⟩
section
variable{X:Cx}{pins:List (Addr×Obj)}{σ:St}{H:Hp}{s:Shared}{E:Value->Shared->Prop}
theorem ZA.wish(I:ZA X pins σ H s)(E:Value->Shared->Prop):ZA (X.wish E) pins σ H s:=⟨I.ok.wish E,I.os,I.bare,I.base,I.loc,I.cell,I.free,I.freeC,I.pin,I.hok,I.len⟩
theorem ZA.unwish(I:ZA (X.wish E) pins σ H s):ZA X pins σ H s:=⟨I.ok.unwish,I.os,I.bare,I.base,I.loc,I.cell,I.free,I.freeC,I.pin,I.hok,I.len⟩
theorem SP.unwish{D:Ziu}{f:Flow}{s':Shared}(h:SP (X.wish E) pins D f s'):SP X pins D f s':=by
 cases f with
 |next=>obtain⟨σ',H',I,q⟩:=h;exact⟨σ',H',I.unwish,q⟩
 |brk=>obtain⟨σ',H',I,q⟩:=h;exact⟨σ',H',I.unwish,q⟩
 |cont=>obtain⟨σ',H',I,q⟩:=h;exact⟨σ',H',I.unwish,q⟩
 |ret u=>obtain⟨v,σ',H',I,r,q⟩:=h;exact⟨v,σ',H',I.unwish,r,q⟩
theorem PE.nox{e:Expr}{t:TE}(h:PE X.nox e t):PE X e t:=fun pins s σ H Q I hw =>
 Jx (h pins s σ H Q (I.wish _) hw) (fun _ _ ⟨v,H',I',r,q⟩=>⟨v,H',I'.unwish,r,q⟩) fun _ _ z=>False.elim z
theorem PT.nox{e:Expr}{t:TT}(h:PT X.nox e t):PT X e t:=fun pins s σ H Q I hw =>
 Jx (h pins s σ H Q (I.wish _) hw) (fun _ _ ⟨H',I',q⟩=>⟨H',I'.unwish,q⟩) fun _ _ z=>False.elim z
theorem Zc7.nox{st:List Stmt}{t:TS}(h:Zc7 X.nox st t):Zc7 X st t:=fun pins s σ H D I hw =>
 Jx (h pins s σ H D (I.wish _) hw) (fun _ _ q=>q.unwish) fun _ _ z=>False.elim z
end
section
variable{X:Cx}{st:Stmt}{YK:List Stmt}{t u:TS}{e:Expr}{te:TE}{pos:Pos}
def tNext:TS:=fun D σ H=>D.nx σ H
def Zyr(t u:TS):TS:=fun D σ H=>t { D with nx:=u D } σ H
theorem Zvk:Zc7 X [] tNext:=fun _ _ σ H _ I h=>wpAny_execs_nil ⟨σ,H,I,h⟩
theorem Uc(h1:PS X st t)(h2:Zc7 X YK u):Zc7 X (st::YK) (Zyr t u):=by
 intro pins s σ H D I h
 refine wpAny_execs_cons (Xd (h1 pins s σ H { D with nx:=u D } I h) fun f s1 q=>?_)
 cases f with
 |next =>
  obtain⟨σ',H',I',q⟩:=q
  exact h2 pins s1 σ' H' D I' q
 |ret v=>exact q
 |brk=>exact q
 |cont=>exact q
theorem Zc0(h1:PS X st t):Zc7 X [st] t:=by
 intro pins s σ H D I h
 refine wpAny_execs_cons (Xd (h1 pins s σ H D I h) fun f s1 q=>?_)
 cases f with
 |next=>exact wpAny_execs_nil q
 |ret v=>exact q
 |brk=>exact q
 |cont=>exact q
def Zyz:TS:=fun D σ H=>D.bk σ H
theorem Zrq:PS X (.Break pos) Zyz:=fun _ _ σ H _ I h=>wpAny_Break ⟨σ,H,I,h⟩
theorem ZA.quiet{pins:List (Addr×Obj)}{σ:St}{H:Hp}{s:Shared}(I:ZA X pins σ H s):interactive X.env=false:=by simp[interactive,I.ok.kind]
def tDrop(te:TE):TS:=fun D σ H=>te σ H fun _ H1=>D.nx σ H1
theorem Zc1(he:PE X e te)(hs:swapsWith e none pos.line X.env=pure false:=by rfl):PS X (.Expr e pos) (tDrop te):=by
 intro pins s σ H D I h
 exact wpAny_Expr_any (Xd (he pins s σ H _ I h) fun v s1 ⟨x,H1,I1,r1,q1⟩=>⟨σ,H1,I1,q1⟩) I.quiet hs
def Zys(te:TE):TS:=fun D σ H=>te σ H D.rt
theorem Zlv(he:PE X e te):PS X (.Return (some e) pos) (Zys te):=by
 intro pins s σ H D I h
 exact wpAny_Return_some (Xd (he pins s σ H _ I h) fun v s1 ⟨x,H1,I1,r1,q1⟩=>⟨x,σ,H1,I1,r1,q1⟩)
def tIfS(c:TT)(t u:TS):TS:=fun D σ H=>c σ H fun b H1=>if b=true then t D σ H1 else u D σ H1
theorem ps_if{c:Expr}{a b:List Stmt}{tc:TT}(hc:PT X c tc)(ha:Zc7 X a t)(hb:Zc7 X b u):PS X (.If c a b pos) (tIfS tc t u):=by
 intro pins s σ H D I h
 refine wpAny_If (Xd (hc pins s σ H _ I h) fun d s1 ⟨H1,I1,q1⟩=>?_)
 cases d with
 |true=>exact ha pins s1 σ H1 D I1 q1
 |false=>exact hb pins s1 σ H1 D I1 q1
def Zyt:TS:=fun _ _ _=>False
theorem Zoz{sts:List Stmt}:Zc7 X sts Zyt:=fun _ _ _ _ _ _ h=>h.elim
end
abbrev TG:=V->St->Hp->(St->Hp->Prop)->Prop
abbrev Zyb:=List V->St->Hp->(St->Hp->Prop)->Prop
def PG(X:Cx)(target:Expr)(t:TG):Prop :=
 ∀(pins:List (Addr×Obj)) (s:Shared) (σ:St) (H:Hp) (v:V) (u:Value) (Q:St->Hp->Prop),ZA X pins σ H s->Z2 v u->t v σ H Q ->
  wpAny (model X.prog X.w) X.A (assign target X.env u) (fun _ s'=>∃σ' H',ZA X pins σ' H' s'/\Q σ' H') X.xe s
def PGs(X:Cx)(ts:List Expr)(t:Zyb):Prop :=
 ∀(pins:List (Addr×Obj)) (s:Shared) (σ:St) (H:Hp) (vs:List V) (us:List Value) (Q:St->Hp->Prop),ZA X pins σ H s->ZM vs us->t vs σ H Q ->
  wpAny (model X.prog X.w) X.A (assignInOrder ((assignEach ts X.env).map (·.2)) us) (fun _ s'=>∃σ' H',ZA X pins σ' H' s'/\Q σ' H') X.xe s
abbrev Z1k:=V->V->V->Hp->(Hp->Prop)->Prop
def PSet(X:Cx)(t:Z1k):Prop :=
 ∀(pins:List (Addr×Obj)) (s:Shared) (σ:St) (H:Hp) (o i v:V) (ov iv u:Value) (Q:Hp->Prop),ZA X pins σ H s->Z2 o ov->Z2 i iv->Z2 v u->t o i v H Q ->
  wpAny (model X.prog X.w) X.A (setItem ov iv u) (fun _ s'=>∃H',ZA X pins σ H' s'/\Q H') X.xe s
section
variable{X:Cx}{pos:Pos}
def Zgk(i:Nat):TG:=fun v σ H Q=>Q (σ.set i (some v)) H
theorem Znl{i:Nat}{x:Str}(hN:X.N.Nodup)(hi:X.N[i]?=some x)(hx:Zp9 X.env.scope x)(hf:X.fn x=true\/X.env.scope.names.lookup x=some .local:=by first|exact .inl rfl|exact .inr rfl|assumption):PG X (.Name x pos) (Zgk i):=by
 intro pins s σ H v u Q I r h
 exact wpAny_assign_Name (Zjc I hN hi hx r (fun s' I'=>⟨_,H,I',h⟩) hf)
def gNil:Zyb:=fun vs σ H Q=>vs=[]/\Q σ H
def Zx4(t:TG)(u:Zyb):Zyb:=fun vs σ H Q=>∃v r,vs=v::r/\t v σ H fun σ' H'=>u r σ' H' Q
theorem W6:PGs X [] gNil:=by
 intro pins s σ H vs us Q I r h
 obtain⟨e,h⟩:=h
 subst e
 cases r
 exact assignInOrder_nil ⟨σ,H,I,h⟩
theorem Yg{e:Expr}{es:List Expr}{t:TG}{u:Zyb}(h1:PG X e t)(h2:PGs X es u)
  (hs:(assignEach (e::es) X.env).map (·.2)=assign e X.env::(assignEach es X.env).map (·.2):=by rfl):PGs X (e::es) (Zx4 t u):=by
 intro pins s σ H vs us Q I r h
 obtain⟨v,vr,e1,h⟩:=h
 subst e1
 cases r with
 |cons r rr =>
  rw[hs]
  refine assignInOrder_cons (Xd (h1 pins s σ H _ _ _ I r h) fun _ s1 ⟨σ1,H1,I1,q1⟩=>?_)
  exact h2 pins s1 σ1 H1 _ _ Q I1 rr q1
def gTup(K:PySem.W.Frag)(n:Nat)(t:Zyb):TG:=fun v σ H Q=>∃a xs,v=.ref a/\Wx K H a xs/\xs.length=n/\t xs σ H Q
theorem Zzl{es:List Expr}{k:Nat}{t:Zyb}{n:Nat}(hc:X.calm=true)(h:PGs X es t)
  (hn:(assignEach es X.env).length=n:=by rfl) (hst:(assignEach es X.env).findIdx? (·.1)=none:=by rfl):PG X (.Tuple es k pos) (gTup X.K n t):=by
 intro pins s σ H v u Q I r hw
 obtain⟨a,xs,e1,hq,hl,hw⟩:=hw
 subst e1
 cases r
 obtain⟨its,rv,ht,hz⟩:=I.tuple hq
 refine assign_Tuple_tuple (I.ok.hd hc) ht (by simp[hn,<- hl,rv.length]) hst fun h' hx=>?_
 have I1:ZA X pins σ H { s with heap:=h' }:=I.kept (t':=s.toks) fun b o e=>hx b o (Qy (Qr e)) e
 exact h pins _ σ H xs _ Q I1 (by simpa using rv) hw
def gSub(to ti:TE)(t:Z1k):TG:=fun v σ H Q=>to σ H fun o H1=>ti σ H1 fun i H2=>t o i v H2 fun H3=>Q σ H3
theorem Zlz{o i:Expr}{to ti:TE}{t:Z1k}(ho:PE X o to)(hi:PE X i ti)(hs:PSet X t)
  (ha:∀v,assign (.Subscript o i pos) X.env v=(do
   let ov <- holding [v] (eval o X.env)
   let iv <- holding [v,ov] (eval i X.env)
   standAt pos
   holding [v,ov,iv] (setItem ov iv v)
   release [v,ov,iv] []):=by intro _;rfl):PG X (.Subscript o i pos) (gSub to ti t):=by
 intro pins s σ H v u Q I r h
 rw[ha]
 refine Qa (Jf (Xd (ho pins s σ H _ I h) fun ov s1 ⟨x,H1,I1,r1,q1⟩=>?_))
 refine Qa (Jf (Xd (hi pins s1 σ H1 _ I1 q1) fun iv s2 ⟨y,H2,I2,r2,q2⟩=>?_))
 refine Qa (wpAny_standAt (Qa (Jf (Xd (hs pins s2 σ H2 x y v ov iv u _ I2 r1 r2 r q2) fun _ s3 ⟨H3,I3,q3⟩=>?_))))
 exact wpAny_release ⟨σ,H3,I3,q3⟩
def Zq2(te:TE)(g:TG):TS:=fun D σ H=>te σ H fun x H1=>g x σ H1 D.nx
theorem Zlx{tg e:Expr}{te:TE}{g:TG}(he:PE X e te)(hg:PG X tg g)(hs:swapsWithSole [tg] e pos.line X.env=pure false:=by rfl)(hw:swappedStores [tg] e X.env=pure none:=by rfl)
  (h1:(assignEach [tg] X.env).map (·.2)=[assign tg X.env]:=by rfl):PS X (.Assign [tg] e pos) (Zq2 te g):=by
 intro pins s σ H D I h
 refine wpAny_Assign_stores (Xd (he pins s σ H _ I h) fun v s1 ⟨x,H1,I1,r1,q1⟩=>?_) hs hw
 rw[h1]
 exact Xd (hg pins s1 σ H1 x v _ I1 r1 q1) fun _ s2 q=>q
theorem Zdu{i:Nat}{x:Str}{e:Expr}{te:TE}{pos':Pos}(hN:X.N.Nodup)(hi:X.N[i]?=some x)(hx:Zp9 X.env.scope x)(he:PE X e te)(hs:swapsWith e (some (.Name x pos')) pos.line X.env=pure false:=by rfl)(hf:X.fn x=true\/X.env.scope.names.lookup x=some .local:=by first|exact .inl rfl|exact .inr rfl|assumption) :
  PS X (.Assign [.Name x pos'] e pos) (Zq2 te (Zgk i)):=by
 intro pins s σ H D I h
 refine wpAny_Assign_Name (Xd (he pins s σ H _ I h) fun v s1 ⟨y,H1,I1,r1,q1⟩=>?_) hs
 exact Zjc I1 hN hi hx r1 (fun s2 I2=>⟨_,H1,I2,q1⟩) hf
end
section
variable{X:Cx}{pos:Pos}
def Zyq(c:TT)(tb:TS):TS:=fun D σ H=>∃W:Nat->St->Hp->Prop,(∃m,W m σ H)/\∀m σ H,W m σ H ->
 c σ H fun b H1=>if b=true then ∃N:St->Hp->Prop,(∀σ' H',N σ' H'->∃m',m'<m/\W m' σ' H')/\tb { D with nx:=N,ct:=N,bk:=D.nx } σ H1 else D.nx σ H1
theorem Zrp{c:Expr}{body:List Stmt}{tc:TT}{tb:TS}(hp:PassesOwn (model X.prog X.w) X.A X.env X.xe)(hc:PT X c tc)(hb:Zc7 X body tb):PS X (.While c body [] pos) (Zyq tc tb):=by
 intro pins s σ H D I h
 obtain⟨W,⟨m0,w0⟩,turn⟩:=h
 refine wpAny_While (codeAny_whileLoop (fun n s'=>∃σ' H',ZA X pins σ' H' s'/\W n σ' H') ?_ m0 ⟨σ,H,I,w0⟩)
 rintro n s1 ⟨σ1,H1,I1,w1⟩
 refine J1 hp (Xd (hc pins s1 σ1 H1 _ I1 (turn n σ1 H1 w1)) fun b s2 ⟨H2,I2,q2⟩=>?_)
 cases b with
 |true =>
  obtain⟨N,hN,q2⟩:=q2
  rw[if_pos rfl]
  refine J1 hp (Xd (hb pins s2 σ1 H2 _ I2 q2) fun f s3 q3=>?_)
  cases f with
  |next =>
   obtain⟨σ3,H3,I3,n3⟩:=q3
   obtain⟨m',hm,w3⟩:=hN σ3 H3 n3
   exact⟨m',hm,σ3,H3,I3,w3⟩
  |cont =>
   obtain⟨σ3,H3,I3,n3⟩:=q3
   obtain⟨m',hm,w3⟩:=hN σ3 H3 n3
   exact⟨m',hm,σ3,H3,I3,w3⟩
  |brk=>exact q3
  |ret v=>exact q3
 |false =>
  rw[if_neg QE]
  exact wpAny_execs_nil ⟨σ1,H2,I2,q2⟩
end
structure It where
 go:Nat->Hp->Prop
 yld:Nat->Hp->V->Hp->Prop
 stop:Nat->Hp->Prop
def Zba(X:Cx)(pins:List (Addr×Obj))(H:Hp)(b:Addr):Prop :=
 H b=none/\b≠X.env.locals/\b∉X.fs/\(b∈X.ex\/X.s₀.heap.objs.size<=b)/\(∀x c,X.env.cells.lookup x=some c->c≠b)/\∀p∈X.pn++pins,p.1≠b
theorem ZA.fpOk{X:Cx}{pins:List (Addr×Obj)}{σ:St}{H H':Hp}{s:Shared}{b:Addr}(I:ZA X pins σ H s)(hb:s.heap.objs.size<=b)(hn:H' b=none):Zba X pins H' b:=by
 refine⟨hn,Nat.ne_of_gt (QJ I.lt hb),I.nofs hb,.inr (Jt I.sz hb),fun x c e z=>?_,fun p hp z=>?_⟩
 ·obtain⟨v,q⟩:=I.cell x c e
  exact absurd (QJ q.lt (by rw[z];exact hb)) (JP _)
 ·exact absurd (QJ (Qr (I.pin p hp).1) (by rw[z];exact hb)) (JP _)
structure Zmw(P:Program)(w:World)(K:PySem.W.Frag)(tg:Expr)(J:It)(fp:List Addr)(it:Addr)(tn:Nat->Heap->Prop):Prop where
 mem:it∈fp
 obj:∀i h,tn i h->∀b∈fp,∃o,h.get? b=some o/\∀v,o.data≠.cell v
 keep:∀i h h',tn i h->(∀b∈fp,∀o,h.get? b=some o->h'.get? b=some o)->tn i h'
 item:∀(X:Cx),X.prog=P->X.w=w->X.K=K->X.calm=true->∀(i:Nat) (pins:List (Addr×Obj)) (s:Shared) (σ:St) (H:Hp) (E:Value->Shared->Prop),ZA X pins σ H s->(∀b∈fp,Zba X pins H b)->tn i s.heap->J.go i H ->
  wpAny (model P w) X.A (pyNext (.ref it)) (fun r s1=>∃u,r=some u /\
   wpAny (model P w) X.A (letOwnedTupleGo tg (.ref it) u) (fun _ s2=>∃x H',ZA X pins σ H' s2/\Z2 x u/\J.yld i H x H'/\tn (i+1) s2.heap/\∀b∈fp,H' b=none) E s1) E s
 done:∀(X:Cx),X.prog=P->X.w=w->X.K=K->X.calm=true->∀(i:Nat) (pins:List (Addr×Obj)) (s:Shared) (σ:St) (H:Hp) (E:Value->Shared->Prop),ZA X pins σ H s->(∀b∈fp,Zba X pins H b)->tn i s.heap->J.stop i H ->
  wpAny (model P w) X.A (pyNext (.ref it)) (fun r s1=>r=none/\ZA X pins σ H s1) E s
 self:∀(A:Around) (i:Nat) (s:Shared) (Q:Value->Shared->Prop) (E:Value->Shared->Prop),tn i s.heap->Q (.ref it) s->wpAny (model P w) A (pyIter (.ref it)) Q E s
abbrev TI:=St->Hp->(It->Hp->Prop)->Prop
def PIE(X:Cx)(pins:List (Addr×Obj))(σ:St)(tg:Expr)(R:It->Hp->Prop)(itv:Value)(s2:Shared):Prop :=
 ∃(it:Addr) (fp:List Addr) (tn:Nat->Heap->Prop) (J:It) (H':Hp),itv=.ref it/\ZA X pins σ H' s2/\Zmw X.prog X.w X.K tg J fp it tn/\tn 0 s2.heap/\(∀b∈fp,Zba X pins H' b)/\R J H'
def PI(X:Cx)(tg iter:Expr)(wi:TI):Prop :=
 ∀(pins:List (Addr×Obj)) (s:Shared) (σ:St) (H:Hp) (R:It->Hp->Prop),ZA X pins σ H s->wi σ H R ->
  wpAny (model X.prog X.w) X.A (eval iter X.env) (fun v s1=>wpAny (model X.prog X.w) X.A (pyIter v) (PIE X pins σ tg R) X.xe s1) X.xe s
theorem Ztc{M:Model}{A:Around}{E:Value->Shared->Prop}{s:Shared}{tg:Expr}{it:Addr}{u:Value}{o:Obj}{n:String}{vs:Array Value}{Q:Unit->Shared->Prop}(ho:s.heap.get? it=some o)(hc:o.cls=.type n)(hd:o.data=.fields vs)
  (hn:["enumerate","zip","dict_itemiterator","dict_reverseitemiterator","odict_iterator","itertools.zip_longest","itertools.pairwise"].contains n=false) (hQ:Q () s):wpAny M A (letOwnedTupleGo tg (.ref it) u) Q E s:=by
 unfold letOwnedTupleGo
 cases tg<;>first
  |exact Qh hQ
  |(cases u<;>first
    |exact Qh hQ
    |(refine Qa (wpAny_load ho ?_)
      rw[hc,hd]
      show wpAny M A (if(["enumerate","zip","dict_itemiterator","dict_reverseitemiterator","odict_iterator","itertools.zip_longest","itertools.pairwise"].contains n&&vs[0]? == some (rawInt _))=true then _ else _) Q E s
      rw[if_neg (by intro h;rw[hn,Bool.false_and]at h;cases h)]
      exact Qh hQ))
def Itl(K:PySem.W.Frag)(a:Addr):It :=
 ⟨fun i H=>∃xs x,XX K H a xs/\xs[i]?=some x,fun i H x H'=>H'=H/\∀xs,XX K H a xs->xs[i]?=some x,fun i H=>∃xs,XX K H a xs/\xs.length<=i⟩
def Itt(K:PySem.W.Frag)(a:Addr):It :=
 ⟨fun i H=>∃xs x,Wx K H a xs/\xs[i]?=some x,fun i H x H'=>H'=H/\∀xs,Wx K H a xs->xs[i]?=some x,fun i H=>∃xs,Wx K H a xs/\xs.length<=i⟩
def Itr(lo:Int)(n:Nat):It:=⟨fun i _=>i<n,fun i H x H'=>H'=H/\x=.int (lo+i),fun i _=>n<=i⟩
theorem Zoh{P:Program}{w:World}{K:PySem.W.Frag}{tg:Expr}(a it:Addr):Zmw P w K tg (Itl K a) [it] it (fun i h=>h.IsListIter it a i) where
 mem:=by simp
 obj:=fun i h st b hb=>by
  have e:b=it:=by simpa using hb
  subst e
  obtain⟨o,e,c,d⟩:=st
  exact⟨o,e,fun v z=>by rw[d]at z;cases z⟩
 keep:=fun i h h' st k=>st.at fun o e=>k it (by simp) o e
 item:=by
  intro X hP hw hK hc i pins s σ H E I hf st hg
  subst hP hw hK
  obtain⟨xs,x,hq,hx⟩:=hg
  obtain⟨its,rv,p,hz⟩:=I.list hq
  obtain⟨u,hu,ru⟩:=rv.get hx
  obtain⟨f0,f1,f2,f3,f4,f5⟩:=hf it (by simp)
  refine wpAny_pyNext_list_item st p.isList (x:=u) (by simpa using hu) fun h' st' sb=>?_
  have I1:ZA X pins σ H { s with heap:=h' }:=I.turned (t':=s.toks) (fun b o hb e=>(sb.2 b hb).trans e) f0 f1 f3 f4 f5
  obtain⟨o,e,c,d⟩:=id st'
  exact⟨u,rfl,Ztc (s:={ s with heap:=h' }) e c d (by decide) ⟨x,H,I1,ru,⟨rfl,fun ys hy=>by rw[I.list_inj hy hq];exact hx⟩,st',fun b hb=>(hf b hb).1⟩⟩
 done:=by
  intro X hP hw hK hc i pins s σ H E I hf st hg
  subst hP hw hK
  obtain⟨xs,hq,hx⟩:=hg
  obtain⟨its,rv,p,hz⟩:=I.list hq
  obtain⟨f0,f1,f2,f3,f4,f5⟩:=hf it (by simp)
  have hl:=rv.length
  exact wpAny_pyNext_list_end (I.ok.hd hc) st p.isList (by simp;omega) fun h' eb=>⟨rfl,I.turned (t':=s.toks) (fun b o hb e=>eb b o hb e) f0 f1 f3 f4 f5⟩
 self:=fun _ _ _ _ _ st h=>wpAny_pyIter_listiter st h
theorem Zlh{P:Program}{w:World}{K:PySem.W.Frag}{tg:Expr}(a it:Addr):Zmw P w K tg (Itt K a) [it] it (fun i h=>h.IsTupleIter it a i) where
 mem:=by simp
 obj:=fun i h st b hb=>by
  have e:b=it:=by simpa using hb
  subst e
  obtain⟨o,e,c,d⟩:=st
  exact⟨o,e,fun v z=>by rw[d]at z;cases z⟩
 keep:=fun i h h' st k=>st.at fun o e=>k it (by simp) o e
 item:=by
  intro X hP hw hK hc i pins s σ H E I hf st hg
  subst hP hw hK
  obtain⟨xs,x,hq,hx⟩:=hg
  obtain⟨its,rv,p,hz⟩:=I.tuple hq
  obtain⟨u,hu,ru⟩:=rv.get hx
  obtain⟨f0,f1,f2,f3,f4,f5⟩:=hf it (by simp)
  refine wpAny_pyNext_tuple_item st (show s.heap.IsTuple a its.toArray from p) (x:=u) (by simpa using hu) fun h' st' sb=>?_
  have I1:ZA X pins σ H { s with heap:=h' }:=I.turned (t':=s.toks) (fun b o hb e=>(sb.2 b hb).trans e) f0 f1 f3 f4 f5
  obtain⟨o,e,c,d⟩:=id st'
  exact⟨u,rfl,Ztc (s:={ s with heap:=h' }) e c d (by decide) ⟨x,H,I1,ru,⟨rfl,fun ys hy=>by rw[I.tuple_inj hy hq];exact hx⟩,st',fun b hb=>(hf b hb).1⟩⟩
 done:=by
  intro X hP hw hK hc i pins s σ H E I hf st hg
  subst hP hw hK
  obtain⟨xs,hq,hx⟩:=hg
  obtain⟨its,rv,p,hz⟩:=I.tuple hq
  obtain⟨f0,f1,f2,f3,f4,f5⟩:=hf it (by simp)
  have hl:=rv.length
  exact wpAny_pyNext_tuple_end (I.ok.hd hc) st (show s.heap.IsTuple a its.toArray from p) (by simp;omega) fun h' eb=>⟨rfl,I.turned (t':=s.toks) (fun b o hb e=>eb b o hb e) f0 f1 f3 f4 f5⟩
 self:=fun _ _ _ _ _ st h=>wpAny_pyIter_tupleiter st h
theorem Zli{P:Program}{w:World}{K:PySem.W.Frag}{tg:Expr}(it:Addr)(lo:Int)(n:Nat):Zmw P w K tg (Itr lo n) [it] it (fun i h=>IsRangeIter h it (lo+(i:Nat)*1) ((n:Int)-(i:Nat)) 1) where
 mem:=by simp
 obj:=fun i h st b hb=>by
  have e:b=it:=by simpa using hb
  subst e
  exact⟨_,st,fun v z=>by
   have z':Data.fields _=Data.cell v:=z
   cases z'⟩
 keep:=fun i h h' st k=>k it (by simp) _ st
 item:=by
  intro X hP hw hK hc i pins s σ H E I hf st hg
  subst hP hw hK
  obtain⟨f0,f1,f2,f3,f4,f5⟩:=hf it (by simp)
  have W:=Walks.range (prog:=X.prog) (w:=X.w) (I.ok.hd hc) it lo 1 n
  refine W.item i s _ _ hg st fun v h' tk hv st' kk=>?_
  obtain⟨t,rfl⟩:=hv
  have I1:ZA X pins σ H { s with heap:=h',toks:=tk }:=I.turned (fun b o hb e=>kk b o (by simpa using hb) e) f0 f1 f3 f4 f5
  refine⟨_,rfl,Ztc (s:={ s with heap:=h',toks:=tk }) (n:="range_iterator") st' rfl rfl (by decide) ⟨.int (lo+i),H,I1,⟨t,?_⟩,⟨rfl,rfl⟩,st',fun b hb=>(hf b hb).1⟩⟩
  rw[Int.mul_one]
 done:=by
  intro X hP hw hK hc i pins s σ H E I hf st hg
  subst hP hw hK
  obtain⟨f0,f1,f2,f3,f4,f5⟩:=hf it (by simp)
  exact wpAny_pyNext_range_end (I.ok.hd hc) st (by have:n<=i:=hg;omega) fun h' eb=>⟨rfl,I.turned (t':=s.toks) (fun b o hb e=>eb b o hb e) f0 f1 f3 f4 f5⟩
 self:=fun _ _ _ _ _ st h=>wpAny_pyIter_rangeiter st h
section
variable{X:Cx}{tg:Expr}
def iList(K:PySem.W.Frag)(tl:TE):TI:=fun σ H R=>tl σ H fun x H1=>∃a,x=.ref a/\(∃xs,XX K H1 a xs)/\R (Itl K a) H1
def iTup(K:PySem.W.Frag)(tl:TE):TI:=fun σ H R=>tl σ H fun x H1=>∃a,x=.ref a/\(∃xs,Wx K H1 a xs)/\R (Itt K a) H1
theorem Zvr{l:Expr}{tl:TE}(hl:PE X l tl):PI X tg l (iList X.K tl):=by
 intro pins s σ H R I h
 refine Xd (hl pins s σ H _ I h) fun v s1 ⟨x,H1,I1,r1,q1⟩=>?_
 obtain⟨a,e,⟨xs,hq⟩,q⟩:=q1
 subst e
 cases r1
 obtain⟨its,rv,p,hz⟩:=I1.list hq
 refine wpAny_pyIter_list p.isList ?_
 refine⟨s1.heap.objs.size,[s1.heap.objs.size],_,_,H1,rfl,I1.kept (t':=s1.toks) fun b o e=>Qf _ e,Zoh a _,⟨_,Qv _ rfl,rfl,rfl⟩,fun b hb=>?_,q⟩
 have e:b=s1.heap.objs.size:=by simpa using hb
 subst e
 exact I1.fpOk (Qj _) (I1.hok.fresh (Qj _))
theorem Zzk{l:Expr}{tl:TE}(hl:PE X l tl):PI X tg l (iTup X.K tl):=by
 intro pins s σ H R I h
 refine Xd (hl pins s σ H _ I h) fun v s1 ⟨x,H1,I1,r1,q1⟩=>?_
 obtain⟨a,e,⟨xs,hq⟩,q⟩:=q1
 subst e
 cases r1
 obtain⟨its,rv,p,hz⟩:=I1.tuple hq
 refine wpAny_pyIter_tuple (show s1.heap.IsTuple a its.toArray from p) ?_
 refine⟨s1.heap.objs.size,[s1.heap.objs.size],_,_,H1,rfl,I1.kept (t':=s1.toks) fun b o e=>Qf _ e,Zlh a _,⟨_,Qv _ rfl,rfl,rfl⟩,fun b hb=>?_,q⟩
 have e:b=s1.heap.objs.size:=by simpa using hb
 subst e
 exact I1.fpOk (Qj _) (I1.hok.fresh (Qj _))
theorem Zjp{pins:List (Addr×Obj)}{σ:St}{H:Hp}{s:Shared}{R:It->Hp->Prop}{E:Value->Shared->Prop}{lo hi:Int}{t u v:Tok}{tk:Nat}(I:ZA X pins σ H s)(h1:-(2^62)<=lo)(h2:lo<2^62)(h3:-(2^62)<=hi)(h4:hi<2^62)
  (q:R (Itr lo (hi-lo).toNat) H):wpAny (model X.prog X.w) X.A (pyIter (.ref s.heap.objs.size)) (PIE X pins σ tg R) E { s with heap:=s.heap.push { cls:=.type "range",data:=.fields #[.int lo t,.int hi u,.int 1 v] },toks:=tk }:=by
 refine wpAny_pyIter_range (IsRange.new ..) (small_one h1 h2 h3 h4) ?_
 have I1:ZA X pins σ H { s with heap:=s.heap.push { cls:=.type "range",data:=.fields #[.int lo t,.int hi u,.int 1 v] },toks:=tk }:=I.kept fun b o e=>Qf _ e
 refine⟨(s.heap.push { cls:=.type "range",data:=.fields #[.int lo t,.int hi u,.int 1 v] }).objs.size,[(s.heap.push { cls:=.type "range",data:=.fields #[.int lo t,.int hi u,.int 1 v] }).objs.size],_,_,H,rfl,
  I1.kept (t':=tk) fun b o e=>Qf _ e,Zli _ lo (hi-lo).toNat,?_,fun b hb=>?_,q⟩
 ·have e1:lo+((0:Nat):Int)*1=lo:=by simp
  have e2:(((hi-lo).toNat:Nat):Int)-((0:Nat):Int)=Builtin.Range.rangeSize lo hi 1:=by rw[rangeSize_one];split<;>omega
  show IsRangeIter _ _ (lo+((0:Nat):Int)*1) ((((hi-lo).toNat:Nat):Int)-((0:Nat):Int)) 1
  rw[e1,e2]
  exact Qv _ rfl
 ·have e:b=(s.heap.push { cls:=.type "range",data:=.fields #[.int lo t,.int hi u,.int 1 v] }).objs.size:=by simpa using hb
  subst e
  exact I1.fpOk (Qj _) (I1.hok.fresh (Qj _))
def iRng1(ta:TA):TI:=fun σ H R=>ta σ H fun vs H1=>∃j:Int,vs=[.int j]/\-(2^62)<=j/\j<2^62/\R (Itr 0 j.toNat) H1
def iRng2(ta:TA):TI:=fun σ H R=>ta σ H fun vs H1=>∃i j:Int,vs=[.int i,.int j]/\(-(2^62)<=i/\i<2^62/\-(2^62)<=j/\j<2^62)/\R (Itr i (j-i).toNat) H1
theorem Zo2{a:Expr}{ta:TA}{p pos:Pos}(hg:Gl X "range")(hm:X.mg "range"=none)(ha:PA X [a] ta)(hs:starEach [a] X.env=[(false,eval a X.env)]:=by rfl):PI X tg (.Call (.Name "range" p) [a] [] pos) (iRng1 ta):=by
 intro pins s σ H R I h
 refine Call_ (U1 I hg hm boot_range (Jy (Xd (ha pos pins s σ H _ I h) fun us s1 ⟨vs,H1,I1,r1,q1⟩=>?_) hs rfl))
 obtain⟨j,e,q1,q2,q⟩:=q1
 subst e
 cases r1 with
 |cons r rr =>
  cases rr
  obtain⟨t,rfl⟩:=r
  exact call_range_1 (Zjp I1 (by omega) (by omega) q1 q2 (by simpa using q))
theorem Zo1{a b:Expr}{ta:TA}{p pos:Pos}(hg:Gl X "range")(hm:X.mg "range"=none)(ha:PA X [a,b] ta)(hs:starEach [a,b] X.env=[(false,eval a X.env),(false,eval b X.env)]:=by rfl)(hs2:starEach [b] X.env=[(false,eval b X.env)]:=by rfl) :
  PI X tg (.Call (.Name "range" p) [a,b] [] pos) (iRng2 ta):=by
 intro pins s σ H R I h
 refine Call_ (U1 I hg hm boot_range (Jy (Xd (ha pos pins s σ H _ I h) fun us s1 ⟨vs,H1,I1,r1,q1⟩=>?_) (by rw[hs,hs2]) (by rw[hs2];rfl)))
 obtain⟨i,j,e,⟨q1,q2,q3,q4⟩,q⟩:=q1
 subst e
 cases r1 with
 |cons r rr =>
  cases rr with
  |cons r' rr =>
   cases rr
   obtain⟨t,rfl⟩:=r
   obtain⟨t',rfl⟩:=r'
   exact call_range_2 (Zjp I1 q1 q2 q3 q4 q)
def Zyv(wi:TI)(g:TG)(tb:TS):TS:=fun D σ H=>wi σ H fun J H1=>∃W:Nat->Nat->St->Hp->Prop,(∃m,W 0 m σ H1)/\∀i m σ H,W i m σ H ->
 (J.stop i H/\D.nx σ H)\/(J.go i H/\∃N:St->Hp->Prop,(∀σ' H',N σ' H'->∃m',m'<m/\W (i+1) m' σ' H')/\∀x H',J.yld i H x H'->g x σ H' fun σ2 H2=>tb { D with nx:=N,ct:=N,bk:=D.nx } σ2 H2)
def Zdw(fp:List Addr)(h:Heap):List (Addr×Obj):=fp.filterMap fun b=>(h.get? b).map fun o=>(b,o)
theorem VL{fp:List Addr}{h:Heap}{b:Addr}{o:Obj}(hb:b∈fp)(e:h.get? b=some o):(b,o)∈Zdw fp h:=List.mem_filterMap.mpr ⟨b,hb,by rw[e];rfl⟩
theorem Zo4{fp:List Addr}{h:Heap}{p:Addr×Obj}(hp:p∈Zdw fp h):p.1∈fp/\h.get? p.1=some p.2:=by
 obtain⟨b,hb,e⟩:=List.mem_filterMap.mp hp
 cases q:h.get? b with
 |none=>rw[q]at e;cases e
 |some o =>
  rw[q]at e
  have e':(b,o)=p:=Q9 e
  subst e'
  exact⟨hb,q⟩
theorem ZA.pinned{pins:List (Addr×Obj)}{σ:St}{H:Hp}{s:Shared}{fp:List Addr}(I:ZA X pins σ H s)(hf:∀b∈fp,Zba X pins H b)(ho:∀b∈fp,∃o,s.heap.get? b=some o/\∀v,o.data≠.cell v):ZA X (pins++Zdw fp s.heap) σ H s :=
 I.pins_of fun p hp=>(Qu.mp hp).elim (fun z=>I.pin p (Qg _ z)) fun z=>by
  obtain⟨hb,e⟩:=Zo4 z
  obtain⟨f0,f1,f2,_⟩:=hf p.1 hb
  obtain⟨o,e',d⟩:=ho p.1 hb
  rw[e]at e';cases e'
  exact⟨e,f0,f1,f2,d⟩
theorem ZA.unpinned{pins pl:List (Addr×Obj)}{σ:St}{H:Hp}{s:Shared}(I:ZA X (pins++pl) σ H s):ZA X pins σ H s:=I.pins_of fun p hp=>I.pin p (Qg _ (Qw _ hp))
theorem Zlw{iter:Expr}{body:List Stmt}{wi:TI}{g:TG}{tb:TS}{pos:Pos}(hp:PassesOwn (model X.prog X.w) X.A X.env X.xe)(hc:X.calm=true)(hi:PI X tg iter wi)(hg:PG X tg g)(hb:Zc7 X body tb)
  (hs:∀x,foldedSetIterable iter X.env x=pure x:=by intro _;rfl):PS X (.For tg iter body [] pos) (Zyv wi g tb):=by
 intro pins s σ H D I h
 refine wpAny_For (Xd (hi pins s σ H _ I h) fun v s1 h1=>Xd h1 fun itv s2 h2=>?_) hs
 obtain⟨it,fp,tn,J,H2,e,I2,T,st2,f2,W,⟨m0,w0⟩,turn⟩:=h2
 subst e
 have stat:∀{H':Hp},(∀b∈fp,H' b=none)->∀b∈fp,Zba X pins H' b:=fun hn b hb=>⟨hn b hb,(f2 b hb).2⟩
 refine codeAny_forLoop_any (fun n s'=>∃i σ' H',ZA X pins σ' H' s'/\tn i s'.heap/\(∀b∈fp,H' b=none)/\W i n σ' H') ?_ m0 ⟨0,σ,H2,I2,st2,fun b hb=>(f2 b hb).1,w0⟩
 rintro n s3 ⟨i,σ3,H3,I3,st3,fr3,w3⟩
 rcases turn i n σ3 H3 w3 with⟨stop,qn⟩|⟨go,N,hN,step⟩
 ·refine J1 hp (Xd (T.done X rfl rfl rfl hc i pins s3 σ3 H3 X.xe I3 (stat fr3) st3 stop) fun r s4 ⟨hr,I4⟩=>?_)
  subst hr
  exact wpAny_execs_nil ⟨σ3,H3,I4,qn⟩
 ·refine J1 hp (Xd (T.item X rfl rfl rfl hc i pins s3 σ3 H3 X.xe I3 (stat fr3) st3 go) fun r s4 ⟨u,hr,h4⟩=>?_)
  subst hr
  refine J1 hp (Xd h4 fun _ s5 ⟨x,H5,I5,r5,y5,st5,fr5⟩=>?_)
  have I5':=I5.pinned (stat fr5) (T.obj _ _ st5)
  refine J1 hp (Xd (hg _ s5 σ3 H5 x u _ I5' r5 (step x H5 y5)) fun _ s6 ⟨σ6,H6,I6,q6⟩=>?_)
  refine J1 hp (Xd (hb _ s6 σ6 H6 _ I6 q6) fun f s7 q7=>?_)
  have again:∀{σ7:St} {H7:Hp},ZA X (pins++Zdw fp s5.heap) σ7 H7 s7->N σ7 H7->∃m,m<n/\∃i σ' H',ZA X pins σ' H' s7/\tn i s7.heap/\(∀b∈fp,H' b=none)/\W i m σ' H':=fun{σ7 H7} I7 n7=>by
   obtain⟨m',hm,w7⟩:=hN σ7 H7 n7
   refine⟨m',hm,i+1,σ7,H7,I7.unpinned,T.keep _ _ _ st5 fun b hb o e=>(I7.pin (b,o) (Qg _ (Qg _ (VL hb e)))).1,fun b hb=>?_,w7⟩
   obtain⟨o,e,d⟩:=T.obj _ _ st5 b hb
   exact(I7.pin (b,o) (Qg _ (Qg _ (VL hb e)))).2.1
  cases f with
  |next=>obtain⟨σ7,H7,I7,n7⟩:=q7;exact again I7 n7
  |cont=>obtain⟨σ7,H7,I7,n7⟩:=q7;exact again I7 n7
  |brk=>obtain⟨σ7,H7,I7,q7⟩:=q7;exact⟨σ7,H7,I7.unpinned,q7⟩
  |ret v=>obtain⟨x7,σ7,H7,I7,r7,q7⟩:=q7;exact⟨x7,σ7,H7,I7.unpinned,r7,q7⟩
end
abbrev R2:=V->V->Hp->VK->Prop
def V0(X:Cx)(f:Value->Value->Sem Value)(r:R2):Prop :=
 ∀(pins:List (Addr×Obj)) (s:Shared) (σ:St) (H:Hp) (x y:V) (v u:Value) (Q:VK),ZA X pins σ H s->Z2 x v->Z2 y u->r x y H Q ->
  wpAny (model X.prog X.w) X.A (f v u) (EP X pins σ Q) X.xe s
def X7(X:Cx)(f:Value)(r:List V->Hp->VK->Prop):Prop :=
 ∀(pins:List (Addr×Obj)) (s:Shared) (σ:St) (H:Hp) (xs:List V) (us:List Value) (Q:VK),ZA X pins σ H s->ZM xs us->r xs H Q ->
  wpAny (model X.prog X.w) X.A (call f us) (EP X pins σ Q) X.xe s
def TruR(X:Cx)(r:V->Hp->(Bool->Hp->Prop)->Prop):Prop :=
 ∀(pins:List (Addr×Obj)) (s:Shared) (σ:St) (H:Hp) (x:V) (v:Value) (Q:Bool->Hp->Prop),ZA X pins σ H s->Z2 x v->r x H Q ->
  wpAny (model X.prog X.w) X.A (truthy v) (TP X pins σ Q) X.xe s
def tOp(r:R2)(ta tb:TE):TE:=fun σ H Q=>ta σ H fun x H1=>tb σ H1 fun y H2=>r x y H2 Q
def rI(C:Int->Int->Prop)(g:Int->Int->V):R2:=fun x y H Q=>∃i j,x=.int i/\y=.int j/\C i j/\Q (g i j) H
def Zxg(g:Int->Int->V):R2:=fun x y H Q=>∃i j,x=.int i/\y=.int j/\Q (g i j) H
section
variable{X:Cx}{a b c:Expr}{ta tb tc:TE}{pos:Pos}
theorem Z08(ha:PE X a ta)(hb:PE X b tb){pins:List (Addr×Obj)}{s:Shared}{σ:St}{H:Hp}{R:V->V->Hp->Prop}(I:ZA X pins σ H s)
  (h:ta σ H fun x H1=>tb σ H1 fun y H2=>R x y H2) {Q:Value->Shared->Prop} {f:Value->Value->Sem Value}
  (hf:∀v u s2 x y H2,ZA X pins σ H2 s2->Z2 x v->Z2 y u->R x y H2->wpAny (model X.prog X.w) X.A (f v u) Q X.xe s2) :
  wpAny (model X.prog X.w) X.A (eval a X.env) (fun v s₁=>wpAny (model X.prog X.w) X.A (eval b X.env) (fun u s₂=>wpAny (model X.prog X.w) X.A (f v u) Q X.xe s₂) X.xe s₁) X.xe s:=by
 refine Xd (ha pins s σ H _ I h) fun v s1 ⟨x,H1,I1,r1,q1⟩=>?_
 refine Xd (hb pins s1 σ H1 _ I1 q1) fun u s2 ⟨y,H2,I2,r2,q2⟩=>?_
 exact hf v u s2 x y H2 I2 r1 r2 q2
theorem Zxi{op:Operator}{r:R2}(ho:V0 X (binaryOp op) r)(ha:PE X a ta)(hb:PE X b tb):PE X (.BinOp a op b pos) (tOp r ta tb):=by
 intro pins s σ H Q I h
 exact wpAny_BinOp (Z08 ha hb I h fun v u s2 x y H2 I2 rx ry q=>ho pins s2 σ H2 x y v u Q I2 rx ry q)
theorem opI{f:Value->Value->Sem Value}{C:Int->Int->Prop}{g:Int->Int->Int}
  (rule:∀(i j:Int) (t u:Tok) (s:Shared) (Q:Value->Shared->Prop) (E:Value->Shared->Prop),C i j->Q (.int (g i j) s.toks) { s with toks:=s.toks+1 }->wpAny (model X.prog X.w) X.A (f (.int i t) (.int j u)) Q E s) :
  V0 X f (rI C fun i j=>.int (g i j)):=by
 intro pins s σ H x y v u Q I rx ry h
 obtain⟨i,j,rfl,rfl,hc,q⟩:=h
 obtain⟨t,rfl⟩:=rx
 obtain⟨t',rfl⟩:=ry
 exact rule i j t t' s _ _ hc ⟨.int (g i j),H,I.tok _,⟨_,rfl⟩,q⟩
theorem opI0{f:Value->Value->Sem Value}{g:Int->Int->Int}
  (rule:∀(i j:Int) (t u:Tok) (s:Shared) (Q:Value->Shared->Prop) (E:Value->Shared->Prop),Q (.int (g i j) s.toks) { s with toks:=s.toks+1 }->wpAny (model X.prog X.w) X.A (f (.int i t) (.int j u)) Q E s) :
  V0 X f (Zxg fun i j=>.int (g i j)):=by
 intro pins s σ H x y v u Q I rx ry h
 obtain⟨i,j,rfl,rfl,q⟩:=h
 obtain⟨t,rfl⟩:=rx
 obtain⟨t',rfl⟩:=ry
 exact rule i j t t' s _ _ ⟨.int (g i j),H,I.tok _,⟨_,rfl⟩,q⟩
theorem Zz3{f:Value->Value->Sem Value}{g:Int->Int->Bool}
  (rule:∀(i j:Int) (t u:Tok) (s:Shared) (Q:Value->Shared->Prop) (E:Value->Shared->Prop),Q (.bool (g i j)) s->wpAny (model X.prog X.w) X.A (f (.int i t) (.int j u)) Q E s) :
  V0 X f (Zxg fun i j=>.bl (g i j)):=by
 intro pins s σ H x y v u Q I rx ry h
 obtain⟨i,j,rfl,rfl,q⟩:=h
 obtain⟨t,rfl⟩:=rx
 obtain⟨t',rfl⟩:=ry
 exact rule i j t t' s _ _ ⟨.bl (g i j),H,I,rfl,q⟩
def CDiv(i j:Int):Prop:=0<j/\j<1073741824
def Z1s(i j:Int):Prop:=(-(2^64)<i/\i<2^64)\/(-(2^64)<j/\j<2^64)
theorem Z1s.ok{i j:Int}(h:Z1s i j):IntMulOk i j:=by
 rcases h with⟨h1,h2⟩|⟨h1,h2⟩
 ·exact .of_left (intBits_le_64 h1 h2)
 ·exact .of_right (intBits_le_64 h1 h2)
theorem Zz2:V0 X (binaryOp .Add) (Zxg fun i j=>.int (i+j)):=opI0 fun _ _ _ _ _ _ _ q=>add_int q
theorem Zzw:V0 X (binaryOp .Sub) (Zxg fun i j=>.int (i-j)):=opI0 fun _ _ _ _ _ _ _ q=>sub_int q
theorem Zzx:V0 X (binaryOp .Mult) (rI Z1s fun i j=>.int (i*j)):=opI fun _ _ _ _ _ _ _ hc q=>mul_int q hc.ok
theorem Zv1:V0 X (binaryOp .FloorDiv) (rI CDiv fun i j=>.int (i/j)):=opI fun i j _ _ _ _ _ hc q=>by
 have h1:(0:Int)<j:=hc.1
 have h2:j<1073741824:=hc.2
 exact floordiv_int (by omega) (by rw[Int.fdiv_eq_ediv_of_nonneg i (by omega)];exact q) (.inl (PyProof.noPylong_small (by omega)))
theorem Zzy:V0 X (binaryOp .Mod) (rI (fun _ j=>0<j) fun i j=>.int (i%j)):=opI fun i j _ _ _ _ _ hc q=>by
 have h1:(0:Int)<j:=hc
 exact mod_int' (by omega) (by rw[Int.fmod_eq_emod_of_nonneg i (by omega)];exact q)
end
section
variable{X:Cx}{a b c:Expr}{ta tb tc:TE}{pos:Pos}
theorem op_lt:V0 X (compareOp .Lt) (Zxg fun i j=>.bl (decide (i<j))):=Zz3 fun _ _ _ _ _ _ _ q=>lt_int q
theorem op_le:V0 X (compareOp .LtE) (Zxg fun i j=>.bl (decide (i<=j))):=Zz3 fun _ _ _ _ _ _ _ q=>le_int q
theorem op_gt:V0 X (compareOp .Gt) (Zxg fun i j=>.bl (decide (j<i))):=Zz3 fun _ _ _ _ _ _ _ q=>gt_int q
theorem V0.or{f:Value->Value->Sem Value}{r r':R2}(h:V0 X f r)(h':V0 X f r'):V0 X f (fun x y H Q=>r x y H Q\/r' x y H Q):=by
 intro pins s σ H x y v u Q I rx ry q
 rcases q with q|q
 ·exact h pins s σ H x y v u Q I rx ry q
 ·exact h' pins s σ H x y v u Q I rx ry q
theorem Zsa(b:Expr){op:CmpOp}(h:op≠.In:=by decide)(h2:op≠.NotIn:=by decide):behindInMarks op b=false:=by
 have e1:(op == CmpOp.In)=false:=by cases op<;>first|rfl|exact absurd rfl h
 have e2:(op == CmpOp.NotIn)=false:=by cases op<;>first|rfl|exact absurd rfl h2
 cases b<;>simp[behindInMarks,e1,e2]
theorem Zvx{op:CmpOp}{r:R2}(ho:V0 X (compareOp op) r)(ha:PE X a ta)(hb:PE X b tb)(hm:behindInMarks op b=false):PE X (.Compare a [op] [b] pos) (tOp r ta tb):=by
 intro pins s σ H Q I h
 exact wpAny_Compare1 (Z08 ha hb I h fun v u s2 x y H2 I2 rx ry q=>ho pins s2 σ H2 x y v u Q I2 rx ry q) hm
def tTest(t:TE):TT:=fun σ H Q=>t σ H fun x H'=>∃k,x=.bl k/\Q k H'
theorem Zvj{op:CmpOp}{r:R2}(ho:V0 X (compareOp op) r)(ha:PE X a ta)(hb:PE X b tb)(hm:behindInMarks op b=false):PT X (.Compare a [op] [b] pos) (tTest (tOp r ta tb)):=by
 intro pins s σ H Q I h
 refine wpAny_isTrue_Compare1 (Xd (ha pins s σ H _ I h) fun v s1 ⟨x,H1,I1,r1,q1⟩=>Xd (hb pins s1 σ H1 _ I1 q1) fun u s2 ⟨y,H2,I2,r2,q2⟩ =>
  Xd (ho pins s2 σ H2 x y v u _ I2 r1 r2 q2) fun c s3 ⟨z,H3,I3,r3,k,e,q3⟩=>?_) hm
 subst e
 cases r3
 exact JQ ⟨H3,I3,q3⟩
def Zyy(r r':R2)(ta tb tc:TE):TE:=fun σ H Q=>ta σ H fun x H1=>tb σ H1 fun y H2=>r x y H2 fun z H3=>∃k,z=.bl k /\
 (if k=true then tc σ H3 fun w' H4=>r' y w' H4 Q else Q (.bl false) H3)
theorem Zr2{op op':CmpOp}{r r':R2}(ho:V0 X (compareOp op) r)(ho':V0 X (compareOp op') r')(ha:PE X a ta)(hb:PE X b tb)(hc:PE X c tc)
  (hm:lastMarks [op,op'] [b,c]=false:=by with_unfolding_all rfl):PE X (.Compare a [op,op'] [b,c] pos) (Zyy r r' ta tb tc):=by
 intro pins s σ H Q I h
 refine Compare_chain (Xd (ha pins s σ H _ I h) fun v s1 ⟨x,H1,I1,r1,q1⟩=>chain_link (Xd (hb pins s1 σ H1 _ I1 q1) fun u s2 ⟨y,H2,I2,r2,q2⟩ =>
  Xd (ho pins s2 σ H2 x y v u _ I2 r1 r2 q2) fun d s3 ⟨z,H3,I3,r3,k,e,q3⟩=>?_)) hm
 subst e
 cases r3
 refine JQ ?_
 cases k with
 |false=>exact ite_ff ⟨.bl false,H3,I3,rfl,q3⟩
 |true=>exact ite_tt (chain_last (Xd (hc pins s3 σ H3 _ I3 q3) fun w' s4 ⟨z',H4,I4,r4,q4⟩=>ho' pins s4 σ H4 y z' u w' Q I4 r2 r4 q4))
def Z1j(K:PySem.W.Frag)(x:V)(H:Hp)(k:Bool):Prop :=
 match x with
 |.non=>k=false
 |.bl b=>k=b
 |.int i=>k=(i != 0)
 |.str y=>y.length<=sizeLine/\k=((y.length:Int) != 0)
 |.byt y=>y.size<=sizeLine/\k=((y.size:Int) != 0)
 |.ref p=>(∃xs,XX K H p xs/\k=!xs.isEmpty)\/(∃xs,Wx K H p xs/\k=!xs.isEmpty)\/∃kvs,H p=some (.dK kvs)/\k=!kvs.isEmpty
 |_=>False
theorem Zmc{κ:Type}{kvs:List (κ×V)}{vs:List (κ×Value)}(r:KV kvs vs):(!vs.isEmpty)=!kvs.isEmpty:=by
 cases r<;>rfl
theorem Zeh{xs:List V}{its:List Value}(r:ZM xs its):(!its.toArray.isEmpty)=!xs.isEmpty:=by
 cases r<;>simp
theorem Zd8:(sizeLine:Nat)<2^63:=by rw[Q3];decide
theorem Zyl:TruR X (fun x H Q=>∃k,Z1j X.K x H k/\Q k H):=by
 intro pins s σ H x v Q I rx h
 obtain⟨k,e,q⟩:=h
 have hl:=Zd8
 have hs:sizeLine=16777216:=Q3
 cases x with
 |non =>
  cases rx
  have e':k=false:=e
  subst e'
  exact truthy_none ⟨H,I,q⟩
 |bl b =>
  cases rx
  have e':k=b:=e
  subst e'
  exact JQ ⟨H,I,q⟩
 |int i =>
  obtain⟨t,rfl⟩:=rx
  have e':k=(i != 0):=e
  subst e'
  exact PySem.P.truthy_int ⟨H,I,q⟩
 |str y =>
  obtain⟨t,rfl⟩:=rx
  obtain⟨hy,e'⟩:y.length<=sizeLine/\k=((y.length:Int) != 0):=e
  subst e'
  exact PySem.P.truthy_str (by omega) ⟨H,I.tok _,q⟩
 |byt y =>
  obtain⟨t,rfl⟩:=rx
  obtain⟨hy,e'⟩:y.size<=sizeLine/\k=((y.size:Int) != 0):=e
  subst e'
  exact PySem.W.truthy_bytes (by omega) ⟨H,I.tok _,q⟩
 |ref p =>
  cases rx
  have e':(∃xs,XX X.K H p xs/\k=!xs.isEmpty)\/(∃xs,Wx X.K H p xs/\k=!xs.isEmpty)\/∃kvs,H p=some (.dK kvs)/\k=!kvs.isEmpty:=e
  rcases e' with⟨xs,hx,e'⟩|⟨xs,hx,e'⟩|⟨kvs,hx,e'⟩
  ·subst e'
   obtain⟨its,r,pl,hz⟩:=I.list hx
   have hlen:=r.length
   exact wpAny_truthy_list pl.isList (by simp only[Ql];omega) ⟨H,I.tok _,by rw[Zeh r];exact q⟩
  ·subst e'
   obtain⟨its,r,pl,hz⟩:=I.tuple hx
   have hlen:=r.length
   exact truthy_tuple pl (by simp only[Ql];omega) ⟨H,I.tok _,by rw[Zeh r];exact q⟩
  ·subst e'
   obtain⟨hz,hS,vs,r,m⟩:kvs.length<=sizeLine/\(p == sysModules)=false/\∃vs,KV kvs vs/\s.heap.DictOf (YV X.prog X.w) p vs:=I.hok p _ hx
   have hlen:kvs.length=vs.length:=Paired.length r
   exact wpAny_truthy_dict hS m (by omega) ⟨H,I.tok _,by rw[Zmc r];exact q⟩
 |_=>exact(show False from e).elim
theorem Zro(ha:PE X a ta)(he:∀Zae,isTrue a X.env Zae=(do let v <- Zae;standAt a.pos;holding [v] (truthy v))) :
  PT X a (fun σ H Q=>ta σ H fun x H'=>∃k,Z1j X.K x H' k/\Q k H'):=by
 intro pins s σ H Q I h
 exact isTrue_plain (Xd (ha pins s σ H _ I h) fun v s1 ⟨x,H1,I1,r1,q1⟩=>Zyl pins s1 σ H1 x v Q I1 r1 q1) (he _)
theorem WB{x:V}{us:List Value}(r:ZM [x] us):∃u,us=[u]/\Z2 x u:=by
 cases r with
 |cons r1 r2=>cases r2;exact⟨_,rfl,r1⟩
theorem Zxa{x y:V}{us:List Value}(r:ZM [x,y] us):∃u w',us=[u,w']/\Z2 x u/\Z2 y w':=by
 cases r with
 |cons r1 r2 =>
  cases r2 with
  |cons r3 r4=>cases r4;exact⟨_,_,rfl,r1,r3⟩
theorem Zp5(hc:X.calm=true):X7 X (.builtin "max") (fun xs H Q=>∃i j,xs=[.int i,.int j]/\Q (.int (if j>i then j else i)) H):=by
 intro pins s σ H xs us Q I r h
 obtain⟨i,j,rfl,q⟩:=h
 obtain⟨u,w',rfl,⟨t,rfl⟩,⟨t',rfl⟩⟩:=Zxa r
 refine max_two_ints (I.ok.hd hc) fun h' tk k=>⟨_,H,I.kept k,?_,q⟩
 by_cases hj:j>i
 ·rw[if_pos hj,if_pos hj];exact⟨_,rfl⟩
 ·rw[if_neg hj,if_neg hj];exact⟨_,rfl⟩
theorem Zp4(hc:X.calm=true):X7 X (.builtin "min") (fun xs H Q=>∃i j,xs=[.int i,.int j]/\Q (.int (if j<i then j else i)) H):=by
 intro pins s σ H xs us Q I r h
 obtain⟨i,j,rfl,q⟩:=h
 obtain⟨u,w',rfl,⟨t,rfl⟩,⟨t',rfl⟩⟩:=Zxa r
 refine min_two_ints (I.ok.hd hc) fun h' tk k=>⟨_,H,I.kept k,?_,q⟩
 by_cases hj:j<i
 ·rw[if_pos hj,if_pos hj];exact⟨_,rfl⟩
 ·rw[if_neg hj,if_neg hj];exact⟨_,rfl⟩
theorem Zp8:X7 X (.type "int") (fun xs H Q=>(∃i,xs=[.int i]/\Q (.int i) H)\/∃k,xs=[.bl k]/\Q (.int (if k then 1 else 0)) H):=by
 intro pins s σ H xs us Q I r h
 rcases h with⟨i,rfl,q⟩|⟨k,rfl,q⟩
 ·obtain⟨u,rfl,t,rfl⟩:=WB r
  exact call_int_int ⟨.int i,H,I,⟨_,rfl⟩,q⟩
 ·obtain⟨u,rfl,r1⟩:=WB r
  cases r1
  exact call_int_bool ⟨.int (if k then 1 else 0),H,I.tok _,⟨_,rfl⟩,q⟩
end
structure ObjM(h:Heap)(x dx C:Addr)(mA:Str->Option Value):Prop where
 obj:h.get? x=some (PySem.W.instObj C dx)
 ns:h.Ns1 dx mA
 ne:dx≠x
section
variable{prog:Program}{w:World}{A:Around}{E:Value->Shared->Prop}{s:Shared}{K:PySem.W.Frag}{x dx C f:Addr}{mA:Str->Option Value}{name:Str}{v:Value}
end
theorem Za8.some_of{v:V}{o:Option Value}(r:Za8 (some v) o):∃u,o=some u/\Z2 v u:=by
 cases o with
 |none=>exact(show False from r).elim
 |some u=>exact⟨u,rfl,r⟩
theorem Za8.none_of{o:Option Value}(r:Za8 none o):o=none:=by
 cases o with
 |none=>rfl
 |some u=>exact(show False from r).elim
section
variable{P:Program}{w:World}{H H':Hp}{h h':Heap}{a C dx:Addr}{fs fs':List (Str×V)}
end
structure Cls(K:PySem.W.Frag)(C:Addr):Prop where
 pg:PySem.W.plainGet K C Str.empty=true
 hd:PySem.W.hasDictIn K C=true
 po:PySem.W.plainOver K C=true
 sa:PySem.W.findIn K (.ref C) "__setattr__"=some (some (.builtin "object.__setattr__"))
theorem Cls.get{K:PySem.W.Frag}{C:Addr}(c:Cls K C)(f:Str):PySem.W.plainGet K C f=true:=c.pg
structure Con(K:PySem.W.Frag)(C:Addr)(f:Str)(v:V)(u:Value):Prop where
 at_:PySem.W.findIn K (.ref C) f=some (some u)
 rel:Z2 v u
 get:PySem.W.specialIn K u "__get__"=some none
 cp:PySem.W.copiedNames.contains f=false
structure Meth(K:PySem.W.Frag)(C:Addr)(m:Str)(f:Addr):Prop where
 at_:PySem.W.findIn K (.ref C) m=some (some (.ref f))
 fn:PySem.W.isFn K (.ref f)=true
 kp:PySem.W.keepIn K (.ref f)=true
section
variable{X:Cx}{pins:List (Addr×Obj)}{σ:St}{H:Hp}{s:Shared}{a C dx:Addr}{fs:List (Str×V)}{f:Str}{v:V}{A:Around}{E:Value->Shared->Prop}
theorem ZA.made(I:ZA X pins σ H s):ZA X pins σ (YZ (YZ H s.heap.objs.size (.own (s.heap.objs.size+1))) (s.heap.objs.size+1) (.ins C s.heap.objs.size []))
  { s with heap:=(s.heap.push PySem.W.emptyDict).push (PySem.W.instObj C s.heap.objs.size) }:=by
 have e1:(s.heap.push PySem.W.emptyDict).get? s.heap.objs.size=some PySem.W.emptyDict:=Qv s.heap rfl
 have e2:((s.heap.push PySem.W.emptyDict).push (PySem.W.instObj C s.heap.objs.size)).get? (s.heap.objs.size+1)=some (PySem.W.instObj C s.heap.objs.size):=by
  have:=Qv (s.heap.push PySem.W.emptyDict) (o:=PySem.W.instObj C s.heap.objs.size) rfl
  rwa[Jl]at this
 have e3:(s.heap.push PySem.W.emptyDict).Ns s.heap.objs.size (fun _=>none):=⟨PySem.W.emptyDict,#[],_,e1,rfl,(fun e he=>absurd he (by simp)),fun _=>rfl⟩
 have I1:=I.laid (a:=s.heap.objs.size) (o:=.own (s.heap.objs.size+1)) (h':=s.heap.push PySem.W.emptyDict) (t':=s.toks) (fun b u q=>Qf _ q) (Qj _) ⟨_,e1⟩
 refine I1.laid (a:=s.heap.objs.size+1) (o:=.ins C s.heap.objs.size []) (t':=s.toks) (fun b u q=>Qf _ q) (Nat.le_of_eq (Jl _ _)) ?_
 have ne:s.heap.objs.size≠s.heap.objs.size+1:=Qy (JE _)
 refine⟨by rw[ZE ne,ZS],QZ _,ne,e2,fun _=>none,(Heap.Ns1.of_empty e3).at fun o q=>Qf _ q,fun _=>True.intro,fun y hy=>absurd rfl hy⟩
end
section
variable{X:Cx}{o e value:Expr}{f:Str}{pos pos' tpos:Pos}{ta tv:TE}
end
section
variable{X:Cx}{pins:List (Addr×Obj)}{σ:St}{H:Hp}{s:Shared}{A:Around}{E:Value->Shared->Prop}{Q:Value->Shared->Prop}{c:Value}{b:Bool}
inductive Ze4(K:PySem.W.Frag)(H:Hp):V->Value->Prop where
 |non:Ze4 K H .non (.type "NoneType")
 |bl (x:Bool):Ze4 K H (.bl x) (.type "bool")
 |int (i:Int):Ze4 K H (.int i) (.type "int")
 |str (x:Str):Ze4 K H (.str x) (.type "str")
 |flt (x:UInt64):Ze4 K H (.flt x) (.type "float")
 |lst {a:Addr} {xs:List V} (e:H a=some (.lst xs)):Ze4 K H (.ref a) (.type "list")
 |frz {a:Addr} {o:Obj} {xs:List V} (e:H a=some (.frz o (.lst xs))):Ze4 K H (.ref a) (.type "list")
 |tup {a:Addr} {xs:List V} (e:H a=some (.tup xs)):Ze4 K H (.ref a) (.type "tuple")
 |dK {a:Addr} {kvs:List (Y5×V)} (e:H a=some (.dK kvs)):Ze4 K H (.ref a) (.type "dict")
 |dT {a:Addr} {kvs:List (List Y5×V)} (e:H a=some (.dT kvs)):Ze4 K H (.ref a) (.type "dict")
 |ins {a C dx:Addr} {fs:List (Str×V)} (e:H a=some (.ins C dx fs)) (cl:Cls K C) (ha:PySem.W.findIn K (.ref C) "__class__"=some (some (.builtin "object.__class__")))
   (hn:PySem.W.specialIn K (.builtin "object.__class__") "__get__"=some (some (.builtin "getset_descriptor.__get__"))) (htk:PySem.W.takesIn K (.builtin "object.__class__")=some true)
   (hm:PySem.W.mroIn K C (.type "object")=some true):Ze4 K H (.ref a) (.ref C)
end
structure X9(k:Nat)(A:Around):Prop where
 hd:A.handled=none
 dp:A.depth+3*k+5<recursionLimit
 un:A.units+16*k+200<cLine
theorem X9.mono{j k:Nat}{A:Around}(r:X9 k A)(h:j<=k):X9 j A:=⟨r.hd,by have:=r.dp;omega,by have:=r.un;omega⟩
theorem X9.deeper{k:Nat}{A:Around}(r:X9 (k+1) A)(env:Env):X9 k (A.deeper env) :=
 ⟨r.hd,by have:=r.dp;show A.depth+1+3*k+5<_;omega,by have:=r.un;show A.units+3+16*k+200<_;omega⟩
theorem X9.in1{k:Nat}{A:Around}(r:X9 (k+1) A):X9 k A.in1 :=
 ⟨r.hd,by have:=r.dp;show A.depth+3*k+5<_;omega,by have:=r.un;show A.units+1+16*k+200<_;omega⟩
theorem X9.depth{k:Nat}{A:Around}(r:X9 k A):A.depth<recursionLimit:=by have:=r.dp;omega
theorem X9.units{k:Nat}{A:Around}(r:X9 k A):A.units+64<cLine:=by have:=r.un;omega
theorem X9.units0{k:Nat}{A:Around}(r:X9 k A):A.units<cLine:=by have:=r.un;omega
def Zom:TA:=fun _ H Q=>Q [] H
def Zfy(ta:TE)(tr:TA):TA:=fun σ H Q=>ta σ H fun x H1=>tr σ H1 fun xs H2=>Q (x::xs) H2
section
variable{X:Cx}{e:Expr}{es:List Expr}{te:TE}{t:TA}{pos:Pos}
theorem VJ:PA X [] Zom:=fun _ _ _ _ H Q I h=>Calls.spliced_nil ⟨[],H,I,.nil,h⟩
theorem XZ(ha:PE X e te)(hr:PA X es t)(hs:starEach (e::es) X.env=(false,eval e X.env)::starEach es X.env:=by rfl):PA X (e::es) (Zfy te t):=by
 intro pos pins s σ H Q I h
 rw[hs]
 show wpAny _ _ (spliced ((false,eval e X.env)::backTo pos (starEach es X.env))) _ _ s
 refine Calls.spliced_cons (Xd (ha pins s σ H _ I h) fun u s1 ⟨x,H1,I1,r1,q1⟩=>?_)
 exact Xd (hr pos pins s1 σ H1 _ I1 q1) fun us s2 ⟨xs,H2,I2,r2,q2⟩=>⟨x::xs,H2,I2,.cons r1 r2,q2⟩
def tTup(t:TA):TE:=fun σ H Q=>t σ H fun xs H1=>xs.length<=sizeLine/\∀p,H1 p=none->Q (.ref p) (YZ H1 p (.tup xs))
def tLst(t:TA):TE:=fun σ H Q=>t σ H fun xs H1=>xs.length<=sizeLine/\∀p,H1 p=none->Q (.ref p) (YZ H1 p (.lst xs))
theorem Zzm{x1}(h:PA X es t):PE X (.Tuple es x1 pos) (tTup t):=by
 intro pins s σ H Q I hq
 refine wpAny_Tuple_spliced (Xd (h pos pins s σ H _ I hq) fun us s1 ⟨xs,H1,I1,r,z,q⟩=>⟨by rw[<- r.length];exact z,?_⟩)
 have hf:H1 s1.heap.objs.size=none:=I1.hok.fresh (Qj _)
 refine⟨.ref s1.heap.objs.size,YZ H1 s1.heap.objs.size (.tup xs),I1.laid (t':=s1.toks) (fun b u e=>Qf _ e) (Qj _) ?_,rfl,q _ hf⟩
 exact⟨z,us,r,⟨_,Qv _ rfl,rfl,_,rfl⟩⟩
theorem Zrw(h:PA X es t):PE X (.List es pos) (tLst t):=by
 intro pins s σ H Q I hq
 refine wpAny_List_spliced (Xd (h pos pins s σ H _ I hq) fun us s1 ⟨xs,H1,I1,r,z,q⟩=>⟨by rw[<- r.length];exact z,?_⟩)
 have hf:H1 s1.heap.objs.size=none:=I1.hok.fresh (Qj _)
 refine⟨.ref s1.heap.objs.size,YZ H1 s1.heap.objs.size (.lst xs),I1.laid (t':=s1.toks) (fun b u e=>Qf _ e) (Qj _) ?_,rfl,q _ hf⟩
 exact⟨z,us,0,r,Qv _ rfl⟩
end
abbrev Sp:=List V->Hp->VK->XK->Prop
abbrev Zod:=List Env->Hp->Shared->XK->Value->Shared->Prop
structure Zmz(P:Program)(w:World)(K:PySem.W.Frag)(mg:Str->Option Value)(base:Heap)(A:Around)(outer:List Env)(s:Shared)(H:Hp):Prop where
 frames:A.frames=some outer
 mod:Mod K mg base
 bs:∀b o,base.get? b=some o->s.heap.get? b=some o/\H b=none
 bsz:base.objs.size<=s.heap.objs.size
 funs:s.heap.FunFrames base outer
 frf:∀b∈Zkl outer,H b=none
 hok:UL P w H s.heap
 bare:AllBare s.gens
def CE(outer:List Env)(P:Program)(w:World)(H:Hp)(s:Shared)(Q:VK)(u:Value)(s':Shared):Prop :=
 ∃v H',s'.os=s.os/\AllBare s'.gens/\Un (Zkl outer) [] H H' s.heap s'.heap/\UL P w H' s'.heap/\Z2 v u/\Q v H'
def CR(CX:Zod)(outer:List Env)(P:Program)(w:World)(H:Hp)(s:Shared)(Q:VK)(E:XK)(r:Result)(s':Shared):Prop :=
 match r with
 |.ok (.ret u)=>CE outer P w H s Q u s'
 |.ok _=>False
 |.error e=>CX outer H s E e s'
structure Vm(P:Program)(w:World)(K:PySem.W.Frag)(mg:Str->Option Value)(base:Heap)(CX:Zod)(k:Nat)(f:Addr)(fd:FuncData)(ps:List Str)(sp:Sp):Prop where
 len:∀vs H Q E,sp vs H Q E->vs.length=ps.length
 run:∀(A:Around) (outer:List Env) (s:Shared) (H:Hp) (args:Args) (us:List Value) (vs:List V) (Q:VK) (E:XK),X9 k A->Zmz P w K mg base A outer s H->BindsTo s fd args (ps.zip us)->ZM vs us->sp vs H Q E ->
  codeAny (model P w) A (.call (.ref f) args) (CR CX outer P w H s Q E) s
theorem Vm.mono{P:Program}{w:World}{K:PySem.W.Frag}{mg:Str->Option Value}{base:Heap}{CX:Zod}{j k:Nat}{f:Addr}{fd:FuncData}{ps:List Str}{sp:Sp}(F:Vm P w K mg base CX j f fd ps sp)(h:j<=k) :
  Vm P w K mg base CX k f fd ps sp:=⟨F.len,fun A outer s H args us vs Q E hr=>F.run A outer s H args us vs Q E (hr.mono h)⟩
theorem Vm.imp{P:Program}{w:World}{K:PySem.W.Frag}{mg:Str->Option Value}{base:Heap}{CX:Zod}{k:Nat}{f:Addr}{fd:FuncData}{ps:List Str}{sp sp':Sp}(F:Vm P w K mg base CX k f fd ps sp)
  (h:∀vs H Q E,sp' vs H Q E->sp vs H Q E):Vm P w K mg base CX k f fd ps sp' :=
 ⟨fun vs H Q E q=>F.len vs H Q E (h _ _ _ _ q),fun A outer s H args us vs Q E hr he hb hv hs=>F.run A outer s H args us vs Q E hr he hb hv (h _ _ _ _ hs)⟩
theorem Zmz.in1{P:Program}{w:World}{K:PySem.W.Frag}{mg:Str->Option Value}{base:Heap}{A:Around}{outer:List Env}{s:Shared}{H:Hp}(e:Zmz P w K mg base A outer s H) :
  Zmz P w K mg base A.in1 outer s H:=⟨e.frames,e.mod,e.bs,e.bsz,e.funs,e.frf,e.hok,e.bare⟩
section
variable{X:Cx}{pins:List (Addr×Obj)}{σ:St}{H:Hp}{s s':Shared}
theorem ZA.env0(I:ZA X pins σ H s):Zmz X.prog X.w X.K X.mg X.base X.A X.stack s H :=
 ⟨I.ok.frames,I.ok.mod,I.bs,Jt I.ok.bsz I.sz,I.stack,I.stkFree,I.hok,I.bare⟩
theorem ZA.after{Q:VK}{u:Value}(I:ZA X pins σ H s)(h:CE X.stack X.prog X.w H s Q u s'):EP X pins σ Q u s':=by
 obtain⟨v,H',os,bare,un,hok,r,q⟩:=h
 obtain⟨hh,g,d,t,os'⟩:=s'
 obtain rfl:os'=s.os:=os
 exact⟨v,H',I.call (h':=hh) (g':=g) (d':=d) (t':=t) (ch:=[]) un hok bare (fun b z=>absurd z (by simp)),r,q⟩
end
def tCall(sp:Sp)(dvs:List V)(E:XK)(t:TA):TE:=fun σ H Q=>t σ H fun vs H1=>sp (vs++dvs) H1 Q E
def Zbd(K:PySem.W.Frag)(fd:FuncData)(ps:List Str)(ds:List Value):Prop :=
 ∀(s:Shared) (us:List Value),K.In s.heap->(us++ds).length=ps.length->BindsTo s fd ⟨us,[]⟩ (ps.zip (us++ds))
theorem Zbd.all{K:PySem.W.Frag}{fd:FuncData}{ps:List Str}(h:∀us:List Value,us.length=ps.length->bindArgs fd ⟨us,[]⟩=pure (ps.zip us)):Zbd K fd ps []:=fun s us _ hl=>by
 rw[Q1]at hl ⊢
 exact .of_eq (h us hl)
def Zmy(CX:Zod)(X:Cx)(E:XK):Prop:=∀(pins:List (Addr×Obj)) (σ:St) (H:Hp) (s:Shared) (e:Value) (s':Shared),ZA X pins σ H s->CX X.stack H s E e s'->X.xe e s'
section
variable{X:Cx}{CX:Zod}{k:Nat}{f C:Addr}{fd:FuncData}{ps:List Str}{sp:Sp}{dvs:List V}{ds:List Value}{E:XK}{x m:Str}{p pos apos:Pos}{e o:Expr}{es:List Expr}{ta:TE}{t:TA}
theorem Zza{pins:List (Addr×Obj)}{σ:St}{H:Hp}{s:Shared}{Q:VK}{us:List Value}{vs:List V}(F:Vm X.prog X.w X.K X.mg X.base CX k f fd ps sp)(hr:X9 k X.A)(hb:Zbd X.K fd ps ds)(hd:ZM dvs ds)(hx:Zmy CX X E)
  (I:ZA X pins σ H s) (r:ZM vs us) (h:sp (vs++dvs) H Q E):wpAny (model X.prog X.w) X.A (call (.ref f) us) (EP X pins σ Q) X.xe s:=by
 have r2:ZM (vs++dvs) (us++ds):=r.append hd
 have hl:(us++ds).length=ps.length:=by rw[<- r2.length];exact F.len _ _ _ _ h
 refine wpAny_call (codeAny_mono (F.run X.A X.stack s H ⟨us,[]⟩ (us++ds) (vs++dvs) Q E hr I.env0 (hb s us I.kIn hl) r2 h) fun r s' hq=>?_)
 cases r with
 |error e=>exact hx pins σ H s e s' I hq
 |ok fl =>
  cases fl with
  |ret u=>exact I.after hq
  |next=>exact False.elim hq
  |brk=>exact False.elim hq
  |cont=>exact False.elim hq
theorem Znm(F:Vm X.prog X.w X.K X.mg X.base CX k f fd ps sp)(hr:X9 k X.A)(hg:Gl X x)(hm:X.mg x=some (.ref f))(hk:PySem.W.keepIn X.K (.ref f)=true)(hb:Zbd X.K fd ps ds)(hd:ZM dvs ds)(hx:Zmy CX X E)
  (ha:PA X (e::es) t) (hdb:(x == ("__debug__":Str))=false:=by decide) (he:starEach (e::es) X.env=(false,eval e X.env)::starEach es X.env:=by rfl) (hpl:(backTo pos (starEach es X.env)).any (·.1)=false:=by rfl) :
  PE X (.Call (.Name x p) (e::es) [] pos) (tCall sp dvs E t):=by
 intro pins s σ H Q I h
 refine wpAny_Call_Name_kw (Zns I hg hm ?_ hdb)
 refine PySem.W.callWith_K (h₀:=X.base) I.ok.mod.kin hk (Xd (ha pos pins s σ H _ I h) fun us s1 ⟨vs,H1,I1,r,q⟩=>⟨I1.kIn,?_⟩) he hpl
 exact Zza F hr hb hd hx I1 r q
structure Mk(K:PySem.W.Frag)(C f:Addr):Prop where
 makes:PySem.W.makesIn K C=true
 init:PySem.W.findIn K (.ref C) "__init__"=some (some (.ref f))
 fn:PySem.W.isFn K (.ref f)=true
 kp:PySem.W.keepIn K (.ref C)=true
end
section
variable{X:Cx}{CX:Zod}{k:Nat}{f C:Addr}{fd:FuncData}{ps ks:List Str}{sp:Sp}{E:XK}{x m:Str}{p pos apos kpos:Pos}{e o:Expr}{es:List Expr}{kws:List Keyword}{te ta:TE}{t tk:TA}{nm:Option Str}
structure KBinds(K:PySem.W.Frag)(fd:FuncData)(ps ks:List Str)(g:List Value->List Value->List Value)(gV:List V->List V->List V):Prop where
 to:∀(s:Shared) (us ws:List Value),K.In s.heap->(g us ws).length=ps.length->BindsTo s fd ⟨us,ks.zip ws⟩ (ps.zip (g us ws))
 rel:∀{vs:List V} {us:List Value} {zs:List V} {ws:List Value},ZM vs us->ZM zs ws->ZM (gV vs zs) (g us ws)
variable{g:List Value->List Value->List Value}{gV:List V->List V->List V}
end
structure Zy(N P:List Str)(sc:Scope):Prop where
 kind:sc.kind=.function
 co:sc.isCoroutine=false
 gen:sc.isGenerator=false
 nd:N.Nodup
 pre:N.take P.length=P
 par:∀x∈P,sc.names.lookup x=some .local\/sc.names.lookup x=some .cell
 nofree:∀y∈sc.names,y.2≠.free
theorem Zgv{kindOf:Str->Option NameKind}{x:Str}:∀{binds:List (Str×Value)} {m:Str->Option Value},(∀v,(x,v)∉binds)->bindL kindOf binds m x=m x
 |[],_,_=>rfl
 |(n,v)::r,m,h=>by
  unfold bindL
  rw[Zgv fun w hw=>h w (Qc _ hw)]
  split
  ·have:x≠n:=by rintro rfl;exact h v Qd
   simp[this]
  ·rfl
theorem Zgx{kindOf:Str->Option NameKind}{x:Str}:∀{binds:List (Str×Value)} {m:Str->Option Value},(∀v,(x,v)∉binds)->bindC kindOf binds m x=m x
 |[],_,_=>rfl
 |(n,v)::r,m,h=>by
  unfold bindC
  rw[Zgx fun w hw=>h w (Qc _ hw)]
  split
  ·rfl
  ·have:x≠n:=by rintro rfl;exact h v Qd
   simp[this]
theorem Zgw{kindOf:Str->Option NameKind}{x:Str}{v:Value}:∀{P:List Str} {vs:List Value} {i:Nat} {m:Str->Option Value},P.Nodup->P[i]?=some x->vs[i]?=some v->kindOf x=some .local ->
  bindL kindOf (P.zip vs) m x=some v
 |[],_,_,_,_,h,_,_=>by simp at h
 |_::_,[],_,_,_,_,h,_=>by simp at h
 |p::P,w::vs,0,m,nd,h1,h2,hk=>by
  simp at h1 h2;subst h1;subst h2
  show bindL kindOf ((p,w)::P.zip vs) m p=_
  unfold bindL
  rw[Zgv fun v hv=>(QP.mp nd).1 (List.of_mem_zip hv).1,if_pos hk]
  simp
 |p::P,w::vs,i+1,m,nd,h1,h2,hk=>by
  show bindL kindOf ((p,w)::P.zip vs) m x=_
  unfold bindL
  exact Zgw (i:=i) (QP.mp nd).2 (by simpa using h1) (by simpa using h2) hk
theorem Zgy{kindOf:Str->Option NameKind}{x:Str}{v:Value}:∀{P:List Str} {vs:List Value} {i:Nat} {m:Str->Option Value},P.Nodup->P[i]?=some x->vs[i]?=some v->kindOf x≠some .local ->
  bindC kindOf (P.zip vs) m x=some v
 |[],_,_,_,_,h,_,_=>by simp at h
 |_::_,[],_,_,_,_,h,_=>by simp at h
 |p::P,w::vs,0,m,nd,h1,h2,hk=>by
  simp at h1 h2;subst h1;subst h2
  show bindC kindOf ((p,w)::P.zip vs) m p=_
  unfold bindC
  rw[Zgx fun v hv=>(QP.mp nd).1 (List.of_mem_zip hv).1,if_neg hk]
  simp
 |p::P,w::vs,i+1,m,nd,h1,h2,hk=>by
  show bindC kindOf ((p,w)::P.zip vs) m x=_
  unfold bindC
  exact Zgy (i:=i) (QP.mp nd).2 (by simpa using h1) (by simpa using h2) hk
def start(N:List Str)(vs:List V):St:=vs.map some++List.replicate (N.length-vs.length) none
def Zih(CX:Zod)(P:Program)(w:World)(K:PySem.W.Frag)(mg:Str->Option Value)(base:Heap)(N:List Str)(qual:Str)(scope:Scope)(f:Addr)(cd:Value)(A:Around)(outer:List Env)(s:Shared)(H:Hp)(E:XK):Cx where
 prog:=P
 w:=w
 K:=K
 mg:=mg
 base:=base
 A:=A.deeper (envOfC qual scope s.heap.objs.size f cd)
 N:=N
 s₀:=s
 H₀:=H
 env:=envOfC qual scope s.heap.objs.size f cd
 outer:=outer
 stack:=envOfC qual scope s.heap.objs.size f cd::outer
 ex:=[]
 calm:=true
 fn:=fun _=>true
 pn:=[]
 xe:=fun e s'=>wpAny (model P w) (A.deeper (envOfC qual scope s.heap.objs.size f cd)) (leaving (envOfC qual scope s.heap.objs.size f cd) e) (fun _ s''=>CX outer H s E e s'') (fun e' s''=>CX outer H s E e' s'') s'
theorem Zkz{sc:Scope}{n:Nat}{x:Str}(h:sc.names.lookup x=some .cell):∃c,(cellsFrom n sc.names []).lookup x=some c:=by
 have q:=PySem.W.cellsFrom_some sc.names n [] (.inl h)
 exact Option.isSome_iff_exists.mp q
theorem Zpo{CX:Zod}{P:Program}{w:World}{K:PySem.W.Frag}{mg:Str->Option Value}{base:Heap}{N ps:List Str}{qual:Str}{scope:Scope}{f:Addr}{cd:Value}{A:Around}{outer:List Env}{s s1:Shared}{H:Hp}{E:XK}{us:List Value}{vs:List V}
  (S:Zy N ps scope) (hd:A.handled=none) (e0:Zmz P w K mg base A outer s H) (hl:vs.length=ps.length) (r:ZM vs us)
  (x:InCallC s s.heap.objs.size (bindL (envOfC qual scope s.heap.objs.size f cd).kindOf (ps.zip us) fun _=>none) (cellsFrom (s.heap.objs.size+1) scope.names []) (bindC (envOfC qual scope s.heap.objs.size f cd).kindOf (ps.zip us) fun _=>none) s1) :
  ZA (Zih CX P w K mg base N qual scope f cd A outer s H E) [] (start N vs) H s1:=by
 have hpl:ps.length<=N.length:=by have:=congrArg List.length S.pre;rw[JT]at this;omega
 obtain⟨h1,tk,rfl,hk⟩:=x.done
 have noA:∀b:Addr,b∉(Zih CX P w K mg base N qual scope f cd A outer s H E).ex:=fun b z=>absurd (show b∈([]:List Addr) from z) (by simp)
 refine⟨⟨e0.mod,S.kind,rfl,rfl,Qj _,fun y z c h1 h2=>?_,fun y hy=>?_,fun y c _ h=>?_,fun _=>hd,Around.frames_deeper e0.frames,.inr ⟨rfl,rfl⟩,fun b z=>absurd z (noA b),e0.bs,e0.bsz,fun b _ _=>noA b,fun b z=>absurd z (noA b),e0.funs,e0.frf⟩,
  rfl,e0.bare,Un.kept hk,⟨_,x.toInCall.ns,fun i y v h1 h2 h3=>?_⟩,fun y c h=>⟨_,x.cell y c h⟩,e0.hok.fresh (Qj _),fun y c h=>?_,fun p hp=>absurd (show p∈([]:List (Addr×Obj)) from hp) (by simp),e0.hok.kept hk,?_⟩
 ·exact name_of_addr x.apart (PySem.mem_of_lookup h1) (PySem.mem_of_lookup h2)
 ·have hy:scope.names.lookup y=some .cell\/scope.names.lookup y=some .free:=hy
  rcases hy with hy|hy
  ·exact Zkz hy
  ·exact absurd rfl (S.nofree _ (PySem.mem_of_lookup hy))
 ·exact Nat.le_of_lt (x.above y c (PySem.mem_of_lookup h))
 ·have hi:i<vs.length:=by
   unfold start at h2
   by_cases hi:i<vs.length
   ·exact hi
   ·rw[QT (by simpa using hi)]at h2
    rw[QV]at h2
    split at h2<;>cases h2
  have ha:vs[i]?=some v:=by
   unfold start at h2
   rw[QL (by simpa using hi),QC]at h2
   cases e:vs[i]? with
   |none=>rw[e]at h2;cases h2
   |some a=>rw[e]at h2;cases h2;rfl
  obtain⟨u,hu,rv⟩:=r.get ha
  have hp:ps[i]?=some y:=by
   rw[<- S.pre,List.getElem?_take_of_lt (by omega)];exact h1
  have ndP:ps.Nodup:=by rw[<- S.pre];exact S.nd.sublist (List.take_sublist _ _)
  refine⟨u,rv,?_⟩
  rcases S.par y (Jh hp) with k|k
  ·exact .inl ⟨k,Zgw ndP hp hu k⟩
  ·obtain⟨c,e⟩:=Zkz (n:=s.heap.objs.size+1) k
   refine .inr ⟨.inl k,c,e,?_⟩
   have q:=x.cell y c e
   rw[Zgy ndP hp hu (by show scope.names.lookup y≠_;rw[k];decide)]at q
   exact q
 ·exact e0.hok.fresh (Nat.le_of_lt (x.above y c (PySem.mem_of_lookup h)))
 ·unfold start
  show _=N.length
  rw[Qi,Qb,JG]
  omega
theorem fn_of{CX:Zod}{P:Program}{w:World}{K:PySem.W.Frag}{mg:Str->Option Value}{base:Heap}{k:Nat}{f:Addr}{name qual:Str}{params:Arguments}{body:List Stmt}{scope:Scope}{dV kV doc pm cdv ct oc:Value}{an od:Option Addr}
  {osl:Array (Option Value)} {N ps:List Str} {sp:Sp} (lk:K.lookup f=some ⟨oc,od,.func (PySem.W.fnOf name qual params body scope dV kV doc pm an cdv ct),osl⟩) (hcd:PySem.W.codeIn K cdv qual=true) (S:Zy N ps scope)
  (len:∀vs H Q E,sp vs H Q E->vs.length=ps.length)
  (hbody:∀(A:Around) (outer:List Env) (s:Shared) (H:Hp) (vs:List V) (Q:VK) (E:XK),X9 k (A.deeper (envOfC qual scope s.heap.objs.size f cdv))->sp vs H Q E ->
   ∃t,Zc7 (Zih CX P w K mg base N qual scope f cdv A outer s H E) body t/\t { nx:=fun _ H'=>Q .non H',rt:=Q } (start N vs) H) :
  Vm P w K mg base CX (k+1) f (PySem.W.fnOf name qual params body scope dV kV doc pm an cdv ct) ps sp:=by
 refine⟨len,fun A outer s H args us vs Q E hr e0 hb r hsp=>?_⟩
 have hl:=len _ _ _ _ hsp
 have KX:K.In s.heap:=e0.mod.kin.keeps fun b o e=>(e0.bs b o e).1
 have lim:s.heap.NoLimit:=e0.mod.nolimit.keeps fun b o e=>(e0.bs b o e).1
 have hkind:∀y∈ps.zip us,scope.names.lookup y.1=some .local\/(scope.names.lookup y.1=some .cell/\((cellsFrom (s.heap.objs.size+1) scope.names []).lookup y.1).isSome=true):=fun⟨n,v⟩ hy=>by
  rcases S.par n (List.of_mem_zip hy).1 with q|q
  ·exact .inl q
  ·exact .inr ⟨q,PySem.W.cellsFrom_some _ _ _ (.inl q)⟩
 refine codeAny_call_function hr.depth (KX _ _ lk) rfl S.co S.gen rfl (PySem.W.codeRec_of KX hcd) (hb _ _ _ _ ?_)
 refine wpAny_newFunctionEnv_cells S.kind hkind fun env he s1 x=>?_
 subst he
 refine⟨lim.keeps x.toInCall.keep,codeAny_func ?_⟩
 obtain⟨t,ht,hq⟩:=hbody A outer s H vs Q E (hr.deeper _) hsp
 have I:ZA (Zih CX P w K mg base N qual scope f cdv A outer s H E) [] (start N vs) H s1:=Zpo S hr.hd e0 hl r x
 refine Jx (ht [] s1 (start N vs) H _ I hq) (fun fl s' hs=>?_) fun e s' hs=>hs
 have fin:∀{σ':St} {H':Hp} {v:V} {u:Value},ZA (Zih CX P w K mg base N qual scope f cdv A outer s H E) [] σ' H' s'->Z2 v u->Q v H'->CE outer P w H s Q u s' :=
  fun{σ' H' v u} J rv q=>⟨v,H',J.os,J.bare,J.base,J.hok,rv,q⟩
 cases fl with
 |ret u =>
  obtain⟨v,σ',H',J,rv,q⟩:=hs
  exact fin J rv q
 |next =>
  obtain⟨σ',H',J,q⟩:=hs
  exact fin (v:=V.non) (u:=Value.none) J rfl q
 |brk =>
  obtain⟨_,_,_,q⟩:=hs
  exact False.elim q
 |cont =>
  obtain⟨_,_,_,q⟩:=hs
  exact False.elim q
section
variable{X:Cx}{x:Str}{p pos:Pos}{e:Expr}{es:List Expr}{t:TA}{id T:String}{r:List V->Hp->VK->Prop}
def tCB(r:List V->Hp->VK->Prop)(t:TA):TE:=fun σ H Q=>t σ H fun vs H1=>r vs H1 Q
theorem Zdx(hc:X7 X (.builtin id) r)(hg:Gl X x)(hm:X.mg x=none)(hv:bootBuiltins x=some (.builtin id))(ha:PA X (e::es) t)(hn:x≠"__name__":=by decide)(hdb:(x == ("__debug__":Str))=false:=by decide)
  (he:starEach (e::es) X.env=(false,eval e X.env)::starEach es X.env:=by rfl) (hpl:(backTo pos (starEach es X.env)).any (·.1)=false:=by rfl):PE X (.Call (.Name x p) (e::es) [] pos) (tCB r t):=by
 intro pins s σ H Q I h
 refine wpAny_Call_Name_kw (U1 I hg hm hv ?_ hn hdb)
 exact PyProof.Rows.callWith_builtin1 (Xd (ha pos pins s σ H _ I h) fun us s1 ⟨vs,H1,I1,r1,q1⟩=>hc pins s1 σ H1 vs us Q I1 r1 q1) he hpl
theorem Zbq(hc:X7 X (.type T) r)(hg:Gl X x)(hm:X.mg x=none)(hv:bootBuiltins x=some (.type T))(ha:PA X (e::es) t)(hn:x≠"__name__":=by decide)(hdb:(x == ("__debug__":Str))=false:=by decide)
  (he:starEach (e::es) X.env=(false,eval e X.env)::starEach es X.env:=by rfl) (hpl:(backTo pos (starEach es X.env)).any (·.1)=false:=by rfl):PE X (.Call (.Name x p) (e::es) [] pos) (tCB r t):=by
 intro pins s σ H Q I h
 refine wpAny_Call_Name_kw (U1 I hg hm hv ?_ hn hdb)
 exact Jy (Xd (ha pos pins s σ H _ I h) fun us s1 ⟨vs,H1,I1,r1,q1⟩=>hc pins s1 σ H1 vs us Q I1 r1 q1) he hpl
end
end L2
namespace HT
open PySem PyProof.Rows
def lexLt:List Int->List Int->Bool
 |[],[]=>false
 |[],_::_=>true
 |_::_,[]=>false
 |x::xs,y::ys=>if x=y then lexLt xs ys else decide (x<y)
theorem Wd(x y:Int)(xs ys:List Int):lexLt (x::xs) (y::ys)=if x=y then lexLt xs ys else decide (x<y):=rfl
theorem Zfg:lexLt [] []=false:=rfl
theorem Zd9(y:Int)(ys:List Int):lexLt [] (y::ys)=true:=rfl
theorem Zea(x:Int)(xs:List Int):lexLt (x::xs) []=false:=rfl
theorem Ztq(A:Around)(s:Shared)(a:Int)(t:Tok)(c:Int)(u:Tok):∃e,SeqAt.EqAt A s (.int a t) (.int c u) e/\(e=true↔a=c) :=
 ⟨(a == c),SeqAt.EqAt.int_int a t c u,by simp⟩
theorem Zrm(A:Around)(s:Shared)(a:Int)(t:Tok)(c:Int)(u:Tok)(prog:Program)(w:World)(E:Value->Shared->Prop)(Q:Value->Shared->Prop)(h:Q (.bool (decide (a<c))) s) :
  wpAny (model prog w) A (richCompare .Lt (.int a t) (.int c u)) Q E s :=
 (PyProof.Rows.lt_int h:wpAny (model prog w) A (compareOp .Lt (.int a t) (.int c u)) Q E s)
section
open PySem.SeqAt
open PySem.AutoSeq1 (wpAny_loadPart')
open PySem.MeetsSeq PySem.MeetsSeq2 PySem.MeetsSeq3
theorem Zfb(l b:Addr)(items items2:Array Value)(n n2:Nat)(dd dd2:Option Addr)(sl sl2:Array (Option Value))(ns ms:List Int)(hi:IntsAre items.toList ns)(hj:IntsAre items2.toList ms) :
  Meets (Builtin.«tuple.__lt__» ⟨[.ref l,.ref b],[]⟩)
   (fun _ R s=>s.heap.get? l=some { cls:=.type "tuple",dict:=dd,data:=.seq items n,slots:=sl }/\s.heap.get? b=some { cls:=.type "tuple",dict:=dd2,data:=.seq items2 n2,slots:=sl2 } /\
    R (.ok (.ret (.bool (lexLt ns ms)))) s) :=
 .of_wp fun prog w A R s h=>by
  obtain⟨hp,g,d,tk,os⟩:=s;obtain⟨hl,hb,h⟩:=h
  have f2:=AutoSeq1.sub_tuple_tuple
  have z1:items.size=ns.length:=by rw[<- hi.length];simp
  have z2:items2.size=ms.length:=by rw[<- hj.length];simp
  wp_walk using wpAny_loadPart' hl,wpAny_loadPart' hb,wpAny_forIn_list _ (fun YK b s'=>b.1=none/\s'=⟨hp,g,d,tk,os⟩/\∃(vs ws:List Value) (ns' ms':List Int),YK=vs.zip ws /\
   IntsAre vs ns'/\IntsAre ws ms'/\ns'.length+items2.size=ms'.length+items.size/\R (.ok (.ret (.bool (lexLt ns' ms')))) ⟨hp,g,d,tk,os⟩) _
  case turn =>
   rintro⟨y,x⟩ YK b s' ⟨hb',rfl,vs,ws,ns',ms',hz,hvi,hwi,hlen,hR⟩
   cases hvi with
   |nil=>rw[List.zip_nil_left]at hz;cases hz
   |cons a t hvi' =>
    cases hwi with
    |nil=>rw[List.zip_nil_right]at hz;cases hz
    |cons c u hwi' =>
     rw[Jg]at hz
     injection hz with hyx hrest
     injection hyx with hy hx
     subst hy hx
     rw[Wd]at hR
     simp only[Qk]at hlen
     obtain⟨e,he,hiff⟩:=Ztq A.in1 ⟨hp,g,d,tk,os⟩ a t c u
     refine Qa (he prog w _ _ ?_)
     cases e with
     |true =>
      rw[if_pos (hiff.mp rfl)]at hR
      wp_walk
      exact⟨rfl,rfl,_,_,_,_,hrest,hvi',hwi',by omega,hR⟩
     |false =>
      rw[if_neg (fun q=>absurd (hiff.mpr q) QE)]at hR
      have hri:=Zrm A.in1 ⟨hp,g,d,tk,os⟩ a t c u prog w
      wp_walk using hri
      exact⟨_,rfl,by simpa using hR⟩
  case fin =>
   rintro⟨b1,b2⟩ s' ⟨hb',rfl,vs,ws,ns',ms',hz,hvi,hwi,hlen,hR⟩
   simp only at hb'
   subst hb'
   have hv:lexLt ns' ms'=decide (items.size<items2.size):=by
    cases hvi with
    |nil =>
     cases hwi with
     |nil =>
      simp only[Q7]at hlen
      rw[Zfg]
      exact(decide_eq_false (by omega)).symm
     |cons c u hw =>
      simp only[Q7,Qk]at hlen
      rw[Zd9]
      exact(decide_eq_true (by omega)).symm
    |cons a t hv =>
     cases hwi with
     |nil =>
      simp only[Q7,Qk]at hlen
      rw[Zea]
      exact(decide_eq_false (by omega)).symm
     |cons c u hw =>
      rw[Jg]at hz
      cases hz
   rw[hv]at hR
   wp_walk
   exact⟨_,rfl,by simpa [Builtin.Tuple.tupleCompareSizes] using hR⟩
  case h =>
   exact⟨rfl,rfl,items.toList,items2.toList,ns,ms,rfl,hi,hj,by omega,h⟩
end
section
variable{prog:Program}{w:World}{A:Around}{E:Value->Shared->Prop}{s:Shared}
theorem lt_tupInts{l b:Addr}{items items2:Array Value}{ns ms:List Int}{Q:Value->Shared->Prop}(hl:IsTup s.heap l items)(hb:IsTup s.heap b items2)(hi:IntsAre items.toList ns)(hj:IntsAre items2.toList ms)
  (hu:A.units<cLine) (h:Q (.bool (lexLt ns ms)) s):wpAny (model prog w) A (compareOp .Lt (.ref l) (.ref b)) Q E s:=by
 obtain⟨⟨cls,dd,data,sl⟩,ho,hc,n,hd⟩:=id hl
 obtain⟨⟨cls2,dd2,data2,sl2⟩,ho2,hc2,n2,hd2⟩:=id hb
 simp only at hc hd hc2 hd2
 subst hc hd hc2 hd2
 exact richCompare_meets_room (op:=.Lt) ⟨_,ho,rfl⟩ ⟨_,ho2,rfl⟩ PySem.F.slot_tuple_lt PySem.F.entry_tuple_lt (PySem.F.args_tuple_lt_2 _ _) (Zfb l b items items2 n n2 dd dd2 sl sl2 ns ms hi hj)
  ⟨ho,ho2,show Value.bool (lexLt ns ms)≠Value.notImplemented/\Q (.bool (lexLt ns ms)) s from⟨(fun x=>nomatch x),h⟩⟩ hu
theorem cat_tup{t b:Addr}{vs ws:List Value}{Q:Value->Shared->Prop}(ht:IsTup s.heap t vs.toArray)(hb:IsTup s.heap b ws.toArray)(hv:vs≠[])
  (h1:ws=[]->Q (.ref t) s) (h2:ws≠[]->Q (.ref s.heap.objs.size) { s with heap:=s.heap.push { cls:=.type "tuple",data:=.seq (vs++ws).toArray } })
  (hsz:vs.length+ws.length<=sizeLine):wpAny (model prog w) A (binaryOp .Add (.ref t) (.ref b)) Q E s:=by
 obtain⟨⟨cls,dd,data,sl⟩,ho,hc,n,hd⟩:=id ht
 obtain⟨⟨cls2,dd2,data2,sl2⟩,ho2,hc2,n2,hd2⟩:=id hb
 simp only at hc hd hc2 hd2
 subst hc hd hc2 hd2
 have e:vs.toArray++ws.toArray=(vs++ws).toArray:=by simp
 by_cases hw:ws=[]
 ·exact concat_meets ⟨_,ho,rfl⟩ ⟨_,ho2,rfl⟩ noFill_tuple_add seq_tuple_add PySem.F.slot_tuple_add PySem.F.entry_tuple_add (PySem.F.args_tuple_add_2 _ _)
   (tuple_addW1 t b vs.toArray ws.toArray n n2 dd dd2 sl sl2 (by simpa using hv) (by simp[hw])) ⟨ho,ho2,h1 hw⟩
 ·refine concat_meets ⟨_,ho,rfl⟩ ⟨_,ho2,rfl⟩ noFill_tuple_add seq_tuple_add PySem.F.slot_tuple_add PySem.F.entry_tuple_add (PySem.F.args_tuple_add_2 _ _)
   (tuple_addW2 t b vs.toArray ws.toArray n n2 dd dd2 sl sl2 (by simpa using hv) (by simpa using hw) (by rw[Ql,Ql];exact hsz)) ⟨ho,ho2,?_⟩
  rw[e]
  exact h2 hw
def sIx(n d:Nat):Option Int->Nat
 |none=>d
 |some v=>if v<0 then(v+(n:Int)).toNat else min v.toNat n
theorem Zjk(n d:Nat):sIx n d none=d:=rfl
theorem Zne(n d k:Nat):sIx n d (some (k:Int))=min k n:=by
 show(if(k:Int)<0 then((k:Int)+(n:Int)).toNat else min (k:Int).toNat n)=min k n
 rw[if_neg (by omega),Qz]
theorem Zy6(n d:Nat)(hd:d<=n)(o:Option Int):sIx n d o<=n:=by
 cases o with
 |none=>exact hd
 |some v =>
  show(if v<0 then(v+(n:Int)).toNat else min v.toNat n)<=n
  by_cases hv:v<0
  ·rw[if_pos hv];omega
  ·rw[if_neg hv];exact Nat.min_le_right _ _
theorem Zn9(v:Int)(n d:Nat):(if v<0 then max (v+(n:Int)) 0 else min v (n:Int))=((sIx n d (some v):Nat):Int):=by
 show(if v<0 then max (v+(n:Int)) 0 else min v (n:Int))=(((if v<0 then(v+(n:Int)).toNat else min v.toNat n):Nat):Int)
 by_cases hv:v<0
 ·simp only[if_pos hv];omega
 ·simp only[if_neg hv];omega
theorem Zmv(lo hi:Option Int)(n:Nat):Builtin.Slice.sliceAdjust lo hi 1 (n:Int)=(((sIx n 0 lo:Nat):Int),((sIx n n hi:Nat):Int)):=by
 have h1:¬((1:Int)<0):=by omega
 unfold Builtin.Slice.sliceAdjust
 simp only[h1,if_false]
 refine Prod.ext ?_ ?_
 ·cases lo with
  |none=>rfl
  |some v=>exact Zn9 v n 0
 ·cases hi with
  |none=>rfl
  |some v=>exact Zn9 v n n
theorem Zly(i j:Nat):Builtin.Slice.slicePlaces (i:Int) (j:Int) 1=j-i:=by
 unfold Builtin.Slice.slicePlaces
 have h1:(1:Int)>0:=by omega
 simp only[h1,if_true,Int.ediv_one]
 split<;>omega
theorem Zdj{v:Value}{o:Option Int}{Q:Option Int->Shared->Prop}(p:IsPart v o)(h:Q o s):wpAny (model prog w) A (Builtin.Slice.slicePartIndex v) Q E s:=by
 cases p with
 |none=>exact slicePart_none h
 |int i t=>exact slicePart_int h
theorem Vs{sl:Addr}{vl vu:Value}{lo hi:Option Int}{n:Nat}{Q:Int×Int×Nat->Shared->Prop}(hs:s.heap.IsSliceOf sl vl vu .none)(pl:IsPart vl lo)(pu:IsPart vu hi)
  (h:Q (((sIx n 0 lo:Nat):Int),1,sIx n n hi-sIx n 0 lo) s):wpAny (model prog w) A (Builtin.Slice.sliceApplied (.ref sl) (pure (n:Int))) Q E s:=by
 obtain⟨os,hos,hcs,hds⟩:=id hs
 unfold Builtin.Slice.sliceApplied Builtin.Slice.sliceFields
 refine Qa (Qa (Jp hos hds (x:=vl) rfl (Qa (Jp hos hds (x:=vu) rfl (Qa (Jp hos hds (x:=.none) rfl (Qh ?_)))))))
 refine Qa (slicePart_none ?_)
 show wpAny _ _ (if((1:Int) == 0)=true then _ else _) _ _ s
 rw[if_neg (by decide)]
 refine Qa (Zdj pl (Qa (Zdj pu (Qa (Qh ?_)))))
 show wpAny _ _ (match Builtin.Slice.sliceAdjust lo hi 1 (n:Int) with|(lo,hi)=>pure (lo,(1:Int),Builtin.Slice.slicePlaces lo hi 1)) _ _ s
 rw[Zmv lo hi n]
 show wpAny _ _ (pure (((sIx n 0 lo:Nat):Int),(1:Int),Builtin.Slice.slicePlaces ((sIx n 0 lo:Nat):Int) ((sIx n n hi:Nat):Int) 1)) _ _ s
 rw[Zly]
 exact Qh h
theorem Zru(xs:Array Value)(i k:Nat):((List.range k).filterMap fun(m:Nat)=>xs[((i:Int)+(m:Int)*1).toNat]?).toArray=((xs.toList.drop i).take k).toArray:=by
 have e:(fun(m:Nat)=>xs[((i:Int)+(m:Int)*1).toNat]?)=fun m=>xs[i+m]?:=by
  funext m
  have:((i:Int)+(m:Int)*1).toNat=i+m:=by omega
  rw[this]
 rw[e]
 have:=pick_run xs i k
 rw[List.filterMap_map]at this
 have e2:((fun x=>xs[x]?) ∘ fun x=>i+x)=fun m=>xs[i+m]?:=rfl
 rw[e2]at this
 rw[this]
theorem getItem_tuple_cut{t sl:Addr}{items:Array Value}{vl vu:Value}{lo hi:Option Int}{Q:Value->Shared->Prop}(ht:IsTup s.heap t items)(hs:s.heap.IsSliceOf sl vl vu .none)(pl:IsPart vl lo)(pu:IsPart vu hi)
  (hw:¬(sIx items.size 0 lo=0/\sIx items.size items.size hi=items.size))
  (h:Q (.ref s.heap.objs.size) { s with heap:=s.heap.push { cls:=.type "tuple",data:=.seq ((items.toList.drop (sIx items.size 0 lo)).take (sIx items.size items.size hi-sIx items.size 0 lo)).toArray } })
  (hsz:items.size<=sizeLine):wpAny (model prog w) A (getItem (.ref t) (.ref sl)) Q E s:=by
 have htake:sizeOk (.seq ((items.toList.drop (sIx items.size 0 lo)).take (sIx items.size items.size hi-sIx items.size 0 lo)).toArray):=by
  show((items.toList.drop (sIx items.size 0 lo)).take (sIx items.size items.size hi-sIx items.size 0 lo)).toArray.size<=sizeLine
  rw[Ql,JT,List.length_drop,QU]
  omega
 have hj:sIx items.size items.size hi<=items.size:=Zy6 _ _ (Qj _) hi
 obtain⟨os,hos,hcs,hds⟩:=id hs
 have hTs:s.TypeIs (.ref sl) "slice":=⟨os,hos,hcs⟩
 unfold getItem
 try with_reducible refine Jf ?_
 first|refine Qa (Qh ?_)|skip
 refine Qa (wpAny_sequenceKey ht.typeIs (by decide) ?_)
 refine Qa (Ji (name:=Str.ofString "__getitem__") ht.typeIs Jd
  (Jq Jd ht.typeIs entry_tuple_getitem ?_ (args_tuple_getitem _ _)))
 show wpAny _ _ (Builtin.Tuple.tupleItemsOf (.ref t) >>= _) _ _ s
 refine Qa (tupleItemsOf_ ht ?_)
 refine Qa (wpAny_typeOf hTs ?_)
 rw[if_pos (by decide)]
 refine Qa (Vs hs pl pu ?_)
 have hno:¬((((sIx items.size 0 lo:Nat):Int) == 0&&(1:Int) == 1&&(sIx items.size items.size hi-sIx items.size 0 lo) == items.size)=true):=by
  intro q
  rw[QO,QO]at q
  have q1:((sIx items.size 0 lo:Nat):Int)=0:=eq_of_beq q.1.1
  have q2:sIx items.size items.size hi-sIx items.size 0 lo=items.size:=eq_of_beq q.2
  exact hw ⟨by omega,by omega⟩
 show wpAny _ _ (if(((sIx items.size 0 lo:Nat):Int) == 0&&(1:Int) == 1&&(sIx items.size items.size hi-sIx items.size 0 lo) == items.size)=true then _ else _) _ _ s
 rw[if_neg hno,Zru]
 first
  |exact Qa (m:=Builtin.Tuple.tupleExact _) (Jm (Qh ⟨_,rfl,Qh h⟩) htake)
  |exact Qa (m:=Builtin.Tuple.tupleExact _) (Jm (Qa (Qh (Qh ⟨_,rfl,Qh h⟩))) htake)
  |exact Qa (Qa (m:=Builtin.Tuple.tupleExact _) (Jm (Qh (Qh ⟨_,rfl,Qh h⟩)) htake))
  |exact Qa (Qa (m:=Builtin.Tuple.tupleExact _) (Jm (Qh ⟨_,rfl,Qh h⟩) htake))
end
end HT
namespace L2
open PySem PySem.Spec PyProof.Rows
abbrev TO:=St->Hp->(Option Int->Hp->Prop)->Prop
def PO(X:Cx)(e:Option Expr)(t:TO):Prop :=
 ∀(pins:List (Addr×Obj)) (s:Shared) (σ:St) (H:Hp) (Q:Option Int->Hp->Prop),ZA X pins σ H s->t σ H Q ->
  wpAny (model X.prog X.w) X.A (evalPart e X.env) (fun u s'=>∃o H',ZA X pins σ H' s'/\IsPart u o/\Q o H') X.xe s
def Zux:TO:=fun _ H Q=>Q none H
def tPart(t:TE):TO:=fun σ H Q=>t σ H fun x H1=>∃i,x=.int i/\Q (some i) H1
theorem XJ{ns:List Int}:∀{us:List Value},ZM (ns.map V.int) us->IntsAre us ns:=by
 induction ns with
 |nil=>intro us r;rw[QI]at r;cases r;exact .nil
 |cons n ns ih =>
  intro us r
  rw[Qe]at r
  cases r with
  |cons r1 r2 =>
   obtain⟨t,e⟩:=r1
   subst e
   exact .cons n t (ih r2)
section
variable{X:Cx}{e:Expr}{te:TE}{lo hi:Option Expr}{tl th:TO}{pos p2:Pos}
theorem Zvp:PO X none Zux:=by
 intro pins s σ H Q I h
 rw[evalPart_none]
 exact Qh ⟨none,H,I,.none,h⟩
theorem Zvo(h:PE X e te):PO X (some e) (tPart te):=by
 intro pins s σ H Q I hw
 rw[evalPart_some]
 refine Xd (h pins s σ H _ I hw) fun u s1 ⟨x,H1,I1,r1,q1⟩=>?_
 obtain⟨i,rfl,q⟩:=q1
 obtain⟨t,rfl⟩:=r1
 exact⟨some i,H1,I1,.int i t,q⟩
def Zyc(X:Cx)(r:V->Option Int->Option Int->Hp->VK->Prop):Prop :=
 ∀(pins:List (Addr×Obj)) (s:Shared) (σ:St) (H:Hp) (x:V) (v vl vu:Value) (lo hi:Option Int) (sl:Addr) (Q:VK),ZA X pins σ H s->Z2 x v->s.heap.IsSliceOf sl vl vu .none->IsPart vl lo->IsPart vu hi->r x lo hi H Q ->
  ∃T id,typeLookup (.type T) "__getitem__"=pure (some (.builtin id))/\s.TypeIs v T/\wpAny (model X.prog X.w) X.A (getItem v (.ref sl)) (EP X pins σ Q) X.xe s
theorem Zyc.or{r r':V->Option Int->Option Int->Hp->VK->Prop}(h:Zyc X r)(h':Zyc X r'):Zyc X (fun x lo hi H Q=>r x lo hi H Q\/r' x lo hi H Q):=by
 intro pins s σ H x v vl vu lo hi sl Q I rx hs pl pu q
 rcases q with q|q
 ·exact h pins s σ H x v vl vu lo hi sl Q I rx hs pl pu q
 ·exact h' pins s σ H x v vl vu lo hi sl Q I rx hs pl pu q
def tSl(r:V->Option Int->Option Int->Hp->VK->Prop)(te:TE)(tl th:TO):TE:=fun σ H Q=>te σ H fun x H1=>tl σ H1 fun l H2=>th σ H2 fun u H3=>r x l u H3 Q
theorem Zrv{r:V->Option Int->Option Int->Hp->VK->Prop}(hr:Zyc X r)(he:PE X e te)(hl:PO X lo tl)(hu:PO X hi th):PE X (.Subscript e (.Slice lo hi none p2) pos) (tSl r te tl th):=by
 intro pins s σ H Q I h
 refine Subscript_ (Xd (he pins s σ H _ I h) fun v s1 ⟨x,H1,I1,r1,q1⟩=>?_)
 refine wpAny_Slice (Xd (hl pins s1 σ H1 _ I1 q1) fun vl s2 ⟨l,H2,I2,pl,q2⟩=>Xd (hu pins s2 σ H2 _ I2 q2) fun vu s3 ⟨u,H3,I3,pu,q3⟩=>?_)
 rw[evalPart_none]
 refine Qh ?_
 have I4:ZA X pins σ H3 { s3 with heap:=s3.heap.push { cls:=.type "slice",data:=.fields #[vl,vu,.none] } }:=I3.kept (t':=s3.toks) fun b ob q=>Qf _ q
 obtain⟨T,id,hT,ht,hg⟩:=hr pins { s3 with heap:=s3.heap.push { cls:=.type "slice",data:=.fields #[vl,vu,.none] } } σ H3 x v vl vu l u s3.heap.objs.size Q I4 r1 (Heap.IsSliceOf.new ..) pl pu q3
 show wpAny (model X.prog X.w) X.A (subscriptTail e (.Slice lo hi none p2) v (.ref s3.heap.objs.size)) (EP X pins σ Q) X.xe { s3 with heap:=s3.heap.push { cls:=.type "slice",data:=.fields #[vl,vu,.none] } }
 exact tail_any (ops:=[.ref s3.heap.objs.size,v]) ht hT hg (by with_unfolding_all rfl)
def Zkv(xs:List V)(lo hi:Option Int):List V:=(xs.drop (HT.sIx xs.length 0 lo)).take (HT.sIx xs.length xs.length hi-HT.sIx xs.length 0 lo)
theorem Zcm(xs:List V)(lo hi:Option Int):(Zkv xs lo hi).length<=xs.length:=by
 unfold Zkv
 rw[JT,List.length_drop]
 omega
def rSlT(K:PySem.W.Frag):V->Option Int->Option Int->Hp->VK->Prop:=fun x lo hi H Q=>∃a xs,x=.ref a/\Wx K H a xs /\
 ¬(HT.sIx xs.length 0 lo=0/\HT.sIx xs.length xs.length hi=xs.length)/\∀p,H p=none->Q (.ref p) (YZ H p (.tup (Zkv xs lo hi)))
theorem Zy3:Zyc X (rSlT X.K):=by
 intro pins s σ H x v vl vu lo hi sl Q I rx hs pl pu h
 obtain⟨a,xs,rfl,hx,hw,q⟩:=h
 cases rx
 obtain⟨its,r,ht,hz⟩:=I.tuple hx
 have hlen:its.toArray.size=xs.length:=by rw[Ql];exact r.length.symm
 refine⟨"tuple",_,Jd.lookup,ht.typeIs,?_⟩
 refine HT.getItem_tuple_cut ht hs pl pu (by rw[hlen];exact hw) ?_ (by rw[hlen];exact hz)
 rw[hlen]
 refine⟨.ref s.heap.objs.size,_,I.laid (t':=s.toks) (o:=.tup (Zkv xs lo hi)) (fun b ob q=>Qf _ q) (Qj _) ?_,rfl,q _ (I.hok.fresh (Qj _))⟩
 exact⟨Jt (Zcm xs lo hi) hz,_,(r.drop (HT.sIx xs.length 0 lo)).take (HT.sIx xs.length xs.length hi-HT.sIx xs.length 0 lo),IsTup.new _ _⟩
def rLtT(K:PySem.W.Frag):R2:=fun x y H Q=>∃a b ns ms,x=.ref a/\y=.ref b/\Wx K H a (ns.map V.int)/\Wx K H b (ms.map V.int)/\Q (.bl (HT.lexLt ns ms)) H
theorem Zzz(hu:X.A.units<cLine):V0 X (compareOp .Lt) (rLtT X.K):=by
 intro pins s σ H x y v u Q I rx ry h
 obtain⟨a,b,ns,ms,rfl,rfl,ha,hb,q⟩:=h
 cases rx
 cases ry
 obtain⟨its,r1,p1,_⟩:=I.tuple ha
 obtain⟨its2,r2,p2,_⟩:=I.tuple hb
 have i1:IntsAre its.toArray.toList ns:=XJ r1
 have i2:IntsAre its2.toArray.toList ms:=XJ r2
 exact HT.lt_tupInts p1 p2 i1 i2 hu ⟨.bl (HT.lexLt ns ms),H,I,rfl,q⟩
def rCatT(K:PySem.W.Frag):R2:=fun x y H Q=>∃a b xs ys,x=.ref a/\y=.ref b/\Wx K H a xs/\Wx K H b ys/\xs≠[]/\xs.length+ys.length<=sizeLine /\
 (ys=[]->Q (.ref a) H)/\(ys≠[]->∀p,H p=none->Q (.ref p) (YZ H p (.tup (xs++ys))))
theorem ZM.nil_iff{xs:List V}{us:List Value}(r:ZM xs us):us=[]↔xs=[]:=by
 cases r with
 |nil=>simp
 |cons _ _=>simp
theorem Zno:V0 X (binaryOp .Add) (rCatT X.K):=by
 intro pins s σ H x y v u Q I rx ry h
 obtain⟨a,b,xs,ys,rfl,rfl,ha,hb,hx,hz,q1,q2⟩:=h
 cases rx
 cases ry
 obtain⟨its,r1,p1,_⟩:=I.tuple ha
 obtain⟨its2,r2,p2,_⟩:=I.tuple hb
 refine HT.cat_tup p1 p2 (fun z=>hx (r1.nil_iff.mp z)) (fun z=>⟨.ref a,H,I,rfl,q1 (r2.nil_iff.mp z)⟩) (fun z=>?_) (by rw[<- r1.length,<- r2.length];exact hz)
 refine⟨.ref s.heap.objs.size,_,I.laid (t':=s.toks) (o:=.tup (xs++ys)) (fun b ob q=>Qf _ q) (Qj _) ?_,rfl,q2 (fun w=>z (r2.nil_iff.mpr w)) _ (I.hok.fresh (Qj _))⟩
 exact⟨by rw[Qi];exact hz,_,r1.append r2,IsTup.new _ _⟩
end
def Zl9(n:Nat)(i:Int):Option Nat:=if 0<=i then(if i<n then some i.toNat else none) else if -(n:Int)<=i then some (i+n).toNat else none
def Zb2{α:Type}(xs:List α)(i:Int):Option α:=(Zl9 xs.length i).bind fun j=>xs[j]?
theorem Znt{n:Nat}{i:Int}{j:Nat}(h:Zl9 n i=some j):seqIndex? i n=some j/\j<n/\-(n:Int)<=i/\i<n:=by
 unfold Zl9 at h
 by_cases h0:0<=i
 ·rw[if_pos h0]at h
  by_cases h1:i<n
  ·rw[if_pos h1]at h
   have e:i.toNat=j:=Q9 h
   exact⟨by rw[seqIndex_of h0 h1,e],by omega,by omega,h1⟩
  ·rw[if_neg h1]at h;cases h
 ·rw[if_neg h0]at h
  by_cases h1:-(n:Int)<=i
  ·rw[if_pos h1]at h
   have e:(i+n).toNat=j:=Q9 h
   exact⟨by rw[seqIndex_neg (by omega) h1,e],by omega,h1,by omega⟩
  ·rw[if_neg h1]at h;cases h
theorem Zoa{α:Type}{xs:List α}{i:Int}{v:α}(h:Zb2 xs i=some v):∃j,seqIndex? i xs.length=some j/\xs[j]?=some v/\j<xs.length/\-(xs.length:Int)<=i/\i<xs.length:=by
 unfold Zb2 at h
 cases e:Zl9 xs.length i with
 |none=>rw[e]at h;cases h
 |some j =>
  rw[e]at h
  obtain⟨h1,h2,h3,h4⟩:=Znt e
  exact⟨j,h1,h,h2,h3,h4⟩
def Zob(b:Expr):Prop:=∀o i,subscripted b false o i=operate [o,i] (getItem o i)
def Z1q(X:Cx)(r:R2):Prop :=
 ∀(value slice:Expr) (pins:List (Addr×Obj)) (s:Shared) (σ:St) (H:Hp) (x y:V) (v u:Value) (Q:VK),ZA X pins σ H s->Z2 x v->Z2 y u->r x y H Q ->
  subscripted slice false v u=operate [v,u] (getItem v u)->wpAny (model X.prog X.w) X.A (subscriptTail value slice v u) (EP X pins σ Q) X.xe s
def MtR(X:Cx)(id:String)(r:V->List V->Hp->VK->Prop):Prop :=
 ∀(pins:List (Addr×Obj)) (s:Shared) (σ:St) (H:Hp) (x:V) (xs:List V) (v:Value) (us:List Value) (Q:VK),ZA X pins σ H s->Z2 x v->ZM xs us->r x xs H Q ->
  wpAny (model X.prog X.w) X.A (call (.builtin id) (v::us)) (EP X pins σ Q) X.xe s
section
variable{X:Cx}{a b:Expr}{ta tb:TE}{pos:Pos}
theorem Z1q.or{r r':R2}(h:Z1q X r)(h':Z1q X r'):Z1q X (fun x y H Q=>r x y H Q\/r' x y H Q):=by
 intro value slice pins s σ H x y v u Q I rx ry q hs
 rcases q with q|q
 ·exact h value slice pins s σ H x y v u Q I rx ry q hs
 ·exact h' value slice pins s σ H x y v u Q I rx ry q hs
theorem MtR.or{id:String}{r r':V->List V->Hp->VK->Prop}(h:MtR X id r)(h':MtR X id r'):MtR X id (fun x xs H Q=>r x xs H Q\/r' x xs H Q):=by
 intro pins s σ H x xs v us Q I rx rs q
 rcases q with q|q
 ·exact h pins s σ H x xs v us Q I rx rs q
 ·exact h' pins s σ H x xs v us Q I rx rs q
theorem Zrx{r:R2}(hr:Z1q X r)(ha:PE X a ta)(hb:PE X b tb)(hs:Zob b):PE X (.Subscript a b pos) (tOp r ta tb):=by
 intro pins s σ H Q I h
 exact Subscript_ (Z08 ha hb I h fun v u s2 x y H2 I2 rx ry q=>hr a b pins s2 σ H2 x y v u Q I2 rx ry q (hs _ _))
def rIxL(K:PySem.W.Frag):R2:=fun x y H Q=>∃p xs i v,x=.ref p/\y=.int i/\XX K H p xs/\Zb2 xs i=some v/\Q v H
def rIxT(K:PySem.W.Frag):R2:=fun x y H Q=>∃p xs i v,x=.ref p/\y=.int i/\Wx K H p xs/\Zb2 xs i=some v/\Q v H
theorem Zh5:Z1q X (rIxL X.K):=by
 intro value slice pins s σ H x y v u Q I rx ry h hs
 obtain⟨p,xs,i,z,rfl,rfl,hq,he,q⟩:=h
 cases rx
 obtain⟨t,rfl⟩:=ry
 obtain⟨its,r,pl,hz⟩:=I.list hq
 obtain⟨j,h1,h2,h3,h4,h5⟩:=Zoa he
 obtain⟨w,ew,rw'⟩:=r.get h2
 have hl:=r.length
 have hn:=Zd8
 have fin:EP X pins σ Q w s:=⟨z,H,I,rw',q⟩
 by_cases h0:0<=i
 ·have hj:i.toNat=j:=by
   rw[seqIndex_of h0 h5]at h1
   exact Q9 h1
  exact item_listR pl.isList h0 (by omega) (by rw[hj];simpa using ew) fin hs
 ·have hj:(i+(its.toArray.size:Int)).toNat=j:=by
   rw[seqIndex_neg (by omega) h4]at h1
   rw[Ql,<- hl]
   exact Q9 h1
  exact subscriptTail_builtinR (x:=w) pl.isList.typeIs slot_list_getitem.lookup
   (wpAny_getItem_list_neg (Q:=fun r s'=>r=w/\EP X pins σ Q r s') pl.isList (by omega) (by rw[Ql]<;>omega) (by omega) (by rw[hj];simpa using ew) ⟨rfl,fin⟩) hs
theorem Z0n:Z1q X (rIxT X.K):=by
 intro value slice pins s σ H x y v u Q I rx ry h hs
 obtain⟨p,xs,i,z,rfl,rfl,hq,he,q⟩:=h
 cases rx
 obtain⟨t,rfl⟩:=ry
 obtain⟨its,r,pl,hz⟩:=I.tuple hq
 obtain⟨j,h1,h2,h3,h4,h5⟩:=Zoa he
 obtain⟨w,ew,rw'⟩:=r.get h2
 have hl:=r.length
 have hn:=Zd8
 have fin:EP X pins σ Q w s:=⟨z,H,I,rw',q⟩
 exact subscriptTail_builtinR (x:=w) pl.typeIs slot_tuple_getitem.lookup
  (getItem_tuple (j:=j) (Q:=fun r s'=>r=w/\EP X pins σ Q r s') pl (by omega) (by omega) (by rw[Ql,<- hl];exact h1) (by simpa using ew) ⟨rfl,fin⟩) hs
theorem Zl3(its:List Value)(n j:Nat)(u:Value):Obj.mapSeq (·.setIfInBounds j u) { cls:=.type "list",data:=.seq its.toArray n }={ cls:=.type "list",data:=.seq (its.set j u).toArray n }:=by
 simp[Obj.mapSeq]
theorem ZA.lst{pins:List (Addr×Obj)}{σ:St}{H:Hp}{s:Shared}{p:Addr}{xs:List V}(I:ZA X pins σ H s)(h:H p=some (.lst xs)) :
  ∃(its:List Value) (n:Nat),ZM xs its/\s.heap.get? p=some { cls:=.type "list",data:=.seq its.toArray n }/\xs.length<=sizeLine:=by
 obtain⟨z,its,n,r,e⟩:=I.hok p _ h
 exact⟨its,n,r,e,z⟩
theorem ZA.lstUpd{pins:List (Addr×Obj)}{σ:St}{H:Hp}{s:Shared}{p:Addr}{xs ys:List V}{its its':List Value}{n n':Nat}{f:Obj->Obj}(I:ZA X pins σ H s)(h:H p=some (.lst xs))
  (ho:s.heap.get? p=some { cls:=.type "list",data:=.seq its.toArray n }) (hf:f { cls:=.type "list",data:=.seq its.toArray n }={ cls:=.type "list",data:=.seq its'.toArray n' }) (r:ZM ys its') (hz:ys.length<=sizeLine) (t:Nat) :
  ZA X pins σ (YZ H p (.lst ys)) { s with heap:=s.heap.update p f,toks:=t }:=by
 have e:(s.heap.update p f).get? p=some { cls:=.type "list",data:=.seq its'.toArray n' }:=by
  rw[Heap.get?_update_self f ho (by rw[hf]<;>rfl),hf]
 refine I.write (x:=p) (e:=p) (by rw[h];trivial) (.inl rfl) (fun b u hb q=>(Heap.get?_update_other _ _ (Ne.symm hb)).trans q) ⟨_,e⟩ ?_
 exact⟨hz,its',n',r,e⟩
def Zxf:V->V->V->Hp->(Hp->Prop)->Prop:=fun o i v H Q=>∃p xs k j,o=.ref p/\i=.int k/\H p=some (.lst xs)/\Zl9 xs.length k=some j/\Q (YZ H p (.lst (xs.set j v)))
theorem Zdm:PSet X Zxf:=by
 intro pins s σ H o i v ov iv u Q I ro ri rv h
 obtain⟨p,xs,k,j,rfl,rfl,hp,hj,q⟩:=h
 cases ro
 obtain⟨t,rfl⟩:=ri
 obtain⟨its,n,r,ho,hz⟩:=I.lst hp
 obtain⟨h1,h2,h3,h4⟩:=Znt hj
 have hl:=r.length
 have hn:=Zd8
 have I':ZA X pins σ (YZ H p (.lst (xs.set j v))) { s with heap:=s.heap.update p (Obj.mapSeq (·.setIfInBounds j u)) } :=
  I.lstUpd hp ho (Zl3 its n j u) (r.set rv j) (by rw[List.length_set];exact hz) s.toks
 by_cases h0:0<=k
 ·have hk:k.toNat=j:=by
   rw[seqIndex_of h0 h4]at h1
   exact Q9 h1
  exact PySem.W.ki_setAt ho h0 (by omega) (by rw[Ql,<- hl];exact h4) (by rw[hk];exact⟨_,I',q⟩)
 ·have hk:(k+(its.toArray.size:Int)).toNat=j:=by
   rw[seqIndex_neg (by omega) h3]at h1
   rw[Ql,<- hl]
   exact Q9 h1
  exact PySem.W.ki_setBack ho (by omega) (by rw[Ql,<- hl];exact h3) (by omega) (by rw[hk];exact⟨_,I',q⟩)
theorem Zha(lo hi:Option Int)(n:Nat):(sliceBounds lo hi none n).1=((HT.sIx n 0 lo:Nat):Int)/\(sliceBounds lo hi none n).2.1=((HT.sIx n n hi:Nat):Int)/\(sliceBounds lo hi none n).2.2=1:=by
 refine⟨?_,?_,rfl⟩
 ·cases lo with
  |none=>simp[sliceBounds,HT.sIx]
  |some i =>
   simp only[sliceBounds,HT.sIx,J8,show(1:Int)>0 by decide,if_true]
   by_cases h:i<0
   ·simp only[h,if_true]<;>omega
   ·simp only[h,if_false]<;>omega
 ·cases hi with
  |none=>simp[sliceBounds,HT.sIx]
  |some i =>
   simp only[sliceBounds,HT.sIx,J8,show(1:Int)>0 by decide,if_true]
   by_cases h:i<0
   ·simp only[h,if_true]<;>omega
   ·simp only[h,if_false]<;>omega
theorem Zfc(its:List Value)(lo hi:Option Int):slicePick its.toArray lo hi none=((its.drop (HT.sIx its.length 0 lo)).take (HT.sIx its.length its.length hi-HT.sIx its.length 0 lo)).toArray:=by
 obtain⟨h1,h2,h3⟩:=Zha lo hi its.toArray.size
 unfold slicePick
 rw[h1,h2,h3]
 simp only[sliceRange_one,pick_run,Ql]<;>rfl
def rSlL(K:PySem.W.Frag):V->Option Int->Option Int->Hp->VK->Prop:=fun x lo hi H Q=>∃a xs,x=.ref a/\XX K H a xs/\∀p,H p=none->Q (.ref p) (YZ H p (.lst (Zkv xs lo hi)))
theorem Zu4:Zyc X (rSlL X.K):=by
 intro pins s σ H x v vl vu lo hi sl Q I rx hs pl pu h
 obtain⟨a,xs,rfl,hx,q⟩:=h
 cases rx
 obtain⟨its,r,ht,hz⟩:=I.list hx
 have hlen:=r.length
 refine⟨"list",_,slot_list_getitem.lookup,ht.isList.typeIs,?_⟩
 refine wpAny_getItem_list_slice ht.isList hs pl pu .none (by simp) ?_ (by rw[Ql]<;>omega)
 rw[Zfc,<- hlen]
 refine⟨.ref s.heap.objs.size,_,I.laid (t':=s.toks) (o:=.lst (Zkv xs lo hi)) (fun b ob q=>Qf _ q) (Qj _) ?_,rfl,q _ (I.hok.fresh (Qj _))⟩
 exact⟨Jt (Zcm xs lo hi) hz,_,0,(r.drop (HT.sIx xs.length 0 lo)).take (HT.sIx xs.length xs.length hi-HT.sIx xs.length 0 lo),Qv _ rfl⟩
def UQ:V->Bool
 |.non=>true
 |.bl _=>true
 |.int _=>true
 |.str _=>true
 |_=>false
def Zuk:V->V->Bool
 |.non,.non=>true
 |.bl a,.bl b=>a == b
 |.bl a,.int b=>(if a then 1 else 0) == b
 |.int a,.bl b=>a == (if b then 1 else 0)
 |.int a,.int b=>a == b
 |.str a,.str b=>a == b
 |_,_=>false
theorem Z02{A:Around}{s:Shared}{y x:V}{u v:Value}(ry:Z2 y u)(rx:Z2 x v)(fy:UQ y=true)(fx:UQ x=true):SeqAt.EqAt A s u v (Zuk y x):=by
 cases y with
 |non =>
  cases ry
  cases x with
  |non=>cases rx;exact SeqAt.EqAt.same _
  |bl b=>cases rx;exact SeqAt.EqAt.none_bool b
  |int b=>obtain⟨t,rfl⟩:=rx;exact SeqAt.EqAt.none_int b t
  |str b=>obtain⟨t,rfl⟩:=rx;exact SeqAt.EqAt.none_str b t
  |_=>exact absurd (show false=true from fx) QE
 |bl a =>
  cases ry
  cases x with
  |non=>cases rx;exact SeqAt.EqAt.bool_none a
  |bl b=>cases rx;exact SeqAt.EqAt.bool_bool a b
  |int b=>obtain⟨t,rfl⟩:=rx;exact SeqAt.EqAt.bool_int a b t
  |str b=>obtain⟨t,rfl⟩:=rx;exact SeqAt.EqAt.bool_str a b t
  |_=>exact absurd (show false=true from fx) QE
 |int a =>
  obtain⟨t',rfl⟩:=ry
  cases x with
  |non=>cases rx;exact SeqAt.EqAt.int_none a t'
  |bl b=>cases rx;exact SeqAt.EqAt.int_bool a t' b
  |int b=>obtain⟨t,rfl⟩:=rx;exact SeqAt.EqAt.int_int a t' b t
  |str b=>obtain⟨t,rfl⟩:=rx;exact SeqAt.EqAt.int_str a t' b t
  |_=>exact absurd (show false=true from fx) QE
 |str a =>
  obtain⟨t',rfl⟩:=ry
  cases x with
  |non=>cases rx;exact SeqAt.EqAt.str_none a t'
  |bl b=>cases rx;exact SeqAt.EqAt.str_bool a t' b
  |int b=>obtain⟨t,rfl⟩:=rx;exact SeqAt.EqAt.str_int a t' b t
  |str b=>obtain⟨t,rfl⟩:=rx;exact SeqAt.EqAt.str_str a t' b t
  |_=>exact absurd (show false=true from fx) QE
 |_=>exact absurd (show false=true from fy) QE
def Zmm(x:V)(u:Value):Bool:=match u with
 |.none=>Zuk .non x
 |.bool b=>Zuk (.bl b) x
 |.int i _=>Zuk (.int i) x
 |.str z _=>Zuk (.str z) x
 |_=>false
theorem Ztn{x y:V}{u:Value}(r:Z2 y u)(f:UQ y=true):Zmm x u=Zuk y x:=by
 cases y with
 |non=>cases r;rfl
 |bl b=>cases r;rfl
 |int i=>obtain⟨t,rfl⟩:=r;rfl
 |str z=>obtain⟨t,rfl⟩:=r;rfl
 |_=>exact absurd (show false=true from f) QE
theorem Za6{x:V}:∀{xs:List V} {us:List Value},ZM xs us->xs.all UQ=true->us.any (Zmm x)=xs.any fun y=>Zuk y x
 |_,_,.nil,_=>rfl
 |y::xs,u::us,.cons r t,f=>by
  rw[JN,QO]at f
  rw[JC,JC,Ztn r f.1,Za6 t f.2]
theorem Ug{A:Around}{s:Shared}{x:V}{v:Value}(rx:Z2 x v)(fx:UQ x=true):∀{xs:List V} {us:List Value},ZM xs us->xs.all UQ=true->∀u∈us,SeqAt.EqAt A s u v (Zmm x u)
 |_,_,.nil,_=>fun u hu=>by cases hu
 |y::xs,u::us,.cons r t,f=>fun u' hu=>by
  rw[JN,QO]at f
  rcases Qm.mp hu with rfl|hu
  ·rw[Ztn r f.1];exact Z02 r rx f.1 fx
  ·exact Ug rx fx t f.2 u' hu
def Zs7(x:V)(xs:List V):Bool:=xs.any fun y=>Zuk y x
def rIn(K:PySem.W.Frag)(neg:Bool):R2:=fun x y H Q=>∃p xs,y=.ref p/\(XX K H p xs\/Wx K H p xs)/\UQ x=true/\xs.all UQ=true/\Q (.bl (if neg then !Zs7 x xs else Zs7 x xs)) H
theorem Zo3:V0 X (compareOp .In) (rIn X.K false):=by
 intro pins s σ H x y v u Q I rx ry h
 obtain⟨p,xs,rfl,hq,fx,fs,q⟩:=h
 cases ry
 rcases hq with hq|hq
 ·obtain⟨its,r,pl,hz⟩:=I.list hq
  refine SeqAt.in_listAt (Zmm x) pl.isList (fun w hw=>Ug rx fx r fs w (by simpa using hw)) ⟨.bl _,H,I,rfl,?_⟩
  rw[show its.toArray.any (Zmm x)=its.any (Zmm x) by simp,Za6 r fs]
  exact q
 ·obtain⟨its,r,pl,hz⟩:=I.tuple hq
  refine SeqAt.in_tupleAt (Zmm x) pl (fun w hw=>Ug rx fx r fs w (by simpa using hw)) ⟨.bl _,H,I,rfl,?_⟩
  rw[show its.toArray.any (Zmm x)=its.any (Zmm x) by simp,Za6 r fs]
  exact q
theorem Zhn:V0 X (compareOp .NotIn) (rIn X.K true):=by
 intro pins s σ H x y v u Q I rx ry h
 obtain⟨p,xs,rfl,hq,fx,fs,q⟩:=h
 cases ry
 rcases hq with hq|hq
 ·obtain⟨its,r,pl,hz⟩:=I.list hq
  refine SeqAt.notIn_listAt (Zmm x) pl.isList (fun w hw=>Ug rx fx r fs w (by simpa using hw)) ⟨.bl _,H,I,rfl,?_⟩
  rw[show its.toArray.any (Zmm x)=its.any (Zmm x) by simp,Za6 r fs]
  exact q
 ·obtain⟨its,r,pl,hz⟩:=I.tuple hq
  refine SeqAt.notIn_tupleAt (Zmm x) pl (fun w hw=>Ug rx fx r fs w (by simpa using hw)) ⟨.bl _,H,I,rfl,?_⟩
  rw[show its.toArray.any (Zmm x)=its.any (Zmm x) by simp,Za6 r fs]
  exact q
theorem Zin:X7 X (.builtin "len") (fun xs H Q=>∃p ys,xs=[.ref p]/\(XX X.K H p ys\/Wx X.K H p ys)/\Q (.int ys.length) H):=by
 intro pins s σ H xs us Q I r h
 obtain⟨p,ys,rfl,hq,q⟩:=h
 obtain⟨u,rfl,rx⟩:=WB r
 cases rx
 have hn:=Zd8
 rcases hq with hq|hq
 ·obtain⟨its,r',pl,hz⟩:=I.list hq
  have hlen:=r'.length
  exact Calls.call_len_list pl.isList (by simp only[Ql]<;>omega) ⟨.int ys.length,H,I.tok _,⟨s.toks+1,by rw[Ql,hlen]⟩,q⟩
 ·obtain⟨its,r',pl,hz⟩:=I.tuple hq
  have hlen:=r'.length
  exact len_tuple pl (by simp only[Ql]<;>omega) ⟨.int ys.length,H,I.tok _,⟨s.toks+1,by rw[Ql,hlen]⟩,q⟩
theorem X7.or{f:Value}{r r':List V->Hp->VK->Prop}(h:X7 X f r)(h':X7 X f r'):X7 X f (fun xs H Q=>r xs H Q\/r' xs H Q):=by
 intro pins s σ H xs us Q I rs q
 rcases q with q|q
 ·exact h pins s σ H xs us Q I rs q
 ·exact h' pins s σ H xs us Q I rs q
theorem Zil:X7 X (.type "list") (fun xs H Q=>∃p ys,xs=[.ref p]/\(XX X.K H p ys\/Wx X.K H p ys)/\∀l,H l=none->Q (.ref l) (YZ H l (.lst ys))):=by
 intro pins s σ H xs us Q I r h
 obtain⟨p,ys,rfl,hq,q⟩:=h
 obtain⟨u,rfl,rx⟩:=WB r
 cases rx
 have fin:∀(its:List Value),ZM ys its->ys.length<=sizeLine->∀(h':Heap) (c':Nat),(∀b o',s.heap.get? b=some o'->h'.get? b=some o') ->
   h'.get? s.heap.objs.size=some { cls:=.type "list",dict:=none,data:=.seq its.toArray c',slots:=#[] }->EP X pins σ Q (.ref s.heap.objs.size) { s with heap:=h' }:=fun its r' hz h' c' kp e =>
  ⟨.ref s.heap.objs.size,_,I.laid (t':=s.toks) kp (Qj _) (show YI X.prog X.w _ h' _ (.lst ys) from⟨hz,its,c',r',e⟩),rfl,q _ (I.hok.fresh (Qj _))⟩
 rcases hq with hq|hq
 ·obtain⟨its,r',pl,hz⟩:=I.list hq
  have hlen:=r'.length
  obtain⟨o,ho,hc,n,hd⟩:=pl.isList
  exact call_list_seq p (.inl rfl) ho hc hd (fun h' c' kp e=>fin its r' hz h' c' kp e) (by simp only[Ql]<;>omega)
 ·obtain⟨its,r',pl,hz⟩:=I.tuple hq
  have hlen:=r'.length
  obtain⟨o,ho,hc,n,hd⟩:=pl
  exact call_list_seq p (.inr rfl) ho hc hd (fun h' c' kp e=>fin its r' hz h' c' kp e) (by simp only[Ql]<;>omega)
theorem Zfl:X7 X (.type "tuple") (fun xs H Q=>∃p ys,xs=[.ref p]/\((XX X.K H p ys/\∀l,H l=none->Q (.ref l) (YZ H l (.tup ys)))\/(Wx X.K H p ys/\Q (.ref p) H))):=by
 intro pins s σ H xs us Q I r h
 obtain⟨p,ys,rfl,h⟩:=h
 obtain⟨u,rfl,rx⟩:=WB r
 cases rx
 rcases h with⟨hq,q⟩|⟨hq,q⟩
 ·obtain⟨its,r',pl,hz⟩:=I.list hq
  have hlen:=r'.length
  refine call_tuple_list pl.isList (fun h' kp=>?_) (by simp only[Ql]<;>omega)
  have I1:ZA X pins σ H { s with heap:=h' }:=I.kept (t':=s.toks) kp
  have I2:ZA X pins σ (YZ H h'.objs.size (.tup ys)) { s with heap:=h'.push { cls:=.type "tuple",data:=.seq its.toArray } } :=
   I1.laid (t':=s.toks) (fun b o e=>Qf _ e) (Qj _) (show YI X.prog X.w _ _ _ (.tup ys) from⟨hz,its,r',IsTup.new _ _⟩)
  exact⟨.ref h'.objs.size,_,I2,rfl,q _ (I1.hok.fresh (Qj _))⟩
 ·obtain⟨its,r',pl,hz⟩:=I.tuple hq
  exact call_tuple_same pl ⟨.ref p,H,I,rfl,q⟩
def tyV(K:PySem.W.Frag)(T:String)(x:V)(H:Hp):Prop:=match x with
 |.str _=>T="str"
 |.int _=>T="int"
 |.ref p=>(T="list"/\∃xs,XX K H p xs)\/(T="tuple"/\∃o,K.lookup p=some o/\o.cls=.type "tuple"/\o.dict=none) \/
   (T="dict"/\((∃kvs,H p=some (.dK kvs))\/∃kvs,H p=some (.dT kvs)))\/(T="set"/\∃S n,H p=some (.set S n))
 |_=>False
theorem Zyj{pins:List (Addr×Obj)}{σ:St}{H:Hp}{s:Shared}{T:String}{x:V}{v:Value}(I:ZA X pins σ H s)(r:Z2 x v)(ty:tyV X.K T x H) :
  s.TypeIs v T/\∀a,v=.ref a->∃ob,s.heap.get? a=some ob/\ob.dict=none:=by
 cases x with
 |str z =>
  obtain⟨t,rfl⟩:=r
  cases (show T="str" from ty)
  exact⟨typeIs_str s z t,fun _ e=>nomatch e⟩
 |int i =>
  obtain⟨t,rfl⟩:=r
  cases (show T="int" from ty)
  exact⟨typeIs_int s i t,fun _ e=>nomatch e⟩
 |ref p =>
  cases r
  rcases ty with⟨rfl,xs,hq⟩|⟨rfl,o,hk,hc,hd⟩|⟨rfl,hk⟩|⟨rfl,S,n,hk⟩
  ·obtain⟨its,_,pl,_⟩:=I.list hq
   refine⟨pl.isList.typeIs,fun a e=>?_⟩
   cases e
   obtain⟨o,n,e,c,hd,_⟩:=pl
   exact⟨o,e,hd⟩
  ·refine⟨⟨o,I.kIn p o hk,hc⟩,fun a e=>?_⟩
   cases e
   exact⟨o,I.kIn _ o hk,hd⟩
  ·have z:∃o,s.heap.get? p=some o/\o.ExactDict:=by
    rcases hk with⟨kvs,hk⟩|⟨kvs,hk⟩
    ·obtain⟨_,_,_,_,o,_,_,e,ex,_⟩:=I.hok p _ hk
     exact⟨o,e,ex⟩
    ·obtain⟨_,_,_,_,o,_,_,e,ex,_⟩:=I.hok p _ hk
     exact⟨o,e,ex⟩
   obtain⟨o,e,ex⟩:=z
   refine⟨⟨o,e,ex.1⟩,fun a e2=>?_⟩
   cases e2
   exact⟨o,e,ex.2.1⟩
  ·obtain⟨o,_,_,_,e,ex,_⟩:=I.hok p _ hk
   refine⟨⟨o,e,ex.1⟩,fun a e2=>?_⟩
   cases e2
   exact⟨o,e,ex.2.1⟩
 |_=>exact False.elim ty
def tBM(K:PySem.W.Frag)(T:String)(r:V->List V->Hp->VK->Prop)(to:TE)(t:TA):TE:=fun σ H Q=>to σ H fun x H1=>tyV K T x H1/\t σ H1 fun xs H2=>r x xs H2 Q
variable{o e:Expr}{es:List Expr}{to:TE}{t:TA}{name:Str}{apos cpos:Pos}{T id:String}{r:V->List V->Hp->VK->Prop}
theorem Zxj(pa:PlainAttrs T)(slot:Slot T name id)(hty:typeOf (.builtin id)=pure (.type "method_descriptor"))(hm:MtR X id r)(ho:PE X o to)(ha:PA X (e::es) t)
  (hbase:attributeBase o name X.env (eval o X.env)=eval o X.env:=by rfl)
  (hfew:((backTo cpos (starEach (e::es) X.env)).all (fun x=>!x.1)&&(backToKw cpos (keywordEach [] X.env)).all (fun x=>x.1.isSome)
   && decide ((e::es).length+([]:List Keyword).length+(if([]:List Keyword).isEmpty then 0 else 1)<30))=true:=by rfl)
  (hline:(apos.endLine == cpos.line)=true:=by rfl) (hs:starEach (e::es) X.env=(false,eval e X.env)::starEach es X.env:=by rfl) (hplain:(backTo cpos (starEach es X.env)).any (·.1)=false:=by rfl) :
  PE X (.Call (.Attribute o name apos) (e::es) [] cpos) (tBM X.K T r to t):=by
 intro pins s σ H Q I h
 refine wpAny_Call_method_late hbase hfew hline rfl (Xd (ho pins s σ H _ I h) fun v s1 ⟨x,H1,I1,r1,ty,q1⟩=>?_)
 obtain⟨h1,h2⟩:=Zyj I1 r1 ty
 refine⟨T,id,pa,slot,hty,h1,h2,?_⟩
 have hA:=ha cpos pins s1 σ H1 _ I1 q1
 rw[hs]at hA ⊢
 refine Calls.callWith_builtin (by show(false||(backTo cpos (starEach es X.env)).any (·.1))=false;rw[hplain]<;>rfl) (Calls.evalArgs_plain ?_)
 exact Xd hA fun us s2 ⟨vs,H2,I2,r2,q2⟩=>hm pins s2 σ H2 x vs v us Q I2 r1 r2 q2
/- xs.append(e),list.index on a module's tuple .. are MtR facts of 06m -/
end
def MtM(X:Cx)(id:String)(r:V->List V->Hp->VK->Prop):Prop :=
 ∀(pins:List (Addr×Obj)) (s:Shared) (σ:St) (H:Hp) (x:V) (xs:List V) (v:Value) (us:List Value) (Q:VK),ZA X pins σ H s->Z2 x v->ZM xs us->r x xs H Q ->
  wpAny (model X.prog X.w) X.A (call (.builtin id) (v::us)) (EP X pins σ Q) X.xe s
theorem ZM.one:∀{x:V} {us:List Value},ZM [x] us->∃u,us=[u]/\Z2 x u
 |_,_,.cons r .nil=>⟨_,rfl,r⟩
theorem ZM.two:∀{x y:V} {us:List Value},ZM [x,y] us->∃u v,us=[u,v]/\Z2 x u/\Z2 y v
 |_,_,_,.cons r (.cons q .nil)=>⟨_,_,rfl,r,q⟩
theorem ZM.zero:∀{us:List Value},ZM [] us->us=[]
 |_,.nil=>rfl
theorem ZM.reverse{xs:List V}{us:List Value}(h:ZM xs us):ZM xs.reverse us.reverse:=by
 induction h with
 |nil=>exact .nil
 |cons r t ih=>rw[List.reverse_cons,List.reverse_cons];exact ZM.append ih (.cons r .nil)
theorem ZM.rep{xs:List V}{us:List Value}(h:ZM xs us):∀k:Nat,ZM (List.replicate k xs).flatten (List.replicate k us).flatten
 |0=>.nil
 |k+1=>by
  rw[Je,Je,Jk,Jk]
  exact ZM.append h (ZM.rep h k)
theorem Zbw(its:List Value):∀(k:Nat) (acc:List Value),
  List.foldl (fun x1 x2=>x1++x2) acc.toArray (List.replicate k its.toArray)=(acc++(List.replicate k its).flatten).toArray
 |0,acc=>by simp
 |k+1,acc=>by
  have e:acc.toArray++its.toArray=(acc++its).toArray:=by simp
  have e2:(acc++its)++(List.replicate k its).flatten=acc++(List.replicate (k+1) its).flatten:=by
   rw[Je,Jk,Q2]
  rw[<- e2,<- Zbw its k (acc++its),<- e,Je,JJ]
section
variable{X:Cx}{pins:List (Addr×Obj)}{σ:St}{H:Hp}{s:Shared}{l b:Addr}{xs ys zs:List V}
theorem ZA.lset{its its':List Value}{n:Nat}{f:Array Value->Array Value}{t':Nat}(I:ZA X pins σ H s)(hH:H l=some (.lst xs))
  (e:s.heap.get? l=some { cls:=.type "list",data:=.seq its.toArray n }) (hf:f its.toArray=its'.toArray) (hv:ZM ys its') (hz:ys.length<=sizeLine) :
  ZA X pins σ (YZ H l (.lst ys)) { s with heap:=s.heap.update l (Obj.mapSeq f),toks:=t' }:=by
 have q:=PySem.IsL.update e f
 rw[hf]at q
 refine I.write (x:=l) (e:=l) (by rw[hH];exact trivial) (.inl rfl) (fun b' u hb hu=>(Heap.get?_update_other s.heap (Obj.mapSeq f) (Ne.symm hb)).trans hu) ⟨_,q⟩ ?_
 exact⟨hz,its',_,hv,q⟩
theorem ZA.lnew{its:List Value}{t':Nat}(I:ZA X pins σ H s)(hv:ZM ys its)(hz:ys.length<=sizeLine) :
  ZA X pins σ (YZ H s.heap.objs.size (.lst ys)) { s with heap:=s.heap.push { cls:=.type "list",data:=.seq its.toArray },toks:=t' } :=
 I.laid (fun _ _ q=>Qf _ q) (Qj _) ⟨hz,its,0,hv,Qv _ rfl⟩
theorem ZA.fresh(I:ZA X pins σ H s):H s.heap.objs.size=none:=I.hok.fresh (Qj _)
theorem ZA.lstM(I:ZA X pins σ H s)(hH:H l=some (.lst xs)):xs.length<=sizeLine/\∃(its:List Value) (n:Nat),ZM xs its/\xs.length=its.length/\s.heap.get? l=some { cls:=.type "list",data:=.seq its.toArray n }:=by
 obtain⟨z,its,n,r,e⟩:=I.hok l _ hH
 exact⟨z,its,n,r,r.length,e⟩
theorem Zjz{n:Nat}(h:n<=sizeLine):Builtin.List.listTooLong n=false:=by
 unfold Builtin.List.listTooLong
 exact decide_eq_false (by omega)
end
section
variable{X:Cx}
def Zcz:V->List V->Hp->VK->Prop:=fun x vs H Q=>∃l xs y,x=.ref l/\vs=[y]/\H l=some (.lst xs)/\xs.length<sizeLine/\Q .non (YZ H l (.lst (xs++[y])))
theorem Zo9:MtM X "list.append" Zcz:=by
 intro pins s σ H x vs v us Q I rx rv h
 obtain⟨l,xs,y,rfl,rfl,hH,hz,q⟩:=h
 cases rx
 obtain⟨u,rfl,ru⟩:=rv.one
 obtain⟨z,its,n,r,hl,e⟩:=I.lstM hH
 refine call_meets F.slot_list_append ⟨_,e,rfl⟩ F.entry_list_append (F.args_list_append_2 _ _) (PySem.list_append l its.toArray n u (by rw[Ql];omega)) ⟨e,?_⟩
 refine⟨.non,_,I.lset (its':=its++[u]) hH e (by simp) (r.append (.cons ru .nil)) ?_,rfl,q⟩
 rw[Qi,QW]
 omega
def Zhi:V->List V->Hp->VK->Prop:=fun x vs H Q=>∃l b xs zs,x=.ref l/\vs=[.ref b]/\H l=some (.lst xs)/\H b=some (.lst zs)/\xs.length+zs.length<=sizeLine/\Q .non (YZ H l (.lst (xs++zs)))
theorem Zo8:MtM X "list.extend" Zhi:=by
 intro pins s σ H x vs v us Q I rx rv h
 obtain⟨l,b,xs,zs,rfl,rfl,hH,hB,hz,q⟩:=h
 cases rx
 obtain⟨u,rfl,ru⟩:=rv.one
 cases ru
 obtain⟨z,its,n,r,hl,e⟩:=I.lstM hH
 obtain⟨z2,its2,n2,r2,hl2,e2⟩:=I.lstM hB
 have hsz:its.toArray.size+its2.toArray.size<=sizeLine:=by rw[Ql,Ql];omega
 have hlong:¬(!its.toArray.isEmpty&&Builtin.List.listTooLong (its.toArray.size+its2.toArray.size))=true:=by
  rw[Zjz hsz,Bool.and_false]
  exact QE
 refine call_meets F.slot_list_extend ⟨_,e,rfl⟩ F.entry_list_extend (F.args_list_extend_2 _ _)
  (AutoSeq1.list_extend_list_list_0 l its.toArray n b its2.toArray n2 hlong (by rw[Ql];omega) (by omega)) ⟨e,e2,?_⟩
 refine⟨.non,_,I.lset (its':=its++its2) hH e (by simp) (r.append r2) ?_,rfl,q⟩
 rw[Qi]
 omega
def rCat:R2:=fun x y H Q=>∃l b xs zs,x=.ref l/\y=.ref b/\H l=some (.lst xs)/\H b=some (.lst zs)/\xs.length+zs.length<=sizeLine/\∀p,H p=none->Q (.ref p) (YZ H p (.lst (xs++zs)))
theorem Zz1:V0 X (binaryOp .Add) rCat:=by
 intro pins s σ H x y v u Q I rx ry h
 obtain⟨l,b,xs,zs,rfl,rfl,hH,hB,hz,q⟩:=h
 cases rx
 cases ry
 obtain⟨z,its,n,r,hl,e⟩:=I.lstM hH
 obtain⟨z2,its2,n2,r2,hl2,e2⟩:=I.lstM hB
 refine PySem.P.add_list e e2 ?_ (by rw[Ql,Ql];omega)
 have ea:its.toArray++its2.toArray=(its++its2).toArray:=by simp
 rw[ea]
 exact⟨.ref _,_,I.lnew (t':=s.toks) (r.append r2) (by rw[Qi];omega),rfl,q _ I.fresh⟩
def rRep:R2:=fun x y H Q=>∃l k xs,x=.ref l/\y=.int k/\H l=some (.lst xs)/\-(2^63)<=k/\k<2^63/\xs.length*k.toNat<=sizeLine /\
 ∀p,H p=none->Q (.ref p) (YZ H p (.lst (List.replicate k.toNat xs).flatten))
theorem Zwj{α:Type}(xs:List α)(k:Nat):(List.replicate k xs).flatten.length=k*xs.length:=by
 induction k with
 |zero=>simp
 |succ k ih=>rw[Je,Jk,Qi,ih,Nat.succ_mul,Nat.add_comm]
theorem Zr7:V0 X (binaryOp .Mult) rRep:=by
 intro pins s σ H x y v u Q I rx ry h
 obtain⟨l,k,xs,rfl,rfl,hH,h1,h2,hz,q⟩:=h
 cases rx
 obtain⟨t,rfl⟩:=ry
 obtain⟨z,its,n,r,hl,e⟩:=I.lstM hH
 have hlen:its.toArray.size*k.toNat<=sizeLine:=by rw[Ql,<- hl];exact hz
 have hcap:¬its.toArray.size*k.toNat>(2^63-1)/8:=by
  have:(sizeLine:Nat)<=(2^63-1)/8:=by decide
  omega
 have hfit:¬(!Builtin.List.listFitsIndex k)=true:=by
  rw[fitsIndex_both h1 h2]
  exact QE
 have hlong:¬Builtin.List.listTooLong (its.toArray.size*k.toNat)=true:=by
  rw[Zjz hlen]
  exact QE
 have hnew:List.foldl (fun x1 x2=>x1++x2) #[] (List.replicate (if its.toArray.isEmpty=true then 0 else k.toNat) its.toArray)=(List.replicate k.toNat its).flatten.toArray:=by
  have f0:∀m:Nat,List.foldl (fun x1 x2=>x1++x2) #[] (List.replicate m its.toArray)=(List.replicate m its).flatten.toArray:=fun m=>by
   have:=Zbw its m []
   rw[QX]at this
   exact this
  rw[f0]
  cases its with
  |nil=>simp
  |cons a r'=>rw[if_neg (by simp)]
 refine wpAny_binaryOp_repeat_ref (T:="list") (U:="int") (by decide) ⟨_,e,rfl⟩ (fun s'=>typeIs_int s' k t) noFill_list_mul F.fills_int_mul F.slot_int_rmul repeat_list F.slot_int_index.lookup
  (call_meets F.slot_int_rmul (typeIs_int s k t) F.entry_int_rmul (F.args_int_rmul_2 _ _) (int___rmul___int_list k t l its.toArray n)
   ⟨e,rfl,⟨_,e,rfl⟩,call_meets F.slot_list_mul ⟨_,e,rfl⟩ F.entry_list_mul (F.args_list_mul_2 _ _) (AutoListH.list___mul___list_int_3 l its.toArray n k t hfit hcap hlong) ⟨e,?_⟩⟩)
 rw[hnew]
 exact⟨.ref _,_,I.lnew (t':=s.toks) (r.rep k.toNat) (by rw[Zwj,Nat.mul_comm];exact hz),rfl,q _ I.fresh⟩
end
section
variable{prog:Program}{w:World}{A:Around}{E:Value->Shared->Prop}{s:Shared}
set_option maxRecDepth 100000 in
end
section
variable{X:Cx}
end
section
variable{κ:Type} [DecidableEq κ]
def Vh(kvs:List (κ×V))(k:κ):Option V:=(kvs.find? fun kv=>decide (kv.1=k)).map (·.2)
def VG(kvs:List (κ×V))(k:κ)(v:V):List (κ×V) :=
 if(kvs.any fun kv=>decide (kv.1=k))=true then kvs.map (fun kv=>if kv.1=k then(kv.1,v) else kv) else kvs++[(k,v)]
def Zx7(kvs:List (κ×V))(k:κ):List (κ×V):=kvs.filter fun kv=>decide (kv.1≠k)
theorem Zda{p:κ×V}{r:List (κ×V)}{k:κ}(e:p.1=k):Vh (p::r) k=some p.2:=by simp[Vh,Ju,e]
theorem Zdb{p:κ×V}{r:List (κ×V)}{k:κ}(e:¬p.1=k):Vh (p::r) k=Vh r k:=by simp[Vh,Ju,e]
theorem Zag(k:κ):∀kvs:List (κ×V),(kvs.any fun kv=>decide (kv.1=k))=(Vh kvs k).isSome
 |[]=>rfl
 |p::r=>by
  rw[JC]
  by_cases e:p.1=k
  ·simp only[Zda e,decide_eq_true e,Bool.true_or,Option.isSome_some]
  ·rw[Zdb e,decide_eq_false e,Bool.false_or];exact Zag k r
theorem Uh(kvs:List (κ×V))(k:κ)(v:V):(VG kvs k v).length<=kvs.length+1:=by
 unfold VG
 split
 ·rw[Qb];omega
 ·rw[Qi,Qk,Q7];omega
theorem Za8.isSome_eq{o:Option V}{u:Option Value}(r:Za8 o u):o.isSome=u.isSome:=by
 cases o with
 |none=>cases u with
  |none=>rfl
  |some _=>exact(show False from r).elim
 |some _=>cases u with
  |none=>exact(show False from r).elim
  |some _=>rfl
theorem Za8.getD{o:Option V}{u:Option Value}{d:V}{d':Value}(r:Za8 o u)(rd:Z2 d d'):Z2 (o.getD d) (u.getD d'):=by
 cases o with
 |none=>cases u with
  |none=>exact rd
  |some _=>exact(show False from r).elim
 |some _=>cases u with
  |none=>exact(show False from r).elim
  |some _=>exact r
theorem KV.val{kvs:List (κ×V)}{vs:List (κ×Value)}(r:KV kvs vs)(k:κ):Za8 (Vh kvs k) (valueAt vs k):=by
 unfold KV at r
 induction r with
 |nil=>exact True.intro
 | @cons p q ps qs h t ih =>
  obtain⟨h1,h2⟩:=h
  by_cases e:p.1=k
  ·have e':q.1=k:=h1.symm.trans e
   have b:valueAt (q::qs) k=some q.2:=by simp[valueAt,Ju,e']
   rw[Zda e,b];exact h2
  ·have e':¬q.1=k:=fun z=>e (h1.trans z)
   have b:valueAt (q::qs) k=valueAt qs k:=by simp[valueAt,Ju,e']
   rw[Zdb e,b];exact ih
theorem KV.any{kvs:List (κ×V)}{vs:List (κ×Value)}(r:KV kvs vs)(k:κ):(kvs.any fun kv=>decide (kv.1=k))=vs.any fun kv=>decide (kv.1=k):=by
 unfold KV at r
 induction r with
 |nil=>rfl
 |cons h t ih=>rw[JC,JC,ih,h.1]
theorem KV.repl{kvs:List (κ×V)}{vs:List (κ×Value)}(r:KV kvs vs)(k:κ){y:V}{u:Value}(ry:Z2 y u) :
  KV (kvs.map fun kv=>if kv.1=k then(kv.1,y) else kv) (vs.map fun kv=>if kv.1=k then(kv.1,u) else kv):=by
 unfold KV at r ⊢
 induction r with
 |nil=>exact .nil
 | @cons p q ps qs h t ih =>
  rw[Qe,Qe]
  refine .cons ?_ ih
  obtain⟨h1,h2⟩:=h
  by_cases e:p.1=k
  ·rw[if_pos e,if_pos (h1.symm.trans e)];exact⟨h1,ry⟩
  ·rw[if_neg e,if_neg (fun z=>e (h1.trans z))];exact⟨h1,h2⟩
theorem KV.put{kvs:List (κ×V)}{vs:List (κ×Value)}(r:KV kvs vs)(k:κ){y:V}{u:Value}(ry:Z2 y u):KV (VG kvs k y) (stored vs k u):=by
 unfold VG stored
 rw[r.any k]
 by_cases e:(vs.any fun kv=>decide (kv.1=k))=true
 ·rw[if_pos e,if_pos e];exact r.repl k ry
 ·rw[if_neg e,if_neg e];exact Paired.snoc r ⟨rfl,ry⟩
theorem KV.drop{kvs:List (κ×V)}{vs:List (κ×Value)}(r:KV kvs vs)(k:κ):KV (Zx7 kvs k) (without vs k):=by
 unfold KV at r ⊢
 unfold Zx7 without
 induction r with
 |nil=>exact .nil
 | @cons p q ps qs h t ih =>
  obtain⟨h1,h2⟩:=h
  rw[List.filter_cons,List.filter_cons]
  by_cases e:p.1=k
  ·have a:¬decide (p.1≠k)=true:=by simp[e]
   have b:¬decide (q.1≠k)=true:=by simp[h1.symm.trans e]
   rw[if_neg a,if_neg b];exact ih
  ·have e':¬q.1=k:=fun z=>e (h1.trans z)
   have a:decide (p.1≠k)=true:=by simp[e]
   have b:decide (q.1≠k)=true:=by simp[e']
   rw[if_pos a,if_pos b];exact .cons ⟨h1,h2⟩ ih
theorem KV.keys{kvs:List (κ×V)}{vs:List (κ×Value)}(r:KV kvs vs):kvs.map (·.1)=vs.map (·.1):=by
 unfold KV at r
 induction r with
 |nil=>rfl
 |cons h t ih=>rw[Qe,Qe,ih,h.1]
theorem KV.length{kvs:List (κ×V)}{vs:List (κ×Value)}(r:KV kvs vs):kvs.length=vs.length:=Paired.length r
end
theorem Zgb{P:Program}{w:World}{k:Y5}{u:Value}(r:Z2 (kV k) u):(YV P w).is k u=true:=by
 cases k with
 |inl i=>obtain⟨t,e⟩:=(show ∃t,u=Value.int i t from r);subst e;exact Zj3 P w i t
 |inr x=>obtain⟨t,e⟩:=(show ∃t,u=Value.str x t from r);subst e;exact Zj2 P w x t
theorem Zgd{P:Program}{w:World}:∀{ks:List Y5} {us:List Value},ZM (ks.map kV) us->ItemsAre (YV P w) ks us
 |[],_,r=>by rw[QI]at r;cases r;exact .nil
 |k::ks,_,r=>by
  rw[Qe]at r
  cases r with
  |cons h t=>exact .cons (Zgb h) (Zgd t)
abbrev KT(H:Hp):List (List Y5×V)->List (List Y5×Addr×Value)->Prop:=Paired fun p q=>p.1=q.1/\H q.2.1=some (.tup (p.1.map kV))/\Z2 p.2 q.2.2
theorem KT.val{H:Hp}{kvs:List (List Y5×V)}{xs:List (List Y5×Addr×Value)}(r:KT H kvs xs)(k:List Y5):Za8 (Vh kvs k) ((atKey xs k).map (·.2)):=by
 induction r with
 |nil=>exact True.intro
 | @cons p q ps qs h t ih =>
  obtain⟨h1,_,h2⟩:=h
  by_cases e:p.1=k
  ·have e':q.1=k:=h1.symm.trans e
   have b:atKey (q::qs) k=some q.2:=by simp[atKey,Ju,e']
   rw[Zda e,b];exact h2
  ·have e':¬q.1=k:=fun z=>e (h1.trans z)
   have b:atKey (q::qs) k=atKey qs k:=by simp[atKey,Ju,e']
   rw[Zdb e,b];exact ih
theorem KT.repl{H:Hp}{kvs:List (List Y5×V)}{xs:List (List Y5×Addr×Value)}(r:KT H kvs xs)(k:List Y5){y:V}{u:Value}(ry:Z2 y u) :
  KT H (kvs.map fun kv=>if kv.1=k then(kv.1,y) else kv) (xs.map (putAt k u)):=by
 induction r with
 |nil=>exact .nil
 | @cons p q ps qs h t ih =>
  rw[Qe,Qe]
  refine .cons ?_ ih
  obtain⟨h1,h2,h3⟩:=h
  unfold putAt
  by_cases e:p.1=k
  ·rw[if_pos e,if_pos (h1.symm.trans e)];exact⟨h1,h2,ry⟩
  ·rw[if_neg e,if_neg (fun z=>e (h1.trans z))];exact⟨h1,h2,h3⟩
theorem KT.put{H:Hp}{kvs:List (List Y5×V)}{xs:List (List Y5×Addr×Value)}(r:KT H kvs xs)(k:List Y5){b:Addr}{y:V}{u:Value}(hb:H b=some (.tup (k.map kV)))(ry:Z2 y u) :
  KT H (VG kvs k y) (storedH xs k b u):=by
 have e:(kvs.any fun kv=>decide (kv.1=k))=(atKey xs k).isSome:=by
  rw[Zag,(r.val k).isSome_eq,Option.isSome_map]
 unfold VG storedH
 rw[e]
 by_cases q:(atKey xs k).isSome=true
 ·rw[if_pos q,if_pos q];exact r.repl k ry
 ·rw[if_neg q,if_neg q];exact Paired.snoc r ⟨rfl,hb,ry⟩
theorem KT.keeps{H H':Hp}{kvs:List (List Y5×V)}{xs:List (List Y5×Addr×Value)}(r:KT H kvs xs)(ht:∀b ys,H b=some (.tup ys)->H' b=some (.tup ys)):KT H' kvs xs :=
 Paired.mapP r fun _ _ z=>⟨z.1,ht _ _ z.2.1,z.2.2⟩
section
variable{P:Program}{w:World}{H:Hp}{h:Heap}{a:Addr}
theorem Zxe{u:HO}(ok:UL P w H h)(e:Rd H a u):YI P w H h a u:=e.ok ok
theorem Zev{kvs:List (Y5×V)}(ok:UL P w H h)(e:Rd H a (.dK kvs)):kvs.length<=sizeLine/\(a == sysModules)=false/\∃vs,KV kvs vs/\h.DictOf (YV P w) a vs :=
 show YI P w H h a (.dK kvs) from Zxe ok e
theorem Zx8{kvs:List (Y5×V)}(ok:UL P w H h)(e:H a=some (.dK kvs)):kvs.length<=sizeLine/\(a == sysModules)=false/\∃vs,KV kvs vs/\h.DictOf (YV P w) a vs:=Zev ok (.inl e)
theorem Zed{ks:List Y5}(ok:UL P w H h)(e:H a=some (.tup (ks.map kV))):(tupleKind (YV P w)).is h ks a:=by
 obtain⟨_,its,r,o,h1,h2,n,h3⟩:=(show YI P w H h a (.tup (ks.map kV)) from ok a _ e)
 exact⟨o,its.toArray,n,h1,h2,h3,by simpa using Zgd r⟩
theorem Zgp{kvs:List (List Y5×V)}(ok:UL P w H h)(e:Rd H a (.dT kvs)):kvs.length<=sizeLine/\(a == sysModules)=false /\
  ∃xs,KT H kvs xs/\h.DictOfH (tupleKind (YV P w)) a xs:=by
 obtain⟨z,y,xs,r,o,es,ep,h1,h2,h3,h4,h5⟩:=(show YI P w H h a (.dT kvs) from Zxe ok e)
 refine⟨z,y,xs,r,o,es,ep,h1,h2,h3,h4,fun x hx=>?_,h5⟩
 have all:∀{l:List (List Y5×V)} {m:List (List Y5×Addr×Value)},KT H l m->∀x∈m,(tupleKind (YV P w)).is h x.1 x.2.1:=by
  intro l m q
  induction q with
  |nil=>intro x hx;exact nomatch hx
  | @cons p q ps qs hq t ih =>
   intro x hx
   rcases Qm.mp hx with e|hx
   ·subst e
    exact Zed ok (by rw[<- hq.1];exact hq.2.1)
   ·exact ih x hx
 exact all r x hx
theorem dt_of{kvs:List (List Y5×V)}(ok:UL P w H h)(e:H a=some (.dT kvs)):kvs.length<=sizeLine/\(a == sysModules)=false /\
  ∃xs,KT H kvs xs/\h.DictOfH (tupleKind (YV P w)) a xs:=Zgp ok (.inl e)
end
def Zaa(H:Hp)(a:Addr)(y:V)(r:Option V):Prop :=
 (∃kvs k,Rd H a (.dK kvs)/\y=kV k/\r=Vh kvs k)\/∃kvs k b,Rd H a (.dT kvs)/\y=.ref b/\H b=some (.tup (k.map kV))/\r=Vh kvs k
def Zk6(H:Hp)(a:Addr)(y v:V)(H':Hp):Prop :=
 (∃kvs k,H a=some (.dK kvs)/\y=kV k/\kvs.length<sizeLine/\H'=YZ H a (.dK (VG kvs k v))) \/
 ∃kvs k b,H a=some (.dT kvs)/\y=.ref b/\H b=some (.tup (k.map kV))/\kvs.length<sizeLine/\H'=YZ H a (.dT (VG kvs k v))
theorem Zaa.k{H:Hp}{a:Addr}{kvs:List (Y5×V)}{k:Y5}(e:H a=some (.dK kvs)):Zaa H a (kV k) (Vh kvs k):=.inl ⟨kvs,k,.inl e,rfl,rfl⟩
theorem Zaa.t{H:Hp}{a b:Addr}{kvs:List (List Y5×V)}{k:List Y5}(e:H a=some (.dT kvs))(eb:H b=some (.tup (k.map kV))):Zaa H a (.ref b) (Vh kvs k):=.inr ⟨kvs,k,b,.inl e,rfl,eb,rfl⟩
theorem Zk6.k{H:Hp}{a:Addr}{kvs:List (Y5×V)}{k:Y5}{v:V}(e:H a=some (.dK kvs))(hl:kvs.length<sizeLine):Zk6 H a (kV k) v (YZ H a (.dK (VG kvs k v))):=.inl ⟨kvs,k,e,rfl,hl,rfl⟩
theorem Zk6.t{H:Hp}{a b:Addr}{kvs:List (List Y5×V)}{k:List Y5}{v:V}(e:H a=some (.dT kvs))(eb:H b=some (.tup (k.map kV)))(hl:kvs.length<sizeLine) :
  Zk6 H a (.ref b) v (YZ H a (.dT (VG kvs k v))):=.inr ⟨kvs,k,b,e,rfl,eb,hl,rfl⟩
section
variable{X:Cx}{pins:List (Addr×Obj)}{σ:St}{H:Hp}{s:Shared}{a:Addr}{y v:V}{u r:Value}{o:Option V}{A:Around}{E:Value->Shared->Prop}
theorem ZA.big(I:ZA X pins σ H s):sysModules<s.heap.objs.size:=by
 have h:mainGlobals<s.heap.objs.size:=(I.mod.glob.keeps I.bk).lt
 exact Nat.lt_trans (by decide) h
theorem Zp1{Q:Value->Shared->Prop}(hu:A.units+1<cLine)(I:ZA X pins σ H s)(g:Zaa H a y (some v))(ry:Z2 y u)(h:∀w' s',ZA X pins σ H s'->Z2 v w'->Q w' s') :
  wpAny (model X.prog X.w) A (getItem (.ref a) u) Q E s:=by
 rcases g with⟨kvs,k,e,ey,l⟩|⟨kvs,k,b,e,ey,eb,l⟩
 ·subst ey
  obtain⟨z,hd,vs,rel,dd⟩:=Zev I.hok e
  obtain⟨w',hw,rw'⟩:=Za8.some_of (v:=v) (o:=valueAt vs k) (by rw[l];exact rel.val k)
  exact wpAny_getItem_of (Zgb ry) dd.mapOf hw (h w' _ (I.tok _) rw')
 ·subst ey
  cases (show u=Value.ref b from ry)
  obtain⟨z,hd,xs,rel,dd⟩:=Zgp I.hok e
  obtain⟨w',hw,rw'⟩:=Za8.some_of (v:=v) (o:=(atKey xs k).map (·.2)) (by rw[l];exact rel.val k)
  obtain⟨p,hp,hp2⟩:=Option.map_eq_some_iff.mp hw
  refine wpAny_getItem_heap (tupleKind_room_in1 hu) (Zed I.hok eb) dd hp ?_
  rw[hp2]
  exact h w' _ (I.tok _) rw'
theorem d_in{Q:Value->Shared->Prop}(hu:A.units+1<cLine)(I:ZA X pins σ H s)(g:Zaa H a y o)(ry:Z2 y u)(h:∀s',ZA X pins σ H s'->Q (.bool o.isSome) s') :
  wpAny (model X.prog X.w) A (compareOp .In u (.ref a)) Q E s:=by
 rcases g with⟨kvs,k,e,ey,l⟩|⟨kvs,k,b,e,ey,eb,l⟩
 ·subst ey
  obtain⟨z,hd,vs,rel,dd⟩:=Zev I.hok e
  refine wpAny_in_of (Zgb ry) hd dd.mapOf ?_
  rw[<- (rel.val k).isSome_eq,<- l]
  exact h _ (I.tok _)
 ·subst ey
  cases (show u=Value.ref b from ry)
  obtain⟨z,hd,xs,rel,dd⟩:=Zgp I.hok e
  refine wpAny_in_heap (tupleKind_room_in1 hu) (Zed I.hok eb) hd dd ?_
  have q:=(rel.val k).isSome_eq
  rw[Option.isSome_map]at q
  rw[<- q,<- l]
  exact h _ (I.tok _)
theorem Zig{h':Heap}{t':Nat}{ob:HO}(I:ZA X pins σ H s)(mu:Mut (H a))(hs:Heap.SameBut a s.heap h')(he:∃q,h'.get? a=some q)(new:YI X.prog X.w (YZ H a ob) h' a ob) :
  ZA X pins σ (YZ H a ob) { s with heap:=h',toks:=t' } :=
 I.write (x:=a) (e:=a) mu (.inl rfl) (fun b q hb z=>(hs.2 b hb).trans z) he new
theorem Ztt{P:Program}{w:World}{H':Hp}{h':Heap}{kvs:List (Y5×V)}{vs:List (Y5×Value)}(z:kvs.length<=sizeLine)(hd:(a == sysModules)=false)(rel:KV kvs vs)(dd:h'.DictOf (YV P w) a vs) :
  YI P w H' h' a (.dK kvs):=⟨z,hd,vs,rel,dd⟩
theorem Zp0{H':Hp}{Q:Unit->Shared->Prop}(hu:A.units+1<cLine)(I:ZA X pins σ H s)(g:Zk6 H a y v H')(ry:Z2 y u)(rv:Z2 v r)(h:∀s',ZA X pins σ H' s'->Q () s') :
  wpAny (model X.prog X.w) A (setItem (.ref a) u r) Q E s:=by
 rcases g with⟨kvs,k,e,ey,l,eH⟩|⟨kvs,k,b,e,ey,eb,l,eH⟩
 ·subst ey eH
  obtain⟨z,hd,vs,rel,dd⟩:=Zx8 I.hok e
  have hz:vs.length<=sizeLine:=by rw[<- rel.length];exact z
  have hl:(VG kvs k v).length<=sizeLine:=by have:=Uh kvs k v;omega
  refine wpAny_setItem_pairs (hsz:=hz) (Zgb ry) dd fun h' dd' hs=>h _ ?_
  have he:∃q,h'.get? a=some q:=let⟨q,_,_,hq,_⟩:=dd';⟨q,hq⟩
  exact Zig I (by rw[e];exact True.intro) hs he (Ztt hl hd (rel.put k rv) dd')
 ·subst ey eH
  cases (show u=Value.ref b from ry)
  obtain⟨z,hd,xs,rel,dd⟩:=dt_of I.hok e
  have hz:xs.length<=sizeLine:=by rw[<- Paired.length rel];exact z
  have hl:(VG kvs k v).length<=sizeLine:=by have:=Uh kvs k v;omega
  refine wpAny_setItem_heap (hsz:=hz) (tupleKind_room_in1 hu) (Zed I.hok eb) dd fun h' dd' hs=>h _ ?_
  obtain⟨q,es,ep,hq,h2,h3,h4,_,h5⟩:=dd'
  refine Zig I (by rw[e];exact True.intro) hs ⟨q,hq⟩ ⟨hl,hd,_,(rel.put k eb rv).keeps fun c ys ec=>?_,q,es,ep,hq,h2,h3,h4,h5⟩
  rw[ZE (ne_of ec e (fun z=>nomatch z))]
  exact ec
end
section
variable{X:Cx}{pins:List (Addr×Obj)}{σ:St}{H:Hp}{s:Shared}{a:Addr}{kvs:List (Y5×V)}{k:Y5}{u:Value}{A:Around}{E:Value->Shared->Prop}
theorem d_len{Q:Value->Shared->Prop}(I:ZA X pins σ H s)(e:Rd H a (.dK kvs))(h:∀t s',ZA X pins σ H s'->Q (.int kvs.length t) s'):wpAny (model X.prog X.w) A (call (.builtin "len") [.ref a]) Q E s:=by
 obtain⟨z,hd,vs,rel,dd⟩:=Zev I.hok e
 refine call_len_dict hd dd (by rw[<- rel.length];rw[Q3]at z;omega) ?_
 rw[<- rel.length]
 exact h _ _ (I.tok _)
end
def Z1p(i:Expr):Prop:=∀ov iv,subscripted i false ov iv=operate [ov,iv] (getItem ov iv)
theorem Zu1{prog:Program}{w:World}{A:Around}{E:Value->Shared->Prop}{s:Shared}{env:Env}{value slice:Expr}{pos:Pos}{T id:String}{Q:Value->Shared->Prop}
  (hl:typeLookup (.type T) "__getitem__"=pure (some (.builtin id))) (hs:Z1p slice)
  (h:wpAny (model prog w) A (eval value env) (fun o s₁=>wpAny (model prog w) A (eval slice env) (fun i s₂=>s₂.TypeIs o T/\wpAny (model prog w) A (getItem o i) Q E s₂) E s₁) E s) :
  wpAny (model prog w) A (eval (.Subscript value slice pos) env) Q E s:=by
 refine Subscript_ (Jx h (fun o s₁ h₁=>Jx h₁ (fun i s₂ h₂=>?_) fun _ _ x=>x) fun _ _ x=>x)
 obtain⟨hT,h₂⟩:=h₂
 unfold subscriptTail
 refine Qa ?_
 rw[getitemInPython_of_ne hT.not_modules]
 refine Qa (wpAny_specialOf hT hl ?_)
 have fin:wpAny (model prog w) A (subscripted slice false o i) (fun r s₃=>wpAny (model prog w) A (letTemporaryGo value o r >>= fun _=>pure r) Q E s₃) E s₂:=by
  rw[hs o i]
  exact wpAny_operating (Jx h₂ (fun r s₃ h₃=>Qa (wpAny_letTemporaryGo (Qh h₃))) fun _ _ x=>x)
 first
  |exact Qh (Qa fin)
  |exact Qa (Qh (Qa fin))
  |exact Qa fin
theorem Zkr{X:Cx}{pins:List (Addr×Obj)}{σ:St}{H:Hp}{s:Shared}{a:Addr}{y:V}{o:Option V}(I:ZA X pins σ H s)(g:Zaa H a y o):s.TypeIs (.ref a) "dict":=by
 rcases g with⟨kvs,k,e,_,_⟩|⟨kvs,k,b,e,_,_,_⟩
 ·obtain⟨_,_,vs,_,dd⟩:=Zev I.hok e
  exact dd.typeIs
 ·obtain⟨_,_,xs,_,dd⟩:=Zgp I.hok e
  exact dd.typeIs
def tDGet(td ty:TE):TE:=fun σ H Q=>td σ H fun x H1=>ty σ H1 fun y H2=>∃a v,x=.ref a/\Zaa H2 a y (some v)/\Q v H2
def sDPut(td ty tv:TE):TS:=fun D σ H=>tv σ H fun v H1=>td σ H1 fun x H2=>ty σ H2 fun y H3=>∃a H4,x=.ref a/\Zk6 H3 a y v H4/\D.nx σ H4
section
variable{X:Cx}{o i e value:Expr}{pos pos' tpos:Pos}{td ty tv:TE}
theorem Zvv(hu:X.A.units+1<cLine)(ho:PE X o td)(hi:PE X i ty)(hs:Z1p i):PE X (.Subscript o i pos) (tDGet td ty):=by
 intro pins s σ H Q I h
 refine Zu1 PySem.F.slot_dict_getitem.lookup hs (Xd (ho pins s σ H _ I h) fun u s1 ⟨x,H1,I1,rx,q1⟩=>Xd (hi pins s1 σ H1 _ I1 q1) fun iv s2 ⟨y,H2,I2,ry,a,v,ex,g,q2⟩=>?_)
 subst ex
 obtain rfl:u=Value.ref a:=rx
 exact⟨Zkr I2 g,Zp1 hu I2 g ry fun w' s3 I3 rw'=>⟨v,H2,I3,rw',q2⟩⟩
theorem Zvl(hu:X.A.units+1<cLine)(ho:PE X o td)(hi:PE X i ty)(hv:PE X value tv)(hs:swapsWith value (some (.Subscript o i pos')) pos.line X.env=pure false) :
  PS X (.Assign [.Subscript o i pos'] value pos) (sDPut td ty tv):=by
 intro pins s σ H D I h
 refine wpAny_Assign_Subscript (Xd (hv pins s σ H _ I h) fun r s1 ⟨v,H1,I1,rv,q1⟩=>Xd (ho pins s1 σ H1 _ I1 q1) fun u s2 ⟨x,H2,I2,rx,q2⟩=>Xd (hi pins s2 σ H2 _ I2 q2) fun iv s3 ⟨y,H3,I3,ry,a,H4,ex,g,q3⟩=>?_) hs
 subst ex
 obtain rfl:u=Value.ref a:=rx
 exact Zp0 hu I3 g ry rv fun s4 I4=>⟨σ,H4,I4,q3⟩
end
theorem Ztv{P:Program}{w:World}{H:Hp}(h:Heap)(hb:sysModules<h.objs.size):YI P w H (h.push { cls:=.type "dict",data:=.dict #[] }) h.objs.size (.dK []) :=
 ⟨QZ _,beq_eq_false_iff_ne.mpr (Ne.symm (Qy hb)),[],.nil,Heap.DictOf.new h⟩
theorem Zts{P:Program}{w:World}{H:Hp}(h:Heap)(hb:sysModules<h.objs.size):YI P w H (h.push { cls:=.type "dict",data:=.dict #[] }) h.objs.size (.dT []) :=
 ⟨QZ _,beq_eq_false_iff_ne.mpr (Ne.symm (Qy hb)),[],.nil,_,#[],0,Qv _ rfl,⟨rfl,rfl,rfl⟩,rfl,rfl,List.nodup_nil⟩
def Zyw:TE:=fun _ H Q=>∀p,H p=none->Q (.ref p) (YZ H p (.dT []))
section
variable{X:Cx}{pos:Pos}
theorem Zr0:PE X (.Dict [] [] pos) Zyw:=fun pins s σ H Q I h =>
 wpAny_Dict_empty ⟨.ref s.heap.objs.size,_,I.laid (a:=s.heap.objs.size) (o:=.dT []) (t':=s.toks) (fun _ _ q=>Qf _ q) (Qj _) (Zts s.heap I.big),rfl,h _ (I.hok.fresh (Qj _))⟩
end
def Zlp:List (TE×TE)->St->Hp->(List (V×V)->Hp->Prop)->Prop
 |[],_,H,Q=>Q [] H
 |(tk,tv)::r,σ,H,Q=>tk σ H fun x H1=>tv σ H1 fun y H2=>Zlp r σ H2 fun ps H3=>Q ((x,y)::ps) H3
abbrev VV:List (V×V)->List (Value×Value)->Prop:=Paired fun p q=>Z2 p.1 q.1/\Z2 p.2 q.2
def PPs(X:Cx)(pos:Pos)(keys:List (Option Expr))(values:List Expr)(UM:List (TE×TE)):Prop :=
 ∀(pins:List (Addr×Obj)) (s:Shared) (σ:St) (H:Hp) (Q:List (V×V)->Hp->Prop),ZA X pins σ H s->Zlp UM σ H Q ->
  wpAny (model X.prog X.w) X.A (evalPairs (pairTrees keys values X.env pos)) (fun vs s'=>∃ps H',ZA X pins σ H' s'/\VV ps vs/\Q ps H') X.xe s
theorem Zvn{X:Cx}{pos:Pos}:PPs X pos [] [] []:=fun pins s σ H Q I h=>pairTrees_nil_walk ⟨[],H,I,.nil,h⟩
theorem Zrr{X:Cx}{pos:Pos}{k v:Expr}{ks:List (Option Expr)}{vs:List Expr}{tk tv:TE}{UM:List (TE×TE)}(hk:PE X k tk)(hv:PE X v tv)(hr:PPs X pos ks vs UM) :
  PPs X pos (some k::ks) (v::vs) ((tk,tv)::UM):=fun pins s σ H Q I h =>
 pairTrees_cons_walk (Xd (hk pins s σ H _ I h) fun u s1 ⟨x,H1,I1,rx,q1⟩=>Xd (hv pins s1 σ H1 _ I1 q1) fun w2 s2 ⟨y,H2,I2,ry,q2⟩ =>
  Xd (hr pins s2 σ H2 _ I2 q2) fun ws s3 ⟨ps,H3,I3,rel,q3⟩=>⟨(x,y)::ps,H3,I3,.cons ⟨rx,ry⟩ rel,q3⟩)
def Zd5(kvs more:List (Y5×V)):List (Y5×V):=more.foldl (fun acc kv=>VG acc kv.1 kv.2) kvs
theorem KV.merge:∀{more:List (Y5×V)} {rs:List (Y5×Value)} {kvs:List (Y5×V)} {vs:List (Y5×Value)},KV more rs->KV kvs vs->KV (Zd5 kvs more) (merged vs rs):=by
 intro more rs kvs vs r
 unfold KV at r
 induction r generalizing kvs vs with
 |nil=>intro q;exact q
 | @cons p q ps qs h t ih =>
  intro r0
  have e:KV (VG kvs p.1 p.2) (stored vs q.1 q.2):=by
   have:=r0.put p.1 h.2
   rw[<- h.1];exact this
  exact ih e
theorem UP:∀(more kvs:List (Y5×V)),(Zd5 kvs more).length<=kvs.length+more.length
 |[],kvs=>by show kvs.length<=kvs.length+0;omega
 |p::r,kvs=>by
  have h1:=UP r (VG kvs p.1 p.2)
  have h2:=Uh kvs p.1 p.2
  show(Zd5 (VG kvs p.1 p.2) r).length<=_
  rw[Qk];omega
theorem Ze1{P:Program}{w:World}:∀{kvs:List (Y5×V)} {ws:List (Value×Value)},VV (kvs.map fun kv=>(kV kv.1,kv.2)) ws->∃rs,Carries (YV P w) ws rs/\KV kvs rs
 |[],_,r=>by rw[QI]at r;cases r;exact⟨[],True.intro,.nil⟩
 |p::kvs,_,r=>by
  rw[Qe]at r
  cases r with
  | @cons a b as bs h t =>
   obtain⟨rs,c,q⟩:=Ze1 (P:=P) (w:=w) t
   obtain⟨b1,b2⟩:=b
   exact⟨(p.1,b2)::rs,⟨Zgb h.1,rfl,c⟩,.cons ⟨rfl,h.2⟩ q⟩
def tDisp(UM:List (TE×TE)):TE:=fun σ H Q=>∀p,H p=none->Zlp UM σ (YZ H p (.dK [])) fun ps H2=>H2 p=some (.dK [])/\∃kvs:List (Y5×V),ps=kvs.map (fun kv=>(kV kv.1,kv.2))/\kvs.length<=15/\Q (.ref p) (YZ H2 p (.dK (Zd5 [] kvs)))
theorem Zvu{X:Cx}{pos:Pos}{keys:List (Option Expr)}{values:List Expr}{UM:List (TE×TE)}(h:PPs X pos keys values UM)(hall:keys.all (·.isSome)=true)(hl:keys.length=values.length)(h0:keys≠[])
  (h15:keys.length<=15):PE X (.Dict keys values pos) (tDisp UM):=by
 intro pins s σ H Q I q
 have hn:=I.hok.fresh (Qj s.heap.objs.size)
 have I1:=I.laid (a:=s.heap.objs.size) (o:=.dK []) (h':=s.heap.push { cls:=.type "dict",data:=.dict #[] }) (t':=s.toks) (fun _ _ q=>Qf _ q) (Qj _) (Ztv s.heap I.big)
 refine wpAny_Dict_walk (knd:=YV X.prog X.w) hall hl h0 h15 (Xd (h pins _ σ _ _ I1 (q _ hn)) fun ws s2 ⟨ps,H2,I2,rel,e,kvs,ep,lk,q2⟩=>?_)
 subst ep
 obtain⟨rs,c,rk⟩:=Ze1 (P:=X.prog) (w:=X.w) rel
 obtain⟨z,hd,vs0,r0,dd⟩:=Zx8 I2.hok e
 cases r0
 refine⟨rs,c,dd,fun h' dd' hs=>⟨.ref s.heap.objs.size,_,?_,rfl,q2⟩⟩
 have hz:(Zd5 [] kvs).length<=sizeLine:=by
  have h1:=UP kvs []
  rw[Q7]at h1
  rw[Q3];omega
 have he:∃q,h'.get? s.heap.objs.size=some q:=let⟨q,_,_,hq,_⟩:=dd';⟨q,hq⟩
 exact Zig I2 (by rw[e];exact True.intro) hs he (Ztt hz hd (rk.merge .nil) dd')
structure M1(X:Cx)(o:Expr)(m:Str)(apos:Pos)(e:Expr)(cpos:Pos):Prop where
 base:attributeBase o m X.env (eval o X.env)=eval o X.env
 few:((backTo cpos (starEach [e] X.env)).all (fun x=>!x.1)&&(backToKw cpos (keywordEach [] X.env)).all (fun x=>x.1.isSome)
  && decide (([e]:List Expr).length+([]:List Keyword).length+(if([]:List Keyword).isEmpty then 0 else 1)<30))=true
 line:(apos.endLine == cpos.line)=true
 trees:backTo cpos (starEach [e] X.env)=[(false,eval e X.env)]
structure M2(X:Cx)(o:Expr)(m:Str)(apos:Pos)(e f:Expr)(cpos:Pos):Prop where
 base:attributeBase o m X.env (eval o X.env)=eval o X.env
 few:((backTo cpos (starEach [e,f] X.env)).all (fun x=>!x.1)&&(backToKw cpos (keywordEach [] X.env)).all (fun x=>x.1.isSome)
  && decide (([e,f]:List Expr).length+([]:List Keyword).length+(if([]:List Keyword).isEmpty then 0 else 1)<30))=true
 line:(apos.endLine == cpos.line)=true
 trees:backTo cpos (starEach [e,f] X.env)=[(false,eval e X.env),(false,eval f X.env)]
def IsD(H:Hp)(a:Addr):Prop:=(∃kvs,Rd H a (.dK kvs))\/∃kvs,Rd H a (.dT kvs)
theorem Z0p{X:Cx}{pins:List (Addr×Obj)}{σ:St}{H:Hp}{s:Shared}{a:Addr}(I:ZA X pins σ H s)(d:IsD H a) :
  s.TypeIs (.ref a) "dict"/\(∀b,Value.ref a=.ref b->∃ob,s.heap.get? b=some ob/\ob.dict=none)/\(a == sysModules)=false:=by
 rcases d with⟨kvs,e⟩|⟨kvs,e⟩
 ·obtain⟨_,hd,vs,_,dd⟩:=Zev I.hok e
  refine⟨dd.typeIs,fun b q=>?_,hd⟩
  cases q
  obtain⟨ob,_,_,h1,h2,_⟩:=dd
  exact⟨ob,h1,h2.2.1⟩
 ·obtain⟨_,hd,xs,_,dd⟩:=Zgp I.hok e
  refine⟨dd.typeIs,fun b q=>?_,hd⟩
  cases q
  obtain⟨ob,_,_,h1,h2,_⟩:=dd
  exact⟨ob,h1,h2.2.1⟩
section
variable{X:Cx}{pins:List (Addr×Obj)}{σ:St}{H:Hp}{s:Shared}{a:Addr}{y d:V}{u r:Value}{o:Option V}{A:Around}{E:Value->Shared->Prop}
theorem Z05{Q:Value->Shared->Prop}(hu:A.units+1<cLine)(I:ZA X pins σ H s)(g:Zaa H a y o)(ry:Z2 y u)(rd:Z2 d r)(h:∀w' s',ZA X pins σ H s'->Z2 (o.getD d) w'->Q w' s') :
  wpAny (model X.prog X.w) A (call (.builtin "dict.get") [.ref a,u,r]) Q E s:=by
 rcases g with⟨kvs,k,e,ey,l⟩|⟨kvs,k,b,e,ey,eb,l⟩
 ·subst ey
  obtain⟨z,hd,vs,rel,dd⟩:=Zev I.hok e
  refine call_meetsIn PySem.F.slot_dict_get dd.typeIs PySem.F.entry_dict_get (PySem.F.args_dict_get_3 _ _ _) (meets_dict_get_default (YV X.prog X.w) a (Zgb ry) hd r) ⟨_,dd.mapOf,h _ _ (I.tok _) ?_⟩
  rw[l]
  exact(rel.val k).getD rd
 ·subst ey
  cases (show u=Value.ref b from ry)
  obtain⟨z,hd,xs,rel,dd⟩:=Zgp I.hok e
  refine call_meetsIn PySem.F.slot_dict_get dd.typeIs PySem.F.entry_dict_get (PySem.F.args_dict_get_3 _ _ _) (meetsH_dict_get_default (tupleKind (YV X.prog X.w)) a b hd r) ⟨tupleKind_room_in1 hu,k,xs,Zed I.hok eb,dd,h _ _ (I.tok _) ?_⟩
  rw[l]
  exact(rel.val k).getD rd
end
def Zyx(td ty tx:TE):TE:=fun σ H Q=>td σ H fun x H1=>∃a,x=.ref a/\IsD H1 a/\ty σ H1 fun y H2=>tx σ H2 fun z H3=>∃o,Zaa H3 a y o/\Q (o.getD z) H3
section
variable{X:Cx}{o e f:Expr}{apos cpos:Pos}{td ty tx:TE}
theorem Zr1(hu:X.A.units+1<cLine)(ho:PE X o td)(he:PE X e ty)(hf:PE X f tx)(m:M2 X o "get" apos e f cpos):PE X (.Call (.Attribute o "get" apos) [e,f] [] cpos) (Zyx td ty tx):=by
 intro pins s σ H Q I h
 refine wpAny_Call_method m.base m.few m.line PySem.F.plainAttrs_dict PySem.F.slot_dict_get PySem.F.type_dict_get (Xd (ho pins s σ H _ I h) fun u s1 ⟨x,H1,I1,rx,a,ex,d,q1⟩=>?_)
 subst ex
 obtain rfl:u=Value.ref a:=rx
 obtain⟨t1,t2,_⟩:=Z0p I1 d
 refine⟨t1,t2,?_⟩
 rw[m.trees]
 refine Calls.callWith_builtin rfl (Calls.evalArgs_plain (Calls.spliced_cons (Xd (he pins s1 σ H1 _ I1 q1) fun iv s2 ⟨y,H2,I2,ry,q2⟩ =>
  Calls.spliced_cons (Xd (hf pins s2 σ H2 _ I2 q2) fun fv s3 ⟨z,H3,I3,rz,ov,g,q3⟩=>Calls.spliced_nil ?_))))
 exact Z05 hu I3 g ry rz fun w' s4 I4 rw'=>⟨_,H3,I4,rw',q3⟩
end
section
variable{X:Cx}{pins:List (Addr×Obj)}{σ:St}{H:Hp}{s:Shared}{a:Addr}{kvs:List (Y5×V)}{A:Around}{E:Value->Shared->Prop}
end
section
variable{X:Cx}{pins:List (Addr×Obj)}{σ:St}{H:Hp}{s:Shared}{a:Addr}{y:V}{u:Value}{A:Around}{E:Value->Shared->Prop}
end
end L2
namespace Att
open PySem PySem.W PySem.Calls PyProof.Rows
theorem Zcs{P:Params}{h:Heap}:∀(ns:List Int) (vs:List Value),WellAll P h vs (ns.map WData.int)->IntsAre vs ns:=by
 intro ns
 induction ns with
 |nil =>
  intro vs w
  rw[QI]at w
  cases w
  exact .nil
 |cons n ns ih =>
  intro vs w
  rw[Qe]at w
  cases w with
  |cons a b =>
   cases a
   exact .cons _ _ (ih _ b)
theorem Zoq{l:OpenLaw}{n:Nat}(hn:l.most=some n){P:Params}{h:Heap}{args:List WData}{vals:List Value}
  (hpre:l.row.toRowW.claim.pre args=true) (hwl:WellAll P h vals args) :
  ∃a vs ns,vals=[Value.ref a]/\args=[WData.list (ns.map WData.int)]/\h.get? a=some { cls:=.type "list",data:=.seq vs.toArray }/\IntsAre vs ns/\ns.length<=n:=by
 have hsh:WShape.hasAll [] args [.list .int]=true:=(pre_splitW hpre).1
 have hc:l.pre.holds [] { args:=args }=true:=(pre_splitW hpre).2
 obtain⟨d,r,rfl,h1,h2⟩:=hasAllW_cons hsh
 obtain rfl:=hasAllW_nil h2
 obtain⟨xs,rfl,h3⟩:=hasW_list h1
 obtain⟨ns,rfl⟩:=items_int h3
 have hlen:ns.length<=n:=by
  unfold OpenLaw.pre at hc
  have h4:(WTm.not (.lt (.lit (.int (n:Int))) (.len (.arg 0)))).holds [] { args:=[.list (ns.map .int)] }=true:=by
   have h4:=(holds_andW hc).1
   rw[hn]at h4
   exact h4
  have h5:=condW_of h4 (w_not (w_lt w_lit (w_len_list (w_arg rfl))))
  rw[Qb]at h5
  refine Nat.le_of_not_lt fun q=>?_
  have q':(n:Int)<((ns.length:Nat):Int):=by omega
  first
   |(rw[decide_eq_true q']at h5;exact absurd h5 (by decide))
   |(simp at h5;omega)
 cases hwl with
 |cons w1 w2 =>
  cases w2
  cases w1 with
  |list ho hall=>exact⟨_,_,ns,rfl,rfl,ho,Zcs ns _ hall,hlen⟩
theorem Zo0(l:OpenLaw)(args:List WData):l.row.toRowW.claim.post args (.bool true) args=true :=
 postW_of (r:=l.row.toRowW) (X:=(true == true))
  (show WShape.has [] (.bool true) .bool=true by first|rfl|decide|simp[WShape.has,WShape.arms,WShape.armsAll])
  (show(WTm.eq .res (.lit (.bool true))).value [] { args:=args,res:=some (.bool true),after:=args }=some (.bool (true == true)) from w_eq_bool (w_res rfl) w_lit) rfl
theorem attach_call{l:OpenLaw}{n:Nat}{q:Program}{loose:List Str}{XP:(Str->Option Value)->Heap->Prop}{YP:World->Heap->Prop}{d:DefRec}
  (hn:l.most=some n) (hdf:d.params.defaults=[])
  (call:∀(w:World) (s₀ s₁:Shared) (mg mb:Str->Option Value) (fa:Addr) (o:Obj) (pm cd doc:Value) (a:Addr) (vs:List Value) (ns:List Int),
   Ground q loose [] XP w s₀ mg mb s₁.heap->YP w s₁.heap ->
   s₁.heap.get? fa=some o->o.data=.func (docDef d.name d.params d.body d.scope pm cd doc)->s₁.heap.CodeRec cd d.name->mg d.name=some (.ref fa) ->
   s₁.heap.get? a=some { cls:=.type "list",data:=.seq vs.toArray }->IntsAre vs ns->ns.length<=n->s₁.gens=#[] ->
   codeAny (model l.prog w) callerA (.call (.ref fa) ⟨[.ref a],[]⟩) (fun r s'=>r=.ok (.ret (.bool true))/\OldK s₁.heap s'.heap/\s'.os=s₁.os/\AllBare s'.gens) s₁) :
  WalkO q loose XP YP l.row.toRowW d [] (fun f vs=>PySem.call f vs):=by
 intro w s₀ s₁ mg mb G Y fa o pm cd doc dV kV ho hd hcd hD hmg hg args vals as hpre hlay hrd hwl hlo
 obtain rfl:dV=.none:=Dflts.none hD hdf
 obtain rfl:kV=.none:=Dflts.noKw hD
 obtain⟨a,vs,ns,rfl,rfl,hobj,hints,hlen⟩:=Zoq hn hpre hwl
 refine enter_call (codeAny_mono (call w s₀ s₁ mg mb fa o pm cd doc a vs ns G Y ho (fd_plain hd) hcd hmg hobj hints hlen hg) fun r s' hq=>?_)
 obtain⟨rfl,h2,h3,h4⟩:=hq
 exact⟨.inl ⟨.bool true,.bool true,[],rfl,fun _=>rfl,.bool true,Zo0 l _,fun _=>⟨List.Pairwise.nil,fun _ hm=>(nomatch hm)⟩⟩,h2,h3,h4⟩
section
variable{prog:Program}{w:World}{A:Around}{E:Value->Shared->Prop}{s:Shared}{K:Frag}
end
end Att
namespace L2
open PySem PySem.Spec PyProof.Rows
theorem Zfu:∀{vs:List Value} {ns:List Int},IntsAre vs ns->ZM (ns.map V.int) vs
 |_,_,.nil=>.nil
 |_,_,.cons n t h=>.cons ⟨t,rfl⟩ (Zfu h)
def Z1o(H:Hp):Prop:=∀b,H b=none\/∃o xs,H b=some (.frz o (.lst xs))
theorem Zss{P:Program}{w:World}{K:PySem.W.Frag}{mg mb:Str->Option Value}{CX:Zod}{k:Nat}{fa a:Addr}{fd:FuncData}{x:Str}{sp:Sp}{s₁:Shared}{vs:List Value}{ns:List Int}
  (KX:K.In s₁.heap) (hns:s₁.heap.Ns mainGlobals mg) (hb:s₁.heap.Ns builtinsNs mb) (hbb:∀x:Str,x≠"__name__"->mb x=bootBuiltins x) (hlim:s₁.heap.NoLimit) (hg:s₁.gens=#[])
  (ha:s₁.heap.get? a=some { cls:=.type "list",data:=.seq vs.toArray }) (hi:IntsAre vs ns) (hl:ns.length<=sizeLine) (hr:X9 k callerA)
  (F:∀base:Heap,K.In base->base.Ns mainGlobals mg->Vm P w K mg base CX k fa fd [x] sp) (hbind:∀(s:Shared) (u:Value),BindsTo s fd ⟨[u],[]⟩ [(x,u)])
  (hsp:∀H:Hp,Z1o H->XX K H a (ns.map V.int)->sp [.ref a] H (fun v _=>v=.bl true) fun _ _ _=>False)
  (hCX:∀H e s',CX [] H s₁ (fun _ _ _=>False) e s'->False) :
  codeAny (model P w) callerA (.call (.ref fa) ⟨[.ref a],[]⟩) (fun r s'=>r=.ok (.ret (.bool true))/\OldK s₁.heap s'.heap/\s'.os=s₁.os/\AllBare s'.gens) s₁:=by
 have rv:=Zfu hi
 have lenV:=hi.length
 have core:∀H:Hp,Z1o H->XX K H a (ns.map V.int)->UL P w H s₁.heap->(∀b,H b≠none->b=a)->(H a≠none->K.lookup a=none) ->
   codeAny (model P w) callerA (.call (.ref fa) ⟨[.ref a],[]⟩) (fun r s'=>r=.ok (.ret (.bool true))/\OldK s₁.heap s'.heap/\s'.os=s₁.os/\AllBare s'.gens) s₁:=by
  intro H hO hS hok hA hK
  have base_of:∀{b:Addr} {o:Obj},s₁.heap.get? b=some o->H b=none->(Zia s₁.heap H).get? b=some o:=fun e n=>Zta e n
  have noA:∀{b:Addr} {o:Obj} {es:Array DictEntry} {ep:Nat},s₁.heap.get? b=some o->o.data=.dict es ep->H b=none:=fun{b o es ep} e d=>by
   cases q:H b with
   |none=>rfl
   |some u =>
    have e':b=a:=hA b (by rw[q];simp)
    subst e'
    rw[ha]at e;cases e
    have d':Data.seq vs.toArray _=Data.dict es ep:=d
    cases d'
  have nsK:∀{b:Addr} {m:Str->Option Value},s₁.heap.Ns b m->(Zia s₁.heap H).Ns b m:=fun{b m} ⟨o,es,ep,e,d,r⟩=>⟨o,es,ep,base_of e (noA e d),d,r⟩
  have hKb:K.In (Zia s₁.heap H):=fun b o e=>base_of (KX b o e) (by
   cases q:H b with
   |none=>rfl
   |some u =>
    have e':b=a:=hA b (by rw[q];simp)
    subst e'
    rw[hK (by rw[q];simp)]at e;cases e)
  have hM:Mod K mg (Zia s₁.heap H):=⟨hKb,nsK hns,⟨mb,nsK hb,hbb⟩,let⟨mc,h1,h2⟩:=hlim;⟨mc,nsK h1,h2⟩⟩
  have e0:Zmz P w K mg (Zia s₁.heap H) callerA [] s₁ H:=⟨rfl,hM,fun b o e=>Zv5 e,Nat.le_of_eq (Zpp _ _),trivial,fun b hb=>absurd (show b∈([]:List Addr) from hb) (by simp),hok,.of_eq hg⟩
  refine codeAny_mono ((F _ hKb (nsK hns)).run callerA [] s₁ H ⟨[.ref a],[]⟩ [.ref a] [.ref a] _ _ hr e0 (hbind s₁ (.ref a)) (.cons rfl .nil) (hsp H hO hS)) fun r s' h=>?_
  cases r with
  |error e=>exact(hCX H e s' h).elim
  |ok fl =>
   cases fl with
   |next=>exact False.elim h
   |brk=>exact False.elim h
   |cont=>exact False.elim h
   |ret u =>
    obtain⟨v,H',os,bare,un,hok',r',q⟩:=h
    have q':v=.bl true:=q
    subst q'
    obtain rfl:u=Value.bool true:=r'
    refine⟨rfl,OldK.of_keep fun b o e=>?_,os,bare⟩
    cases q:H b with
    |none=>exact un.keep b o e q (by intro z;exact absurd (show b∈([]:List Addr) from z) (by simp)) (by simp)
    |some u =>
     rcases hO b with z|⟨ob,xs,z⟩
     ·rw[q]at z;cases z
     ·have z2:=un.frzs b ob _ z
      obtain⟨e1,_⟩:=hok b _ z
      obtain⟨e2,_⟩:=hok' b _ z2
      rw[e]at e1;cases e1
      exact e2
 cases hk:K.lookup a with
 |some o =>
  have e:=KX a o hk
  rw[ha]at e
  cases e
  refine core (fun _=>none) (fun _=>.inl rfl) (.inr ⟨_,vs.toArray,_,hk,rfl,rfl,rfl,by rw[Ql,lenV];exact hl,by simpa using rv⟩) (fun b u z=>by have z':(none:Option HO)=some u:=z;cases z') (fun b z=>absurd rfl z) fun z=>absurd rfl z
 |none =>
  refine core (fun b=>if b=a then some (.frz { cls:=.type "list",data:=.seq vs.toArray } (.lst (ns.map V.int))) else none) (fun b=>?_) (.inl (.inr ⟨{ cls:=.type "list",data:=.seq vs.toArray },if_pos rfl⟩)) (fun b u z=>?_) (fun b z=>?_) fun _=>hk
  ·by_cases hb:b=a
   ·exact .inr ⟨_,_,if_pos hb⟩
   ·exact .inl (if_neg hb)
  ·by_cases hb:b=a
   ·have z':=(if_pos hb).symm.trans z
    cases z'
    subst hb
    exact⟨ha,by rw[Qb];exact hl,vs,_,rv,ha⟩
   ·have z':=(if_neg hb).symm.trans z
    cases z'
  ·by_cases hb:b=a
   ·exact hb
   ·exact absurd (if_neg hb) z
abbrev KOf{K:PySem.W.Frag}{h:Heap}(_:K.In h):PySem.W.Frag:=K
theorem walk_of{l:PySem.W.OpenLaw}{n k:Nat}{q:Program}{loose:List Str}{XP:(Str->Option Value)->Heap->Prop}{YP:World->Heap->Prop}{d:DefRec}{K:Params->PySem.W.Frag}{CX:World->Zod}{sp:World->Sp}{x:Str}
  (hn:l.most=some n) (hn2:n<=sizeLine) (hdf:d.params.defaults=[]) (hr:X9 k callerA)
  (hY:∀(w:World) (h:Heap),YP w h->(K w.params).In h)
  (F:∀(w:World) (mg:Str->Option Value) (fa:Addr) (h:Heap),(K w.params).In h->h.Ns mainGlobals mg->mg d.name=some (.ref fa) ->
   ∃fd:FuncData,(∀(s:Shared) (u:Value),BindsTo s fd ⟨[u],[]⟩ [(x,u)]) /\
    ∀base:Heap,(K w.params).In base->base.Ns mainGlobals mg->Vm l.prog w (K w.params) mg base (CX w) k fa fd [x] (sp w))
  (hsp:∀(w:World) (H:Hp) (a:Addr) (ns:List Int),ns.length<=n->Z1o H->XX (K w.params) H a (ns.map V.int)->sp w [.ref a] H (fun v _=>v=.bl true) fun _ _ _=>False)
  (hCX:∀(w:World) (H:Hp) (s:Shared) (e:Value) (s':Shared),CX w [] H s (fun _ _ _=>False) e s'->False) :
  PySem.W.WalkO q loose XP YP l.row.toRowW d [] (fun f vs=>PySem.call f vs):=by
 refine Att.attach_call hn hdf fun w s₀ s₁ mg mb fa o pm cd doc a vs ns G Y ho hd hcd hmg hobj hints hlen hg=>?_
 have KX:=hY w _ Y
 obtain⟨fd,hb,hF⟩:=F w mg fa _ KX G.T.g hmg
 exact Zss KX G.T.g G.T.b G.T.builtins G.T.nolimit hg hobj hints (Jt hlen hn2) hr hF hb (fun H hO hS=>hsp w H a ns hlen hO hS) fun H e s'=>hCX w H s₁ e s'
end L2
/- THE LAST THEOREM (shape;LID,My.* are yours):
  My.Adr: a structure of the addresses that your layer names (classes,functions);My.Txt K t: a structure (Prop) of the equations over K;
  My.txt_mk:{K} {implicit addresses ..} (e1:nsIn K mainGlobals "law"=some (some (.ref f))) (e2:K.lookup f=some ⟨oc,od,.func (fnOf "law" "law" params body scope dV kV doc pm an cdv ct),sl⟩) (e3:codeIn K cdv "law"=true) ..:∃t,My.Txt K t
set_option maxRecDepth 100000 in
set_option maxHeartbeats 0 in
theorem PySem.Challenge.cw_LID_holds : PySem.Challenge.rw_LID.Holds := by
 w_on;o_law;k_head;(case hw=>w_witness2)
 k_fill
 refine L2.walk_of (l:=PySem.Challenge.rw_LID) (n:=63) (k:=40) (x:="script") (CX:=fun w=>..) (sp:=fun _=>My.sp_law) rfl (by decide) rfl ⟨rfl,by decide,by decide⟩ (fun w h Y=>PySem.W.kIn_of Y) ?F ?S ?C
 case F =>
  intro w mg fa h KX G hmg
  have T:∃t,My.Txt (L2.KOf KX) t:=by
   dsimp only[L2.KOf]
   refine' My.txt_mk ?e1 ?e2 ?e3 ..
   (case e1=>PySem.W.k_is)
   (case e2=>PySem.W.k_is)
   ..
  obtain⟨t,T⟩:=T
  have e0:=hmg.symm.trans (Qs KX G T.law)
  cases e0
  exact⟨_,fun s u=>.of_eq rfl,fun base kb nb=>My.law_fn T kb nb⟩
 case S=>exact fun w H a ns hl hO hS=>..
 case C=>exact ..
(the tactic k_is has no namespace: write k_is) -/
namespace L2
open PySem PySem.Spec PyProof.Rows
def VT(s:Stmt):Arguments:=match s with
 |.FunctionDef _ a _ _ _ _ _ _ _ _=>a
 |_=>{ posonlyargs:=[],args:=[],vararg:=none,kwonlyargs:=[],kw_defaults:=[],kwarg:=none,defaults:=[] }
def X5(s:Stmt):List Stmt:=match s with
 |.FunctionDef _ _ b _ _ _ _ _ _ _=>b
 |_=>[]
def Zk(s:Stmt):Scope:=match s with
 |.FunctionDef _ _ _ _ _ _ sc _ _ _=>sc
 |_=>{ kind:=.function,names:=[],isGenerator:=false,isCoroutine:=false }
abbrev Zm1:Zod:=fun _ _ _ _ _ _=>False
abbrev E0:XK:=fun _ _ _=>False
theorem Zxl{X:Cx}:Zmy Zm1 X E0:=fun _ _ _ _ _ _ _ h=>h.elim
structure WN(K:PySem.W.Frag)(x qual:Str)(st:Stmt)(f:Addr)(fd:FuncData):Prop where
 ex:∃(oc:Value) (od:Option Addr) (kV doc pm:Value) (an:Option Addr) (cdv ct:Value) (osl:Array (Option Value)),
  fd=PySem.W.fnOf x qual (VT st) (X5 st) (Zk st) .none kV doc pm an cdv ct/\K.lookup f=some ⟨oc,od,.func fd,osl⟩/\PySem.W.codeIn K cdv qual=true
 kp:PySem.W.keepIn K (.ref f)=true
section
variable{P:Program}{w:World}{K:PySem.W.Frag}{mg:Str->Option Value}{base:Heap}
theorem WN.ok{x qual:Str}{st:Stmt}{f:Addr}{fd:FuncData}{N ps:List Str}{k:Nat}{sp:Sp}(F:WN K x qual st f fd)(S:Zy N ps (Zk st))(len:∀vs H Q E,sp vs H Q E->vs.length=ps.length)
  (hbody:∀(cdv:Value) (A:Around) (outer:List Env) (s:Shared) (H:Hp) (vs:List V) (Q:VK) (E:XK),X9 k (A.deeper (envOfC qual (Zk st) s.heap.objs.size f cdv))->sp vs H Q E ->
   ∃t,Zc7 (Zih Zm1 P w K mg base N qual (Zk st) f cdv A outer s H E).nox (X5 st) t/\t { nx:=fun _ H'=>Q .non H',rt:=Q } (start N vs) H):Vm P w K mg base Zm1 (k+1) f fd ps sp:=by
 obtain⟨oc,od,kV,doc,pm,an,cdv,ct,osl,rfl,lk,hcd⟩:=F.ex
 refine fn_of lk hcd S len fun A outer s H vs Q E hr hsp=>?_
 obtain⟨t,h,q⟩:=hbody cdv A outer s H vs Q E hr hsp
 exact⟨t,h.nox,q⟩
theorem WN.binds{x qual:Str}{st:Stmt}{f:Addr}{fd:FuncData}{ps:List Str}(F:WN K x qual st f fd)
  (h:∀(kV doc pm:Value) (an:Option Addr) (cdv ct:Value) (us:List Value),us.length=ps.length->bindArgs (PySem.W.fnOf x qual (VT st) (X5 st) (Zk st) .none kV doc pm an cdv ct) ⟨us,[]⟩=pure (ps.zip us)):Zbd K fd ps []:=by
 obtain⟨oc,od,kV,doc,pm,an,cdv,ct,osl,rfl,lk,hcd⟩:=F.ex
 exact .all (h kV doc pm an cdv ct)
theorem Ztg{x qual:Str}{st:Stmt}{f:Addr}{oc:Value}{od an:Option Addr}{osl:Array (Option Value)}{kV doc pm cdv ct:Value}(l:K.lookup f=some ⟨oc,od,.func (PySem.W.fnOf x qual (VT st) (X5 st) (Zk st) .none kV doc pm an cdv ct),osl⟩)
  (c:PySem.W.codeIn K cdv qual=true) (k:PySem.W.keepIn K (.ref f)=true):WN K x qual st f (PySem.W.fnOf x qual (VT st) (X5 st) (Zk st) .none kV doc pm an cdv ct):=⟨⟨oc,od,kV,doc,pm,an,cdv,ct,osl,rfl,l,c⟩,k⟩
end
section
variable{X:Cx}
theorem Zp7:X7 X (.builtin "len") (fun xs H Q=>∃a kvs,xs=[V.ref a]/\H a=some (.dK kvs)/\Q (.int kvs.length) H):=by
 intro pins s σ H xs us Q I r h
 obtain⟨a,kvs,rfl,ha,q⟩:=h
 obtain⟨u,rfl,ru⟩:=WB r
 cases ru
 exact d_len I (.inl ha) fun t s' I'=>⟨.int kvs.length,H,I',⟨t,rfl⟩,q⟩
end
def Zg(H H':Hp):Prop:=∀b o,H b=some o->H' b=some o
theorem Zg.refl(H:Hp):Zg H H:=fun _ _ h=>h
theorem Zg.trans{H H1 H2:Hp}(a:Zg H H1)(b:Zg H1 H2):Zg H H2:=fun c o h=>b c o (a c o h)
theorem Zg.free{H H':Hp}(e:Zg H H'){l:Addr}(h:H' l=Option.none):H l=Option.none:=by
 cases q:H l with
 |none=>rfl
 |some o =>
  rw[e l o q]at h
  cases h
theorem Zg.seq{K:PySem.W.Frag}{H H':Hp}{a:Addr}{xs:List V}(e:Zg H H')(h:XX K H a xs):XX K H' a xs:=by
 rcases h with(h|⟨o,h⟩)|h
 ·exact .inl (.inl (e _ _ h))
 ·exact .inl (.inr ⟨o,e _ _ h⟩)
 ·exact .inr h
section
variable{κ:Type} [DecidableEq κ]
end
end L2

set_option maxRecDepth 100000
set_option maxHeartbeats 4000000
namespace L2
open PySem PySem.Spec PyProof.Rows
def Yc(X:Cx)(N:List Str)(scope:Scope)(cl:List (Str×Addr))(C:Addr)(s:Shared)(H:Hp)(fp:List Addr):Cx where
 prog:=X.prog
 w:=X.w
 K:=X.K
 mg:=X.mg
 base:=X.base
 A:=X.A
 N:=N
 s₀:=s
 H₀:=H
 env:=compEnvC scope cl C X.env
 outer:=X.stack
 stack:=X.stack
 ex:=fp
 fn:=fun _=>false
 calm:=X.calm
 pn:=[]
 xe:=fun _ _=>False
section
variable{X:Cx}{pins:List (Addr×Obj)}{σ:St}{H:Hp}{s:Shared}{N:List Str}{scope:Scope}{cl:List (Str×Addr)}{C:Addr}{fp:List Addr}
theorem Zp2(I:ZA X pins σ H s)(hk:scope.kind=.function)(hC:s.heap.objs.size<=C)(hf:∀b∈fp,Zba X pins H b)(ho:∀b∈fp,∃o,s.heap.get? b=some o)
  (hsub:∀x c,cl.lookup x=some c->X.env.cells.lookup x=some c)
  (hhas:∀x,((relabel scope X.env).names.lookup x=some .cell\/(relabel scope X.env).names.lookup x=some .free)->∃c,cl.lookup x=some c) :
  (Yc X N scope cl C s H fp).Ok where
 mod:=I.ok.mod
 kind:=hk
 glob:=I.ok.glob
 blt:=I.ok.blt
 above:=hC
 inj:=fun x y c h1 h2=>I.ok.inj x y c (hsub x c h1) (hsub y c h2)
 has:=hhas
 cab:=fun _ _ h=>nomatch h
 hd:=I.ok.hd
 frames:=I.ok.frames
 stk:=.inl rfl
 exf:=fun b hb=>by
  obtain⟨o,e⟩:=ho b hb
  exact⟨Qy (QJ (Qr e) hC),fun x c z=>(hf b hb).2.2.2.2.1 x c (hsub x c z)⟩
 bs:=I.bs
 bsz:=Jt I.ok.bsz I.sz
 noex:=fun b o e hb=>by
  rcases(hf b hb).2.2.2.1 with z|z
  ·exact I.ok.noex b o e z
  ·exact absurd (QJ (QJ (Qr e) I.ok.bsz) z) (JP _)
 exfs:=fun b hb hm=>by
  rcases Qm.mp (I.stkSub b hm) with z|z
  ·exact(hf b hb).2.1 z
  ·exact(hf b hb).2.2.1 z
 funs:=I.stack
 frf:=I.stkFree
theorem Un.withNew{fs ex:List Addr}{H H':Hp}{h h':Heap}{a:Addr}{o:HO}(u:Un fs ex H H' h h')(hn:h.get? a=none)(hH:H a=none):Un fs ex H (YZ H' a o) h h' where
 keep:=u.keep
 slot:=u.slot
 free:=fun b ob q n hx=>by
  have:b≠a:=by rintro rfl;rw[hn]at q;cases q
  rw[ZE this];exact u.free b ob q n hx
 there:=u.there
 tups:=fun b xs q=>by rw[ZE (ZW q hH)];exact u.tups b xs q
 frzs:=fun b ob xs q=>by rw[ZE (ZW q hH)];exact u.frzs b ob xs q
 tbls:=fun b ps q=>by rw[ZE (ZW q hH)];exact u.tbls b ps q
theorem UL.withNew{P:Program}{w:World}{H:Hp}{h:Heap}{a:Addr}{o:HO}(x:UL P w H h)(hH:H a=none)(new:YI P w (YZ H a o) h a o):UL P w (YZ H a o) h:=fun b u e=>by
 by_cases hb:b=a
 ·subst hb;rw[ZS]at e;cases e;exact new
 ·rw[ZE hb]at e
  exact(x b u e).stay (fun _ _ _ q=>q) (fun c q=>by rw[ZE (ZW q hH)];exact q) fun c xs q=>by rw[ZE (ZW q hH)];exact q
theorem Zii{prog:Program}{w:World}{A:Around}{R:Result->Shared->Prop}{elt tg iter:Expr}{ifs:List Expr}{scope:Scope}{pos:Pos}{it acc:Value}{env:Env}{s:Shared}
  (J:Nat->Shared->Prop)
  (turn:∀n s,J n s->wpAny (model prog w) A (pyNext it) (fun r s1=>match r with
   |none=>R (.ok .next) s1
   |some v=>wpAny (model prog w) A (letOwnedTupleGo tg it v) (fun _ s2=>wpAny (model prog w) A (assign tg env v) (fun _ s3 =>
     wpAny (model prog w) A (forIn ifs true fun c r=>if r=true then do let ok <- isTrue c env (eval c env);pure (ForInStep.yield ok) else pure (ForInStep.yield r)) (fun ok s4 =>
      if ok=true then wpAny (model prog w) A (eval elt env) (fun x s5=>wpAny (model prog w) A (call (.builtin "list.append") [acc,x]) (fun _ s6=>∃m,m<n/\J m s6) (fun _ _=>False) s5) (fun _ _=>False) s4
      else ∃m,m<n/\J m s4) (fun _ _=>False) s3) (fun _ _=>False) s2) (fun _ _=>False) s1) (fun _ _=>False) s)
  (n:Nat) (h:J n s):codeAny (model prog w) A (.compLoop (.ListComp elt [⟨tg,iter,ifs,0⟩] scope pos) 0 it acc env) R s:=by
 refine codeAny_loop rfl J (fun k t hJ=>?_) n h
 show wpAny _ A ((compTurn (.ListComp elt [⟨tg,iter,ifs,0⟩] scope pos) 0 it acc env).onRaise _) _ _ t
 refine wpAny_noted ?_
 rw[compTurn_list]
 have ff:∀{E':Value->Shared->Prop} (x:Value) (y:Shared),False->E' x y:=fun _ _ f=>f.elim
 refine Qa (wpAny_standAt (Qa (Jx (turn k t hJ) (fun r s1 h1=>?_) ff)))
 cases r with
 |none=>exact Qh h1
 |some v =>
  refine Qa (Jx h1 (fun _ s2 h2=>?_) ff)
  refine Qa (Jx h2 (fun _ s3 h3=>?_) ff)
  refine Qa (Jx h3 (fun ok s4 h4=>?_) ff)
  cases ok with
  |false=>exact Qh ⟨rfl,h4⟩
  |true =>
   refine Qa (Qa (Jx h4 (fun x s5 h5=>?_) ff))
   exact Qa (Jx h5 (fun _ s6 h6=>Qh (Qh ⟨rfl,h6⟩)) ff)
def Z1n(X:Cx)(ifs:List Expr)(t:TT):Prop :=
 ∀(pins:List (Addr×Obj)) (s:Shared) (σ:St) (H:Hp) (Q:Bool->Hp->Prop),ZA X pins σ H s->t σ H Q ->
  wpAny (model X.prog X.w) X.A (forIn ifs true fun c r=>if r=true then do let ok <- isTrue c X.env (eval c X.env);pure (ForInStep.yield ok) else pure (ForInStep.yield r)) (TP X pins σ Q) X.xe s
def tYes:TT:=fun _ H Q=>Q true H
theorem Zvi{X:Cx}:Z1n X [] tYes:=fun _ _ _ H _ I h=>wpAny_tests_nil ⟨H,I,h⟩
theorem Zvh{X:Cx}{c:Expr}{t:TT}(h:PT X c t):Z1n X [c] t:=fun pins s σ H Q I hw=>wpAny_tests_one (h pins s σ H Q I hw)
def Zwq:Option NameKind->Bool
 |some .cell=>true
 |some .free=>true
 |_=>false
theorem Zh6{k:Option NameKind}(h:Zwq k=true):k=some .cell\/k=some .free:=by
 cases k with
 |none=>cases h
 |some k=>cases k<;>first|exact .inl rfl|exact .inr rfl|cases h
def Zdy(XN N:List Str)(n:Nat)(scope:Scope)(env:Env)(ix:List Nat):Bool :=
 (List.range ix.length).all fun j=>match ix[j]? with
  |some i=>(match XN[i]? with
   |some x=>(N[n+j]? == some x)&&Zwq ((relabel scope env).names.lookup x)&&Zwq (env.kindOf x)
   |none=>false)
  |none=>false
def U3(scope:Scope)(cells:List (Str×Addr)):Bool:=scope.names.all fun y=>if y.2 == .free then(cells.lookup y.1).isSome else true
def Wv(cells:List (Str×Addr)):List (Str×NameKind)->List (Str×Addr)->List (Str×Addr)
 |[],acc=>acc
 |(n,k)::r,acc=>Wv cells r (if k == .free then(match cells.lookup n with|some a=>(n,a)::acc|none=>acc) else acc)
theorem Zfk{scope:Scope}{env:Env}(h:U3 scope env.cells=true):closureFor scope env=pure (Wv env.cells scope.names []):=by
 unfold U3 at h
 simp only[closureFor]
 generalize scope.names=ns at h
 generalize ([]:List (Str×Addr))=acc
 induction ns generalizing acc with
 |nil=>rfl
 |cons y r ih =>
  obtain⟨n,k⟩:=y
  simp only[JN,QO]at h
  obtain⟨h1,h2⟩:=h
  have ih':=fun acc=>ih h2 acc
  simp only[List.forIn_cons,Wv]
  by_cases hk:(k == NameKind.free)=true
  ·simp only[hk,if_true]at h1 ⊢
   cases e:env.cells.lookup n with
   |none=>rw[e]at h1;cases h1
   |some a =>
    have ec:cellOf env n=pure a:=by unfold cellOf;rw[e]
    rw[ec]
    exact ih' _
  ·simp only[hk,Qo,if_false]
   exact ih' _
theorem Zex{cells:List (Str×Addr)}{x:Str}{c:Addr}:∀(ns:List (Str×NameKind)) (acc:List (Str×Addr)),(∀y d,acc.lookup y=some d->cells.lookup y=some d) ->
  (Wv cells ns acc).lookup x=some c->cells.lookup x=some c
 |[],acc,ha,h=>ha x c h
 |(n,k)::r,acc,ha,h=>by
  unfold Wv at h
  refine Zex r _ (fun y d hy=>?_) h
  split at hy
  ·split at hy
   ·rename_i a e
    rw[List.lookup_cons]at hy
    cases q:y == n with
    |true =>
     rw[q]at hy
     have:y=n:=by simpa using q
     subst this
     cases hy;exact e
    |false=>rw[q]at hy;exact ha y d hy
   ·exact ha y d hy
  ·exact ha y d hy
theorem Zez{cells:List (Str×Addr)}{x:Str}:∀(ns:List (Str×NameKind)) (acc:List (Str×Addr)),(acc.lookup x).isSome=true->((Wv cells ns acc).lookup x).isSome=true
 |[],_,h=>h
 |(n,k)::r,acc,h=>by
  unfold Wv
  refine Zez r _ ?_
  split
  ·split
   ·rw[List.lookup_cons]
    split
    ·rfl
    ·exact h
   ·exact h
  ·exact h
theorem Zey{cells:List (Str×Addr)}{x:Str}:∀(ns:List (Str×NameKind)) (acc:List (Str×Addr)),(x,NameKind.free)∈ns->(ns.all fun y=>if y.2 == .free then(cells.lookup y.1).isSome else true)=true ->
  ((Wv cells ns acc).lookup x).isSome=true
 |[],_,h,_=>by cases h
 |(n,k)::r,acc,h,ha=>by
  simp only[JN,QO]at ha
  unfold Wv
  rcases Qm.mp h with e|e
  ·cases e
   refine Zez r _ ?_
   have h1:=ha.1
   simp only[beq_self_eq_true,if_true]at h1 ⊢
   cases q:cells.lookup x with
   |none=>rw[q]at h1;cases h1
   |some a=>simp[List.lookup_cons]
  ·exact Zey r _ e ha.2
theorem VF{env:Env}{x:Str}:∀{names:List (Str×NameKind)},(∀y∈names,y.2≠.cell) ->
  Zwq ((names.map fun(n,k)=>if(k == NameKind.free&&env.scope.kind == .function&&env.kindOf n == some .cell) then(n,NameKind.cell) else(n,k)).lookup x)=true->(x,NameKind.free)∈names
 |[],_,h=>by cases h
 |(n,k)::r,hc,h=>by
  have ih:=VF (env:=env) (x:=x) (names:=r) (fun y hy=>hc y (Qc _ hy))
  rw[Qe]at h
  by_cases q:(x == n)=true
  ·have e:x=n:=by simpa using q
   subst e
   by_cases hk:k=.free
   ·subst hk;exact Qd
   ·exfalso
    have h0:(k == NameKind.free)=false:=by simpa using hk
    simp only[h0,Bool.false_and,Qo,if_false,List.lookup_cons,beq_self_eq_true]at h
    have hc':=hc (x,k) Qd
    cases k<;>first|exact absurd rfl hk|exact absurd rfl hc'|cases h
  ·have q':(x == n)=false:=by simpa using q
   refine Qc _ (ih ?_)
   by_cases hc2:(k == NameKind.free&&env.scope.kind == .function&&env.kindOf n == some .cell)=true
   ·simp only[hc2,if_true,List.lookup_cons,q']at h;exact h
   ·simp only[hc2,Qo,if_false,List.lookup_cons,q']at h;exact h
def Zxb(n:Nat)(ix:List Nat)(σ:St):St:=List.replicate n none++ix.map fun i=>(σ[i]?).getD none
def Zi8(n:Nat)(ix:List Nat)(wi:TI)(g:TG)(tt:TT)(te:TE):TE:=fun σ H Q=>wi σ H fun J H1=>∃W:Nat->Nat->List V->St->Hp->Prop,(∃m,W 0 m [] (Zxb n ix σ) H1) /\
 ∀i m ys σ' H',W i m ys σ' H' ->
  (J.stop i H'/\ys.length<=sizeLine/\∀l,H' l=none->Q (.ref l) (YZ H' l (.lst ys))) \/
  (J.go i H'/\ys.length<sizeLine/\∀x H2,J.yld i H' x H2->g x σ' H2 fun σ2 H3=>tt σ2 H3 fun b H4 =>
   if b=true then te σ2 H4 fun y H5=>∃m',m'<m/\W (i+1) m' (ys++[y]) σ2 H5 else ∃m',m'<m/\W (i+1) m' ys σ2 H4)
theorem Zg9(n:Nat)(ix:List Nat)(σ:St):(Zxb n ix σ).length=n+ix.length:=by simp[Zxb]
theorem Zu2{n:Nat}{ix:List Nat}{σ:St}{i:Nat}{v:V}(h:(Zxb n ix σ)[i]?=some (some v)):∃j k,i=n+j/\ix[j]?=some k/\σ[k]?=some (some v):=by
 unfold Zxb at h
 by_cases hi:i<n
 ·rw[QL (by simpa using hi),QV]at h
  split at h<;>cases h
 ·rw[QT (by simpa using hi),QC]at h
  simp only[JG]at h
  cases e:ix[i-n]? with
  |none=>rw[e]at h;cases h
  |some k =>
   rw[e]at h
   simp only[J4]at h
   refine⟨i-n,k,by omega,e,?_⟩
   cases q:σ[k]? with
   |none=>rw[q]at h;cases h
   |some w=>rw[q]at h;simpa using h
abbrev Zbu(its:List Value)(k:Nat):Obj:={ cls:=.type "list",data:=.seq its.toArray k }
theorem Zmn{acc:Addr}{n:Nat}{ix:List Nat}{h1:Heap}{m0:Str->Option Value}{t1:Nat}(I:ZA X pins σ H s)(ok:(Yc X N scope cl C s H fp).Ok)
  (hsub:∀x c,cl.lookup x=some c->X.env.cells.lookup x=some c) (hhas:∀x,(x,NameKind.free)∈scope.names->∃c,cl.lookup x=some c) (hcell:∀y∈scope.names,y.2≠.cell)
  (hNl:N.length=n+ix.length) (hout:Zdy X.N N n scope X.env ix=true)
  (hacc:acc=s.heap.objs.size) (hC:C=s.heap.objs.size+1) (hk:∀b o,s.heap.get? b=some o->h1.get? b=some o) (ha:h1.get? acc=some (Zbu [] 0)) (hn:h1.Ns C m0) :
  ZA (Yc X N scope cl C s H fp) [(acc,Zbu [] 0)] (Zxb n ix σ) H { s with heap:=h1,toks:=t1 }:=by
 subst hacc
 subst hC
 have frA:H s.heap.objs.size=none:=I.hok.fresh (Qj _)
 have frC:H (s.heap.objs.size+1)=none:=I.hok.fresh (Jv _)
 refine⟨ok,rfl,I.bare,Un.kept hk,⟨m0,hn,fun i x v e1 e2 _=>?_⟩,fun x c e=>?_,frC,fun x c e=>I.freeC x c (hsub x c e),fun p hp=>?_,I.hok.kept hk,?_⟩
 ·obtain⟨j,k,rfl,e3,e4⟩:=Zu2 e2
  unfold Zdy at hout
  have hj:j<ix.length:=(Qp.mp e3).1
  have q:=Ja.mp hout j (QK.mpr hj)
  simp only[e3]at q
  cases e5:X.N[k]? with
  |none=>rw[e5]at q;cases q
  |some y =>
   rw[e5]at q
   simp only[QO,beq_iff_eq]at q
   obtain⟨⟨q1,q2⟩,q3⟩:=q
   have exy:x=y:=by
    have e1':N[n+j]?=some x:=e1
    rw[e1']at q1;exact Q9 q1
   subst exy
   obtain⟨m,hm,hl⟩:=I.loc
   have hv:Zul X.env.scope x:=by
    rcases Zh6 q3 with z|z
    ·exact .inr (.inl z)
    ·exact .inr (.inr z)
   obtain⟨u,ru,lk⟩:=hl k x v e5 e4 hv
   refine⟨u,ru,.inr ⟨Zh6 q2,?_⟩⟩
   have hfree:=VF hcell q2
   obtain⟨c,hc⟩:=hhas x hfree
   refine⟨c,hc,?_⟩
   rcases lk with⟨k1,_⟩|⟨_,c',e6,z⟩
   ·rcases Zh6 q3 with w|w<;>(rw[w]at k1;cases k1)
   ·have:=hsub x c hc
    rw[e6]at this;cases this
    obtain⟨oc,ho,hd⟩:=z
    exact⟨oc,hk _ _ ho,hd⟩
 ·obtain⟨v,oc,ho,hd⟩:=I.cell x c (hsub x c e)
  exact⟨v,oc,hk _ _ ho,hd⟩
 ·have:p=(s.heap.objs.size,Zbu [] 0):=by simpa [Yc] using hp
  subst this
  refine⟨ha,frA,Qy (JE _),fun hb=>?_,fun v z=>by cases z⟩
  have hb':s.heap.objs.size∈Zkl X.stack:=hb
  rcases Qm.mp (I.stkSub _ hb') with z|z
  ·exact absurd I.lt (by rw[<- z];exact JP _)
  ·exact I.nofs (Qj _) z
 ·rw[Zg9];exact hNl.symm
theorem Ztz{acc:Addr}{σ':St}{H':Hp}{s':Shared}{its:List Value}{k:Nat}{ys:List V}(I:ZA X pins σ H s)(J:ZA (Yc X N scope cl C s H fp) [(acc,Zbu its k)] σ' H' s')
  (hf:∀b∈fp,Zba X pins H b) (hacc:acc=s.heap.objs.size) (rv:ZM ys its) (hl:ys.length<=sizeLine):H' acc=none/\ZA X pins σ (YZ H' acc (.lst ys)) s':=by
 obtain⟨e,n,_,_,_⟩:=J.pin (acc,Zbu its k) (Qg _ (by simp))
 refine⟨n,?_⟩
 subst hacc
 have hn:s.heap.get? s.heap.objs.size=none:=Heap.get?_none_of_le (Qj _)
 refine I.call' (ch:=fp) J.os (Un.withNew J.base hn (I.hok.fresh (Qj _))) (UL.withNew J.hok n ⟨hl,its,k,rv,e⟩) J.bare fun b hb=>?_
 obtain⟨f0,f1,f2,f3,f4,f5⟩:=hf b hb
 exact⟨f3,f1,f4,f5⟩
theorem Zmo{it acc:Addr}{tn:Nat->Heap->Prop}{J:It}{elt tg iter:Expr}{ifs:List Expr}{pos:Pos}{g:TG}{tt:TT}{te:TE}{Q:VK}{s4:Shared}(hc:X.calm=true)
  (I:ZA X pins σ H s) (T:Zmw X.prog X.w X.K tg J fp it tn) (hf:∀b∈fp,Zba X pins H b) (ho:∀b∈fp,∃o,s.heap.get? b=some o) (hacc:acc=s.heap.objs.size) (hC:C=s.heap.objs.size+1)
  (hg:PG (Yc X N scope cl C s H fp) tg g) (ht:Z1n (Yc X N scope cl C s H fp) ifs tt) (he:PE (Yc X N scope cl C s H fp) elt te)
  (W:Nat->Nat->List V->St->Hp->Prop) (hW:∀i m ys σ' H',W i m ys σ' H' ->
   (J.stop i H'/\ys.length<=sizeLine/\∀l,H' l=none->Q (.ref l) (YZ H' l (.lst ys))) \/
   (J.go i H'/\ys.length<sizeLine/\∀x H2,J.yld i H' x H2->g x σ' H2 fun σ2 H3=>tt σ2 H3 fun b H4 =>
    if b=true then te σ2 H4 fun y H5=>∃m',m'<m/\W (i+1) m' (ys++[y]) σ2 H5 else ∃m',m'<m/\W (i+1) m' ys σ2 H4))
  (m:Nat) (h0:∃σ0,ZA (Yc X N scope cl C s H fp) [(acc,Zbu [] 0)] σ0 H s4/\W 0 m [] σ0 H) (st:tn 0 s4.heap) :
  codeAny (model X.prog X.w) X.A (.compLoop (.ListComp elt [⟨tg,iter,ifs,0⟩] scope pos) 0 (.ref it) (.ref acc) (compEnvC scope cl C X.env))
   (fun r s'=>r=.ok .next/\∃H',H' C=none/\(∃m',s'.heap.Ns C m')/\ZA X pins σ H' s'/\Q (.ref acc) H') s4:=by
 have ff:∀{E':Value->Shared->Prop} (x:Value) (y:Shared),False->E' x y:=fun _ _ f=>f.elim
 obtain⟨σ0,I0,w0⟩:=h0
 have accle:s.heap.objs.size<=acc:=by rw[hacc];exact Qj _
 have nC:C≠acc:=by rw[hC,hacc];exact Nat.ne_of_gt (JE _)
 have accfp:acc∉fp:=fun hb=>by
  obtain⟨o,e⟩:=ho acc hb
  exact absurd (QJ (Qr e) accle) (JP _)
 have xfp:∀{its:List Value} {k:Nat} {H':Hp},(∀b∈fp,H' b=none)->∀b∈fp,Zba (Yc X N scope cl C s H fp) [(acc,Zbu its k)] H' b:=fun{its k H'} hn b hb =>
  ⟨hn b hb,(I0.ok.exf b hb).1,I0.ok.exfs b hb,.inl hb,(I0.ok.exf b hb).2,fun p hm=>by
   have hm':p=(acc,Zbu its k):=by simpa [Yc] using hm
   subst hm'
   intro z
   exact accfp (by rw[show acc=b from z];exact hb)⟩
 refine Zii (fun n s'=>∃i ys its k σ' H',ZA (Yc X N scope cl C s H fp) [(acc,Zbu its k)] σ' H' s'/\tn i s'.heap/\(∀b∈fp,H' b=none)/\ZM ys its/\W i n ys σ' H') ?_ m
  ⟨0,[],[],0,σ0,H,I0,st,fun b hb=>(hf b hb).1,.nil,w0⟩
 rintro n s5 ⟨i,ys,its,k,σ5,H5,I5,st5,fr5,rv,w5⟩
 rcases hW i n ys σ5 H5 w5 with⟨stop,hl,q⟩|⟨go,hl,step⟩
 ·refine Xd (T.done (Yc X N scope cl C s H fp) rfl rfl rfl hc i _ s5 σ5 H5 _ I5 (xfp fr5) st5 stop) fun r s6 ⟨hr,I6⟩=>?_
  subst hr
  obtain⟨n6,J6⟩:=Ztz I I6 hf hacc rv hl
  obtain⟨m6,hm6,_⟩:=I6.loc
  exact⟨rfl,_,(by rw[ZE nC];exact I6.free),⟨m6,hm6⟩,J6,q acc n6⟩
 ·refine Xd (T.item (Yc X N scope cl C s H fp) rfl rfl rfl hc i _ s5 σ5 H5 _ I5 (xfp fr5) st5 go) fun r s6 ⟨u,hr,h6⟩=>?_
  subst hr
  refine Xd h6 fun _ s7 ⟨x,H7,I7,r7,y7,st7,fr7⟩=>?_
  have I7':=I7.pinned (xfp fr7) (T.obj _ _ st7)
  refine Xd (hg _ s7 σ5 H7 x u _ I7' r7 (step x H7 y7)) fun _ s8 ⟨σ8,H8,I8,q8⟩=>?_
  refine Xd (ht _ s8 σ8 H8 _ I8 q8) fun ok s9 ⟨H9,I9,q9⟩=>?_
  have back:∀{H':Hp} {s':Shared},ZA (Yc X N scope cl C s H fp) ([(acc,Zbu its k)]++Zdw fp s7.heap) σ8 H' s'->tn (i+1) s'.heap/\∀b∈fp,H' b=none:=fun{H' s'} I' =>
   ⟨T.keep _ _ _ st7 fun b hb o e=>(I'.pin (b,o) (Qg _ (Qg _ (VL hb e)))).1,fun b hb=>by
    obtain⟨o,e,d⟩:=T.obj _ _ st7 b hb
    exact(I'.pin (b,o) (Qg _ (Qg _ (VL hb e)))).2.1⟩
  cases ok with
  |false =>
   rw[if_neg QE]at q9
   rw[if_neg QE]
   obtain⟨m',hm,w'⟩:=q9
   exact⟨m',hm,i+1,ys,its,k,σ8,H9,I9.unpinned,(back I9).1,(back I9).2,rv,w'⟩
  |true =>
   rw[if_pos rfl]at q9
   rw[if_pos rfl]
   refine Xd (he _ s9 σ8 H9 _ I9 q9) fun y Zap ⟨v,H10,I10,r10,q10⟩=>?_
   obtain⟨m',hm,w'⟩:=q10
   obtain⟨b1,b2⟩:=back I10
   have J10:=I10.unpinned
   obtain⟨ea,na,nL,nF,nD⟩:=J10.pin (acc,Zbu its k) (Qg _ (by simp))
   have hsz:its.toArray.size<=sizeLine:=by
    have:=rv.length
    simp only[Ql];omega
   refine wpAny_list_append_plain (hsz:=hsz) ⟨k,ea⟩ fun h' ⟨k',e'⟩ sb=>?_
   have hpu:its.toArray.push y=(its++[y]).toArray:=by simp
   rw[hpu]at e'
   refine⟨m',hm,i+1,ys++[v],its++[y],k',σ8,H10,?_,T.keep _ _ _ b1 fun b hb o e=>(sb.2 b (fun z=>accfp (z▸hb))).trans e,b2,rv.append (.cons r10 .nil),w'⟩
   have J11:ZA (Yc X N scope cl C s H fp) [] σ8 H10 Zap:=J10.pins_of fun p hp=>absurd hp (by simp)
   have J12:ZA (Yc X N scope cl C s H fp) [] σ8 H10 { Zap with heap:=h' }:=J11.turned (t':=Zap.toks) (it:=acc) (fun b o hb e=>(sb.2 b hb).trans e) na nL
    (.inr accle) (fun x c e z=>by
     obtain⟨w1,oc,hoc,hd⟩:=J10.cell x c e
     have:Zap.heap.get? acc=some oc:=by rw[<- z];exact hoc
     rw[ea]at this;cases this;cases hd) (fun p hp=>absurd (show p∈([]:List (Addr×Obj))++[] from hp) (by simp))
   refine J12.pins_of fun p hp=>?_
   have:p=(acc,Zbu (its++[y]) k'):=by simpa using hp
   subst this
   exact⟨e',na,nL,nF,fun v z=>by cases z⟩
theorem Zy1(cells:List (Str×Addr))(ns:List (Str×NameKind)):∀x c,(Wv cells ns []).lookup x=some c->cells.lookup x=some c:=fun _ _ h=>Zex ns [] (fun _ _ z=>by cases z) h
theorem Zkx{elt tg iter:Expr}{ifs:List Expr}{pos p2:Pos}{n:Nat}{ix:List Nat}{wi:TI}{g:TG}{tt:TT}{te:TE}{Q:VK}{use:Option (Value->Sem Unit)}{R:Value->Shared->Prop}
  (hc:X.calm=true) (hi:PI X tg iter wi)
  (hg:∀cl C s H fp,PG (Yc X N scope cl C s H fp) tg g) (ht:∀cl C s H fp,Z1n (Yc X N scope cl C s H fp) ifs tt) (he:∀cl C s H fp,PE (Yc X N scope cl C s H fp) elt te)
  (hk:scope.kind=.function) (hcell:(scope.names.all fun y=>!(y.2 == .cell))=true) (hnames:(scope.names.all fun y=>!(y.2 == .local)||(scope.names.lookup y.1 == some .local))=true)
  (hNl:N.length=n+ix.length) (hout:Zdy X.N N n scope X.env ix=true) (hfree:U3 scope X.env.cells=true) (hs:∀x,foldedSetIterable iter X.env x=pure x)
  (I:ZA X pins σ H s) (h:Zi8 n ix wi g tt te σ H Q)
  (fin:∀acc C s',(∃H',H' C=none/\C≠X.env.locals/\X.s₀.heap.objs.size<=C/\(∀x c,X.env.cells.lookup x=some c->c≠C)/\(∀p∈X.pn++pins,p.1≠C)/\(∃m',s'.heap.Ns C m')/\ZA X pins σ H' s'/\Q (.ref acc) H') ->
   compPost (model X.prog X.w) X.A X.xe use R (.ref acc) C (.ok .next) s') :
  wpAny (model X.prog X.w) X.A (comprehension (.ListComp elt [⟨tg,iter,ifs,0⟩] scope pos) scope X.env p2 (newList []) false (eval iter X.env) use) R X.xe s:=by
 have hcell':∀y∈scope.names,y.2≠.cell:=fun y hy z=>by
  have:=Ja.mp hcell y hy
  rw[z]at this;cases this
 have hnames':∀y∈scope.names,y.2=.local->scope.names.lookup y.1=some .local:=fun y hy z=>by
  have:=Ja.mp hnames y hy
  rw[z]at this
  simpa using this
 refine wpAny_comprehension_free (use:=use) rfl hs (Zfk hfree) hk hnames' (Xd (hi pins s σ H _ I h) fun v s1 h1=>Xd h1 fun itv s2 h2=>?_)
 obtain⟨it,fp,tn,J,H2,e,I2,T,st2,f2,W,⟨m,w0⟩,hW⟩:=h2
 subst e
 have ho:∀b∈fp,∃o,s2.heap.get? b=some o:=fun b hb=>let⟨o,e,_⟩:=T.obj _ _ st2 b hb;⟨o,e⟩
 refine Jm (wpAny_newFunctionEnv hcell' (by intro y hy;simp at hy) (fun h1 hns hsb=>?_) hk)
 dsimp only at hns hsb ⊢
 generalize hG:s2.heap.push { cls:=.type "list",dict:=none,data:=.seq ([]:List Value).toArray }=G at hns hsb ⊢
 have hCs:G.objs.size=s2.heap.objs.size+1:=by rw[<- hG,Jl]
 have keep:∀b o,s2.heap.get? b=some o->h1.get? b=some o:=fun b o e=>hsb.extBut b o (Qy (by rw[hCs];exact Jc (Qr e))) (Qf _ (hG▸Qf _ e))
 have hac:h1.get? s2.heap.objs.size=some (Zbu [] 0):=hsb.extBut _ _ (Qy (by rw[hCs];exact JE _)) (Qf _ (hG▸Qv _ rfl))
 have sub:=Zy1 X.env.cells scope.names
 have has:∀x,(x,NameKind.free)∈scope.names->∃c,(Wv X.env.cells scope.names []).lookup x=some c:=fun x hx=>Option.isSome_iff_exists.mp (Zey scope.names [] hx hfree)
 have ok:(Yc X N scope (Wv X.env.cells scope.names []) G.objs.size s2 H2 fp).Ok:=Zp2 I2 hk (by rw[hCs];exact Jv _) f2 ho sub fun x hx=>has x (VF hcell' (by
  rcases hx with z|z<;>(have z':=z;unfold relabel at z';simp only at z';rw[z'];rfl)))
 have I4:=Zmn (t1:=s2.toks+([]:List (Str×Value)).length) I2 ok sub has hcell' hNl hout rfl hCs keep hac hns
 have st4:tn 0 h1:=T.keep _ _ _ st2 fun b hb o e=>keep b o e
 have loop:=Zmo (pos:=pos) (iter:=iter) (Q:=Q) (s4:={ s2 with heap:=h1,toks:=s2.toks+([]:List (Str×Value)).length }) hc I2 T f2 ho rfl hCs (hg _ _ _ _ _) (ht _ _ _ _ _) (he _ _ _ _ _) W hW m ⟨_,I4,w0⟩ st4
 have loop':=codeAny_mono loop (R':=compPost (model X.prog X.w) X.A X.xe use R (.ref s2.heap.objs.size) G.objs.size) fun r s' ⟨hr,H',q1,q2,q3,q4⟩=>by
  subst hr
  refine fin _ _ s' ⟨H',q1,?_,?_,?_,?_,q2,q3,q4⟩
  ·intro z
   have:=I2.lt
   rw[<- z,hCs]at this
   exact absurd this (Nat.not_lt.mpr (Jv _))
  ·rw[hCs];exact Nat.le_succ_of_le I2.sz
  ·intro x c e z
   obtain⟨w1,oc,hoc,_⟩:=I2.cell x c e
   have:=Qr hoc
   rw[z,hCs]at this
   exact absurd this (Nat.not_lt.mpr (Jv _))
  ·intro p hp z
   have:=Qr (I2.pin p hp).1
   rw[z,hCs]at this
   exact absurd this (Nat.not_lt.mpr (Jv _))
 exact codeAny_compStart_list loop' (T.self _ 0 _ _ _ st4 loop')
theorem Zvw{elt tg iter:Expr}{ifs:List Expr}{pos:Pos}(N:List Str)(n:Nat)(ix:List Nat){wi:TI}{g:TG}{tt:TT}{te:TE}(hc:X.calm=true)(hi:PI X tg iter wi)
  (hg:∀cl C s H fp,PG (Yc X N scope cl C s H fp) tg g) (ht:∀cl C s H fp,Z1n (Yc X N scope cl C s H fp) ifs tt) (he:∀cl C s H fp,PE (Yc X N scope cl C s H fp) elt te)
  (hk:scope.kind=.function:=by rfl) (hcell:(scope.names.all fun y=>!(y.2 == .cell))=true:=by rfl) (hnames:(scope.names.all fun y=>!(y.2 == .local)||(scope.names.lookup y.1 == some .local))=true:=by rfl)
  (hNl:N.length=n+ix.length:=by rfl) (hout:Zdy X.N N n scope X.env ix=true:=by rfl) (hfree:U3 scope X.env.cells=true:=by rfl) (hs:∀x,foldedSetIterable iter X.env x=pure x:=by intro _;rfl) :
  PE X (.ListComp elt [⟨tg,iter,ifs,0⟩] scope pos) (Zi8 n ix wi g tt te):=by
 intro pins s σ H Q I h
 rw[eval_ListComp]
 refine Zkx (use:=none) hc hi hg ht he hk hcell hnames hNl hout hfree hs I h ?_
 rintro acc C s' ⟨H',q1,q2,q3,q4,q5,⟨m',q6⟩,q7,q8⟩
 exact⟨m',q6,fun h' sb=>⟨.ref acc,H',q7.turned (t':=s'.toks) (fun b o hb e=>(sb.2 b hb).trans e) q1 q2 (.inr q3) q4 q5,rfl,q8⟩⟩
theorem Znj{i:Nat}{x:Str}{pos' sp:Pos}{elt tg iter:Expr}{ifs:List Expr}{pos:Pos}(N:List Str)(n:Nat)(ix:List Nat){wi:TI}{g:TG}{tt:TT}{te:TE}(hN:X.N.Nodup)(hx0:X.N[i]?=some x)(hx:Zp9 X.env.scope x)
  (hc:X.calm=true) (hi:PI X tg iter wi)
  (hg:∀cl C s H fp,PG (Yc X N scope cl C s H fp) tg g) (ht:∀cl C s H fp,Z1n (Yc X N scope cl C s H fp) ifs tt) (he:∀cl C s H fp,PE (Yc X N scope cl C s H fp) elt te)
  (hsw:swapsWith (.ListComp elt [⟨tg,iter,ifs,0⟩] scope pos) (some (.Name x pos')) sp.line X.env=pure true:=by rfl)
  (hk:scope.kind=.function:=by rfl) (hcell:(scope.names.all fun y=>!(y.2 == .cell))=true:=by rfl) (hnames:(scope.names.all fun y=>!(y.2 == .local)||(scope.names.lookup y.1 == some .local))=true:=by rfl)
  (hNl:N.length=n+ix.length:=by rfl) (hout:Zdy X.N N n scope X.env ix=true:=by rfl) (hfree:U3 scope X.env.cells=true:=by rfl) (hs:∀x,foldedSetIterable iter X.env x=pure x:=by intro _;rfl)
  (hf:X.fn x=true\/X.env.scope.names.lookup x=some .local:=by first|exact .inl rfl|exact .inr rfl|assumption) :
  PS X (.Assign [.Name x pos'] (.ListComp elt [⟨tg,iter,ifs,0⟩] scope pos) sp) (Zq2 (Zi8 n ix wi g tt te) (Zgk i)):=by
 intro pins s σ H D I h
 rw[exec_Assign_Name_used _ _ _ _ hsw]
 refine Qa (wpAny_standAt (Qa ?_))
 show wpAny _ X.A (do let _ <- comprehension (.ListComp elt [⟨tg,iter,ifs,0⟩] scope pos) scope X.env _ (newList []) false (eval iter X.env) (some (assign (.Name x pos') X.env))) _ _ s
 refine Qa (Xd (Zkx (use:=some (assign (.Name x pos') X.env)) (R:=fun _ s'=>SP X pins D .next s') hc hi hg ht he hk hcell hnames hNl hout hfree hs I h ?_) fun _ s' q=>Qh (Qh q))
 rintro acc C s' ⟨H',q1,q2,q3,q4,q5,⟨m',q6⟩,q7,q8⟩
 show wpAny _ X.A (assign (.Name x pos') X.env (.ref acc)) _ _ s'
 refine wpAny_assign_Name (Zf0 q7 hN hx0 hx (v:=.ref acc) rfl (fun s2 I2 ⟨a,sb,ha⟩=>?_) hf)
 have naC:C≠a:=by
  rcases ha with rfl|ha
  ·exact q2
  ·exact fun z=>q4 _ _ ha z.symm
 exact⟨m',q6.sameBut sb naC,fun h' sb'=>⟨_,H',I2.turned (t':=s2.toks) (fun b o hb e=>(sb'.2 b hb).trans e) q1 q2 (.inr q3) q4 q5,q8⟩⟩
end
inductive D where
 |non|bl (b:Bool)|int (i:Int)|str (x:Str)|tup (ds:List D)|lst (ds:List D)
  |scr (ns:List Int)
  |dcK (ks:List Y5) (ds:List D)
 |dcT (ks:List (List Y5)) (ds:List D)
  |dcF (ks:List (List Y5)) (ds:List D)
mutual
def Y8(K:PySem.W.Frag)(H:Hp):D->V->Prop
 |.non,v=>v=.non
 |.bl b,v=>v=.bl b
 |.int i,v=>v=.int i
 |.str x,v=>v=.str x
 |.tup ds,v=>∃a vs,v=.ref a/\H a=some (.tup vs)/\Zr K H ds vs
 |.lst ds,v=>∃a vs,v=.ref a/\H a=some (.lst vs)/\Zr K H ds vs
 |.scr ns,v=>∃a,v=.ref a/\XX K H a (ns.map V.int)
 |.dcK ks ds,v=>∃a kvs,v=.ref a/\H a=some (.dK kvs)/\kvs.map (·.1)=ks/\Zr K H ds (kvs.map (·.2))
 |.dcT ks ds,v=>∃a kvs,v=.ref a/\H a=some (.dT kvs)/\kvs.map (·.1)=ks/\Zr K H ds (kvs.map (·.2))
 |.dcF ks ds,v=>∃a o kvs,v=.ref a/\H a=some (.frz o (.dT kvs))/\kvs.map (·.1)=ks/\Zr K H ds (kvs.map (·.2))
def Zr(K:PySem.W.Frag)(H:Hp):List D->List V->Prop
 |[],vs=>vs=[]
 |d::ds,vs=>∃v r,vs=v::r/\Y8 K H d v/\Zr K H ds r
end
theorem Zg.seqT{K:PySem.W.Frag}{H H':Hp}{a:Addr}{xs:List V}(e:Zg H H')(h:Wx K H a xs):Wx K H' a xs:=by
 rcases h with(h|⟨o,h⟩)|h
 ·exact .inl (.inl (e _ _ h))
 ·exact .inl (.inr ⟨o,e _ _ h⟩)
 ·exact .inr h
theorem Zg.new{H:Hp}{a:Addr}{o:HO}(h:H a=none):Zg H (YZ H a o):=fun b u e=>by rw[ZE (ZW e h)];exact e
mutual
theorem Y8.mono{K:PySem.W.Frag}{H H':Hp}(s:Zg H H'):∀(d:D) (v:V),Y8 K H d v->Y8 K H' d v
 |.non,_,h=>h
 |.bl _,_,h=>h
 |.int _,_,h=>h
 |.str _,_,h=>h
 |.tup ds,_,⟨a,vs,e,h,r⟩=>⟨a,vs,e,s _ _ h,Zr.mono s ds vs r⟩
 |.lst ds,_,⟨a,vs,e,h,r⟩=>⟨a,vs,e,s _ _ h,Zr.mono s ds vs r⟩
 |.scr _,_,⟨a,e,h⟩=>⟨a,e,s.seq h⟩
 |.dcK _ ds,_,⟨a,kvs,e,h,k,r⟩=>⟨a,kvs,e,s _ _ h,k,Zr.mono s ds _ r⟩
 |.dcT _ ds,_,⟨a,kvs,e,h,k,r⟩=>⟨a,kvs,e,s _ _ h,k,Zr.mono s ds _ r⟩
 |.dcF _ ds,_,⟨a,o,kvs,e,h,k,r⟩=>⟨a,o,kvs,e,s _ _ h,k,Zr.mono s ds _ r⟩
theorem Zr.mono{K:PySem.W.Frag}{H H':Hp}(s:Zg H H'):∀(ds:List D) (vs:List V),Zr K H ds vs->Zr K H' ds vs
 |[],_,h=>h
 |d::ds,_,⟨v,r,e,h,t⟩=>⟨v,r,e,Y8.mono s d v h,Zr.mono s ds r t⟩
end
section
variable{K:PySem.W.Frag}{H:Hp}
theorem Zr.length:∀{ds:List D} {vs:List V},Zr K H ds vs->vs.length=ds.length
 |[],_,h=>by rw[show _=_ from h];rfl
 |_::ds,_,⟨v,r,e,_,t⟩=>by rw[e,Qk,Qk,Zr.length t]
theorem Zr.get:∀{ds:List D} {vs:List V} {i:Nat} {d:D},Zr K H ds vs->ds[i]?=some d->∃v,vs[i]?=some v/\Y8 K H d v
 |[],_,_,_,_,e=>by simp at e
 |_::_,_,0,_,⟨v,r,e,h,_⟩,q=>by
  simp only[J5,Option.some.injEq]at q
  subst q;subst e;exact⟨v,rfl,h⟩
 |_::ds,_,i+1,d,⟨v,r,e,_,t⟩,q=>by
  subst e
  obtain⟨u,h1,h2⟩:=Zr.get (ds:=ds) (i:=i) t (by simpa using q)
  exact⟨u,by simpa using h1,h2⟩
theorem Zr.append:∀{ds es:List D} {vs us:List V},Zr K H ds vs->Zr K H es us->Zr K H (ds++es) (vs++us)
 |[],_,_,_,h,k=>by rw[show _=_ from h];exact k
 |_::ds,_,_,_,⟨v,r,e,h,t⟩,k=>by subst e;exact⟨v,_,rfl,h,Zr.append t k⟩
theorem Zr.take:∀{ds:List D} {vs:List V} (n:Nat),Zr K H ds vs->Zr K H (ds.take n) (vs.take n)
 |_,_,0,_=>by simp[Zr]
 |[],_,_+1,h=>by rw[show _=_ from h];simp[Zr]
 |_::ds,_,n+1,⟨v,r,e,h,t⟩=>by subst e;exact⟨v,_,rfl,h,Zr.take n t⟩
theorem Zr.drop:∀{ds:List D} {vs:List V} (n:Nat),Zr K H ds vs->Zr K H (ds.drop n) (vs.drop n)
 |_,_,0,h=>h
 |[],_,_+1,h=>by rw[show _=_ from h];simp[Zr]
 |_::ds,_,n+1,⟨v,r,e,_,t⟩=>by subst e;exact Zr.drop n t
theorem Zr.set{d:D}{v:V}(hr:Y8 K H d v):∀{ds:List D} {vs:List V} (i:Nat),Zr K H ds vs->Zr K H (ds.set i d) (vs.set i v)
 |[],_,_,h=>by rw[show _=_ from h];simp[Zr]
 |_::ds,_,0,⟨w,r,e,_,t⟩=>by subst e;exact⟨v,_,rfl,hr,t⟩
 |_::ds,_,i+1,⟨w,r,e,h,t⟩=>by subst e;exact⟨w,_,rfl,h,Zr.set hr i t⟩
theorem Zr.one{d:D}{v:V}(h:Y8 K H d v):Zr K H [d] [v]:=⟨v,[],rfl,h,rfl⟩
theorem Zr.ints:∀{is:List Int} {vs:List V},Zr K H (is.map D.int) vs->vs=is.map V.int
 |[],_,h=>h
 |i::is,_,⟨v,r,e,h,t⟩=>by
  have:v=.int i:=h
  subst this;subst e;rw[Qe,Zr.ints t]
theorem WL:∀(is:List Int),Zr K H (is.map D.int) (is.map V.int)
 |[]=>rfl
 |i::is=>⟨_,_,rfl,rfl,WL is⟩
end
inductive Cl where
 |val (d:D)
 |own (d:D)
abbrev Ww:=List (Option D)
abbrev YT:=List (Option Cl)
def Ye(ρ:YT):Ww:=ρ.map fun c=>match c with
 |some (.val d)=>some d
 |some (.own d)=>some d
 |none=>none
def Yb(ρ:YT):Ww:=ρ.map fun c=>match c with
 |some (.val d)=>some d
 |_=>none
def mask(O:List Addr)(H:Hp):Hp:=fun a=>if a∈O then none else H a
section
variable{O:List Addr}{H H':Hp}
theorem Zf:Zg (mask O H) H:=fun a o h=>by
 unfold mask at h
 split at h
 ·cases h
 ·exact h
theorem ZH(s:Zg H H'):Zg (mask O H) (mask O H'):=fun a o h=>by
 unfold mask at h ⊢
 split at h
 ·cases h
 ·rename_i hn;rw[if_neg hn];exact s a o h
theorem Zsj:mask [] H=H:=by funext a;unfold mask;rw[if_neg (by simp)]
theorem Zp{a:Addr}(h:a∉O):mask O H a=H a:=by unfold mask;rw[if_neg h]
theorem ZY{a:Addr}(h:a∈O):mask O H a=none:=by unfold mask;rw[if_pos h]
def Zgf:HO->Prop
 |.lst _=>True
 |.dK _=>True
 |.dT _=>True
 |_=>False
def YY(O:List Addr)(H:Hp):Prop:=∀a∈O,∃o,H a=some o/\Zgf o
theorem YY.mono(t:YY O H)(s:Zg H H'):YY O H':=fun a h=>let⟨o,e,m⟩:=t a h;⟨o,s _ _ e,m⟩
theorem YY.fresh(t:YY O H){a:Addr}(h:H a=none):a∉O:=fun m=>by obtain⟨o,e,_⟩:=t a m;rw[h]at e;cases e
end
structure RV(K:PySem.W.Frag)(O:List Addr)(H:Hp)(ρ:Ww)(σ:St):Prop where
 th:YY O H
 at_:∀(i:Nat) (d:D),ρ[i]?=some (some d)->∃v,σ[i]?=some (some v)/\Y8 K (mask O H) d v
theorem RV.mono{K:PySem.W.Frag}{O:List Addr}{H H':Hp}{ρ:Ww}{σ:St}(r:RV K O H ρ σ)(s:Zg H H'):RV K O H' ρ σ :=
 ⟨r.th.mono s,fun i d e=>let⟨v,h1,h2⟩:=r.at_ i d e;⟨v,h1,Y8.mono (ZH s) d v h2⟩⟩
abbrev FE:=Ww->Option D
abbrev FT:=Ww->Option Bool
abbrev FA:=Ww->Option (List D)
def tD(K:PySem.W.Frag)(f:FE):TE:=fun σ H Q=>∃O ρ d,RV K O H ρ σ/\f ρ=some d/\∀v H',Zg H H'->Y8 K (mask O H') d v->Q v H'
def tT(K:PySem.W.Frag)(f:FT):TT:=fun σ H Q=>∃O ρ b,RV K O H ρ σ/\f ρ=some b/\∀H',Zg H H'->Q b H'
def tA(K:PySem.W.Frag)(f:FA):TA:=fun σ H Q=>∃O ρ ds,RV K O H ρ σ/\f ρ=some ds/\∀vs H',Zg H H'->Zr K (mask O H') ds vs->Q vs H'
def EV(X:Cx)(e:Expr)(f:FE):Prop:=PE X e (tD X.K f)
def TV(X:Cx)(e:Expr)(f:FT):Prop:=PT X e (tT X.K f)
def AV(X:Cx)(es:List Expr)(f:FA):Prop:=PA X es (tA X.K f)
theorem PE.imp{X:Cx}{e:Expr}{t t':TE}(h:PE X e t)(k:∀σ H Q,t' σ H Q->t σ H Q):PE X e t':=fun pins s σ H Q I hw=>h pins s σ H Q I (k σ H Q hw)
theorem PT.imp{X:Cx}{e:Expr}{t t':TT}(h:PT X e t)(k:∀σ H Q,t' σ H Q->t σ H Q):PT X e t':=fun pins s σ H Q I hw=>h pins s σ H Q I (k σ H Q hw)
theorem PA.imp{X:Cx}{e:List Expr}{t t':TA}(h:PA X e t)(k:∀σ H Q,t' σ H Q->t σ H Q):PA X e t':=fun pos pins s σ H Q I hw=>h pos pins s σ H Q I (k σ H Q hw)
def fV(i:Nat):FE:=fun ρ=>(ρ[i]?).getD none
def fC(d:D):FE:=fun _=>some d
def f1(o:D->Option D)(a:FE):FE:=fun ρ=>(a ρ).bind o
def f2(o:D->D->Option D)(a b:FE):FE:=fun ρ=>(a ρ).bind fun x=>(b ρ).bind fun y=>o x y
def fN:FA:=fun _=>some []
def Za(a:FE)(r:FA):FA:=fun ρ=>(a ρ).bind fun x=>(r ρ).bind fun xs=>some (x::xs)
def fL(o:List D->Option D)(a:FA):FE:=fun ρ=>(a ρ).bind o
def Zx5(c:FT)(a b:FE):FE:=fun ρ=>(c ρ).bind fun k=>if k=true then a ρ else b ρ
def Zer(a b:FE):FE:=fun ρ=>(a ρ).bind fun x=>match x with|.bl true=>b ρ|.bl false=>some (.bl false)|_=>none
def fOr(a b:FE):FE:=fun ρ=>(a ρ).bind fun x=>match x with|.bl true=>some (.bl true)|.bl false=>b ρ|_=>none
def Ztj(a:FE):FE:=fun ρ=>(a ρ).bind fun x=>match x with|.bl k=>some (.bl (!k))|_=>none
def gB(a:FE):FT:=fun ρ=>(a ρ).bind fun x=>match x with|.bl k=>some k|_=>none
def U2(a b:FT):FT:=fun ρ=>(a ρ).bind fun k=>if k=true then b ρ else some false
def Zfi(a b:FT):FT:=fun ρ=>(a ρ).bind fun k=>if k=true then some true else b ρ
def VQ(a:FT):FT:=fun ρ=>(a ρ).bind fun k=>some (!k)
def Zoj:D->Option Bool
 |.non=>some false
 |.bl b=>some b
 |.int i=>some (i != 0)
 |.tup ds=>some (!ds.isEmpty)
 |.lst ds=>some (!ds.isEmpty)
 |_=>none
def Xr(a:FE):FT:=fun ρ=>(a ρ).bind Zoj
theorem bind_some{α β:Type}{a:Option α}{f:α->Option β}{b:β}(h:a.bind f=some b):∃x,a=some x/\f x=some b:=by
 cases a with
 |none=>cases h
 |some x=>exact⟨x,rfl,h⟩
section
variable{X:Cx}{a b c:Expr}{fa fb:FE}{pos:Pos}
theorem Zb(i:Nat){x:Str}(hN:X.N[i]?=some x:=by rfl)(hv:Zul X.env.scope x:=by first|exact Or.inl rfl|exact Or.inr (Or.inl rfl)|exact Or.inr (Or.inr rfl))(hd:(x == ("__debug__":Str))=false:=by decide)
  (hcd:(x == ("__classdict__":Str))=false:=by decide):EV X (.Name x pos) (fV i):=PE.imp (VH hN hv hd hcd) fun σ H Q ⟨O,ρ,d,r,e,k⟩=>by
 have e':ρ[i]?=some (some d):=by
  unfold fV at e
  cases q:ρ[i]? with
  |none=>rw[q]at e;cases e
  |some o=>rw[q]at e;rw[show o=some d from e]
 obtain⟨v,h1,h2⟩:=r.at_ i d e'
 exact⟨v,h1,k v H (Zg.refl _) h2⟩
theorem Zl{i j}:EV X (.Constant (.int i) j pos) (fC (.int i)):=PE.imp Zry fun σ H Q ⟨O,ρ,d,r,e,k⟩=>by cases e;exact k _ H (Zg.refl _) rfl
theorem Vg{i j}:EV X (.Constant (.bool i) j pos) (fC (.bl i)):=PE.imp Zxk fun σ H Q ⟨O,ρ,d,r,e,k⟩=>by cases e;exact k _ H (Zg.refl _) rfl
theorem Zes{j}:EV X (.Constant .none j pos) (fC .non):=PE.imp Zzp fun σ H Q ⟨O,ρ,d,r,e,k⟩=>by cases e;exact k _ H (Zg.refl _) rfl
theorem Zn5{x:Str}{i:Int}(hm:∃t,X.mg x=some (.int i t))(hg:Gl X x:=by rfl)(hd:(x == ("__debug__":Str))=false:=by decide):EV X (.Name x pos) (fC (.int i)):=by
 obtain⟨t,hm⟩:=hm
 exact PE.imp (Zvt (v:=.int i) hg hm ⟨t,rfl⟩ hd) fun σ H Q ⟨O,ρ,d,r,e,k⟩=>by cases e;exact k _ H (Zg.refl _) rfl
def rD(K:PySem.W.Frag)(o:D->D->Option D):R2:=fun x y H Q=>∃O dx dy d,YY O H/\Y8 K (mask O H) dx x/\Y8 K (mask O H) dy y/\o dx dy=some d/\∀v H',Zg H H'->Y8 K (mask O H') d v->Q v H'
def UK(X:Cx)(f:Value->Value->Sem Value)(o:D->D->Option D):Prop:=V0 X f (rD X.K o)
theorem UK.of{f:Value->Value->Sem Value}{o:D->D->Option D}{r:R2}(h:V0 X f r)(k:∀x y H Q,rD X.K o x y H Q->r x y H Q):UK X f o:=fun pins s σ H x y v u Q I rx ry q=>h pins s σ H x y v u Q I rx ry (k x y H Q q)
theorem Zg3{o:D->D->Option D}{r:R2}(k:∀x y H Q,rD X.K o x y H Q->r x y H Q){σ:St}{H:Hp}{Q:VK}(h:tD X.K (f2 o fa fb) σ H Q):tOp r (tD X.K fa) (tD X.K fb) σ H Q:=by
 obtain⟨O,ρ,d,rv,e,q⟩:=h
 obtain⟨x,e1,e⟩:=bind_some e
 obtain⟨y,e2,e⟩:=bind_some e
 refine⟨O,ρ,x,rv,e1,fun v H1 s1 r1=>?_⟩
 have rv1:=rv.mono s1
 refine⟨O,ρ,y,rv1,e2,fun u H2 s2 r2=>k _ _ _ _ ⟨O,x,y,d,rv1.th.mono s2,Y8.mono (ZH s2) x v r1,r2,e,fun w H3 s3 r3=>q w H3 (Zg.trans (Zg.trans s1 s2) s3) r3⟩⟩
theorem ZO{op:Operator}{o:D->D->Option D}(ho:UK X (binaryOp op) o)(ha:EV X a fa)(hb:EV X b fb):EV X (.BinOp a op b pos) (f2 o fa fb):=PE.imp (Zxi ho ha hb) fun _ _ _ h=>Zg3 (fun _ _ _ _ z=>z) h
theorem Vk{op:CmpOp}{o:D->D->Option D}(ho:UK X (compareOp op) o)(ha:EV X a fa)(hb:EV X b fb)(hm:behindInMarks op b=false:=by first|exact Zsa _|with_unfolding_all rfl):EV X (.Compare a [op] [b] pos) (f2 o fa fb) :=
 PE.imp (Zvx ho ha hb hm) fun _ _ _ h=>Zg3 (fun _ _ _ _ z=>z) h
theorem Yf{op:CmpOp}{o:D->D->Option D}(ho:UK X (compareOp op) o)(ha:EV X a fa)(hb:EV X b fb)(hm:behindInMarks op b=false:=by first|exact Zsa _|with_unfolding_all rfl):TV X (.Compare a [op] [b] pos) (gB (f2 o fa fb)) :=
 PT.imp (Zvj ho ha hb hm) fun σ H Q ⟨O,ρ,k,rv,e,q⟩=>by
  obtain⟨x,e1,e⟩:=bind_some e
  refine Zg3 (fun _ _ _ _ z=>z) ⟨O,ρ,x,rv,e1,fun v H' s r=>?_⟩
  cases x with
  |bl z=>cases e;exact⟨_,r,q H' s⟩
  |_=>cases e
def Zeq(o o':D->D->Option D)(fa fb fc:FE):FE:=fun ρ=>(fa ρ).bind fun x=>(fb ρ).bind fun y=>(o x y).bind fun r=>match r with|.bl true=>(fc ρ).bind fun z=>o' y z|.bl false=>some (.bl false)|_=>none
theorem Ztm{op op':CmpOp}{o o':D->D->Option D}{fc:FE}(ho:UK X (compareOp op) o)(ho':UK X (compareOp op') o')(ha:EV X a fa)(hb:EV X b fb)(hc:EV X c fc)
  (hm:lastMarks [op,op'] [b,c]=false:=by with_unfolding_all rfl) :
  EV X (.Compare a [op,op'] [b,c] pos) (Zeq o o' fa fb fc) :=
 PE.imp (Zr2 ho ho' ha hb hc hm) fun σ H Q ⟨O,ρ,d,rv,e,q⟩=>by
  obtain⟨x,e1,e⟩:=bind_some e
  obtain⟨y,e2,e⟩:=bind_some e
  obtain⟨r,e3,e⟩:=bind_some e
  refine⟨O,ρ,x,rv,e1,fun v H1 s1 r1=>?_⟩
  have rv1:=rv.mono s1
  refine⟨O,ρ,y,rv1,e2,fun u H2 s2 r2=>?_⟩
  have rv2:=rv1.mono s2
  refine⟨O,x,y,r,rv2.th,Y8.mono (ZH s2) x v r1,r2,e3,fun w H3 s3 r3=>?_⟩
  cases r with
  |bl k =>
   have:w=.bl k:=r3
   subst this
   refine⟨k,rfl,?_⟩
   cases k with
   |true =>
    rw[if_pos rfl]
    obtain⟨z,e4,e⟩:=bind_some e
    have rv3:=rv2.mono s3
    refine⟨O,ρ,z,rv3,e4,fun w' H4 s4 r4=>⟨O,y,z,d,rv3.th.mono s4,Y8.mono (ZH (Zg.trans s3 s4)) y u r2,r4,e,fun w2 H5 s5 r5=>q w2 H5 (Zg.trans (Zg.trans (Zg.trans (Zg.trans s1 s2) s3) s4) s5) r5⟩⟩
   |false =>
    rw[if_neg QE]
    cases e
    exact q _ H3 (Zg.trans (Zg.trans s1 s2) s3) rfl
  |_=>cases e
theorem U4{op}(h:EV X a fa):EV X (.BoolOp op [a] pos) fa:=Zzn h
theorem U5{YK:List Expr}(ha:EV X a fa)(hb:EV X (.BoolOp .And (b::YK) pos) fb):EV X (.BoolOp .And (a::b::YK) pos) (Zer fa fb):=PE.imp (Zzq ha hb) fun σ H Q ⟨O,ρ,d,rv,e,q⟩=>by
 obtain⟨x,e1,e⟩:=bind_some e
 refine⟨O,ρ,x,rv,e1,fun v H1 s1 r1=>?_⟩
 cases x with
 |bl k =>
  have:v=.bl k:=r1
  subst this
  refine⟨k,rfl,?_⟩
  cases k with
  |true=>rw[if_pos rfl];exact⟨O,ρ,d,rv.mono s1,e,fun w H2 s2 r2=>q w H2 (Zg.trans s1 s2) r2⟩
  |false=>rw[if_neg QE];cases e;exact q _ H1 s1 rfl
 |_=>cases e
theorem Z0y(ha:EV X a fa):EV X (.UnaryOp .Not a pos) (Ztj fa):=PE.imp (Zzo ha) fun σ H Q ⟨O,ρ,d,rv,e,q⟩=>by
 obtain⟨x,e1,e⟩:=bind_some e
 refine⟨O,ρ,x,rv,e1,fun v H1 s1 r1=>?_⟩
 cases x with
 |bl k =>
  have:v=.bl k:=r1
  subst this
  cases e
  exact⟨k,rfl,q _ H1 s1 rfl⟩
 |_=>cases e
theorem Zx6{c:Expr}{gc:FT}(hc:TV X c gc)(ha:EV X a fa)(hb:EV X b fb):EV X (.IfExp c a b pos) (Zx5 gc fa fb):=PE.imp (Zrz hc ha hb) fun σ H Q ⟨O,ρ,d,rv,e,q⟩=>by
 obtain⟨k,e1,e⟩:=bind_some e
 refine⟨O,ρ,k,rv,e1,fun H1 s1=>?_⟩
 cases k with
 |true=>rw[if_pos rfl]at e ⊢;exact⟨O,ρ,d,rv.mono s1,e,fun w H2 s2 r2=>q w H2 (Zg.trans s1 s2) r2⟩
 |false=>rw[if_neg QE]at e ⊢;exact⟨O,ρ,d,rv.mono s1,e,fun w H2 s2 r2=>q w H2 (Zg.trans s1 s2) r2⟩
def WV(X:Cx)(e:Expr)(f:FT):Prop:=PW X e (tT X.K f)
theorem PW.imp{e:Expr}{t t':TT}(h:PW X e t)(k:∀σ H Q,t' σ H Q->t σ H Q):PW X e t':=fun wh pins s σ H Q I hw=>h wh pins s σ H Q I (k σ H Q hw)
theorem WV.tv{e:Expr}{f:FT}(h:WV X e f):TV X e f:=PW.pt h
variable{ga gb:FT}{YK:List Expr}
theorem Zg2(ha:TV X a ga):WV X (.BoolOp .And [a] pos) ga:=Zve ha
theorem V2(ha:TV X a ga):WV X (.BoolOp .Or [a] pos) ga:=Zzd ha
theorem Zlc(ha:TV X a ga)(hb:WV X (.BoolOp .And (b::YK) pos) gb):WV X (.BoolOp .And (a::b::YK) pos) (U2 ga gb):=PW.imp (Zze ha hb) fun σ H Q ⟨O,ρ,d,rv,e,q⟩=>by
 obtain⟨k,e1,e⟩:=bind_some e
 refine⟨O,ρ,k,rv,e1,fun H1 s1=>?_⟩
 cases k with
 |true=>rw[if_pos rfl]at e ⊢;exact⟨O,ρ,d,rv.mono s1,e,fun H2 s2=>q H2 (Zg.trans s1 s2)⟩
 |false=>rw[if_neg QE]at e ⊢;cases e;exact q H1 s1
theorem Zad(ha:TV X a ga)(hb:WV X (.BoolOp .Or (b::YK) pos) gb):WV X (.BoolOp .Or (a::b::YK) pos) (Zfi ga gb):=PW.imp (pw_or ha hb) fun σ H Q ⟨O,ρ,d,rv,e,q⟩=>by
 obtain⟨k,e1,e⟩:=bind_some e
 refine⟨O,ρ,k,rv,e1,fun H1 s1=>?_⟩
 cases k with
 |false=>rw[if_neg QE]at e ⊢;exact⟨O,ρ,d,rv.mono s1,e,fun H2 s2=>q H2 (Zg.trans s1 s2)⟩
 |true=>rw[if_pos rfl]at e ⊢;cases e;exact q H1 s1
theorem XD(ha:TV X a ga):TV X (.UnaryOp .Not a pos) (VQ ga):=PT.imp (Zzf ha) fun σ H Q ⟨O,ρ,d,rv,e,q⟩=>by
 obtain⟨k,e1,e⟩:=bind_some e
 cases e
 exact⟨O,ρ,k,rv,e1,fun H1 s1=>q H1 s1⟩
theorem Zym{H:Hp}{d:D}{v:V}{k:Bool}{O:List Addr}(r:Y8 X.K (mask O H) d v)(e:Zoj d=some k):Z1j X.K v H k:=by
 cases d with
 |non=>cases e;rw[show v=_ from r];rfl
 |bl b=>cases e;rw[show v=_ from r];rfl
 |int i=>cases e;rw[show v=_ from r];rfl
 |str x=>cases e
 |tup ds =>
  obtain⟨a,vs,rfl,h,r⟩:=r
  cases e
  refine .inr (.inl ⟨vs,Wx.of (Zf _ _ h),?_⟩)
  have:=r.length
  cases ds<;>cases vs<;>first|rfl|simp at this
 |lst ds =>
  obtain⟨a,vs,rfl,h,r⟩:=r
  cases e
  refine .inl ⟨vs,XX.of (Zf _ _ h),?_⟩
  have:=r.length
  cases ds<;>cases vs<;>first|rfl|simp at this
 |scr ns=>cases e
 |dcK ks ds=>cases e
 |dcT ks ds=>cases e
 |dcF ks ds=>cases e
theorem Y9(ha:EV X a fa)(he:∀Zae,isTrue a X.env Zae=(do let v <- Zae;standAt a.pos;holding [v] (truthy v)):=by intro _;rfl):TV X a (Xr fa):=PT.imp (Zro ha he) fun σ H Q ⟨O,ρ,k,rv,e,q⟩=>by
 obtain⟨x,e1,e⟩:=bind_some e
 exact⟨O,ρ,x,rv,e1,fun v H1 s1 r1=>⟨k,Zym r1 e,q H1 s1⟩⟩
theorem Zd:AV X [] fN:=PA.imp VJ fun σ H Q ⟨O,ρ,ds,rv,e,q⟩=>by cases e;exact q [] H (Zg.refl _) rfl
theorem Zc{es:List Expr}{fr:FA}(ha:EV X a fa)(hr:AV X es fr)(hs:starEach (a::es) X.env=(false,eval a X.env)::starEach es X.env:=by rfl):AV X (a::es) (Za fa fr) :=
 PA.imp (XZ ha hr hs) fun σ H Q ⟨O,ρ,ds,rv,e,q⟩=>by
  obtain⟨x,e1,e⟩:=bind_some e
  obtain⟨xs,e2,e⟩:=bind_some e
  cases e
  refine⟨O,ρ,x,rv,e1,fun v H1 s1 r1=>⟨O,ρ,xs,rv.mono s1,e2,fun vs H2 s2 r2=>q (v::vs) H2 (Zg.trans s1 s2) ⟨v,vs,rfl,Y8.mono (ZH s2) x v r1,r2⟩⟩⟩
def Yu:Nat:=65536
theorem Xw{n:Nat}(h:n<=Yu):n<=sizeLine:=by
 have:sizeLine=16777216:=Q3
 unfold Yu at h
 omega
def Yy(ds:List D):Option D:=if ds.length<=Yu then some (.tup ds) else none
def Yz(ds:List D):Option D:=if ds.length<=Yu then some (.lst ds) else none
theorem Zl1{ds:List D}{d:D}(h:Yy ds=some d):d=.tup ds/\ds.length<=sizeLine:=by
 unfold Yy at h
 split at h
 ·rename_i hl;cases h;exact⟨rfl,Xw hl⟩
 ·cases h
theorem Zl2{ds:List D}{d:D}(h:Yz ds=some d):d=.lst ds/\ds.length<=sizeLine:=by
 unfold Yz at h
 split at h
 ·rename_i hl;cases h;exact⟨rfl,Xw hl⟩
 ·cases h
theorem Xf{K:PySem.W.Frag}{O:List Addr}{H:Hp}{p:Addr}{ds:List D}{vs:List V}(th:YY O H)(hp:H p=none)(r:Zr K (mask O H) ds vs):Y8 K (mask O (YZ H p (.tup vs))) (.tup ds) (.ref p) :=
 ⟨p,vs,rfl,(by rw[Zp (th.fresh hp),ZS]),Zr.mono (ZH (Zg.new hp)) ds vs r⟩
theorem YD{K:PySem.W.Frag}{O:List Addr}{H:Hp}{p:Addr}{ds:List D}{vs:List V}(th:YY O H)(hp:H p=none)(r:Zr K (mask O H) ds vs):Y8 K (mask O (YZ H p (.lst vs))) (.lst ds) (.ref p) :=
 ⟨p,vs,rfl,(by rw[Zp (th.fresh hp),ZS]),Zr.mono (ZH (Zg.new hp)) ds vs r⟩
theorem Xy{es:List Expr}{f:FA}{x1}(h:AV X es f):EV X (.Tuple es x1 pos) (fL Yy f):=PE.imp (Zzm h) fun σ H Q ⟨O,ρ,d,rv,e,q⟩=>by
 obtain⟨ds,e1,e⟩:=bind_some e
 obtain⟨rfl,hl⟩:=Zl1 e
 refine⟨O,ρ,ds,rv,e1,fun vs H1 s1 r1=>⟨by rw[r1.length];exact hl,fun p hp=>q _ _ (Zg.trans s1 (Zg.new hp)) (Xf (rv.th.mono s1) hp r1)⟩⟩
theorem Wu{es:List Expr}{f:FA}(h:AV X es f):EV X (.List es pos) (fL Yz f):=PE.imp (Zrw h) fun σ H Q ⟨O,ρ,d,rv,e,q⟩=>by
 obtain⟨ds,e1,e⟩:=bind_some e
 obtain⟨rfl,hl⟩:=Zl2 e
 refine⟨O,ρ,ds,rv,e1,fun vs H1 s1 r1=>⟨by rw[r1.length];exact hl,fun p hp=>q _ _ (Zg.trans s1 (Zg.new hp)) (YD (rv.th.mono s1) hp r1)⟩⟩
def spD(K:PySem.W.Frag)(G:List D->Option D):Sp:=fun vs H Q _=>∃O ds d,YY O H/\Zr K (mask O H) ds vs/\G ds=some d/\∀v H',Zg H H'->Y8 K (mask O H') d v->Q v H'
theorem Zw0{k:Nat}{f:Addr}{fd:FuncData}{ps:List Str}{G:List D->Option D}{x:Str}{p:Pos}{e:Expr}{es:List Expr}{fa:FA}(F:Vm X.prog X.w X.K X.mg X.base Zm1 k f fd ps (spD X.K G))(hr:X9 k X.A)
  (hm:X.mg x=some (.ref f)) (hk:PySem.W.keepIn X.K (.ref f)=true) (hb:Zbd X.K fd ps []) (ha:AV X (e::es) fa)
  (hg:Gl X x:=by rfl) (hdb:(x == ("__debug__":Str))=false:=by decide) (he:starEach (e::es) X.env=(false,eval e X.env)::starEach es X.env:=by rfl) (hpl:(backTo pos (starEach es X.env)).any (·.1)=false:=by rfl) :
  EV X (.Call (.Name x p) (e::es) [] pos) (fL G fa):=PE.imp (Znm (dvs:=[]) F hr hg hm hk hb .nil Zxl ha hdb he hpl) fun σ H Q ⟨O,ρ,d,rv,e1,q⟩=>by
 obtain⟨ds,e2,e1⟩:=bind_some e1
 refine⟨O,ρ,ds,rv,e2,fun vs H1 s1 r1=>?_⟩
 show spD X.K G (vs++[]) H1 Q E0
 rw[Q1]
 exact⟨O,ds,d,rv.th.mono s1,r1,e1,fun v H2 s2 r2=>q v H2 (Zg.trans s1 s2) r2⟩
def rDs(K:PySem.W.Frag)(o:List D->Option D):List V->Hp->VK->Prop:=fun xs H Q=>∃O ds d,YY O H/\Zr K (mask O H) ds xs/\o ds=some d/\∀v H',Zg H H'->Y8 K (mask O H') d v->Q v H'
def Xu(X:Cx)(f:Value)(o:List D->Option D):Prop:=X7 X f (rDs X.K o)
theorem Xu.of{f:Value}{o:List D->Option D}{r:List V->Hp->VK->Prop}(h:X7 X f r)(k:∀xs H Q,rDs X.K o xs H Q->r xs H Q):Xu X f o:=fun pins s σ H xs us Q I rs q=>h pins s σ H xs us Q I rs (k xs H Q q)
theorem Zs{id:String}{o:List D->Option D}{x:Str}{p:Pos}{e:Expr}{es:List Expr}{fa:FA}(hc:Xu X (.builtin id) o)(hm:X.mg x=none)(hv:bootBuiltins x=some (.builtin id))(ha:AV X (e::es) fa)
  (hg:Gl X x:=by rfl) (hn:x≠"__name__":=by decide) (hdb:(x == ("__debug__":Str))=false:=by decide)
  (he:starEach (e::es) X.env=(false,eval e X.env)::starEach es X.env:=by rfl) (hpl:(backTo pos (starEach es X.env)).any (·.1)=false:=by rfl):EV X (.Call (.Name x p) (e::es) [] pos) (fL o fa) :=
 PE.imp (Zdx hc hg hm hv ha hn hdb he hpl) fun σ H Q ⟨O,ρ,d,rv,e1,q⟩=>by
  obtain⟨ds,e2,e1⟩:=bind_some e1
  exact⟨O,ρ,ds,rv,e2,fun vs H1 s1 r1=>⟨O,ds,d,rv.th.mono s1,r1,e1,fun v H2 s2 r2=>q v H2 (Zg.trans s1 s2) r2⟩⟩
theorem Vw{T:String}{o:List D->Option D}{x:Str}{p:Pos}{e:Expr}{es:List Expr}{fa:FA}(hc:Xu X (.type T) o)(hm:X.mg x=none)(hv:bootBuiltins x=some (.type T))(ha:AV X (e::es) fa)
  (hg:Gl X x:=by rfl) (hn:x≠"__name__":=by decide) (hdb:(x == ("__debug__":Str))=false:=by decide)
  (he:starEach (e::es) X.env=(false,eval e X.env)::starEach es X.env:=by rfl) (hpl:(backTo pos (starEach es X.env)).any (·.1)=false:=by rfl):EV X (.Call (.Name x p) (e::es) [] pos) (fL o fa) :=
 PE.imp (Zbq hc hg hm hv ha hn hdb he hpl) fun σ H Q ⟨O,ρ,d,rv,e1,q⟩=>by
  obtain⟨ds,e2,e1⟩:=bind_some e1
  exact⟨O,ρ,ds,rv,e2,fun vs H1 s1 r1=>⟨O,ds,d,rv.th.mono s1,r1,e1,fun v H2 s2 r2=>q v H2 (Zg.trans s1 s2) r2⟩⟩
end
abbrev FG:=D->Option (List (Nat×D))
def Zcr(σ:St):List (Nat×D)->List V->St
 |w::ws,v::vs=>Zcr (σ.set w.1 (some v)) ws vs
 |_,_=>σ
def VD(ρ:Ww):List (Nat×D)->Ww
 |w::ws=>VD (ρ.set w.1 (some w.2)) ws
 |[]=>ρ
def XA(ρ:YT):List (Nat×D)->YT
 |w::ws=>XA (ρ.set w.1 (some (.val w.2))) ws
 |[]=>ρ
def tG(K:PySem.W.Frag)(t:FG):TG:=fun v σ H Q=>∃O d ws,YY O H/\Y8 K (mask O H) d v/\t d=some ws/\∀vs,Zr K (mask O H) (ws.map (·.2)) vs->Q (Zcr σ ws vs) H
def GV(X:Cx)(tg:Expr)(t:FG):Prop:=PG X tg (tG X.K t)
theorem PG.imp{X:Cx}{e:Expr}{t t':TG}(h:PG X e t)(k:∀v σ H Q,t' v σ H Q->t v σ H Q):PG X e t':=fun pins s σ H v u Q I r hw=>h pins s σ H v u Q I r (k v σ H Q hw)
def gN(i:Nat):FG:=fun d=>some [(i,d)]
def gT(ix:List Nat):FG:=fun d=>match d with
 |.tup ds=>if ds.length=ix.length then some (ix.zip ds) else none
 |_=>none
def Zmj:List Nat->Zyb
 |[]=>gNil
 |i::ix=>Zx4 (Zgk i) (Zmj ix)
section
variable{X:Cx}{pos:Pos}
theorem Zw{i:Nat}{x:Str}(hN:X.N.Nodup)(hi:X.N[i]?=some x:=by rfl)(hx:Zp9 X.env.scope x:=by first|exact Or.inl rfl|exact Or.inr rfl)(hf:X.fn x=true\/X.env.scope.names.lookup x=some .local:=by first|exact .inl rfl|exact .inr rfl):GV X (.Name x pos) (gN i) :=
 PG.imp (Znl hN hi hx hf) fun v σ H Q ⟨O,d,ws,th,r,e,q⟩=>by
  cases e
  exact q [v] (Zr.one r)
theorem Zgj:∀(ix:List Nat) (ds:List D) (vs:List V) {K:PySem.W.Frag} {H:Hp} (σ:St) (H':Hp) (Q:St->Hp->Prop),ds.length=ix.length->Zr K H ds vs->Q (Zcr σ (ix.zip ds) vs) H'->Zmj ix vs σ H' Q
 |[],[],_,_,_,σ,H',Q,_,r,q=>by
  have:_=[]:=r
  subst this
  exact⟨rfl,q⟩
 |i::ix,d::ds,_,_,_,σ,H',Q,hl,⟨v,vr,e,_,t⟩,q=>by
  subst e
  exact⟨v,vr,rfl,Zgj ix ds vr _ H' Q (by simpa using hl) t q⟩
 |[],_::_,_,_,_,_,_,_,hl,_,_=>by simp at hl
 |_::_,[],_,_,_,_,_,_,hl,_,_=>by simp at hl
theorem Zm2{α β:Type}:∀(xs:List α) (ys:List β),ys.length=xs.length->(xs.zip ys).map (·.2)=ys
 |[],[],_=>rfl
 |_::xs,y::ys,h=>by rw[Jg,Qe,Zm2 xs ys (by simpa using h)]
 |[],_::_,h=>by simp at h
 |_::_,[],h=>by simp at h
theorem Uj{es:List Expr}{k:Nat}{ix:List Nat}(hc:X.calm=true)(h:PGs X es (Zmj ix))(hn:(assignEach es X.env).length=ix.length:=by rfl)(hst:(assignEach es X.env).findIdx? (·.1)=none:=by rfl):GV X (.Tuple es k pos) (gT ix) :=
 PG.imp (Zzl hc h hn hst) fun v σ H Q ⟨O,d,ws,th,r,e,q⟩=>by
  cases d with
  |tup ds =>
   have e:(if ds.length=ix.length then some (ix.zip ds) else none)=some ws:=e
   split at e
   ·rename_i hl
    cases e
    obtain⟨a,vs,rfl,ht,rs⟩:=r
    refine⟨a,vs,rfl,Wx.of (Zf _ _ ht),by rw[rs.length];exact hl,Zgj ix ds vs σ H Q hl rs (q vs ?_)⟩
    rw[Zm2 ix ds hl];exact rs
   ·cases e
  |_=>cases e
end
def Z1i(K:PySem.W.Frag)(O:List Addr)(Hb:Hp)(J:It)(ds:List D):Prop:=∀H O',Zg (mask O Hb) (mask O' H)->YY O' H->∀i,
 (∀d,ds[i]?=some d->J.go i H/\∀x H',J.yld i H x H'->Zg H H'/\Y8 K (mask O' H') d x)/\(ds.length<=i->J.stop i H)
def Zya(K:PySem.W.Frag)(J:It)(ds:List D):Prop:=∀H O',YY O' H->∀i,
 (∀d,ds[i]?=some d->J.go i H/\∀x H',J.yld i H x H'->Zg H H'/\Y8 K (mask O' H') d x)/\(ds.length<=i->J.stop i H)
def tI(K:PySem.W.Frag)(f:FA):TI:=fun σ H R=>∃O ρ ds,RV K O H ρ σ/\f ρ=some ds/\∀J H',Zg H H'->Z1i K O H' J ds->R J H'
def tIA(K:PySem.W.Frag)(f:FA):TI:=fun σ H R=>∃O ρ ds,RV K O H ρ σ/\f ρ=some ds/\∀J H',Zg H H'->Zya K J ds->R J H'
def IV(X:Cx)(tg e:Expr)(f:FA):Prop:=PI X tg e (tI X.K f)
def Zla(X:Cx)(tg e:Expr)(f:FA):Prop:=PI X tg e (tIA X.K f)
theorem PI.imp{X:Cx}{tg e:Expr}{t t':TI}(h:PI X tg e t)(k:∀σ H R,t' σ H R->t σ H R):PI X tg e t':=fun pins s σ H R I hw=>h pins s σ H R I (k σ H R hw)
theorem PI.or{X:Cx}{tg e:Expr}{t t':TI}(h:PI X tg e t)(h':PI X tg e t'):PI X tg e (fun σ H R=>t σ H R\/t' σ H R):=fun pins s σ H R I hw=>hw.elim (h pins s σ H R I) (h' pins s σ H R I)
theorem Zla.iv{X:Cx}{tg e:Expr}{f:FA}(h:Zla X tg e f):IV X tg e f:=PI.imp h fun σ H R ⟨O,ρ,ds,rv,e,q⟩=>⟨O,ρ,ds,rv,e,fun J H' s w=>q J H' s fun H2 O' _ th i=>w H2 O' th i⟩
def We:D->Option (List D)
 |.lst ds=>some ds
 |.tup ds=>some ds
 |.scr ns=>some (ns.map .int)
 |_=>none
def Zh(a:FE):FA:=fun ρ=>(a ρ).bind We
section
variable{X:Cx}{tg e:Expr}
theorem Zqi{K:PySem.W.Frag}{O:List Addr}{H:Hp}{a:Addr}{ds:List D}{vs:List V}(h:Wx K (mask O H) a vs)(r:Zr K (mask O H) ds vs):Z1i K O H (Itt K a) ds:=by
 intro H2 O' s th i
 have h2:Wx K H2 a vs:=Zg.seqT Zf (Zg.seqT s h)
 refine⟨fun d e=>?_,fun hl=>⟨vs,h2,by rw[r.length];exact hl⟩⟩
 obtain⟨v,e1,e2⟩:=r.get e
 refine⟨⟨vs,v,h2,e1⟩,fun x H3 ⟨eh,q⟩=>?_⟩
 subst eh
 have:=q vs h2
 rw[e1]at this
 cases this
 exact⟨(Zg.refl _),Y8.mono s d _ e2⟩
theorem Zi1{K:PySem.W.Frag}{O:List Addr}{H:Hp}{a:Addr}{ds:List D}{vs:List V}(h:XX K (mask O H) a vs)(r:Zr K (mask O H) ds vs):Z1i K O H (Itl K a) ds:=by
 intro H2 O' s th i
 have h2:XX K H2 a vs:=Zg.seq Zf (Zg.seq s h)
 refine⟨fun d e=>?_,fun hl=>⟨vs,h2,by rw[r.length];exact hl⟩⟩
 obtain⟨v,e1,e2⟩:=r.get e
 refine⟨⟨vs,v,h2,e1⟩,fun x H3 ⟨eh,q⟩=>?_⟩
 subst eh
 have:=q vs h2
 rw[e1]at this
 cases this
 exact⟨(Zg.refl _),Y8.mono s d _ e2⟩
theorem Yi{fa:FE}(h:EV X e fa):IV X tg e (Zh fa):=PI.imp (PI.or (Zvr (tg:=tg) h) (Zzk (tg:=tg) h)) fun σ H R ⟨O,ρ,ds,rv,e,q⟩=>by
 obtain⟨x,e1,e2⟩:=bind_some e
 cases x with
 |lst es =>
  cases e2
  refine .inl ⟨O,ρ,_,rv,e1,fun v H1 s1 ⟨a,vs,ev,hv,r⟩=>⟨a,ev,⟨vs,XX.of (Zf _ _ hv)⟩,q _ H1 s1 (Zi1 (XX.of hv) r)⟩⟩
 |scr ns =>
  cases e2
  refine .inl ⟨O,ρ,_,rv,e1,fun v H1 s1 ⟨a,ev,hv⟩=>⟨a,ev,⟨_,Zg.seq Zf hv⟩,q _ H1 s1 (Zi1 hv (WL ns))⟩⟩
 |tup es =>
  cases e2
  refine .inr ⟨O,ρ,_,rv,e1,fun v H1 s1 ⟨a,vs,ev,hv,r⟩=>⟨a,ev,⟨vs,Wx.of (Zf _ _ hv)⟩,q _ H1 s1 (Zqi (Wx.of hv) r)⟩⟩
 |_=>cases e2
end
def Wr(lo:Int)(n:Nat):List D:=(List.range n).map fun(k:Nat)=>D.int (lo+(k:Int))
noncomputable def YW:List D->Option (List D)
 |[.int j]=>@ite _ (-(2^62)<=j/\j<2^62) (Classical.propDecidable _) (some (Wr 0 j.toNat)) none
 |_=>none
noncomputable def Zbl:List D->Option (List D)
 |[.int i,.int j]=>@ite _ ((-(2^62)<=i/\i<2^62)/\-(2^62)<=j/\j<2^62) (Classical.propDecidable _) (some (Wr i (j-i).toNat)) none
 |_=>none
def fR(r:List D->Option (List D))(a:FA):FA:=fun ρ=>(a ρ).bind r
theorem Zlt{lo:Int}{n i:Nat}{d:D}(h:(Wr lo n)[i]?=some d):i<n/\d=.int (lo+(i:Int)):=by
 unfold Wr at h
 rw[QC]at h
 by_cases hi:i<n
 ·rw[List.getElem?_range hi]at h
  exact⟨hi,by cases h;rfl⟩
 ·rw[QA (by simpa using hi)]at h
  cases h
theorem Zdt{lo:Int}{n:Nat}:(Wr lo n).length=n:=by simp[Wr]
theorem Zi0{K:PySem.W.Frag}{lo:Int}{n:Nat}:Zya K (Itr lo n) (Wr lo n):=by
 intro H O' th i
 refine⟨fun d e=>?_,fun hl=>by rw[Zdt]at hl;exact hl⟩
 obtain⟨hi,rfl⟩:=Zlt e
 refine⟨hi,fun x H3 ⟨eh,q⟩=>?_⟩
 subst eh
 exact⟨(Zg.refl _),q⟩
section
variable{X:Cx}{tg a b:Expr}{p pos:Pos}{fa:FA}
theorem Yo(hm:X.mg "range"=none)(ha:AV X [a] fa)(hg:Gl X "range":=by rfl)(hs:starEach [a] X.env=[(false,eval a X.env)]:=by rfl):Zla X tg (.Call (.Name "range" p) [a] [] pos) (fR YW fa) :=
 PI.imp (Zo2 hg hm ha hs) fun σ H R ⟨O,ρ,ds,rv,e,q⟩=>by
  obtain⟨xs,e1,e2⟩:=bind_some e
  refine⟨O,ρ,xs,rv,e1,fun vs H1 s1 r=>?_⟩
  unfold YW at e2
  split at e2
  ·rename_i j
   split at e2
   ·rename_i hj
    cases e2
    obtain⟨v,vr,rfl,hv,ht⟩:=r
    have h1:v=.int j:=hv
    have h2:vr=[]:=ht
    subst h1;subst h2
    exact⟨j,rfl,hj.1,hj.2,q _ H1 s1 Zi0⟩
   ·cases e2
  ·cases e2
theorem Zgc(hm:X.mg "range"=none)(ha:AV X [a,b] fa)(hg:Gl X "range":=by rfl)(hs:starEach [a,b] X.env=[(false,eval a X.env),(false,eval b X.env)]:=by rfl)(hs2:starEach [b] X.env=[(false,eval b X.env)]:=by rfl) :
  Zla X tg (.Call (.Name "range" p) [a,b] [] pos) (fR Zbl fa) :=
 PI.imp (Zo1 hg hm ha hs hs2) fun σ H R ⟨O,ρ,ds,rv,e,q⟩=>by
  obtain⟨xs,e1,e2⟩:=bind_some e
  refine⟨O,ρ,xs,rv,e1,fun vs H1 s1 r=>?_⟩
  unfold Zbl at e2
  split at e2
  ·rename_i i j
   split at e2
   ·rename_i hj
    cases e2
    obtain⟨v,vr,rfl,hv,w,wr,rfl,hw,ht⟩:=r
    have h1:v=.int i:=hv
    have h2:w=.int j:=hw
    have h3:wr=[]:=ht
    subst h1;subst h2;subst h3
    exact⟨i,j,rfl,⟨hj.1.1,hj.1.2,hj.2.1,hj.2.2⟩,q _ H1 s1 Zi0⟩
   ·cases e2
  ·cases e2
end
def Za3(t:FG)(gt:FT)(fe:FE)(ρ:Ww):List D->Option (List D)
 |[]=>some []
 |d::ds=>(t d).bind fun ws=>(gt (VD ρ ws)).bind fun k=>if k=true then(fe (VD ρ ws)).bind fun y=>(Za3 t gt fe ρ ds).bind fun ys=>some (y::ys) else Za3 t gt fe ρ ds
def env0(n:Nat)(ix:List Nat)(ρ:Ww):Ww:=List.replicate n none++ix.map fun i=>(ρ[i]?).getD none
def ZK(n:Nat)(ix:List Nat)(fi:FA)(t:FG)(gt:FT)(fe:FE):FE:=fun ρ=>(fi ρ).bind fun ds=>if ds.length<=Yu then(Za3 t gt fe (env0 n ix ρ) ds).bind fun ys=>some (.lst ys) else none
def Xn:FT:=fun _=>some true
def TVs(X:Cx)(ifs:List Expr)(g:FT):Prop:=Z1n X ifs (tT X.K g)
theorem YH{X:Cx}:TVs X [] Xn:=fun pins s σ H Q I ⟨O,ρ,b,rv,e,q⟩=>by
 cases e
 exact Zvi pins s σ H Q I (q H (Zg.refl _))
theorem Wf{X:Cx}{c:Expr}{g:FT}(h:TV X c g):TVs X [c] g:=Zvh h
theorem Zem{α:Type}{l:List (Option α)}{i:Nat}{x y:α}(h:(l.set i (some x))[i]?=some (some y)):x=y:=by
 rw[List.getElem?_set]at h
 split at h
 ·split at h
  ·cases h;rfl
  ·cases h
 ·rename_i hn;exact absurd rfl hn
theorem Zel{α:Type}{l:List (Option α)}{i j:Nat}{x y:α}(hn:i≠j)(h:(l.set i (some x))[j]?=some (some y)):l[j]?=some (some y):=by
 rwa[QB hn]at h
theorem RV.set1{K:PySem.W.Frag}{O:List Addr}{H:Hp}{ρ:Ww}{σ:St}{i:Nat}{d:D}{v:V}(r:RV K O H ρ σ)(hl:ρ.length=σ.length)(h:Y8 K (mask O H) d v):RV K O H (ρ.set i (some d)) (σ.set i (some v)) :=
 ⟨r.th,fun j e q=>by
  by_cases hj:i=j
  ·subst hj
   have hi:i<ρ.length:=by
    have:=(Qp.mp q).1
    simpa using this
   have:=Zem q
   subst this
   exact⟨v,by rw[QY (by omega)],h⟩
  ·obtain⟨w,h1,h2⟩:=r.at_ j e (Zel hj q)
   exact⟨w,by rw[QB hj];exact h1,h2⟩⟩
theorem RV.sets{K:PySem.W.Frag}{O:List Addr}{H:Hp}:∀(ws:List (Nat×D)) (vs:List V) {ρ:Ww} {σ:St},RV K O H ρ σ->ρ.length=σ.length->Zr K (mask O H) (ws.map (·.2)) vs->RV K O H (VD ρ ws) (Zcr σ ws vs)/\(VD ρ ws).length=(Zcr σ ws vs).length
 |[],_,_,_,r,hl,_=>⟨r,hl⟩
 |w::ws,_,ρ,σ,r,hl,⟨v,vr,e,h,t⟩=>by
  subst e
  exact RV.sets ws vr (r.set1 hl h) (by simpa using hl) t
theorem Zn6{K:PySem.W.Frag}{O:List Addr}{H:Hp}{n:Nat}{ix:List Nat}{ρ:Ww}{σ:St}(r:RV K O H ρ σ):RV K O H (env0 n ix ρ) (Zxb n ix σ):=⟨r.th,fun i d e=>by
 unfold env0 at e
 by_cases hi:i<n
 ·rw[QL (by simpa using hi),QV]at e
  split at e<;>cases e
 ·rw[QT (by simpa using hi),QC]at e
  simp only[JG]at e
  cases q:ix[i-n]? with
  |none=>rw[q]at e;cases e
  |some k =>
   rw[q]at e
   simp only[J4]at e
   have e':ρ[k]?=some (some d):=by
    cases w:ρ[k]? with
    |none=>rw[w]at e;cases e
    |some o=>rw[w]at e;simpa using e
   obtain⟨v,h1,h2⟩:=r.at_ k d e'
   refine⟨v,?_,h2⟩
   unfold Zxb
   rw[QT (by simpa using hi),QC]
   simp only[JG,q,J4]
   rw[h1];rfl⟩
theorem RV.weak{K:PySem.W.Frag}{O:List Addr}{H:Hp}{ρ ρ':Ww}{σ:St}(r:RV K O H ρ σ)(h:∀(i:Nat) (d:D),ρ'[i]?=some (some d)->ρ[i]?=some (some d)):RV K O H ρ' σ:=⟨r.th,fun i d e=>r.at_ i d (h i d e)⟩
theorem Zjf:∀(ws:List (Nat×D)) {n:Nat} {ρ:Ww},(∀w∈ws,w.1<n)->∀(i:Nat),n<=i->(VD ρ ws)[i]?=ρ[i]?
 |[],_,_,_,_,_=>rfl
 |w::ws,n,ρ,h,i,hi=>by
  unfold VD
  rw[Zjf ws (fun z hz=>h z (Qc _ hz)) i hi,QB]
  have:=h w Qd
  omega
def Zud(n:Nat)(t:FG):Prop:=∀d ws,t d=some ws->∀w∈ws,w.1<n
theorem Xh{n i:Nat}(h:i<n):Zud n (gN i):=fun d ws e w hw=>by
 cases e
 have:w=(i,d):=by simpa using hw
 subst this;exact h
theorem Ztf{n:Nat}{ix:List Nat}(h:ix.all (·<n)=true):Zud n (gT ix):=fun d ws e w hw=>by
 cases d with
 |tup ds =>
  have e:(if ds.length=ix.length then some (ix.zip ds) else none)=some ws:=e
  split at e
  ·cases e
   have:=(List.of_mem_zip (show(w.1,w.2)∈_ from hw)).1
   simpa using Ja.mp h _ this
  ·cases e
 |_=>cases e
section
variable{X:Cx}
theorem Zew{n:Nat}{ix:List Nat}{fi:FA}{t:FG}{gt:FT}{fe:FE}(hlen:∀{ρ:Ww},True)(hok:Zud n t){σ:St}{H:Hp}{Q:VK}
  (h:∃O ρ ys,RV X.K O H ρ σ/\(∃ds,fi ρ=some ds/\ds.length<=Yu/\Za3 t gt fe (env0 n ix ρ) ds=some ys)/\∀a vs H',Zg H H'->H' a=none->Zr X.K (mask O H') ys vs->Q (.ref a) (YZ H' a (.lst vs))) :
  Zi8 n ix (tI X.K fi) (tG X.K t) (tT X.K gt) (tD X.K fe) σ H Q:=by
 obtain⟨O,ρ,ys,rv,⟨ds,e1,hlim,e2⟩,q⟩:=h
 refine⟨O,ρ,ds,rv,e1,fun J H1 s1 wk=>?_⟩
 refine⟨fun i m us σ' H'=>m=ds.length-i/\i<=ds.length/\us.length<=i/\Zg H1 H'/\σ'.length=n+ix.length/\RV X.K O H' (env0 n ix ρ) σ' /\
  ∃pre post,Zr X.K (mask O H') pre us/\Za3 t gt fe (env0 n ix ρ) (ds.drop i)=some post/\ys=pre++post,
  ⟨ds.length,by simp,QZ _,Qj _,(Zg.refl _),Zg9 n ix σ,Zn6 (rv.mono s1),[],ys,rfl,by simpa using e2,rfl⟩,?_⟩
 rintro i m us σ' H' ⟨rfl,hi,hu,s2,hσ,rv',pre,pst,rp,ec,ey⟩
 have wk':=wk H' O (ZH s2) rv'.th i
 by_cases hlt:i<ds.length
 ·have hd:ds.drop i=ds[i]::ds.drop (i+1):=Jj hlt
  have hg:ds[i]?=some ds[i]:=Qq hlt
  obtain⟨go,yl⟩:=wk'.1 _ hg
  refine .inr ⟨go,?_,fun x H2 hy=>?_⟩
  ·have:=Xw hlim;omega
  ·obtain⟨s3,rx⟩:=yl x H2 hy
   have rv3:=rv'.mono s3
   rw[hd]at ec
   unfold Za3 at ec
   obtain⟨ws,et,ec⟩:=bind_some ec
   obtain⟨k,eg,ec⟩:=bind_some ec
   refine⟨O,_,ws,rv3.th,rx,et,fun vs rs=>?_⟩
   have hl0:(env0 n ix ρ).length=σ'.length:=by rw[hσ];simp[env0]
   obtain⟨rv4,hl4⟩:=RV.sets ws vs rv3 hl0 rs
   have hσ4:(Zcr σ' ws vs).length=n+ix.length:=by
    rw[<- hl4]
    have:∀(ws:List (Nat×D)) (r:Ww),(VD r ws).length=r.length:=by
     intro ws
     induction ws with
     |nil=>intro r;rfl
     |cons w ws ih=>intro r;unfold VD;rw[ih];simp
    rw[this,hl0,hσ]
   have back:∀{H5:Hp},Zg H2 H5->RV X.K O H5 (env0 n ix ρ) (Zcr σ' ws vs):=fun{H5} s5=>(rv4.mono s5).weak fun j d ej=>by
    by_cases hj:n<=j
    ·rw[Zjf ws (hok _ ws et) j hj];exact ej
    ·exfalso
     unfold env0 at ej
     rw[QL (by simpa using hj),QV]at ej
     split at ej<;>cases ej
   refine⟨O,_,k,rv4,eg,fun H4 s4=>?_⟩
   cases k with
   |false =>
    rw[if_neg QE]at ec ⊢
    exact⟨_,by omega,rfl,hlt,by omega,Zg.trans s2 (Zg.trans s3 s4),hσ4,back s4,pre,pst,Zr.mono (ZH (Zg.trans s3 s4)) pre us rp,ec,ey⟩
   |true =>
    rw[if_pos rfl]at ec ⊢
    obtain⟨y,ef,ec⟩:=bind_some ec
    obtain⟨YK,er,ec⟩:=bind_some ec
    cases ec
    refine⟨O,_,y,rv4.mono s4,ef,fun v H5 s5 r5=>?_⟩
    refine⟨_,by omega,rfl,hlt,?_,Zg.trans s2 (Zg.trans s3 (Zg.trans s4 s5)),hσ4,back (Zg.trans s4 s5),pre++[y],YK,Zr.append (Zr.mono (ZH (Zg.trans s3 (Zg.trans s4 s5))) pre us rp) (Zr.one r5),er,by rw[ey];simp⟩
    simp;omega
 ·have e:i=ds.length:=by omega
  subst e
  refine .inl ⟨wk'.2 (Qj _),by have:=Xw hlim;omega,fun l hl=>?_⟩
  rw[List.drop_length]at ec
  cases ec
  rw[Q1]at ey
  subst ey
  exact q l us H' (Zg.trans s1 s2) hl rp
theorem Zep{n:Nat}{ix:List Nat}{fi:FA}{t:FG}{gt:FT}{fe:FE}{ρ:Ww}{d:D}(h:ZK n ix fi t gt fe ρ=some d):∃ys,d=.lst ys/\∃ds,fi ρ=some ds/\ds.length<=Yu/\Za3 t gt fe (env0 n ix ρ) ds=some ys:=by
 obtain⟨ds,e1,h⟩:=bind_some h
 split at h
 ·rename_i hl
  obtain⟨ys,e2,h⟩:=bind_some h
  cases h
  exact⟨ys,rfl,ds,e1,hl,e2⟩
 ·cases h
variable{scope:Scope}{elt tg iter:Expr}{ifs:List Expr}{pos:Pos}{fi:FA}{t:FG}{gt:FT}{fe:FE}
theorem Yp(N:List Str)(n:Nat)(ix:List Nat)(hok:Zud n t)(hc:X.calm=true)(hi:IV X tg iter fi)
  (hg:∀cl C s H fp,GV (Yc X N scope cl C s H fp) tg t) (ht:∀cl C s H fp,TVs (Yc X N scope cl C s H fp) ifs gt) (he:∀cl C s H fp,EV (Yc X N scope cl C s H fp) elt fe)
  (hk:scope.kind=.function:=by rfl) (hcell:(scope.names.all fun y=>!(y.2 == .cell))=true:=by rfl) (hnames:(scope.names.all fun y=>!(y.2 == .local)||(scope.names.lookup y.1 == some .local))=true:=by rfl)
  (hNl:N.length=n+ix.length:=by rfl) (hout:Zdy X.N N n scope X.env ix=true:=by rfl) (hfree:U3 scope X.env.cells=true:=by rfl) (hs:∀x,foldedSetIterable iter X.env x=pure x:=by intro _;rfl) :
  EV X (.ListComp elt [⟨tg,iter,ifs,0⟩] scope pos) (ZK n ix fi t gt fe) :=
 PE.imp (Zvw (g:=tG X.K t) (tt:=tT X.K gt) (te:=tD X.K fe) N n ix hc hi hg ht he hk hcell hnames hNl hout hfree hs) fun σ H Q ⟨O,ρ,d,rv,e,q⟩=>by
  obtain⟨ys,rfl,hh⟩:=Zep e
  exact Zew (fun{_}=>trivial) hok ⟨O,ρ,ys,rv,hh,fun a vs H' s hn r=>q _ _ (Zg.trans s (Zg.new hn)) (YD (rv.th.mono s) hn r)⟩
end
def Us(K:PySem.W.Frag)(O:List Addr)(H:Hp):D->Addr->Prop
 |.lst ds,a=>∃vs,H a=some (.lst vs)/\Zr K (mask O H) ds vs
 |.dcK ks ds,a=>∃kvs,H a=some (.dK kvs)/\kvs.map (·.1)=ks/\Zr K (mask O H) ds (kvs.map (·.2))
 |.dcT ks ds,a=>∃kvs,H a=some (.dT kvs)/\kvs.map (·.1)=ks/\Zr K (mask O H) ds (kvs.map (·.2))
 |_,_=>False
theorem Us.rep{K:PySem.W.Frag}{O O':List Addr}{H:Hp}{a:Addr}:∀{d:D},Us K O H d a->(∀b∈O',b∈O)->a∉O'->Y8 K (mask O' H) d (.ref a)
 |.lst ds,⟨vs,h,r⟩,hs,hn=>⟨a,vs,rfl,by rw[Zp hn];exact h,Zr.mono (fun b o e=>by
   by_cases hb:b∈O'
   ·rw[ZY (hs b hb)]at e;cases e
   ·rw[Zp hb];exact Zf _ _ e) ds vs r⟩
 |.dcK ks ds,⟨kvs,h,k,r⟩,hs,hn=>⟨a,kvs,rfl,by rw[Zp hn];exact h,k,Zr.mono (fun b o e=>by
   by_cases hb:b∈O'
   ·rw[ZY (hs b hb)]at e;cases e
   ·rw[Zp hb];exact Zf _ _ e) ds _ r⟩
 |.dcT ks ds,⟨kvs,h,k,r⟩,hs,hn=>⟨a,kvs,rfl,by rw[Zp hn];exact h,k,Zr.mono (fun b o e=>by
   by_cases hb:b∈O'
   ·rw[ZY (hs b hb)]at e;cases e
   ·rw[Zp hb];exact Zf _ _ e) ds _ r⟩
 |.non,h,_,_=>h.elim
 |.bl _,h,_,_=>h.elim
 |.int _,h,_,_=>h.elim
 |.str _,h,_,_=>h.elim
 |.tup _,h,_,_=>h.elim
 |.scr _,h,_,_=>h.elim
 |.dcF _ _,h,_,_=>h.elim
theorem Us.mono{K:PySem.W.Frag}{O O':List Addr}{H H':Hp}{a:Addr}(s:Zg (mask O H) (mask O' H'))(ha:∀o,H a=some o->H' a=some o):∀{d:D},Us K O H d a->Us K O' H' d a
 |.lst ds,⟨vs,h,r⟩=>⟨vs,ha _ h,Zr.mono s ds vs r⟩
 |.dcK ks ds,⟨kvs,h,k,r⟩=>⟨kvs,ha _ h,k,Zr.mono s ds _ r⟩
 |.dcT ks ds,⟨kvs,h,k,r⟩=>⟨kvs,ha _ h,k,Zr.mono s ds _ r⟩
 |.non,h=>h.elim
 |.bl _,h=>h.elim
 |.int _,h=>h.elim
 |.str _,h=>h.elim
 |.tup _,h=>h.elim
 |.scr _,h=>h.elim
 |.dcF _ _,h=>h.elim
structure RS(K:PySem.W.Frag)(B:Hp)(O0 O1:List Addr)(H:Hp)(ρ:YT)(σ:St):Prop where
 len:ρ.length=σ.length
 same:Zg B H
 thB:YY O0 B
 new:∀a∈O1,B a=none
 th:YY O1 H
 vals:∀(i:Nat) (d:D),ρ[i]?=some (some (.val d))->∃v,σ[i]?=some (some v)/\Y8 K (mask (O0++O1) H) d v
 owns:∀(i:Nat) (d:D),ρ[i]?=some (some (.own d))->∃a,σ[i]?=some (some (.ref a))/\a∈O1/\Us K (O0++O1) H d a
 apart:∀(i j:Nat) (d e:D) (a:Addr),ρ[i]?=some (some (.own d))->ρ[j]?=some (some (.own e))->σ[i]?=some (some (.ref a))->σ[j]?=some (some (.ref a))->i=j
section
variable{K:PySem.W.Frag}{B H H':Hp}{O0 O1:List Addr}{ρ:YT}{σ:St}
theorem YY.app{O O':List Addr}(h:YY O H)(h':YY O' H):YY (O++O') H:=fun a m=>(Qu.mp m).elim (h a) (h' a)
theorem RS.th0(r:RS K B O0 O1 H ρ σ):YY O0 H:=r.thB.mono r.same
theorem RS.disj(r:RS K B O0 O1 H ρ σ){a:Addr}(h:a∈O1):a∉O0:=fun m=>by
 obtain⟨o,e,_⟩:=r.thB a m
 rw[r.new a h]at e;cases e
theorem RS.mono(r:RS K B O0 O1 H ρ σ)(s:Zg H H'):RS K B O0 O1 H' ρ σ :=
 ⟨r.len,Zg.trans r.same s,r.thB,r.new,r.th.mono s,fun i d e=>let⟨v,h1,h2⟩:=r.vals i d e;⟨v,h1,Y8.mono (ZH s) d v h2⟩,
  fun i d e=>let⟨a,h1,h2,h3⟩:=r.owns i d e;⟨a,h1,h2,h3.mono (ZH s) fun o q=>s _ _ q⟩,r.apart⟩
theorem map_get{α β:Type}{l:List α}{f:α->β}{i:Nat}{b:β}(h:(l.map f)[i]?=some b):∃a,l[i]?=some a/\f a=b:=by
 rw[QC]at h
 cases e:l[i]? with
 |none=>rw[e]at h;cases h
 |some a=>rw[e]at h;exact⟨a,rfl,Q9 h⟩
theorem RS.all(r:RS K B O0 O1 H ρ σ):RV K O0 H (Ye ρ) σ:=⟨r.th0,fun i d e=>by
 obtain⟨c,e1,e2⟩:=map_get e
 cases c with
 |none=>cases e2
 |some c =>
  cases c with
  |val d' =>
   cases e2
   obtain⟨v,h1,h2⟩:=r.vals i d e1
   refine⟨v,h1,Y8.mono (fun b o q=>?_) d v h2⟩
   by_cases hb:b∈O0
   ·rw[ZY (Qw _ hb)]at q;cases q
   ·rw[Zp hb];exact Zf _ _ q
  |own d' =>
   cases e2
   obtain⟨a,h1,h2,h3⟩:=r.owns i d e1
   exact⟨_,h1,h3.rep (fun b hb=>Qw _ hb) (r.disj h2)⟩⟩
theorem RS.val(r:RS K B O0 O1 H ρ σ):RV K (O0++O1) H (Yb ρ) σ:=⟨YY.app r.th0 r.th,fun i d e=>by
 obtain⟨c,e1,e2⟩:=map_get e
 cases c with
 |none=>cases e2
 |some c =>
  cases c with
  |val d'=>cases e2;exact r.vals i d e1
  |own d'=>cases e2⟩
theorem Yr{l:YT}{i j:Nat}{x:Cl}{y:Cl}(h:(l.set i (some x))[j]?=some (some y)):(i=j/\x=y)\/(i≠j/\l[j]?=some (some y)):=by
 by_cases hj:i=j
 ·subst hj;exact .inl ⟨rfl,Zem h⟩
 ·exact .inr ⟨hj,Zel hj h⟩
theorem RS.set(r:RS K B O0 O1 H ρ σ){i:Nat}{d:D}{v:V}(h:Y8 K (mask (O0++O1) H) d v):RS K B O0 O1 H (ρ.set i (some (.val d))) (σ.set i (some v)):=by
 have other:∀{j:Nat} {o:Option V},i≠j->(σ.set i (some v))[j]?=some o->σ[j]?=some o:=fun hn q=>by rwa[QB hn]at q
 refine⟨by simpa using r.len,r.same,r.thB,r.new,r.th,fun j e q=>?_,fun j e q=>?_,fun j k d1 d2 a q1 q2 q3 q4=>?_⟩
 ·rcases Yr q with⟨rfl,z⟩|⟨hn,q'⟩
  ·cases z
   have hi:i<ρ.length:=by simpa using (Qp.mp q).1
   exact⟨v,by rw[QY (by rw[<- r.len];exact hi)],h⟩
  ·obtain⟨w,h1,h2⟩:=r.vals j e q'
   exact⟨w,by rw[QB hn];exact h1,h2⟩
 ·rcases Yr q with⟨rfl,z⟩|⟨hn,q'⟩
  ·cases z
  ·obtain⟨a,h1,h2,h3⟩:=r.owns j e q'
   exact⟨a,by rw[QB hn];exact h1,h2,h3⟩
 ·rcases Yr q1 with⟨rfl,z⟩|⟨hn,q1'⟩
  ·cases z
  ·rcases Yr q2 with⟨rfl,z⟩|⟨hn2,q2'⟩
   ·cases z
   ·exact r.apart j k d1 d2 a q1' q2' (other hn q3) (other hn2 q4)
theorem RS.sets:∀(ws:List (Nat×D)) (vs:List V) {ρ:YT} {σ:St},RS K B O0 O1 H ρ σ->Zr K (mask (O0++O1) H) (ws.map (·.2)) vs->RS K B O0 O1 H (XA ρ ws) (Zcr σ ws vs)
 |[],_,_,_,r,_=>r
 |w::ws,_,ρ,σ,r,⟨v,vr,e,h,t⟩=>by
  subst e
  exact RS.sets ws vr (r.set h) t
theorem RS.setOwn(r:RS K B O0 O1 H ρ σ){i:Nat}{d:D}{a:Addr}{o:HO}(hn:H a=none)(hm:Zgf o)(h:Us K (O0++a::O1) (YZ H a o) d a) :
  RS K B O0 (a::O1) (YZ H a o) (ρ.set i (some (.own d))) (σ.set i (some (.ref a))):=by
 have s:Zg (mask (O0++O1) H) (mask (O0++a::O1) (YZ H a o)):=fun b u q=>by
  have hb:b∉O0++O1:=fun m=>by rw[ZY m]at q;cases q
  rw[Zp hb]at q
  have hba:b≠a:=ZW q hn
  rw[Zp (fun m=>hb (by
   rcases Qu.mp m with z|z
   ·exact Qw _ z
   ·rcases Qm.mp z with z|z
    ·exact absurd z hba
    ·exact Qg _ z)),ZE hba]
  exact q
 have noB:B a=none:=by
  cases q:B a with
  |none=>rfl
  |some u=>rw[r.same a u q]at hn;cases hn
 have naO:a∉O1:=r.th.fresh hn
 have other:∀{j:Nat} {x:Option V},i≠j->(σ.set i (some (.ref a)))[j]?=some x->σ[j]?=some x:=fun hn q=>by rwa[QB hn]at q
 have fresh:∀{j:Nat} {e:D} {b:Addr},ρ[j]?=some (some (.own e))->σ[j]?=some (some (.ref b))->b≠a:=fun{j e b} q1 q2=>by
  obtain⟨b',h1,h2,_⟩:=r.owns j e q1
  rw[q2]at h1;cases h1
  intro z;subst z;exact naO h2
 refine⟨by simpa using r.len,Zg.trans r.same (Zg.new hn),r.thB,fun b hb=>?_,fun b hb=>?_,fun j e q=>?_,fun j e q=>?_,fun j k d1 d2 b q1 q2 q3 q4=>?_⟩
 ·rcases Qm.mp hb with z|z
  ·rw[z];exact noB
  ·exact r.new b z
 ·rcases Qm.mp hb with z|z
  ·rw[z];exact⟨o,ZS,hm⟩
  ·obtain⟨u,e,m⟩:=r.th b z
   exact⟨u,Zg.new hn _ _ e,m⟩
 ·rcases Yr q with⟨rfl,z⟩|⟨hj,q'⟩
  ·cases z
  ·obtain⟨w,h1,h2⟩:=r.vals j e q'
   exact⟨w,by rw[QB hj];exact h1,Y8.mono s e w h2⟩
 ·rcases Yr q with⟨rfl,z⟩|⟨hj,q'⟩
  ·cases z
   have hi:i<ρ.length:=by simpa using (Qp.mp q).1
   exact⟨a,by rw[QY (by rw[<- r.len];exact hi)],Qd,h⟩
  ·obtain⟨b,h1,h2,h3⟩:=r.owns j e q'
   exact⟨b,by rw[QB hj];exact h1,Qc _ h2,h3.mono s fun u z=>Zg.new hn _ _ z⟩
 ·rcases Yr q1 with⟨rfl,z1⟩|⟨hj,q1'⟩
  ·rcases Yr q2 with⟨rfl,z2⟩|⟨hk,q2'⟩
   ·rfl
   ·exfalso
    have hi:i<σ.length:=by
     have:=(Qp.mp q3).1
     simpa using this
    rw[QY hi]at q3
    cases q3
    exact fresh q2' (other hk q4) rfl
  ·rcases Yr q2 with⟨rfl,z2⟩|⟨hk,q2'⟩
   ·exfalso
    have hi:i<σ.length:=by
     have:=(Qp.mp q4).1
     simpa using this
    rw[QY hi]at q4
    cases q4
    exact fresh q1' (other hj q3) rfl
   ·exact r.apart j k d1 d2 b q1' q2' (other hj q3) (other hk q4)
theorem RS.write(r:RS K B O0 O1 H ρ σ){i:Nat}{d d':D}{a:Addr}{o:HO}(hi:ρ[i]?=some (some (.own d)))(ha:σ[i]?=some (some (.ref a)))(hm:Zgf o)(h:Us K (O0++O1) (YZ H a o) d' a) :
  RS K B O0 O1 (YZ H a o) (ρ.set i (some (.own d'))) σ:=by
 obtain⟨a',h1,h2,h3⟩:=r.owns i d hi
 rw[ha]at h1;cases h1
 have em:mask (O0++O1) (YZ H a o)=mask (O0++O1) H:=by
  funext b
  by_cases hb:b∈O0++O1
  ·rw[ZY hb,ZY hb]
  ·rw[Zp hb,Zp hb,ZE (fun z=>hb (by rw[z];exact Qg _ h2))]
 have hil:i<ρ.length:=(Qp.mp hi).1
 have un:∀{j:Nat} {e:D} {b:Addr},i≠j->ρ[j]?=some (some (.own e))->σ[j]?=some (some (.ref b))->b≠a:=fun{j e b} hn q1 q2 z=>by
  subst z;exact hn (r.apart i j d e b hi q1 ha q2)
 have sB:Zg B (YZ H a o):=fun b u q=>by
  have:b≠a:=fun z=>by subst z;rw[r.new b h2]at q;cases q
  rw[ZE this];exact r.same b u q
 refine⟨by simpa using r.len,sB,r.thB,r.new,fun b hb=>?_,fun j e q=>?_,fun j e q=>?_,fun j k d1 d2 b q1 q2 q3 q4=>?_⟩
 ·by_cases z:b=a
  ·rw[z];exact⟨o,ZS,hm⟩
  ·rw[ZE z];exact r.th b hb
 ·rcases Yr q with⟨rfl,z⟩|⟨hj,q'⟩
  ·cases z
  ·obtain⟨w,e1,e2⟩:=r.vals j e q'
   rw[em];exact⟨w,e1,e2⟩
 ·rcases Yr q with⟨rfl,z⟩|⟨hj,q'⟩
  ·cases z;exact⟨a,ha,h2,h⟩
  ·obtain⟨b,e1,e2,e3⟩:=r.owns j e q'
   refine⟨b,e1,e2,e3.mono (by rw[em];exact(Zg.refl _)) fun u z=>?_⟩
   rw[ZE (un hj q' e1)];exact z
 ·rcases Yr q1 with⟨rfl,z1⟩|⟨hj,q1'⟩
  ·rcases Yr q2 with⟨rfl,z2⟩|⟨hk,q2'⟩
   ·rfl
   ·exact r.apart i k d d2 b hi q2' q3 q4
  ·rcases Yr q2 with⟨rfl,z2⟩|⟨hk,q2'⟩
   ·exact r.apart j i d1 d b q1' hi q3 q4
   ·exact r.apart j k d1 d2 b q1' q2' q3 q4
theorem RS.rebase(r:RS K B O0 O1 H ρ σ):RS K (mask O1 H) O0 O1 H ρ σ :=
 ⟨r.len,Zf,fun a m=>by
  obtain⟨o,e,k⟩:=r.th0 a m
  exact⟨o,by rw[Zp fun z=>r.disj z m];exact e,k⟩,fun a m=>ZY m,r.th,r.vals,r.owns,r.apart⟩
theorem RS.debase{Hb:Hp}{Ob O2:List Addr}{ρ0:YT}{σ0:St}(r0:RS K B O0 Ob Hb ρ0 σ0)(r:RS K (mask Ob Hb) O0 O2 H ρ σ):RS K B O0 O2 H ρ σ:=by
 have sb:Zg B (mask Ob Hb):=fun b u q=>by
  rw[Zp fun m=>by rw[r0.new b m]at q;cases q]
  exact r0.same b u q
 refine⟨r.len,Zg.trans sb r.same,r0.thB,fun a m=>?_,r.th,r.vals,r.owns,r.apart⟩
 cases q:B a with
 |none=>rfl
 |some u =>
  have h1:=r.new a m
  rw[sb a u q]at h1
  cases h1
end
inductive Zyf where
 |nx (ρ:YT)|rt (d:D)|bk (ρ:YT)|ct (ρ:YT)|bad
abbrev FS:=YT->Zyf
def post(K:PySem.W.Frag)(B:Hp)(O0:List Addr)(E:Ziu):Zyf->Prop
 |.nx ρ=>∀σ H O1,RS K B O0 O1 H ρ σ->E.nx σ H
 |.rt d=>∀v H,Zg B H->Y8 K (mask O0 H) d v->E.rt v H
 |.bk ρ=>∀σ H O1,RS K B O0 O1 H ρ σ->E.bk σ H
 |.ct ρ=>∀σ H O1,RS K B O0 O1 H ρ σ->E.ct σ H
 |.bad=>False
def tS(K:PySem.W.Frag)(F:FS):TS:=fun E σ H=>∃B O0 O1 ρ,RS K B O0 O1 H ρ σ/\post K B O0 E (F ρ)
def SV(X:Cx)(st:Stmt)(F:FS):Prop:=PS X st (tS X.K F)
def Zmx(X:Cx)(sts:List Stmt)(F:FS):Prop:=Zc7 X sts (tS X.K F)
theorem PS.imp{X:Cx}{e:Stmt}{t t':TS}(h:PS X e t)(k:∀D σ H,t' D σ H->t D σ H):PS X e t':=fun pins s σ H D I hw=>h pins s σ H D I (k D σ H hw)
theorem Zc7.imp{X:Cx}{e:List Stmt}{t t':TS}(h:Zc7 X e t)(k:∀D σ H,t' D σ H->t D σ H):Zc7 X e t':=fun pins s σ H D I hw=>h pins s σ H D I (k D σ H hw)
def Zr9(o:Zyf)(G:FS):Zyf:=match o with
 |.nx ρ=>G ρ
 |o=>o
def Zj(F G:FS):FS:=fun ρ=>Zr9 (F ρ) G
def WK:FS:=fun ρ=>.nx ρ
mutual
def Zmf:D->Bool
 |.tup ds=>UO ds
 |.lst _=>false
 |.scr _=>false
 |.dcK _ _=>false
 |.dcT _ _=>false
 |.dcF _ ds=>UO ds
 |_=>true
def UO:List D->Bool
 |[]=>true
 |d::ds=>Zmf d&&UO ds
end
def ZB(i:Nat)(f:FE):FS:=fun ρ=>match f (Yb ρ) with|some d=>.nx (ρ.set i (some (.val d)))|none=>.bad
def Zrg(i:Nat)(f:FE):FS:=fun ρ=>match f (Ye ρ) with|some d=>if Zmf d=true then .nx (ρ.set i (some (.val d))) else .bad|none=>.bad
def Z1(f:FE):FS:=fun ρ=>match f (Ye ρ) with|some d=>.rt d|none=>.bad
def Wj(g:FT)(F G:FS):FS:=fun ρ=>match g (Ye ρ) with|some true=>F ρ|some false=>G ρ|none=>.bad
def Zhc:FS:=fun _=>.bad
def Z8(t:FG)(F:FS):List D->YT->Zyf
 |[],ρ=>.nx ρ
 |d::ds,ρ=>match t d with
  |none=>.bad
  |some ws=>match F (XA ρ ws) with
   |.nx ρ'=>Z8 t F ds ρ'
   |.ct ρ'=>Z8 t F ds ρ'
   |.bk ρ'=>.nx ρ'
   |.rt d=>.rt d
   |.bad=>.bad
def YB(fi:FA)(t:FG)(F:FS):FS:=fun ρ=>match fi (Yb ρ) with|some ds=>Z8 t F ds ρ|none=>.bad
def Y1(fi:FA)(t:FG)(F:FS):FS:=fun ρ=>match fi (Ye ρ) with|some ds=>Z8 t F ds ρ|none=>.bad
def YQ(g:FT)(F:FS):Nat->YT->Zyf
 |0,_=>.bad
 |n+1,ρ=>match g (Ye ρ) with
  |none=>.bad
  |some false=>.nx ρ
  |some true=>match F ρ with
   |.nx ρ'=>YQ g F n ρ'
   |.ct ρ'=>YQ g F n ρ'
   |.bk ρ'=>.nx ρ'
   |.rt d=>.rt d
   |.bad=>.bad
section
variable{X:Cx}{st:Stmt}{YK:List Stmt}{F G:FS}{pos:Pos}
theorem Yd:Zmx X [] WK:=Zc7.imp Zvk fun D σ H ⟨B,O0,O1,ρ,r,q⟩=>q σ H O1 r
theorem Zi(h:SV X st F):Zmx X [st] F:=Zc0 h
theorem Ze(h1:SV X st F)(h2:Zmx X YK G):Zmx X (st::YK) (Zj F G):=Zc7.imp (Uc h1 h2) fun E σ H ⟨B,O0,O1,ρ,r,q⟩=>by
 refine⟨B,O0,O1,ρ,r,?_⟩
 unfold Zj at q
 cases e:F ρ with
 |nx ρ'=>rw[e]at q;exact fun σ' H' O' r'=>⟨B,O0,O',ρ',r',q⟩
 |rt d=>rw[e]at q;exact q
 |bk ρ'=>rw[e]at q;exact q
 |ct ρ'=>rw[e]at q;exact q
 |bad=>rw[e]at q;exact q.elim
theorem Zaj{sts:List Stmt}:Zmx X sts Zhc:=Zc7.imp Zoz fun D σ H ⟨B,O0,O1,ρ,r,q⟩=>q.elim
theorem Zq7:SV X (.Break pos) (fun ρ=>.bk ρ):=PS.imp Zrq fun D σ H ⟨B,O0,O1,ρ,r,q⟩=>q σ H O1 r
theorem ZG{e:Expr}{f:FE}(h:EV X e f):SV X (.Return (some e) pos) (Z1 f):=PS.imp (Zlv h) fun E σ H ⟨B,O0,O1,ρ,r,q⟩=>by
 unfold Z1 at q
 cases e:f (Ye ρ) with
 |none=>rw[e]at q;exact q.elim
 |some d =>
  rw[e]at q
  exact⟨O0,Ye ρ,d,r.all,e,fun v H' s rep=>q v H' (Zg.trans r.same s) rep⟩
theorem Xe{c:Expr}{a b:List Stmt}{g:FT}(hc:TV X c g)(ha:Zmx X a F)(hb:Zmx X b G):SV X (.If c a b pos) (Wj g F G):=PS.imp (ps_if hc ha hb) fun E σ H ⟨B,O0,O1,ρ,r,q⟩=>by
 unfold Wj at q
 cases e:g (Ye ρ) with
 |none=>rw[e]at q;exact q.elim
 |some k =>
  rw[e]at q
  refine⟨O0,Ye ρ,k,r.all,e,fun H' s=>?_⟩
  cases k with
  |true=>rw[if_pos rfl];exact⟨B,O0,O1,ρ,r.mono s,q⟩
  |false=>rw[if_neg QE];exact⟨B,O0,O1,ρ,r.mono s,q⟩
theorem ZZ{i:Nat}{x:Str}{e:Expr}{f:FE}{pos':Pos}(hN:X.N.Nodup)(h:EV X e f)(hi:X.N[i]?=some x:=by rfl)(hx:Zp9 X.env.scope x:=by first|exact Or.inl rfl|exact Or.inr rfl)(hs:swapsWith e (some (.Name x pos')) pos.line X.env=pure false:=by rfl)
  (hf:X.fn x=true\/X.env.scope.names.lookup x=some .local:=by first|exact .inl rfl|exact .inr rfl):SV X (.Assign [.Name x pos'] e pos) (ZB i f):=PS.imp (Zdu hN hi hx h hs hf) fun E σ H ⟨B,O0,O1,ρ,r,q⟩=>by
 unfold ZB at q
 cases e:f (Yb ρ) with
 |none=>rw[e]at q;exact q.elim
 |some d =>
  rw[e]at q
  exact⟨O0++O1,Yb ρ,d,r.val,e,fun v H' s rep=>q _ H' O1 ((r.mono s).set rep)⟩
mutual
theorem Zat{K:PySem.W.Frag}{O O':List Addr}{H:Hp}(th:YY O' H):∀(d:D) (v:V),Zmf d=true->Y8 K (mask O H) d v->Y8 K (mask (O++O') H) d v
 |.non,_,_,r=>r
 |.bl _,_,_,r=>r
 |.int _,_,_,r=>r
 |.str _,_,_,r=>r
 |.tup ds,_,e,⟨a,vs,ev,ht,rs⟩=>⟨a,vs,ev,by
   have key:∀{o:HO},mask O H a=some o->¬Zgf o->mask (O++O') H a=some o:=fun{o} q nm=>by
    have h1:=Zf _ _ q
    refine(Zp fun m=>?_).trans h1
    rcases Qu.mp m with z|z
    ·rw[ZY z]at q;cases q
    ·obtain⟨u,e1,e2⟩:=th a z
     rw[h1]at e1;cases e1;exact nm e2
   exact key ht fun z=>z,V9 th ds vs e rs⟩
 |.dcF ks ds,_,e,⟨a,fo,kvs,ev,ht,hk,rs⟩=>⟨a,fo,kvs,ev,by
   have h1:=Zf _ _ ht
   refine(Zp fun m=>?_).trans h1
   rcases Qu.mp m with z|z
   ·rw[ZY z]at ht;cases ht
   ·obtain⟨u,e1,e2⟩:=th a z
    rw[h1]at e1;cases e1;exact e2,hk,V9 th ds _ e rs⟩
 |.lst _,_,e,_=>by cases e
 |.scr _,_,e,_=>by cases e
 |.dcK _ _,_,e,_=>by cases e
 |.dcT _ _,_,e,_=>by cases e
theorem V9{K:PySem.W.Frag}{O O':List Addr}{H:Hp}(th:YY O' H):∀(ds:List D) (vs:List V),UO ds=true->Zr K (mask O H) ds vs->Zr K (mask (O++O') H) ds vs
 |[],_,_,r=>r
 |d::ds,_,e,⟨v,vr,ev,r,rs⟩=>⟨v,vr,ev,Zat th d v (by simp only[UO,QO]at e;exact e.1) r,V9 th ds vr (by simp only[UO,QO]at e;exact e.2) rs⟩
end
theorem Zak{scope:Scope}{elt tg iter:Expr}{ifs:List Expr}{cpos sp pos':Pos}{fi:FA}{t:FG}{gt:FT}{fe:FE}{i:Nat}{x:Str}(N:List Str)(n:Nat)(ix:List Nat)(hok:Zud n t)(hN:X.N.Nodup)(hc:X.calm=true)(hi:IV X tg iter fi)
  (hg:∀cl C s H fp,GV (Yc X N scope cl C s H fp) tg t) (ht:∀cl C s H fp,TVs (Yc X N scope cl C s H fp) ifs gt) (he:∀cl C s H fp,EV (Yc X N scope cl C s H fp) elt fe)
  (hx0:X.N[i]?=some x:=by rfl) (hx:Zp9 X.env.scope x:=by first|exact Or.inl rfl|exact Or.inr rfl)
  (hsw:swapsWith (.ListComp elt [⟨tg,iter,ifs,0⟩] scope cpos) (some (.Name x pos')) sp.line X.env=pure true:=by rfl)
  (hk:scope.kind=.function:=by rfl) (hcell:(scope.names.all fun y=>!(y.2 == .cell))=true:=by rfl) (hnames:(scope.names.all fun y=>!(y.2 == .local)||(scope.names.lookup y.1 == some .local))=true:=by rfl)
  (hNl:N.length=n+ix.length:=by rfl) (hout:Zdy X.N N n scope X.env ix=true:=by rfl) (hfree:U3 scope X.env.cells=true:=by rfl) (hs:∀x,foldedSetIterable iter X.env x=pure x:=by intro _;rfl)
  (hf:X.fn x=true\/X.env.scope.names.lookup x=some .local:=by first|exact .inl rfl|exact .inr rfl) :
  SV X (.Assign [.Name x pos'] (.ListComp elt [⟨tg,iter,ifs,0⟩] scope cpos) sp) (ZB i (ZK n ix fi t gt fe)) :=
 PS.imp (Znj (g:=tG X.K t) (tt:=tT X.K gt) (te:=tD X.K fe) N n ix hN hx0 hx hc hi hg ht he hsw hk hcell hnames hNl hout hfree hs hf) fun E σ H ⟨B,O0,O1,ρ,r,q⟩=>by
  unfold ZB at q
  cases e:ZK n ix fi t gt fe (Yb ρ) with
  |none=>rw[e]at q;exact q.elim
  |some d =>
   rw[e]at q
   obtain⟨ys,rfl,hh⟩:=Zep e
   exact Zew (fun{_}=>trivial) hok ⟨O0++O1,Yb ρ,ys,r.val,hh,fun a vs H' s hn rep=>q _ _ O1 ((r.mono (Zg.trans s (Zg.new hn))).set (YD (r.val.th.mono s) hn rep))⟩
theorem Zrs{K:PySem.W.Frag}{B B':Hp}{O0:List Addr}{E:Ziu}(sb:Zg B B')(k:∀{H:Hp} {O1:List Addr} {ρ:YT} {σ:St},RS K B' O0 O1 H ρ σ->RS K B O0 O1 H ρ σ):∀(o:Zyf),post K B O0 E o->post K B' O0 E o
 |.nx _,q=>fun σ H O1 r=>q σ H O1 (k r)
 |.rt _,q=>fun v H s r=>q v H (Zg.trans sb s) r
 |.bk _,q=>fun σ H O1 r=>q σ H O1 (k r)
 |.ct _,q=>fun σ H O1 r=>q σ H O1 (k r)
 |.bad,q=>q
theorem Zgl{K:PySem.W.Frag}{t:FG}{F:FS}{B:Hp}{O0:List Addr}{E:Ziu}{J:It}{ds:List D} (wk:∀{O1:List Addr} {H:Hp} {ρ:YT} {σ:St},RS K B O0 O1 H ρ σ->∀i,
   (∀d,ds[i]?=some d->J.go i H/\∀x H',J.yld i H x H'->Zg H H'/\Y8 K (mask (O0++O1) H') d x)/\(ds.length<=i->J.stop i H))
  {O1:List Addr} {H:Hp} {ρ:YT} {σ:St} (r:RS K B O0 O1 H ρ σ) (q:post K B O0 E (Z8 t F ds ρ)) :
  ∃W:Nat->Nat->St->Hp->Prop,(∃m,W 0 m σ H)/\∀i m σ H,W i m σ H ->
   (J.stop i H/\E.nx σ H)\/(J.go i H/\∃N:St->Hp->Prop,(∀σ' H',N σ' H'->∃m',m'<m/\W (i+1) m' σ' H')/\∀x H',J.yld i H x H'->tG K t x σ H' fun σ2 H2=>tS K F { E with nx:=N,ct:=N,bk:=E.nx } σ2 H2):=by
 refine⟨fun i m σ H=>m=ds.length-i/\i<=ds.length/\∃O1 ρ,RS K B O0 O1 H ρ σ/\post K B O0 E (Z8 t F (ds.drop i) ρ),⟨ds.length,by simp,QZ _,O1,ρ,r,by simpa using q⟩,?_⟩
 rintro i m σ H ⟨rfl,hi,O1,ρ,r,q⟩
 have w:=wk r i
 by_cases hlt:i<ds.length
 ·have hd:ds.drop i=ds[i]::ds.drop (i+1):=Jj hlt
  have hg:ds[i]?=some ds[i]:=Qq hlt
  obtain⟨go,yl⟩:=w.1 _ hg
  refine .inr ⟨go,fun σ' H'=>∃O1 ρ,RS K B O0 O1 H' ρ σ'/\post K B O0 E (Z8 t F (ds.drop (i+1)) ρ),fun σ' H' h=>⟨ds.length-(i+1),by omega,rfl,hlt,h⟩,fun x H' hy=>?_⟩
  obtain⟨s,rx⟩:=yl x H' hy
  rw[hd]at q
  unfold Z8 at q
  cases e:t ds[i]with
  |none=>rw[e]at q;exact q.elim
  |some ws =>
   rw[e]at q
   dsimp only at q
   have r':=r.mono s
   refine⟨O0++O1,_,ws,YY.app r'.th0 r'.th,rx,e,fun vs rs=>?_⟩
   refine⟨B,O0,O1,XA ρ ws,r'.sets ws vs rs,?_⟩
   cases e2:F (XA ρ ws) with
   |nx ρ'=>rw[e2]at q;exact fun σ2 H2 O2 r2=>⟨O2,ρ',r2,q⟩
   |ct ρ'=>rw[e2]at q;exact fun σ2 H2 O2 r2=>⟨O2,ρ',r2,q⟩
   |bk ρ'=>rw[e2]at q;exact q
   |rt d=>rw[e2]at q;exact q
   |bad=>rw[e2]at q;exact q.elim
 ·have e:i=ds.length:=by omega
  subst e
  rw[List.drop_length]at q
  exact .inl ⟨w.2 (Qj _),q σ H O1 r⟩
theorem XF{tg iter:Expr}{body:List Stmt}{fi:FA}{t:FG}(hp:PassesOwn (model X.prog X.w) X.A X.env X.xe)(hc:X.calm=true)(hi:IV X tg iter fi)(hg:GV X tg t)(hb:Zmx X body F)
  (hs:∀x,foldedSetIterable iter X.env x=pure x:=by intro _;rfl):SV X (.For tg iter body [] pos) (YB fi t F):=PS.imp (Zlw hp hc hi hg hb hs) fun E σ H ⟨B,O0,O1,ρ,r,q⟩=>by
 unfold YB at q
 cases e:fi (Yb ρ) with
 |none=>rw[e]at q;exact q.elim
 |some ds =>
  rw[e]at q
  refine⟨O0++O1,Yb ρ,ds,r.val,e,fun J H1 s1 wk=>?_⟩
  have r1:=r.mono s1
  refine Zgl (B:=mask O1 H1) (O0:=O0) (fun{O2 H2 ρ2 σ2} r2 i=>wk H2 (O0++O2) (fun b u z=>?_) (YY.app r2.th0 r2.th) i) r1.rebase (Zrs (fun b u z=>?_) (fun r3=>r1.debase r3) _ q)
  ·have hb1:b∉O0++O1:=fun m=>by rw[ZY m]at z;cases z
   have z1:=Zf _ _ z
   have z2:mask O1 H1 b=some u:=by rw[Zp fun m=>hb1 (Qg _ m)];exact z1
   have z3:=r2.same b u z2
   refine(Zp fun m=>?_).trans z3
   rcases Qu.mp m with w|w
   ·exact hb1 (Qw _ w)
   ·rw[r2.new b w]at z2;cases z2
  ·rw[Zp fun m=>by rw[r1.new b m]at z;cases z]
   exact r1.same b u z
theorem W5{tg iter:Expr}{body:List Stmt}{fi:FA}{t:FG}(hp:PassesOwn (model X.prog X.w) X.A X.env X.xe)(hc:X.calm=true)(hi:Zla X tg iter fi)(hg:GV X tg t)(hb:Zmx X body F)
  (hs:∀x,foldedSetIterable iter X.env x=pure x:=by intro _;rfl):SV X (.For tg iter body [] pos) (Y1 fi t F):=PS.imp (Zlw hp hc hi hg hb hs) fun E σ H ⟨B,O0,O1,ρ,r,q⟩=>by
 unfold Y1 at q
 cases e:fi (Ye ρ) with
 |none=>rw[e]at q;exact q.elim
 |some ds =>
  rw[e]at q
  exact⟨O0,Ye ρ,ds,r.all,e,fun J H1 s1 wk=>Zgl (B:=B) (O0:=O0) (fun{O2 H2 ρ2 σ2} r2 i=>wk H2 (O0++O2) (YY.app r2.th0 r2.th) i) (r.mono s1) q⟩
theorem Zq4{c:Expr}{body:List Stmt}{g:FT}(n:Nat)(hp:PassesOwn (model X.prog X.w) X.A X.env X.xe)(hc:TV X c g)(hb:Zmx X body F):SV X (.While c body [] pos) (YQ g F n):=PS.imp (Zrp hp hc hb) fun E σ H ⟨B,O0,O1,ρ,r,q⟩=>by
 refine⟨fun m σ H=>∃O1 ρ,RS X.K B O0 O1 H ρ σ/\post X.K B O0 E (YQ g F m ρ),⟨n,O1,ρ,r,q⟩,?_⟩
 rintro m σ H ⟨O1,ρ,r,q⟩
 cases m with
 |zero=>exact q.elim
 |succ m =>
  unfold YQ at q
  cases e:g (Ye ρ) with
  |none=>rw[e]at q;exact q.elim
  |some k =>
   rw[e]at q
   refine⟨O0,Ye ρ,k,r.all,e,fun H1 s1=>?_⟩
   cases k with
   |false=>exact q _ _ O1 (r.mono s1)
   |true =>
    dsimp only at q
    refine⟨fun σ' H'=>∃O1 ρ,RS X.K B O0 O1 H' ρ σ'/\post X.K B O0 E (YQ g F m ρ),fun σ' H' h=>⟨m,by omega,h⟩,B,O0,O1,ρ,r.mono s1,?_⟩
    cases e2:F ρ with
    |nx ρ'=>rw[e2]at q;exact fun σ2 H2 O2 r2=>⟨O2,ρ',r2,q⟩
    |ct ρ'=>rw[e2]at q;exact fun σ2 H2 O2 r2=>⟨O2,ρ',r2,q⟩
    |bk ρ'=>rw[e2]at q;exact q
    |rt d=>rw[e2]at q;exact q
    |bad=>rw[e2]at q;exact q.elim
end
theorem V3{g:FT}{F:FS}:∀(n:Nat) (ρ:YT),YQ g F n ρ≠.bad->YQ g F (n+1) ρ=YQ g F n ρ
 |0,_,h=>absurd rfl h
 |n+1,ρ,h=>by
  rw[YQ]
  conv=>rhs;rw[YQ]
  rw[YQ]at h
  cases e:g (Ye ρ) with
  |none=>rfl
  |some k =>
   cases k with
   |false=>rfl
   |true =>
    rw[e]at h
    dsimp only at h ⊢
    cases e2:F ρ with
    |nx ρ'=>rw[e2]at h;exact V3 n ρ' h
    |ct ρ'=>rw[e2]at h;exact V3 n ρ' h
    |bk ρ'=>rfl
    |rt d=>rfl
    |bad=>rfl
theorem Zft{g:FT}{F:FS}{n m:Nat}{ρ:YT}(hl:n<=m)(h:YQ g F n ρ≠.bad):YQ g F m ρ=YQ g F n ρ:=by
 obtain⟨k,rfl⟩:=Nat.exists_eq_add_of_le hl
 induction k with
 |zero=>rfl
 |succ k ih =>
  have ih':=ih (by omega)
  rw[<- ih']at h ⊢
  exact V3 (n+k) ρ h
open Classical in
noncomputable def V7(g:FT)(F:FS):FS:=fun ρ=>if h:∃n,YQ g F n ρ≠.bad then YQ g F h.choose ρ else .bad
theorem Zf3{g:FT}{F:FS}{ρ:YT}{o:Zyf}(n:Nat)(h:YQ g F n ρ=o)(hb:o≠.bad):V7 g F ρ=o:=by
 have hx:∃n,YQ g F n ρ≠.bad:=⟨n,by rw[h];exact hb⟩
 unfold V7
 rw[dif_pos hx]
 by_cases hl:n<=hx.choose
 ·rw[Zft hl (by rw[h];exact hb)];exact h
 ·rw[<- Zft (by omega) hx.choose_spec (m:=n)];exact h
section
variable{X:Cx}{F G:FS}{pos:Pos}
theorem Zm8{c:Expr}{body:List Stmt}{g:FT}(hp:PassesOwn (model X.prog X.w) X.A X.env X.xe)(hc:TV X c g)(hb:Zmx X body F):SV X (.While c body [] pos) (V7 g F):=fun pins s σ H E I h=>by
 obtain⟨B,O0,O1,ρ,r,q⟩:=h
 unfold V7 at q
 split at q
 ·rename_i hx
  exact Zq4 hx.choose hp hc hb pins s σ H E I ⟨B,O0,O1,ρ,r,q⟩
 ·exact q.elim
def tF(K:PySem.W.Frag)(f:FA):TE:=fun σ H Q=>∃O ρ ds,RV K O H ρ σ/\f ρ=some ds/\∀a vs H1,Zg H H1->H1 a=none->Zr K (mask O H1) ds vs->Q (.ref a) (YZ H1 a (.lst vs))
def Zun(X:Cx)(e:Expr)(f:FA):Prop:=PE X e (tF X.K f)
def few(ds:List D):Option (List D):=if ds.length<=Yu then some ds else none
theorem Zth{ds es:List D}(h:few ds=some es):es=ds/\ds.length<=sizeLine:=by
 unfold few at h
 split at h
 ·rename_i hl;cases h;exact⟨rfl,Xw hl⟩
 ·cases h
theorem Xp{es:List Expr}{f:FA}(h:AV X es f):Zun X (.List es pos) (fR few f):=PE.imp (Zrw h) fun σ H Q ⟨O,ρ,d,rv,e,q⟩=>by
 obtain⟨ds,e1,e⟩:=bind_some e
 obtain⟨rfl,hl⟩:=Zth e
 exact⟨O,ρ,_,rv,e1,fun vs H1 s1 r1=>⟨by rw[r1.length];exact hl,fun p hp=>q p vs H1 s1 hp r1⟩⟩
theorem Zko{x:Expr}{p:Pos}{f:FE}(h:EV X x f)(hm:X.mg "list"=none)(hv:bootBuiltins "list"=some (.type "list"))(hg:Gl X "list":=by rfl)
  (he:starEach [x] X.env=(false,eval x X.env)::starEach [] X.env:=by rfl) (hpl:(backTo pos (starEach [] X.env)).any (·.1)=false:=by rfl):Zun X (.Call (.Name "list" p) [x] [] pos) (Zh f) :=
 PE.imp (Zbq Zil hg hm hv (XZ h VJ he) (by decide) (by decide) he hpl) fun σ H Q ⟨O,ρ,ds,rv,e,q⟩=>by
  obtain⟨d,e1,e⟩:=bind_some e
  refine⟨O,ρ,d,rv,e1,fun v H1 s1 r1=>?_⟩
  cases d with
  |lst es =>
   cases e
   obtain⟨a,vs,rfl,h1,r⟩:=r1
   exact⟨a,vs,rfl,.inl (XX.of (Zf _ _ h1)),fun l hl=>q l vs H1 s1 hl r⟩
  |tup es =>
   cases e
   obtain⟨a,vs,rfl,h1,r⟩:=r1
   exact⟨a,vs,rfl,.inr (Wx.of (Zf _ _ h1)),fun l hl=>q l vs H1 s1 hl r⟩
  |scr ns =>
   cases e
   obtain⟨a,rfl,h1⟩:=r1
   exact⟨a,_,rfl,.inl (Zg.seq Zf h1),fun l hl=>q l _ H1 s1 hl (WL ns)⟩
  |_=>cases e
def fFr(f:FA):FE:=fun ρ=>(f ρ).bind fun ds=>some (.lst ds)
theorem Zun.ev{e:Expr}{f:FA}(h:Zun X e f):EV X e (fFr f):=PE.imp h fun σ H Q ⟨O,ρ,d,rv,e,q⟩=>by
 obtain⟨ds,e1,e⟩:=bind_some e
 cases e
 exact⟨O,ρ,ds,rv,e1,fun a vs H1 s1 hn r=>q _ _ (Zg.trans s1 (Zg.new hn)) (YD (rv.th.mono s1) hn r)⟩
def Y7(i:Nat)(f:FA):FS:=fun ρ=>match f (Yb ρ) with|some ds=>.nx (ρ.set i (some (.own (.lst ds))))|none=>.bad
theorem Zjh{H:Hp}{O0 O1:List Addr}{a:Addr}{o:HO}(hn:H a=none):Zg (mask (O0++O1) H) (mask (O0++a::O1) (YZ H a o)):=fun b u q=>by
 have hb:b∉O0++O1:=fun m=>by rw[ZY m]at q;cases q
 rw[Zp hb]at q
 have hba:b≠a:=ZW q hn
 rw[Zp (fun m=>hb (by
  rcases Qu.mp m with z|z
  ·exact Qw _ z
  ·rcases Qm.mp z with z|z
   ·exact absurd z hba
   ·exact Qg _ z)),ZE hba]
 exact q
theorem XE{i:Nat}{x:Str}{e:Expr}{f:FA}{pos':Pos}(hN:X.N.Nodup)(h:Zun X e f)(hi:X.N[i]?=some x:=by rfl)(hx:Zp9 X.env.scope x:=by first|exact Or.inl rfl|exact Or.inr rfl)(hs:swapsWith e (some (.Name x pos')) pos.line X.env=pure false:=by rfl)
  (hf:X.fn x=true\/X.env.scope.names.lookup x=some .local:=by first|exact .inl rfl|exact .inr rfl):SV X (.Assign [.Name x pos'] e pos) (Y7 i f):=PS.imp (Zdu hN hi hx h hs hf) fun E σ H ⟨B,O0,O1,ρ,r,q⟩=>by
 unfold Y7 at q
 cases e:f (Yb ρ) with
 |none=>rw[e]at q;exact q.elim
 |some ds =>
  rw[e]at q
  exact⟨O0++O1,Yb ρ,ds,r.val,e,fun a vs H1 s hn rep=>q _ _ (a::O1) ((r.mono s).setOwn hn trivial ⟨vs,ZS,Zr.mono (Zjh hn) ds vs rep⟩)⟩
def Zbj(i:Nat)(fk fv:FE):FS:=fun ρ=>match ρ[i]? with
 |some (some (.own (.lst ds)))=>(match fv (Ye ρ),fk (Ye ρ) with
  |some d,some (.int k)=>if Zmf d=true then(match Zl9 ds.length k with|some j=>.nx (ρ.set i (some (.own (.lst (ds.set j d)))))|none=>.bad) else .bad
  |_,_=>.bad)
 |_=>.bad
theorem Zq5{i:Nat}{x:Str}{k e:Expr}{fk fv:FE}{pos1 pos2:Pos}(hk:EV X k fk)(he:EV X e fv)(hN:X.N[i]?=some x:=by rfl)(hv:Zul X.env.scope x:=by first|exact Or.inl rfl|exact Or.inr (Or.inl rfl)|exact Or.inr (Or.inr rfl))
  (hd:(x == ("__debug__":Str))=false:=by decide) (hcd:(x == ("__classdict__":Str))=false:=by decide)
  (ha:∀v,assign (.Subscript (.Name x pos1) k pos2) X.env v=(do
   let ov <- holding [v] (eval (.Name x pos1) X.env)
   let iv <- holding [v,ov] (eval k X.env)
   standAt pos2
   holding [v,ov,iv] (setItem ov iv v)
   release [v,ov,iv] []):=by intro _;rfl)
  (hs:swapsWithSole [.Subscript (.Name x pos1) k pos2] e pos.line X.env=pure false:=by rfl) (hw:swappedStores [.Subscript (.Name x pos1) k pos2] e X.env=pure none:=by rfl)
  (h1:(assignEach [.Subscript (.Name x pos1) k pos2] X.env).map (·.2)=[assign (.Subscript (.Name x pos1) k pos2) X.env]:=by rfl) :
  SV X (.Assign [.Subscript (.Name x pos1) k pos2] e pos) (Zbj i fk fv):=PS.imp (Zlx he (Zlz (VH hN hv hd hcd) hk Zdm ha) hs hw h1) fun E σ H ⟨B,O0,O1,ρ,r,q⟩=>by
 unfold Zbj at q
 split at q
 ·rename_i ds hi
  split at q
  ·rename_i d kk e1 e2
   split at q
   ·rename_i hm
    split at q
    ·rename_i j ej
     obtain⟨a,ha',hO,vs,hv',rs⟩:=r.owns i _ hi
     refine⟨O0,Ye ρ,d,r.all,e1,fun v H1 s1 rv1=>?_⟩
     have r1:=r.mono s1
     refine⟨.ref a,ha',O0,Ye ρ,.int kk,r1.all,e2,fun y H2 s2 rv2=>?_⟩
     have r2:=r1.mono s2
     have hv2:H2 a=some (.lst vs):=s2 _ _ (s1 _ _ hv')
     have hy:y=.int kk:=rv2
     subst hy
     refine⟨a,vs,kk,j,rfl,rfl,hv2,by rw[rs.length];exact ej,?_⟩
     have rd:Y8 X.K (mask (O0++O1) H2) d v:=Zat (r2.th) d v hm (Y8.mono (ZH s2) d v rv1)
     have em:mask (O0++O1) (YZ H2 a (.lst (vs.set j v)))=mask (O0++O1) H2:=by
      funext b
      by_cases hb:b∈O0++O1
      ·rw[ZY hb,ZY hb]
      ·rw[Zp hb,Zp hb,ZE (fun z=>hb (by rw[z];exact Qg _ hO))]
     refine q _ _ O1 (r2.write (d':=.lst (ds.set j d)) hi ha' trivial ⟨vs.set j v,ZS,?_⟩)
     rw[em]
     exact Zr.set rd j (Zr.mono (ZH (Zg.trans s1 s2)) ds vs rs)
    ·exact q.elim
   ·exact q.elim
  ·exact q.elim
 ·exact q.elim
def WE(i:Nat)(fv:FE):FS:=fun ρ=>match ρ[i]? with
 |some (some (.own (.lst ds)))=>(match fv (Ye ρ) with
  |some d=>if Zmf d=true/\ds.length<Yu then .nx (ρ.set i (some (.own (.lst (ds++[d]))))) else .bad
  |_=>.bad)
 |_=>.bad
theorem Zbh{i:Nat}{x:Str}{e:Expr}{fv:FE}{p1 p2 p3:Pos}(he:EV X e fv)(hN:X.N[i]?=some x:=by rfl)(hv:Zul X.env.scope x:=by first|exact Or.inl rfl|exact Or.inr (Or.inl rfl)|exact Or.inr (Or.inr rfl))
  (hd:(x == ("__debug__":Str))=false:=by decide) (hcd:(x == ("__classdict__":Str))=false:=by decide)
  (h1:PE X (.Call (.Attribute (.Name x p1) "append" p2) [e] [] p3) (tBM X.K "list" Zcz (Zg7 i) (Zfy (tD X.K fv) Zom))) (hs:swapsWith (.Call (.Attribute (.Name x p1) "append" p2) [e] [] p3) none pos.line X.env=pure false:=by rfl) :
  SV X (.Expr (.Call (.Attribute (.Name x p1) "append" p2) [e] [] p3) pos) (WE i fv):=PS.imp (Zc1 h1 hs) fun E σ H ⟨B,O0,O1,ρ,r,q⟩=>by
 unfold WE at q
 split at q
 ·rename_i ds hi
  split at q
  ·rename_i d e1
   split at q
   ·rename_i hm
    obtain⟨a,ha',hO,vs,hv',rs⟩:=r.owns i _ hi
    refine⟨.ref a,ha',.inl ⟨rfl,vs,XX.of hv'⟩,O0,Ye ρ,d,r.all,e1,fun v H1 s1 rv1=>?_⟩
    have r1:=r.mono s1
    have hv1:H1 a=some (.lst vs):=s1 _ _ hv'
    refine⟨a,vs,v,rfl,rfl,hv1,by(have:=rs.length;have:=Xw (Nat.le_of_lt hm.2);have h3:Yu<sizeLine:=(by rw[show sizeLine=16777216 from Q3];decide);omega),?_⟩
    have rd:Y8 X.K (mask (O0++O1) H1) d v:=Zat r1.th d v hm.1 rv1
    have em:mask (O0++O1) (YZ H1 a (.lst (vs++[v])))=mask (O0++O1) H1:=by
     funext b
     by_cases hb:b∈O0++O1
     ·rw[ZY hb,ZY hb]
     ·rw[Zp hb,Zp hb,ZE (fun z=>hb (by rw[z];exact Qg _ hO))]
    refine q _ _ O1 (r1.write (d':=.lst (ds++[d])) hi ha' trivial ⟨vs++[v],ZS,?_⟩)
    rw[em]
    exact Zr.append (Zr.mono (ZH s1) ds vs rs) (Zr.one rd)
   ·exact q.elim
  ·exact q.elim
 ·exact q.elim
end
def Yq(n N:Nat)(ds:List D):YT:=ds.map (fun d=>some (.val d))++List.replicate (N-n) none
def Z4(n N:Nat)(F:FS):List D->Option D:=fun ds=>if ds.length=n then(match F (Yq n N ds) with|.rt d=>some d|.nx _=>some .non|_=>none) else none
theorem Zr.map_get{K:PySem.W.Frag}{H:Hp}{ds:List D}{vs:List V}{i:Nat}{d:D}(r:Zr K H ds vs)(h:(Yq ds.length (ds.length+0) ds)[i]?=some (some (.val d))):∃v,vs[i]?=some v/\Y8 K H d v:=by
 unfold Yq at h
 simp only[Nat.add_zero,Nat.sub_self,List.replicate_zero,Q1]at h
 obtain⟨e,h1,h2⟩:=L2.map_get h
 cases h2
 exact r.get h1
theorem Zwy{P:Program}{w:World}{K:PySem.W.Frag}{mg:Str->Option Value}{base:Heap}{x qual:Str}{st:Stmt}{f:Addr}{fd:FuncData}{N ps:List Str}{k:Nat}{F:FS}(Fu:WN K x qual st f fd)(S:Zy N ps (Zk st))
  (h:∀(cdv:Value) (A:Around) (outer:List Env) (s:Shared) (H:Hp) (E:XK),X9 k (A.deeper (envOfC qual (Zk st) s.heap.objs.size f cdv))->Zmx (Zih Zm1 P w K mg base N qual (Zk st) f cdv A outer s H E).nox (X5 st) F) :
  Vm P w K mg base Zm1 (k+1) f fd ps (spD K (Z4 ps.length N.length F)):=by
 have hpl:ps.length<=N.length:=by have:=congrArg List.length S.pre;rw[JT]at this;omega
 refine Fu.ok S (fun vs H Q E hs=>?_) fun cdv A outer s H vs Q E hr hs=>?_
 ·obtain⟨O,ds,d,th,rs,e,_⟩:=hs
  rw[rs.length]
  unfold Z4 at e
  split at e
  ·rename_i hl;exact hl
  ·cases e
 ·obtain⟨O,ds,d,th,rs,e,q⟩:=hs
  unfold Z4 at e
  split at e
  ·rename_i hl
   refine⟨_,h cdv A outer s H E hr,?_⟩
   have hvl:vs.length=ps.length:=by rw[rs.length];exact hl
   refine⟨H,O,[],Yq ps.length N.length ds,⟨?_,(Zg.refl _),th,fun a m=>(by cases m),fun a m=>(by cases m),fun i d' q'=>?_,fun i d' q'=>?_,fun i j d1 d2 a q1=>?_⟩,?_⟩
   ·unfold Yq start;simp[hl,hvl]
   ·unfold Yq at q'
    by_cases hi:i<ds.length
    ·rw[QL (by simpa using hi)]at q'
     obtain⟨e',g1,g2⟩:=map_get q'
     cases g2
     obtain⟨v,g3,g4⟩:=rs.get g1
     refine⟨v,?_,by rw[Q1];exact g4⟩
     unfold start
     rw[QL (by rw[Qb,rs.length];exact hi),QC,g3];rfl
    ·rw[QT (by simpa using hi),QV]at q'
     split at q'<;>cases q'
   all_goals
    try (
     exfalso
     have hno:∀(i:Nat) (d':D),(Yq ps.length N.length ds)[i]?≠some (some (.own d')):=by
      intro i d' z
      unfold Yq at z
      by_cases hi:i<ds.length
      ·rw[QL (by simpa using hi)]at z
       obtain⟨e',g1,g2⟩:=map_get z
       cases g2
      ·rw[QT (by simpa using hi),QV]at z
       split at z<;>cases z
     first|exact hno _ _ q'|exact hno _ _ q1)
   cases ef:F (Yq ps.length N.length ds) with
   |rt d' =>
    rw[ef]at e;cases e
    exact fun v H' s' r'=>q v H' s' r'
   |nx ρ' =>
    rw[ef]at e;cases e
    exact fun σ' H' O1 r'=>q .non H' r'.same rfl
   |bk ρ'=>rw[ef]at e;cases e
   |ct ρ'=>rw[ef]at e;cases e
   |bad=>rw[ef]at e;cases e
  ·cases e
def Z9(g:Int->Int->D):D->D->Option D
 |.int i,.int j=>some (g i j)
 |_,_=>none
theorem Zme{g:Int->Int->D}{x y d:D}(h:Z9 g x y=some d):∃i j,x=.int i/\y=.int j/\d=g i j:=by
 cases x<;>cases y<;>first|(cases h;exact⟨_,_,rfl,rfl,rfl⟩)|cases h
section
variable{X:Cx}
theorem Zhl{f:Value->Value->Sem Value}{g:Int->Int->V}{g':Int->Int->D}(h:V0 X f (Zxg g))(hg:∀(K:PySem.W.Frag) (H:Hp) i j,Y8 K H (g' i j) (g i j)):UK X f (Z9 g'):=UK.of h fun x y H Q ⟨O,dx,dy,d,th,rx,ry,e,q⟩=>by
 obtain⟨i,j,rfl,rfl,rfl⟩:=Zme e
 exact⟨i,j,rx,ry,q _ H (Zg.refl _) (hg _ _ i j)⟩
theorem Xj:UK X (binaryOp .Sub) (Z9 fun i j=>.int (i-j)):=Zhl Zzw fun _ _ _ _=>rfl
theorem Zr5:UK X (compareOp .LtE) (Z9 fun i j=>.bl (decide (i<=j))):=Zhl op_le fun _ _ _ _=>rfl
theorem Zzv:UK X (compareOp .Gt) (Z9 fun i j=>.bl (decide (j<i))):=Zhl op_gt fun _ _ _ _=>rfl
def ZR:D->D->Option D
 |.int i,.int j=>some (.int (i+j))
 |.tup a,.tup b=>if a.isEmpty=false/\a.length+b.length<=Yu then some (.tup (a++b)) else none
 |.lst a,.lst b=>if a.length+b.length<=Yu then some (.lst (a++b)) else none
 |_,_=>none
theorem Z3:UK X (binaryOp .Add) ZR:=UK.of (V0.or Zz2 (V0.or Zno Zz1)) fun x y H Q ⟨O,dx,dy,d,th,rx,ry,e,q⟩=>by
 unfold ZR at e
 split at e
 ·cases e
  exact .inl ⟨_,_,rx,ry,q _ H (Zg.refl _) rfl⟩
 ·rename_i a b
  split at e
  ·rename_i hl
   cases e
   obtain⟨p,vs,rfl,hp,rp⟩:=rx
   obtain⟨p2,us,rfl,hp2,rp2⟩:=ry
   have l1:=rp.length
   have l2:=rp2.length
   refine .inr (.inl ⟨p,p2,vs,us,rfl,rfl,Wx.of (Zf _ _ hp),Wx.of (Zf _ _ hp2),fun z=>?_,?_,fun z=>?_,fun z r hr=>?_⟩)
   ·subst z
    have:a=[]:=List.eq_nil_of_length_eq_zero (by rw[<- l1];rfl)
    rw[this]at hl;exact absurd hl.1 (by decide)
   ·have:=Xw hl.2;omega
   ·subst z
    have:b=[]:=List.eq_nil_of_length_eq_zero (by rw[<- l2];rfl)
    subst this
    rw[Q1]at q
    exact q _ H (Zg.refl _) ⟨p,vs,rfl,hp,rp⟩
   ·exact q _ _ (Zg.new hr) (Xf th hr (rp.append rp2))
  ·cases e
 ·rename_i a b
  split at e
  ·rename_i hl
   cases e
   obtain⟨p,vs,rfl,hp,rp⟩:=rx
   obtain⟨p2,us,rfl,hp2,rp2⟩:=ry
   have l1:=rp.length
   have l2:=rp2.length
   refine .inr (.inr ⟨p,p2,vs,us,rfl,rfl,Zf _ _ hp,Zf _ _ hp2,?_,fun r hr=>?_⟩)
   ·have:=Xw hl;omega
   ·exact q _ _ (Zg.new hr) (YD th hr (rp.append rp2))
  ·cases e
 ·cases e
noncomputable def UC(i:Int):Bool:=@decide (-(2^64)<i/\i<2^64) (Classical.propDecidable _)
theorem Zdi{i:Int}(h:UC i=true):-(2^64)<i/\i<2^64:=@of_decide_eq_true _ (Classical.propDecidable _) h
noncomputable def WQ:D->D->Option D
 |.int i,.int j=>if(UC i||UC j)=true then some (.int (i*j)) else none
 |.lst a,.int k=>@ite _ (-(2^63)<=k/\k<2^63/\a.length*k.toNat<=Yu) (Classical.propDecidable _) (some (.lst (List.replicate k.toNat a).flatten)) none
 |_,_=>none
theorem Zdq{K:PySem.W.Frag}{H:Hp}{ds:List D}{vs:List V}(r:Zr K H ds vs):∀n:Nat,Zr K H (List.replicate n ds).flatten (List.replicate n vs).flatten
 |0=>rfl
 |n+1=>by rw[Je,Je,Jk,Jk];exact r.append (Zdq r n)
theorem Va:UK X (binaryOp .Mult) WQ:=UK.of (V0.or Zzx Zr7) fun x y H Q ⟨O,dx,dy,d,th,rx,ry,e,q⟩=>by
 unfold WQ at e
 split at e
 ·rename_i i j
  split at e
  ·rename_i hs
   cases e
   refine .inl ⟨i,j,rx,ry,?_,q _ H (Zg.refl _) rfl⟩
   rcases Bool.or_eq_true_iff.mp hs with h|h
   ·exact .inl (Zdi h)
   ·exact .inr (Zdi h)
  ·cases e
 ·rename_i a k
  split at e
  ·rename_i hl
   cases e
   obtain⟨p,vs,rfl,hp,rp⟩:=rx
   have l1:=rp.length
   refine .inr ⟨p,k,vs,rfl,ry,Zf _ _ hp,hl.1,hl.2.1,?_,fun r hr=>?_⟩
   ·rw[l1];exact Xw hl.2.2
   ·exact q _ _ (Zg.new hr) (YD th hr (Zdq rp _))
  ·cases e
 ·cases e
noncomputable def Zgm:D->D->Option D
 |.int i,.int j=>@ite _ (0<j/\j<1073741824) (Classical.propDecidable _) (some (.int (i/j))) none
 |_,_=>none
theorem Zr6:UK X (binaryOp .FloorDiv) Zgm:=UK.of Zv1 fun x y H Q ⟨O,dx,dy,d,th,rx,ry,e,q⟩=>by
 unfold Zgm at e
 split at e
 ·rename_i i j
  split at e
  ·rename_i hs
   cases e
   exact⟨i,j,rx,ry,hs,q _ H (Zg.refl _) rfl⟩
  ·cases e
 ·cases e
def Ue:D->D->Option D
 |.int i,.int j=>if 0<j then some (.int (i%j)) else none
 |_,_=>none
theorem UG:UK X (binaryOp .Mod) Ue:=UK.of Zzy fun x y H Q ⟨O,dx,dy,d,th,rx,ry,e,q⟩=>by
 unfold Ue at e
 split at e
 ·rename_i i j
  split at e
  ·rename_i hs
   cases e
   exact⟨i,j,rx,ry,hs,q _ H (Zg.refl _) rfl⟩
  ·cases e
 ·cases e
theorem Zk3{K:PySem.W.Frag}{H:Hp}{ds:List D}{vs:List V}{i:Int}{d:D}(r:Zr K H ds vs)(h:Zb2 ds i=some d):∃v,Zb2 vs i=some v/\Y8 K H d v:=by
 unfold Zb2 at h ⊢
 rw[r.length]
 cases e:Zl9 ds.length i with
 |none=>rw[e]at h;cases h
 |some j=>rw[e]at h;exact r.get h
def Yl:D->D->Option D
 |.lst ds,.int i=>Zb2 ds i
 |.tup ds,.int i=>Zb2 ds i
 |.scr ns,.int i=>(Zb2 ns i).map D.int
 |_,_=>none
theorem Zw4{α β:Type}(f:α->β)(xs:List α)(i:Int):Zb2 (xs.map f) i=(Zb2 xs i).map f:=by
 unfold Zb2
 rw[Qb]
 cases Zl9 xs.length i with
 |none=>rfl
 |some j=>simp
theorem ZT{a b:Expr}{fa fb:FE}{pos:Pos}(ha:EV X a fa)(hb:EV X b fb)(hs:Zob b:=by exact fun _ _=>rfl):EV X (.Subscript a b pos) (f2 Yl fa fb):=PE.imp (Zrx (Zh5.or Z0n) ha hb hs) fun σ H Q h=>Zg3 (fun x y H Q ⟨O,dx,dy,d,th,rx,ry,e,q⟩=>by
 unfold Yl at e
 split at e
 ·obtain⟨p,vs,rfl,hp,rp⟩:=rx
  obtain⟨v,e1,e2⟩:=Zk3 rp e
  exact .inl ⟨p,vs,_,v,rfl,ry,XX.of (Zf _ _ hp),e1,q v H (Zg.refl _) e2⟩
 ·obtain⟨p,vs,rfl,hp,rp⟩:=rx
  obtain⟨v,e1,e2⟩:=Zk3 rp e
  exact .inr ⟨p,vs,_,v,rfl,ry,Wx.of (Zf _ _ hp),e1,q v H (Zg.refl _) e2⟩
 ·rename_i ns i
  obtain⟨p,rfl,hp⟩:=rx
  cases e1:Zb2 ns i with
  |none=>rw[e1]at e;cases e
  |some n =>
   rw[e1]at e;cases e
   exact .inl ⟨p,_,i,.int n,rfl,ry,Zg.seq Zf hp,by rw[Zw4,e1];rfl,q _ H (Zg.refl _) rfl⟩
 ·cases e) h
def Zz5:D->Option D
 |.int i=>some (.int (-i))
 |_=>none
def Yv:List D->Option D
 |[.lst ds]=>some (.int ds.length)
 |[.tup ds]=>some (.int ds.length)
 |[.scr ns]=>some (.int ns.length)
 |_=>none
theorem Y6:Xu X (.builtin "len") Yv:=Xu.of Zin fun xs H Q ⟨O,ds,d,th,rs,e,q⟩=>by
 unfold Yv at e
 split at e
 ·rename_i es
  cases e
  obtain⟨v,vr,rfl,⟨p,vs,rfl,hp,rp⟩,ht⟩:=rs
  have:vr=[]:=ht
  subst this
  refine⟨p,vs,rfl,.inl (XX.of (Zf _ _ hp)),?_⟩
  rw[rp.length];exact q _ H (Zg.refl _) rfl
 ·rename_i es
  cases e
  obtain⟨v,vr,rfl,⟨p,vs,rfl,hp,rp⟩,ht⟩:=rs
  have:vr=[]:=ht
  subst this
  refine⟨p,vs,rfl,.inr (Wx.of (Zf _ _ hp)),?_⟩
  rw[rp.length];exact q _ H (Zg.refl _) rfl
 ·rename_i ns
  cases e
  obtain⟨v,vr,rfl,⟨p,rfl,hp⟩,ht⟩:=rs
  have:vr=[]:=ht
  subst this
  refine⟨p,_,rfl,.inl (Zg.seq Zf hp),?_⟩
  rw[Qb];exact q _ H (Zg.refl _) rfl
 ·cases e
def Zlk:List D->Option D
 |[.lst ds]=>some (.tup ds)
 |[.tup ds]=>some (.tup ds)
 |_=>none
theorem Zk0:Xu X (.type "tuple") Zlk:=Xu.of Zfl fun xs H Q ⟨O,ds,d,th,rs,e,q⟩=>by
 unfold Zlk at e
 split at e
 ·rename_i es
  cases e
  obtain⟨v,vr,rfl,⟨p,vs,rfl,hp,rp⟩,ht⟩:=rs
  have:vr=[]:=ht
  subst this
  exact⟨p,vs,rfl,.inl ⟨XX.of (Zf _ _ hp),fun l hl=>q _ _ (Zg.new hl) (Xf th hl rp)⟩⟩
 ·rename_i es
  cases e
  obtain⟨v,vr,rfl,⟨p,vs,rfl,hp,rp⟩,ht⟩:=rs
  have:vr=[]:=ht
  subst this
  exact⟨p,vs,rfl,.inr ⟨Wx.of (Zf _ _ hp),q _ H (Zg.refl _) ⟨p,vs,rfl,hp,rp⟩⟩⟩
 ·cases e
def UY:List D->Option D
 |[.int i,.int j]=>some (.int (if j<i then j else i))
 |_=>none
def UZ:List D->Option D
 |[.int i,.int j]=>some (.int (if j>i then j else i))
 |_=>none
theorem Zi4{K:PySem.W.Frag}{H:Hp}{i j:Int}{xs:List V}(r:Zr K H [.int i,.int j] xs):xs=[.int i,.int j]:=by
 obtain⟨v,vr,rfl,h1,w,wr,rfl,h2,h3⟩:=r
 rw[show v=_ from h1,show w=_ from h2,show wr=_ from h3]
theorem Zij(hc:X.calm=true):Xu X (.builtin "min") UY:=Xu.of (Zp4 hc) fun xs H Q ⟨O,ds,d,th,rs,e,q⟩=>by
 unfold UY at e
 split at e
 ·cases e;exact⟨_,_,Zi4 rs,q _ H (Zg.refl _) rfl⟩
 ·cases e
theorem Zik(hc:X.calm=true):Xu X (.builtin "max") UZ:=Xu.of (Zp5 hc) fun xs H Q ⟨O,ds,d,th,rs,e,q⟩=>by
 unfold UZ at e
 split at e
 ·cases e;exact⟨_,_,Zi4 rs,q _ H (Zg.refl _) rfl⟩
 ·cases e
def Zei:List D->Option D
 |[.int i]=>some (.int i)
 |[.bl k]=>some (.int (if k then 1 else 0))
 |_=>none
theorem Zt1:Xu X (.type "int") Zei:=Xu.of Zp8 fun xs H Q ⟨O,ds,d,th,rs,e,q⟩=>by
 unfold Zei at e
 split at e
 ·cases e
  obtain⟨v,vr,rfl,h1,h3⟩:=rs
  rw[show v=_ from h1,show vr=_ from h3]
  exact .inl ⟨_,rfl,q _ H (Zg.refl _) rfl⟩
 ·cases e
  obtain⟨v,vr,rfl,h1,h3⟩:=rs
  rw[show v=_ from h1,show vr=_ from h3]
  exact .inr ⟨_,rfl,q _ H (Zg.refl _) rfl⟩
 ·cases e
end
mutual
def YA:D->PyData
 |.non=>.none
 |.bl b=>.bool b
 |.int i=>.int i
 |.str x=>.str x
 |.tup ds=>.tuple (Wa ds)
 |.lst ds=>.list (Wa ds)
 |.scr ns=>.list (ns.map PyData.int)
 |.dcK _ _=>.dict []
 |.dcT _ _=>.dict []
 |.dcF _ _=>.dict []
def Wa:List D->List PyData
 |[]=>[]
 |d::ds=>YA d::Wa ds
end
def Zv4(d:D):Bool:=(YA d).canLay0&&decide ((YA d).depth<=64)
def Xb:D->D->Option D:=fun x y=>if(Zv4 x&&Zv4 y)=true then some (.bl (PyData.eqv (YA x) (YA y))) else none
def Wc:D->D->Option D:=fun x y=>if(Zv4 x&&Zv4 y)=true then some (.bl (!PyData.eqv (YA x) (YA y))) else none
section
variable{X:Cx}{pins:List (Addr×Obj)}{σ:St}{H:Hp}{s:Shared}
theorem Zdr{h:Heap}:∀(ns:List Int) (us:List Value),ZM (ns.map V.int) us->∃as,ReadsAll h us (ns.map PyData.int) as
 |[],_,.nil=>⟨_,.nil⟩
 |n::ns,_,.cons r t=>by
  obtain⟨tk,rfl⟩:=r
  obtain⟨as,q⟩:=Zdr ns _ t
  exact⟨_,.cons (.int n tk) q⟩
mutual
theorem WO(I:ZA X pins σ H s):∀(d:D) (v:V) (u:Value),(YA d).canLay0=true->Y8 X.K H d v->Z2 v u->∃as,Reads s.heap u (YA d) as
 |.non,_,_,_,h,r=>by subst h;cases r;exact⟨_,.none⟩
 |.bl b,_,_,_,h,r=>by subst h;cases r;exact⟨_,.bool b⟩
 |.int i,_,_,_,h,r=>by subst h;obtain⟨t,rfl⟩:=r;exact⟨_,.int i t⟩
 |.str x,_,_,_,h,r=>by subst h;obtain⟨t,rfl⟩:=r;exact⟨_,.str x t⟩
 |.tup ds,_,_,c,⟨a,vs,e,ht,rs⟩,r=>by
  subst e
  cases r
  obtain⟨its,rv,⟨o,h1,h2,n,h3⟩,_⟩:=I.tuple (Wx.of ht)
  obtain⟨as,q⟩:=Ua I ds vs its c rs rv
  exact⟨_,.tuple h1 h2 h3 (by simpa using q)⟩
 |.lst ds,_,_,c,⟨a,vs,e,ht,rs⟩,r=>by
  subst e
  cases r
  obtain⟨its,rv,⟨o,n,h1,h2,_,h3⟩,_⟩:=I.list (XX.of ht)
  obtain⟨as,q⟩:=Ua I ds vs its c rs rv
  exact⟨_,.list h1 h2 h3 (by simpa using q)⟩
 |.scr ns,_,_,c,⟨a,e,ht⟩,r=>by
  subst e
  cases r
  obtain⟨its,rv,⟨o,n,h1,h2,_,h3⟩,_⟩:=I.list ht
  obtain⟨as,q⟩:=Zdr (h:=s.heap) ns its rv
  exact⟨_,.list h1 h2 h3 (by simpa using q)⟩
 |.dcK _ _,_,_,c,_,_=>by cases c
 |.dcT _ _,_,_,c,_,_=>by cases c
 |.dcF _ _,_,_,c,_,_=>by cases c
theorem Ua(I:ZA X pins σ H s):∀(ds:List D) (vs:List V) (us:List Value),PyData.canLayAll0 (Wa ds)=true->Zr X.K H ds vs->ZM vs us->∃as,ReadsAll s.heap us (Wa ds) as
 |[],_,_,_,h,r=>by
  have:_=[]:=h
  subst this
  cases r
  exact⟨_,.nil⟩
 |d::ds,_,_,c,⟨v,vr,e,h,t⟩,r=>by
  subst e
  cases r with
  |cons r1 r2 =>
   have c':(YA d).canLay0=true/\PyData.canLayAll0 (Wa ds)=true:=by simpa [Wa,PyData.canLayAll0] using c
   obtain⟨as,q⟩:=WO I d v _ c'.1 h r1
   obtain⟨bs,q'⟩:=Ua I ds vr _ c'.2 t r2
   exact⟨_,.cons q q'⟩
end
theorem Zho{d:D}(h:Zv4 d=true):(YA d).canLay0=true/\(YA d).depth<=64:=by
 unfold Zv4 at h
 simpa using h
theorem Wt(hu:X.A.units+64<cLine):UK X (compareOp .Eq) Xb:=by
 intro pins s σ H x y v u Q I rx ry h
 obtain⟨O,dx,dy,d,th,r1,r2,e,q⟩:=h
 unfold Xb at e
 split at e
 ·rename_i hk
  cases e
  obtain⟨k1,k2⟩:=Bool.and_eq_true_iff.mp hk
  obtain⟨a1,b1⟩:=Zho k1
  obtain⟨a2,b2⟩:=Zho k2
  obtain⟨as,q1⟩:=WO I dx x v a1 (Y8.mono Zf dx x r1) rx
  obtain⟨bs,q2⟩:=WO I dy y u a2 (Y8.mono Zf dy y r2) ry
  exact SeqAt.compareEq_reads q1 q2 a1 a2 (by omega) ⟨.bl _,H,I,rfl,q _ H (Zg.refl _) rfl⟩
 ·cases e
theorem Vi(hu:X.A.units+64<cLine):UK X (compareOp .NotEq) Wc:=by
 intro pins s σ H x y v u Q I rx ry h
 obtain⟨O,dx,dy,d,th,r1,r2,e,q⟩:=h
 unfold Wc at e
 split at e
 ·rename_i hk
  cases e
  obtain⟨k1,k2⟩:=Bool.and_eq_true_iff.mp hk
  obtain⟨a1,b1⟩:=Zho k1
  obtain⟨a2,b2⟩:=Zho k2
  obtain⟨as,q1⟩:=WO I dx x v a1 (Y8.mono Zf dx x r1) rx
  obtain⟨bs,q2⟩:=WO I dy y u a2 (Y8.mono Zf dy y r2) ry
  exact SeqAt.compareNe_reads q1 q2 a1 a2 (by omega) ⟨.bl _,H,I,rfl,q _ H (Zg.refl _) rfl⟩
 ·cases e
def Zs5:D->D->Option D
 |.bl a,.bl b=>some (.bl (a == b))
 |.non,.non=>some (.bl true)
 |.non,.bl _=>some (.bl false)
 |.bl _,.non=>some (.bl false)
 |.int _,.bl _=>some (.bl false)
 |.int _,.non=>some (.bl false)
 |.tup _,.non=>some (.bl false)
 |.lst _,.non=>some (.bl false)
 |_,_=>none
theorem Zs4{x y:D}{d:D}{v w:V}{a b:Value}{K:PySem.W.Frag}{H:Hp}(e:Zs5 x y=some d)(r1:Y8 K H x v)(r2:Y8 K H y w)(q1:Z2 v a)(q2:Z2 w b):plainIs a b=true/\d=.bl (a == b):=by
 unfold Zs5 at e
 split at e
 ·rename_i p q;cases e;rw[show v=_ from r1]at q1;rw[show w=_ from r2]at q2;rw[show a=_ from q1,show b=_ from q2];exact⟨rfl,by cases p<;>cases q<;>rfl⟩
 ·cases e;rw[show v=_ from r1]at q1;rw[show w=_ from r2]at q2;rw[show a=_ from q1,show b=_ from q2];exact⟨rfl,by simp⟩
 ·cases e;rw[show v=_ from r1]at q1;rw[show w=_ from r2]at q2;rw[show a=_ from q1,show b=_ from q2];exact⟨rfl,rfl⟩
 ·cases e;rw[show v=_ from r1]at q1;rw[show w=_ from r2]at q2;rw[show a=_ from q1,show b=_ from q2];exact⟨rfl,rfl⟩
 ·cases e;rw[show v=_ from r1]at q1;rw[show w=_ from r2]at q2;obtain⟨t,rfl⟩:=q1;rw[show b=_ from q2];exact⟨rfl,rfl⟩
 ·cases e;rw[show v=_ from r1]at q1;rw[show w=_ from r2]at q2;obtain⟨t,rfl⟩:=q1;rw[show b=_ from q2];exact⟨rfl,rfl⟩
 ·cases e;obtain⟨p,vs,rfl,_⟩:=r1;rw[show w=_ from r2]at q2;rw[show a=_ from q1,show b=_ from q2];exact⟨rfl,rfl⟩
 ·cases e;obtain⟨p,vs,rfl,_⟩:=r1;rw[show w=_ from r2]at q2;rw[show a=_ from q1,show b=_ from q2];exact⟨rfl,rfl⟩
 ·cases e
theorem Zzu:UK X (compareOp .Is) Zs5:=by
 intro pins s σ H x y v u Q I rx ry h
 obtain⟨O,dx,dy,d,th,r1,r2,e,q⟩:=h
 obtain⟨hp,rfl⟩:=Zs4 e r1 r2 rx ry
 exact wpAny_is_plain hp ⟨.bl _,H,I,rfl,q _ H (Zg.refl _) rfl⟩
end
def XI:List D->Option (List Int)
 |[]=>some []
 |.int i::ds=>(XI ds).bind fun r=>some (i::r)
 |_=>none
theorem Xg:∀{ds:List D} {is:List Int},XI ds=some is->ds=is.map D.int
 |[],_,h=>by cases h;rfl
 |d::ds,is,h=>by
  cases d with
  |int i =>
   obtain⟨r,e,h⟩:=bind_some h
   cases h
   rw[Qe,Xg e]
  |_=>cases h
theorem VM(is:List Int):XI (is.map D.int)=some is:=by
 induction is with
 |nil=>rfl
 |cons i is ih=>rw[Qe,XI,ih];rfl
def Zgu:List D->Option (List Bool)
 |[]=>some []
 |.bl i::ds=>(Zgu ds).bind fun r=>some (i::r)
 |_=>none
theorem U7:∀{ds:List D} {is:List Bool},Zgu ds=some is->ds=is.map D.bl
 |[],_,h=>by cases h;rfl
 |d::ds,is,h=>by
  cases d with
  |bl i =>
   obtain⟨r,e,h⟩:=bind_some h
   cases h
   rw[Qe,U7 e]
  |_=>cases h
theorem Zgt(is:List Bool):Zgu (is.map D.bl)=some is:=by
 induction is with
 |nil=>rfl
 |cons i is ih=>rw[Qe,Zgu,ih];rfl
def Zdf:List D->Option D
 |[.lst ds]=>(XI ds).bind fun is=>some (.int is.sum)
 |[.tup ds]=>(XI ds).bind fun is=>some (.int is.sum)
 |_=>none
def Za7:List D->Option D
 |[.lst ds]=>(Zgu ds).bind fun is=>some (.bl (is.all id))
 |_=>none
def Zuc:List D->Option D
 |[.lst ds]=>(Zgu ds).bind fun is=>some (.bl (is.any id))
 |_=>none
section
variable{X:Cx}{pins:List (Addr×Obj)}{σ:St}{H:Hp}{s:Shared}
theorem Zas{K:PySem.W.Frag}{d:D}{xs:List V}(r:Zr K H [d] xs):∃v,xs=[v]/\Y8 K H d v:=by
 obtain⟨v,vr,e,h,t⟩:=r
 have:vr=[]:=t
 subst this
 exact⟨v,e,h⟩
theorem Zja{ns:List Int}{vs:List Value}{xs:Array (Int×Tok)}(hi:IntsAre vs ns)(hx:vs.toArray=intItems xs):preSum (numAt xs) xs.size=ns.sum:=by
 have hn:numsOf vs.toArray.toList=ns:=by rw[show vs.toArray.toList=vs from rfl,hi.numsOf]
 rw[hx,nums_intItems]at hn
 rw[preSum_eq,List.take_of_length_le (by simp),hn]
theorem Zmp(hc:X.calm=true):Xu X (.builtin "sum") Zdf:=by
 intro pins s σ H xs us Q I rs h
 obtain⟨O,ds,d,th,rp,e,q⟩:=h
 unfold Zdf at e
 split at e
 ·obtain⟨is,e1,e⟩:=bind_some e
  cases e
  cases Xg e1
  obtain⟨v,rfl,p,vs,rfl,hp,r2⟩:=Zas rp
  cases r2.ints
  obtain⟨u,rfl,ru⟩:=WB rs
  cases ru
  obtain⟨its,rv,pl,_⟩:=I.list (XX.of (Zf _ _ hp))
  have hi:=XJ rv
  obtain⟨ys,hy⟩:=hi.allInts.items
  have hl:=pl.isList
  rw[hy]at hl
  refine sum_intListG (I.ok.hd hc) hl fun h' tk t' hk=>?_
  rw[Zja hi hy]
  exact⟨.int is.sum,H,I.kept hk,⟨t',rfl⟩,q _ H (Zg.refl _) rfl⟩
 ·obtain⟨is,e1,e⟩:=bind_some e
  cases e
  cases Xg e1
  obtain⟨v,rfl,p,vs,rfl,hp,r2⟩:=Zas rp
  cases r2.ints
  obtain⟨u,rfl,ru⟩:=WB rs
  cases ru
  obtain⟨its,rv,pl,_⟩:=I.tuple (Wx.of (Zf _ _ hp))
  have hi:=XJ rv
  obtain⟨ys,hy⟩:=hi.allInts.items
  have hl:s.heap.IsTuple p its.toArray:=pl
  rw[hy]at hl
  refine PySem.W.ktm_sumG (I.ok.hd hc) hl fun h' tk t' hk=>?_
  rw[Zja hi hy]
  exact⟨.int is.sum,H,I.kept hk,⟨t',rfl⟩,q _ H (Zg.refl _) rfl⟩
 ·cases e
theorem Zm5{is:List Bool}:∀{us:List Value},ZM (is.map V.bl) us->us=is.map Value.bool:=by
 induction is with
 |nil=>intro us r;cases r;rfl
 |cons i is ih =>
  intro us r
  cases r with
  |cons r1 r2=>rw[Qe,show _=_ from r1,ih r2]
theorem Zhh{K:PySem.W.Frag}:∀{is:List Bool} {vs:List V},Zr K H (is.map D.bl) vs->vs=is.map V.bl
 |[],_,h=>h
 |i::is,_,⟨v,r,e,h,t⟩=>by
  have:v=.bl i:=h
  subst this;subst e;rw[Qe,Zhh t]
theorem Zds{is:List Bool}(b:Bool):(List.range is.length).map (fun i=>is.getD i b)=is:=by
 apply List.ext_getElem
 ·simp
 ·intro i h1 h2
  simp at h1
  simp[h2]
theorem Zf7{p:Addr}{is:List Bool}{A:Around}(hh:A.handled=none)(hl:s.heap.IsList p (is.map Value.bool).toArray){Q:Value->Shared->Prop}
  (h:∀I fp wr P St,Walks X.prog X.w A I fp wr is.length P St->TruthOf X.prog X.w A P (fun i=>is.getD i false)->∀s2:Shared,s2.os=s.os->s2={ s with heap:=s2.heap }->St 0 s2.heap->(∀b o,s.heap.get? b=some o->s2.heap.get? b=some o) ->
   (∀h':Heap,(∀b o,b∉wr->s2.heap.get? b=some o->h'.get? b=some o)->∀b o,s.heap.get? b=some o->h'.get? b=some o)->Q (.ref I) s2) {E:Value->Shared->Prop} :
  wpAny (model X.prog X.w) A (pyIter (.ref p)) Q E s:=by
 have hlt:p<s.heap.objs.size:=by obtain⟨_,e,_⟩:=hl;exact Qr e
 have hsz:(is.map Value.bool).toArray.size=is.length:=by simp
 have W:=Walks.list (prog:=X.prog) (w:=X.w) (A:=A) hh s.heap.objs.size p (Qy hlt) (is.map Value.bool).toArray
 rw[hsz]at W
 refine wpAny_pyIter_list hl (h _ _ _ _ _ W (fun i v s' Q' E' hP hQ=>?_) _ rfl rfl ⟨⟨_,Qv _ rfl,rfl,rfl⟩,hl.push _⟩ (fun b o e=>Qf _ e) fun h' hk b o e=>?_)
 ·have hv:v=.bool (is.getD i false):=by
   have hP:(List.map Value.bool is).toArray[i]?=some v:=hP
   rw[List.getElem?_toArray,QC]at hP
   cases q:is[i]? with
   |none=>rw[q]at hP;cases hP
   |some b=>rw[q]at hP;simp[List.getD,q];exact(Q9 hP).symm
  subst hv
  exact JQ hQ
 ·refine hk b o (fun hm=>?_) (Qf _ e)
  have:b=s.heap.objs.size:=by simpa using hm
  subst this
  exact absurd (Qr e) (JP _)
theorem Zbz(hc:X.calm=true):Xu X (.builtin "all") Za7:=by
 intro pins s σ H xs us Q I rs h
 obtain⟨O,ds,d,th,rp,e,q⟩:=h
 unfold Za7 at e
 split at e
 ·obtain⟨is,e1,e⟩:=bind_some e
  cases e
  cases U7 e1
  obtain⟨v,rfl,p,vs,rfl,hp,r2⟩:=Zas rp
  cases Zhh r2
  obtain⟨u,rfl,ru⟩:=WB rs
  cases ru
  obtain⟨its,rv,pl,_⟩:=I.list (XX.of (Zf _ _ hp))
  cases Zm5 rv
  refine call_all_walk (Zf7 (X:=X) (A:=X.A.in1) (I.ok.hd hc) pl.isList fun It fp wr P St W tr s2 _ es st k1 k2=>?_)
  refine⟨It,fp,wr,_,P,St,_,rfl,W,st,tr,fun h' tk hk=>?_⟩
  have ea:(List.range is.length).all (fun i=>is.getD i false)=is.all id:=by
   conv=>rhs;rw[<- Zds (is:=is) false]
   rw[List.all_map];rfl
  rw[ea]
  rw[es]
  exact⟨.bl _,H,I.kept (k2 h' hk),rfl,q _ H (Zg.refl _) rfl⟩
 ·cases e
theorem Z06(hc:X.calm=true):Xu X (.builtin "any") Zuc:=by
 intro pins s σ H xs us Q I rs h
 obtain⟨O,ds,d,th,rp,e,q⟩:=h
 unfold Zuc at e
 split at e
 ·obtain⟨is,e1,e⟩:=bind_some e
  cases e
  cases U7 e1
  obtain⟨v,rfl,p,vs,rfl,hp,r2⟩:=Zas rp
  cases Zhh r2
  obtain⟨u,rfl,ru⟩:=WB rs
  cases ru
  obtain⟨its,rv,pl,_⟩:=I.list (XX.of (Zf _ _ hp))
  cases Zm5 rv
  refine call_any_walk (Zf7 (X:=X) (A:=X.A.in1) (I.ok.hd hc) pl.isList fun It fp wr P St W tr s2 _ es st k1 k2=>?_)
  refine⟨It,fp,wr,_,P,St,_,rfl,W,st,tr,fun h' tk hk=>?_⟩
  have ea:(List.range is.length).any (fun i=>is.getD i false)=is.any id:=by
   conv=>rhs;rw[<- Zds (is:=is) false]
   rw[List.any_map];rfl
  rw[ea]
  rw[es]
  exact⟨.bl _,H,I.kept (k2 h' hk),rfl,q _ H (Zg.refl _) rfl⟩
 ·cases e
def Zay:D->String
 |.non=>"NoneType"
 |.bl _=>"bool"
 |.int _=>"int"
 |.str _=>"str"
 |.tup _=>"tuple"
 |.lst _=>"list"
 |.scr _=>"list"
 |.dcK _ _=>"dict"
 |.dcT _ _=>"dict"
 |.dcF _ _=>"dict"
def Zx1(T:String)(d:D):Bool:=(Zay d == T)||((Zay d == "bool")&&(T == "int"))
def Zgg(T:String):D->Option D:=fun d=>some (.bl (Zx1 T d))
structure Zk5(K:PySem.W.Frag)(T:String):Prop where
 ans:∀S∈["NoneType","bool","int","str","tuple","list","dict"],PySem.W.kitOne K (.type S) (.type T)=some ((S == T)||((S == "bool")&&(T == "int")))
theorem Zma{A:Around}{E:Value->Shared->Prop}{T:String}{d:D}{v:V}{u:Value}{Q:Value->Shared->Prop}(kt:Zk5 X.K T)(I:ZA X pins σ H s)(r:Y8 X.K H d v)(ru:Z2 v u)(h:∀tk,Q (.bool (Zx1 T d)) { s with toks:=tk }) :
  wpAny (model X.prog X.w) A (call (.builtin "isinstance") [u,.type T]) Q E s:=by
 have an:PySem.W.kitOne X.K (.type (Zay d)) (.type T)=some (Zx1 T d):=kt.ans (Zay d) (by cases d<;>simp[Zay])
 cases d with
 |non=>rw[show v=_ from r]at ru;cases ru;exact Js PySem.W.kitx_none I.kIn True.intro an (fun z=>nomatch z) h
 |bl y=>rw[show v=_ from r]at ru;cases ru;exact Js PySem.W.kitx_bool I.kIn True.intro an (fun z=>nomatch z) h
 |int i=>rw[show v=_ from r]at ru;obtain⟨t,rfl⟩:=ru;exact Js PySem.W.kitx_int I.kIn True.intro an (fun z=>nomatch z) h
 |str y=>rw[show v=_ from r]at ru;obtain⟨t,rfl⟩:=ru;exact Js PySem.W.kitx_str I.kIn True.intro an (fun z=>nomatch z) h
 |tup ds =>
  obtain⟨a,vs,rfl,ht,_⟩:=r
  cases ru
  obtain⟨its,_,⟨o,h1,h2,_⟩,_⟩:=I.tuple (Wx.of ht)
  exact Js PySem.W.kitx_tuple I.kIn ⟨o,h1,h2⟩ an (fun z=>nomatch z) h
 |lst ds =>
  obtain⟨a,vs,rfl,ht,_⟩:=r
  cases ru
  obtain⟨its,_,⟨o,n,h1,h2,_⟩,_⟩:=I.list (XX.of ht)
  exact Js PySem.W.kitx_list I.kIn ⟨o,h1,h2⟩ an (fun z=>nomatch z) h
 |scr ns =>
  obtain⟨a,rfl,ht⟩:=r
  cases ru
  obtain⟨its,_,⟨o,n,h1,h2,_⟩,_⟩:=I.list ht
  exact Js PySem.W.kitx_list I.kIn ⟨o,h1,h2⟩ an (fun z=>nomatch z) h
 |dcK ks ds =>
  obtain⟨a,kvs,rfl,hk,_⟩:=r
  cases ru
  obtain⟨_,_,vs,_,o,es,ep,h1,h2,_⟩:=(show YI X.prog X.w H s.heap a (.dK kvs) from I.hok a _ hk)
  exact Js PySem.W.kitx_dict I.kIn ⟨o,h1,h2.1⟩ an (fun z=>nomatch z) h
 |dcT ks ds =>
  obtain⟨a,kvs,rfl,hk,_⟩:=r
  cases ru
  obtain⟨_,_,xs,_,o,es,ep,h1,h2,_⟩:=(show YI X.prog X.w H s.heap a (.dT kvs) from I.hok a _ hk)
  exact Js PySem.W.kitx_dict I.kIn ⟨o,h1,h2.1⟩ an (fun z=>nomatch z) h
 |dcF ks ds =>
  obtain⟨a,fo,kvs,rfl,hk,_⟩:=r
  cases ru
  obtain⟨_,_,_,xs,_,o,es,ep,h1,h2,_⟩:=(show YI X.prog X.w H s.heap a (.frz fo (.dT kvs)) from I.hok a _ hk)
  exact Js PySem.W.kitx_dict I.kIn ⟨o,h1,h2.1⟩ an (fun z=>nomatch z) h
theorem Zk1{T:String}(kt:Zk5 X.K T):X7 X (.builtin "isinstance") (fun xs H Q=>∃O d v r,YY O H/\xs=[v,.ty T]/\Y8 X.K (mask O H) d v/\r=D.bl (Zx1 T d)/\∀w H',Zg H H'->Y8 X.K (mask O H') r w->Q w H'):=by
 intro pins s σ H xs us Q I rs h
 obtain⟨O,d,v,r,th,rfl,hr,rfl,q⟩:=h
 cases rs with
 |cons r1 rs =>
  cases rs with
  |cons r2 rs =>
   cases rs
   cases r2
   exact Zma kt I (Y8.mono Zf d v hr) r1 fun tk=>⟨.bl _,H,I.tok tk,rfl,q _ H (Zg.refl _) rfl⟩
theorem XT{a:Expr}{fa:FE}{T:String}{x:Str}{p p2 pos:Pos}(kt:Zk5 X.K T)(ha:EV X a fa)(hm:X.mg "isinstance"=none)(hx:X.mg x=none)(hv:bootBuiltins x=some (.type T))(hgx:Gl X x:=by rfl)(hg:Gl X "isinstance":=by rfl)
  (hn:x≠"__name__":=by decide) (hd:(x == ("__debug__":Str))=false:=by decide)
  (h1:starEach [a,.Name x p2] X.env=(false,eval a X.env)::starEach [.Name x p2] X.env:=by rfl) (h2:starEach [.Name x p2] X.env=(false,eval (.Name x p2) X.env)::starEach [] X.env:=by rfl)
  (hpl:(backTo pos (starEach [.Name x p2] X.env)).any (·.1)=false:=by rfl):EV X (.Call (.Name "isinstance" p) [a,.Name x p2] [] pos) (f1 (Zgg T) fa) :=
 PE.imp (Zdx (Zk1 kt) hg hm boot_isinstance (XZ ha (XZ (Zvy (v:=.ty T) hgx hx hv rfl hn hd) VJ h2) h1) (by decide) (by decide) h1 hpl) fun σ H Q ⟨O,ρ,d,rv,e,q⟩=>by
  obtain⟨z,e1,e⟩:=bind_some e
  cases e
  exact⟨O,ρ,z,rv,e1,fun v H1 s1 r1=>⟨O,z,v,_,rv.th.mono s1,rfl,r1,rfl,fun w H2 s2 r2=>q w H2 (Zg.trans s1 s2) r2⟩⟩
end
end L2

namespace ZP
open PySem PyProof.Rows
section
variable{prog:Program}{w:World}{A:Around}{E:Value->Shared->Prop}{s:Shared}
def It2(b:Bool)(h:Heap)(p q:Addr)(k:Nat):Prop:=if b=true then h.IsListIter p q k else h.IsTupleIter p q k
def Sq2(b:Bool)(h:Heap)(q:Addr)(xs:Array Value):Prop:=if b=true then h.IsList q xs else h.IsTuple q xs
theorem It2.ext{b:Bool}{h h':Heap}{p q c:Addr}{k:Nat}(x:It2 b h p q k)(e:Heap.ExtBut c h h')(n:p≠c):It2 b h' p q k:=by
 cases b
 ·obtain⟨o,ho,r⟩:=x;exact⟨o,e _ _ n ho,r⟩
 ·obtain⟨o,ho,r⟩:=x;exact⟨o,e _ _ n ho,r⟩
theorem It2.at_{b:Bool}{h h':Heap}{p q:Addr}{k:Nat}(x:It2 b h p q k)(e:∀o,h.get? p=some o->h'.get? p=some o):It2 b h' p q k:=by
 cases b
 ·obtain⟨o,ho,r⟩:=x;exact⟨o,e _ ho,r⟩
 ·obtain⟨o,ho,r⟩:=x;exact⟨o,e _ ho,r⟩
theorem It2.ob{b:Bool}{h:Heap}{p q:Addr}{k:Nat}(x:It2 b h p q k):∃o,h.get? p=some o/\∀v,o.data≠.cell v:=by
 cases b
 ·obtain⟨o,ho,_,d⟩:=x;exact⟨o,ho,fun v z=>by rw[d]at z;cases z⟩
 ·obtain⟨o,ho,_,d⟩:=x;exact⟨o,ho,fun v z=>by rw[d]at z;cases z⟩
theorem Sq2.ext{b:Bool}{h h':Heap}{q c:Addr}{xs:Array Value}(x:Sq2 b h q xs)(e:Heap.ExtBut c h h')(n:q≠c):Sq2 b h' q xs:=by
 cases b
 ·obtain⟨o,ho,r⟩:=x;exact⟨o,e _ _ n ho,r⟩
 ·obtain⟨o,ho,r⟩:=x;exact⟨o,e _ _ n ho,r⟩
theorem Zql{p q:Addr}{k:Nat}{xs:Array Value}{y:Value}{Q:Value->Shared->Prop}(hi:s.heap.IsTupleIter p q k)(hq:s.heap.IsTuple q xs)(hy:xs[k]?=some y)
  (done:∀h',h'.IsTupleIter p q (k+1)->Heap.SameBut p s.heap h'->Q y { s with heap:=h' }):wpAny (model prog w) A (Builtin.SmallTypes.nextOf (.ref p)) Q E s:=by
 obtain⟨oi,gi,ci,di⟩:=id hi
 obtain⟨oq,gq,_,nq,dq⟩:=hq
 unfold Builtin.SmallTypes.nextOf
 refine Qa (Ji (name:=Str.ofString "__next__") hi.typeIs F.slot_tuple_iterator_next (Jq F.slot_tuple_iterator_next hi.typeIs F.entry_tuple_iterator_next ?_ (F.args_tuple_iterator_next_1 _)))
 show wpAny _ _ (field (.ref p) 0 >>= _) _ _ s
 refine Qa (Jp gi di (x:=.ref q) rfl ?_)
 show wpAny _ _ (if(Value.ref q == Value.none)=true then _ else _) _ _ s
 rw[if_neg (fun z:(Value.ref q == Value.none)=true=>QE z)]
 show wpAny _ _ (field (.ref p) 1 >>= _) _ _ s
 refine Qa (Jp gi di (x:=.int k 0) rfl ?_)
 show wpAny _ _ (seqItems? (.ref q) >>= _) _ _ s
 refine Qa (Jz gq dq ?_)
 simp only[Qz,hy]
 refine Qa (wpAny_setField gi di (by simp) (Qh ⟨y,rfl,Qh (done _ ?_ (JH ..))⟩))
 refine⟨_,Heap.get?_update_self _ gi (Obj.isFreed_of_fields (Obj.data_mapFields di _)),(Obj.cls_mapFields ..).trans ci,?_⟩
 rw[Obj.data_mapFields di]
 simp[rawInt]
theorem Zqk{p q:Addr}{k:Nat}{xs:Array Value}{Q:Value->Shared->Prop}(hh:A.handled=none)(hi:s.heap.IsTupleIter p q k)(hq:s.heap.IsTuple q xs)(hy:xs[k]?=none)
  (out:∀h' e,Heap.ExtBut p s.heap h'->(∃o,h'.get? e=some o/\o.cls=.type "StopIteration")->E (.ref e) { s with heap:=h' }):wpAny (model prog w) A (Builtin.SmallTypes.nextOf (.ref p)) Q E s:=by
 obtain⟨oi,gi,ci,di⟩:=id hi
 obtain⟨oq,gq,_,nq,dq⟩:=hq
 unfold Builtin.SmallTypes.nextOf
 refine Qa (Ji (name:=Str.ofString "__next__") hi.typeIs F.slot_tuple_iterator_next (Jq F.slot_tuple_iterator_next hi.typeIs F.entry_tuple_iterator_next ?_ (F.args_tuple_iterator_next_1 _)))
 show wpAny _ _ (field (.ref p) 0 >>= _) _ _ s
 refine Qa (Jp gi di (x:=.ref q) rfl ?_)
 show wpAny _ _ (if(Value.ref q == Value.none)=true then _ else _) _ _ s
 rw[if_neg (fun z:(Value.ref q == Value.none)=true=>QE z)]
 show wpAny _ _ (field (.ref p) 1 >>= _) _ _ s
 refine Qa (Jp gi di (x:=.int k 0) rfl ?_)
 show wpAny _ _ (seqItems? (.ref q) >>= _) _ _ s
 refine Qa (Jz gq dq ?_)
 simp only[Qz,hy]
 refine Qa (wpAny_rule (Qa (wpAny_setField gi di (by simp) ?_)))
 show wpAny _ _ (newExc (.type "StopIteration") [] >>= fun _=>_) _ _ _
 refine Qa ?_
 simp only[newExc,newTuple]
 refine Qa (Jm (hd:=by size_fits) ?_)
 refine Qa (m:=firstArgMember _ _) (wpAny_of_eq (a:=Value.none) (by first|rfl|(simp only[firstArgMember]<;>rfl)) ?_)
 refine Jm (hd:=by size_fits) ?_
 simp only[raiseNew]
 refine Qa (wpAny_handled ?_)
 first|rw[show A.in1.handled=none from hh]|rw[hh]
 refine Qa (Qh (wpAny_throw (out _ _ (((JH ..).extBut.push _).push _) ⟨_,Qv _ rfl,rfl⟩)))
theorem Zsc{b:Bool}{p q:Addr}{k:Nat}{xs:Array Value}{y:Value}{Q:Value->Shared->Prop}(hi:It2 b s.heap p q k)(hq:Sq2 b s.heap q xs)(hy:xs[k]?=some y)
  (done:∀h',It2 b h' p q (k+1)->Heap.SameBut p s.heap h'->Q y { s with heap:=h' }):wpAny (model prog w) A (Builtin.SmallTypes.nextOf (.ref p)) Q E s:=by
 cases b
 ·exact Zql hi hq hy done
 ·exact wpAny_nextOf_list_item hi hq hy done
theorem Zxm{b:Bool}{p q:Addr}{k:Nat}{xs:Array Value}{Q:Value->Shared->Prop}(hh:A.handled=none)(hi:It2 b s.heap p q k)(hq:Sq2 b s.heap q xs)(hy:xs[k]?=none)
  (out:∀h' e,Heap.ExtBut p s.heap h'->(∃o,h'.get? e=some o/\o.cls=.type "StopIteration")->E (.ref e) { s with heap:=h' }):wpAny (model prog w) A (Builtin.SmallTypes.nextOf (.ref p)) Q E s:=by
 cases b
 ·exact Zqk hh hi hq hy out
 ·exact wpAny_nextOf_list_end hh hi hq hy out
structure Apart(c u v p1 p2 q1 q2:Addr):Prop where
 uc:u≠c
 vc:v≠c
 p1c:p1≠c
 p2c:p2≠c
 uv:u≠v
 up1:u≠p1
 up2:u≠p2
 vp1:v≠p1
 vp2:v≠p2
 p12:p1≠p2
 q1c:q1≠c
 q1v:q1≠v
 q1p1:q1≠p1
 q1p2:q1≠p2
 q2c:q2≠c
 q2v:q2≠v
 q2p1:q2≠p1
 q2p2:q2≠p2
variable{b1 b2:Bool}{c u v p1 p2 q1 q2:Addr}{k1 k2:Nat}{xs ys:Array Value}{x y a b:Value}
theorem znext{Q:Value->Shared->Prop}(D:Apart c u v p1 p2 q1 q2)(hz:IsZip s.heap c u v .none)(hu:IsPair s.heap u (.ref p1) (.ref p2))(hv:IsPair s.heap v a b)
  (g1:It2 b1 s.heap p1 q1 k1) (g2:It2 b2 s.heap p2 q2 k2) (d1:Sq2 b1 s.heap q1 xs) (d2:Sq2 b2 s.heap q2 ys) (hx:xs[k1]?=some x) (hy:ys[k2]?=some y)
  (done:∀h',IsZip h' c u v (rawInt s.heap.objs.size)->IsPair h' v x y->It2 b1 h' p1 q1 (k1+1)->It2 b2 h' p2 q2 (k2+1)->IsPair h' s.heap.objs.size x y->h'.objs.size=s.heap.objs.size+1 ->
   (∀m o,m≠c->m≠v->m≠p1->m≠p2->s.heap.get? m=some o->h'.get? m=some o)->Q (.ref s.heap.objs.size) { s with heap:=h' }) :
  wpAny (model prog w) A (Builtin.«zip.__next__» ⟨[.ref c],[]⟩) (fun fin s'=>∃r,fin=.done (.ret r)/\Q r s') E s:=by
 show wpAny _ _ (field (.ref c) 2 >>= _) _ _ _
 refine Qa (Jp (x:=.bool false) hz rfl rfl ?_)
 show wpAny _ _ (field (.ref c) 3 >>= _) _ _ _
 refine Qa (Jp (x:=.ref u) hz rfl rfl ?_)
 refine Qa (Jz hu rfl ?_)
 show wpAny _ _ (Builtin.SmallTypes.ownedTupleIsFree (.ref c) >>= _) _ _ _
 refine Qa ?_
 unfold Builtin.SmallTypes.ownedTupleIsFree
 refine Qa (Jp (x:=.none) hz rfl rfl (Qh ?_))
 simp only[if_true]
 refine Qa (wpAny_rule ?_)
 refine Qa (Jp (x:=.ref v) hz rfl rfl ?_)
 refine Qa (J0 hz (by simp) fun e1 z1 t1=>?_)
 replace z1:IsZip e1 c u v .ellipsis:=z1
 refine Qa ?_
 simp only[List.zipIdx_cons,List.zipIdx_nil,List.forIn_cons,List.forIn_nil]
 refine Qa (Qa (wpAny_onRaise ?_))
 show wpAny _ _ (Builtin.SmallTypes.nextOf (.ref p1) >>= _) _ _ _
 refine Qa (Zsc (g1.ext t1.extBut D.p1c) (d1.ext t1.extBut D.q1c) hx fun e2 i2 t2=>Qh ?_)
 have v2:IsPair e2 v a b:=t2.extBut _ _ D.vp1 (t1.extBut _ _ D.vc hv)
 refine Qa (Jz v2 rfl ?_)
 refine Qa (wpAny_updateSeq_pair v2 fun e3 v3 t3=>?_)
 replace v3:IsPair e3 v x b:=v3
 refine Qa (wpAny_letGo (Qh ?_))
 refine Qa (Qa (wpAny_onRaise ?_))
 show wpAny _ _ (Builtin.SmallTypes.nextOf (.ref p2) >>= _) _ _ _
 refine Qa (Zsc (((g2.ext t1.extBut D.p2c).ext t2.extBut D.p12.symm).ext t3.extBut D.vp2.symm) (((d2.ext t1.extBut D.q2c).ext t2.extBut D.q2p1).ext t3.extBut D.q2v) hy fun e4 i4 t4=>Qh ?_)
 have v4:IsPair e4 v x b:=t4.extBut _ _ D.vp2 v3
 refine Qa (Jz v4 rfl ?_)
 refine Qa (wpAny_updateSeq_pair v4 fun e5 v5 t5=>?_)
 replace v5:IsPair e5 v x y:=v5
 refine Qa (wpAny_letGo (Qh (Qh ?_)))
 refine Qa (Jz v5 rfl ?_)
 refine Qa (wpAny_newTuple ?_)
 have hsz:e5.objs.size=s.heap.objs.size:=by rw[t5.1,t4.1,t3.1,t2.1,t1.1]
 have z5:IsZip e5 c u v .ellipsis:=t5.extBut _ _ D.vc.symm (t4.extBut _ _ D.p2c.symm (t3.extBut _ _ D.vc.symm (t2.extBut _ _ D.p1c.symm z1)))
 have k5:∀m o,m≠c->m≠v->m≠p1->m≠p2->s.heap.get? m=some o->e5.get? m=some o:=fun m o m1 m2 m3 m4 e =>
  t5.extBut _ _ m2 (t4.extBut _ _ m4 (t3.extBut _ _ m2 (t2.extBut _ _ m3 (t1.extBut _ _ m1 e))))
 have i5:It2 b1 e5 p1 q1 (k1+1):=((i2.ext t3.extBut D.vp1.symm).ext t4.extBut D.p12).ext t5.extBut D.vp1.symm
 have j5:It2 b2 e5 p2 q2 (k2+1):=i4.ext t5.extBut D.vp2.symm
 have zlt:c<e5.objs.size:=Qr z5
 show wpAny _ _ (Builtin.SmallTypes.ownedTupleHandOut (.ref c) (.ref e5.objs.size) >>= _) _ _ _
 refine Qa ?_
 unfold Builtin.SmallTypes.ownedTupleHandOut
 have z6:IsZip (e5.push { cls:=.type "tuple",data:=.seq #[x,y] }) c u v .ellipsis:=Qf _ z5
 refine Qa (J0 z6 (by simp) fun e7 z7 t7=>?_)
 replace z7:IsZip e7 c u v (rawInt e5.objs.size):=z7
 refine J0 z7 (by simp) fun e8 z8 t8=>?_
 replace z8:IsZip e8 c u v (rawInt e5.objs.size):=z8
 have up:∀m o,m≠c->e5.get? m=some o->e8.get? m=some o:=fun m o m1 e=>t8.extBut _ _ m1 (t7.extBut _ _ m1 (Qf _ e))
 have n8:IsPair e8 e5.objs.size x y:=t8.extBut _ _ (Nat.ne_of_gt zlt) (t7.extBut _ _ (Nat.ne_of_gt zlt) (Qv _ rfl))
 have w8:e8.objs.size=e5.objs.size+1:=by rw[t8.1,t7.1,Jl]
 rw[hsz]at z8 n8 w8
 refine Qh ⟨_,rfl,?_⟩
 show Q (.ref e5.objs.size) _
 rw[hsz]
 exact done e8 z8 (up _ _ D.vc v5) (i5.at_ fun o e=>up _ o D.p1c e) (j5.at_ fun o e=>up _ o D.p2c e) n8 w8 fun m o m1 m2 m3 m4 e=>up m o m1 (k5 m o m1 m2 m3 m4 e)
theorem zover{Q:Fin->Shared->Prop}(hh:A.handled=none)(D:Apart c u v p1 p2 q1 q2)(hz:IsZip s.heap c u v .none)(hu:IsPair s.heap u (.ref p1) (.ref p2))(hv:IsPair s.heap v a b)
  (g1:It2 b1 s.heap p1 q1 k1) (g2:It2 b2 s.heap p2 q2 k2) (d1:Sq2 b1 s.heap q1 xs) (d2:Sq2 b2 s.heap q2 ys) (hend:xs[k1]?=none\/ys[k2]?=none)
  (out:∀h' e,(∀m o,m≠c->m≠v->m≠p1->m≠p2->s.heap.get? m=some o->h'.get? m=some o)->(∃o,h'.get? e=some o/\o.cls=.type "StopIteration")->E (.ref e) { s with heap:=h' }) :
  wpAny (model prog w) A (Builtin.«zip.__next__» ⟨[.ref c],[]⟩) Q E s:=by
 show wpAny _ _ (field (.ref c) 2 >>= _) _ _ _
 refine Qa (Jp (x:=.bool false) hz rfl rfl ?_)
 show wpAny _ _ (field (.ref c) 3 >>= _) _ _ _
 refine Qa (Jp (x:=.ref u) hz rfl rfl ?_)
 refine Qa (Jz hu rfl ?_)
 show wpAny _ _ (Builtin.SmallTypes.ownedTupleIsFree (.ref c) >>= _) _ _ _
 refine Qa ?_
 unfold Builtin.SmallTypes.ownedTupleIsFree
 refine Qa (Jp (x:=.none) hz rfl rfl (Qh ?_))
 simp only[if_true]
 refine Qa (wpAny_rule ?_)
 refine Qa (Jp (x:=.ref v) hz rfl rfl ?_)
 refine Qa (J0 hz (by simp) fun e1 z1 t1=>?_)
 replace z1:IsZip e1 c u v .ellipsis:=z1
 refine Qa ?_
 simp only[List.zipIdx_cons,List.zipIdx_nil,List.forIn_cons,List.forIn_nil]
 refine Qa (Qa (wpAny_onRaise ?_))
 show wpAny _ _ (Builtin.SmallTypes.nextOf (.ref p1) >>= _) _ _ _
 cases hx:xs[k1]? with
 |none =>
  refine Qa (Zxm hh (g1.ext t1.extBut D.p1c) (d1.ext t1.extBut D.q1c) hx fun e2 m t2 hm=>?_)
  obtain⟨om,gm,cm⟩:=hm
  have z2:IsZip e2 c u v .ellipsis:=t2 _ _ D.p1c.symm z1
  have mz:m≠c:=fun x=>by subst x;rw[z2]at gm;cases gm;simp at cm
  exact J0 z2 (by simp) fun e3 _ t3=>out e3 m (fun n o n1 _ n3 _ q=>t3.extBut _ _ n1 (t2 _ _ n3 (t1.extBut _ _ n1 q))) ⟨om,t3.extBut _ _ mz gm,cm⟩
 |some x =>
  have hy:ys[k2]?=none:=by
   rcases hend with h|h
   ·rw[hx]at h;cases h
   ·exact h
  refine Qa (Zsc (g1.ext t1.extBut D.p1c) (d1.ext t1.extBut D.q1c) hx fun e2 i2 t2=>Qh ?_)
  have v2:IsPair e2 v a b:=t2.extBut _ _ D.vp1 (t1.extBut _ _ D.vc hv)
  refine Qa (Jz v2 rfl ?_)
  refine Qa (wpAny_updateSeq_pair v2 fun e3 v3 t3=>?_)
  refine Qa (wpAny_letGo (Qh ?_))
  refine Qa (Qa (wpAny_onRaise ?_))
  show wpAny _ _ (Builtin.SmallTypes.nextOf (.ref p2) >>= _) _ _ _
  refine Qa (Zxm hh (((g2.ext t1.extBut D.p2c).ext t2.extBut D.p12.symm).ext t3.extBut D.vp2.symm) (((d2.ext t1.extBut D.q2c).ext t2.extBut D.q2p1).ext t3.extBut D.q2v) hy fun e4 m t4 hm=>?_)
  obtain⟨om,gm,cm⟩:=hm
  have z4:IsZip e4 c u v .ellipsis:=t4 _ _ D.p2c.symm (t3.extBut _ _ D.vc.symm (t2.extBut _ _ D.p1c.symm z1))
  have mz:m≠c:=fun x=>by subst x;rw[z4]at gm;cases gm;simp at cm
  exact J0 z4 (by simp) fun e5 _ t5=>out e5 m (fun n o n1 n2 n3 n4 q=>t5.extBut _ _ n1 (t4 _ _ n4 (t3.extBut _ _ n2 (t2.extBut _ _ n3 (t1.extBut _ _ n1 q))))) ⟨om,t5.extBut _ _ mz gm,cm⟩
theorem zstep{Q:Option Value->Shared->Prop}(D:Apart c u v p1 p2 q1 q2)(hz:IsZip s.heap c u v .none)(hu:IsPair s.heap u (.ref p1) (.ref p2))(hv:IsPair s.heap v a b)
  (g1:It2 b1 s.heap p1 q1 k1) (g2:It2 b2 s.heap p2 q2 k2) (d1:Sq2 b1 s.heap q1 xs) (d2:Sq2 b2 s.heap q2 ys) (hx:xs[k1]?=some x) (hy:ys[k2]?=some y)
  (done:∀h',IsZip h' c u v (rawInt s.heap.objs.size)->IsPair h' v x y->It2 b1 h' p1 q1 (k1+1)->It2 b2 h' p2 q2 (k2+1)->IsPair h' s.heap.objs.size x y->h'.objs.size=s.heap.objs.size+1 ->
   (∀m o,m≠c->m≠v->m≠p1->m≠p2->s.heap.get? m=some o->h'.get? m=some o)->Q (some (.ref s.heap.objs.size)) { s with heap:=h' }) :
  wpAny (model prog w) A (pyNext (.ref c)) Q E s:=by
 have ty:s.TypeIs (.ref c) "zip":=⟨_,hz,rfl⟩
 unfold pyNext
 exact Qa (wpAny_attempt (Ji (name:=Str.ofString "__next__") ty F.slot_zip_next (Jq F.slot_zip_next ty F.entry_zip_next
  (znext D hz hu hv g1 g2 d1 d2 hx hy fun h' a1 a2 a3 a4 a5 a6 a7=>Qh (done h' a1 a2 a3 a4 a5 a6 a7)) (F.args_zip_next_1 _))))
theorem zstop{Q:Option Value->Shared->Prop}(hh:A.handled=none)(D:Apart c u v p1 p2 q1 q2)(hz:IsZip s.heap c u v .none)(hu:IsPair s.heap u (.ref p1) (.ref p2))(hv:IsPair s.heap v a b)
  (g1:It2 b1 s.heap p1 q1 k1) (g2:It2 b2 s.heap p2 q2 k2) (d1:Sq2 b1 s.heap q1 xs) (d2:Sq2 b2 s.heap q2 ys) (hend:xs[k1]?=none\/ys[k2]?=none)
  (done:∀h',(∀m o,m≠c->m≠v->m≠p1->m≠p2->s.heap.get? m=some o->h'.get? m=some o)->Q none { s with heap:=h' }):wpAny (model prog w) A (pyNext (.ref c)) Q E s:=by
 have ty:s.TypeIs (.ref c) "zip":=⟨_,hz,rfl⟩
 unfold pyNext
 refine Qa (wpAny_attempt (Ji (name:=Str.ofString "__next__") ty F.slot_zip_next (Jq F.slot_zip_next ty F.entry_zip_next
  (zover hh D hz hu hv g1 g2 d1 d2 hend fun h' e hk he=>?_) (F.args_zip_next_1 _))))
 obtain⟨o,ho,hc⟩:=he
 refine Qa (wpAny_isInstance (T:="StopIteration") (b:=true) ⟨o,ho,hc⟩ isSubtype_stop (Qh (done _ hk)))
abbrev itObj(b:Bool)(q:Addr):Obj:={ cls:=.type (if b=true then "list_iterator" else "tuple_iterator"),data:=.fields #[.ref q,.int 0 0] }
theorem iter2{Q:Value->Shared->Prop}{q:Addr}(bb:Bool)(hq:Sq2 bb s.heap q xs)(h:Q (.ref s.heap.objs.size) { s with heap:=s.heap.push (itObj bb q) }):wpAny (model prog w) A (pyIter (.ref q)) Q E s:=by
 cases bb
 ·exact wpAny_pyIter_tuple hq h
 ·exact wpAny_pyIter_list hq h
end
end ZP

namespace HT
open PySem PyProof.Rows
section
variable{prog:Program}{w:World}{A:Around}{E:Value->Shared->Prop}{s:Shared}
theorem getItem_tuple_whole{t sl:Addr}{items:Array Value}{vl vu:Value}{lo hi:Option Int}{Q:Value->Shared->Prop}(ht:IsTup s.heap t items)(hs:s.heap.IsSliceOf sl vl vu .none)(pl:IsPart vl lo)(pu:IsPart vu hi)
  (h1:sIx items.size 0 lo=0) (h2:sIx items.size items.size hi=items.size) (h:Q (.ref t) s):wpAny (model prog w) A (getItem (.ref t) (.ref sl)) Q E s:=by
 obtain⟨os,hos,hcs,hds⟩:=id hs
 have hTs:s.TypeIs (.ref sl) "slice":=⟨os,hos,hcs⟩
 unfold getItem
 try with_reducible refine Jf ?_
 first|refine Qa (Qh ?_)|skip
 refine Qa (wpAny_sequenceKey ht.typeIs (by decide) ?_)
 refine Qa (Ji (name:=Str.ofString "__getitem__") ht.typeIs Jd
  (Jq Jd ht.typeIs entry_tuple_getitem ?_ (args_tuple_getitem _ _)))
 show wpAny _ _ (Builtin.Tuple.tupleItemsOf (.ref t) >>= _) _ _ s
 refine Qa (tupleItemsOf_ ht ?_)
 refine Qa (wpAny_typeOf hTs ?_)
 rw[if_pos (by decide)]
 refine Qa (Vs hs pl pu ?_)
 have hyes:((((sIx items.size 0 lo:Nat):Int) == 0&&(1:Int) == 1&&(sIx items.size items.size hi-sIx items.size 0 lo) == items.size)=true):=by
  rw[h1,h2];simp
 show wpAny _ _ (if(((sIx items.size 0 lo:Nat):Int) == 0&&(1:Int) == 1&&(sIx items.size items.size hi-sIx items.size 0 lo) == items.size)=true then _ else _) _ _ s
 rw[if_pos hyes]
 refine Qa ?_
 unfold Builtin.Tuple.tupleIsExact
 refine Qa (wpAny_typeOf ht.typeIs (Qh ?_))
 rw[if_pos (by rfl)]
 refine Qa (wpAny_rule ?_)
 exact Qh ⟨_,rfl,Qh h⟩
end
end HT
namespace L2
open PySem PySem.Spec PyProof.Rows
section
variable{X:Cx}
def XH:D->D->Option D
 |.int i,.int j=>some (.bl (decide (i<j)))
 |.tup a,.tup b=>(XI a).bind fun is=>(XI b).bind fun js=>some (.bl (HT.lexLt is js))
 |_,_=>none
theorem WF(hu:X.A.units<cLine):UK X (compareOp .Lt) XH:=UK.of (V0.or op_lt (Zzz hu)) fun x y H Q ⟨O,dx,dy,d,th,rx,ry,e,q⟩=>by
 unfold XH at e
 split at e
 ·cases e
  exact .inl ⟨_,_,rx,ry,q _ H (Zg.refl _) rfl⟩
 ·obtain⟨is,e1,e⟩:=bind_some e
  obtain⟨js,e2,e⟩:=bind_some e
  cases e
  cases Xg e1
  cases Xg e2
  obtain⟨p,vs,rfl,hp,rp⟩:=rx
  obtain⟨p2,us,rfl,hp2,rp2⟩:=ry
  cases rp.ints
  cases rp2.ints
  exact .inr ⟨p,p2,is,js,rfl,rfl,Wx.of (Zf _ _ hp),Wx.of (Zf _ _ hp2),q _ H (Zg.refl _) rfl⟩
 ·cases e
abbrev FP:=Ww->Option (Option Int)
def pN:FP:=fun _=>some none
def pS(f:FE):FP:=fun ρ=>(f ρ).bind fun d=>match d with|.int i=>some (some i)|_=>none
def tP(K:PySem.W.Frag)(p:FP):TO:=fun σ H Q=>∃O ρ o,RV K O H ρ σ/\p ρ=some o/\∀H',Zg H H'->Q o H'
def PD(X:Cx)(e:Option Expr)(p:FP):Prop:=PO X e (tP X.K p)
theorem PO.imp{e:Option Expr}{t t':TO}(h:PO X e t)(k:∀σ H Q,t' σ H Q->t σ H Q):PO X e t':=fun pins s σ H Q I hw=>h pins s σ H Q I (k σ H Q hw)
theorem W8:PD X none pN:=PO.imp Zvp fun σ H Q ⟨O,ρ,o,rv,e,q⟩=>by
 cases e
 exact q H (Zg.refl _)
theorem W7{e:Expr}{f:FE}(h:EV X e f):PD X (some e) (pS f):=PO.imp (Zvo h) fun σ H Q ⟨O,ρ,o,rv,e,q⟩=>by
 obtain⟨d,e1,e⟩:=bind_some e
 refine⟨O,ρ,d,rv,e1,fun v H1 s1 r1=>?_⟩
 cases d with
 |int i=>cases e;exact⟨i,r1,q H1 s1⟩
 |_=>cases e
def Zcu(ds:List D)(lo hi:Option Int):List D:=(ds.drop (HT.sIx ds.length 0 lo)).take (HT.sIx ds.length ds.length hi-HT.sIx ds.length 0 lo)
def Zxc:D->Option Int->Option Int->Option D
 |.lst ds,lo,hi=>some (.lst (Zcu ds lo hi))
 |.tup ds,lo,hi=>some (.tup (Zcu ds lo hi))
 |_,_,_=>none
def Zct(f:FE)(lo hi:FP):FE:=fun ρ=>(f ρ).bind fun d=>(lo ρ).bind fun l=>(hi ρ).bind fun u=>Zxc d l u
theorem Zkt{K:PySem.W.Frag}{H:Hp}{ds:List D}{vs:List V}(r:Zr K H ds vs)(lo hi:Option Int):Zr K H (Zcu ds lo hi) (Zkv vs lo hi):=by
 unfold Zcu Zkv
 rw[r.length]
 exact(r.drop _).take _
def rSlW(K:PySem.W.Frag):V->Option Int->Option Int->Hp->VK->Prop:=fun x lo hi H Q=>∃a xs,x=.ref a/\Wx K H a xs/\(HT.sIx xs.length 0 lo=0/\HT.sIx xs.length xs.length hi=xs.length)/\Q (.ref a) H
theorem Zrf:Zyc X (rSlW X.K):=by
 intro pins s σ H x v vl vu lo hi sl Q I rx hs pl pu h
 obtain⟨a,xs,rfl,hx,hw,q⟩:=h
 cases rx
 obtain⟨its,r,ht,hz⟩:=I.tuple hx
 have hlen:its.toArray.size=xs.length:=by rw[Ql];exact r.length.symm
 refine⟨"tuple",_,Jd.lookup,ht.typeIs,?_⟩
 exact HT.getItem_tuple_whole ht hs pl pu (by rw[hlen];exact hw.1) (by rw[hlen];exact hw.2) ⟨.ref a,H,I,rfl,q⟩
theorem Wq{e:Expr}{lo hi:Option Expr}{f:FE}{pl ph:FP}{pos p2:Pos}(he:EV X e f)(hl:PD X lo pl)(hu:PD X hi ph):EV X (.Subscript e (.Slice lo hi none p2) pos) (Zct f pl ph) :=
 PE.imp (Zrv (Zu4.or (Zy3.or Zrf)) he hl hu) fun σ H Q ⟨O,ρ,d,rv,e,q⟩=>by
  obtain⟨x,e1,e⟩:=bind_some e
  obtain⟨l,e2,e⟩:=bind_some e
  obtain⟨u,e3,e⟩:=bind_some e
  refine⟨O,ρ,x,rv,e1,fun v H1 s1 r1=>⟨O,ρ,l,rv.mono s1,e2,fun H2 s2=>⟨O,ρ,u,rv.mono (Zg.trans s1 s2),e3,fun H3 s3=>?_⟩⟩⟩
  have r3:=Y8.mono (ZH (O:=O) (Zg.trans s2 s3)) x v r1
  have th3:=rv.th.mono (Zg.trans s1 (Zg.trans s2 s3))
  have q3:=fun w H4 s4=>q w H4 (Zg.trans (Zg.trans s1 (Zg.trans s2 s3)) s4)
  cases x with
  |lst ds =>
   cases e
   obtain⟨a,vs,rfl,ha,rs⟩:=r3
   exact .inl ⟨a,vs,rfl,XX.of (Zf _ _ ha),fun p hp=>q3 _ _ (Zg.new hp) (YD th3 hp (Zkt rs l u))⟩
  |tup ds =>
   cases e
   obtain⟨a,vs,rfl,ha,rs⟩:=r3
   have hl:=rs.length
   by_cases hw:HT.sIx vs.length 0 l=0/\HT.sIx vs.length vs.length u=vs.length
   ·have ec:Zcu ds l u=ds:=by
     unfold Zcu
     rw[<- hl,hw.1,hw.2]
     simp[hl]
    rw[ec]at q3
    exact .inr (.inr ⟨a,vs,rfl,Wx.of (Zf _ _ ha),hw,q3 _ H3 (Zg.refl _) ⟨a,vs,rfl,ha,rs⟩⟩)
   ·exact .inr (.inl ⟨a,vs,rfl,Wx.of (Zf _ _ ha),hw,fun p hp=>q3 _ _ (Zg.new hp) (Xf th3 hp (Zkt rs l u))⟩)
  |_=>cases e
theorem Yh(i:Nat){x:Str}{pos:Pos}(hN:X.N.Nodup)(hi:X.N[i]?=some x:=by rfl)(hx:Zp9 X.env.scope x:=by first|exact Or.inl rfl|exact Or.inr rfl)
  (hf:X.fn x=true\/X.env.scope.names.lookup x=some .local:=by first|exact .inl rfl|exact .inr rfl):PG X (.Name x pos) (Zgk i):=Znl hN hi hx hf
def W2(f:FE):FS:=fun ρ=>match f (Ye ρ) with|some _=>.nx ρ|none=>.bad
theorem WD{e:Expr}{f:FE}{pos:Pos}(h:EV X e f)(hs:swapsWith e none pos.line X.env=pure false:=by rfl):SV X (.Expr e pos) (W2 f):=PS.imp (Zc1 h hs) fun E σ H ⟨B,O0,O1,ρ,r,q⟩=>by
 unfold W2 at q
 cases e:f (Ye ρ) with
 |none=>rw[e]at q;exact q.elim
 |some d =>
  rw[e]at q
  exact⟨O0,Ye ρ,d,r.all,e,fun v H' s rep=>q σ H' O1 (r.mono s)⟩
theorem Uq{i:Nat}{x:Str}{e:Expr}{fv:FE}{p1 p2 p3:Pos}(he:EV X e fv)(hN:X.N[i]?=some x:=by rfl)(hv:Zul X.env.scope x:=by first|exact Or.inl rfl|exact Or.inr (Or.inl rfl)|exact Or.inr (Or.inr rfl))
  (hd:(x == ("__debug__":Str))=false:=by decide) (hcd:(x == ("__classdict__":Str))=false:=by decide)
  (hbase:attributeBase (.Name x p1) "append" X.env (eval (.Name x p1) X.env)=eval (.Name x p1) X.env:=by rfl)
  (hfew:((backTo p3 (starEach [e] X.env)).all (fun x=>!x.1)&&(backToKw p3 (keywordEach [] X.env)).all (fun x=>x.1.isSome)
   && decide (([e]:List Expr).length+([]:List Keyword).length+(if([]:List Keyword).isEmpty then 0 else 1)<30))=true:=by rfl)
  (hline:(p2.endLine == p3.line)=true:=by rfl) (hs:starEach [e] X.env=(false,eval e X.env)::starEach [] X.env:=by rfl) (hplain:(backTo p3 (starEach [] X.env)).any (·.1)=false:=by rfl) :
  PE X (.Call (.Attribute (.Name x p1) "append" p2) [e] [] p3) (tBM X.K "list" Zcz (Zg7 i) (Zfy (tD X.K fv) Zom)) :=
 Zxj PySem.F.plainAttrs_list PySem.F.slot_list_append PySem.F.type_list_append Zo9 (VH hN hv hd hcd) (XZ he VJ hs) hbase hfew hline hs hplain
structure BT(mg:Str->Option Value):Prop where
 len_:mg "len"=none
 range_:mg "range"=none
 sum_:mg "sum"=none
 all_:mg "all"=none
 any_:mg "any"=none
 min_:mg "min"=none
 max_:mg "max"=none
 sorted_:mg "sorted"=none
 zip_:mg "zip"=none
 enumerate_:mg "enumerate"=none
 isinstance:mg "isinstance"=none
 tuple_:mg "tuple"=none
 list_:mg "list"=none
 int_:mg "int"=none
 bool_:mg "bool"=none
 set_:mg "set"=none
structure YO(P:Program)(w:World)(K:PySem.W.Frag)(mg:Str->Option Value)(base:Heap)(x:Str)(k:Nat)(ps:List Str)(G:List D->Option D)(f:Addr)(fd:FuncData):Prop where
 ok:Vm P w K mg base Zm1 k f fd ps (spD K G)
 mg:mg x=some (.ref f)
 kp:PySem.W.keepIn K (.ref f)=true
 bi:Zbd K fd ps []
end
section
variable{X:Cx}{pins:List (Addr×Obj)}{σ:St}{H:Hp}{s:Shared}
theorem ZA.turnedAll{fp:List Addr}{h':Heap}{t':Nat}(I:ZA X pins σ H s)(hf:∀b∈fp,Zba X pins H b)(k:∀b o,b∉fp->s.heap.get? b=some o->h'.get? b=some o):ZA X pins σ H { s with heap:=h',toks:=t' }:=by
 have nfp:∀b w,H b=some w->b∉fp:=fun b w e m=>by rw[(hf b m).1]at e;cases e
 refine I.step (g':=s.gens) (d':=s.drawn) (ch:=fp) (fun b hb=>?_) (fun b o _ _ hc e _=>k b o hc e) (fun b o _ _ hc e _=>⟨o.slots,k b o hc e⟩) (fun _ _ _ _ n=>n)
  (fun b o hc e=>⟨o,k b o hc e⟩) (fun _ _ e=>e) (fun _ _ _ e=>e) (fun b ps e=>⟨#[],by rw[e];simp⟩) (fun m hm=>?_) (fun b w e=>?_) I.bare
 ·obtain⟨f0,f1,f2,f3,f4,f5⟩:=hf b hb
  exact⟨f3,f1,f4,f5⟩
 ·obtain⟨o,es,ep,ho,r⟩:=hm
  exact⟨o,es,ep,k _ o (fun z=>(hf _ z).2.1 rfl) ho,r⟩
 ·refine(I.hok b w e).stay (fun c v hc q=>k c v ?_ q) (fun _ q=>q) fun _ _ q=>q
  rcases hc with rfl|hc
  ·exact nfp c w e
  ·exact nfp c _ hc
theorem ZA.turnNew{fp:List Addr}{h':Heap}{t':Nat}{vs:List V}{us:List Value}(I:ZA X pins σ H s)(hf:∀b∈fp,Zba X pins H b)(k:∀b o,b∉fp->s.heap.get? b=some o->h'.get? b=some o)
  (hl:vs.length<=sizeLine) (rv:ZM vs us) (ht:IsTup h' s.heap.objs.size us.toArray):ZA X pins σ (YZ H s.heap.objs.size (.tup vs)) { s with heap:=h',toks:=t' }:=by
 have nT:H s.heap.objs.size=none:=I.hok.fresh (Qj _)
 have nfp:∀b u,H b=some u->b∉fp:=fun b u e m=>by rw[(hf b m).1]at e;cases e
 have old:∀{b o},s.heap.get? b=some o->b≠s.heap.objs.size:=fun e=>Qy (Qr e)
 refine I.step (g':=s.gens) (d':=s.drawn) (ch:=fp) (fun b hb=>?_) (fun b o _ _ hc e _=>k b o hc e) (fun b o _ _ hc e _=>⟨o.slots,k b o hc e⟩) (fun b o _ e n=>by rw[ZE (old e)];exact n)
  (fun b o hc e=>⟨o,k b o hc e⟩) (fun b xs e=>by rw[ZE (ZW e nT)];exact e) (fun b o u e=>by rw[ZE (ZW e nT)];exact e) (fun b ps e=>⟨#[],by rw[ZE (ZW e nT),e];simp⟩) (fun m hm=>?_) (fun b u e=>?_) I.bare
 ·obtain⟨f0,f1,f2,f3,f4,f5⟩:=hf b hb
  exact⟨f3,f1,f4,f5⟩
 ·obtain⟨o,es,ep,ho,r⟩:=hm
  exact⟨o,es,ep,k _ o (fun z=>(hf _ z).2.1 rfl) ho,r⟩
 ·by_cases hb:b=s.heap.objs.size
  ·subst hb
   rw[ZS]at e
   cases e
   exact⟨hl,us,rv,ht⟩
  ·rw[ZE hb]at e
   refine(I.hok b u e).stay (fun c v hc q=>k c v ?_ q) (fun c q=>by rw[ZE (ZW q nT)];exact q) fun c xs q=>by rw[ZE (ZW q nT)];exact q
   rcases hc with rfl|hc
   ·exact nfp c u e
   ·exact nfp c _ hc
end
def Ze5(b:Bool)(K:PySem.W.Frag)(H:Hp)(a:Addr)(xs:List V):Prop:=if b=true then XX K H a xs else Wx K H a xs
def Itz(b1 b2:Bool)(K:PySem.W.Frag)(a1 a2:Addr):It :=
 ⟨fun i H=>∃xs ys x y,Ze5 b1 K H a1 xs/\Ze5 b2 K H a2 ys/\xs[i]?=some x/\ys[i]?=some y,
  fun i H z H'=>∃T x y,z=.ref T/\H T=none/\(∀xs,Ze5 b1 K H a1 xs->xs[i]?=some x)/\(∀ys,Ze5 b2 K H a2 ys->ys[i]?=some y)/\H'=YZ H T (.tup [x,y]),
  fun i H=>∃xs ys,Ze5 b1 K H a1 xs/\Ze5 b2 K H a2 ys/\(xs.length<=i\/ys.length<=i)⟩
section
variable{X:Cx}{pins:List (Addr×Obj)}{σ:St}{H:Hp}{s:Shared}
theorem ZA.sqx{b:Bool}{a:Addr}{xs:List V}(I:ZA X pins σ H s)(h:Ze5 b X.K H a xs):∃its:List Value,ZM xs its/\ZP.Sq2 b s.heap a its.toArray/\xs.length<=sizeLine:=by
 cases b
 ·obtain⟨its,r,t,z⟩:=I.tuple h;exact⟨its,r,t,z⟩
 ·obtain⟨its,r,t,z⟩:=I.list h;exact⟨its,r,t.isList,z⟩
theorem ZA.sqx_inj{b:Bool}{a:Addr}{xs ys:List V}(I:ZA X pins σ H s)(h:Ze5 b X.K H a xs)(h':Ze5 b X.K H a ys):xs=ys:=by
 cases b
 ·exact I.tuple_inj h h'
 ·exact I.list_inj h h'
end
def zipTn(b1 b2:Bool)(c u v p1 p2 a1 a2:Addr)(i:Nat)(h:Heap):Prop:=IsZip h c u v .none/\IsPair h u (.ref p1) (.ref p2)/\(∃x y,IsPair h v x y)/\ZP.It2 b1 h p1 a1 i/\ZP.It2 b2 h p2 a2 i
theorem Zqj{P:Program}{w:World}{K:PySem.W.Frag}{elts:List Expr}{kk:Nat}{pos:Pos}{b1 b2:Bool}{c u v p1 p2 a1 a2:Addr}(D:ZP.Apart c u v p1 p2 a1 a2) :
  Zmw P w K (.Tuple elts kk pos) (Itz b1 b2 K a1 a2) [c,u,v,p1,p2] c (zipTn b1 b2 c u v p1 p2 a1 a2) where
 mem:=by simp
 obj:=fun i h ⟨hz,hu,⟨x,y,hv⟩,g1,g2⟩ b hb=>by
  simp only[Qm,Q6,or_false]at hb
  rcases hb with rfl|rfl|rfl|rfl|rfl
  ·exact⟨_,hz,fun v z=>by cases z⟩
  ·exact⟨_,hu,fun v z=>by cases z⟩
  ·exact⟨_,hv,fun v z=>by cases z⟩
  ·exact g1.ob
  ·exact g2.ob
 keep:=fun i h h' ⟨hz,hu,⟨x,y,hv⟩,g1,g2⟩ k=>⟨k _ (by simp) _ hz,k _ (by simp) _ hu,⟨x,y,k _ (by simp) _ hv⟩,g1.at_ fun o e=>k _ (by simp) o e,g2.at_ fun o e=>k _ (by simp) o e⟩
 item:=by
  intro X hP hw hK hc i pins s σ H E I hf st hg
  subst hP hw hK
  obtain⟨hz,hu,⟨x0,y0,hv⟩,g1,g2⟩:=st
  obtain⟨xs,ys,x,y,q1,q2,e1,e2⟩:=hg
  obtain⟨is,r1,d1,z1⟩:=I.sqx q1
  obtain⟨js,r2,d2,z2⟩:=I.sqx q2
  obtain⟨xu,h1,rx⟩:=r1.get e1
  obtain⟨yu,h2,ry⟩:=r2.get e2
  refine ZP.zstep D hz hu hv g1 g2 d1 d2 (x:=xu) (y:=yu) (by simpa using h1) (by simpa using h2) fun h' k1 k2 k3 k4 k5 k6 k7=>?_
  refine⟨_,rfl,wpAny_letOwnedTupleGo_zip k1 fun h'' m1 m2=>?_⟩
  have below:∀{b o},s.heap.get? b=some o->b≠s.heap.objs.size:=fun e=>Qy (Qr e)
  have kp:∀b o,b∉[c,u,v,p1,p2]->s.heap.get? b=some o->h''.get? b=some o:=fun b o hb e=>by
   simp only[Qm,Q6,or_false,not_or]at hb
   exact m2.extBut _ _ hb.1 (k7 b o hb.1 hb.2.2.1 hb.2.2.2.1 hb.2.2.2.2 e)
  have ht:IsTup h'' s.heap.objs.size [xu,yu].toArray:=⟨_,m2.extBut _ _ (fun z=>below hz z.symm) k5,rfl,0,rfl⟩
  refine⟨.ref s.heap.objs.size,_,I.turnNew (t':=s.toks) (vs:=[x,y]) hf kp (by rw[show sizeLine=16777216 from Q3];show 2<=16777216;decide) (.cons rx (.cons ry .nil)) ht,rfl,?_,?_,?_⟩
  ·exact⟨_,x,y,rfl,I.hok.fresh (Qj _),fun zs hz'=>by rw[I.sqx_inj hz' q1];exact e1,fun zs hz'=>by rw[I.sqx_inj hz' q2];exact e2,rfl⟩
  ·exact⟨m1,m2.extBut _ _ D.uc (k7 _ _ D.uc D.uv D.up1 D.up2 hu),⟨_,_,m2.extBut _ _ D.vc k2⟩,k3.ext m2.extBut D.p1c,k4.ext m2.extBut D.p2c⟩
  ·intro b hb
   rw[ZE]
   ·exact(hf b hb).1
   ·simp only[Qm,Q6,or_false]at hb
    obtain⟨o1,w1,_⟩:=g1.ob
    obtain⟨o2,w2,_⟩:=g2.ob
    rcases hb with rfl|rfl|rfl|rfl|rfl
    ·exact below hz
    ·exact below hu
    ·exact below hv
    ·exact below w1
    ·exact below w2
 done:=by
  intro X hP hw hK hc i pins s σ H E I hf st hg
  subst hP hw hK
  obtain⟨hz,hu,⟨x0,y0,hv⟩,g1,g2⟩:=st
  obtain⟨xs,ys,q1,q2,hend⟩:=hg
  obtain⟨is,r1,d1,z1⟩:=I.sqx q1
  obtain⟨js,r2,d2,z2⟩:=I.sqx q2
  have l1:=r1.length
  have l2:=r2.length
  refine ZP.zstop (I.ok.hd hc) D hz hu hv g1 g2 d1 d2 (by
   rcases hend with z|z
   ·left;simp;omega
   ·right;simp;omega) fun h' k=>⟨rfl,I.turnedAll (t':=s.toks) hf fun b o hb e=>?_⟩
  simp only[Qm,Q6,or_false,not_or]at hb
  exact k b o hb.1 hb.2.2.1 hb.2.2.2.1 hb.2.2.2.2 e
 self:=fun _ _ _ _ _ st h=>wpAny_pyIter_zip st.1 h
abbrev zh1(h:Heap)(b1:Bool)(a1:Addr):Heap:=h.push (ZP.itObj b1 a1)
abbrev zh2(h:Heap)(b1 b2:Bool)(a1 a2:Addr):Heap:=(zh1 h b1 a1).push (ZP.itObj b2 a2)
abbrev zh3(h:Heap)(b1 b2:Bool)(a1 a2:Addr):Heap:=(zh2 h b1 b2 a1 a2).push { cls:=.type "tuple",data:=.seq #[.ref h.objs.size,.ref (zh1 h b1 a1).objs.size] }
abbrev zh4(h:Heap)(b1 b2:Bool)(a1 a2:Addr):Heap:=(zh3 h b1 b2 a1 a2).push { cls:=.type "tuple",data:=.seq #[.none,.none] }
abbrev Zw9(h:Heap)(b1 b2:Bool)(a1 a2:Addr):Heap:=(zh4 h b1 b2 a1 a2).push { cls:=.type "zip",data:=.fields #[.none,.bool false,.bool false,.ref (zh2 h b1 b2 a1 a2).objs.size,.ref (zh3 h b1 b2 a1 a2).objs.size] }
theorem Zrc{b:Bool}{h:Heap}{q:Addr}{xs:Array Value}{o:Obj}(x:ZP.Sq2 b h q xs):ZP.Sq2 b (h.push o) q xs:=by
 cases b
 ·obtain⟨o',ho,r⟩:=x;exact⟨o',Qf _ ho,r⟩
 ·obtain⟨o',ho,r⟩:=x;exact⟨o',Qf _ ho,r⟩
theorem Zpa(b1 b2:Bool)(a1 a2:Addr)(xs ys:Array Value) :
  Meets (Builtin.«zip.__new__» ⟨[.type "zip",.ref a1,.ref a2],[]⟩) (fun _ R s=>ZP.Sq2 b1 s.heap a1 xs/\ZP.Sq2 b2 s.heap a2 ys /\
   R (.ok (.ret (.ref (zh4 s.heap b1 b2 a1 a2).objs.size))) { s with heap:=Zw9 s.heap b1 b2 a1 a2 }) :=
 .of_wp fun prog w A R s h=>by
  obtain⟨hp,g,d,tk,os⟩:=s
  obtain⟨k1,k2,h⟩:=h
  have hsub:=sub_zip
  have j1:ZP.Sq2 b1 (Shared.heap ⟨hp,g,d,tk,os⟩) a1 xs:=k1
  have j2:ZP.Sq2 b2 (Shared.heap ⟨hp.push (ZP.itObj b1 a1),g,d,tk,os⟩) a2 ys:=Zrc k2
  wp_walk using ZP.iter2 b1 j1,ZP.iter2 b2 j2
  exact⟨_,rfl,h⟩
section
variable{X:Cx}{tg:Expr}
def iZip(K:PySem.W.Frag)(t:TA):TI:=fun σ H R=>t σ H fun vs H1=>∃a1 a2 b1 b2 xs ys,vs=[.ref a1,.ref a2]/\Ze5 b1 K H1 a1 xs/\Ze5 b2 K H1 a2 ys/\R (Itz b1 b2 K a1 a2) H1
theorem Zzj{elts:List Expr}{kk:Nat}{pos pp p:Pos}{a b:Expr}{t:TA}(hm:X.mg "zip"=none)(ha:PA X [a,b] t)(hg:Gl X "zip":=by rfl)
  (hs:starEach [a,b] X.env=[(false,eval a X.env),(false,eval b X.env)]:=by rfl) (hs2:starEach [b] X.env=[(false,eval b X.env)]:=by rfl) :
  PI X (.Tuple elts kk pos) (.Call (.Name "zip" p) [a,b] [] pp) (iZip X.K t):=by
 intro pins s σ H R I h
 refine Call_ (U1 I hg hm (show bootBuiltins "zip"=some (.type "zip") by decide+kernel) (Jy (Xd (ha pp pins s σ H _ I h) fun us s1 ⟨vs,H1,I1,r1,q1⟩=>?_) (by rw[hs,hs2]) (by rw[hs2];rfl)))
 obtain⟨a1,a2,b1,b2,xs,ys,rfl,q1,q2,q⟩:=q1
 cases r1 with
 |cons ra rr =>
  cases rr with
  |cons rb rr =>
   cases rr
   cases ra
   cases rb
   obtain⟨is,v1,d1,_⟩:=I1.sqx q1
   obtain⟨js,v2,d2,_⟩:=I1.sqx q2
   refine callType_new F.called_zip (by decide) (F.typeCall_zip_2 _ _) (F.newCall_zip_2 _ _) (fun obj=>F.args_object_init_3 obj _ _) F.entry_zip_new (Zpa b1 b2 a1 a2 is.toArray js.toArray) ⟨d1,d2,?_⟩
   have z1:(zh1 s1.heap b1 a1).objs.size=s1.heap.objs.size+1:=Jl ..
   have z2:(zh2 s1.heap b1 b2 a1 a2).objs.size=s1.heap.objs.size+2:=by rw[Jl,z1]
   have z3:(zh3 s1.heap b1 b2 a1 a2).objs.size=s1.heap.objs.size+3:=by rw[Jl,z2]
   have z4:(zh4 s1.heap b1 b2 a1 a2).objs.size=s1.heap.objs.size+4:=by rw[Jl,z3]
   have n5:(Zw9 s1.heap b1 b2 a1 a2).get? (zh4 s1.heap b1 b2 a1 a2).objs.size=some _:=Qv _ rfl
   have n4:(Zw9 s1.heap b1 b2 a1 a2).get? (zh3 s1.heap b1 b2 a1 a2).objs.size=some _:=Qf _ (Qv _ rfl)
   have n3:(Zw9 s1.heap b1 b2 a1 a2).get? (zh2 s1.heap b1 b2 a1 a2).objs.size=some _:=Qf _ (Qf _ (Qv _ rfl))
   have n2:(Zw9 s1.heap b1 b2 a1 a2).get? (zh1 s1.heap b1 a1).objs.size=some _:=Qf _ (Qf _ (Qf _ (Qv _ rfl)))
   have n1:(Zw9 s1.heap b1 b2 a1 a2).get? s1.heap.objs.size=some _:=Qf _ (Qf _ (Qf _ (Qf _ (Qv _ rfl))))
   have kp:∀m o,s1.heap.get? m=some o->(Zw9 s1.heap b1 b2 a1 a2).get? m=some o:=fun m o e=>Qf _ (Qf _ (Qf _ (Qf _ (Qf _ e))))
   have l1:a1<s1.heap.objs.size:=by cases b1<;>(obtain⟨_,e,_⟩:=d1;exact Qr e)
   have l2:a2<s1.heap.objs.size:=by cases b2<;>(obtain⟨_,e,_⟩:=d2;exact Qr e)
   rw[z2,z3,z4]at n5
   rw[z1,z2]at n3
   rw[z3]at n4
   rw[z1]at n2
   show _/\_
   rw[z4]
   refine⟨⟨_,n5,rfl⟩,wpAny_pyIter_zip n5 ?_⟩
   have I2:ZA X pins σ H1 { s1 with heap:=Zw9 s1.heap b1 b2 a1 a2 }:=I1.kept (t':=s1.toks) kp
   have fr:∀d,s1.heap.objs.size<=d->Zba X pins H1 d:=fun d hd=>I1.fpOk hd (I1.hok.fresh hd)
   have D:ZP.Apart (s1.heap.objs.size+4) (s1.heap.objs.size+2) (s1.heap.objs.size+3) s1.heap.objs.size (s1.heap.objs.size+1) a1 a2:=by
    constructor<;>first
     |exact Qy l1
     |exact Qy l2
     |exact Qy (QJ l1 (Nat.le_add_right _ _))
     |exact Qy (QJ l2 (Nat.le_add_right _ _))
     |exact Qy (Nat.add_lt_add_left (by decide) _)
     |exact Nat.ne_of_gt (Nat.add_lt_add_left (by decide) _)
     |exact Nat.ne_of_gt (Nat.lt_add_of_pos_right (by decide))
     |exact Qy (Nat.lt_add_of_pos_right (by decide))
   refine⟨s1.heap.objs.size+4,[s1.heap.objs.size+4,s1.heap.objs.size+2,s1.heap.objs.size+3,s1.heap.objs.size,s1.heap.objs.size+1],_,_,H1,rfl,I2,Zqj (b1:=b1) (b2:=b2) D,⟨n5,n3,⟨_,_,n4⟩,?_,?_⟩,fun d hd=>?_,q⟩
   ·cases b1<;>exact⟨_,n1,rfl,rfl⟩
   ·cases b2<;>exact⟨_,n2,rfl,rfl⟩
   ·refine⟨(fr d ?_).1,(fr d ?_).2⟩<;>(simp only[Qm,Q6,or_false]at hd;rcases hd with rfl|rfl|rfl|rfl|rfl<;>first|exact Qj _|exact Nat.le_add_right _ _)
def Vp:List D->List D->List D
 |x::xs,y::ys=>.tup [x,y]::Vp xs ys
 |_,_=>[]
theorem Zfq:∀{xs ys:List D} {i:Nat} {d:D},(Vp xs ys)[i]?=some d->∃x y,xs[i]?=some x/\ys[i]?=some y/\d=.tup [x,y]
 |x::xs,y::ys,0,d,h=>⟨x,y,rfl,rfl,by simpa [Vp] using h.symm⟩
 |x::xs,y::ys,i+1,d,h=>by
  obtain⟨p,q,h1,h2,h3⟩:=Zfq (xs:=xs) (ys:=ys) (i:=i) (d:=d) (by simpa [Vp] using h)
  exact⟨p,q,by simpa using h1,by simpa using h2,h3⟩
 |[],_,_,_,h=>by simp[Vp]at h
 |_::_,[],_,_,h=>by simp[Vp]at h
theorem Zfp:∀(xs ys:List D),(Vp xs ys).length=min xs.length ys.length
 |x::xs,y::ys=>by simp only[Vp,Qk,Zfp xs ys];omega
 |[],_=>by simp[Vp]
 |_::_,[]=>by simp[Vp]
def Zml(a b:FE):FA:=fun ρ=>(a ρ).bind fun x=>(b ρ).bind fun y=>(We x).bind fun xs=>(We y).bind fun ys=>some (Vp xs ys)
theorem Zeg{K:PySem.W.Frag}{H:Hp}{d:D}{v:V}{ds:List D}(e:We d=some ds)(r:Y8 K H d v):∃a b vs,v=.ref a/\Ze5 b K H a vs/\Zr K H ds vs:=by
 cases d with
 |lst es=>cases e;obtain⟨a,vs,rfl,h,r⟩:=r;exact⟨a,true,vs,rfl,XX.of h,r⟩
 |tup es=>cases e;obtain⟨a,vs,rfl,h,r⟩:=r;exact⟨a,false,vs,rfl,Wx.of h,r⟩
 |scr ns=>cases e;obtain⟨a,rfl,h⟩:=r;exact⟨a,true,_,rfl,h,WL ns⟩
 |_=>cases e
theorem Ze5.mono{b:Bool}{K:PySem.W.Frag}{H H':Hp}{a:Addr}{vs:List V}(s:Zg H H')(h:Ze5 b K H a vs):Ze5 b K H' a vs:=by
 cases b
 ·exact Zg.seqT s h
 ·exact Zg.seq s h
theorem Zs2{elts:List Expr}{kk:Nat}{pos pp p:Pos}{a b:Expr}{fa fb:FE}(hm:X.mg "zip"=none)(ha:EV X a fa)(hb:EV X b fb)(hg:Gl X "zip":=by rfl)
  (hs:starEach [a,b] X.env=[(false,eval a X.env),(false,eval b X.env)]:=by rfl) (hs2:starEach [b] X.env=[(false,eval b X.env)]:=by rfl) :
  IV X (.Tuple elts kk pos) (.Call (.Name "zip" p) [a,b] [] pp) (Zml fa fb):=PI.imp (Zzj hm (XZ ha (XZ hb VJ (by rw[hs2];rfl)) (by rw[hs,hs2])) hg hs hs2) fun σ H R ⟨O,ρ,ds,rv,e,q⟩=>by
 obtain⟨x,e1,e⟩:=bind_some e
 obtain⟨y,e2,e⟩:=bind_some e
 obtain⟨xs,e3,e⟩:=bind_some e
 obtain⟨ys,e4,e⟩:=bind_some e
 cases e
 refine⟨O,ρ,x,rv,e1,fun v H1 s1 r1=>⟨O,ρ,y,rv.mono s1,e2,fun w H2 s2 r2=>?_⟩⟩
 obtain⟨a1,b1,vs,rfl,k1,t1⟩:=Zeg e3 (Y8.mono (ZH s2) x v r1)
 obtain⟨a2,b2,us,rfl,k2,t2⟩:=Zeg e4 r2
 refine⟨a1,a2,b1,b2,vs,us,rfl,Ze5.mono Zf k1,Ze5.mono Zf k2,q _ H2 (Zg.trans s1 s2) ?_⟩
 intro H3 O' s3 th i
 have j1:Ze5 b1 X.K H3 a1 vs:=Ze5.mono Zf (Ze5.mono s3 k1)
 have j2:Ze5 b2 X.K H3 a2 us:=Ze5.mono Zf (Ze5.mono s3 k2)
 refine⟨fun d hd=>?_,fun hl=>⟨vs,us,j1,j2,?_⟩⟩
 ·obtain⟨p,q,h1,h2,rfl⟩:=Zfq hd
  obtain⟨vp,g1,g2⟩:=t1.get h1
  obtain⟨vq,g3,g4⟩:=t2.get h2
  refine⟨⟨vs,us,vp,vq,j1,j2,g1,g3⟩,fun z H4 ⟨T,x',y',ez,hT,f1,f2,eh⟩=>?_⟩
  subst ez eh
  have w1:=f1 vs j1
  have w2:=f2 us j2
  rw[g1]at w1
  rw[g3]at w2
  cases w1
  cases w2
  exact⟨Zg.new hT,Xf th hT ⟨_,_,rfl,Y8.mono s3 p _ g2,_,_,rfl,Y8.mono s3 q _ g4,rfl⟩⟩
 ·rw[Zfp,<- t1.length,<- t2.length]at hl
  omega
end
theorem Zc4{K:PySem.W.Frag}{T:String}(h0:PySem.W.kitOne K (.type "NoneType") (.type T)=some (("NoneType" == T)||(("NoneType" == "bool")&&(T == "int"))))
  (h1:PySem.W.kitOne K (.type "bool") (.type T)=some (("bool" == T)||(("bool" == "bool")&&(T == "int")))) (h2:PySem.W.kitOne K (.type "int") (.type T)=some (("int" == T)||(("int" == "bool")&&(T == "int"))))
  (h3:PySem.W.kitOne K (.type "str") (.type T)=some (("str" == T)||(("str" == "bool")&&(T == "int")))) (h4:PySem.W.kitOne K (.type "tuple") (.type T)=some (("tuple" == T)||(("tuple" == "bool")&&(T == "int"))))
  (h5:PySem.W.kitOne K (.type "list") (.type T)=some (("list" == T)||(("list" == "bool")&&(T == "int")))) (h6:PySem.W.kitOne K (.type "dict") (.type T)=some (("dict" == T)||(("dict" == "bool")&&(T == "int")))):Zk5 K T:=⟨fun S hS=>by
 simp only[Qm,Q6,or_false]at hS
 rcases hS with rfl|rfl|rfl|rfl|rfl|rfl|rfl
 ·exact h0
 ·exact h1
 ·exact h2
 ·exact h3
 ·exact h4
 ·exact h5
 ·exact h6⟩
theorem Zsy{K:PySem.W.Frag}:Zk5 K "int":=Zc4 (by kernel_rfl) (by kernel_rfl) (by kernel_rfl) (by kernel_rfl) (by kernel_rfl) (by kernel_rfl) (by kernel_rfl)
theorem Zpg{K:PySem.W.Frag}:Zk5 K "bool":=Zc4 (by kernel_rfl) (by kernel_rfl) (by kernel_rfl) (by kernel_rfl) (by kernel_rfl) (by kernel_rfl) (by kernel_rfl)
theorem WS{K:PySem.W.Frag}:Zk5 K "tuple":=Zc4 (by kernel_rfl) (by kernel_rfl) (by kernel_rfl) (by kernel_rfl) (by kernel_rfl) (by kernel_rfl) (by kernel_rfl)
theorem Zpf{K:PySem.W.Frag}:Zk5 K "list":=Zc4 (by kernel_rfl) (by kernel_rfl) (by kernel_rfl) (by kernel_rfl) (by kernel_rfl) (by kernel_rfl) (by kernel_rfl)
theorem YR:bootBuiltins ("len":Str)=some (Value.builtin "len"):=by decide+kernel
theorem Zmr:bootBuiltins ("sum":Str)=some (Value.builtin "sum"):=by decide+kernel
theorem Zb1:bootBuiltins ("all":Str)=some (Value.builtin "all"):=by decide+kernel
theorem Z1a:bootBuiltins ("any":Str)=some (Value.builtin "any"):=by decide+kernel
theorem Zio:bootBuiltins ("min":Str)=some (Value.builtin "min"):=by decide+kernel
theorem Zip:bootBuiltins ("max":Str)=some (Value.builtin "max"):=by decide+kernel
theorem WM:bootBuiltins ("sorted":Str)=some (Value.builtin "sorted"):=by decide+kernel
theorem Zms:bootBuiltins ("int":Str)=some (Value.type "int"):=by decide+kernel
theorem Zw3:bootBuiltins ("bool":Str)=some (Value.type "bool"):=by decide+kernel
theorem Zc6:bootBuiltins ("list":Str)=some (Value.type "list"):=by decide+kernel
theorem WT:bootBuiltins ("tuple":Str)=some (Value.type "tuple"):=by decide+kernel
end L2

namespace ZD
open PySem PyProof.Rows
def DictR(h:Heap)(d:Addr)(es:Array DictEntry)(ep:Nat):Prop:=∃o,h.get? d=some o/\o.ExactDict/\o.data=.dict es ep
section
variable{prog:Program}{w:World}{A:Around}{E:Value->Shared->Prop}{s:Shared}{d it:Addr}{es:Array DictEntry}{ep i:Nat}
theorem DictR.ty(x:DictR s.heap d es ep):s.TypeIs (.ref d) "dict":=let⟨o,h1,h2,_⟩:=x;⟨o,h1,h2.1⟩
theorem DictR.ext{h h':Heap}{b:Addr}(x:DictR h d es ep)(e:Heap.ExtBut b h h')(n:d≠b):DictR h' d es ep:=let⟨o,h1,r⟩:=x;⟨o,e _ _ n h1,r⟩
theorem DictR.lt{h:Heap}(x:DictR h d es ep):d<h.objs.size:=let⟨_,h1,_⟩:=x;Qr h1
theorem Zpj{Q:Value->Shared->Prop}(hd:(d == sysModules)=false)(hm:DictR s.heap d es ep)
  (done:Q (.ref s.heap.objs.size) { s with heap:=s.heap.push { cls:=.type "dict_keyiterator",data:=.fields #[.ref d,.int 0 0,.int es.size 0,.int ep 0] } }):wpAny (model prog w) A (pyIter (.ref d)) Q E s:=by
 have ty:=hm.ty
 obtain⟨od,g1,g2,g3⟩:=id hm
 refine wpAny_pyIter_slot ty F.slot_dict_iter (Jq F.slot_dict_iter ty F.entry_dict_iter ?_ (F.args_dict_iter_1 _))
 unfold Builtin.«dict.__iter__»
 refine Qa ?_
 unfold Builtin.Dict.dictSlotNone
 refine Qa (wpAny_notOrdered_dict ty ?_)
 show wpAny _ _ (pure (Value.ref d)) _ _ s
 refine Qh ?_
 show wpAny _ _ (Builtin.Dict.showsAll d >>= fun _=>_) _ _ s
 unfold Builtin.Dict.showsAll
 rw[if_neg (fun z=>by rw[hd]at z;cases z)]
 refine Qa (Qh ?_)
 refine Qa (wpAny_dictEntries g1 g3 ?_)
 refine Qa (wpAny_dictEpoch g1 g3 ?_)
 refine Qa (Jm (Qh ⟨_,rfl,"dict_keyiterator",_,⟨_,Qv _ rfl,rfl⟩,JB.lookup,?_⟩))
 simpa [rawInt] using done
theorem Zpi{Q:Option Value->Shared->Prop}{e:DictEntry}(hi:s.heap.IsKeyIter it d i es.size ep)(hm:DictR s.heap d es ep)(hx:es[i]?=some e)
  (done:∀h',h'.IsKeyIter it d (i+1) es.size ep->Heap.SameBut it s.heap h'->Q (some e.key) { s with heap:=h' }):wpAny (model prog w) A (pyNext (.ref it)) Q E s:=by
 obtain⟨oi,k1,k2,k3⟩:=id hi
 obtain⟨od,g1,g2,g3⟩:=id hm
 unfold pyNext
 refine Qa (wpAny_attempt (Ji (name:=Str.ofString "__next__") hi.typeIs JB (Jq JB hi.typeIs F.entry_dict_keyiterator_next ?_ (F.args_dict_keyiterator_next_1 _))))
 refine Qa (Qh ?_)
 refine Qa ?_
 refine Qa ?_
 first|refine Qa (JZ hi.typeIs (Qh ?_))|refine Qa (wpAny_typeNameOf_keyiter hi.typeIs (Qh ?_))
 refine Qa (wpAny_fieldsOf k1 k3 ?_)
 simp only[show Builtin.Dict_items.ownsTuple "dict_keyiterator"=false by decide,Qo,if_false]
 show wpAny _ _ (if(Value.ref d == Value.none)=true then _ else _) _ _ s
 rw[if_neg (fun z:(Value.ref d == Value.none)=true=>QE z)]
 refine Qa (Qh ?_)
 refine Qa (wpAny_dictEntries g1 g3 ?_)
 rw[if_neg (by simp)]
 refine Qa (Qh ?_)
 refine Qa (wpAny_dictEpoch g1 g3 ?_)
 rw[if_neg (by simp)]
 refine Qh ?_
 simp only[show ¬((i:Int)<0) from by omega,if_false,Qz,hx]
 refine Qa ?_
 first|refine Qa (JZ hi.typeIs (Qh ?_))|refine Qa (wpAny_typeNameOf_keyiter hi.typeIs (Qh ?_))
 refine Qa (wpAny_isOneOf_keyiter hi.typeIs ?_)
 show wpAny _ _ (setField (.ref it) 1 (rawInt ((i:Int)+1)) >>= fun _=>_) _ _ s
 refine Qa (wpAny_setField k1 k3 (by simp) ?_)
 have hi':(s.heap.update it (Obj.mapFields (·.setIfInBounds 1 (rawInt ((i:Int)+1))))).IsKeyIter it d (i+1) es.size ep :=
  ⟨_,Heap.get?_update_self _ k1 (Obj.isFreed_of_fields (Obj.data_mapFields k3 _)),(Obj.cls_mapFields ..).trans k2,by rw[Obj.data_mapFields k3];simp[rawInt]⟩
 refine Qa (Jf ?_)
 refine Qa (wpAny_isOneOf_keyiter (s:={ s with heap:=s.heap.update it (Obj.mapFields (·.setIfInBounds 1 (rawInt ((i:Int)+1)))) }) hi'.typeIs ?_)
 show wpAny _ _ (pure e.key) _ _ _
 exact Qh (Qh ⟨_,rfl,Qh (done _ hi' (JH ..))⟩)
theorem Zph{Q:Option Value->Shared->Prop}(hh:A.handled=none)(hi:s.heap.IsKeyIter it d i es.size ep)(hm:DictR s.heap d es ep)(hx:es.size<=i)
  (done:∀h',Heap.ExtBut it s.heap h'->Q none { s with heap:=h' }):wpAny (model prog w) A (pyNext (.ref it)) Q E s:=by
 obtain⟨oi,k1,k2,k3⟩:=id hi
 obtain⟨od,g1,g2,g3⟩:=id hm
 unfold pyNext
 refine Qa (wpAny_attempt (Ji (name:=Str.ofString "__next__") hi.typeIs JB (Jq JB hi.typeIs F.entry_dict_keyiterator_next ?_ (F.args_dict_keyiterator_next_1 _))))
 refine Qa (Qh ?_)
 refine Qa ?_
 refine Qa ?_
 first|refine Qa (JZ hi.typeIs (Qh ?_))|refine Qa (wpAny_typeNameOf_keyiter hi.typeIs (Qh ?_))
 refine Qa (wpAny_fieldsOf k1 k3 ?_)
 simp only[show Builtin.Dict_items.ownsTuple "dict_keyiterator"=false by decide,Qo,if_false]
 show wpAny _ _ (if(Value.ref d == Value.none)=true then _ else _) _ _ s
 rw[if_neg (fun z:(Value.ref d == Value.none)=true=>QE z)]
 refine Qa (Qh ?_)
 refine Qa (wpAny_dictEntries g1 g3 ?_)
 rw[if_neg (by simp)]
 refine Qa (Qh ?_)
 refine Qa (wpAny_dictEpoch g1 g3 ?_)
 rw[if_neg (by simp)]
 refine Qh ?_
 simp only[show ¬((i:Int)<0) from by omega,if_false,Qz,Array.getElem?_eq_none hx]
 refine Qa ?_
 first|refine Qa (JZ hi.typeIs (Qh ?_))|refine Qa (wpAny_typeNameOf_keyiter hi.typeIs (Qh ?_))
 show wpAny _ _ (setField (.ref it) 0 .none >>= fun _=>_) _ _ s
 refine Qa (wpAny_setField k1 k3 (by simp) ?_)
 show wpAny _ _ (newExc (.type "StopIteration") [] >>= fun _=>_) _ _ _
 refine Qa ?_
 simp only[newExc,newTuple]
 refine Qa (Jm (hd:=by size_fits) ?_)
 refine Qa (m:=firstArgMember _ _) (wpAny_of_eq (a:=Value.none) (by first|rfl|(simp only[firstArgMember]<;>rfl)) ?_)
 refine Jm (hd:=by size_fits) ?_
 simp only[raiseNew]
 refine Qa (wpAny_handled ?_)
 rw[show A.in1.handled=none from hh]
 refine Qa (Qh (wpAny_throw ?_))
 refine Qa (wpAny_isInstance (T:="StopIteration") (b:=true) ⟨_,Qv _ rfl,rfl⟩ isSubtype_stop (Qh (done _ (((JH ..).extBut.push _).push _))))
theorem Zlf(hh:A.handled=none)(I d:Addr)(hne:d≠I):Walks prog w A I [I,d] [I] es.size (fun i v=>∃e,es[i]?=some e/\v=e.key) (fun i h=>h.IsKeyIter I d i es.size ep/\DictR h d es ep) where
 sub:=fun b hb=>by
  have:b=I:=by simpa using hb
  simp[this]
 frame:=fun _ _ _ st hk=>⟨st.1.at fun o e=>hk I (by simp) o e,let⟨o,h1,r⟩:=st.2;⟨o,hk d (by simp) o h1,r⟩⟩
 item:=fun i s Q E hi st hQ=>by
  have hx:es[i]?=some es[i]:=Jw hi
  exact Zpi st.1 st.2 hx fun h' hit' hs'=>hQ _ h' s.toks ⟨_,hx,rfl⟩ ⟨hit',st.2.ext hs'.extBut hne⟩ fun b o hb e=>hs'.extBut b o (fun h=>hb (by simp[h])) e
 done:=fun s Q E st hQ=>Zph hh st.1 st.2 (Qj _) fun h' he'=>hQ h' s.toks fun b o hb e=>he' b o (fun h=>hb (by simp[h])) e
 self:=fun _ _ _ _ st hQ=>wpAny_pyIter_keyiter st.1 hQ
theorem src_raw(lo:(d == sysModules)=false):PySem.W.KdlSrc prog w "dict" d d es.size (fun i v=>∃e,es[i]?=some e/\v=e.key) (fun h=>DictR h d es ep) where
 type:=fun _ hm=>hm.ty
 there:=fun _ hm=>⟨hm.lt,hm.lt⟩
 keep:=fun _ _ hm hk=>let⟨o,h1,r⟩:=hm;⟨o,hk d (.inl rfl) o h1,r⟩
 notList:=by decide
 notTuple:=by decide
 hint:=fun _ _ _ _ hm hq=>PySem.W.kdl_hint_dict hm.ty hq
 iter:=fun _ _ hh hm=>⟨_,_,(fun _ _ hq=>Zpj lo hm hq),Zlf hh _ d (Qy hm.lt),⟨⟨_,Qv _ rfl,rfl,rfl⟩,let⟨o,h1,r⟩:=hm;⟨o,Qf _ h1,r⟩⟩⟩
end
end ZD
namespace L2
open PySem PySem.Spec PyProof.Rows
def kD:Y5->D
 |.inl i=>.int i
 |.inr x=>.str x
section
variable{X:Cx}
theorem Zim(hc:X.calm=true):X7 X (.type "list") (fun xs H Q=>∃a kvs,xs=[.ref a]/\H a=some (.dT kvs)/\∀l bs,H l=none->Paired (fun(k:List Y5) (b:Addr)=>H b=some (.tup (k.map kV))) (kvs.map (·.1)) bs->Q (.ref l) (YZ H l (.lst (bs.map V.ref)))):=by
 intro pins s σ H xs us Q I rs h
 obtain⟨a,kvs,rfl,ha,q⟩:=h
 obtain⟨u,rfl,ru⟩:=WB rs
 cases ru
 obtain⟨hz,hS,ys,hp,o,es,ep,h1,h2,h3,h4,h5⟩:=(show YI X.prog X.w H s.heap a (.dT kvs) from I.hok a _ ha)
 have hlen:kvs.length=ys.length:=Paired.length hp
 have hes:es.size=ys.length:=by rw[<- QU,h4,Qb]
 refine PySem.W.kdl_call (ZD.src_raw (es:=es) (ep:=ep) hS) (I.ok.hd hc) ⟨o,h1,h2,h3⟩ (by omega) fun h' tk acc' c' hk hl hit=>?_
 have hacc:acc'.toList=(ys.map (·.2.1)).map Value.ref:=by
  apply JL
  intro j
  rw[QF,QC]
  by_cases hj:j<ys.length
  ·have e1:ys[j]?=some ys[j]:=Qq hj
   have hja:j<acc'.size:=by rw[hit.1,hes];exact hj
   obtain⟨e,g1,g2⟩:=hit.2 j _ (Jw hja)
   have g3:es.toList[j]?=some e:=by rw[Array.getElem?_toList];exact g1
   rw[h4,QC,e1]at g3
   cases g3
   rw[Array.getElem?_toList,Jw hja,e1,g2]
   rfl
  ·rw[QA (by rw[QU,hit.1,hes];omega),QA (by omega)]
   rfl
 have rv:∀(bs:List Addr),ZM (bs.map V.ref) (bs.map Value.ref):=by
  intro bs
  induction bs with
  |nil=>exact .nil
  |cons b bs ih=>exact .cons rfl ih
 have pk:Paired (fun(k:List Y5) (b:Addr)=>H b=some (.tup (k.map kV))) (kvs.map (·.1)) (ys.map (·.2.1)):=by
  clear hacc hes h4 h5 hlen hz ha q
  induction hp with
  |nil=>exact .nil
  |cons r t ih=>rw[Qe,Qe];exact .cons (by rw[r.1];have:=r.2.1;rw[r.1]at this;exact this) ih
 refine⟨.ref s.heap.objs.size,_,I.laid (o:=.lst ((ys.map (·.2.1)).map V.ref)) hk (Qj _) ⟨?_,acc'.toList,c',by rw[hacc];exact rv _,hl⟩,rfl,q _ _ (I.hok.fresh (Qj _)) pk⟩
 rw[Qb,Qb];omega
end
section
variable{κ:Type} [DecidableEq κ]
def Zk8:List κ->List D->κ->Option D
 |k::ks,d::ds,x=>if k=x then some d else Zk8 ks ds x
 |_,_,_=>none
def Zce(ks:List κ)(x:κ):List κ:=if x∈ks then ks else ks++[x]
def Zcf(ks:List κ)(ds:List D)(x:κ)(v:D):List D:=if x∈ks then(ks.zip ds).map (fun p=>if p.1=x then v else p.2) else ds++[v]
theorem Zhx{K:PySem.W.Frag}{H:Hp}{x:κ}:∀{kvs:List (κ×V)} {ds:List D},Zr K H ds (kvs.map (·.2))->(∀d,Zk8 (kvs.map (·.1)) ds x=some d->∃v,Vh kvs x=some v/\Y8 K H d v)/\(Zk8 (kvs.map (·.1)) ds x=none->Vh kvs x=none)
 |[],ds,r=>⟨fun d h=>by simp[Zk8]at h,fun _=>rfl⟩
 |(k,v)::kvs,[],r=>by have:=r.length;simp at this
 |(k,v)::kvs,d::ds,⟨v',r',e,h,t⟩=>by
  have e':v=v'/\kvs.map (·.2)=r':=by simpa using e
  obtain⟨rfl,rfl⟩:=e'
  have ih:=Zhx (x:=x) t
  by_cases hk:k=x
  ·subst hk
   refine⟨fun d' q=>?_,fun q=>?_⟩
   ·simp only[Qe,Zk8,if_true]at q
    cases q
    exact⟨v,by simp[Vh],h⟩
   ·simp[Zk8]at q
  ·refine⟨fun d' q=>?_,fun q=>?_⟩
   ·simp only[Qe,Zk8,if_neg hk]at q
    obtain⟨w,h1,h2⟩:=ih.1 d' q
    refine⟨w,?_,h2⟩
    simp only[Vh,Ju,hk,decide_false]at h1 ⊢
    exact h1
   ·simp only[Qe,Zk8,if_neg hk]at q
    have:=ih.2 q
    simp only[Vh,Ju,hk,decide_false]at this ⊢
    exact this
theorem Zlg{x:κ}{kvs:List (κ×V)}:(Vh kvs x).isSome=decide (x∈kvs.map (·.1)):=by
 rw[<- Zag]
 rw[Bool.eq_iff_iff]
 simp only[List.any_eq_true,decide_eq_true_eq,Qn]
theorem Zix{K:PySem.W.Frag}{H:Hp}{x:κ}{d:D}{v:V}(hr:Y8 K H d v):∀{kvs:List (κ×V)} {ds:List D},Zr K H ds (kvs.map (·.2)) ->
  Zr K H (((kvs.map (·.1)).zip ds).map (fun p=>if p.1=x then d else p.2)) ((kvs.map (fun kv=>if kv.1=x then(kv.1,v) else kv)).map (·.2))
 |[],ds,r=>by simp[Zr]
 |(k,u)::kvs,[],r=>by have:=r.length;simp at this
 |(k,u)::kvs,e::ds,⟨v',r',q,h,t⟩=>by
  have q':u=v'/\kvs.map (·.2)=r':=by simpa using q
  obtain⟨rfl,rfl⟩:=q'
  have ih:=Zix (x:=x) hr t
  simp only[Qe,Jg]
  refine⟨_,_,rfl,?_,ih⟩
  by_cases hk:k=x
  ·simp only[hk,if_true];exact hr
  ·simp only[hk,if_false];exact h
theorem Zni{K:PySem.W.Frag}{H:Hp}{x:κ}{d:D}{v:V}(hr:Y8 K H d v){kvs:List (κ×V)}{ds:List D}(r:Zr K H ds (kvs.map (·.2))) :
  (VG kvs x v).map (·.1)=Zce (kvs.map (·.1)) x/\Zr K H (Zcf (kvs.map (·.1)) ds x d) ((VG kvs x v).map (·.2)):=by
 unfold VG Zce Zcf
 have hany:(kvs.any fun kv=>decide (kv.1=x))=decide (x∈kvs.map (·.1)):=by rw[Zag,Zlg]
 rw[hany]
 by_cases hx:x∈kvs.map (·.1)
 ·simp only[hx,decide_true,if_true]
  refine⟨?_,Zix hr r⟩
  rw[QF]
  apply QQ
  intro kv _
  simp only[Function.comp]
  split<;>rfl
 ·simp only[hx,decide_false,Qo,if_false,QM,Qe,QI]
  exact⟨trivial,Zr.append r (Zr.one hr)⟩
end
def Zfh:D->Option Y5
 |.int i=>some (.inl i)
 |.str x=>some (.inr x)
 |_=>none
def Zsz:List D->Option (List Y5)
 |[]=>some []
 |d::ds=>(Zfh d).bind fun k=>(Zsz ds).bind fun r=>some (k::r)
def Zwl:D->Option (List Y5)
 |.tup ds=>Zsz ds
 |_=>none
theorem Zee{K:PySem.W.Frag}{H:Hp}{d:D}{v:V}{k:Y5}(e:Zfh d=some k)(r:Y8 K H d v):v=kV k:=by
 cases d with
 |int i=>cases e;exact r
 |str x=>cases e;exact r
 |_=>cases e
theorem UH{K:PySem.W.Frag}{H:Hp}:∀{ds:List D} {vs:List V} {ks:List Y5},Zsz ds=some ks->Zr K H ds vs->vs=ks.map kV
 |[],_,_,e,r=>by cases e;exact r
 |d::ds,_,ks,e,⟨v,vr,q,h,t⟩=>by
  obtain⟨k,e1,e⟩:=bind_some e
  obtain⟨ks',e2,e⟩:=bind_some e
  cases e
  subst q
  rw[Zee e1 h,UH e2 t];rfl
theorem Z0m{K:PySem.W.Frag}{H:Hp}(k:Y5):Y8 K H (kD k) (kV k):=by cases k<;>rfl
theorem Zkb{K:PySem.W.Frag}{H:Hp}:∀(ks:List Y5),Zr K H (ks.map kD) (ks.map kV)
 |[]=>rfl
 |k::ks=>⟨_,_,rfl,Z0m k,Zkb ks⟩
def Up:D->D->Option (Option D)
 |.dcK ks ds,x=>(Zfh x).bind fun k=>some (Zk8 ks ds k)
 |.dcT ks ds,x=>(Zwl x).bind fun k=>some (Zk8 ks ds k)
 |.dcF ks ds,x=>(Zwl x).bind fun k=>some (Zk8 ks ds k)
 |_,_=>none
theorem Zby{K:PySem.W.Frag}{O:List Addr}{H:Hp}{dd x:D}{o:Option D}{a v:V}(e:Up dd x=some o)(rd:Y8 K (mask O H) dd a)(rx:Y8 K (mask O H) x v) :
  ∃p ov,a=.ref p/\Zaa H p v ov/\IsD H p/\(∀d,o=some d->∃u,ov=some u/\Y8 K (mask O H) d u)/\(o=none->ov=none):=by
 cases dd with
 |dcK ks ds =>
  obtain⟨k,e1,e⟩:=bind_some e
  cases e
  obtain⟨p,kvs,rfl,hp,rfl,rs⟩:=rd
  have hp':=Zf _ _ hp
  cases Zee e1 rx
  obtain⟨h1,h2⟩:=Zhx (x:=k) rs
  refine⟨p,Vh kvs k,rfl,Zaa.k hp',.inl ⟨kvs,.inl hp'⟩,fun d q=>?_,fun q=>h2 q⟩
  obtain⟨u,g1,g2⟩:=h1 d q
  exact⟨u,g1,g2⟩
 |dcT ks ds =>
  obtain⟨k,e1,e⟩:=bind_some e
  cases e
  obtain⟨p,kvs,rfl,hp,rfl,rs⟩:=rd
  have hp':=Zf _ _ hp
  cases x with
  |tup xs =>
   obtain⟨b,vs,rfl,hb,rb⟩:=rx
   cases UH e1 rb
   obtain⟨h1,h2⟩:=Zhx (x:=k) rs
   refine⟨p,Vh kvs k,rfl,Zaa.t hp' (Zf _ _ hb),.inr ⟨kvs,.inl hp'⟩,fun d q=>?_,fun q=>h2 q⟩
   obtain⟨u,g1,g2⟩:=h1 d q
   exact⟨u,g1,g2⟩
  |_=>cases e1
 |dcF ks ds =>
  obtain⟨k,e1,e⟩:=bind_some e
  cases e
  obtain⟨p,fo,kvs,rfl,hp,rfl,rs⟩:=rd
  have hp':=Zf _ _ hp
  cases x with
  |tup xs =>
   obtain⟨b,vs,rfl,hb,rb⟩:=rx
   cases UH e1 rb
   obtain⟨h1,h2⟩:=Zhx (x:=k) rs
   refine⟨p,Vh kvs k,rfl,.inr ⟨kvs,k,b,.inr ⟨fo,hp'⟩,rfl,Zf _ _ hb,rfl⟩,.inr ⟨kvs,.inr ⟨fo,hp'⟩⟩,fun d q=>?_,fun q=>h2 q⟩
   obtain⟨u,g1,g2⟩:=h1 d q
   exact⟨u,g1,g2⟩
  |_=>cases e1
 |_=>cases e
section
variable{X:Cx}
def X4:D->Bool
 |.non=>true
 |.bl _=>true
 |.int _=>true
 |.str _=>true
 |_=>false
def Zg6:D->V
 |.bl b=>.bl b
 |.int i=>.int i
 |.str x=>.str x
 |_=>.non
theorem Uo{K:PySem.W.Frag}{H:Hp}{d:D}{v:V}(f:X4 d=true)(r:Y8 K H d v):v=Zg6 d/\UQ v=true:=by
 cases d with
 |non=>rw[show v=_ from r];exact⟨rfl,rfl⟩
 |bl b=>rw[show v=_ from r];exact⟨rfl,rfl⟩
 |int b=>rw[show v=_ from r];exact⟨rfl,rfl⟩
 |str b=>rw[show v=_ from r];exact⟨rfl,rfl⟩
 |_=>cases f
theorem Vv{K:PySem.W.Frag}{H:Hp}:∀{ds:List D} {vs:List V},ds.all X4=true->Zr K H ds vs->vs=ds.map Zg6/\vs.all UQ=true
 |[],_,_,r=>by rw[show _=_ from r];exact⟨rfl,rfl⟩
 |d::ds,_,f,⟨v,vr,q,h,t⟩=>by
  subst q
  rw[JN,QO]at f
  obtain⟨h1,h2⟩:=Uo f.1 h
  obtain⟨h3,h4⟩:=Vv f.2 t
  exact⟨by rw[h1,h3];rfl,by rw[JN,h2,h4];rfl⟩
def X1:D->D->Option D
 |x,.lst ds=>if(X4 x&&ds.all X4)=true then some (.bl (Zs7 (Zg6 x) (ds.map Zg6))) else none
 |x,.tup ds=>if(X4 x&&ds.all X4)=true then some (.bl (Zs7 (Zg6 x) (ds.map Zg6))) else none
 |x,y=>(Up y x).bind fun o=>some (.bl o.isSome)
theorem Zz0(hu:X.A.units+1<cLine):V0 X (compareOp .In) (fun x y H Q=>∃a o,y=.ref a/\Zaa H a x o/\Q (.bl o.isSome) H):=by
 intro pins s σ H x y v u Q I rx ry h
 obtain⟨a,o,rfl,g,q⟩:=h
 cases ry
 exact d_in hu I g rx fun s' I'=>⟨.bl o.isSome,H,I',rfl,q⟩
theorem Zhm(hu:X.A.units+64<cLine):UK X (compareOp .In) X1:=UK.of (V0.or Zo3 (Zz0 (Nat.lt_of_le_of_lt (Nat.add_le_add_left (by decide) _) hu))) fun x y H Q ⟨O,dx,dy,d,th,rx,ry,e,q⟩=>by
 have dict:∀o,Up dy dx=some o->d=.bl o.isSome->∃a ov,y=.ref a/\Zaa H a x ov/\Q (.bl ov.isSome) H:=fun o e1 e2=>by
  obtain⟨p,ov,e3,g,_,h1,h2⟩:=Zby e1 ry rx
  refine⟨p,ov,e3,g,?_⟩
  have:ov.isSome=o.isSome:=by
   cases o with
   |none=>rw[h2 rfl];rfl
   |some d'=>obtain⟨u,hu,_⟩:=h1 d' rfl;rw[hu];rfl
  rw[this]
  subst e2
  exact q _ H (Zg.refl _) rfl
 cases dy with
 |lst ds =>
  have e:(if(X4 dx&&ds.all X4)=true then some (D.bl (Zs7 (Zg6 dx) (ds.map Zg6))) else none)=some d:=e
  split at e
  ·rename_i hf
   cases e
   obtain⟨f1,f2⟩:=Bool.and_eq_true_iff.mp hf
   obtain⟨p,vs,rfl,hp,rp⟩:=ry
   obtain⟨h1,h2⟩:=Uo f1 rx
   obtain⟨h3,h4⟩:=Vv f2 rp
   refine .inl ⟨p,vs,rfl,.inl (XX.of (Zf _ _ hp)),h2,h4,?_⟩
   rw[h1,h3]
   exact q _ H (Zg.refl _) rfl
  ·cases e
 |tup ds =>
  have e:(if(X4 dx&&ds.all X4)=true then some (D.bl (Zs7 (Zg6 dx) (ds.map Zg6))) else none)=some d:=e
  split at e
  ·rename_i hf
   cases e
   obtain⟨f1,f2⟩:=Bool.and_eq_true_iff.mp hf
   obtain⟨p,vs,rfl,hp,rp⟩:=ry
   obtain⟨h1,h2⟩:=Uo f1 rx
   obtain⟨h3,h4⟩:=Vv f2 rp
   refine .inl ⟨p,vs,rfl,.inr (Wx.of (Zf _ _ hp)),h2,h4,?_⟩
   rw[h1,h3]
   exact q _ H (Zg.refl _) rfl
  ·cases e
 |dcK ks ds=>obtain⟨o,e1,e⟩:=bind_some e;cases e;exact .inr (dict o e1 rfl)
 |dcT ks ds=>obtain⟨o,e1,e⟩:=bind_some e;cases e;exact .inr (dict o e1 rfl)
 |dcF ks ds=>obtain⟨o,e1,e⟩:=bind_some e;cases e;exact .inr (dict o e1 rfl)
 |_=>cases e
def Z04:D->D->Option D:=fun d k=>(Up d k).bind fun o=>o
theorem Z0z{a b:Expr}{fa fb:FE}{pos:Pos}(hu:X.A.units+64<cLine)(ha:EV X a fa)(hb:EV X b fb)(hs:Z1p b:=by exact fun _ _=>rfl):EV X (.Subscript a b pos) (f2 Z04 fa fb) :=
 PE.imp (Zvv (Nat.lt_of_le_of_lt (Nat.add_le_add_left (by decide) _) hu) ha hb hs) fun σ H Q h=>by
  obtain⟨O,ρ,d,rv,e,q⟩:=h
  obtain⟨x,e1,e⟩:=bind_some e
  obtain⟨y,e2,e⟩:=bind_some e
  obtain⟨o,e3,e⟩:=bind_some e
  subst e
  refine⟨O,ρ,x,rv,e1,fun v H1 s1 r1=>⟨O,ρ,y,rv.mono s1,e2,fun u H2 s2 r2=>?_⟩⟩
  obtain⟨p,ov,e4,g,_,h1,_⟩:=Zby e3 (Y8.mono (ZH s2) x v r1) r2
  obtain⟨w,ew,rw'⟩:=h1 d rfl
  exact⟨p,w,e4,by rw[<- ew];exact g,q w H2 (Zg.trans s1 s2) rw'⟩
def Zpx(fa fb fc:FE):FE:=fun ρ=>(fa ρ).bind fun x=>(fb ρ).bind fun y=>(fc ρ).bind fun z=>(Up x y).bind fun o=>some (o.getD z)
theorem Z00{o e f:Expr}{fa fb fc:FE}{apos cpos:Pos}(hu:X.A.units+64<cLine)(ho:EV X o fa)(he:EV X e fb)(hf:EV X f fc)(m:M2 X o "get" apos e f cpos:=by exact⟨rfl,rfl,rfl,rfl⟩) :
  EV X (.Call (.Attribute o "get" apos) [e,f] [] cpos) (Zpx fa fb fc):=PE.imp (Zr1 (Nat.lt_of_le_of_lt (Nat.add_le_add_left (by decide) _) hu) ho he hf m) fun σ H Q h=>by
 obtain⟨O,ρ,d,rv,e,q⟩:=h
 obtain⟨x,e1,e⟩:=bind_some e
 obtain⟨y,e2,e⟩:=bind_some e
 obtain⟨z,e3,e⟩:=bind_some e
 obtain⟨o,e4,e⟩:=bind_some e
 cases e
 refine⟨O,ρ,x,rv,e1,fun v H1 s1 r1=>?_⟩
 have isd:∃p,v=.ref p/\IsD H1 p:=by
  cases x with
  |dcK ks ds=>obtain⟨p,kvs,rfl,hp,_⟩:=r1;exact⟨p,rfl,.inl ⟨kvs,.inl (Zf _ _ hp)⟩⟩
  |dcT ks ds=>obtain⟨p,kvs,rfl,hp,_⟩:=r1;exact⟨p,rfl,.inr ⟨kvs,.inl (Zf _ _ hp)⟩⟩
  |dcF ks ds=>obtain⟨p,fo,kvs,rfl,hp,_⟩:=r1;exact⟨p,rfl,.inr ⟨kvs,.inr ⟨fo,Zf _ _ hp⟩⟩⟩
  |_=>cases e4
 obtain⟨p,rfl,hd⟩:=isd
 refine⟨p,rfl,hd,O,ρ,y,rv.mono s1,e2,fun u H2 s2 r2=>⟨O,ρ,z,rv.mono (Zg.trans s1 s2),e3,fun w H3 s3 r3=>?_⟩⟩
 obtain⟨p',ov,ep,g,_,h1,h2⟩:=Zby e4 (Y8.mono (ZH (Zg.trans s2 s3)) x _ r1) (Y8.mono (ZH s3) y u r2)
 cases ep
 refine⟨ov,g,?_⟩
 cases o with
 |none=>rw[h2 rfl];exact q w H3 (Zg.trans s1 (Zg.trans s2 s3)) r3
 |some d'=>obtain⟨t,et,rt⟩:=h1 d' rfl;rw[et];exact q t H3 (Zg.trans s1 (Zg.trans s2 s3)) rt
def Zf8:List D->Option D
 |[.dcK ks _]=>some (.int ks.length)
 |_=>none
theorem Zw1:Xu X (.builtin "len") Zf8:=Xu.of Zp7 fun xs H Q ⟨O,ds,d,th,rs,e,q⟩=>by
 unfold Zf8 at e
 split at e
 ·cases e
  obtain⟨v,rfl,p,kvs,rfl,hp,hk,_⟩:=Zas rs
  refine⟨p,kvs,rfl,Zf _ _ hp,?_⟩
  rw[<- hk,Qb]at q
  exact q _ H (Zg.refl _) rfl
 ·cases e
def Zh0:List D->Option D
 |[.dcT ks _]=>some (.lst (ks.map fun k=>.tup (k.map kD)))
 |_=>none
theorem Zf9{K:PySem.W.Frag}{H:Hp}:∀{ks:List (List Y5)} {bs:List Addr},Paired (fun(k:List Y5) (b:Addr)=>H b=some (.tup (k.map kV))) ks bs->Zr K H (ks.map fun k=>.tup (k.map kD)) (bs.map V.ref)
 |_,_,.nil=>rfl
 |_,_,.cons h t=>⟨_,_,rfl,⟨_,_,rfl,h,Zkb _⟩,Zf9 t⟩
theorem Zt0(hc:X.calm=true):Xu X (.type "list") Zh0:=Xu.of (Zim hc) fun xs H Q ⟨O,ds,d,th,rs,e,q⟩=>by
 unfold Zh0 at e
 split at e
 ·cases e
  obtain⟨v,rfl,p,kvs,rfl,hp,rfl,_⟩:=Zas rs
  refine⟨p,kvs,rfl,Zf _ _ hp,fun l bs hl pk=>q _ _ (Zg.new hl) (YD th hl ?_)⟩
  refine Zf9 (Paired.mapP pk fun k b hb=>?_)
  refine(Zp fun m=>?_).trans hb
  obtain⟨o,h1,h2⟩:=th b m
  rw[hb]at h1;cases h1;exact h2
 ·cases e
def Zrh(i:Nat):FS:=fun ρ=>.nx (ρ.set i (some (.own (.dcT [] []))))
theorem Zuy{i:Nat}{x:Str}{pos pos' pd:Pos}(hN:X.N.Nodup)(hi:X.N[i]?=some x:=by rfl)(hx:Zp9 X.env.scope x:=by first|exact Or.inl rfl|exact Or.inr rfl)(hs:swapsWith (.Dict [] [] pd) (some (.Name x pos')) pos.line X.env=pure false:=by rfl)
  (hf:X.fn x=true\/X.env.scope.names.lookup x=some .local:=by first|exact .inl rfl|exact .inr rfl):SV X (.Assign [.Name x pos'] (.Dict [] [] pd) pos) (Zrh i):=PS.imp (Zdu hN hi hx Zr0 hs hf) fun E σ H ⟨B,O0,O1,ρ,r,q⟩ =>
 fun p hp=>q _ _ (p::O1) (r.setOwn hp trivial ⟨[],ZS,rfl,rfl⟩)
def Zjj(i:Nat)(c:Int)(b:Bool):FS:=fun ρ=>.nx (ρ.set i (some (.own (.dcK [.inl c] [.bl b]))))
theorem Zu0{i:Nat}{x:Str}{c:Int}{b:Bool}{j1 j2}{pos pos' pd p1 p2:Pos}(hN:X.N.Nodup)(hi:X.N[i]?=some x:=by rfl)(hx:Zp9 X.env.scope x:=by first|exact Or.inl rfl|exact Or.inr rfl)
  (hs:swapsWith (.Dict [some (.Constant (.int c) j1 p1)] [.Constant (.bool b) j2 p2] pd) (some (.Name x pos')) pos.line X.env=pure false:=by rfl)
  (hf:X.fn x=true\/X.env.scope.names.lookup x=some .local:=by first|exact .inl rfl|exact .inr rfl):SV X (.Assign [.Name x pos'] (.Dict [some (.Constant (.int c) j1 p1)] [.Constant (.bool b) j2 p2] pd) pos) (Zjj i c b) :=
 PS.imp (Zdu hN hi hx (Zvu (Zrr Zry Zxk Zvn) rfl rfl (by simp) (by simp)) hs hf) fun E σ H ⟨B,O0,O1,ρ,r,q⟩=>by
  intro p hp
  refine⟨ZS,[(.inl c,.bl b)],rfl,by simp,?_⟩
  rw[Zus]
  exact q _ _ (p::O1) (r.setOwn hp trivial ⟨_,ZS,rfl,_,_,rfl,rfl,rfl⟩)
def YX(i:Nat)(fk fv:FE):FS:=fun ρ=>match ρ[i]?,fv (Ye ρ),fk (Ye ρ) with
 |some (some (.own (.dcK ks ds))),some d,some kd=>(match Zfh kd with
  |some k=>if Zmf d=true/\ks.length<Yu then .nx (ρ.set i (some (.own (.dcK (Zce ks k) (Zcf ks ds k d))))) else .bad
  |none=>.bad)
 |some (some (.own (.dcT ks ds))),some d,some kd=>(match Zwl kd with
  |some k=>if Zmf d=true/\ks.length<Yu then .nx (ρ.set i (some (.own (.dcT (Zce ks k) (Zcf ks ds k d))))) else .bad
  |none=>.bad)
 |_,_,_=>.bad
theorem Zcx{i:Nat}{x:Str}{k e:Expr}{fk fv:FE}{pos p1 p2:Pos}(hu:X.A.units+64<cLine)(hk:EV X k fk)(he:EV X e fv)(hN:X.N[i]?=some x:=by rfl)(hv:Zul X.env.scope x:=by first|exact Or.inl rfl|exact Or.inr (Or.inl rfl)|exact Or.inr (Or.inr rfl))
  (hd:(x == ("__debug__":Str))=false:=by decide) (hcd:(x == ("__classdict__":Str))=false:=by decide) (hs:swapsWith e (some (.Subscript (.Name x p1) k p2)) pos.line X.env=pure false:=by rfl) :
  SV X (.Assign [.Subscript (.Name x p1) k p2] e pos) (YX i fk fv):=PS.imp (Zvl (Nat.lt_of_le_of_lt (Nat.add_le_add_left (by decide) _) hu) (VH hN hv hd hcd) hk he hs) fun E σ H ⟨B,O0,O1,ρ,r,q⟩=>by
 have emask:∀{a:Addr} {o:HO} {H2:Hp},a∈O1->mask (O0++O1) (YZ H2 a o)=mask (O0++O1) H2:=fun{a o H2} hO=>by
  funext b
  by_cases hb:b∈O0++O1
  ·rw[ZY hb,ZY hb]
  ·rw[Zp hb,Zp hb,ZE (fun z=>hb (by rw[z];exact Qg _ hO))]
 have small:∀{n:Nat},n<Yu->n<sizeLine:=fun{n} h=>by
  rw[show sizeLine=16777216 from Q3]
  unfold Yu at h
  omega
 unfold YX at q
 split at q
 ·rename_i ks ds d kd hi e1 e2
  split at q
  ·rename_i key ek
   split at q
   ·rename_i hm
    obtain⟨a,ha,hO,kvs,hv',rfl,rs⟩:=r.owns i _ hi
    refine⟨O0,Ye ρ,d,r.all,e1,fun v H1 s1 rv1=>?_⟩
    have r1:=r.mono s1
    refine⟨.ref a,ha,O0,Ye ρ,kd,r1.all,e2,fun y H2 s2 rv2=>?_⟩
    have r2:=r1.mono s2
    have hv2:H2 a=some (.dK kvs):=s2 _ _ (s1 _ _ hv')
    cases Zee ek rv2
    refine⟨a,_,rfl,Zk6.k hv2 (small (by simpa using hm.2)),?_⟩
    have rd:Y8 X.K (mask (O0++O1) H2) d v:=Zat r2.th d v hm.1 (Y8.mono (ZH s2) d v rv1)
    obtain⟨g1,g2⟩:=Zni (x:=key) rd (Zr.mono (ZH (Zg.trans s1 s2)) ds _ rs)
    exact q _ _ O1 (r2.write hi ha trivial ⟨_,ZS,g1,by rw[emask hO];exact g2⟩)
   ·exact q.elim
  ·exact q.elim
 ·rename_i ks ds d kd hi e1 e2
  split at q
  ·rename_i key ek
   split at q
   ·rename_i hm
    obtain⟨a,ha,hO,kvs,hv',rfl,rs⟩:=r.owns i _ hi
    refine⟨O0,Ye ρ,d,r.all,e1,fun v H1 s1 rv1=>?_⟩
    have r1:=r.mono s1
    refine⟨.ref a,ha,O0,Ye ρ,kd,r1.all,e2,fun y H2 s2 rv2=>?_⟩
    have r2:=r1.mono s2
    have hv2:H2 a=some (.dT kvs):=s2 _ _ (s1 _ _ hv')
    cases kd with
    |tup xs =>
     obtain⟨b,vs,rfl,hb,rb⟩:=rv2
     cases UH ek rb
     refine⟨a,_,rfl,Zk6.t hv2 (Zf _ _ hb) (small (by simpa using hm.2)),?_⟩
     have rd:Y8 X.K (mask (O0++O1) H2) d v:=Zat r2.th d v hm.1 (Y8.mono (ZH s2) d v rv1)
     obtain⟨g1,g2⟩:=Zni (x:=key) rd (Zr.mono (ZH (Zg.trans s1 s2)) ds _ rs)
     exact q _ _ O1 (r2.write hi ha trivial ⟨_,ZS,g1,by rw[emask hO];exact g2⟩)
    |_=>cases ek
   ·exact q.elim
  ·exact q.elim
 ·exact q.elim
end
end L2

namespace M
def S:Nat->(Nat->Int)->Int
 |0,_=>0
 |n+1,f=>S n f+f n
theorem UJ:∀(n:Nat) {f g:Nat->Int},(∀i,i<n->f i=g i)->S n f=S n g
 |0,_,_,_=>rfl
 |n+1,f,g,h=>by
  show S n f+f n=S n g+g n
  rw[UJ n fun i hi=>h i (Jc hi),h n (JE n)]
theorem Zis:∀(n:Nat),S n (fun _=>0)=0
 |0=>rfl
 |n+1=>by show S n _+0=0;rw[Zis n];rfl
theorem Zye:∀(n:Nat) (f g:Nat->Int),S n (fun i=>f i+g i)=S n f+S n g
 |0,_,_=>rfl
 |n+1,f,g=>by show S n (fun i=>f i+g i)+(f n+g n)=(S n f+f n)+(S n g+g n);rw[Zye n f g];omega
theorem Z1m:∀(n:Nat) {f g:Nat->Int},(∀i,i<n->f i<=g i)->S n f<=S n g
 |0,_,_,_=>JM _
 |n+1,f,g,h=>by
  have a:=Z1m n fun i hi=>h i (Jc hi)
  have b:=h n (JE n)
  show S n f+f n<=S n g+g n;omega
theorem Zuf(n:Nat){f:Nat->Int}(h:∀i,i<n->0<=f i):0<=S n f:=by
 have:=Z1m n h;rwa[Zis]at this
theorem S_ge_term(n:Nat){f:Nat->Int}(h:∀i,i<n->0<=f i){k:Nat}(hk:k<n):f k<=S n f:=by
 induction n with
 |zero=>omega
 |succ n ih =>
  show f k<=S n f+f n
  by_cases e:k=n
  ·subst e
   have:=Zuf k fun i hi=>h i (Jc hi)
   omega
  ·have:=ih (fun i hi=>h i (Jc hi)) (by omega)
   have:=h n (JE n)
   omega
theorem Zyd:∀(n k:Nat) (f:Nat->Int),k<n->S n (fun i=>if i=k then f i else 0)=f k
 |0,_,_,h=>by omega
 |n+1,k,f,h=>by
  show S n _+(if n=k then f n else 0)=f k
  by_cases e:n=k
  ·subst e
   rw[if_pos rfl,UJ n (g:=fun _=>0) fun i hi=>if_neg (by omega),Zis];omega
  ·rw[if_neg e,Zyd n k f (by omega)];omega
theorem S_out(n k:Nat)(f:Nat->Int)(h:k<n):S n f=f k+S n (fun i=>if i=k then 0 else f i):=by
 have a:=Zye n (fun i=>if i=k then f i else 0) (fun i=>if i=k then 0 else f i)
 rw[Zyd n k f h]at a
 rw[<- a]
 exact UJ n fun i _=>by split<;>omega
structure Net(n:Nat)(L:Nat->Nat->Int):Prop where
 sym:∀i j,i<n->j<n->L i j=L j i
 nn:∀i j,0<=L i j
 diag:∀i,L i i=0
section
variable{n:Nat}{L:Nat->Nat->Int}
def outOf(n:Nat)(L:Nat->Nat->Int)(A:Nat->Bool)(i:Nat):Int:=S n fun j=>if A j=true then 0 else L i j
def NoDebt(n:Nat)(q:Nat)(d:Nat->Int):Prop:=∀i,i<n->i≠q->0<=d i
structure Settled(n:Nat)(L:Nat->Nat->Int)(q:Nat)(d:Nat->Int):Prop where
 nodebt:NoDebt n q d
 sets:∀A:Nat->Bool,A q=false->(∃i,i<n/\A i=true)->∃i,i<n/\A i=true/\d i<outOf n L A i
end
end M

namespace M
theorem length_le_of_nodup:∀(n:Nat) (l:List Nat),l.Nodup->(∀x∈l,x<n)->l.length<=n
 |0,l,_,h=>by
  cases l with
  |nil=>exact Qj _
  |cons x r=>exact absurd (h x Qd) (by omega)
 |n+1,l,nd,h=>by
  by_cases hn:n∈l
  ·have h1:=length_le_of_nodup n (l.erase n) (nd.erase n) fun x hx=>by
    have h2:=h x (List.mem_of_mem_erase hx)
    have h3:x≠n:=fun z=>by subst z;exact(List.Nodup.not_mem_erase nd) hx
    omega
   have:=List.length_erase_of_mem hn
   have:0<l.length:=List.length_pos_of_mem hn
   omega
  ·have h1:=length_le_of_nodup n l nd fun x hx=>by
    have h2:=h x hx
    have h3:x≠n:=fun z=>by subst z;exact hn hx
    omega
   omega
def sumL(L:Nat->Nat->Int)(i:Nat)(bs:List Nat):Int:=(bs.map (L i)).sum
theorem sumL_app(L:Nat->Nat->Int)(i:Nat)(bs cs:List Nat):sumL L i (bs++cs)=sumL L i bs+sumL L i cs:=by
 unfold sumL;rw[QM,List.sum_append]
theorem sumL_S(n:Nat)(L:Nat->Nat->Int)(i:Nat):∀(bs:List Nat),bs.Nodup->(∀x∈bs,x<n)->sumL L i bs=S n (fun j=>if j∈bs then L i j else 0)
 |[],_,_=>by
  show(0:Int)=_
  rw[UJ n (g:=fun _=>0) fun j _=>if_neg (by simp),Zis]
 |b::bs,nd,h=>by
  have nb:b∉bs:=(QP.mp nd).1
  show L i b+sumL L i bs=_
  rw[sumL_S n L i bs (QP.mp nd).2 fun x hx=>h x (Qc _ hx)]
  rw[S_out n b (fun j=>if j∈b::bs then L i j else 0) (h b Qd),if_pos Qd]
  congr 1
  refine UJ n fun j _=>?_
  by_cases e:j=b
  ·subst e;rw[if_pos rfl,if_neg nb]
  ·rw[if_neg e]
   by_cases m:j∈bs
   ·rw[if_pos m,if_pos (Qc _ m)]
   ·rw[if_neg m,if_neg (by simp[e,m])]
theorem S_range:∀(n:Nat) (f:Nat->Int),((List.range n).map f).sum=S n f
 |0,_=>rfl
 |n+1,f=>by
  rw[JY,QM,List.sum_append,S_range n f]
  show S n f+(f n+0)=S n f+f n
  omega
def bstep(L:Nat->Nat->Int)(d:Nat->Int)(bs:List Nat)(y:Nat):List Nat:=if y∉bs/\d y<sumL L y bs then bs++[y] else bs
def others(n q:Nat):List Nat:=(List.range n).filter fun y=>decide (y≠q)
def bround(L:Nat->Nat->Int)(d:Nat->Int)(ys bs:List Nat):List Nat:=ys.foldl (bstep L d) bs
def brounds(L:Nat->Nat->Int)(d:Nat->Int)(ys:List Nat):Nat->List Nat->List Nat
 |0,bs=>bs
 |k+1,bs=>brounds L d ys k (bround L d ys bs)
def burnt(n:Nat)(L:Nat->Nat->Int)(d:Nat->Int)(q:Nat):List Nat:=brounds L d (others n q) n [q]
theorem mem_others{n q y:Nat}:y∈others n q↔y<n/\y≠q:=by unfold others;simp
structure BI(n:Nat)(L:Nat->Nat->Int)(d:Nat->Int)(q:Nat)(bs:List Nat):Prop where
 head:bs[0]?=some q
 nd:bs.Nodup
 lt:∀x∈bs,x<n
 fewer:∀(k y:Nat),bs[k]?=some y->0<k->d y<sumL L y (bs.take k)
section
variable{n:Nat}{L:Nat->Nat->Int}{d:Nat->Int}{q:Nat}
theorem BI.start(hq:q<n):BI n L d q [q]:=⟨rfl,by simp,fun x hx=>by simp at hx;omega,fun k y e hk=>by
 cases k with
 |zero=>omega
 |succ k=>simp at e⟩
theorem BI.len{bs:List Nat}(b:BI n L d q bs):bs.length<=n:=length_le_of_nodup n bs b.nd b.lt
theorem BI.step{bs:List Nat}(b:BI n L d q bs){y:Nat}(hy:y<n):BI n L d q (bstep L d bs y):=by
 unfold bstep
 split
 ·rename_i h
  have h0:0<bs.length:=by
   cases e:bs with
   |nil=>have:=b.head;rw[e]at this;cases this
   |cons x r=>simp
  refine⟨by rw[QL h0];exact b.head,?_,fun x hx=>?_,fun k z e hk=>?_⟩
  ·rw[Jb]
   exact⟨b.nd,by simp,fun a ha c hc=>by simp at hc;subst hc;exact fun z=>h.1 (z▸ha)⟩
  ·rcases Qu.mp hx with z|z
   ·exact b.lt x z
   ·simp at z;omega
  ·by_cases hl:k<bs.length
   ·rw[QL hl]at e
    rw[List.take_append_of_le_length (Nat.le_of_lt hl)]
    exact b.fewer k z e hk
   ·have hk':k<(bs++[y]).length:=(Qp.mp e).1
    have ek:k=bs.length:=by simp at hk';omega
    subst ek
    have:z=y:=by simpa using e.symm
    subst this
    rw[List.take_left]
    exact h.2
 ·exact b
theorem BI.round{ys:List Nat}(hy:∀y∈ys,y<n):∀{bs:List Nat},BI n L d q bs->BI n L d q (bround L d ys bs):=by
 induction ys with
 |nil=>exact fun b=>b
 |cons y ys ih =>
  intro bs b
  exact ih (fun z hz=>hy z (Qc _ hz)) (b.step (hy y Qd))
theorem BI.rounds{ys:List Nat}(hy:∀y∈ys,y<n):∀(k:Nat) {bs:List Nat},BI n L d q bs->BI n L d q (brounds L d ys k bs)
 |0,_,b=>b
 |k+1,_,b=>BI.rounds hy k (b.round hy)
def Clos(n:Nat)(L:Nat->Nat->Int)(d:Nat->Int)(bs:List Nat):Prop:=∀y,y<n->y∉bs->sumL L y bs<=d y
theorem Zgs(bs:List Nat)(y:Nat):bs.length<=(bstep L d bs y).length:=by
 unfold bstep;split<;>simp
theorem Ze3(ys:List Nat):∀(bs:List Nat),bs.length<=(bround L d ys bs).length:=by
 induction ys with
 |nil=>exact fun _=>Qj _
 |cons y ys ih=>exact fun bs=>Jt (Zgs bs y) (ih _)
theorem Zk2{ys:List Nat}:∀{bs:List Nat},(bround L d ys bs).length=bs.length->∀y∈ys,y∉bs->sumL L y bs<=d y:=by
 induction ys with
 |nil=>intro _ _ y hy;cases hy
 |cons z ys ih =>
  intro bs h y hy hn
  have h1:(bstep L d bs z).length=bs.length:=by
   have a:=Zgs (L:=L) (d:=d) bs z
   have b:=Ze3 (L:=L) (d:=d) ys (bstep L d bs z)
   have c:(bround L d ys (bstep L d bs z)).length=bs.length:=h
   omega
  have h2:¬(z∉bs/\d z<sumL L z bs):=fun w=>by unfold bstep at h1;rw[if_pos w]at h1;simp at h1
  have h3:bstep L d bs z=bs:=if_neg h2
  have h4:(bround L d ys bs).length=bs.length:=by
   have c:(bround L d ys (bstep L d bs z)).length=bs.length:=h
   rwa[h3]at c
  rcases Qm.mp hy with e|e
  ·subst e
   by_cases w:d y<sumL L y bs
   ·exact absurd ⟨hn,w⟩ h2
   ·omega
  ·exact ih h4 y e hn
theorem Zco{ys bs:List Nat}(h:∀y∈ys,y∉bs->sumL L y bs<=d y):bround L d ys bs=bs:=by
 induction ys with
 |nil=>rfl
 |cons z ys ih =>
  have h3:bstep L d bs z=bs:=if_neg fun w=>by have:=h z Qd w.1;omega
  show bround L d ys (bstep L d bs z)=bs
  rw[h3]
  exact ih fun y hy=>h y (Qc _ hy)
theorem Za5{ys:List Nat}:∀(k:Nat) {bs:List Nat},(∀y∈ys,y∉bs->sumL L y bs<=d y)->brounds L d ys k bs=bs
 |0,_,_=>rfl
 |k+1,bs,h=>by show brounds L d ys k (bround L d ys bs)=bs;rw[Zco h];exact Za5 k h
theorem Zcn{ys:List Nat}:∀(k:Nat) (bs:List Nat),(∀y∈ys,y∉brounds L d ys k bs->sumL L y (brounds L d ys k bs)<=d y)\/bs.length+k<=(brounds L d ys k bs).length
 |0,bs=>.inr (Qj _)
 |k+1,bs=>by
  by_cases e:(bround L d ys bs).length=bs.length
  ·left
   have h1:=Zk2 e
   have h2:bround L d ys bs=bs:=Zco h1
   have h3:brounds L d ys (k+1) bs=bs:=Za5 (k+1) h1
   rw[h3];exact h1
  ·have:=Ze3 (L:=L) (d:=d) ys bs
   rcases Zcn k (bround L d ys bs) with h|h
   ·exact .inl h
   ·right
    show bs.length+(k+1)<=(brounds L d ys k (bround L d ys bs)).length
    omega
theorem burnt_bi(hq:q<n):BI n L d q (burnt n L d q):=BI.rounds (fun y hy=>(mem_others.mp hy).1) n (BI.start hq)
theorem Zmq(hq:q<n):Clos n L d (burnt n L d q):=by
 intro y hy hn
 have b:=burnt_bi (L:=L) (d:=d) hq
 rcases Zcn (L:=L) (d:=d) (ys:=others n q) n [q]with h|h
 ·refine h y (mem_others.mpr ⟨hy,fun z=>hn ?_⟩) hn
  subst z
  exact Jh b.head
 ·have:=b.len
  unfold burnt at this
  simp at h
  omega
theorem full_mem:∀(n:Nat) (l:List Nat),l.Nodup->(∀x∈l,x<n)->l.length=n->∀y,y<n->y∈l
 |n,l,nd,h,hl,y,hy=>by
  by_cases m:y∈l
  ·exact m
  ·have:=length_le_of_nodup n (y::l) (QP.mpr ⟨m,nd⟩) fun x hx=>by
    rcases Qm.mp hx with z|z
    ·omega
    ·exact h x z
   simp at this
   omega
theorem Zjb(N:Net n L)(A:Nat->Bool)(i:Nat){bs:List Nat}(nd:bs.Nodup)(h:∀x∈bs,x<n)(hA:∀x∈bs,A x=false):sumL L i bs<=outOf n L A i:=by
 rw[sumL_S n L i bs nd h]
 refine Z1m n fun j _=>?_
 by_cases m:j∈bs
 ·rw[if_pos m,hA j m];simp
 ·rw[if_neg m];split
  ·exact JM _
  ·exact N.nn i j
theorem Zfd(N:Net n L)(hd:NoDebt n q d){bs:List Nat}(b:BI n L d q bs)(hl:bs.length=n):Settled n L q d:=by
 refine⟨hd,fun A hA ⟨i,hi,ai⟩=>?_⟩
 have first:∀(k:Nat),(∀(j y:Nat),j<k->bs[j]?=some y->A y=false)\/∃(j y:Nat),bs[j]?=some y/\A y=true/\∀(j' y':Nat),j'<j->bs[j']?=some y'->A y'=false:=by
  intro k
  induction k with
  |zero=>exact .inl fun j y hj=>absurd hj (by omega)
  |succ k ih =>
   rcases ih with h|h
   ·cases e:bs[k]? with
    |none =>
     refine .inl fun j y hj ej=>?_
     ·by_cases z:j=k
      ·subst z;rw[e]at ej;cases ej
      ·exact h j y (by omega) ej
    |some y =>
     cases ay:A y with
     |true=>exact .inr ⟨k,y,e,ay,h⟩
     |false =>
      refine .inl fun j y' hj ej=>?_
      ·by_cases z:j=k
       ·subst z;rw[e]at ej;cases ej;exact ay
       ·exact h j y' (by omega) ej
   ·exact .inr h
 rcases first n with h|⟨k,y,ek,ay,h⟩
 ·obtain⟨j,hj⟩:=List.mem_iff_getElem?.mp (full_mem n bs b.nd b.lt hl i hi)
  have:=h j i (by have:=(Qp.mp hj).1;omega) hj
  rw[ai]at this;cases this
 ·have hk:0<k:=by
   cases k with
   |zero=>rw[b.head]at ek;cases ek;rw[hA]at ay;cases ay
   |succ k=>omega
  refine⟨y,b.lt y (Jh ek),ay,Int.lt_of_lt_of_le (b.fewer k y ek hk) (Zjb N A y (b.nd.sublist (List.take_sublist k bs)) (fun x hx=>b.lt x (List.mem_of_mem_take hx)) fun x hx=>?_)⟩
  obtain⟨j,hj⟩:=List.mem_iff_getElem?.mp hx
  have hjk:j<k:=by
   have:=(Qp.mp hj).1
   rw[JT]at this;omega
  rw[List.getElem?_take_of_lt hjk]at hj
  exact h j x hjk hj
theorem Zjw{bs:List Nat}(b:BI n L d q bs)(i:Nat):outOf n L (fun j=>decide (j∉bs)) i=sumL L i bs:=by
 rw[sumL_S n L i bs b.nd b.lt]
 refine UJ n fun j _=>?_
 by_cases m:j∈bs
 ·simp[m]
 ·simp[m]
theorem BI.q_mem{bs:List Nat}(b:BI n L d q bs):q∈bs:=Jh b.head
theorem Zv7{bs:List Nat}(b:BI n L d q bs)(hl:bs.length≠n):∃i,i<n/\i∉bs:=by
 apply QD
 intro h
 have all:∀y,y<n->y∈bs:=fun y hy=>QD fun z=>h ⟨y,hy,z⟩
 have:(List.range n).length<=bs.length:=by
  have nd:(List.range n).Nodup:=List.nodup_range
  have key:∀(l m:List Nat),l.Nodup->(∀x∈l,x∈m)->l.length<=m.length:=by
   intro l
   induction l with
   |nil=>intro m _ _;simp
   |cons x l ih =>
    intro m nd h
    have hx:=h x Qd
    have:=ih (m.erase x) (QP.mp nd).2 fun y hy=>by
     have hne:y≠x:=fun z=>by subst z;exact(QP.mp nd).1 hy
     exact(List.mem_erase_of_ne hne).mpr (h y (Qc _ hy))
    have e:=List.length_erase_of_mem hx
    have p:=List.length_pos_of_mem hx
    simp
    omega
  exact key _ _ nd fun x hx=>all x (QK.mp hx)
 have:=b.len
 simp at *
 omega
theorem Zjy(hd:True){bs:List Nat}(b:BI n L d q bs)(hc:Clos n L d bs)(hl:bs.length≠n):¬Settled n L q d:=fun s=>by
 obtain⟨i,hi,m⟩:=Zv7 b hl
 obtain⟨k,hk,ak,lt⟩:=s.sets (fun j=>decide (j∉bs)) (by simp[b.q_mem]) ⟨i,hi,by simp[m]⟩
 rw[Zjw b]at lt
 have:=hc k hk (by simpa using ak)
 omega
theorem burnt_settled(N:Net n L)(hq:q<n)(hd:NoDebt n q d):(burnt n L d q).length=n↔Settled n L q d :=
 ⟨fun h=>Zfd N hd (burnt_bi hq) h,fun h=>QD fun z=>Zjy trivial (burnt_bi hq) (Zmq hq) z h⟩
end
end M

namespace L2
open PySem PySem.W PyProof.Rows
def Ziv{α:Type}(f:Nat->Nat->Bool)(N:Nat)(P:α->Prop):KasT α->Prop
 |.ret a=>P a
 |.ask i j k=>i<N/\j<N/\Ziv f N P (k (f i j))
theorem Vu{α β:Type}{f:Nat->Nat->Bool}{N:Nat}{P:β->Prop}{g:α->KasT β}:∀(t:KasT α),Ziv f N (fun a=>Ziv f N P (g a)) t->Ziv f N P (t.bind g)
 |.ret _,h=>h
 |.ask i j k,h=>⟨h.1,h.2.1,Vu (k (f i j)) h.2.2⟩
theorem Wn{α:Type}{f:Nat->Nat->Bool}{N:Nat}{P P':α->Prop}(hp:∀a,P a->P' a):∀(t:KasT α),Ziv f N P t->Ziv f N P' t
 |.ret a,h=>hp a h
 |.ask i j k,h=>⟨h.1,h.2.1,Wn hp (k (f i j)) h.2.2⟩
theorem Zsx{α:Type}{f:Nat->Nat->Bool}{N:Nat}{P:α->Prop}{cmp:Nat->Nat->(Bool->Shared->Prop)->Shared->Prop}{J:Shared->Prop}{Q:α->Shared->Prop}
  (hc:∀i j C s,i<N->j<N->J s->(∀s',J s'->C (f i j) s')->cmp i j C s) (hq:∀a s,P a->J s->Q a s):∀(t:KasT α) (s:Shared),J s->Ziv f N P t->t.kasWp cmp Q s
 |.ret a,s,hj,h=>hq a s h hj
 |.ask i j k,s,hj,h=>hc i j _ s h.1 h.2.1 hj fun s' hj'=>Zsx hc hq (k (f i j)) s' hj' h.2.2
structure Zb4(f:Nat->Nat->Bool)(N:Nat):Prop where
 tr:∀a b c,a<N->b<N->c<N->f a b=true->f b c=true->f a c=true
 as:∀a b,a<N->b<N->f a b=true->f b a=false
 tot:∀a b,a<N->b<N->a≠b->f a b=true\/f b a=true
section
variable{f:Nat->Nat->Bool}{N:Nat}
def ka(p:Array Nat)(i:Nat):Nat:=p.getD i 0
structure KP(N:Nat)(p:Array Nat):Prop where
 size:p.size=N
 lt:∀i,i<N->ka p i<N
 inj:∀i j,i<N->j<N->ka p i=ka p j->i=j
def Ziw(f:Nat->Nat->Bool)(p:Array Nat)(k:Nat):Prop:=∀i j,i<j->j<k->f (ka p i) (ka p j)=true
def Z1r(f:Nat->Nat->Bool)(p:Array Nat)(k:Nat):Prop:=∀i j,i<j->j<k->f (ka p j) (ka p i)=true
theorem Zef{p q:Array Nat}{i j:Nat}(h:p[i]?=q[j]?):ka p i=ka q j:=by
 unfold ka;rw[Jo,Jo,h]
theorem Ziw.step(o:Zb4 f N){p:Array Nat}(hp:KP N p){k:Nat}(hk:k<N)(h1:1<=k)(h:Ziw f p k)(hl:f (ka p (k-1)) (ka p k)=true):Ziw f p (k+1):=fun i j hij hj=>by
 by_cases e:j=k
 ·subst e
  by_cases e2:i=j-1
  ·rw[e2];exact hl
  ·exact o.tr _ _ _ (hp.lt i (by omega)) (hp.lt (j-1) (by omega)) (hp.lt j hk) (h i (j-1) (by omega) (by omega)) hl
 ·exact h i j hij (by omega)
theorem Z1r.step(o:Zb4 f N){p:Array Nat}(hp:KP N p){k:Nat}(hk:k<N)(h1:1<=k)(h:Z1r f p k)(hl:f (ka p k) (ka p (k-1))=true):Z1r f p (k+1):=fun i j hij hj=>by
 by_cases e:j=k
 ·subst e
  by_cases e2:i=j-1
  ·rw[e2];exact hl
  ·exact o.tr _ _ _ (hp.lt j hk) (hp.lt (j-1) (by omega)) (hp.lt i (by omega)) hl (h i (j-1) (by omega) (by omega))
 ·exact h i j hij (by omega)
theorem Zmu(o:Zb4 f N){p:Array Nat}(hp:KP N p):∀(t n:Nat),1<=n->n+t<=N->Ziw f p n->Ziv f N (fun m=>n<=m/\m<=n+t/\Ziw f p m/\(m<n+t->f (ka p m) (ka p (m-1))=true)) (kas_asc p t n)
 |0,n,h1,h2,h=>⟨Qj _,Qj _,h,fun z=>absurd z (by omega)⟩
 |t+1,n,h1,h2,h=>by
  refine⟨hp.lt n (by omega),hp.lt (n-1) (by omega),?_⟩
  cases e:f (p.getD n 0) (p.getD (n-1) 0) with
  |true=>exact⟨Qj _,by omega,h,fun _=>e⟩
  |false =>
   have hl:f (ka p (n-1)) (ka p n)=true:=by
    rcases o.tot (ka p (n-1)) (ka p n) (hp.lt _ (by omega)) (hp.lt _ (by omega)) (fun z=>by have:=hp.inj _ _ (by omega) (by omega) z;omega) with z|z
    ·exact z
    ·exact absurd (e.symm.trans z) (by decide)
   show Ziv f N _ (kas_asc p t (n+1))
   exact Wn (fun m ⟨a,b,c,d⟩=>⟨by omega,by omega,c,fun z=>d (by omega)⟩) _ (Zmu o hp t (n+1) (by omega) (by omega) (h.step o hp (by omega) h1 hl))
theorem Zn8(o:Zb4 f N){p:Array Nat}(hp:KP N p):∀(t n:Nat),1<=n->n+t<=N->Z1r f p n->Ziv f N (fun r=>r.1=p/\r.2.2=0/\n<=r.2.1/\r.2.1<=n+t/\Z1r f p r.2.1) (kas_desc t p n 0)
 |0,n,h1,h2,h=>⟨rfl,rfl,Qj _,Qj _,h⟩
 |t+1,n,h1,h2,h=>by
  refine⟨hp.lt n (by omega),hp.lt (n-1) (by omega),?_⟩
  cases e:f (p.getD n 0) (p.getD (n-1) 0) with
  |true =>
   show Ziv f N _ (kas_desc t p (n+1) 0)
   exact Wn (fun m ⟨a,b,c,d,g⟩=>⟨a,b,by omega,by omega,g⟩) _ (Zn8 o hp t (n+1) (by omega) (by omega) (h.step o hp (by omega) h1 e))
  |false =>
   have hl:f (p.getD (n-1) 0) (p.getD n 0)=true:=by
    rcases o.tot (ka p (n-1)) (ka p n) (hp.lt _ (by omega)) (hp.lt _ (by omega)) (fun z=>by have:=hp.inj _ _ (by omega) (by omega) z;omega) with z|z
    ·exact z
    ·exact absurd (e.symm.trans z) (by decide)
   refine⟨hp.lt (n-1) (by omega),hp.lt n (by omega),?_⟩
   rw[hl]
   exact⟨rfl,rfl,Qj _,(by show n<=n+(t+1);omega),h⟩
theorem Zdp{p:Array Nat}{n:Nat}(hn:n<=p.size)(k:Nat):ka (kas_rev p 0 n) k=if k<n then ka p (n-1-k) else ka p k:=by
 have e:=getElem?_mirror_all (xs:=p) (i:=0) hn k
 unfold kas_rev
 by_cases h:k<n
 ·rw[if_pos h]
  rw[if_pos ⟨QZ _,h⟩]at e
  exact Zef (by rw[e];congr 1;omega)
 ·rw[if_neg h]
  rw[if_neg (fun z=>h z.2)]at e
  exact Zef e
theorem Zrl{p:Array Nat}(hp:KP N p){n:Nat}(hn:n<=N):KP N (kas_rev p 0 n):=by
 have hs:n<=p.size:=by rw[hp.size];exact hn
 refine⟨by unfold kas_rev;rw[mirror_size,hp.size],fun i hi=>?_,fun i j hi hj=>?_⟩
 ·rw[Zdp hs];split<;>exact hp.lt _ (by omega)
 ·rw[Zdp hs,Zdp hs]
  intro e
  split at e<;>split at e
  all_goals
   have:=hp.inj _ _ (by omega) (by omega) e
   omega
theorem Zva{p:Array Nat}(hp:KP N p){n:Nat}(hn:n<=N)(h:Z1r f p n):Ziw f (kas_rev p 0 n) n:=fun i j hij hj=>by
 have hs:n<=p.size:=by rw[hp.size];exact hn
 rw[Zdp hs,Zdp hs,if_pos (by omega),if_pos hj]
 exact h _ _ (by omega) (by omega)
theorem Zqy(o:Zb4 f N){p:Array Nat}(hp:KP N p){n:Nat}(h1:1<=n)(hn:n<=N)(h:Z1r f p n):Ziv f N (fun r=>1<=r.1/\r.1<=N/\KP N r.2/\Ziw f r.2 r.1) (kas_tail3 n N p):=by
 unfold kas_tail3
 refine Vu _ (Wn (fun m ⟨a,b,c,_⟩=>?_) _ (Zmu o (Zrl hp hn) (N-n) n h1 (by omega) (Zva hp hn h)))
 exact⟨by omega,by omega,Zrl hp hn,c⟩
theorem Ztx(o:Zb4 f N){p:Array Nat}(hp:KP N p)(h1:1<=N):Ziv f N (fun r=>1<=r.1/\r.1<=N/\KP N r.2/\Ziw f r.2 r.1) (kas_count N p):=by
 unfold kas_count
 refine Vu _ (Wn (fun m ⟨a,b,c,d⟩=>?_) _ (Zmu o hp (N-1) 1 (Qj _) (by omega) (fun i j hij hj=>by omega)))
 by_cases e:m=N
 ·rw[if_pos (by simpa using e)]
  exact⟨by omega,by omega,hp,c⟩
 ·rw[if_neg (by simpa using e)]
  have d':=d (by omega)
  by_cases e1:m>1
  ·rw[if_pos e1]
   refine⟨hp.lt 0 (by omega),hp.lt (m-1) (by omega),?_⟩
   have:f (p.getD 0 0) (p.getD (m-1) 0)=true:=c 0 (m-1) (by omega) (by omega)
   rw[this]
   exact⟨by omega,(by show m<=N;omega),hp,c⟩
  ·rw[if_neg e1]
   have em:m=1:=by omega
   subst em
   unfold kas_descPart
   refine Vu _ (Wn (fun r ⟨a1,a2,a3,a4,a5⟩=>?_) _ (Zn8 o hp (N-2) 2 (by omega) (by omega) ?_))
   ·intro i j hij hj
    have ei:i=0:=by omega
    have ej:j=1:=by omega
    subst ei;subst ej
    exact d'
   ·rw[if_neg (by omega),a1]
    exact Zqy o hp (by omega) (by omega) a5
theorem Zdv{p:Array Nat}(o:Zb4 f N)(hp:KP N p){k:Nat}(hk:k<N)(hr:Ziw f p k):∀(t l r:Nat),r-l<=t->l<=r->r<=k->(∀i,i<l->f (ka p i) (ka p k)=true)->(∀i,r<=i->i<k->f (ka p k) (ka p i)=true) ->
  Ziv f N (fun m=>m<=k/\(∀i,i<m->f (ka p i) (ka p k)=true)/\(∀i,m<=i->i<k->f (ka p k) (ka p i)=true)) (kas_place p k t l r)
 |0,l,r,h0,h1,h2,h3,h4=>⟨by omega,h3,fun i hi hk=>h4 i (by omega) hk⟩
 |t+1,l,r,h0,h1,h2,h3,h4=>by
  unfold kas_place
  by_cases e:l≥r
  ·rw[if_pos e];exact⟨by omega,h3,fun i hi hk=>h4 i (by omega) hk⟩
  ·rw[if_neg e]
   refine⟨hp.lt k hk,hp.lt _ (by omega),?_⟩
   cases c:f (p.getD k 0) (p.getD ((l+r)/2) 0) with
   |true =>
    show Ziv f N _ (kas_place p k t l ((l+r)/2))
    refine Zdv o hp hk hr t l _ (by omega) (by omega) (by omega) h3 fun i hi hik=>?_
    by_cases ei:i=(l+r)/2
    ·rw[ei];exact c
    ·exact o.tr _ _ _ (hp.lt k hk) (hp.lt ((l+r)/2) (by omega)) (hp.lt i (by omega)) c (hr _ _ (by omega) hik)
   |false =>
    show Ziv f N _ (kas_place p k t ((l+r)/2+1) r)
    have hl:f (ka p ((l+r)/2)) (ka p k)=true:=by
     rcases o.tot (ka p ((l+r)/2)) (ka p k) (hp.lt _ (by omega)) (hp.lt _ (by omega)) (fun z=>by have:=hp.inj _ _ (by omega) (by omega) z;omega) with z|z
     ·exact z
     ·exact absurd (c.symm.trans z) (by decide)
    refine Zdv o hp hk hr t _ r (by omega) (by omega) (by omega) (fun i hi=>?_) h4
    by_cases ei:i=(l+r)/2
    ·rw[ei];exact hl
    ·exact o.tr _ _ _ (hp.lt i (by omega)) (hp.lt ((l+r)/2) (by omega)) (hp.lt k (by omega)) (hr _ _ (by omega) (by omega)) hl
theorem Ze2{p:Array Nat}{k m:Nat}(hk:k<p.size)(hm:m<=k)(i:Nat):ka (bubble p k (k-m)) i=if i=m then ka p k else if m<i/\i<=k then ka p (i-1) else ka p i:=by
 have e:=getElem?_bubble hk (k-m) (by omega) i
 have em:k-(k-m)=m:=by omega
 rw[em]at e
 split at e
 ·rename_i h;rw[if_pos h];exact Zef e
 ·rename_i h
  rw[if_neg h]
  split at e
  ·rename_i h2;rw[if_pos h2];exact Zef e
  ·rename_i h2;rw[if_neg h2];exact Zef e
theorem Zt6(o:Zb4 f N):∀(t:Nat) (p:Array Nat) (k:Nat),KP N p->k+t=N->Ziw f p k->Ziv f N (fun q=>KP N q/\Ziw f q N) (kas_bin t p k)
 |0,p,k,hp,hk,h=>by
  have:k=N:=by omega
  subst this
  exact⟨hp,h⟩
 |t+1,p,k,hp,hk,h=>by
  unfold kas_bin
  refine Vu _ (Wn (fun m ⟨a,b,c⟩=>?_) _ (Zdv o hp (by omega) h k 0 k (by omega) (QZ _) (Qj _) (fun i hi=>absurd hi (by omega)) (fun i hi hk=>absurd hk (by omega))))
  have hs:k<p.size:=by rw[hp.size];omega
  refine Zt6 o t _ (k+1) ⟨by rw[bubble_size,hp.size],fun i hi=>?_,fun i j hi hj e=>?_⟩ (by omega) fun i j hij hj=>?_
  ·rw[Ze2 hs a]
   split
   ·exact hp.lt _ (by omega)
   ·split<;>exact hp.lt _ (by omega)
  ·rw[Ze2 hs a,Ze2 hs a]at e
   repeat' split at e
   all_goals
    have:=hp.inj _ _ (by omega) (by omega) e
    omega
  ·rw[Ze2 hs a,Ze2 hs a]
   by_cases hi1:i=m
   ·rw[if_pos hi1,if_neg (by omega),if_pos (by omega)]
    exact c _ (by omega) (by omega)
   ·rw[if_neg hi1]
    by_cases hj1:j=m
    ·rw[if_neg (by omega),if_pos hj1]
     exact b _ (by omega)
    ·rw[if_neg hj1]
     by_cases hi2:m<i/\i<=k
     ·rw[if_pos hi2,if_pos (by omega)]
      exact h _ _ (by omega) (by omega)
     ·rw[if_neg hi2]
      by_cases hj2:m<j/\j<=k
      ·rw[if_pos hj2];exact h _ _ (by omega) (by omega)
      ·rw[if_neg hj2];exact h _ _ (by omega) (by omega)
theorem Vt(N i:Nat):ka (List.toArray (List.range N)) i=if i<N then i else 0:=by
 unfold ka
 rw[Jo]
 by_cases h:i<N
 ·rw[if_pos h];simp[h]
 ·rw[if_neg h];simp[h]
theorem Zka(o:Zb4 f N)(h1:1<=N):Ziv f N (fun q=>KP N q/\Ziw f q N) (kas_sort N):=by
 unfold kas_sort
 have hp:KP N (List.toArray (List.range N)):=⟨by simp,fun i hi=>by rw[Vt,if_pos hi];exact hi,fun i j hi hj e=>by rw[Vt,Vt,if_pos hi,if_pos hj]at e;exact e⟩
 refine Vu _ (Wn (fun r ⟨a,b,c,d⟩=>?_) _ (Ztx o hp h1))
 by_cases e:r.1<N
 ·rw[if_pos e]
  have em:max r.1 1=r.1:=by omega
  rw[em]
  exact Zt6 o _ _ _ c (by omega) d
 ·rw[if_neg e]
  have:r.1=N:=by omega
  rw[this]at d
  exact⟨c,d⟩
end
end L2

namespace L2
open PySem PySem.W PySem.Spec PyProof.Rows HT
theorem Zao{α:Type}(l:List α)(d:α):(List.range l.length).map (fun i=>l.getD i d)=l:=by
 apply JL
 intro i
 rw[QC]
 by_cases h:i<l.length
 ·rw[List.getElem?_range h];simp[h]
 ·rw[QA (by simpa using h),QA (by omega)];rfl
theorem Zsw(N:Nat):KP N (List.toArray (List.range N)):=⟨by simp,fun i hi=>by rw[Vt,if_pos hi];exact hi,fun i j hi hj e=>by rw[Vt,Vt,if_pos hi,if_pos hj]at e;exact e⟩
section
variable{prog:Program}{w:World}{A:Around}{E:Value->Shared->Prop}{s:Shared}
def Zoe(prog:Program)(w:World)(A:Around)(s:Shared)(vs:List Value)(lt:Nat->Nat->Bool):Prop:=∃κ,(∀Q:SortKind->Shared->Prop,Q κ s->wpAny (model prog w) A (keyKind' vs.toArray) Q (fun _ _=>False) s) /\
 ∀i j (C:Bool->Shared->Prop),i<vs.length->j<vs.length->C (lt i j) s->kas_ask prog w A κ vs i j C s
theorem Zhz{a:Addr}{vs:List Value}{n:Nat}{P:PySem.Fin->Shared->Prop}{lt:Nat->Nat->Bool}(ho:s.heap.get? a=some (seqObj "list" vs.toArray n))(h64:vs.length<64)(o:Zb4 lt vs.length)
  (hk:2<=vs.length->∀h':Heap,(∀b o,b≠a->s.heap.get? b=some o->h'.get? b=some o)->Zoe prog w A { s with heap:=h' } vs lt)
  (h:∀p:Array Nat,KP vs.length p->Ziw lt p vs.length->P (.done (.ret .none)) { s with heap:=sortedHeap s.heap a vs (List.toArray (p.toList.map fun i=>vs.getD i Value.none)) }) :
  wpAny (model prog w) A (Builtin.«list.sort» ⟨[.ref a],[]⟩) P E s:=by
 rw[list_sort_plain]
 have ha:a<s.heap.objs.size:=Qr ho
 refine Qa (JF ho rfl ?_)
 refine Qa (listUpdate_at ho rfl ?_ (by rw[Ql,Q3];omega) (QZ _))
 obtain⟨e1,ho1⟩:∃e1,(s.heap.update a (Obj.mapSeq fun _=>(#[]:Array Value))).get? a=some (seqObj "list" #[] e1):=⟨_,get?_update_seq ho fun _=>#[]⟩
 refine Qa (seqEpoch_at ho1 rfl ?_)
 refine Qa (wpAny_newTuple ?_ (by show vs.length<=_;rw[Q3];omega))
 refine Qa (wpAny_newList ?_ (QZ _))
 refine Jf ?_
 have ho6:(((s.heap.update a (Obj.mapSeq fun _=>(#[]:Array Value))).push (seqObj "tuple" vs.toArray 0)).push (seqObj "list" #[] 0)).get? a=some (seqObj "list" #[] e1):=by
  rw[Heap.get?_push_ne _ _ _ (by rw[size_push',Heap.size_update];exact Qy (Jc ha)),Heap.get?_push_ne _ _ _ (by rw[Heap.size_update];exact Qy ha)]
  exact ho1
 have keep:∀b o,b≠a->s.heap.get? b=some o->(((s.heap.update a (Obj.mapSeq fun _=>(#[]:Array Value))).push (seqObj "tuple" vs.toArray 0)).push (seqObj "list" #[] 0)).get? b=some o:=fun b o hb e =>
  Qf _ (Qf _ (((JH s.heap a (Obj.mapSeq fun _=>(#[]:Array Value))).2 b hb).trans e))
 show wpAny (model prog w) A _ P E { s with heap:=((s.heap.update a (Obj.mapSeq fun _=>(#[]:Array Value))).push (seqObj "tuple" vs.toArray 0)).push (seqObj "list" #[] 0) }
 dsimp only
 by_cases h2:vs.toArray.size<2
 ·rw[if_pos h2,if_pos h2]
  refine Qa (Qh ?_)
  rw[StateT.run_pure]
  refine Qa (Qh ?_)
  dsimp only
  have es:(arrOf (SortSt.mk' general' (vs.toArray.zip vs.toArray) #[] 7 none)).map (·.2)=List.toArray ((List.toArray (List.range vs.length)).toList.map fun i=>vs.getD i Value.none):=by
   show(pairsOf vs).map (·.2)=_
   apply Array.toList_inj.mp
   rw[Array.toList_map,pairsOf_toList]
   show(vs.zip vs).map Prod.snd=(List.range vs.length).map fun i=>vs.getD i Value.none
   rw[List.map_snd_zip (Qj _),Zao]
  rw[es]
  refine Qa (seqEpoch_at ho6 rfl ?_)
  refine Qa (listUpdate_at ho6 rfl ?_ (QZ _) (by rw[Ql,Qb];simp[Q3];omega))
  simp only[bne_self_eq_false,Qo,if_false]
  refine Qh (h _ (Zsw _) fun i j hij hj=>?_)
  rw[Ql]at h2;omega
 ·rw[if_neg h2,if_neg h2]
  rw[Ql]at h2
  obtain⟨κ,hkk,hask⟩:=hk (by omega) _ keep
  refine Qa (Jx (hkk (fun k s'=>k=κ/\s'=_) ⟨rfl,rfl⟩) (fun κ' s0 hk=>?_) fun _ _ x=>x.elim)
  obtain⟨rfl,rfl⟩:=hk
  refine Qa (Jx (kat_run (Q:=fun st' s'=>s'={ s with heap:=((s.heap.update a (Obj.mapSeq fun _=>(#[]:Array Value))).push (seqObj "tuple" vs.toArray 0)).push (seqObj "list" #[] 0) }/\∃p:Array Nat,arrOf st'=p.map (kas_item (vs.toArray.zip vs.toArray))/\failedOf st'=none/\KP vs.length p/\Ziw lt p vs.length)
   (G:=fun p s'=>s'={ s with heap:=((s.heap.update a (Obj.mapSeq fun _=>(#[]:Array Value))).push (seqObj "tuple" vs.toArray 0)).push (seqObj "list" #[] 0) }/\KP vs.length p/\Ziw lt p vs.length)
   rfl (by omega) h64 (fun p' st' s' a1 a2 a3 a4=>⟨a4.1,p',a2,a3,a4.2⟩)
   (Zsx (J:=fun s'=>s'=_) (fun i j C s' hi hj hs hC=>by subst hs;exact hask i j C hi hj (hC _ rfl)) (fun p s' hp hs=>⟨hs,hp⟩) _ _ rfl (Zka o (by omega)))) ?_ fun _ _ e=>e)
  rintro⟨⟨⟩,st'⟩ s' ⟨rfl,p,har,hf,hp,hr⟩
  dsimp only
  have hout:=kat_snds rfl har
  rw[hout]
  refine Qa (seqEpoch_at ho6 rfl ?_)
  refine Qa (listUpdate_at ho6 rfl ?_ (QZ _) (by rw[Ql,Qb,QU,hp.size,Q3];omega))
  rw[hf]
  simp only[bne_self_eq_false,Qo,if_false]
  exact Qh (h p hp hr)
theorem Zf2{l:Addr}{vs:List Value}{Q:Value->Shared->Prop}{lt:Nat->Nat->Bool}(hl:s.heap.IsList l vs.toArray)(h64:vs.length<64)(o:Zb4 lt vs.length)
  (hk:2<=vs.length->∀h':Heap,(∀b o,s.heap.get? b=some o->h'.get? b=some o)->Zoe prog w A.in1.in1 { s with heap:=h' } vs lt)
  (h:∀p:Array Nat,KP vs.length p->Ziw lt p vs.length->Q (.ref (s.heap.objs.size+1)) { s with heap:=sortedAll s.heap vs (List.toArray (p.toList.map fun i=>vs.getD i Value.none)) }) :
  wpAny (model prog w) A (call (.builtin "sorted") [.ref l]) Q E s:=by
 refine Calls.call_function_entry kind_sorted plain_sorted entry_sorted (args_sorted1 _) ?_
 unfold Builtin.«sorted»
 refine Qa (m:=checkCount "sorted" 1 1 _) (Qh ?_)
 refine Qa (collect_list hl ?_ (by rw[Q3];omega))
 refine Qa (wpAny_newList ?_ (by rw[Q3];omega))
 have hsz:((s.heap.push (seqObj "list" #[] 0)).update s.heap.objs.size (Obj.mapSeq (·++vs.toArray))).objs.size=s.heap.objs.size+1:=by
  rw[Heap.size_update,size_push']
 have hoL:(((s.heap.push (seqObj "list" #[] 0)).update s.heap.objs.size (Obj.mapSeq (·++vs.toArray))).push (seqObj "list" vs.toArray 0)).get? (s.heap.objs.size+1)=some (seqObj "list" vs.toArray 0):=by
  rw[<- hsz];exact Qv _ rfl
 have keep:∀b o,s.heap.get? b=some o->(((s.heap.push (seqObj "list" #[] 0)).update s.heap.objs.size (Obj.mapSeq (·++vs.toArray))).push (seqObj "list" vs.toArray 0)).get? b=some o:=fun b o q=>by
  have hlt:b<s.heap.objs.size:=Qr q
  rw[Heap.get?_push_ne _ _ _ (by rw[hsz];exact Qy (Jc hlt)),Heap.get?_update_ne _ _ _ _ (Qy hlt),Heap.get?_push_ne _ _ _ (Qy hlt)]
  exact q
 show wpAny _ _ _ _ _ { s with heap:=((s.heap.push (seqObj "list" #[] 0)).update s.heap.objs.size (Obj.mapSeq (·++vs.toArray))).push (seqObj "list" vs.toArray 0) }
 rw[hsz]
 refine Qa (Jf (Jq slot_list_sort ⟨_,hoL,rfl⟩ entry_list_sort (Zhz (s:={ s with heap:=((s.heap.push (seqObj "list" #[] 0)).update s.heap.objs.size (Obj.mapSeq (·++vs.toArray))).push (seqObj "list" vs.toArray 0) }) hoL h64 o (fun h2 h' hk'=>hk h2 h' fun b o e=>hk' b o (Qy (Jc (Qr e))) (keep b o e)) fun p hp hr=>⟨_,rfl,?_⟩) (args_list_sort _)))
 exact Qh ⟨_,rfl,h p hp hr⟩
theorem Zj7{b:Bool}{Q:Bool->Shared->Prop}:∀{xs ys:List Value} {as bs:List Int} (i:Nat),IntsAre xs as->IntsAre ys bs->Q (HT.lexLt as bs) s->KatLex prog w A b (decide (xs.length<ys.length)) Q (xs.zip ys) i s
 |[],[],_,_,i,.nil,.nil,h=>h
 |[],_::ys,_,_,i,.nil,.cons n t _,h=>by rw[show decide (([]:List Value).length<(Value.int n t::ys).length)=true by simp];exact h
 |_::xs,[],_,_,i,.cons n t _,.nil,h=>by rw[show decide ((Value.int n t::xs).length<([]:List Value).length)=false by simp];exact h
 |_::xs,_::ys,_,_,i,.cons m t hx,.cons n u hy,h=>by
  rw[Jg]
  refine kat_cons (wpAny_eqBool_int ?_)
  have el:decide ((Value.int m t::xs).length<(Value.int n u::ys).length)=decide (xs.length<ys.length):=by simp
  rw[el]
  rw[Wd]at h
  by_cases e:m=n
  ·rw[show(m == n)=true by simpa using e]
   rw[if_pos e]at h
   exact kat_yes (Zj7 (i+1) hx hy h)
  ·rw[show(m == n)=false by simpa using e]
   rw[if_neg e]at h
   refine kat_no ?_
   cases hb:(b&&i == 0) with
   |true=>exact oneLt_int h
   |false=>exact kat_one _ _ (lt_int h)
end
theorem XS:∀a:List Int,HT.lexLt a a=false
 |[]=>rfl
 |x::a=>by rw[Wd,if_pos rfl];exact XS a
theorem Wl:∀a b c:List Int,HT.lexLt a b=true->HT.lexLt b c=true->HT.lexLt a c=true
 |[],[],_,h,_=>by cases h
 |[],_::_,[],_,h=>by cases h
 |[],_::_,_::_,_,_=>rfl
 |_::_,[],_,h,_=>by cases h
 |_::_,_::_,[],_,h=>by cases h
 |x::a,y::b,z::c,h1,h2=>by
  rw[Wd]at h1 h2 ⊢
  by_cases e1:x=y
  ·rw[if_pos e1]at h1
   by_cases e2:y=z
   ·rw[if_pos e2]at h2
    rw[if_pos (e1.trans e2)];exact Wl a b c h1 h2
   ·rw[if_neg e2]at h2
    subst e1
    rw[if_neg e2];exact h2
  ·rw[if_neg e1]at h1
   have h1':=of_decide_eq_true h1
   by_cases e2:y=z
   ·subst e2
    rw[if_neg e1];exact h1
   ·rw[if_neg e2]at h2
    have h2':=of_decide_eq_true h2
    rw[if_neg (by omega)];exact decide_eq_true (by omega)
theorem Vd{a b:List Int}(h:HT.lexLt a b=true):HT.lexLt b a=false:=by
 cases e:HT.lexLt b a with
 |false=>rfl
 |true=>have:=Wl a b a h e;rw[XS]at this;cases this
theorem XR:∀a b:List Int,a≠b->HT.lexLt a b=true\/HT.lexLt b a=true
 |[],[],h=>absurd rfl h
 |[],_::_,_=>.inl rfl
 |_::_,[],_=>.inr rfl
 |x::a,y::b,h=>by
  rw[Wd,Wd]
  by_cases e:x=y
  ·subst e
   rw[if_pos rfl,if_pos rfl]
   exact XR a b fun z=>h (by rw[z])
  ·rw[if_neg e,if_neg (fun z=>e z.symm)]
   by_cases l:x<y
   ·exact .inl (decide_eq_true l)
   ·exact .inr (decide_eq_true (by omega))
def VZ(a b:List Int):Bool:=!HT.lexLt b a
theorem Zcg(a b c:List Int)(h1:VZ a b=true)(h2:VZ b c=true):VZ a c=true:=by
 unfold VZ at *
 simp only[Bool.not_eq_true',Bool.not_eq_true]at *
 cases e:HT.lexLt c a with
 |false=>rfl
 |true =>
  by_cases e2:b=c
  ·subst e2;rw[e]at h1;cases h1
  ·rcases XR b c e2 with z|z
   ·have:=Wl b c a z e;rw[this]at h1;cases h1
   ·rw[z]at h2;cases h2
theorem Zch(a b:List Int):(VZ a b||VZ b a)=true:=by
 unfold VZ
 cases e:HT.lexLt b a with
 |false=>rfl
 |true=>rw[Vd e];rfl
def W4(ks:List (List Int)):List (List Int):=ks.mergeSort VZ
def Znv(is:List Int):List Int:=is.mergeSort fun a b=>decide (a<=b)
theorem Zaz{a b:List Int}(hp:a.Perm b)(hs:a.Pairwise (·<=·)):a=Znv b:=by
 refine List.Perm.eq_of_pairwise (le:=fun x y=>x<=y) (fun x y _ _ h1 h2=>Int.le_antisymm h1 h2) hs ?_ (hp.trans (JA b _).symm)
 exact(List.pairwise_mergeSort (le:=fun a b=>decide (a<=b)) (fun x y z h1 h2=>decide_eq_true (Int.le_trans (of_decide_eq_true h1) (of_decide_eq_true h2))) (fun x y=>by simp;omega) b).imp fun h=>of_decide_eq_true h
theorem Zah{a b:List (List Int)}(hp:a.Perm b)(hs:a.Pairwise (fun x y=>HT.lexLt x y=true)):a=W4 b:=by
 refine List.Perm.eq_of_pairwise (le:=fun x y=>VZ x y=true) (fun x y _ _ h1 h2=>?_) (hs.imp fun h=>?_) (List.pairwise_mergeSort Zcg Zch b) (hp.trans (JA b _).symm)
 ·apply QD
  intro hne
  unfold VZ at h1 h2
  rcases XR x y hne with z|z
  ·rw[z]at h2;cases h2
  ·rw[z]at h1;cases h1
 ·unfold VZ;rw[Vd h];rfl
def Zg5:D->Option (List Int)
 |.tup ds=>XI ds
 |_=>none
def UT:List D->Option (List (List Int))
 |[]=>some []
 |d::ds=>(Zg5 d).bind fun k=>(UT ds).bind fun ks=>some (k::ks)
def kT(k:List Int):D:=.tup (k.map D.int)
theorem Zg4{d:D}{k:List Int}(h:Zg5 d=some k):d=kT k:=by
 cases d with
 |tup ds=>rw[show ds=k.map D.int from Xg h];rfl
 |_=>cases h
theorem W3:∀{ds:List D} {ks:List (List Int)},UT ds=some ks->ds=ks.map kT
 |[],_,h=>by cases h;rfl
 |d::ds,_,h=>by
  obtain⟨k,e1,h⟩:=bind_some h
  obtain⟨ks,e2,h⟩:=bind_some h
  cases h
  rw[Zg4 e1,W3 e2];rfl
theorem Zlj(k:List Int):Zg5 (kT k)=some k:=VM k
theorem VA:∀ks:List (List Int),UT (ks.map kT)=some ks
 |[]=>rfl
 |k::ks=>by rw[Qe];unfold UT;rw[Zlj,VA ks];rfl
def Y0:List D->Option D
 |[.lst ds]=>(match XI ds with
  |some is=>if is.length<64 then some (.lst ((Znv is).map .int)) else none
  |none=>(match UT ds with
   |some ks=>if ks.length<64/\ks.Nodup/\(∀k∈ks,k≠[]) then some (.lst ((W4 ks).map kT)) else none
   |none=>none))
 |_=>none
theorem Zpe{ks:List (List Int)}(nd:ks.Nodup):Zb4 (fun i j=>HT.lexLt (ks.getD i []) (ks.getD j [])) ks.length :=
 ⟨fun a b c _ _ _ h1 h2=>Wl _ _ _ h1 h2,fun a b _ _ h=>Vd h,fun a b ha hb hne=>XR _ _ fun z=>hne (by
  have e1:ks.getD a []=ks[a]:=by simp[ha]
  have e2:ks.getD b []=ks[b]:=by simp[hb]
  rw[e1,e2]at z
  exact(List.getElem_inj nd).mp z)⟩
theorem Zc3{N:Nat}{p:Array Nat}(h:KP N p):p.toList.Perm (List.range N):=by
 have hl:p.toList.length=N:=by rw[QU];exact h.size
 have hk:∀i (hi:i<p.toList.length),p.toList[i]=ka p i:=fun i hi=>by
  unfold ka
  rw[Jo,Jw (by rw[h.size];omega)]
  simp
 have nd:p.toList.Nodup:=by
  rw[List.nodup_iff_pairwise_ne,List.pairwise_iff_getElem]
  intro i j hi hj hij e
  rw[hk,hk]at e
  have:=h.inj i j (by omega) (by omega) e
  omega
 have lt:∀x∈p.toList,x<N:=fun x hx=>by
  obtain⟨i,hi,e⟩:=List.getElem_of_mem hx
  rw[<- e,hk];exact h.lt i (by omega)
 exact(List.perm_ext_iff_of_nodup nd List.nodup_range).mpr fun a=>⟨fun ha=>QK.mpr (lt a ha),fun ha=>M.full_mem N _ nd lt hl a (QK.mp ha)⟩
theorem Zpc{ks:List (List Int)}{p:Array Nat}(h:KP ks.length p)(hr:Ziw (fun i j=>HT.lexLt (ks.getD i []) (ks.getD j [])) p ks.length):p.toList.map (fun i=>ks.getD i [])=W4 ks:=by
 refine Zah ?_ ?_
 ·have:=(Zc3 h).map (fun i=>ks.getD i [])
  rwa[Zao]at this
 ·rw[Q0,List.pairwise_iff_getElem]
  intro i j hi hj hij
  have hl:p.toList.length=ks.length:=by rw[QU];exact h.size
  have hk:∀i (hi:i<p.toList.length),p.toList[i]=ka p i:=fun i hi=>by
   unfold ka
   rw[Jo,Jw (by rw[h.size];omega)]
   simp
  rw[hk,hk]
  exact hr i j hij (by omega)
section
variable{X:Cx}{pins:List (Addr×Obj)}{σ:St}{H:Hp}{s:Shared}
def Xo(h:Heap):List (List Int)->List Value->Prop
 |[],us=>us=[]
 |k::ks,us=>∃a its r,us=.ref a::r/\IntsAre its k/\IsTup h a its.toArray/\Xo h ks r
theorem Zcw(I:ZA X pins σ H s):∀{ks:List (List Int)} {vs:List V} {us:List Value},Zr X.K H (ks.map kT) vs->ZM vs us->Xo s.heap ks us
 |[],_,_,r,rv=>by
  have:_=[]:=r
  subst this
  cases rv;rfl
 |k::ks,_,_,⟨v,vr,e,⟨a,xs,ev,ha,rx⟩,t⟩,rv=>by
  subst e;subst ev
  cases rv with
  |cons r1 YK =>
   cases r1
   cases rx.ints
   obtain⟨its,r2,pl,_⟩:=I.tuple (Wx.of ha)
   exact⟨a,its,_,rfl,XJ r2,pl,Zcw I t YK⟩
theorem Xo.keep{h h':Heap}(k:∀b o,h.get? b=some o->h'.get? b=some o):∀{ks:List (List Int)} {us:List Value},Xo h ks us->Xo h' ks us
 |[],_,e=>e
 |_::_,_,⟨a,its,r,e,i,t,q⟩=>⟨a,its,r,e,i,t.keeps k,q.keep k⟩
theorem Xo.len{h:Heap}:∀{ks:List (List Int)} {us:List Value},Xo h ks us->us.length=ks.length
 |[],_,e=>by rw[show _=_ from e];rfl
 |_::_,_,⟨a,its,r,e,i,t,q⟩=>by rw[e,Qk,Qk,q.len]
theorem Xo.get{h:Heap}:∀{ks:List (List Int)} {us:List Value} {i:Nat},Xo h ks us->i<ks.length->∃a its,us.getD i Value.none=.ref a/\IntsAre its (ks.getD i [])/\IsTup h a its.toArray
 |_::_,_,0,⟨a,its,r,e,i,t,q⟩,_=>⟨a,its,by rw[e];rfl,by simpa using i,t⟩
 |_::ks,_,j+1,⟨a,its,r,e,i,t,q⟩,hj=>by
  obtain⟨a',its',h1,h2,h3⟩:=q.get (i:=j) (by simpa using hj)
  exact⟨a',its',by rw[e];simpa using h1,by simpa using h2,h3⟩
theorem Xo.tups{h:Heap}:∀{ks:List (List Int)} {us:List Value},Xo h ks us->(∀k∈ks,k≠[])->∃fs,KatTups h us fs/\fs.length=ks.length/\∀f∈fs,∃n t,f=Value.int n t
 |[],_,e,_=>by rw[show _=_ from e];exact⟨[],trivial,rfl,fun f hf=>by cases hf⟩
 |k::ks,_,⟨a,its,r,e,i,⟨o,ho,hc,n,hd⟩,q⟩,hne=>by
  obtain⟨fs,h1,h2,h3⟩:=q.tups fun k hk=>hne k (Qc _ hk)
  cases i with
  |nil=>exact absurd rfl (hne [] Qd)
  |cons m t hx =>
   refine⟨.int m t::fs,by rw[e];exact KatTups.cons ho hc hd (by simp) h1,by simp[h2],fun f hf=>?_⟩
   rcases Qm.mp hf with z|z
   ·exact⟨m,t,z⟩
   ·exact h3 f z
theorem Z1d{prog:Program}{w:World}{A:Around}{ks:List (List Int)}{us:List Value}(h:Xo s.heap ks us)(hne:∀k∈ks,k≠[])(h2:2<=us.length):Zoe prog w A s us (fun i j=>HT.lexLt (ks.getD i []) (ks.getD j [])):=by
 have hl:=h.len
 obtain⟨fs,h3,h4,h5⟩:=h.tups hne
 refine⟨_,fun Q hq=>kat_kind (T:=Value.type "int") h3 (by omega) (fun v hv=>?_) (by decide) hq,fun i j C hi hj hc=>?_⟩
 ·obtain⟨n,t,rfl⟩:=h5 v hv
  exact .now
 ·obtain⟨a,its,e1,i1,⟨o1,ho1,_,n1,hd1⟩⟩:=h.get (i:=i) (by omega)
  obtain⟨b,jts,e2,i2,⟨o2,ho2,_,n2,hd2⟩⟩:=h.get (i:=j) (by omega)
  unfold kas_ask
  rw[e1,e2]
  refine kat_lt ho1 hd1 ho2 hd2 ?_
  have:=Zj7 (prog:=prog) (w:=w) (A:=A) (b:=(Value.type "int" != Value.type "tuple")) (s:=s) (Q:=C) 0 i1 i2 hc
  simpa using this
theorem Zbm{K:PySem.W.Frag}{ds:List D}{vs:List V}(r:Zr K H ds vs):∀(l:List Nat),(∀i∈l,i<ds.length)->Zr K H (l.map fun i=>ds.getD i .non) (l.map fun i=>vs.getD i .non)
 |[],_=>rfl
 |i::l,h=>by
  have hi:=h i Qd
  obtain⟨v,e1,e2⟩:=r.get (Qq hi)
  refine⟨vs.getD i .non,_,rfl,?_,Zbm r l fun j hj=>h j (Qc _ hj)⟩
  show Y8 K H (ds.getD i .non) _
  rw[Qx,Qx,e1,Qq hi]
  exact e2
theorem Zbf{vs:List V}{us:List Value}(r:ZM vs us):∀(l:List Nat),(∀i∈l,i<vs.length)->ZM (l.map fun i=>vs.getD i .non) (l.map fun i=>us.getD i Value.none)
 |[],_=>.nil
 |i::l,h=>by
  refine .cons ?_ (Zbf r l fun j hj=>h j (Qc _ hj))
  have hi:=h i Qd
  clear h
  induction r generalizing i with
  |nil=>simp at hi
  |cons a b ih =>
   cases i with
   |zero=>simpa using a
   |succ i=>simpa using ih i (by simpa using hi)
theorem Zaf:∀{us:List Value} {ns:List Int},IntsAre us ns->ZM (ns.map V.int) us
 |_,_,.nil=>.nil
 |_,_,.cons n t h=>.cons ⟨t,rfl⟩ (Zaf h)
theorem UI(hc:X.calm=true)(hu:X.A.units+64<cLine):Xu X (.builtin "sorted") Y0:=by
 intro pins s σ H xs us Q I rs h
 obtain⟨O,ds,d,th,rp,e,q⟩:=h
 unfold Y0 at e
 split at e
 ·rename_i es
  obtain⟨v,rfl,p,vs,rfl,hp,r2⟩:=Zas rp
  obtain⟨u,rfl,ru⟩:=WB rs
  cases ru
  obtain⟨its,rv,pl,_⟩:=I.list (XX.of (Zf _ _ hp))
  split at e
  ·rename_i is ei
   split at e
   ·rename_i h64
    cases e
    cases Xg ei
    cases r2.ints
    have hi:=XJ rv
    have hl:its.length=is.length:=hi.length
    refine sorted_ints pl.isList hi (by omega) fun out ns' a1 a2 a3=>?_
    obtain⟨ep,he⟩:=sortedAll_at s.heap its out
    cases Zaz a2 a3
    refine⟨.ref (s.heap.objs.size+1),_,I.laid (o:=.lst ((Znv is).map V.int)) (fun _ _=>sortedAll_old) (Jv _) ⟨?_,out.toList,ep,Zaf a1,he⟩,rfl,q _ _ (Zg.new (I.hok.fresh (Jv _))) (YD th (I.hok.fresh (Jv _)) (WL _))⟩
    rw[Qb,a2.length_eq,Q3];omega
   ·cases e
  ·split at e
   ·rename_i ks ek
    split at e
    ·rename_i h64
     cases e
     cases W3 ek
     obtain⟨h64,nd,hne⟩:=h64
     have rm:=Zr.mono Zf _ _ r2
     have ta:=Zcw I rm rv
     have hl:=ta.len
     have hvl:=r2.length
     rw[Qb]at hvl
     have ko:=Zpe nd
     rw[<- hl]at ko
     refine Zf2 pl.isList (by omega) ko (fun h2 h' hk=>Z1d (s:={ s with heap:=h' }) (ta.keep hk) hne h2) fun pm hkp hr=>?_
     rw[hl]at hkp hr
     obtain⟨ep,he⟩:=sortedAll_at s.heap its (List.toArray (pm.toList.map fun i=>its.getD i Value.none))
     have lt:∀i∈pm.toList,i<ks.length:=fun i hi=>QK.mp ((Zc3 hkp).mem_iff.mp hi)
     have r3:=Zbm r2 pm.toList (fun i hi=>by rw[Qb];exact lt i hi)
     have ed:(pm.toList.map fun i=>(ks.map kT).getD i .non)=(W4 ks).map kT:=by
      rw[<- Zpc hkp hr,QF]
      refine QQ fun i hi=>?_
      have:=lt i hi
      simp[Qx,this]
     rw[ed]at r3
     have v3:=Zbf rv pm.toList (fun i hi=>by rw[hvl];exact lt i hi)
     refine⟨.ref (s.heap.objs.size+1),_,I.laid (o:=.lst (pm.toList.map fun i=>vs.getD i .non)) (fun _ _=>sortedAll_old) (Jv _) ⟨?_,_,ep,v3,he⟩,rfl,q _ _ (Zg.new (I.hok.fresh (Jv _))) (YD th (I.hok.fresh (Jv _)) r3)⟩
     rw[Qb,QU,hkp.size,Q3];omega
    ·cases e
   ·cases e
 ·cases e
end
end L2

namespace L2
open PySem PySem.Spec PyProof.Rows
def Ite(K:PySem.W.Frag)(a:Addr):It :=
 ⟨fun i H=>∃xs x,XX K H a xs/\xs[i]?=some x,
  fun i H z H'=>∃T x,z=.ref T/\H T=none/\(∀xs,XX K H a xs->xs[i]?=some x)/\H'=YZ H T (.tup [.int (i:Int),x]),
  fun i H=>∃xs,XX K H a xs/\xs.length<=i⟩
def Z03(e it l:Addr)(i:Nat)(h:Heap):Prop:=(∃old,IsEnum h e it i old)/\h.IsListIter it l i
theorem Zoi{P:Program}{w:World}{K:PySem.W.Frag}{elts:List Expr}{kk:Nat}{pos:Pos}{e it l:Addr}(hei:e≠it)(hle:l≠e)(hli:l≠it) :
  Zmw P w K (.Tuple elts kk pos) (Ite K l) [e,it] e (Z03 e it l) where
 mem:=by simp
 obj:=fun i h ⟨⟨old,he⟩,⟨o,ho,_,hd⟩⟩ b hb=>by
  simp only[Qm,Q6,or_false]at hb
  rcases hb with rfl|rfl
  ·exact⟨_,he,fun v z=>by cases z⟩
  ·exact⟨o,ho,fun v z=>by rw[hd]at z;cases z⟩
 keep:=fun i h h' ⟨⟨old,he⟩,hit⟩ k=>⟨⟨old,k _ (by simp) _ he⟩,hit.at fun o x=>k _ (by simp) o x⟩
 item:=by
  intro X hP hw hK hc i pins s σ H E I hf st hg
  subst hP hw hK
  obtain⟨⟨old,he⟩,hit⟩:=st
  obtain⟨xs,x,q1,e1⟩:=hg
  obtain⟨is,r1,d1,z1⟩:=I.list q1
  obtain⟨xu,h1,rx⟩:=r1.get e1
  have oit:∃o,s.heap.get? it=some o:=let⟨o,ho,_⟩:=hit;⟨o,ho⟩
  refine wpAny_pyNext_enum_item he hit d1.isList (x:=xu) (by simpa using h1) hei fun h' ho hit' hT hsz hk=>?_
  refine⟨_,rfl,wpAny_letOwnedTupleGo_enum ho fun h'' he' hs'=>?_⟩
  have below:∀{b o},s.heap.get? b=some o->b≠s.heap.objs.size:=fun e=>Qy (Qr e)
  have kp:∀b o,b∉[e,it]->s.heap.get? b=some o->h''.get? b=some o:=fun b o hb q=>by
   simp only[Qm,Q6,or_false,not_or]at hb
   exact(hs'.2 b hb.1).trans (hk b o hb.1 hb.2 q)
  have ht:IsTup h'' s.heap.objs.size [Value.int (i:Int) s.toks,xu].toArray:=⟨_,(hs'.2 _ (fun z=>below he z.symm)).trans hT,rfl,0,rfl⟩
  refine⟨.ref s.heap.objs.size,_,I.turnNew (t':=s.toks+1) (vs:=[.int (i:Int),x]) hf kp (by rw[show sizeLine=16777216 from Q3];show 2<=16777216;decide) (.cons ⟨_,rfl⟩ (.cons rx .nil)) ht,rfl,?_,?_,?_⟩
  ·exact⟨_,x,rfl,I.hok.fresh (Qj _),fun zs hz'=>by rw[I.list_inj hz' q1];exact e1,rfl⟩
  ·exact⟨⟨xu,by simpa using he'⟩,hit'.at fun o y=>(hs'.2 it hei.symm).trans y⟩
  ·intro b hb
   rw[ZE]
   ·exact(hf b hb).1
   ·simp only[Qm,Q6,or_false]at hb
    obtain⟨o,w1⟩:=oit
    rcases hb with rfl|rfl
    ·exact below he
    ·exact below w1
 done:=by
  intro X hP hw hK hc i pins s σ H E I hf st hg
  subst hP hw hK
  obtain⟨⟨old,he⟩,hit⟩:=st
  obtain⟨xs,q1,hend⟩:=hg
  obtain⟨is,r1,d1,z1⟩:=I.list q1
  have l1:=r1.length
  refine wpAny_pyNext_enum_end (I.ok.hd hc) he hit d1.isList (by simp;omega) fun h' k=>⟨rfl,I.turnedAll (t':=s.toks) hf fun b o hb q=>?_⟩
  simp only[Qm,Q6,or_false,not_or]at hb
  exact k b o hb.2 q
 self:=fun _ _ _ _ _ st h=>let⟨⟨_,he⟩,_⟩:=st;wpAny_pyIter_enum he h
section
variable{X:Cx}{tg:Expr}
def iEnum(K:PySem.W.Frag)(t:TA):TI:=fun σ H R=>t σ H fun vs H1=>∃a xs,vs=[.ref a]/\XX K H1 a xs/\R (Ite K a) H1
theorem Zvs{elts:List Expr}{kk:Nat}{pos pp p:Pos}{a:Expr}{t:TA}(hm:X.mg "enumerate"=none)(ha:PA X [a] t)(hg:Gl X "enumerate":=by rfl)
  (hs:starEach [a] X.env=[(false,eval a X.env)]:=by rfl) :
  PI X (.Tuple elts kk pos) (.Call (.Name "enumerate" p) [a] [] pp) (iEnum X.K t):=by
 intro pins s σ H R I h
 refine Call_ (U1 I hg hm (show bootBuiltins "enumerate"=some (.type "enumerate") by decide+kernel) (Jy (Xd (ha pp pins s σ H _ I h) fun us s1 ⟨vs,H1,I1,r1,q1⟩=>?_) (by rw[hs];rfl) (by rfl)))
 obtain⟨a1,xs,rfl,q1,q⟩:=q1
 cases r1 with
 |cons ra rr =>
  cases rr
  cases ra
  obtain⟨is,v1,d1,_⟩:=I1.list q1
  obtain⟨o1,n1,ho1,_⟩:=d1
  have l1:a1<s1.heap.objs.size:=Qr ho1
  refine call_enumerate_list (I1.list q1).choose_spec.2.1.isList fun h' hE hI hsz hk=>?_
  refine wpAny_pyIter_enum hE ?_
  have I2:ZA X pins σ H1 { s1 with heap:=h' }:=I1.kept (t':=s1.toks) hk
  have fr:∀d,s1.heap.objs.size<=d->Zba X pins H1 d:=fun d hd=>I1.fpOk hd (I1.hok.fresh hd)
  refine⟨s1.heap.objs.size+1,[s1.heap.objs.size+1,s1.heap.objs.size],_,_,H1,rfl,I2,Zoi (l:=a1) (Nat.succ_ne_self _) (Qy (Jc l1)) (Qy l1),⟨⟨_,hE⟩,hI⟩,fun d hd=>?_,q⟩
  refine⟨(fr d ?_).1,(fr d ?_).2⟩<;>(simp only[Qm,Q6,or_false]at hd;rcases hd with rfl|rfl<;>first|exact Qj _|exact Nat.le_add_right _ _)
def Vl:Nat->List D->List D
 |_,[]=>[]
 |i,x::xs=>.tup [.int (i:Int),x]::Vl (i+1) xs
theorem Zeu:∀{k:Nat} {xs:List D} {i:Nat} {d:D},(Vl k xs)[i]?=some d->∃x,xs[i]?=some x/\d=.tup [.int ((k+i:Nat):Int),x]
 |k,x::xs,0,d,h=>⟨x,rfl,by simpa [Vl] using h.symm⟩
 |k,x::xs,i+1,d,h=>by
  obtain⟨p,h1,h3⟩:=Zeu (k:=k+1) (xs:=xs) (i:=i) (d:=d) (by simpa [Vl] using h)
  exact⟨p,by simpa using h1,by rw[h3,show k+1+i=k+(i+1) by omega]⟩
 |_,[],_,_,h=>by simp[Vl]at h
theorem Zet:∀(k:Nat) (xs:List D),(Vl k xs).length=xs.length
 |_,[]=>rfl
 |k,x::xs=>by simp only[Vl,Qk,Zet (k+1) xs]
def Zxv:D->Option (List D)
 |.lst ds=>some ds
 |_=>none
def Ztk(a:FE):FA:=fun ρ=>(a ρ).bind fun x=>(Zxv x).bind fun xs=>some (Vl 0 xs)
theorem Zwp{elts:List Expr}{kk:Nat}{pos pp p:Pos}{a:Expr}{fa:FE}(hm:X.mg "enumerate"=none)(ha:EV X a fa)(hg:Gl X "enumerate":=by rfl)
  (hs:starEach [a] X.env=[(false,eval a X.env)]:=by rfl) :
  IV X (.Tuple elts kk pos) (.Call (.Name "enumerate" p) [a] [] pp) (Ztk fa):=PI.imp (Zvs hm (XZ ha VJ (by rw[hs];rfl)) hg hs) fun σ H R ⟨O,ρ,ds,rv,e,q⟩=>by
 obtain⟨x,e1,e⟩:=bind_some e
 obtain⟨xs,e3,e⟩:=bind_some e
 cases e
 refine⟨O,ρ,x,rv,e1,fun v H1 s1 r1=>?_⟩
 cases x with
 |lst es =>
  cases e3
  obtain⟨a1,vs,rfl,k1,t1⟩:=r1
  refine⟨a1,vs,rfl,XX.of (Zf _ _ k1),q _ H1 s1 ?_⟩
  intro H3 O' s3 th i
  have j1:XX X.K H3 a1 vs:=Zg.seq Zf (Zg.seq s3 (XX.of k1))
  refine⟨fun d hd=>?_,fun hl=>⟨vs,j1,?_⟩⟩
  ·obtain⟨p,h1,rfl⟩:=Zeu hd
   obtain⟨vp,g1,g2⟩:=t1.get h1
   refine⟨⟨vs,vp,j1,g1⟩,fun z H4 ⟨T,x',ez,hT,f1,eh⟩=>?_⟩
   subst ez;subst eh
   have:=f1 vs j1
   rw[g1]at this;cases this
   refine⟨Zg.new hT,Xf th hT ?_⟩
   rw[Nat.zero_add]
   exact⟨_,_,rfl,rfl,_,_,rfl,Y8.mono s3 p _ g2,rfl⟩
  ·rw[t1.length];rw[Zet]at hl;exact hl
 |_=>cases e3
end
theorem Zz{P:Program}{w:World}{K:PySem.W.Frag}{mg:Str->Option Value}{base:Heap}{x qual:Str}{st:Stmt}{f:Addr}{fd:FuncData}{N ps:List Str}{k n m:Nat}{F:FS}{G:List D->Option D}(Fu:WN K x qual st f fd)(S:Zy N ps (Zk st))(hn:ps.length=n)(hm:N.length=m)(hG:G=Z4 n m F)
  (h:∀(cdv:Value) (A:Around) (outer:List Env) (s:Shared) (H:Hp) (E:XK),X9 k (A.deeper (envOfC qual (Zk st) s.heap.objs.size f cdv))->Zmx (Zih Zm1 P w K mg base N qual (Zk st) f cdv A outer s H E).nox (X5 st) F) :
  Vm P w K mg base Zm1 (k+1) f fd ps (spD K G):=by
 subst hn hm hG
 exact Zwy Fu S h
section
variable{K:PySem.W.Frag}{B H H':Hp}{O0 O1:List Addr}{ρ:YT}{σ:St}
theorem Zor{news:List Addr}(hn:∀a∈news,H a=none)(s:Zg H H'):Zg (mask (O0++O1) H) (mask (O0++(news++O1)) H'):=fun b u q=>by
 have hb:b∉O0++O1:=fun m=>by rw[ZY m]at q;cases q
 rw[Zp hb]at q
 have hbn:b∉news:=fun m=>by rw[hn b m]at q;cases q
 refine(Zp fun m=>?_).trans (s b u q)
 rcases Qu.mp m with z|z
 ·exact hb (Qw _ z)
 ·rcases Qu.mp z with z|z
  ·exact hbn z
  ·exact hb (Qg _ z)
theorem RS.grow(r:RS K B O0 O1 H ρ σ){news:List Addr}(hn:∀a∈news,H a=none)(s:Zg H H')(hm:∀a∈news,∃o,H' a=some o/\Zgf o):RS K B O0 (news++O1) H' ρ σ:=by
 have sm:=Zor (O0:=O0) (O1:=O1) hn s
 refine⟨r.len,Zg.trans r.same s,r.thB,fun a ha=>?_,fun a ha=>?_,fun i d e=>let⟨v,h1,h2⟩:=r.vals i d e;⟨v,h1,Y8.mono sm d v h2⟩,fun i d e=>?_,r.apart⟩
 ·rcases Qu.mp ha with z|z
  ·cases q:B a with
   |none=>rfl
   |some u=>have:=r.same a u q;rw[hn a z]at this;cases this
  ·exact r.new a z
 ·rcases Qu.mp ha with z|z
  ·exact hm a z
  ·obtain⟨o,e,m⟩:=r.th a z
   exact⟨o,s _ _ e,m⟩
 ·obtain⟨a,h1,h2,h3⟩:=r.owns i d e
  exact⟨a,h1,Qg _ h2,h3.mono sm fun o q=>s _ _ q⟩
theorem RS.slot(r:RS K B O0 O1 H ρ σ){i:Nat}{v:V}(hi:∀c,ρ[i]?≠some (some c)):RS K B O0 O1 H ρ (σ.set i (some v)):=by
 have other:∀{j:Nat} {c:Cl},ρ[j]?=some (some c)->(σ.set i (some v))[j]?=σ[j]?:=fun{j c} e=>QB fun z=>by subst z;exact hi c e
 refine⟨by rw[List.length_set];exact r.len,r.same,r.thB,r.new,r.th,fun j d e=>?_,fun j d e=>?_,fun j k d1 d2 a q1 q2 q3 q4=>?_⟩
 ·rw[other e];exact r.vals j d e
 ·rw[other e];exact r.owns j d e
 ·rw[other q1]at q3;rw[other q2]at q4;exact r.apart j k d1 d2 a q1 q2 q3 q4
theorem RS.poke(r:RS K B O0 O1 H ρ σ){b:Addr}{o:HO}(hb:b∈O1)(hm:Zgf o)(hno:∀(j:Nat) (d:D),ρ[j]?≠some (some (.own d))):RS K B O0 O1 (YZ H b o) ρ σ:=by
 have em:mask (O0++O1) (YZ H b o)=mask (O0++O1) H:=by
  funext c
  by_cases hc:c∈O0++O1
  ·rw[ZY hc,ZY hc]
  ·rw[Zp hc,Zp hc,ZE (fun z=>hc (by rw[z];exact Qg _ hb))]
 refine⟨r.len,fun c u q=>?_,r.thB,r.new,fun c hc=>?_,fun j d e=>by rw[em];exact r.vals j d e,fun j d e=>absurd e (hno j d),r.apart⟩
 ·rw[ZE fun z=>by subst z;rw[r.new c hb]at q;cases q];exact r.same c u q
 ·by_cases z:c=b
  ·rw[z];exact⟨o,ZS,hm⟩
  ·rw[ZE z];exact r.th c hc
end
def Tb(O1:List Addr)(i:Nat)(M:List (List Int))(σ:St)(H:Hp):Prop:=∃(t:Addr) (bs:List Addr),σ[i]?=some (some (.ref t))/\t∈O1/\(∀b∈bs,b∈O1)/\t∉bs/\bs.Nodup/\H t=some (.lst (bs.map V.ref))/\bs.length=M.length /\
 ∀(k:Nat) (b:Addr) (row:List Int),bs[k]?=some b->M[k]?=some row->H b=some (.lst (row.map V.int))
def VC(n:Nat):List Int:=List.replicate n 0
def Zan(M:List (List Int))(a b:Nat)(x:Int):List (List Int):=match M[a]? with
 |some row=>M.set a (row.set b x)
 |none=>M
def Zqf(M:List (List Int))(a b:Int):Bool:=decide (0<=a)&&decide (0<=b)&&match M[a.toNat]? with|some row=>decide (b.toNat<row.length)|none=>false
def UR:List D->List (List Int)->Option (List (List Int))
 |[],M=>some M
 |.tup [.int a,.int b,.int x]::ds,M=>if Zqf M a b=true then(let M1:=Zan M a.toNat b.toNat x;if Zqf M1 b a=true then UR ds (Zan M1 b.toNat a.toNat x) else none) else none
 |_::_,_=>none
def mD(M:List (List Int)):D:=.lst (M.map fun r=>.lst (r.map .int))
def Zls(f0:FE)(f1:FA):FS:=fun ρ=>match f0 (Yb ρ),f1 (Yb ρ) with
 |some (.int n),some ds=>if 0<=n/\n<=1000 then(match UR ds (List.replicate n.toNat (VC n.toNat)) with|some M=>.rt (mD M)|none=>.bad) else .bad
 |_,_=>.bad
theorem Zws{M:List (List Int)}{a b:Int}(h:Zqf M a b=true):0<=a/\0<=b/\∃row,M[a.toNat]?=some row/\b.toNat<row.length:=by
 unfold Zqf at h
 simp only[QO,decide_eq_true_eq]at h
 obtain⟨⟨h1,h2⟩,h3⟩:=h
 refine⟨h1,h2,?_⟩
 cases e:M[a.toNat]? with
 |none=>rw[e]at h3;cases h3
 |some row=>rw[e]at h3;exact⟨row,rfl,of_decide_eq_true h3⟩
section
variable{X:Cx}
theorem Zbg{H:Hp}{σ:St}{O1:List Addr}{i:Nat}{M:List (List Int)}{a b x:Int}(T:Tb O1 i M σ H)(h:Zqf M a b=true){Q:Hp->Prop}
  (q:∀p xs,p∈O1->H p=some (.lst xs)->Tb O1 i (Zan M a.toNat b.toNat x) σ (YZ H p (.lst (xs.set b.toNat (.int x))))->Q (YZ H p (.lst (xs.set b.toNat (.int x))))) :
  ∃t us,σ[i]?=some (some (.ref t))/\H t=some (.lst us)/\∃p,Zb2 us a=some (.ref p)/\∃xs,H p=some (.lst xs)/\Zl9 xs.length b=some b.toNat/\Q (YZ H p (.lst (xs.set b.toNat (.int x)))):=by
 obtain⟨t,bs,h1,h2,h3,h4,h5,h6,h7,h8⟩:=T
 obtain⟨a0,b0,row,hrow,hlt⟩:=Zws h
 have ha:a.toNat<bs.length:=by rw[h7];exact(Qp.mp hrow).1
 have hp:bs[a.toNat]?=some bs[a.toNat]:=Qq ha
 have hH:=h8 a.toNat _ row hp hrow
 have hm:bs[a.toNat]∈bs:=List.getElem_mem ha
 refine⟨t,_,h1,h6,bs[a.toNat],?_,_,hH,?_,?_⟩
 ·unfold Zb2 Zl9
  rw[Qb,if_pos a0,if_pos (by omega)]
  show(bs.map V.ref)[a.toNat]?=_
  rw[QC,hp];rfl
 ·unfold Zl9
  rw[if_pos b0,if_pos (by rw[Qb];omega)]
 ·refine q _ _ (h3 _ hm) hH ⟨t,bs,h1,h2,h3,h4,h5,?_,?_,fun k c r hk hr=>?_⟩
  ·rw[ZE fun z=>h4 (by rw[z];exact hm)];exact h6
  ·unfold Zan;rw[hrow];simpa using h7
  ·unfold Zan at hr
   rw[hrow]at hr
   dsimp only at hr
   by_cases e:a.toNat=k
   ·subst e
    rw[hp]at hk;cases hk
    rw[QY (by rw[<- h7];exact ha)]at hr
    cases hr
    rw[ZS,List.map_set]
   ·rw[QB e]at hr
    have hne:c≠bs[a.toNat]:=fun z=>by
     subst z
     have hk':=(Qp.mp hk)
     exact e ((List.getElem_inj h5).mp (hk'.2.symm))
    rw[ZE hne]
    exact h8 k c r hk hr
noncomputable def Zjn(fa:FA)(fb:FE):FA:=fun ρ=>(fa ρ).bind fun ds=>(fb ρ).bind fun y=>match y with
 |.int k=>@ite _ (-(2^63)<=k/\k<2^63/\ds.length*k.toNat<=Yu) (Classical.propDecidable _) (some (List.replicate k.toNat ds).flatten) none
 |_=>none
theorem Zn4{a b:Expr}{fa:FA}{fb:FE}{pos:Pos}(ha:Zun X a fa)(hb:EV X b fb):Zun X (.BinOp a .Mult b pos) (Zjn fa fb):=PE.imp (Zxi Zr7 ha hb) fun σ H Q ⟨O,ρ,ds,rv,e,q⟩=>by
 obtain⟨es,e1,e⟩:=bind_some e
 obtain⟨y,e2,e⟩:=bind_some e
 refine⟨O,ρ,es,rv,e1,fun p vs H1 s1 hn r1=>?_⟩
 have s1':Zg H (YZ H1 p (.lst vs)):=Zg.trans s1 (Zg.new hn)
 refine⟨O,ρ,y,rv.mono s1',e2,fun u H2 s2 r2=>?_⟩
 cases y with
 |int k =>
  dsimp only at e
  split at e
  ·rename_i hl
   cases e
   have hp:H2 p=some (.lst vs):=s2 _ _ ZS
   have r3:Zr X.K (mask O H2) es vs:=Zr.mono (ZH (Zg.trans (Zg.new hn) s2)) es vs r1
   refine⟨p,k,vs,rfl,r2,hp,hl.1,hl.2.1,?_,fun l hl'=>q l _ H2 (Zg.trans s1' s2) hl' (Zdq r3 _)⟩
   rw[r3.length];exact Xw hl.2.2
  ·cases e
 |_=>cases e
theorem Zow{K:PySem.W.Frag}{H:Hp}{n:Nat}{vs:List V}(r:Zr K H (List.replicate n [D.int 0]).flatten vs):vs=(VC n).map V.int:=by
 have e:(List.replicate n [D.int 0]).flatten=(VC n).map D.int:=by
  clear r
  unfold VC
  induction n with
  |zero=>rfl
  |succ n ih=>rw[Je,Jk,ih,Je];rfl
 rw[e]at r
 exact r.ints
end
section
variable{X:Cx}
def Zau(ρ:YT):Bool:=ρ.all fun c=>match c with|some (.own _)=>false|_=>true
theorem Zsb{ρ:YT}(h:Zau ρ=true)(j:Nat)(d:D):ρ[j]?≠some (some (.own d)):=fun e=>by
 have:=Ja.mp h _ (Jh e)
 cases this
theorem Tb.mono{O1:List Addr}{i:Nat}{M:List (List Int)}{σ:St}{H H':Hp}(T:Tb O1 i M σ H)(s:Zg H H'):Tb O1 i M σ H':=by
 obtain⟨t,bs,h1,h2,h3,h4,h5,h6,h7,h8⟩:=T
 exact⟨t,bs,h1,h2,h3,h4,h5,s _ _ h6,h7,fun k b r hb hr=>s _ _ (h8 k b r hb hr)⟩
abbrev Zqz(K:PySem.W.Frag)(i ja jb jx:Nat):TS:=Zq2 (tD K (fV jx)) (gSub (tOp (rIxL K) (Zg7 i) (tD K (fV ja))) (tD K (fV jb)) Zxf)
theorem Zi7{K:PySem.W.Frag}{B H:Hp}{O0 O1:List Addr}{ρ:YT}{σ:St}{i ja jb jx:Nat}{M:List (List Int)}{a b x:Int}{E:Ziu}(r:RS K B O0 O1 H ρ σ)(T:Tb O1 i M σ H)(ho:Zau ρ=true)
  (ea:ρ[ja]?=some (some (.val (.int a)))) (eb:ρ[jb]?=some (some (.val (.int b)))) (ex:ρ[jx]?=some (some (.val (.int x)))) (h:Zqf M a b=true)
  (k:∀H',RS K B O0 O1 H' ρ σ->Tb O1 i (Zan M a.toNat b.toNat x) σ H'->Zg (mask (O0++O1) H) (mask (O0++O1) H')->E.nx σ H'):Zqz K i ja jb jx E σ H:=by
 have vw:∀{j:Nat} {d:D},ρ[j]?=some (some (.val d))->fV j (Yb ρ)=some d:=fun{j d} e=>by
  unfold fV Yb
  rw[QC,e];rfl
 refine⟨O0++O1,Yb ρ,.int x,r.val,vw ex,fun v H1 s1 rx=>?_⟩
 have r1:=r.mono s1
 have T1:=T.mono s1
 have hv:v=.int x:=rx
 subst hv
 obtain⟨t,us,ht,hu,_⟩:=Zbg (x:=x) (Q:=fun _=>True) T1 h (fun _ _ _ _ _=>trivial)
 refine⟨.ref t,ht,O0++O1,Yb ρ,.int a,r1.val,vw ea,fun y H2 s2 ry=>?_⟩
 have hy:y=.int a:=ry
 subst hy
 have r2:=r1.mono s2
 have T2:=T1.mono s2
 obtain⟨t2,Zi3,ht2,hu2,p,hp,_⟩:=Zbg (x:=x) (Q:=fun _=>True) T2 h (fun _ _ _ _ _=>trivial)
 rw[ht]at ht2;cases ht2
 refine⟨t,Zi3,a,.ref p,rfl,rfl,XX.of hu2,hp,O0++O1,Yb ρ,.int b,r2.val,vw eb,fun z H3 s3 rz=>?_⟩
 have hz:z=.int b:=rz
 subst hz
 have r3:=r2.mono s3
 have T3:=T2.mono s3
 obtain⟨t3,Zi2,ht3,hu3,p3,hp3,xs,hx,hi,q⟩:=Zbg (x:=x) (Q:=fun H'=>E.nx σ H') T3 h (fun p xs hpO hpx T4=>by
  refine k _ (r3.poke hpO trivial (Zsb ho)) T4 fun c u e=>?_
  have hc:c∉O0++O1:=fun m=>by rw[ZY m]at e;cases e
  rw[Zp hc]at e
  rw[Zp hc,ZE fun w=>hc (by rw[w];exact Qg _ hpO)]
  exact s3 _ _ (s2 _ _ (s1 _ _ e)))
 rw[ht]at ht3;cases ht3
 have:Zi2=Zi3:=by
  have:=s3 _ _ hu2
  rw[hu3]at this;cases this;rfl
 subst this
 rw[hp]at hp3;cases hp3
 exact⟨p,xs,b,b.toNat,rfl,rfl,hx,hi,q⟩
def Zt5(ρ:YT)(i:Nat):Bool:=match ρ[i]? with|some none=>true|_=>false
theorem Zt4{ρ:YT}{i:Nat}(h:Zt5 ρ i=true):ρ[i]?=some none:=by
 unfold Zt5 at h
 split at h
 ·assumption
 ·cases h
def Znd(i:Nat)(f0:FE)(f1:FA):FS:=fun ρ=>if Zau ρ=true/\Zt5 ρ i=true then Zls f0 f1 ρ else .bad
theorem Znb:∀(ws:List (Nat×D)) (vs:List V) {σ:St} {i:Nat},(∀w∈ws,w.1≠i)->(Zcr σ ws vs)[i]?=σ[i]?
 |[],_,_,_,_=>rfl
 |w::ws,[],_,_,_=>rfl
 |w::ws,v::vs,σ,i,h=>by
  show(Zcr (σ.set w.1 (some v)) ws vs)[i]?=_
  rw[Znb ws vs fun z hz=>h z (Qc _ hz),QB (h w Qd)]
theorem Tb.slots{O1:List Addr}{i:Nat}{M:List (List Int)}{σ σ':St}{H:Hp}(T:Tb O1 i M σ H)(e:σ'[i]?=σ[i]?):Tb O1 i M σ' H:=by
 obtain⟨t,bs,h1,h2⟩:=T
 exact⟨t,bs,by rw[e];exact h1,h2⟩
theorem Zbr{ρ:YT}(h:Zau ρ=true)(j:Nat)(d:D):Zau (ρ.set j (some (.val d)))=true:=by
 unfold Zau at *
 rw[Ja]at *
 intro c hc
 rcases List.mem_or_eq_of_mem_set hc with z|z
 ·exact h c z
 ·subst z;rfl
theorem Zmk{d:D}{ds:List D}{M Mf:List (List Int)}(h:UR (d::ds) M=some Mf):∃a b x:Int,d=.tup [.int a,.int b,.int x]/\Zqf M a b=true/\Zqf (Zan M a.toNat b.toNat x) b a=true/\UR ds (Zan (Zan M a.toNat b.toNat x) b.toNat a.toNat x)=some Mf:=by
 unfold UR at h
 split at h
 ·rename_i e;cases e
 ·rename_i a b x ds' e
  injection e with e1 e2
  subst e1;subst e2
  split at h
  ·rename_i i1
   dsimp only at h
   split at h
   ·rename_i i2;exact⟨a,b,x,rfl,i1,i2,h⟩
   ·cases h
  ·cases h
 ·cases h
theorem Zon{S1 S3 S4 S5:Stmt}{tg iter:Expr}{i:Nat}{ix:List Nat}{ja jb jx:Nat}{f0 f0':FE}{f1:FA}{pos:Pos}
  (h1:PS X S1 (Zq2 (Zi8 1 ix (tI X.K (fR YW (Za f0 fN))) (tG X.K (gN 0)) (tT X.K Xn) (tF X.K (Zjn (fR few (Za (fC (.int 0)) fN)) f0'))) (Zgk i)))
  (h2:PS X (.For tg iter [S3,S4] [] pos) (Zyv (tI X.K f1) (tG X.K (gT [ja,jb,jx])) (Zyr (Zqz X.K i ja jb jx) (Zqz X.K i jb ja jx))))
  (h5:PS X S5 (Zys (Zg7 i))) (hrel:∀(ρ:Ww) (d:D),f0' (VD (env0 1 ix ρ) [(0,d)])=f0 ρ)
  (hd:ja≠jb/\ja≠jx/\jb≠jx/\ja≠i/\jb≠i/\jx≠i) (hN:i<X.N.length/\ja<X.N.length/\jb<X.N.length/\jx<X.N.length) :
  Zmx X [S1,.For tg iter [S3,S4] [] pos,S5] (Znd i f0 f1):=fun pins s σ H E I h=>by
 refine Uc h1 (Uc h2 (Zc0 h5)) pins s σ H E I ?_
 obtain⟨B,O0,O1,ρ,r,q⟩:=h
 have hlen:σ.length=X.N.length:=I.len
 have hρ:ρ.length=X.N.length:=r.len.trans hlen
 unfold Znd at q
 split at q
 case isFalse=>exact q.elim
 rename_i hc
 obtain⟨ho,hib⟩:=hc
 have hi:=Zt4 hib
 unfold Zls at q
 split at q
 case h_2=>exact q.elim
 rename_i k ds e0 e1
 split at q
 case isFalse=>exact q.elim
 rename_i hk
 split at q
 case h_2=>exact q.elim
 rename_i Mf hM
 obtain⟨k0,k1⟩:=hk
 have hrng:fR YW (Za f0 fN) (Yb ρ)=some (Wr 0 k.toNat):=by
  unfold fR Za fN
  rw[e0]
  show YW [.int k]=_
  unfold YW
  dsimp only
  rw[if_pos (by constructor<;>omega)]
 have hrep:∀(d:D),Zjn (fR few (Za (fC (.int 0)) fN)) f0' (VD (env0 1 ix (Yb ρ)) [(0,d)])=some (List.replicate k.toNat [D.int 0]).flatten:=fun d=>by
  unfold Zjn
  rw[hrel,e0]
  show(some [D.int 0]).bind _=_
  dsimp only[QN]
  rw[if_pos (by refine⟨?_,?_,?_⟩;omega;omega;show 1*k.toNat<=65536;omega)]
 refine⟨O0++O1,Yb ρ,Wr 0 k.toNat,r.val,hrng,fun J H1 s1 wk=>?_⟩
 have rv1:=r.val.mono s1
 refine⟨fun c m ys σ' H'=>m=k.toNat-c/\c<=k.toNat/\Zg H1 H'/\σ'.length=1+ix.length/\RV X.K (O0++O1) H' (env0 1 ix (Yb ρ)) σ'/\∃bs:List Addr,ys=bs.map V.ref/\bs.length=c/\bs.Nodup/\∀b∈bs,H1 b=none/\H' b=some (.lst ((VC k.toNat).map V.int)),
  ⟨k.toNat,by simp,QZ _,Zg.refl _,Zg9 1 ix σ,Zn6 rv1,[],rfl,rfl,List.nodup_nil,fun b hb=>by cases hb⟩,?_⟩
 rintro c m ys σ' H' ⟨rfl,hc,s2,hσ,rv',bs,rfl,hbl,hnd,hbs⟩
 have wk':=wk H' (O0++O1) (ZH s2) rv'.th c
 by_cases hlt:c<k.toNat
 ·have hg:(Wr 0 k.toNat)[c]?=some (.int (0+(c:Int))):=by unfold Wr;rw[QC,List.getElem?_range hlt];rfl
  obtain⟨go,yl⟩:=wk'.1 _ hg
  refine .inr ⟨go,by rw[Qb,hbl];rw[show sizeLine=16777216 from Q3];omega,fun x H2 hy=>?_⟩
  obtain⟨s3,rx⟩:=yl x H2 hy
  have rv3:=rv'.mono s3
  refine⟨O0++O1,_,[(0,.int (0+(c:Int)))],rv3.th,rx,rfl,fun vs rs=>?_⟩
  have hl0:(env0 1 ix (Yb ρ)).length=σ'.length:=by rw[hσ];simp[env0];omega
  obtain⟨rv4,hl4⟩:=RV.sets [(0,.int (0+(c:Int)))] vs rv3 hl0 rs
  have hσ4:(Zcr σ' [(0,.int (0+(c:Int)))] vs).length=1+ix.length:=by
   rw[<- hl4];show((env0 1 ix (Yb ρ)).set 0 _).length=_;rw[List.length_set,hl0,hσ]
  refine⟨O0++O1,_,true,rv4,rfl,fun H4 s4=>?_⟩
  dsimp only
  rw[if_pos rfl]
  refine⟨O0++O1,_,_,rv4.mono s4,hrep _,fun a us H5 s5 hn5 rep=>?_⟩
  cases Zow rep
  have s15:Zg H1 H5:=Zg.trans s2 (Zg.trans s3 (Zg.trans s4 s5))
  have s'5:Zg H' H5:=Zg.trans s3 (Zg.trans s4 s5)
  have na:a∉bs:=fun z=>by have:=s'5 _ _ (hbs a z).2;rw[hn5]at this;cases this
  have nH:H1 a=none:=by
   cases w:H1 a with
   |none=>rfl
   |some u=>have:=s15 _ _ w;rw[hn5]at this;cases this
  refine⟨_,(by omega:k.toNat-(c+1)<k.toNat-c),rfl,hlt,Zg.trans s15 (Zg.new hn5),hσ4,?_,bs++[a],by rw[QM];rfl,by simp[hbl],?_,fun b hb=>?_⟩
  ·refine((rv4.mono (Zg.trans s4 (Zg.trans s5 (Zg.new hn5)))).weak fun j d ej=>?_)
   cases j with
   |zero=>unfold env0 at ej;simp at ej
   |succ j=>show((env0 1 ix (Yb ρ)).set 0 _)[j+1]?=_;rw[QB (by omega)];exact ej
  ·rw[Jb]
   exact⟨hnd,by simp,fun y hy z hz=>by simp at hz;subst hz;exact fun w=>na (w▸hy)⟩
  ·rcases Qu.mp hb with z|z
   ·refine⟨(hbs b z).1,?_⟩
    rw[ZE (show b≠a from fun w=>na (w▸z))]
    exact s'5 _ _ (hbs b z).2
   ·simp at z;subst z
    exact⟨nH,ZS⟩
 ·have ec:c=k.toNat:=by omega
  subst ec
  refine .inl ⟨wk'.2 (by rw[Zdt];exact Qj _),by rw[Qb,hbl,show sizeLine=16777216 from Q3];omega,fun l hl=>?_⟩
  have s1':Zg H H':=Zg.trans s1 s2
  have none_of:∀{a:Addr},H1 a=none->H a=none:=fun{a} e=>by
   cases w:H a with
   |none=>rfl
   |some u=>have:=s1 _ _ w;rw[e]at this;cases this
  have lnone:H l=none:=by
   cases w:H l with
   |none=>rfl
   |some u=>have:=s1' _ _ w;rw[hl]at this;cases this
  have lbs:l∉bs:=fun z=>by have:=(hbs l z).2;rw[hl]at this;cases this
  have sN:Zg H (YZ H' l (.lst (bs.map V.ref))):=Zg.trans s1' (Zg.new hl)
  have atb:∀b∈bs,YZ H' l (.lst (bs.map V.ref)) b=some (.lst ((VC k.toNat).map V.int)):=fun b hb=>by
   rw[ZE (show b≠l from fun z=>lbs (z▸hb))];exact(hbs b hb).2
  have r1:=r.grow (news:=l::bs) (fun a ha=>by
   rcases Qm.mp ha with z|z
   ·rw[z];exact lnone
   ·exact none_of (hbs a z).1) sN (fun a ha=>by
   rcases Qm.mp ha with z|z
   ·rw[z];exact⟨_,ZS,trivial⟩
   ·exact⟨_,atb a z,trivial⟩)
  have r2:=r1.slot (i:=i) (v:=.ref l) fun c e=>by rw[hi]at e;cases e
  have T:Tb (l::bs++O1) i (List.replicate k.toNat (VC k.toNat)) (σ.set i (some (.ref l))) (YZ H' l (.lst (bs.map V.ref))):=by
   refine⟨l,bs,QY (by omega),by simp,fun b hb=>by simp[hb],lbs,hnd,ZS,by rw[hbl];simp,fun c b row hb hrow=>?_⟩
   rw[QV]at hrow
   split at hrow
   ·cases hrow;exact atb b (Jh hb)
   ·cases hrow
  show Zyv (tI X.K f1) (tG X.K (gT [ja,jb,jx])) (Zyr (Zqz X.K i ja jb jx) (Zqz X.K i jb ja jx)) { E with nx:=Zys (Zg7 i) E } (σ.set i (some (.ref l))) (YZ H' l (.lst (bs.map V.ref)))
  refine⟨O0++(l::bs++O1),Yb ρ,ds,r2.val,e1,fun J2 H2 t1 wk2=>?_⟩
  have r3:=r2.mono t1
  have T3:=T.mono t1
  refine⟨fun c m σ2 H3=>m=ds.length-c/\c<=ds.length/\Zg (mask (O0++(l::bs++O1)) H2) (mask (O0++(l::bs++O1)) H3)/\∃ρ2 M,RS X.K B O0 (l::bs++O1) H3 ρ2 σ2/\ρ2.length=X.N.length/\Zau ρ2=true/\ρ2[i]?=some none/\Tb (l::bs++O1) i M σ2 H3/\UR (ds.drop c) M=some Mf,
   ⟨ds.length,by simp,QZ _,Zg.refl _,ρ,_,r3,hρ,ho,hi,T3,by simpa using hM⟩,?_⟩
  rintro c m σ2 H3 ⟨rfl,hcd,sm,ρ2,M,r4,hl4,ho4,hi4,T4,hf⟩
  have w:=wk2 H3 (O0++(l::bs++O1)) sm r4.val.th c
  by_cases hlt2:c<ds.length
  ·have hdr:ds.drop c=ds[c]::ds.drop (c+1):=Jj hlt2
   obtain⟨go,yl⟩:=w.1 _ (Qq hlt2)
   rw[hdr]at hf
   refine .inr ⟨go,fun σ' H'=>Zg (mask (O0++(l::bs++O1)) H2) (mask (O0++(l::bs++O1)) H')/\∃ρ2 M,RS X.K B O0 (l::bs++O1) H' ρ2 σ'/\ρ2.length=X.N.length/\Zau ρ2=true/\ρ2[i]?=some none/\Tb (l::bs++O1) i M σ' H'/\UR (ds.drop (c+1)) M=some Mf,
    fun σ' H' z=>⟨ds.length-(c+1),by omega,rfl,hlt2,z⟩,fun x H4 hy=>?_⟩
   obtain⟨s4,rx⟩:=yl x H4 hy
   have r5:=r4.mono s4
   have T5:=T4.mono s4
   obtain⟨a,b,y,ez1,in1,in2,hf⟩:=Zmk hf
   rw[ez1]at rx
   refine⟨O0++(l::bs++O1),_,[(ja,.int a),(jb,.int b),(jx,.int y)],r5.val.th,rx,rfl,fun vs rs=>?_⟩
   have r6:=r5.sets [(ja,.int a),(jb,.int b),(jx,.int y)] vs rs
   obtain⟨d1,d2,d3,d4,d5,d6⟩:=hd
   obtain⟨n1,n2,n3,n4⟩:=hN
   have hσi:(Zcr σ2 [(ja,.int a),(jb,.int b),(jx,.int y)] vs)[i]?=σ2[i]?:=Znb _ vs fun z hz=>by
    simp only[Qm,Q6,or_false]at hz
    rcases hz with rfl|rfl|rfl
    ·exact d4
    ·exact d5
    ·exact d6
   have T6:=T5.slots hσi
   have ho6:Zau (XA ρ2 [(ja,.int a),(jb,.int b),(jx,.int y)])=true:=Zbr (Zbr (Zbr ho4 ja _) jb _) jx _
   have gx:(XA ρ2 [(ja,.int a),(jb,.int b),(jx,.int y)])[jx]?=some (some (.val (.int y))):=QY (by simp;omega)
   have gb:(XA ρ2 [(ja,.int a),(jb,.int b),(jx,.int y)])[jb]?=some (some (.val (.int b))):=by
    show(((ρ2.set ja _).set jb _).set jx _)[jb]?=_
    rw[QB (fun z=>d3 z.symm),QY (by simp;omega)]
   have ga:(XA ρ2 [(ja,.int a),(jb,.int b),(jx,.int y)])[ja]?=some (some (.val (.int a))):=by
    show(((ρ2.set ja _).set jb _).set jx _)[ja]?=_
    rw[QB (fun z=>d2 z.symm),QB (fun z=>d1 z.symm),QY (by omega)]
   have gi:(XA ρ2 [(ja,.int a),(jb,.int b),(jx,.int y)])[i]?=some none:=by
    show(((ρ2.set ja _).set jb _).set jx _)[i]?=_
    rw[QB d6,QB d5,QB d4,hi4]
   refine Zi7 r6 T6 ho6 ga gb gx in1 fun H5 r7 T7 sm7=>?_
   refine Zi7 r7 T7 ho6 gb ga gx in2 fun H6 r8 T8 sm8=>?_
   refine⟨Zg.trans sm (Zg.trans (ZH s4) (Zg.trans sm7 sm8)),_,_,r8,by show(((ρ2.set ja _).set jb _).set jx _).length=_;simp[hl4],ho6,gi,T8,hf⟩
  ·have e:c=ds.length:=by omega
   subst e
   rw[List.drop_length]at hf
   cases hf
   refine .inl ⟨w.2 (Qj _),?_⟩
   obtain⟨t,cs,g1,g2,g3,g4,g5,g6,g7,g8⟩:=T4
   refine⟨.ref t,g1,?_⟩
   refine q _ _ r4.same ?_
   have nO:∀a∈(l::bs++O1),a∉O0:=fun a ha z=>by
    obtain⟨o,e,_⟩:=r4.thB a z
    rw[r4.new a ha]at e;cases e
   refine⟨t,cs.map V.ref,rfl,by rw[Zp (nO t g2)];exact g6,?_⟩
   have rows:∀(ks:List Addr) (N:List (List Int)),(∀b∈ks,b∈(l::bs++O1))->ks.length=N.length->(∀(k:Nat) (b:Addr) (row:List Int),ks[k]?=some b->N[k]?=some row->H3 b=some (.lst (row.map V.int)))->Zr X.K (mask O0 H3) (N.map fun r=>D.lst (r.map .int)) (ks.map V.ref):=by
    intro ks
    induction ks with
    |nil =>
     intro N _ hl _
     cases N with
     |nil=>rfl
     |cons _ _=>simp at hl
    |cons b ks ih =>
     intro N hm hl hr
     cases N with
     |nil=>simp at hl
     |cons row N =>
      refine⟨_,_,rfl,⟨b,row.map V.int,rfl,by rw[Zp (nO b (hm b Qd))];exact hr 0 b row rfl rfl,WL row⟩,ih N (fun c hc=>hm c (Qc _ hc)) (by simpa using hl) fun k c r hk hr'=>hr (k+1) c r (by simpa using hk) (by simpa using hr')⟩
   exact rows cs _ g3 g7 g8
end
section
variable{X:Cx}
theorem ZF{k m:Nat}{y:Str}{f:Addr}{fd:FuncData}{ps:List Str}{G:List D->Option D}{p pos:Pos}{e:Expr}{es:List Expr}{fa:FA}(o:YO X.prog X.w X.K X.mg X.base y k ps G f fd)(hr:X9 m X.A)(ha:AV X (e::es) fa)(hle:k<=m:=by decide)
  (hg:Gl X y:=by rfl) (hdb:(y == ("__debug__":Str))=false:=by decide) (he:starEach (e::es) X.env=(false,eval e X.env)::starEach es X.env:=by rfl) (hpl:(backTo pos (starEach es X.env)).any (·.1)=false:=by rfl) :
  EV X (.Call (.Name y p) (e::es) [] pos) (fL G fa):=Zw0 o.ok (hr.mono hle) o.mg o.kp o.bi ha hg hdb he hpl
end
def FH(K:PySem.W.Frag)(x:Str)(st:Stmt):Prop:=∃f fd,PySem.W.nsIn K mainGlobals x=some (some (.ref f))/\WN K x x st f fd
theorem fh{K:PySem.W.Frag}{x:Str}{st:Stmt}{f:Addr}{oc:Value}{od an:Option Addr}{osl:Array (Option Value)}{kV doc pm cdv ct:Value}(a:PySem.W.nsIn K mainGlobals x=some (some (.ref f)))
  (l:K.lookup f=some ⟨oc,od,.func (PySem.W.fnOf x x (VT st) (X5 st) (Zk st) .none kV doc pm an cdv ct),osl⟩) (c:PySem.W.codeIn K cdv x=true) (k:PySem.W.keepIn K (.ref f)=true):FH K x st:=⟨f,_,a,Ztg l c k⟩
section
variable{X:Cx}
def Xv:D->D->Option D
 |x,.lst ds=>if(X4 x&&ds.all X4)=true then some (.bl (!Zs7 (Zg6 x) (ds.map Zg6))) else none
 |x,.tup ds=>if(X4 x&&ds.all X4)=true then some (.bl (!Zs7 (Zg6 x) (ds.map Zg6))) else none
 |_,_=>none
theorem UV:UK X (compareOp .NotIn) Xv:=UK.of Zhn fun x y H Q ⟨O,dx,dy,d,th,rx,ry,e,q⟩=>by
 unfold Xv at e
 split at e
 ·rename_i ds
  split at e
  ·rename_i hf
   rw[QO]at hf
   cases e
   obtain⟨p,vs,rfl,hp,rp⟩:=ry
   obtain⟨ev,fv⟩:=Uo hf.1 rx
   obtain⟨evs,fvs⟩:=Vv hf.2 rp
   refine⟨p,vs,rfl,.inl (XX.of (Zf _ _ hp)),fv,fvs,?_⟩
   rw[ev,evs]
   exact q _ H (Zg.refl _) rfl
  ·cases e
 ·rename_i ds
  split at e
  ·rename_i hf
   rw[QO]at hf
   cases e
   obtain⟨p,vs,rfl,hp,rp⟩:=ry
   obtain⟨ev,fv⟩:=Uo hf.1 rx
   obtain⟨evs,fvs⟩:=Vv hf.2 rp
   refine⟨p,vs,rfl,.inr (Wx.of (Zf _ _ hp)),fv,fvs,?_⟩
   rw[ev,evs]
   exact q _ H (Zg.refl _) rfl
  ·cases e
 ·cases e
end
section
variable{X:Cx}
end
section
variable{X:Cx}
end
end L2

namespace ZI
open PySem PyProof.Rows ZD
section
variable{prog:Program}{w:World}{A:Around}{E:Value->Shared->Prop}{s:Shared}{d it v:Addr}{es:Array DictEntry}{ep i:Nat}{k0 v0:Value}
end
end ZI

namespace L2
open PySem PySem.Spec PyProof.Rows
structure DOb(o:Obj)(es:Array DictEntry)(ep:Nat):Prop where
 ex:o.ExactDict
 da:o.data=.dict es ep
section
variable{X:Cx}{pins:List (Addr×Obj)}{σ:St}{H:Hp}{s:Shared}{a:Addr}{o:Obj}{kvs:List (List Y5×V)}{es:Array DictEntry}{ep:Nat}
theorem ZA.frz(I:ZA X pins σ H s)(h:H a=some (.frz o (.dT kvs))):(a == sysModules)=false/\∃es ep,DOb o es ep/\ZD.DictR s.heap a es ep:=by
 obtain⟨g,_,hS,ys,_,o',es,ep,h1,h2,h3,_⟩:=(show YI X.prog X.w H s.heap a (.frz o (.dT kvs)) from I.hok a _ h)
 rw[g]at h1
 cases h1
 exact⟨hS,es,ep,⟨h2,h3⟩,o,g,h2,h3⟩
end
section
variable{X:Cx}{tg:Expr}
end
section
variable{X:Cx}{pins:List (Addr×Obj)}{σ:St}{H:Hp}{s:Shared}{a:Addr}{kvs:List (List Y5×V)}
end
section
variable{X:Cx}{k v:Expr}{pos:Pos}{tk tv:TE}
end
theorem Zh7(a:Int)(t:Tok)(l:Addr)(items:Array Value)(n:Nat)(dd:Option Addr)(sl:Array (Option Value)) :
  Meets (Builtin.«int.__rmul__» ⟨[.int a t,.ref l],[]⟩) (fun _ R s=>s.heap.get? l=some { cls:=.type "tuple",dict:=dd,data:=.seq items n,slots:=sl }/\R (.ok (.ret Value.notImplemented)) s) :=
 .of_wp fun prog w A R s h=>by obtain⟨hp,g,d,tk,os⟩:=s;obtain⟨hl,h⟩:=h;wp_walk;exact⟨_,rfl,h⟩
theorem Zqn(l:Addr)(x:Value)(n:Nat)(dd:Option Addr)(sl:Array (Option Value))(u:Tok) :
  Meets (Builtin.«tuple.__mul__» ⟨[.ref l,.int 1 u],[]⟩) (fun _ R s=>s.heap.get? l=some { cls:=.type "tuple",dict:=dd,data:=.seq #[x] n,slots:=sl }/\R (.ok (.ret (.ref l))) s) :=
 .of_wp fun prog w A R s h=>by obtain⟨hp,g,d,tk,os⟩:=s;obtain⟨hl,h⟩:=h;wp_walk;exact⟨_,rfl,h⟩
theorem Zqo(l:Addr)(x:Value)(n:Nat)(dd:Option Addr)(sl:Array (Option Value))(k:Int)(u:Tok)(h0:¬(decide (k < -(2^63))||decide (k≥2^63))=true)(h1:¬((#[x]:Array Value).isEmpty||k == 1)=true)(h2:(decide (k<=0)||(#[x]:Array Value).isEmpty)=true) :
  Meets (Builtin.«tuple.__mul__» ⟨[.ref l,.int k u],[]⟩) (fun _ R s=>s.heap.get? l=some { cls:=.type "tuple",dict:=dd,data:=.seq #[x] n,slots:=sl }/\R (.ok (.ret (.ref s.heap.objs.size))) { s with heap:=s.heap.push { cls:=.type "tuple",data:=.seq #[] } }) :=
 .of_wp fun prog w A R s h=>by obtain⟨hp,g,d,tk,os⟩:=s;obtain⟨hl,h⟩:=h;wp_walk;rw[if_neg h0];wp_walk;rw[if_neg h1];wp_walk;rw[if_pos h2];wp_walk;exact⟨_,rfl,h⟩
theorem Zqm(l:Addr)(x:Value)(n:Nat)(dd:Option Addr)(sl:Array (Option Value))(k:Int)(u:Tok)(h0:¬(decide (k < -(2^63))||decide (k≥2^63))=true)(h1:¬((#[x]:Array Value).isEmpty||k == 1)=true)
  (h2:¬(decide (k<=0)||(#[x]:Array Value).isEmpty)=true) (h3:¬((#[x]:Array Value).size:Int)*k>(2^63-1)/8) (h4:¬Builtin.Tuple.tupleTooMany (((#[x]:Array Value).size:Int)*k)=true)
  (h5:¬((List.replicate k.toNat #[x]).foldl (·++·) #[]).size>sizeLine) :
  Meets (Builtin.«tuple.__mul__» ⟨[.ref l,.int k u],[]⟩) (fun _ R s=>s.heap.get? l=some { cls:=.type "tuple",dict:=dd,data:=.seq #[x] n,slots:=sl }/\R (.ok (.ret (.ref s.heap.objs.size))) { s with heap:=s.heap.push { cls:=.type "tuple",data:=.seq ((List.replicate k.toNat #[x]).foldl (·++·) #[]) } }) :=
 .of_wp fun prog w A R s h=>by obtain⟨hp,g,d,tk,os⟩:=s;obtain⟨hl,h⟩:=h;wp_walk;rw[if_neg h0];wp_walk;rw[if_neg h1];wp_walk;rw[if_neg h2];wp_walk;rw[if_neg h3];wp_walk;rw[if_neg h4];wp_walk;exact⟨_,rfl,h⟩
theorem Zd1:fillsNumberSlot (.type "tuple") "mul"=pure false :=
 PySem.fillsNumberSlot_seq (id:="tuple.__mul__") (r:=some (.builtin "tuple.__rmul__")) F.slot_tuple_mul.lookup (by decide+kernel) F.slot_tuple_rmul.lookup (by decide+kernel)
theorem Zvb:seqRepeat? (.type "tuple")=pure (some (.builtin "tuple.__mul__")):=by
 unfold seqRepeat?
 rw[PySem.seqSlot_of (T:="tuple") (name:="__mul__") (id:="tuple.__mul__") F.slot_tuple_mul.lookup (by decide+kernel),PySem.seqSlot_of (T:="tuple") (name:="__rmul__") (id:="tuple.__rmul__") F.slot_tuple_rmul.lookup (by decide+kernel)]
 rfl
section
variable{X:Cx}
def rRepT:R2:=fun x y H Q=>∃l k a,x=.ref l/\y=.int k/\H l=some (.tup [a])/\-65536<=k/\k<=65536/\(k=1->Q (.ref l) H)/\(k≠1->∀p,H p=none->Q (.ref p) (YZ H p (.tup (List.replicate k.toNat a))))
theorem Zv0:V0 X (binaryOp .Mult) rRepT:=by
 intro pins s σ H x y v u Q I rx ry h
 obtain⟨l,k,a,rfl,rfl,hH,h1,h2,q1,q2⟩:=h
 cases rx
 obtain⟨t,rfl⟩:=ry
 obtain⟨_,its,r,⟨o,g1,g2,n,g3⟩⟩:=(show YI X.prog X.w H s.heap l (.tup [a]) from I.hok l _ hH)
 obtain⟨av,rfl,ra⟩:=WB r
 obtain⟨oc,od,odt,osl⟩:=o
 simp only at g2 g3
 subst g2 g3
 have f0:¬(decide (k < -(2^63))||decide (k≥2^63))=true:=by simp only[Bool.or_eq_true,decide_eq_true_eq];omega
 have ty:s.TypeIs (.ref l) "tuple":=⟨_,g1,rfl⟩
 have lay:∀vs us,ZM vs us->vs.length<=sizeLine->ZA X pins σ (YZ H s.heap.objs.size (.tup vs)) { s with heap:=s.heap.push { cls:=.type "tuple",data:=.seq us.toArray } }:=fun vs us rv hl =>
  I.laid (a:=s.heap.objs.size) (o:=.tup vs) (t':=s.toks) (fun _ _ q=>Qf _ q) (Qj _) ⟨hl,us,rv,_,Qv _ rfl,rfl,0,rfl⟩
 refine wpAny_binaryOp_repeat_ref (T:="tuple") (U:="int") (by decide) ty (fun s'=>typeIs_int s' k t) Zd1 F.fills_int_mul F.slot_int_rmul Zvb F.slot_int_index.lookup
  (call_meets F.slot_int_rmul (typeIs_int s k t) F.entry_int_rmul (F.args_int_rmul_2 _ _) (Zh7 k t l _ n od osl) ⟨g1,rfl,ty,?_⟩)
 by_cases k1:k=1
 ·subst k1
  exact call_meets F.slot_tuple_mul ty F.entry_tuple_mul (F.args_tuple_mul_2 _ _) (Zqn l av n od osl t) ⟨g1,⟨.ref l,H,I,rfl,q1 rfl⟩⟩
 ·have f1:¬((#[av]:Array Value).isEmpty||k == 1)=true:=by simpa using k1
  by_cases k0:k<=0
  ·refine call_meets F.slot_tuple_mul ty F.entry_tuple_mul (F.args_tuple_mul_2 _ _) (Zqo l av n od osl k t f0 f1 (by simp[k0])) ⟨g1,⟨.ref _,_,lay [] [] .nil (QZ _),rfl,?_⟩⟩
   have:=q2 k1 _ (I.hok.fresh (Qj s.heap.objs.size))
   rw[show k.toNat=0 by omega]at this
   exact this
  ·have hs:sizeLine=16777216:=Q3
   have hf:∀m:Nat,List.foldl (fun x1 x2=>x1++x2) #[] (List.replicate m (#[av]:Array Value))=(List.replicate m av).toArray:=fun m=>by
    have:=Zbw [av] m []
    rw[QX]at this
    refine this.trans ?_
    have e:∀m:Nat,(List.replicate m [av]).flatten=List.replicate m av:=fun m=>by
     induction m with
     |zero=>rfl
     |succ m ih=>rw[Je,Jk,ih];rfl
    rw[e]
   have rv:∀m:Nat,ZM (List.replicate m a) (List.replicate m av):=fun m=>by
    induction m with
    |zero=>exact .nil
    |succ m ih=>exact .cons ra ih
   refine call_meets F.slot_tuple_mul ty F.entry_tuple_mul (F.args_tuple_mul_2 _ _) (Zqm l av n od osl k t f0 f1 (by simp;omega) ?_ ?_ ?_) ⟨g1,?_⟩
   ·show ¬((1:Nat):Int)*k>(2^63-1)/8
    omega
   ·unfold Builtin.Tuple.tupleTooMany
    simp only[decide_eq_true_eq]
    show ¬((1:Nat):Int)*k>(sizeLine:Int)
    rw[hs];omega
   ·rw[hf,Ql,JG,hs];omega
   ·rw[hf]
    exact⟨.ref _,_,lay _ _ (rv k.toNat) (by rw[JG,hs];omega),rfl,q2 k1 _ (I.hok.fresh (Qj _))⟩
def Zj1:D->D->Option D
 |.tup [a],.int k=>if -65536<=k/\k<=65536 then some (.tup (List.replicate k.toNat a)) else none
 |_,_=>none
theorem Zr4:UK X (binaryOp .Mult) Zj1:=UK.of Zv0 fun x y H Q h=>by
 obtain⟨O,dx,dy,d,th,rx,ry,e,q⟩:=h
 unfold Zj1 at e
 split at e
 ·rename_i a k
  split at e
  ·rename_i hl
   cases e
   obtain⟨p,vs,rfl,hp,rp⟩:=rx
   obtain⟨v,rfl,rv⟩:=Zas rp
   refine⟨p,k,v,rfl,ry,Zf _ _ hp,hl.1,hl.2,fun k1=>?_,fun _ r hr=>?_⟩
   ·subst k1
    exact q _ H (Zg.refl _) ⟨p,_,rfl,hp,Zr.one rv⟩
   ·refine q _ _ (Zg.new hr) (Xf th hr ?_)
    have:∀m:Nat,Zr X.K (mask O H) (List.replicate m a) (List.replicate m v):=fun m=>by
     induction m with
     |zero=>rfl
     |succ m ih=>exact⟨_,_,rfl,rv,ih⟩
    exact this _
  ·cases e
 ·cases e
theorem Zqp(l b:Addr)(items2:Array Value)(n n2:Nat)(dd dd2:Option Addr)(sl sl2:Array (Option Value)) :
  Meets (Builtin.«tuple.__add__» ⟨[.ref l,.ref b],[]⟩) (fun _ R s=>s.heap.get? l=some { cls:=.type "tuple",dict:=dd,data:=.seq #[] n,slots:=sl } /\
   s.heap.get? b=some { cls:=.type "tuple",dict:=dd2,data:=.seq items2 n2,slots:=sl2 }/\R (.ok (.ret (.ref b))) s) :=
 .of_wp fun prog w A R s h=>by obtain⟨hp,g,d,tk,os⟩:=s;obtain⟨hl,hb,h⟩:=h;have f2:=AutoSeq1.sub_tuple_tuple;wp_walk using AutoSeq1.wpAny_loadPart' hl,AutoSeq1.wpAny_loadPart' hb;exact⟨_,rfl,h⟩
theorem Zv2:V0 X (binaryOp .Add) (fun x y H Q=>∃a b ys,x=.ref a/\y=.ref b/\H a=some (.tup [])/\H b=some (.tup ys)/\Q (.ref b) H):=by
 intro pins s σ H x y v u Q I rx ry h
 obtain⟨a,b,ys,rfl,rfl,ha,hb,q⟩:=h
 cases rx
 cases ry
 obtain⟨_,its,r1,p1⟩:=(show YI X.prog X.w H s.heap a (.tup []) from I.hok a _ ha)
 obtain⟨_,its2,r2,p2⟩:=(show YI X.prog X.w H s.heap b (.tup ys) from I.hok b _ hb)
 cases r1
 obtain⟨⟨cls,dd,data,sl⟩,ho,hc,n,hd⟩:=id p1
 obtain⟨⟨cls2,dd2,data2,sl2⟩,ho2,hc2,n2,hd2⟩:=id p2
 simp only at hc hd hc2 hd2
 subst hc hd hc2 hd2
 exact concat_meets ⟨_,ho,rfl⟩ ⟨_,ho2,rfl⟩ noFill_tuple_add seq_tuple_add PySem.F.slot_tuple_add PySem.F.entry_tuple_add (PySem.F.args_tuple_add_2 _ _) (Zqp a b its2.toArray n n2 dd dd2 sl sl2) ⟨ho,ho2,.ref b,H,I,rfl,q⟩
def Zcp:D->D->Option D
 |.tup a,.tup b=>if a.length+b.length<=Yu then some (.tup (a++b)) else none
 |_,_=>none
theorem Zdz:UK X (binaryOp .Add) Zcp:=UK.of (V0.or Zno Zv2) fun x y H Q h=>by
 obtain⟨O,dx,dy,d,th,rx,ry,e,q⟩:=h
 unfold Zcp at e
 split at e
 ·rename_i a b
  split at e
  ·rename_i hl
   cases e
   obtain⟨p,vs,rfl,hp,rp⟩:=rx
   obtain⟨p2,us,rfl,hp2,rp2⟩:=ry
   have l1:=rp.length
   have l2:=rp2.length
   cases a with
   |nil =>
    have:vs=[]:=rp
    subst this
    exact .inr ⟨p,p2,us,rfl,rfl,Zf _ _ hp,Zf _ _ hp2,q _ H (Zg.refl _) ⟨p2,us,rfl,hp2,rp2⟩⟩
   |cons a0 a =>
    refine .inl ⟨p,p2,vs,us,rfl,rfl,Wx.of (Zf _ _ hp),Wx.of (Zf _ _ hp2),fun z=>?_,?_,fun z=>?_,fun _ r hr=>?_⟩
    ·rw[z]at l1;cases l1
    ·have:=Xw hl;omega
    ·subst z
     have:b=[]:=List.eq_nil_of_length_eq_zero (by rw[<- l2];rfl)
     subst this
     rw[Q1]at q
     exact q _ H (Zg.refl _) ⟨p,vs,rfl,hp,rp⟩
    ·exact q _ _ (Zg.new hr) (Xf th hr (rp.append rp2))
  ·cases e
 ·cases e
end
section
variable{X:Cx}
end
section
variable{X:Cx}{scope:Scope}{elt tg iter:Expr}{ifs:List Expr}{pos:Pos}{fi:FA}{t:FG}{gt:FT}{fe:FE}
end
section
variable{X:Cx}{pos:Pos}
def UU(i:Nat)(fv:FE):FS:=fun ρ=>match ρ[i]?,fv (Ye ρ) with
 |some (some (.own (.lst ds))),some (.lst es)=>if UO es=true/\ds.length+es.length<=Yu then .nx (ρ.set i (some (.own (.lst (ds++es))))) else .bad
 |_,_=>.bad
theorem Zib{i:Nat}{x:Str}{e:Expr}{fv:FE}{p1 p2 p3:Pos}(he:EV X e fv)(hN:X.N[i]?=some x:=by rfl)(hv:Zul X.env.scope x:=by first|exact Or.inl rfl|exact Or.inr (Or.inl rfl)|exact Or.inr (Or.inr rfl))
  (hd:(x == ("__debug__":Str))=false:=by decide) (hcd:(x == ("__classdict__":Str))=false:=by decide)
  (hbase:attributeBase (.Name x p1) "extend" X.env (eval (.Name x p1) X.env)=eval (.Name x p1) X.env:=by rfl)
  (hfew:((backTo p3 (starEach [e] X.env)).all (fun x=>!x.1)&&(backToKw p3 (keywordEach [] X.env)).all (fun x=>x.1.isSome)
   && decide (([e]:List Expr).length+([]:List Keyword).length+(if([]:List Keyword).isEmpty then 0 else 1)<30))=true:=by rfl)
  (hline:(p2.endLine == p3.line)=true:=by rfl) (hs:starEach [e] X.env=(false,eval e X.env)::starEach [] X.env:=by rfl) (hplain:(backTo p3 (starEach [] X.env)).any (·.1)=false:=by rfl) :
  PE X (.Call (.Attribute (.Name x p1) "extend" p2) [e] [] p3) (tBM X.K "list" Zhi (Zg7 i) (Zfy (tD X.K fv) Zom)) :=
 Zxj PySem.F.plainAttrs_list PySem.F.slot_list_extend PySem.F.type_list_extend Zo8 (VH hN hv hd hcd) (XZ he VJ hs) hbase hfew hline hs hplain
theorem Zg8{i:Nat}{x:Str}{e:Expr}{fv:FE}{p1 p2 p3:Pos}(he:EV X e fv)
  (h1:PE X (.Call (.Attribute (.Name x p1) "extend" p2) [e] [] p3) (tBM X.K "list" Zhi (Zg7 i) (Zfy (tD X.K fv) Zom))) (hs:swapsWith (.Call (.Attribute (.Name x p1) "extend" p2) [e] [] p3) none pos.line X.env=pure false:=by rfl) :
  SV X (.Expr (.Call (.Attribute (.Name x p1) "extend" p2) [e] [] p3) pos) (UU i fv):=PS.imp (Zc1 h1 hs) fun E σ H h=>by
 obtain⟨B,O0,O1,ρ,r,q⟩:=h
 unfold UU at q
 split at q
 ·rename_i ds es hi e1
  split at q
  ·rename_i hm
   obtain⟨a,ha',hO,vs,hv',rs⟩:=r.owns i _ hi
   refine⟨.ref a,ha',.inl ⟨rfl,vs,XX.of hv'⟩,O0,Ye ρ,_,r.all,e1,fun v H1 s1 rv1=>?_⟩
   obtain⟨b,zs,rfl,hb,rb⟩:=rv1
   have r1:=r.mono s1
   have hv1:H1 a=some (.lst vs):=s1 _ _ hv'
   have l1:=rs.length
   have l2:=rb.length
   refine⟨a,b,vs,zs,rfl,rfl,hv1,Zf _ _ hb,by have:=Xw hm.2;omega,?_⟩
   have rd:Zr X.K (mask (O0++O1) H1) es zs:=V9 r1.th es zs hm.1 rb
   have em:mask (O0++O1) (YZ H1 a (.lst (vs++zs)))=mask (O0++O1) H1:=by
    funext c
    by_cases hc:c∈O0++O1
    ·rw[ZY hc,ZY hc]
    ·rw[Zp hc,Zp hc,ZE (fun z=>hc (by rw[z];exact Qg _ hO))]
   refine q _ _ O1 (r1.write (d':=.lst (ds++es)) hi ha' trivial ⟨vs++zs,ZS,?_⟩)
   rw[em]
   exact Zr.append (Zr.mono (ZH s1) ds vs rs) rd
  ·exact q.elim
 ·exact q.elim
def Zqe(d:D):Bool:=(YA d).canLay0&&decide ((YA d).depth<=60)
theorem Zl0{d:D}(h:Zqe d=true):(YA d).canLay0=true/\(YA d).depth<=60:=by
 unfold Zqe at h
 simpa using h
noncomputable def eqP(s:Shared)(px:PyData)(w:Value):Bool:=@decide (∃dd as,Reads s.heap w dd as/\dd.canLay0=true/\PyData.eqv dd px=true) (Classical.propDecidable _)
theorem Zto{s:Shared}{px dd:PyData}{w:Value}{as:List Addr}(h:Reads s.heap w dd as)(hc:dd.canLay0=true):eqP s px w=PyData.eqv dd px:=by
 unfold eqP
 cases e:PyData.eqv dd px with
 |true=>exact @decide_eq_true _ (Classical.propDecidable _) ⟨dd,as,h,hc,e⟩
 |false =>
  refine @decide_eq_false _ (Classical.propDecidable _) fun z=>?_
  obtain⟨d2,as2,h2,hc2,e2⟩:=z
  rw[PySem.SeqAt.Reads.unique dd d2 w as as2 hc h h2,e2]at e
  cases e
theorem Zjo{pins:List (Addr×Obj)}{s:Shared}{σ:St}{H:Hp}(I:ZA X pins σ H s)(px:PyData):∀(ds:List D) (vs:List V) (us:List Value),ds.all Zqe=true->Zr X.K H ds vs->ZM vs us ->
  (∀w∈us,∃d as,Zqe d=true/\Reads s.heap w (YA d) as)/\us.any (eqP s px)=ds.any fun d=>PyData.eqv (YA d) px:=by
 intro ds
 induction ds with
 |nil =>
  intro vs us _ r t
  have:vs=[]:=r
  subst this
  cases t
  exact⟨fun w hw=>(by cases hw),rfl⟩
 |cons d ds ih =>
  intro vs us f r t
  obtain⟨v,vr,rfl,h,r'⟩:=r
  cases t with
  | @cons _ u _ us r0 r1 =>
   rw[JN,QO]at f
   obtain⟨g1,g2⟩:=ih vr us f.2 r' r1
   obtain⟨c1,c2⟩:=Zl0 f.1
   obtain⟨as,q⟩:=WO I d v u c1 h r0
   refine⟨fun w hw=>?_,?_⟩
   ·rcases Qm.mp hw with rfl|hw
    ·exact⟨d,as,f.1,q⟩
    ·exact g1 w hw
   ·rw[JC,JC,g2,Zto q c1]
end
structure Fly(P:Program)(w:World)(base:Heap)(outer:List Env)(H:Hp)(s:Shared)(H':Hp)(a:Addr)(cls a0:Value)(B:Heap)(s':Shared):Prop where
 fl:Heap.FlyingW B outer a cls a0 s'.heap
 bB:base.StaysIn B
 os:s'.os=s.os
 bare:AllBare s'.gens
 cov:∀b o,s.heap.get? b=some o->H b=none->b∉Zkl outer->B.get? b=some o
 slot:∀b o,s.heap.get? b=some o->b∈Zkl outer->∃sl,s'.heap.get? b=some { o with slots:=sl }
 free:∀b o,s.heap.get? b=some o->H b=none->H' b=none
 trk:∀b o,s.heap.get? b=some o->b∉Zkl outer->∃o',B.get? b=some o'
 tups:∀b xs,H b=some (.tup xs)->H' b=some (.tup xs)
 frzs:∀b o u,H b=some (.frz o u)->H' b=some (.frz o u)
 tbls:∀b ps,H b=some (.tbl ps)->∃more,H' b=some (.tbl (ps++more))
 hok:UL P w H' B
theorem Fly.un{P:Program}{w:World}{base:Heap}{outer:List Env}{H H':Hp}{s s':Shared}{a:Addr}{cls a0:Value}{B:Heap}(f:Fly P w base outer H s H' a cls a0 B s'):Un (Zkl outer) [] H H' s.heap s'.heap where
 keep:=fun b o e n hb _=>f.fl.1 b o (f.cov b o e n hb)
 slot:=fun b o e _ hb _=>f.slot b o e hb
 free:=fun b o e n _=>f.free b o e n
 there:=fun b o e _=>by
  by_cases hb:b∈Zkl outer
  ·obtain⟨sl,e'⟩:=f.slot b o e hb
   exact⟨_,e'⟩
  ·obtain⟨o',e'⟩:=f.trk b o e hb
   exact⟨o',f.fl.1 b o' e'⟩
 tups:=f.tups
 frzs:=f.frzs
 tbls:=f.tbls
def CX1(P:Program)(w:World)(base:Heap):Zod:=fun outer H s E e s'=>∃a cls a0 B H',e=.ref a/\Fly P w base outer H s H' a cls a0 B s'/\E cls none H'
structure XL(X:Cx)(E:XK):Prop where
 xe:X.xe=fun e s'=>wpAny (model X.prog X.w) X.A (leaving X.env e) (fun _ s''=>CX1 X.prog X.w X.base X.outer X.H₀ X.s₀ E e s'') (fun e' s''=>CX1 X.prog X.w X.base X.outer X.H₀ X.s₀ E e' s'') s'
 stk:X.stack=X.env::X.outer
 fr:X.env.frame=some X.env.locals
 ex:X.ex=[]
section
variable{X:Cx}{E:XK}{pins:List (Addr×Obj)}{σ:St}{H:Hp}{s:Shared}
end
abbrev bmVE:List Value:=[.type "ValueError",.type "Exception",.type "BaseException",.type "object"]
def Zq9(K:PySem.W.Frag)(C:Addr)(v:Value):Bool:=match K.lookup C with
 |some ⟨_,_,.cls cd,_⟩=>cd.mro.contains v
 |_=>false
structure OX(K:PySem.W.Frag)(mg:Str->Option Value)(x:Str)(C:Addr):Prop where
 mg:mg x=some (.ref C)
 exc:PySem.W.excIn K C bmVE "ValueError.__new__"=true
theorem OX.obj{K:PySem.W.Frag}{mg:Str->Option Value}{x:Str}{C:Addr}(o:OX K mg x C){h:Heap}(X:K.In h) :
  ∃bm N nm q bs hdct sn sub ab col dd k0 k1 k2 k3 k5 mN,h.get? C=some (excClassObj nm q C N bs bm hdct sn sub ab col dd k0 k1 k2 k3 k5 "ValueError.__new__")/\h.Ns N mN/\mN "__init__"=none/\OwnTail h bmVE bm/\∀v,Zq9 K C v=(Value.ref C::bm).contains v:=by
 have q:=o.exc
 unfold PySem.W.excIn at q
 split at q
 ·rename_i dd cd sl ho
  split at q
  ·rename_i C' bm k0 k1 k2 k3 n k5 hm hs
   simp only[QO,beq_iff_eq,Bool.not_eq_true']at q
   obtain⟨⟨⟨⟨⟨rfl,rfl⟩,hdel⟩,ht⟩,hok⟩,hni⟩:=q
   have hsub:∀v,Zq9 K C' v=(Value.ref C'::bm).contains v:=fun v=>by
    unfold Zq9;rw[ho];simp only[hm]
   obtain⟨nm,bs,mro,ns,qn,hd,sn,sub,ab,col,del⟩:=cd
   dsimp only at hm hdel hok hni
   subst hm hdel
   have hsl:sl=#[k0,k1,k2,k3,some (.builtin "ValueError.__new__"),k5]:=by
    obtain⟨l⟩:=sl
    simp only at hs
    rw[hs]
   subst hsl
   exact⟨bm,ns,nm,qn,bs,hd,sn,sub,ab,col,dd,k0,k1,k2,k3,k5,_,X _ _ ho,.of_isNs (PySem.W.isNs_of_in X hok),PySem.W.nsMap_none_of_in X hok hni,PySem.W.tail_of_in X ht,hsub⟩
  ·cases q
 ·cases q
abbrev FX:=YT->Option Str
section
variable{X:Cx}{ad:Str->Addr}{E:XK}{st:Stmt}{YK:List Stmt}{pos:Pos}{F G:FX}
def spX(K:PySem.W.Frag)(ad:Str->Addr)(G:List D->Option Str):Sp:=fun vs H _ E=>∃O ds c,YY O H/\Zr K (mask O H) ds vs/\G ds=some c/\∀H',Zg H H'->E (.ref (ad c)) none H'
structure DefX(P:Program)(w:World)(K:PySem.W.Frag)(mg:Str->Option Value)(base:Heap)(ad:Str->Addr)(x:Str)(k:Nat)(ps:List Str)(G:List D->Option Str)(f:Addr)(fd:FuncData):Prop where
 ok:Vm P w K mg base (CX1 P w base) k f fd ps (spX K ad G)
 mg:mg x=some (.ref f)
 kp:PySem.W.keepIn K (.ref f)=true
 bi:Zbd K fd ps []
end
section
variable{X:Cx}{pos:Pos}
def inL:D->D->Option D
 |x,.lst ds=>if(Zqe x&&ds.all Zqe)=true then some (.bl (ds.any fun d=>PyData.eqv (YA d) (YA x))) else none
 |_,_=>none
theorem Znn(hu:X.A.units+64<cLine):UK X (compareOp .In) inL:=by
 intro pins s σ H x y v u Q I rx ry h
 obtain⟨O,dx,dy,d,th,r1,r2,e,q⟩:=h
 have ee:∃ds,dy=.lst ds:=by cases dy<;>first|exact⟨_,rfl⟩|(cases e;done)
 obtain⟨ds,rfl⟩:=ee
 have e:(if(Zqe dx&&ds.all Zqe)=true then some (D.bl (ds.any fun d=>PyData.eqv (YA d) (YA dx))) else none)=some d:=e
 split at e
 ·rename_i hk
  cases e
  obtain⟨k1,k2⟩:=Bool.and_eq_true_iff.mp hk
  obtain⟨a1,b1⟩:=Zl0 k1
  obtain⟨p,vs,rfl,hp,rp⟩:=r2
  cases ry
  obtain⟨as,q1⟩:=WO I dx x v a1 (Y8.mono Zf dx x r1) rx
  obtain⟨its,rv,pl,hz⟩:=I.list (XX.of (Zf _ _ hp))
  obtain⟨g1,g2⟩:=Zjo I (YA dx) ds vs its k2 (Zr.mono Zf ds vs rp) rv
  refine SeqAt.in_listAt (eqP s (YA dx)) pl.isList (fun w hw=>?_) ⟨.bl _,H,I,rfl,?_⟩
  ·obtain⟨d,as',o1,rd⟩:=g1 w (by simpa using hw)
   obtain⟨c1,c2⟩:=Zl0 o1
   rw[Zto rd c1]
   refine SeqAt.eqAt_reads (YA d) (YA dx) X.A.in1 s w v as' as rd q1 c1 a1 ?_
   show X.A.units+1+min (YA d).depth (YA dx).depth<cLine
   omega
  ·rw[show its.toArray.any (eqP s (YA dx))=its.any (eqP s (YA dx)) by simp,g2]
   exact q _ H (Zg.refl _) rfl
 ·cases e
end
section
variable{X:Cx}{pos:Pos}
def revD:D->Option D
 |.lst ds=>some (.lst ds.reverse)
 |_=>none
theorem RS.fix{K:PySem.W.Frag}{B H:Hp}{O0 O1:List Addr}{ρ:YT}{σ:St}(r:RS K B O0 O1 H ρ σ){j:Nat}{ds:List D}(hj:ρ[j]?=some (some (.own (.lst ds)))):∃O2,RS K B O0 O2 H (ρ.set j (some (.val (.lst ds)))) σ:=by
 obtain⟨a,ha,hO,vs,hv',rs⟩:=r.owns j _ hj
 refine⟨O1.filter fun b=>decide (b≠a),?_⟩
 have sub:∀b∈O1.filter (fun b=>decide (b≠a)),b∈O1:=fun b hb=>(QH.mp hb).1
 have na:a∉O0++O1.filter (fun b=>decide (b≠a)):=fun m=>by
  rcases Qu.mp m with z|z
  ·exact r.disj hO z
  ·have:=(QH.mp z).2
   simp at this
 have sm:Zg (mask (O0++O1) H) (mask (O0++O1.filter (fun b=>decide (b≠a))) H):=fun c u hc=>by
  have h3:c∉O0++O1:=fun m=>by rw[ZY m]at hc;cases hc
  rw[Zp (fun m=>h3 (by
   rcases Qu.mp m with z|z
   ·exact Qw _ z
   ·exact Qg _ (sub c z)))]
  exact Zf _ _ hc
 have at_:∀(k:Nat) (c:Cl),(ρ.set j (some (.val (.lst ds))))[k]?=some (some c)->(k=j/\c=.val (.lst ds))\/(k≠j/\ρ[k]?=some (some c)):=fun k c e=>by
  by_cases ei:k=j
  ·subst ei
   rw[List.getElem?_set]at e
   simp only[if_true]at e
   split at e
   ·cases e;exact .inl ⟨rfl,rfl⟩
   ·cases e
  ·rw[QB (Ne.symm ei)]at e
   exact .inr ⟨ei,e⟩
 refine⟨by rw[List.length_set];exact r.len,r.same,r.thB,fun b hb=>r.new b (sub b hb),fun b hb=>r.th b (sub b hb),fun k d e=>?_,fun k d e=>?_,fun k l d e' b h1 h2 h3 h4=>?_⟩
 ·rcases at_ k _ e with⟨rfl,ec⟩|⟨ei,ek⟩
  ·cases ec
   exact⟨.ref a,ha,a,vs,rfl,(Zp na).trans hv',Zr.mono sm ds vs rs⟩
  ·obtain⟨v,w1,w2⟩:=r.vals k d ek
   exact⟨v,w1,Y8.mono sm d v w2⟩
 ·rcases at_ k _ e with⟨_,ec⟩|⟨ei,ek⟩
  ·cases ec
  ·obtain⟨b,w1,w2,w3⟩:=r.owns k d ek
   have hb:b≠a:=fun z=>ei (r.apart k j _ _ a ek hj (by rw[<- z];exact w1) ha)
   exact⟨b,w1,QH.mpr ⟨w2,by simpa using hb⟩,w3.mono sm fun _ z=>z⟩
 ·rcases at_ k _ h1 with⟨_,ec⟩|⟨ei,ek⟩
  ·cases ec
  ·rcases at_ l _ h2 with⟨_,ec⟩|⟨ei2,ek2⟩
   ·cases ec
   ·exact r.apart k l d e' b ek ek2 h3 h4
def Zff(j:Nat)(F:FS):FS:=fun ρ=>match ρ[j]? with
 |some (some (.own (.lst ds)))=>F (ρ.set j (some (.val (.lst ds))))
 |_=>.bad
theorem Zq6{st:Stmt}{j:Nat}{F:FS}(h:SV X st F):SV X st (Zff j F):=PS.imp h fun D σ H hh=>by
 obtain⟨B,O0,O1,ρ,r,q⟩:=hh
 unfold Zff at q
 split at q
 ·rename_i ds hj
  obtain⟨O2,r2⟩:=r.fix hj
  exact⟨B,O0,O2,_,r2,q⟩
 ·exact q.elim
def Zcd(i:Nat)(fv:FE):FS:=fun ρ=>match ρ[i]?,fv (Yb ρ) with
 |some (some (.own (.lst ds))),some d=>if ds.length<Yu then .nx (ρ.set i (some (.own (.lst (ds++[d]))))) else .bad
 |_,_=>.bad
theorem Zm9{i:Nat}{x:Str}{e:Expr}{fv:FE}{p1 p2 p3:Pos}(he:EV X e fv)
  (h1:PE X (.Call (.Attribute (.Name x p1) "append" p2) [e] [] p3) (tBM X.K "list" Zcz (Zg7 i) (Zfy (tD X.K fv) Zom))) (hs:swapsWith (.Call (.Attribute (.Name x p1) "append" p2) [e] [] p3) none pos.line X.env=pure false:=by rfl) :
  SV X (.Expr (.Call (.Attribute (.Name x p1) "append" p2) [e] [] p3) pos) (Zcd i fv):=PS.imp (Zc1 h1 hs) fun E σ H h=>by
 obtain⟨B,O0,O1,ρ,r,q⟩:=h
 unfold Zcd at q
 split at q
 ·rename_i ds d hi e1
  split at q
  ·rename_i hm
   obtain⟨a,ha',hO,vs,hv',rs⟩:=r.owns i _ hi
   refine⟨.ref a,ha',.inl ⟨rfl,vs,XX.of hv'⟩,O0++O1,Yb ρ,_,r.val,e1,fun v H1 s1 rv1=>?_⟩
   have r1:=r.mono s1
   have hv1:H1 a=some (.lst vs):=s1 _ _ hv'
   have l1:=rs.length
   refine⟨a,vs,v,rfl,rfl,hv1,by(have:=Xw (Nat.le_of_lt hm);have h3:Yu<sizeLine:=(by rw[show sizeLine=16777216 from Q3];decide);omega),?_⟩
   have em:mask (O0++O1) (YZ H1 a (.lst (vs++[v])))=mask (O0++O1) H1:=by
    funext b
    by_cases hb:b∈O0++O1
    ·rw[ZY hb,ZY hb]
    ·rw[Zp hb,Zp hb,ZE (fun z=>hb (by rw[z];exact Qg _ hO))]
   refine q _ _ O1 (r1.write (d':=.lst (ds++[d])) hi ha' trivial ⟨vs++[v],ZS,?_⟩)
   rw[em]
   exact Zr.append (Zr.mono (ZH s1) ds vs rs) ⟨v,[],rfl,rv1,rfl⟩
  ·exact q.elim
 ·exact q.elim
end
end L2

namespace M
def noCol(p:Nat)(rows:List (List Int)):List (List Int):=rows.map fun r=>r.take p++r.drop (p+1)
def Zuo(p:Nat)(rows:List (List Int))(col:List Int):List (List Int):=(rows.zip col).map fun x=>x.1.take p++[x.2]++x.1.drop (p+1)
mutual
def detN:Nat->List (List Int)->Int
 |0,_=>1
 |_+1,[]=>1
 |k+1,r::rs=>Ztw k rs r 0 1
def Ztw:Nat->List (List Int)->List Int->Nat->Int->Int
 |_,_,[],_,_=>0
 |k,rs,x::r,p,sg=>sg*x*detN k (noCol p rs)+Ztw k rs r (p+1) (-sg)
end
def det(rows:List (List Int)):Int:=detN rows.length rows
mutual
def T(L:Nat->Nat->Int):Nat->List Nat->(Nat->Int)->Int
 |0,_,_=>1
 |m+1,vs,s=>Trow L m [] vs s
def Trow(L:Nat->Nat->Int):Nat->List Nat->List Nat->(Nat->Int)->Int
 |_,_,[],_=>0
 |m,pre,v::post,s=>s v*T L m (pre++post) (fun i=>(if i∈pre then 0 else s i)+L v i)+Trow L m (pre++[v]) post s
end
section
variable{L:Nat->Nat->Int}(nn:∀i j,0<=L i j)
include nn
def Cut(L:Nat->Nat->Int)(vs:List Nat)(s:Nat->Int):Prop:=∀A:Nat->Bool,(∃i,i∈vs/\A i=true)->∃i,i∈vs/\A i=true/\(0<s i\/∃j,j∈vs/\A j=false/\0<L i j)
end
end M

namespace M
def ent(n:Nat)(L:Nat->Nat->Int)(i j:Nat):Int:=if j=i then S n (L i) else-L i j
def Zrj(n:Nat)(L:Nat->Nat->Int)(vs:List Nat):List (List Int):=vs.map fun i=>vs.map fun j=>ent n L i j
def part(n:Nat)(L:Nat->Nat->Int)(vs:List Nat)(col:Nat->Int)(k:Nat):Int:=det (Zuo k (Zrj n L vs) (vs.map col))
structure Good(n:Nat)(L:Nat->Nat->Int)(q:Nat)(vs:List Nat):Prop where
 net:Net n L
 le4:∀i j,L i j<=4
 hq:q<n
 nd:vs.Nodup
 qn:q∉vs
 lt:∀i∈vs,i<n
 sp:∀f:Nat->Int,S n f=f q+(vs.map f).sum
section
variable{n:Nat}{L:Nat->Nat->Int}{q:Nat}
end
end M

namespace M
structure Gd(n:Nat)(L:Nat->Nat->Int):Prop where
 net:Net n L
 le4:∀i j,L i j<=4
 pos:1<=n
 le5:n<=5
 par:∀y,1<=y->y<n->∃x,x<y/\0<L x y
theorem Zxw{P:Nat->Prop}:∀(n:Nat),P n->∃m,m<=n/\P m/\∀k,k<m->¬P k
 |n,h=>by
  induction n using Nat.strongRecOn with
  |_ n ih =>
   by_cases e:∃k,k<n/\P k
   ·obtain⟨k,hk,pk⟩:=e
    obtain⟨m,hm,h1,h2⟩:=ih k hk pk
    exact⟨m,by omega,h1,h2⟩
   ·exact⟨n,Qj _,h,fun k hk pk=>e ⟨k,hk,pk⟩⟩
section
variable{n:Nat}{L:Nat->Nat->Int}{q:Nat}
theorem Gd.cross(g:Gd n L)(A:Nat->Bool)(h1:∃i,i<n/\A i=true)(h2:∃i,i<n/\A i=false):∃i j,i<n/\j<n/\A i=true/\A j=false/\0<L i j:=by
 cases a0:A 0 with
 |false =>
  obtain⟨i,hi,ai⟩:=h1
  obtain⟨m,hm,am,hl⟩:=Zxw (P:=fun y=>A y=true) i ai
  have m1:1<=m:=by
   cases m with
   |zero=>rw[a0]at am;cases am
   |succ m=>omega
  obtain⟨x,hx,lx⟩:=g.par m m1 (by omega)
  have ax:A x=false:=by simpa using hl x hx
  exact⟨m,x,by omega,by omega,am,ax,by rw[g.net.sym m x (by omega) (by omega)];exact lx⟩
 |true =>
  obtain⟨i,hi,ai⟩:=h2
  obtain⟨m,hm,am,hl⟩:=Zxw (P:=fun y=>A y=false) i ai
  have m1:1<=m:=by
   cases m with
   |zero=>rw[a0]at am;cases am
   |succ m=>omega
  obtain⟨x,hx,lx⟩:=g.par m m1 (by omega)
  have ax:A x=true:=by simpa using hl x hx
  exact⟨x,m,by omega,by omega,ax,am,lx⟩
theorem Gd.cut(g:Gd n L)(hq:q<n):Cut L (others n q) (fun i=>L i q):=by
 intro A ⟨x,hx,ax⟩
 have mx:=mem_others.mp hx
 obtain⟨i,j,hi,hj,ai,aj,lt⟩:=g.cross (fun y=>A y&&decide (y≠q)) ⟨x,mx.1,by simp[ax,mx.2]⟩ ⟨q,hq,by simp⟩
 simp only[QO,decide_eq_true_eq]at ai
 refine⟨i,mem_others.mpr ⟨hi,ai.2⟩,ai.1,?_⟩
 by_cases e:j=q
 ·subst e;exact .inl lt
 ·exact .inr ⟨j,mem_others.mpr ⟨hj,e⟩,by simpa [e] using aj,lt⟩
def Zae(n:Nat)(L:Nat->Nat->Int)(q:Nat):Int:=det (Zrj n L (others n q))
def num(n:Nat)(L:Nat->Nat->Int)(q:Nat)(col:Nat->Int)(i:Nat):Int:=match(others n q).idxOf? i with
 |some k=>part n L (others n q) col k
 |none=>0
def cnt(n:Nat)(L:Nat->Nat->Int)(q:Nat)(d:Nat->Int)(i:Nat):Int:=num n L q (fun i=>d i-S n (L i)) i/Zae n L q
end
end M

namespace M
section
variable{n:Nat}{L:Nat->Nat->Int}{q:Nat}{d:Nat->Int}
end
end M

namespace P
open PySem L2
noncomputable def Uw:FS :=
 (Z1 (Zer (f1 (Zgg "int") (fV 0)) (Ztj (f1 (Zgg "bool") (fV 0)))))
noncomputable def ZL:List D->Option D:=Z4 1 1 Uw
noncomputable def XO(ZL:List D->Option D):FS :=
 (Z1 (Zer (fL ZL (Za (fV 0) fN)) (Zeq (Z9 fun i j=>.bl (decide (i<=j))) (Z9 fun i j=>.bl (decide (i<=j))) (fV 1) (fV 0) (fV 2))))
noncomputable def Zn:List D->Option D:=Z4 3 3 (XO ZL)
noncomputable def Uz(Zn:List D->Option D):FS :=
 (Zj (Wj (Zfi (VQ (Xr (f1 (Zgg "tuple") (fV 1)))) (gB (f2 Wc (fL Yv (Za (fV 1) fN)) (fC (.int 3))))) (Z1 (fC (.bl false))) WK)
 (Zj (Wj (VQ (Xr (fL Zn (Za (f2 Yl (fV 1) (fC (.int 0))) (Za (fC (.int 0)) (Za (f2 (Z9 fun i j=>.int (i-j)) (fV 0) (fC (.int 1))) fN)))))) (Z1 (fC (.bl false))) WK)
 (Z1 (Zer (fL Zn (Za (f2 Yl (fV 1) (fC (.int 1))) (Za (f2 ZR (f2 Yl (fV 1) (fC (.int 0))) (fC (.int 1))) (Za (f2 (Z9 fun i j=>.int (i-j)) (fV 0) (fC (.int 1))) fN)))) (fL Zn (Za (f2 Yl (fV 1) (fC (.int 2))) (Za (fC (.int 1)) (Za (fC (.int 4)) fN))))))))
noncomputable def Y3:List D->Option D:=Z4 2 2 (Uz Zn)
noncomputable def Ux:FS :=
 (Zj (Zjj 2 0 true)
 (Zj (Y1 (fR YW (Za (fV 0) fN)) (gN 3) (YB (Zh (fV 1)) (gT [4,5,6]) (Wj (Zfi (gB (f2 X1 (fV 4) (fV 2))) (gB (f2 X1 (fV 5) (fV 2)))) (Zj (YX 2 (fV 4) (fC (.bl true)))
 (YX 2 (fV 5) (fC (.bl true)))) WK)))
 (Z1 (f2 Xb (fL Zf8 (Za (fV 2) fN)) (fV 0)))))
noncomputable def Z6:List D->Option D:=Z4 2 7 Ux
noncomputable def Zb8:FS :=
 (Z1 (fL Za7 (Za (ZK 2 [] (Zml (fV 0) (Zct (fV 0) (pS (fC (.int 1))) pN)) (gT [0,1]) Xn (f2 XH (Zct (fV 0) pN (pS (fC (.int 2)))) (Zct (fV 1) pN (pS (fC (.int 2)))))) fN)))
noncomputable def XV:List D->Option D:=Z4 1 1 Zb8
noncomputable def Uy(Zn Y3 Z6 XV:List D->Option D):FS :=
 (Zj (Wj (Zfi (VQ (Xr (f1 (Zgg "tuple") (fV 0)))) (gB (f2 Wc (fL Yv (Za (fV 0) fN)) (fC (.int 2))))) (Z1 (fC (.bl false))) WK)
 (Zj (ZB 1 (f2 Yl (fV 0) (fC (.int 0))))
 (Zj (ZB 2 (f2 Yl (fV 0) (fC (.int 1))))
 (Zj (Wj (Zfi (VQ (Xr (fL Zn (Za (fV 1) (Za (fC (.int 1)) (Za (fC (.int 5)) fN)))))) (VQ (Xr (f1 (Zgg "tuple") (fV 2))))) (Z1 (fC (.bl false))) WK)
 (Zj (Wj (VQ (Xr (fL Za7 (Za (ZK 1 [1] (Zh (fV 2)) (gN 0) Xn (fL Y3 (Za (fV 1) (Za (fV 0) fN)))) fN)))) (Z1 (fC (.bl false))) WK)
 (Z1 (Zer (fL XV (Za (fV 2) fN)) (fL Z6 (Za (fV 1) (Za (fV 2) fN))))))))))
noncomputable def Xi:List D->Option D:=Z4 1 3 (Uy Zn Y3 Z6 XV)
noncomputable def Zb9(Xi:List D->Option D):FS :=
 (Zj (Wj (VQ (Xr (fL Xi (Za (fV 0) fN)))) Zhc WK)
 (Z1 (fV 0)))
noncomputable def YN:List D->Option D:=Z4 1 1 (Zb9 Xi)
noncomputable def W0:FS :=
 (Zj (Wj (gB (f2 XH (fV 1) (fL Yv (Za (fV 0) fN)))) (Z1 (f2 Yl (fV 0) (fV 1))) WK)
 (Zj (Wj (gB (f2 Xb (fV 0) (fL Yz fN))) (Z1 (fC (.int 0))) WK)
 (Z1 (f2 ZR (f2 WQ (f2 Yl (fV 0) (f2 Ue (fV 1) (fL Yv (Za (fV 0) fN)))) (fC (.int 31))) (fV 1)))))
noncomputable def YG:List D->Option D:=Z4 2 2 W0
noncomputable def VW(YG:List D->Option D):FS :=
 (Zj (ZB 3 (f2 Ue (f2 WQ (f2 ZR (f2 ZR (fL YG (Za (fV 0) (Za (fV 1) fN))) (f2 WQ (fC (.int 7919)) (fV 1))) (fC (.int 1))) (fC (.int 48271))) (fC (.int 2147483647))))
 (Z1 (f2 Ue (f2 Ue (f2 ZR (f2 ZR (f2 WQ (fV 3) (fV 3)) (f2 WQ (fC (.int 7)) (fV 3))) (fV 1)) (fC (.int 2147483629))) (fV 2))))
noncomputable def Zo:List D->Option D:=Z4 3 4 (VW YG)
noncomputable def Vo(Zo:List D->Option D):FS :=
 (Zj (ZB 3 (f2 ZR (fC (.int 1)) (fL Zo (Za (fV 0) (Za (fV 1) (Za (fV 2) fN))))))
 (Zj (Zrh 4)
 (Zj (Y1 (fR Zbl (Za (fC (.int 1)) (Za (fV 3) fN))) (gN 5) (YX 4 (fL Yy (Za (fL Zo (Za (fV 0) (Za (f2 ZR (fV 1) (fV 5)) (Za (fV 5) fN)))) (Za (fV 5) fN))) (f2 ZR (fC (.int 1)) (f2 Zgm (fL Zo (Za (fV 0) (Za (f2 ZR (f2 ZR (fV 1) (fC (.int 5))) (fV 5)) (Za (fC (.int 5)) fN)))) (fC (.int 3))))))
 (Zj (Y1 (fR YW (Za (f2 WQ (fL Zo (Za (fV 0) (Za (f2 ZR (fV 1) (fC (.int 10))) (Za (fC (.int 4)) fN)))) (fL Zei (Za (f2 (Z9 fun i j=>.bl (decide (j<i))) (fV 3) (fC (.int 1))) fN))) fN)) (gN 6) (Zj (ZB 7 (fL Zo (Za (fV 0) (Za (f2 ZR (f2 ZR (fV 1) (fC (.int 11))) (f2 WQ (fC (.int 2)) (fV 6))) (Za (fV 3) fN)))))
 (Zj (ZB 8 (f2 Ue (f2 ZR (f2 ZR (fV 7) (fC (.int 1))) (fL Zo (Za (fV 0) (Za (f2 ZR (f2 ZR (fV 1) (fC (.int 12))) (f2 WQ (fC (.int 2)) (fV 6))) (Za (f2 (Z9 fun i j=>.int (i-j)) (fV 3) (fC (.int 1))) fN))))) (fV 3)))
 (Zj (ZB 9 (fL Yy (Za (fL UY (Za (fV 7) (Za (fV 8) fN))) (Za (fL UZ (Za (fV 7) (Za (fV 8) fN))) fN))))
 (YX 4 (fV 9) (f2 ZR (f2 Ue (Zpx (fV 4) (fV 9) (fC (.int 0))) (fC (.int 4))) (fC (.int 1))))))))
 (Z1 (fL Yy (Za (fV 3) (Za (fL Zlk (Za (ZK 1 [4] (Zh (fL Y0 (Za (fL Zh0 (Za (fV 4) fN)) fN))) (gN 0) Xn (f2 ZR (fV 0) (fL Yy (Za (f2 Z04 (fV 1) (fV 0)) fN)))) fN)) fN))))))))
noncomputable def YC:List D->Option D:=Z4 3 10 (Vo Zo)
noncomputable def YS(ZL:List D->Option D):FS :=
 (Z1 (Zer (f2 Xb (fL Yv (Za (fV 1) fN)) (f2 Yl (fV 0) (fC (.int 0)))) (fL Za7 (Za (ZK 1 [] (Zh (fV 1)) (gN 0) Xn (fL ZL (Za (fV 0) fN))) fN))))
noncomputable def Zv:List D->Option D:=Z4 2 2 (YS ZL)
noncomputable def Zb6(YN Zv:List D->Option D):FS :=
 (Zj (W2 (fL YN (Za (fV 0) fN)))
 (Z1 (Zer (f1 (Zgg "tuple") (fV 1)) (fL Zv (Za (fV 0) (Za (fV 1) fN))))))
noncomputable def YM:List D->Option D:=Z4 2 2 (Zb6 YN Zv)
noncomputable def WZ(YM:List D->Option D):FS :=
 (Zj (Wj (VQ (Xr (fL YM (Za (fV 0) (Za (fV 1) fN))))) Zhc WK)
 (Z1 (fV 1)))
noncomputable def YF:List D->Option D:=Z4 2 2 (WZ YM)
noncomputable def VX:FS :=
 (Zj (YB (Zh (f2 Yl (fV 0) (fC (.int 1)))) (gN 3) (Wj (gB (f2 Xb (Zct (fV 3) pN (pS (fC (.int 2)))) (fL Yy (Za (fL UY (Za (fV 1) (Za (fV 2) fN))) (Za (fL UZ (Za (fV 1) (Za (fV 2) fN))) fN))))) (Z1 (f2 Yl (fV 3) (fC (.int 2)))) WK))
 (Z1 (fC (.int 0))))
noncomputable def Y4:List D->Option D:=Z4 3 4 VX
noncomputable def WX(YN Zn:List D->Option D):FS :=
 (Zj (W2 (fL YN (Za (fV 0) fN)))
 (Zj (Wj (VQ (Xr (fL Zn (Za (fV 1) (Za (fC (.int 0)) (Za (f2 (Z9 fun i j=>.int (i-j)) (f2 Yl (fV 0) (fC (.int 0))) (fC (.int 1))) fN)))))) Zhc WK)
 (Z1 (fV 1))))
noncomputable def Zm:List D->Option D:=Z4 2 2 (WX YN Zn)
noncomputable def VU:FS :=
 (Znd 1 (f2 Yl (fV 0) (fC (.int 0))) (Zh (f2 Yl (fV 0) (fC (.int 1)))))
noncomputable def Zq:List D->Option D:=Z4 1 5 VU
noncomputable def Wz:FS :=
 (Z1 (ZK 1 [1] (fR YW (Za (fL Yv (Za (fV 0) fN)) fN)) (gN 0) (gB (f2 Wc (fV 0) (fV 1))) (fV 0)))
noncomputable def Zx:List D->Option D:=Z4 2 2 Wz
noncomputable def U9:FS :=
 (Z1 (fL Zdf (Za (ZK 1 [0,1] (Zh (fV 2)) (gN 0) Xn (f2 Yl (f2 Yl (fV 1) (fV 2)) (fV 0))) fN)))
noncomputable def ZC:List D->Option D:=Z4 3 3 U9
noncomputable def Vn(Zx ZC:List D->Option D):FS :=
 (Zj (Y7 3 (fR few (Za (fV 2) fN)))
 (Zj (Y1 (fR YW (Za (fL Yv (Za (fV 0) fN)) fN)) (gN 4) (YB (Zh (fL Zx (Za (fV 0) (Za (fV 2) fN)))) (gN 5) (Wj (U2 (gB (f2 Xv (fV 5) (fV 3))) (gB (f2 XH (f2 Yl (fV 1) (fV 5)) (fL ZC (Za (fV 0) (Za (fV 5) (Za (fV 3) fN))))))) (WE 3 (fV 5)) WK)))
 (Z1 (fV 3))))
noncomputable def ZU:List D->Option D:=Z4 3 6 (Vn Zx ZC)
noncomputable def Zca(YF Zm Zq Zx ZU:List D->Option D):FS :=
 (Zj (W2 (fL YF (Za (fV 0) (Za (fV 1) fN))))
 (Zj (W2 (fL Zm (Za (fV 0) (Za (fV 2) fN))))
 (Zj (ZB 3 (fL Zq (Za (fV 0) fN)))
 (Zj (Wj (Xr (fL Zuc (Za (ZK 1 [1] (Zh (fL Zx (Za (fV 3) (Za (fV 2) fN)))) (gN 0) Xn (f2 XH (f2 Yl (fV 1) (fV 0)) (fC (.int 0)))) fN))) (Z1 (fC .non)) WK)
 (Zj (ZB 4 (fL ZU (Za (fV 3) (Za (fV 1) (Za (fV 2) fN)))))
 (Z1 (Zx5 (gB (f2 Xb (fL Yv (Za (fV 4) fN)) (fL Yv (Za (fV 3) fN)))) (fV 4) (fC .non))))))))
noncomputable def XW:List D->Option D:=Z4 3 5 (Zca YF Zm Zq Zx ZU)
noncomputable def WW:FS :=
 (Zj (Y7 1 (fR few fN))
 (Zj (YB (Zh (f2 Yl (fV 0) (fC (.int 1)))) (gT [2,3,4]) (UU 1 (ZK 1 [2,3] (fR YW (Za (fV 4) fN)) (gN 0) Xn (fL Yy (Za (fV 1) (Za (fV 2) (Za (fV 0) fN)))))))
 (Z1 (fV 1))))
noncomputable def YE:List D->Option D:=Z4 1 5 WW
noncomputable def Vz:FS :=
 (Zj (Y7 1 (fR few fN))
 (Zj (YB (Zh (f2 Yl (fV 0) (fC (.int 1)))) (gT [2,3,4]) (UU 1 (ZK 1 [2,3] (fR YW (Za (fV 4) fN)) (gN 0) Xn (fL Yy (Za (fV 1) (Za (fV 2) (Za (fV 0) fN)))))))
 (Z1 (fV 1))))
noncomputable def Zu:List D->Option D:=Z4 1 5 Vz
noncomputable def X6(XW YM:List D->Option D):FS :=
 (Zj (Wj (Zfi (VQ (Xr (fL YM (Za (fV 0) (Za (fV 1) fN))))) (Zfi (gB (f2 Wc (f2 Yl (fV 1) (fV 2)) (fC (.int 0)))) (gB (f2 Zs5 (fL XW (Za (fV 0) (Za (fV 1) (Za (fV 2) fN)))) (fC .non))))) Zhc WK)
 (Z1 (fV 1)))
noncomputable def Z0:List D->Option D:=Z4 3 3 (X6 XW YM)
noncomputable def WU:FS :=
 (Z1 (ZK 1 [1] (fR YW (Za (fL Yv (Za (fV 0) fN)) fN)) (gN 0) (gB (f2 Xv (fV 0) (fV 1))) (fV 0)))
noncomputable def ZN:List D->Option D:=Z4 2 2 WU
noncomputable def Uu:FS :=
 (Zj (Y7 3 (fR few fN))
 (Zj (YB (Zh (fL Y0 (Za (fV 2) fN))) (gN 4) (UU 3 (ZK 1 [1,4] (fR YW (Za (f2 Yl (f2 Yl (fV 0) (fV 1)) (fV 4)) fN)) (gN 0) Xn (fL Yy (Za (fL UY (Za (fV 1) (Za (fV 2) fN))) (Za (fL UZ (Za (fV 1) (Za (fV 2) fN))) (Za (fV 0) fN)))))))
 (Z1 (fV 3))))
noncomputable def ZQ:List D->Option D:=Z4 3 5 Uu
noncomputable def Zg0(Zm Z0 Zq ZN ZC ZQ:List D->Option D):FS :=
 (Zj (W2 (fL Zm (Za (fV 0) (Za (fV 2) fN))))
 (Zj (W2 (fL Z0 (Za (fV 0) (Za (fV 1) (Za (fV 2) fN)))))
 (Zj (ZB 3 (fL Zq (Za (fV 0) fN)))
 (Zj (Y7 4 (fR few fN))
 (Zj (ZB 5 (fL Yz fN))
 (Zj (ZB 6 (fL Yz (Za (fV 2) fN)))
 (Zj (V7 (Xr (fV 6)) (Zj (ZB 7 (f2 ZR (fV 5) (fV 6)))
 (Zj (ZB 8 (ZK 1 [1,3,7] (Zh (fL ZN (Za (fV 3) (Za (fV 7) fN)))) (gN 0) (gB (f2 XH (f2 Yl (fV 1) (fV 0)) (fL ZC (Za (fV 2) (Za (fV 0) (Za (fV 3) fN)))))) (fV 0)))
 (Zj (YB (Zh (fV 8)) (gN 9) (Zj (ZB 10 (f2 (Z9 fun i j=>.int (i-j)) (f2 Yl (fV 1) (fV 9)) (fL ZC (Za (fV 3) (Za (fV 9) (Za (fV 5) fN))))))
 (WE 4 (f2 Yl (fL ZQ (Za (fV 3) (Za (fV 9) (Za (fV 6) fN)))) (fV 10)))))
 (Zj (ZB 5 (fV 7))
 (ZB 6 (fV 8)))))))
 (Z1 (fL Y0 (Za (fV 4) fN))))))))))
noncomputable def Xx:List D->Option D:=Z4 3 11 (Zg0 Zm Z0 Zq ZN ZC ZQ)
noncomputable def Zb7(ZL:List D->Option D):FS :=
 (Zj (Wj (Zfi (VQ (Xr (f1 (Zgg "tuple") (fV 1)))) (VQ (Xr (fL Za7 (Za (ZK 1 [] (Zh (fV 1)) (gN 0) Xn (fL ZL (Za (fV 0) fN))) fN))))) (Z1 (fC (.bl false))) WK)
 (Z1 (f2 inL (fV 1) (fV 0))))
noncomputable def Xm:List D->Option D:=Z4 2 2 (Zb7 ZL)
noncomputable def Zb5(YE Xm Z6:List D->Option D):FS :=
 (Zj (Wj (Zfi (VQ (Xr (f1 (Zgg "list") (fV 1)))) (gB (f2 Wc (fL Yv (Za (fV 1) fN)) (f2 (Z9 fun i j=>.int (i-j)) (f2 Yl (fV 0) (fC (.int 0))) (fC (.int 1)))))) (Z1 (fC (.bl false))) WK)
 (Zj (ZB 2 (fL YE (Za (fV 0) fN)))
 (Zj (Wj (VQ (Xr (fL Za7 (Za (ZK 1 [2] (Zh (fV 1)) (gN 0) Xn (fL Xm (Za (fV 1) (Za (fV 0) fN)))) fN)))) (Z1 (fC (.bl false))) WK)
 (Z1 (Zer (fL Za7 (Za (ZK 2 [] (Zml (fV 1) (Zct (fV 1) (pS (fC (.int 1))) pN)) (gT [0,1]) Xn (f2 XH (fV 0) (fV 1))) fN)) (fL Z6 (Za (f2 Yl (fV 0) (fC (.int 0))) (Za (fV 1) fN))))))))
noncomputable def XU:List D->Option D:=Z4 2 3 (Zb5 YE Xm Z6)
noncomputable def WY(XU:List D->Option D):FS :=
 (Zj (Wj (VQ (Xr (fL XU (Za (fV 0) (Za (fV 1) fN))))) Zhc WK)
 (Z1 (fV 1)))
noncomputable def Yj:List D->Option D:=Z4 2 2 (WY XU)
noncomputable def Zcb(Y4:List D->Option D):FS :=
 (Z1 (fL Zdf (Za (ZK 1 [0,1] (Zh (fV 2)) (gN 0) Xn (fL Y4 (Za (fV 1) (Za (fV 2) (Za (fV 0) fN))))) fN)))
noncomputable def Yx:List D->Option D:=Z4 3 3 (Zcb Y4)
end P

namespace L2
open PySem HT
theorem U8{α:Type}{xs:List α}{i:Int}{x:α}(h0:0<=i)(h:xs[i.toNat]?=some x):Zb2 xs i=some x:=by
 have hl:i.toNat<xs.length:=(Qp.mp h).1
 unfold Zb2 Zl9
 rw[if_pos h0,if_pos (by omega)]
 exact h
theorem Z0o{n:Nat}{i:Int}(h0:0<=i)(h:i<n):Zl9 n i=some i.toNat:=by
 unfold Zl9;rw[if_pos h0,if_pos h]
mutual
def dk:D->Bool
 |.non=>true
 |.int _=>true
 |.str x=>PyData.strOk x
 |.tup ds=>Zkq ds
 |.lst ds=>Zkq ds
 |_=>false
def Zkq:List D->Bool
 |[]=>true
 |d::ds=>dk d&&Zkq ds
end
mutual
def Zac:D->Nat
 |.tup ds=>VS ds+1
 |.lst ds=>VS ds+1
 |_=>0
def VS:List D->Nat
 |[]=>0
 |d::ds=>max (Zac d) (VS ds)
end
mutual
theorem Ztu:∀d:D,dk d=true->(YA d).canLay0=true/\(YA d).depth=Zac d
 |.non,_=>by simp[YA,PyData.canLay0,PyData.depth,Zac]
 |.int _,_=>by simp[YA,PyData.canLay0,PyData.depth,Zac]
 |.str x,h=>by simp[dk]at h;simp[YA,PyData.canLay0,PyData.depth,Zac,h]
 |.tup ds,h=>by
  have:=Zid ds (by simpa [dk] using h)
  simp[YA,PyData.canLay0,PyData.depth,Zac,this.1,this.2]
 |.lst ds,h=>by
  have:=Zid ds (by simpa [dk] using h)
  simp[YA,PyData.canLay0,PyData.depth,Zac,this.1,this.2]
 |.bl _,h=>by simp[dk]at h
 |.scr _,h=>by simp[dk]at h
 |.dcK _ _,h=>by simp[dk]at h
 |.dcT _ _,h=>by simp[dk]at h
 |.dcF _ _,h=>by simp[dk]at h
theorem Zid:∀ds:List D,Zkq ds=true->PyData.canLayAll0 (Wa ds)=true/\PyData.depthAll (Wa ds)=VS ds
 |[],_=>by simp[Wa,PyData.canLayAll0,PyData.depthAll,VS]
 |d::ds,h=>by
  simp[Zkq]at h
  have a:=Ztu d h.1
  have b:=Zid ds h.2
  simp[Wa,PyData.canLayAll0,PyData.depthAll,VS,a.1,a.2,b.1,b.2]
end
mutual
theorem Zif:∀(d e:D),dk d=true->dk e=true->(PyData.eqv (YA d) (YA e)=true↔d=e)
 |.non,e,_,he=>by cases e<;>simp_all[YA,PyData.eqv,dk]
 |.int _,e,_,he=>by cases e<;>simp_all[YA,PyData.eqv,dk]
 |.str _,e,_,he=>by cases e<;>simp_all[YA,PyData.eqv,dk]
 |.tup ds,e,hd,he=>by
  cases e with
  |tup es =>
   have:=Zie ds es (by simpa [dk] using hd) (by simpa [dk] using he)
   simp only[YA,PyData.eqv,this,D.tup.injEq]
  |_=>simp_all[YA,PyData.eqv,dk]
 |.lst ds,e,hd,he=>by
  cases e with
  |lst es =>
   have:=Zie ds es (by simpa [dk] using hd) (by simpa [dk] using he)
   simp only[YA,PyData.eqv,this,D.lst.injEq]
  |_=>simp_all[YA,PyData.eqv,dk]
 |.bl _,_,h,_=>by simp[dk]at h
 |.scr _,_,h,_=>by simp[dk]at h
 |.dcK _ _,_,h,_=>by simp[dk]at h
 |.dcT _ _,_,h,_=>by simp[dk]at h
 |.dcF _ _,_,h,_=>by simp[dk]at h
theorem Zie:∀(ds es:List D),Zkq ds=true->Zkq es=true->(PyData.eqvAll (Wa ds) (Wa es)=true↔ds=es)
 |[],es,_,_=>by cases es<;>simp[Wa,PyData.eqvAll]
 |d::ds,es,hd,he=>by
  cases es with
  |nil=>simp[Wa,PyData.eqvAll]
  |cons e es =>
   simp[Zkq]at hd he
   have a:=Zif d e hd.1 he.1
   have b:=Zie ds es hd.2 he.2
   simp only[Wa,PyData.eqvAll,QO,a,b,List.cons.injEq]
end
theorem Zhp{d:D}(h:dk d=true)(h2:Zac d<=64):Zv4 d=true:=by
 unfold Zv4
 have:=Ztu d h
 rw[this.1,this.2]
 simpa using h2
open Classical in
theorem Za2{d e:D}(hd:dk d=true)(he:dk e=true)(d2:Zac d<=64)(e2:Zac e<=64):Xb d e=some (.bl (decide (d=e))):=by
 unfold Xb
 rw[Zhp hd d2,Zhp he e2]
 have:=Zif d e hd he
 simp only[JO,if_true]
 congr 2
 by_cases h:d=e
 ·rw[this.mpr h];simp[h]
 ·have h':PyData.eqv (YA d) (YA e)=false:=by
   cases q:PyData.eqv (YA d) (YA e) with
   |false=>rfl
   |true=>exact absurd (this.mp q) h
  rw[h'];simp[h]
open Classical in
theorem Zav{d e:D}(hd:dk d=true)(he:dk e=true)(d2:Zac d<=64)(e2:Zac e<=64):Wc d e=some (.bl (decide (d≠e))):=by
 have:=Za2 hd he d2 e2
 unfold Xb at this
 unfold Wc
 rw[Zhp hd d2,Zhp he e2]at this ⊢
 simp only[JO,if_true,Option.some.injEq,D.bl.injEq]at this ⊢
 rw[this]
 by_cases h:d=e<;>simp[h]
theorem XB(i j:Int):Xb (.int i) (.int j)=some (.bl (decide (i=j))):=by
 rw[Za2 rfl rfl (QZ _) (QZ _)]
 by_cases h:i=j<;>simp[h]
theorem Ud(i j:Int):Wc (.int i) (.int j)=some (.bl (decide (i≠j))):=by
 rw[Zav rfl rfl (QZ _) (QZ _)]
 by_cases h:i=j<;>simp[h]
theorem XC:∀is:List Int,Zkq (is.map D.int)=true
 |[]=>rfl
 |i::is=>by simp[Zkq,dk,XC is]
theorem Xl:∀is:List Int,VS (is.map D.int)=0
 |[]=>rfl
 |i::is=>by simp[VS,Zac,Xl is]
theorem Wk{a b:List Int}:a.map D.int=b.map D.int↔a=b:=by
 constructor
 ·intro h
  induction a generalizing b with
  |nil=>cases b with
   |nil=>rfl
   |cons x b=>cases h
  |cons x a ih=>cases b with
   |nil=>cases h
   |cons y b =>
    simp only[Qe,List.cons.injEq,D.int.injEq]at h
    rw[h.1,ih h.2]
 ·intro h;rw[h]
theorem Zpy(a b:List Int):Xb (.tup (a.map .int)) (.tup (b.map .int))=some (.bl (decide (a=b))):=by
 rw[Za2 (by simp[dk,XC]) (by simp[dk,XC]) (by simp[Zac,Xl]) (by simp[Zac,Xl])]
 by_cases h:a=b<;>simp[h,Wk]
theorem Zo5(a b:List Int):Wc (.tup (a.map .int)) (.tup (b.map .int))=some (.bl (decide (a≠b))):=by
 rw[Zav (by simp[dk,XC]) (by simp[dk,XC]) (by simp[Zac,Xl]) (by simp[Zac,Xl])]
 by_cases h:a=b<;>simp[h,Wk]
theorem Zpz(a b:List Int):Xb (.lst (a.map .int)) (.lst (b.map .int))=some (.bl (decide (a=b))):=by
 rw[Za2 (by simp[dk,XC]) (by simp[dk,XC]) (by simp[Zac,Xl]) (by simp[Zac,Xl])]
 by_cases h:a=b<;>simp[h,Wk]
theorem Zo6(a b:List Int):Wc (.lst (a.map .int)) (.lst (b.map .int))=some (.bl (decide (a≠b))):=by
 rw[Zav (by simp[dk,XC]) (by simp[dk,XC]) (by simp[Zac,Xl]) (by simp[Zac,Xl])]
 by_cases h:a=b<;>simp[h,Wk]
theorem Ztp(ns:List Int):Xb (.scr ns) (.lst [])=some (.bl (decide (ns=[]))):=by
 have e:∀ns:List Int,Wa (ns.map D.int)=ns.map PyData.int:=by
  intro ns
  induction ns with
  |nil=>rfl
  |cons n ns ih=>simp[Wa,YA,ih]
 have h:=Zpz ns []
 have e2:YA (.scr ns)=YA (.lst (ns.map .int)):=by simp[YA,e]
 unfold Xb Zv4 at h ⊢
 rw[e2]
 exact h
theorem Zh1(ds:List D):Yv [.tup ds]=some (.int ds.length):=rfl
theorem U0(ds:List D):Yv [.lst ds]=some (.int ds.length):=rfl
theorem Zl5(ds:List Int):Yv [.scr ds]=some (.int ds.length):=rfl
theorem Znu(ds:List D)(i:Int):Yl (.tup ds) (.int i)=Zb2 ds i:=rfl
theorem Zci(ds:List D)(i:Int):Yl (.lst ds) (.int i)=Zb2 ds i:=rfl
theorem Zs1(ds:List Int)(i:Int):Yl (.scr ds) (.int i)=(Zb2 ds i).map D.int:=rfl
theorem Zir(i j:Int):ZR (.int i) (.int j)=some (.int (i+j)):=rfl
theorem ZV(F G:FS)(ρ:YT):Zj F G ρ=Zr9 (F ρ) G:=rfl
theorem ZJ(ρ:YT)(G:FS):Zr9 (.nx ρ) G=G ρ:=rfl
theorem Zhq(d:D)(G:FS):Zr9 (.rt d) G=.rt d:=rfl
theorem Zky{α:Type}{t:FG}{gt:FT}{fe:FE}{ρ:Ww}(enc:α->D)(p:α->Bool)(g:α->D):∀xs:List α,(∀x∈xs,∃ws,t (enc x)=some ws/\gt (VD ρ ws)=some (p x)/\(p x=true->fe (VD ρ ws)=some (g x))) ->
  Za3 t gt fe ρ (xs.map enc)=some ((xs.filter p).map g)
 |[],_=>rfl
 |x::xs,h=>by
  obtain⟨ws,h1,h2,h3⟩:=h x Qd
  have ih:=Zky enc p g xs fun y hy=>h y (Qc _ hy)
  rw[Qe]
  unfold Za3
  rw[h1]
  simp only[QN]
  rw[h2]
  simp only[QN]
  cases hp:p x with
  |true=>rw[if_pos rfl,h3 hp,ih];simp[hp]
  |false=>rw[if_neg (by decide),ih];simp[hp]
theorem Xt{α:Type}{n:Nat}{ix:List Nat}{fi:FA}{t:FG}{gt:FT}{fe:FE}{ρ:Ww}(enc:α->D)(p:α->Bool)(g:α->D)(xs:List α)(h:fi ρ=some (xs.map enc))(hl:xs.length<=65536)
  (h2:∀x∈xs,∃ws,t (enc x)=some ws/\gt (VD (env0 n ix ρ) ws)=some (p x)/\(p x=true->fe (VD (env0 n ix ρ) ws)=some (g x))):ZK n ix fi t gt fe ρ=some (.lst ((xs.filter p).map g)):=by
 unfold ZK
 rw[h]
 simp only[QN]
 rw[if_pos (by rw[Qb];exact hl),Zky enc p g xs h2]
 rfl
theorem Yw{α:Type}{n:Nat}{ix:List Nat}{fi:FA}{t:FG}{fe:FE}{ρ:Ww}(enc:α->D)(g:α->D)(xs:List α)(h:fi ρ=some (xs.map enc))(hl:xs.length<=65536)
  (h2:∀x∈xs,∃ws,t (enc x)=some ws/\fe (VD (env0 n ix ρ) ws)=some (g x)):ZK n ix fi t Xn fe ρ=some (.lst (xs.map g)):=by
 rw[Xt enc (fun _=>true) g xs h hl fun x hx=>let⟨ws,a,b⟩:=h2 x hx;⟨ws,a,rfl,fun _=>b⟩]
 rw[List.filter_eq_self.mpr fun _ _=>rfl]
theorem Xk{n:Nat}(h:n<=65536):YW [.int (n:Int)]=some ((List.range n).map fun k=>D.int (k:Nat)):=by
 unfold YW
 dsimp only
 rw[if_pos (by constructor<;>omega)]
 unfold Wr
 rw[Qz]
 congr 1
 exact QQ fun k _=>by rw[Int.zero_add]
theorem Zhg{j:Int}(h0:0<=j)(h:j<=65536):YW [.int j]=some ((List.range j.toNat).map fun k=>D.int (k:Nat)):=by
 have:=Xk (n:=j.toNat) (by omega)
 rwa[show((j.toNat:Nat):Int)=j by omega]at this
theorem Znh{i j:Int}(h0:0<=i)(h1:i<=65536)(h2:0<=j)(h:j<=65536):Zbl [.int i,.int j]=some ((List.range (j-i).toNat).map fun(k:Nat)=>D.int (i+(k:Int))):=by
 unfold Zbl
 dsimp only
 rw[if_pos (by refine⟨⟨?_,?_⟩,?_,?_⟩<;>omega)]
 rfl
theorem Um{t:FG}{F:FS}(P:Nat->YT->Prop):∀(ds:List D) (k:Nat) (ρ:YT),(∀(i:Nat) (d:D) (ρ:YT),ds[i]?=some d->P (k+i) ρ->∃ws ρ',t d=some ws/\F (XA ρ ws)=.nx ρ'/\P (k+i+1) ρ')->P k ρ ->
  ∃ρ',Z8 t F ds ρ=.nx ρ'/\P (k+ds.length) ρ'
 |[],k,ρ,_,h=>⟨ρ,rfl,h⟩
 |d::ds,k,ρ,step,h=>by
  obtain⟨ws,ρ',h1,h2,h3⟩:=step 0 d ρ rfl h
  obtain⟨ρ2,h4,h5⟩:=Um P ds (k+1) ρ' (fun i e ρ he hp=>by
   have:=step (i+1) e ρ (by simpa using he) (by rw[show k+(i+1)=k+1+i by omega];exact hp)
   rw[show k+1+i+1=k+(i+1)+1 by omega];exact this) h3
  refine⟨ρ2,?_,by rw[Qk,show k+(ds.length+1)=k+1+ds.length by omega];exact h5⟩
  unfold Z8
  rw[h1]
  dsimp only
  rw[h2]
  exact h4
theorem Zfz(is:List Int):Zdf [.lst (is.map .int)]=some (.int is.sum):=by simp[Zdf,VM]
theorem Ur(is:List Bool):Za7 [.lst (is.map .bl)]=some (.bl (is.all id)):=by
 simp only[Za7,Zgt,QN]
theorem Zub(is:List Bool):Zuc [.lst (is.map .bl)]=some (.bl (is.any id)):=by
 simp only[Zuc,Zgt,QN]
end L2

namespace L2
open PySem PySem.Spec PyProof.Rows
section
variable{prog:Program}{w:World}{A:Around}{E:Value->Shared->Prop}{s:Shared}
abbrev TK(prog:Program)(w:World)(h:Heap)(ks:List Int)(a:Addr):Prop:=IsTupleKey (intKind prog w) h ks a
def Z0s(es:Array (Int×Value))(i:Nat):Int:=(es[i]?.map (·.1)).getD 0
theorem items_int{ks:List Int}{vs:List Value}(h:PySem.ItemsAre (intKind prog w) ks vs):∀v∈vs,∃n t,v=Value.int n t:=by
 induction h with
 |nil=>intro v hv;cases hv
 |cons h1 _ ih =>
  intro v hv
  rcases Qm.mp hv with rfl|hv
  ·cases v with
   |int n t=>exact⟨n,t,rfl⟩
   |_=>exact absurd h1 (by intro z;cases z)
  ·exact ih v hv
theorem Zc9{ks:List Int}{c:Addr}{Q:Bool->Shared->Prop}(hk:TK prog w s.heap ks c)(h:∀b,Q b s):wpAny (model prog w) A (hashByValue 8 (.ref c)) Q E s:=by
 have hT:=hk.typeIs
 obtain⟨o,items,n,ho,_,hd,hi⟩:=hk
 unfold hashByValue
 refine Qa (wpAny_specialOf hT F.slot_tuple_hash.lookup ?_)
 show wpAny _ _ (seqItems? (.ref c) >>= _) _ _ s
 refine Qa (Jz ho hd ?_)
 refine Qa ?_
 show wpAny _ _ (forIn items _ _) _ _ s
 rw[<- Array.forIn_toList]
 refine wpAny_forIn_list _ (fun YK r s'=>s'=s/\∀v∈YK,∃n t,v=Value.int n t) _ ?_ ?_ _ _ ⟨rfl,items_int hi⟩
 ·rintro v YK r s' ⟨rfl,hall⟩
  obtain⟨n,t,rfl⟩:=hall v Qd
  rw[show hashByValue 7 (Value.int n t)=pure true from rfl]
  refine Qa (Qh ?_)
  simp only[JD,Qo,if_false]
  exact Qh ⟨rfl,fun u hu=>hall u (Qc _ hu)⟩
 ·rintro⟨r1,r2⟩ s' ⟨rfl,_⟩
  cases r1 with
  |none=>exact Qh (h _)
  |some r=>exact Qh (h _)
theorem Zfa{a:Addr}{x:Value}{h:Int}{o:Obj}{es:Array (Int×Value)}{ep:Nat}{t:SetTable}{j:Nat}{Q:SetFound->Shared->Prop}(ho:s.heap.get? a=some o)(hd:o.data=.set es ep t)(hf:t.fits es.size=true)(hg:t.gaveWay=false)
  (hp:t.probe (Z0s es) h (t.probeStart h)=some (.empty j none)) (hQ:Q (.free j false) s):wpAny (model prog w) A (setSearch a x h true) Q E s:=by
 unfold setSearch
 rw[show(100000:Nat)=99999+1 from rfl]
 unfold setSearchFrom
 refine Qa (JR ho hd hf ?_)
 dsimp only
 rw[hg]
 simp only[Qo,↓reduceIte]
 generalize hm:SetTable.probe t _ h _=met
 have e:met=some (.empty j none):=by rw[<- hm];exact hp
 rw[e]
 exact Qh hQ
theorem Ziy{ks:List Int}{c:Addr}{Q:Bool->Shared->Prop}(hk:TK prog w s.heap ks c)(h:Q false s):wpAny (model prog w) A (ofAClassStatement 8 (.ref c)) Q E s:=by
 have hT:=hk.typeIs
 obtain⟨o,items,n,ho,_,hd,hi⟩:=hk
 unfold ofAClassStatement
 refine Qa (wpAny_typeOf hT ?_)
 dsimp only
 rw[if_pos (by decide)]
 refine Qa (Qh ?_)
 simp only[JD,Qo,if_false]
 refine Qa (Jz ho hd ?_)
 dsimp only
 refine Qa ?_
 rw[<- Array.forIn_toList]
 refine wpAny_forIn_list _ (fun YK r s'=>r.1=none/\s'=s/\∀v∈YK,∃n t,v=Value.int n t) _ ?_ ?_ _ _ ⟨rfl,rfl,items_int hi⟩
 ·rintro v YK r s' ⟨_,rfl,hall⟩
  obtain⟨n,t,rfl⟩:=hall v Qd
  rw[show ofAClassStatement 7 (Value.int n t)=pure false from rfl]
  refine Qa (Qh ?_)
  simp only[Qo,if_false]
  exact Qh ⟨rfl,rfl,fun u hu=>hall u (Qc _ hu)⟩
 ·rintro⟨r1,r2⟩ s' ⟨hr,rfl,_⟩
  simp only at hr
  subst hr
  exact Qh h
theorem Zof{c:Addr}{kc:List Int}(hc:TK prog w s.heap kc c){ys:List Value}(hy:∀y∈ys,∃b ks,y=.ref b/\TK prog w s.heap ks b){Q:Bool->Shared->Prop}(h:Q false s):wpAny (model prog w) A (searchCouldBeSeen (.ref c) ys) Q E s:=by
 unfold searchCouldBeSeen
 refine Qa ?_
 refine wpAny_forIn_list _ (fun YK r s'=>r.1=none/\s'=s/\∀y∈YK,∃b ks,y=.ref b/\TK prog w s.heap ks b) _ ?_ ?_ _ _ ⟨rfl,rfl,hy⟩
 ·rintro y YK r s' ⟨_,rfl,hall⟩
  obtain⟨b,ks,rfl,kb⟩:=hall y Qd
  have rs:∀y∈YK,∃b ks,y=.ref b/\TK prog w s'.heap ks b:=fun u hu=>hall u (Qc _ hu)
  dsimp only
  split
  ·exact Qh ⟨rfl,rfl,rs⟩
  ·refine Qa (wpAny_eqIsQuiet_tuple hc ?_)
   simp only[JD,Qo,if_false]
   refine Qa (wpAny_eqIsQuiet_tuple kb ?_)
   simp only[JD,Qo,if_false]
   refine Qa (Ziy hc ?_)
   simp only[Qo,if_false]
   refine Qa (Ziy kb ?_)
   simp only[Qo,if_false]
   exact Qh ⟨rfl,rfl,rs⟩
 ·rintro⟨r1,r2⟩ s' ⟨hr,rfl,_⟩
  simp only at hr
  subst hr
  exact Qh h
theorem Ze9{a c b:Addr}{h:Int}{ks:List Int}{o:Obj}{es:Array (Int×Value)}{ep:Nat}{t:SetTable}{j i:Nat}{nx:SetTable.Probe}{Q:SetFound->Shared->Prop}(hu:A.units<cLine)(ho:s.heap.get? a=some o)(hd:o.data=.set es ep t)(hf:t.fits es.size=true)(hg:t.gaveWay=false)
  (hp:t.probe (Z0s es) h (t.probeStart h)=some (.candidate j i nx)) (hi:es[i]?=some (h,.ref b)) (kb:TK prog w s.heap ks b) (kc:TK prog w s.heap ks c) (hall:∀e∈es.toList,∃b ks,e.2=.ref b/\TK prog w s.heap ks b)
  (hQ:Q (.there none) s):wpAny (model prog w) A (setSearch a (.ref c) h true) Q E s:=by
 unfold setSearch
 rw[show(100000:Nat)=99999+1 from rfl]
 unfold setSearchFrom
 refine Qa (JR ho hd hf ?_)
 dsimp only
 rw[hg]
 simp only[Qo,↓reduceIte]
 generalize hm:SetTable.probe t _ h _=met
 have e:met=some (.candidate j i nx):=by rw[<- hm];exact hp
 rw[e]
 dsimp only
 have unl:∀{Q:Bool->Shared->Prop},Q false s->wpAny (model prog w) A (searchCouldBeSeen (.ref c) ((es.filter (·.1 == h)).toList.map (·.2))) Q E s:=fun hq=>Zof kc (fun y hy=>by
  obtain⟨e,he,rfl⟩:=Qn.mp hy
  refine hall e ?_
  rw[Array.toList_filter]at he
  exact(QH.mp he).1) hq
 split
 ·refine Qa (unl ?_)
  simp only[Qo,if_false]
  rw[hi]
  dsimp only
  refine Qa (Jf (wpAny_eqBool_tuple hu kb kc ?_))
  refine Qa (JR ho hd hf ?_)
  rw[decide_eq_true rfl]
  simp only[JO,if_true]
  exact Qh hQ
 ·rw[hi]
  dsimp only
  refine Qa (Jf (wpAny_eqBool_tuple hu kb kc ?_))
  refine Qa (JR ho hd hf ?_)
  rw[decide_eq_true rfl]
  simp only[JO,if_true]
  exact Qh hQ
theorem Zld{a c b:Addr}{ks:List Int}{o:Obj}{es:Array (Int×Value)}{ep:Nat}{t:SetTable}{j i:Nat}{nx:SetTable.Probe}{Q:Bool->Shared->Prop}(hu:A.units<cLine)(ho:s.heap.get? a=some o)(hd:o.data=.set es ep t)(hf:t.fits es.size=true)(hg:t.gaveWay=false)
  (hp:t.probe (Z0s es) (tupleKeyHash (intKind prog w) ks) (t.probeStart (tupleKeyHash (intKind prog w) ks))=some (.candidate j i nx)) (hi:es[i]?=some (tupleKeyHash (intKind prog w) ks,.ref b)) (kb:TK prog w s.heap ks b) (kc:TK prog w s.heap ks c)
  (hall:∀e∈es.toList,∃b ks,e.2=.ref b/\TK prog w s.heap ks b) (hQ:Q false { s with toks:=s.toks+(ks.length+1) }):wpAny (model prog w) A (setAdd a (.ref c)) Q E s:=by
 unfold setAdd
 refine Jf (Qa (wpAny_pyHash_tuple hu kc ?_))
 unfold setAddHashed
 refine Jf ?_
 rw[show(100000:Nat)=99999+1 from rfl]
 unfold setAddHashedIn
 refine Qa (JR (s:={ s with toks:=s.toks+(ks.length+1) }) ho hd hf ?_)
 dsimp only
 rw[show byScan (.ref c) es=false from rfl]
 simp only[Qo,↓reduceIte]
 refine Qa (Ze9 (s:={ s with toks:=s.toks+(ks.length+1) }) hu ho hd hf hg hp hi kb kc hall ?_)
 exact Qh hQ
theorem Zle{a c:Addr}{ks:List Int}{o:Obj}{es:Array (Int×Value)}{ep:Nat}{t:SetTable}{j:Nat}{Q:Bool->Shared->Prop}(hu:A.units<cLine)(ho:s.heap.get? a=some o)(hd:o.data=.set es ep t)(hf:t.fits es.size=true)(hg:t.gaveWay=false)(hb:es.size<1000)
  (hp:t.probe (Z0s es) (tupleKeyHash (intKind prog w) ks) (t.probeStart (tupleKeyHash (intKind prog w) ks))=some (.empty j none)) (kc:TK prog w s.heap ks c) (hfull:(t.put j).1.tooFull=false)
  (hQ:∀pl:Bool,Q true { s with heap:=s.heap.update a (Obj.putSet (SetTable.insertAt es (t.put j).2 (tupleKeyHash (intKind prog w) ks,.ref c)) { (t.put j).1 with plain:=pl }),toks:=s.toks+(ks.length+1) }):wpAny (model prog w) A (setAdd a (.ref c)) Q E s:=by
 unfold setAdd
 refine Jf (Qa (wpAny_pyHash_tuple hu kc ?_))
 unfold setAddHashed
 refine Jf ?_
 rw[show(100000:Nat)=99999+1 from rfl]
 unfold setAddHashedIn
 refine Qa (JR (s:={ s with toks:=s.toks+(ks.length+1) }) ho hd hf ?_)
 dsimp only
 rw[show byScan (.ref c) es=false from rfl]
 simp only[Qo,↓reduceIte]
 refine Qa (Zfa (s:={ s with toks:=s.toks+(ks.length+1) }) ho hd hf hg hp ?_)
 dsimp only
 refine Qa (JR (s:={ s with toks:=s.toks+(ks.length+1) }) ho hd hf ?_)
 dsimp only
 have fin:∀pl:Bool,wpAny (model prog w) A (do
   storeSet a (SetTable.insertAt es (t.put j).2 (tupleKeyHash (intKind prog w) ks,.ref c)) { (t.put j).1 with plain:=pl }
   if(!false&&({ (t.put j).1 with plain:=pl }:SetTable).tooFull)=true then do
    setRelay a (SetTable.grown (es.size+1))
    pure true
   else pure true) Q E { s with toks:=s.toks+(ks.length+1) }:=fun pl=>by
  refine Qa (wpAny_storeSet_of (s:={ s with toks:=s.toks+(ks.length+1) }) ho hd ?_ ?_)
  ·rw[show({ (t.put j).1 with plain:=pl }:SetTable).tooFull=(t.put j).1.tooFull from rfl,hfull]
   simp only[Bool.and_false,Qo,if_false]
   exact Qh (hQ pl)
  ·have:(SetTable.insertAt es (t.put j).2 (tupleKeyHash (intKind prog w) ks,Value.ref c)).size<=2*es.size+1:=by
    unfold SetTable.insertAt
    simp only[Array.size_append,Array.size_push,Array.size_extract]
    omega
   rw[show sizeLine=16777216 from Q3];omega
 split
 ·refine Qa (Zc9 (s:={ s with toks:=s.toks+(ks.length+1) }) kc fun b=>?_)
  rename_i hpl
  cases b with
  |true =>
   have:=fin true
   rw[show({ (t.put j).1 with plain:=true }:SetTable)=(t.put j).1 by
    generalize (t.put j).1=u at hpl
    cases u;cases hpl;rfl]at this
   exact this
  |false=>exact fin false
 ·refine Qa (Qh ?_)
  rename_i hpl
  have:=fin false
  rw[show({ (t.put j).1 with plain:=false }:SetTable)=(t.put j).1 by
   generalize (t.put j).1=u at hpl
   cases u;simp only[Bool.not_eq_true]at hpl;cases hpl;rfl]at this
  exact this
end
def Z0r(k:List Int):Int:=reduceHash (Builtin.Tuple.tupleHashOf (k.map hashInt))
def Zq3(pl:Array Nat):SetTable:={ mask:=7,place:=pl,dummies:=#[],finger:=0,led:=true,moves:=0,plain:=true }
def hS9(σ:List (List Int))(i:Nat):Int:=(σ[i]?.map Z0r).getD 0
def stS(st:List (List Int)×Array Nat)(k:List Int):Option (List (List Int)×Array Nat) :=
 match(Zq3 st.2).probe (hS9 st.1) (Z0r k) ((Zq3 st.2).probeStart (Z0r k)) with
 |some (.candidate _ i _)=>if st.1[i]?=some k then some st else none
 |some (.empty j none) =>
  if((Zq3 st.2).put j).1.tooFull=false/\((Zq3 st.2).put j).1.fits (st.1.length+1)=true/\((Zq3 st.2).put j).2<=st.1.length then some (st.1.take ((Zq3 st.2).put j).2++[k]++st.1.drop ((Zq3 st.2).put j).2,((Zq3 st.2).put j).1.place) else none
 |_=>none
def runS:List (List Int)->List (List Int)×Array Nat->Option (List (List Int)×Array Nat)
 |[],st=>some st
 |k::ks,st=>(stS st k).bind (runS ks)
theorem tkz{α β:Type}(a:List α)(b:List β)(n:Nat):(a.zip b).take n=(a.take n).zip (b.take n):=by
 rw[List.zip_eq_zipWith,List.take_zipWith,<- List.zip_eq_zipWith]
theorem dpz{α β:Type}(a:List α)(b:List β)(n:Nat):(a.zip b).drop n=(a.drop n).zip (b.drop n):=by
 rw[List.zip_eq_zipWith,List.drop_zipWith,<- List.zip_eq_zipWith]
theorem Zs6{α:Type}(xs:Array α)(p:Nat)(x:α):(SetTable.insertAt xs p x).toList=xs.toList.take p++[x]++xs.toList.drop p:=by
 obtain⟨l⟩:=xs
 unfold SetTable.insertAt
 rw[Array.toList_append,Array.toList_push,Array.toList_extract,Array.toList_extract]
 simp only[List.extract_eq_take_drop,List.drop_zero,Nat.sub_zero,Ql]
 rw[List.take_of_length_le (l:=l.drop p) (by simp)]
section
variable{prog:Program}{w:World}
theorem Z0q(k:List Int):tupleKeyHash (intKind prog w) k=Z0r k:=rfl
structure Zk9(t u:SetTable):Prop where
 m:t.mask=u.mask
 p:t.place=u.place
 d:t.dummies=u.dummies
theorem Zk9.slot{t u:SetTable}(e:Zk9 t u)(j:Nat):t.slot j=u.slot j:=by unfold SetTable.slot;rw[e.p,e.d]
theorem Zk9.adv{t u:SetTable}(e:Zk9 t u)(p:SetTable.Probe):t.advance p=u.advance p:=by unfold SetTable.advance;rw[e.m]
theorem Zk9.start{t u:SetTable}(e:Zk9 t u)(h:Int):t.probeStart h=u.probeStart h:=by unfold SetTable.probeStart;rw[e.m]
theorem Zk9.go{t u:SetTable}(e:Zk9 t u)(f:Nat->Int)(h:Int):∀(n:Nat) (p:SetTable.Probe),SetTable.probe.go t f h n p=SetTable.probe.go u f h n p:=by
 intro n
 induction n with
 |zero=>intro p;rfl
 |succ n ih =>
  intro p
  unfold SetTable.probe.go
  rw[e.slot]
  cases u.slot p.j with
  |empty=>rfl
  |dummy=>dsimp only;rw[e.adv,ih]
  |live i=>dsimp only;rw[e.adv,ih]
theorem Zk9.probe{t u:SetTable}(e:Zk9 t u)(f:Nat->Int)(h:Int)(p:SetTable.Probe):t.probe f h p=u.probe f h p:=by
 unfold SetTable.probe;rw[e.m];exact e.go f h _ p
theorem Zk9.put{t u:SetTable}(e:Zk9 t u)(j:Nat):(t.put j).2=(u.put j).2/\Zk9 (t.put j).1 (u.put j).1:=by
 unfold SetTable.put
 dsimp only
 rw[e.p,e.d]
 exact⟨rfl,⟨e.m,rfl,rfl⟩⟩
theorem Zk9.fill{t u:SetTable}(e:Zk9 t u):t.tooFull=u.tooFull/\(∀n,t.fits n=u.fits n)/\t.gaveWay=u.gaveWay:=by
 refine⟨?_,fun n=>?_,?_⟩
 ·unfold SetTable.tooFull SetTable.fill;rw[e.m,e.p,e.d]
 ·unfold SetTable.fits SetTable.fill;rw[e.m,e.p,e.d]
 ·unfold SetTable.gaveWay;rw[e.m]
structure TupS(prog:Program)(w:World)(no:List Addr)(h:Heap)(S:Addr)(st:List (List Int)×Array Nat):Prop where
 ex:∃(o:Obj) (es:Array (Int×Value)) (ep:Nat) (t:SetTable) (bs:List Addr),h.get? S=some o/\o.ExactSet/\o.data=.set es ep t/\Zk9 t (Zq3 st.2)/\t.fits es.size=true /\
  es.toList=(st.1.zip bs).map (fun p=>(Z0r p.1,Value.ref p.2))/\bs.length=st.1.length/\∀p∈st.1.zip bs,TK prog w h p.1 p.2/\p.2∉no
theorem TupS.len{no:List Addr}{h:Heap}{S:Addr}{st:List (List Int)×Array Nat}(x:TupS prog w no h S st):∃(o:Obj) (es:Array (Int×Value)) (ep:Nat) (t:SetTable),h.get? S=some o/\o.ExactSet/\o.data=.set es ep t/\t.fits es.size=true/\es.size=st.1.length:=by
 obtain⟨o,es,ep,t,bs,a,b,c,_,d,e,f,_⟩:=x.ex
 refine⟨o,es,ep,t,a,b,c,d,?_⟩
 rw[<- QU,e,Qb,List.length_zip];omega
theorem TK.keep{h h':Heap}{k:List Int}{b S:Addr}{o:Obj}{es:Array (Int×Value)}{ep:Nat}{t:SetTable}(x:TK prog w h k b)(ho:h.get? S=some o)(hd:o.data=.set es ep t)(hs:Heap.SameBut S h h'):TK prog w h' k b:=by
 obtain⟨ob,its,n,hb,hc,hdb,hi⟩:=x
 have:b≠S:=fun e=>by subst e;rw[hb]at ho;cases ho;rw[hd]at hdb;cases hdb
 exact⟨ob,its,n,by rw[hs.2 b this];exact hb,hc,hdb,hi⟩
variable{A:Around}{E:Value->Shared->Prop}{s:Shared}
theorem Ziz{no:List Addr}{S c:Addr}{k:List Int}{st st':List (List Int)×Array Nat}{Q:Bool->Shared->Prop}(hu:A.units<cLine)(x:TupS prog w no s.heap S st)(hk:TK prog w s.heap k c)(hno:c∉no)(hst:stS st k=some st')(h1000:st.1.length<1000)
  (h:∀(b:Bool) (h':Heap),Heap.SameBut S s.heap h'->TupS prog w no h' S st'->Q b { s with heap:=h',toks:=s.toks+(k.length+1) }):wpAny (model prog w) A (setAdd S (.ref c)) Q E s:=by
 obtain⟨o,es,ep,t,bs,ho,hex,hd,te,hf,hes,hbl,hkeys⟩:=x.ex
 have esz:es.size=st.1.length:=by rw[<- QU,hes,Qb,List.length_zip];omega
 have hat:Z0s es=hS9 st.1:=by
  funext i
  unfold Z0s hS9
  rw[<- Array.getElem?_toList,hes,QC]
  by_cases hi:i<st.1.length
  ·rw[Qq (by rw[List.length_zip];omega),Qq hi,List.getElem_zip];rfl
  ·rw[QA (by rw[List.length_zip];omega),QA (by omega)];rfl
 have hgw:t.gaveWay=false:=by rw[te.fill.2.2];show((7:Nat)%2 == 0)=false;decide
 have hpr:t.probe (Z0s es) (tupleKeyHash (intKind prog w) k) (t.probeStart (tupleKeyHash (intKind prog w) k))=(Zq3 st.2).probe (hS9 st.1) (Z0r k) ((Zq3 st.2).probeStart (Z0r k)):=by rw[Z0q,hat,te.start,te.probe]
 have hall:∀e∈es.toList,∃b ks,e.2=Value.ref b/\TK prog w s.heap ks b:=fun e he=>by
  rw[hes]at he
  obtain⟨p,hp,rfl⟩:=Qn.mp he
  exact⟨p.2,p.1,rfl,(hkeys p hp).1⟩
 unfold stS at hst
 split at hst
 ·rename_i j i nx hm
  split at hst
  ·rename_i hik
   cases hst
   have hil:=(Qp.mp hik).1
   have hb:bs[i]?=some bs[i]:=Qq (by omega)
   have hei:es[i]?=some (tupleKeyHash (intKind prog w) k,Value.ref bs[i]):=by
    rw[<- Array.getElem?_toList,hes,QC,Qq (by rw[List.length_zip];omega),List.getElem_zip,(Qp.mp hik).2];rfl
   have hz:(k,bs[i])∈st.1.zip bs:=by
    refine List.mem_iff_getElem.mpr ⟨i,by rw[List.length_zip];omega,?_⟩
    rw[List.getElem_zip,(Qp.mp hik).2]
   refine Zld hu ho hd hf hgw (by rw[hpr,hm]) hei (hkeys _ hz).1 hk hall ?_
   have:=h false s.heap (Heap.SameBut.refl S s.heap) x
   exact this
  ·cases hst
 ·rename_i j hm
  split at hst
  ·rename_i hc
   obtain⟨c1,c2,c3⟩:=hc
   cases hst
   obtain⟨p2,p1⟩:=te.put j
   refine Zle hu ho hd hf hgw (by omega) (by rw[hpr,hm]) hk (by rw[p1.fill.1];exact c1) fun pl=>?_
   have hsb:=JH s.heap S (Obj.putSet (SetTable.insertAt es (t.put j).2 (tupleKeyHash (intKind prog w) k,Value.ref c)) { (t.put j).1 with plain:=pl })
   have hg:(s.heap.update S (Obj.putSet (SetTable.insertAt es (t.put j).2 (tupleKeyHash (intKind prog w) k,Value.ref c)) { (t.put j).1 with plain:=pl })).get? S=some { o with data:=.set (SetTable.insertAt es (t.put j).2 (tupleKeyHash (intKind prog w) k,Value.ref c)) (ep+1) { (t.put j).1 with plain:=pl } }:=by
    have:=Heap.get?_update_self (Obj.putSet (SetTable.insertAt es (t.put j).2 (tupleKeyHash (intKind prog w) k,Value.ref c)) { (t.put j).1 with plain:=pl }) ho (by rw[putSet_of _ _ hd];rfl)
    rw[putSet_of _ _ hd]at this;exact this
   have il:=Zs6 es (t.put j).2 (tupleKeyHash (intKind prog w) k,Value.ref c)
   have zl:(st.1.take (t.put j).2++[k]++st.1.drop (t.put j).2).zip (bs.take (t.put j).2++[c]++bs.drop (t.put j).2)=(st.1.zip bs).take (t.put j).2++[(k,c)]++(st.1.zip bs).drop (t.put j).2:=by
    rw[List.zip_append (by simp;omega),List.zip_append (by simp;omega),tkz,dpz];rfl
   refine h true _ hsb ⟨_,_,_,_,bs.take (t.put j).2++[c]++bs.drop (t.put j).2,hg,hex,rfl,⟨p1.m,p1.p,p1.d⟩,?_,?_,?_,?_⟩
   ·have sz:(SetTable.insertAt es (t.put j).2 (tupleKeyHash (intKind prog w) k,Value.ref c)).size=st.1.length+1:=by
     rw[<- QU,il]
     simp only[Qi,JT,List.length_drop,QW,QU]
     omega
    rw[sz]
    have:=p1.fill.2.1 (st.1.length+1)
    rw[c2]at this
    exact this
   ·rw[il,<- p2,zl,hes]
    simp only[QM,List.map_take,List.map_drop,Qe,QI]
    rfl
   ·rw[<- p2];simp;omega
   ·rw[<- p2,zl]
    intro p hp
    rcases Qu.mp hp with hp|hp
    ·rcases Qu.mp hp with hp|hp
     ·exact⟨(hkeys p (List.mem_of_mem_take hp)).1.keep ho hd hsb,(hkeys p (List.mem_of_mem_take hp)).2⟩
     ·rw[Q4.mp hp];exact⟨hk.keep ho hd hsb,hno⟩
    ·exact⟨(hkeys p (List.mem_of_mem_drop hp)).1.keep ho hd hsb,(hkeys p (List.mem_of_mem_drop hp)).2⟩
  ·cases hst
 ·cases hst
end
section
variable{prog:Program}{w:World}
theorem TupS.moved{no:List Addr}{h h':Heap}{S:Addr}{st:List (List Int)×Array Nat}(x:TupS prog w no h S st)(hS:S∉no)(k:∀b o,b∉no->h.get? b=some o->h'.get? b=some o):TupS prog w no h' S st:=by
 obtain⟨o,es,ep,t,bs,ho,hex,hd,te,hf,hes,hbl,hk⟩:=x.ex
 refine⟨o,es,ep,t,bs,k _ _ hS ho,hex,hd,te,hf,hes,hbl,fun p hp=>?_⟩
 obtain⟨⟨ob,its,n,hb,r⟩,hn⟩:=hk p hp
 exact⟨⟨ob,its,n,k _ _ hn hb,r⟩,hn⟩
variable{A:Around}{R:Result->Shared->Prop}{I:Addr}{fp wr:List Addr}{G:Array GenState->Array GenState->Prop}{n:Nat}{P:Nat->Value->Prop}{St:Nat->Shared->Prop}
theorem Zjl:∀(ks:List (List Int)) (st st':List (List Int)×Array Nat),runS ks st=some st'->st'.1.length<=st.1.length+ks.length:=by
 intro ks
 induction ks with
 |nil=>intro st st' h;cases h;exact Qj _
 |cons k ks ih =>
  intro st st' h
  obtain⟨u,e1,e2⟩:=bind_some h
  have:=ih u st' e2
  have:u.1.length<=st.1.length+1:=by
   unfold stS at e1
   split at e1
   ·split at e1
    ·cases e1;omega
    ·cases e1
   ·split at e1
    ·cases e1;simp;omega
    ·cases e1
   ·cases e1
  simp only[Qk];omega
theorem loop_set(W:WalksS prog w A.in1 I fp wr G n P St)(S:Addr)(hSf:S∉fp){h0:Heap}{ks:List (List Int)}(hn:ks.length=n)(h500:n<=500)(hval:∀i v,P i v->∃c k,ks[i]?=some k/\v=.ref c/\TK prog w h0 k c/\c≠S/\c∉wr)(hu:A.in1.units<cLine) :
  ∀(r i:Nat) (s:Shared) (st stn:List (List Int)×Array Nat),n-i=r->i<=n->st.1.length<=i->St i s->(∀b o,b≠S->b∉wr->h0.get? b=some o->s.heap.get? b=some o)->TupS prog w wr s.heap S st->runS (ks.drop i) st=some stn ->
   (∀s',Moved (S::wr) G s s'->TupS prog w wr s'.heap S stn->R (.ok (.ret .none)) s')->codeAny (model prog w) A (.builtin "set.update.loop" ⟨[.ref S,.ref I],[]⟩) R s:=by
 have hSw:S∉wr:=fun h=>hSf (W.sub _ h)
 have hsub:∀b∈wr,b∈S::wr:=fun b hb=>Qc _ hb
 intro r
 induction r with
 |zero =>
  intro i s st stn hr hi hl hst h0k hS hrun hR
  obtain rfl:i=n:=by omega
  rw[<- hn,List.drop_length]at hrun
  cases hrun
  refine codeAny_builtin F.entry_set_update_loop ?_
  rw[Around.under_plainId F.plain_set_update_loop _]
  show wpAny _ A.in1 (pyNext (.ref I) >>= _) _ _ s
  refine Qa (W.done s _ _ hst fun s' hm=>?_)
  show wpAny _ A.in1 (ret Value.none) _ _ s'
  exact Qh (hR s' (hm.mono hsub) (hS.moved hSw fun b o hb e=>hm.heap b o hb e))
 |succ r ih =>
  intro i s st stn hr hi hl hst h0k hS hrun hR
  have hlt:i<n:=by omega
  refine codeAny_builtin F.entry_set_update_loop ?_
  rw[Around.under_plainId F.plain_set_update_loop _]
  show wpAny _ A.in1 (pyNext (.ref I) >>= _) _ _ s
  refine Qa (W.item i s _ _ hlt hst fun v s' hP hst' hm=>?_)
  obtain⟨c,k,hk,rfl,hc,hcS,hcw⟩:=hval i v hP
  have hdrop:ks.drop i=k::ks.drop (i+1):=by
   obtain⟨h1,h2⟩:=Qp.mp hk
   rw[Jj h1,h2]
  rw[hdrop]at hrun
  obtain⟨u,e1,e2⟩:=bind_some hrun
  have hS':=hS.moved hSw fun b o hb e=>hm.heap b o hb e
  have hc':TK prog w s'.heap k c:=by
   obtain⟨ob,its,m,hb,YK⟩:=hc
   exact⟨ob,its,m,hm.heap _ _ hcw (h0k _ _ hcS hcw hb),YK⟩
  show wpAny _ A.in1 (holding [Value.ref c] (setAdd S (.ref c)) >>= _) _ _ s'
  refine Qa (Jf ?_)
  refine Ziz hu hS' hc' hcw e1 (by omega) fun b h' hsb hS2=>?_
  have ul:u.1.length<=i+1:=by
   have:=Zjl [k] st u (by show(stS st k).bind (runS [])=_;rw[e1];rfl)
   simp at this;omega
  refine Qh ⟨plainId_quiet F.plain_set_update_loop _,ih (i+1) _ u stn (by omega) hlt ul (W.frame _ s' _ _ hst' (by omega) fun b hb o e=>?_) (fun b o hbS hbw e=>?_) hS2 e2 fun s'' hm'' hS''=>?_⟩
  ·rw[hsb.2 b (fun h:b=S=>hSf (by rw[<- h];exact hb))];exact e
  ·show h'.get? b=some o
   rw[hsb.2 b hbS];exact hm.heap _ _ hbw (h0k b o hbS hbw e)
  ·refine hR s'' (Moved.trans W.gtrans ((hm.mono hsub).then_heap (by omega) fun b o hb e=>?_) hm'') hS''
   rw[hsb.2 b (fun h:b=S=>hb (by rw[h];exact Qd))];exact e
end
end L2

namespace PySem
open PySem.Spec PyProof.Rows
section
variable{prog:Program}{w:World}{A:Around}{E:Value->Shared->Prop}{s:Shared}
set_option maxHeartbeats 8000000 in
theorem Zfm{l:Addr}{items:Array Value}{ks:List (List Int)}{stn:List (List Int)×Array Nat}{Q:Value->Shared->Prop}(hh:A.handled=none)(hu:A.units+60<cLine)(hl:s.heap.IsList l items)(hn:ks.length=items.size)(h500:items.size<=500)
  (hk:∀(i:Nat) (v:Value),items[i]?=some v->∃(c:Addr) (k:List Int),ks[i]?=some k/\v=Value.ref c/\L2.TK prog w s.heap k c) (hrun:L2.runS ks ([],#[])=some stn)
  (h:∀(h':Heap) (tk:Nat),(∃no,L2.TupS prog w no h' s.heap.objs.size stn)->(∀b o,b<s.heap.objs.size->s.heap.get? b=some o->h'.get? b=some o)->s.toks<=tk->Q (.ref s.heap.objs.size) { s with heap:=h',toks:=tk }) :
  wpAny (model prog w) A (call (.type "set") [.ref l]) Q E s:=by
 obtain⟨c,tl,hmro⟩:=F.called_set.mro
 have hmade:=F.called_set.made
 have hsub:=F.called_set.sub
 refine wpAny_call (codeAny_of_tree ?_)
 show wpAny _ _ (callAny (.type "set") _) _ _ _
 refine Qh ⟨Code.quiet_builtin _ (by decide+kernel),codeAny_builtin F.entry_type_call ?_⟩
 rw[Around.under_plain (weight_type_call_type "set" [.ref l] []) rfl]
 have h1:=F.called_set.notType
 have h2:=F.called_set.canCreate
 have hct:=F.typeCall_set_1 (.ref l)
 repeat (any_goals (first|assumption|wp_step))
 refine codeAny_mono (code_set_new_1 (.ref l) (E:=E) (Q₁:=fun obj s₁=>∃led:Bool,obj=.ref s.heap.objs.size/\s₁={ s with heap:=s.heap.push { cls:=.type "set",dict:=none,data:=.set #[] 0 (.fresh 0 0 led) } }) fun led=>⟨led,rfl,rfl⟩) fun r s₁ hr=>?_
 cases r with
 |error e=>exact hr
 |ok fl =>
  cases fl with
  |ret obj =>
   obtain⟨led,rfl,rfl⟩:=hr
   have hS:(s.heap.push { cls:=.type "set",dict:=none,data:=.set #[] 0 (.fresh 0 0 led) }).get? s.heap.objs.size=some { cls:=.type "set",dict:=none,data:=.set #[] 0 (.fresh 0 0 led) }:=Qv _ rfl
   have hT:Shared.TypeIs { s with heap:=s.heap.push { cls:=.type "set",dict:=none,data:=.set #[] 0 (.fresh 0 0 led) } } (.ref s.heap.objs.size) "set":=⟨_,hS,rfl⟩
   have hli:=F.called_set.init.lookup
   have hbi:=F.called_set.init.bind (.ref s.heap.objs.size)
   repeat (any_goals (first|assumption|wp_step))
   refine codeAny_mono (codeAny_call_builtin (R:=wants (fun r s₂=>r=.none/\∃h' tk,s₂={ s with heap:=h',toks:=tk }/\(∃no,L2.TupS prog w no h' s.heap.objs.size stn) /\
     (∀b o,b<s.heap.objs.size->s.heap.get? b=some o->h'.get? b=some o)/\s.toks<=tk) E) F.called_set.init.plain F.entry_set_init (check_set_init_1 hT ?_)) fun r₂ s₂ hr₂=>?_
   ·obtain⟨ol,hol,hcl,nl,hdl⟩:=hl
    obtain⟨ocls,odict,odata,oslots⟩:=ol
    simp only at hcl hdl
    subst hcl;subst hdl
    have hol':(s.heap.push { cls:=.type "set",dict:=none,data:=.set #[] 0 (.fresh 0 0 led) }).get? l=some { cls:=.type "list",dict:=odict,data:=.seq items nl,slots:=oslots }:=Qf _ hol
    have hsls:=F.sub_list_set
    have hslf:=F.sub_list_frozenset
    have hne:(Value.type "list" == Value.type "dict")=false:=by decide
    have hl1:(s.heap.push { cls:=.type "set",dict:=none,data:=.set #[] 0 (.fresh 0 0 led) }).IsList l items:=⟨_,hol',rfl,nl,rfl⟩
    unfold Builtin.«set.__init__» noKeywords Builtin.Frozenset.updateFrom
    generalize hPI:pyIter=PI
    wp_walk
    subst hPI
    refine wpAny_pyIter_list hl1 ?_
    refine Qa (wpAny_runValue ?_)
    have hlS:l<s.heap.objs.size:=Qr hol
    have hh3:A.in1.in1.in1.handled=none:=by simp[hh]
    have hneI:l≠(s.heap.push { cls:=.type "set",dict:=none,data:=.set #[] 0 (.fresh 0 0 led) }).objs.size:=by
     rw[Jl];exact Qy (Jc hlS)
    have hSf:s.heap.objs.size∉[(s.heap.push { cls:=.type "set",dict:=none,data:=.set #[] 0 (.fresh 0 0 led) }).objs.size,l]:=by
     rw[Jl];simp only[Qm,Q4,Q6,or_false,not_or]
     exact⟨Qy (JE _),Nat.ne_of_gt hlS⟩
    have hval:∀(i:Nat) (v:Value),items[i]?=some v->∃(c:Addr) (k:List Int),ks[i]?=some k/\v=Value.ref c/\L2.TK prog w s.heap k c/\c≠s.heap.objs.size/\c∉[(s.heap.push { cls:=.type "set",dict:=none,data:=.set #[] 0 (.fresh 0 0 led) }).objs.size]:=fun i v hv=>by
     obtain⟨c,k,e1,e2,e3⟩:=hk i v hv
     obtain⟨ob,its,m,hb,YK⟩:=e3
     have lt:=Qr hb
     refine⟨c,k,e1,e2,⟨ob,its,m,hb,YK⟩,Qy lt,?_⟩
     rw[Jl,Q4]
     exact Qy (Jc lt)
    refine L2.loop_set ((Walks.list hh3 _ l hneI items).toS) s.heap.objs.size hSf (h0:=s.heap) (ks:=ks) hn h500 hval (by simp only[Around.in1_units];omega) (items.size-0) 0 _ ([],#[]) stn (by omega) (QZ _) (Qj _)
     ⟨⟨_,Qv _ rfl,rfl,rfl⟩,(hl1.push _)⟩ (fun b o _ _ e=>Qf _ (Qf _ e)) ?hS0 (by rw[List.drop_zero];exact hrun) ?hR
    case hS0 =>
     refine⟨_,#[],0,_,[],Qf _ hS,⟨rfl,rfl,rfl⟩,rfl,⟨rfl,rfl,rfl⟩,rfl,rfl,rfl,fun p hp=>(by cases hp)⟩
    case hR =>
     intro s' hm hS'
     obtain⟨h',g',d',tk',os'⟩:=s'
     have eg:g'=s.gens:=hm.gens
     have ed:d'=s.drawn:=hm.drawn
     have eo:os'=s.os:=hm.os
     subst eg;subst ed;subst eo
     show wpAny _ _ _ _ _ _
     refine Qh ?_
     show wpAny _ _ (ret Value.none) _ _ _
     refine Qh ⟨rfl,h',tk',rfl,⟨_,hS'⟩,fun b o hb e=>?_,hm.toks⟩
     have hb1:b≠s.heap.objs.size:=Qy hb
     have hb2:b≠(s.heap.push { cls:=.type "set",dict:=none,data:=.set #[] 0 (.fresh 0 0 led) }).objs.size:=by
      rw[Jl];exact Qy (Jc hb)
     exact hm.heap b o (by simp only[Qm,Q4,Q6,or_false,not_or];exact⟨hb1,hb2⟩) (Qf _ (Qf _ e))
   ·cases r₂ with
    |error e=>exact hr₂
    |ok fl₂ =>
     cases fl₂ with
     |ret r =>
      obtain⟨rfl,h',tk,rfl,hS',hk',htk⟩:=hr₂
      repeat (any_goals (first|assumption|wp_step))
      exact h _ _ hS' hk' htk
     |_=>exact hr₂.elim
  |_=>exact hr.elim
end
end PySem

namespace L2
open PySem PySem.Spec PyProof.Rows
theorem Z09:bootBuiltins ("set":Str)=some (Value.type "set"):=by decide+kernel
def XQ(σ:List Int)(k:Int):List Int:=if σ.any (· == k) then σ else σ++[k]
def X0:D->Option D
 |.lst ds=>match XI ds with
  |some ns=>if ns.length<=4000 then some (.int ((ns.foldl XQ []).length:Nat)) else none
  |none=>match UT ds with
   |some ks=>if ks.length<=500 then(runS ks ([],#[])).bind fun st=>some (.int (st.1.length:Nat)) else none
   |none=>none
 |_=>none
section
variable{X:Cx}{pos:Pos}
def Zlr(p:Addr)(N:Nat)(h:Heap):Prop:=∃(o:Obj) (es:Array (Int×Value)) (ep:Nat) (t:SetTable),h.get? p=some o/\o.ExactSet/\o.data=.set es ep t/\t.fits es.size=true/\es.size=N
theorem Znc{P:Program}{w:World}{H:Hp}{h:Heap}{p:Addr}{N:Nat}(x:Zlr p N h):YI P w H h p (.ext (Zlr p N)):=by
 refine⟨x,let⟨o,_,_,_,ho,_⟩:=x;⟨o,ho⟩,fun h1 h2 ⟨o,es,ep,t,ho,r⟩ k=>⟨o,es,ep,t,k o ho,r⟩⟩
theorem Zcj{prog:Program}{w:World}:∀{vs:List Value} {ns:List Int},IntsAre vs ns->PySem.ItemsAre (intKind prog w) ns vs
 |_,_,.nil=>.nil
 |_,_,.cons n t hr=>.cons (by show Value.isInt n (Value.int n t)=true;simp[Value.isInt]) (Zcj hr)
theorem Zqw{prog:Program}{w:World}{h:Heap}{a:Addr}{its:List Value}{k:List Int}(hi:IntsAre its k)(ht:IsTup h a its.toArray):TK prog w h k a:=by
 obtain⟨o,ho,hc,n,hd⟩:=ht
 exact⟨o,its.toArray,n,ho,hc,hd,by simpa using Zcj hi⟩
theorem Zfj(ns:List Int):(firstMet (fun i=>ns.getD i 0) ns.length)=ns.foldl XQ []:=by
 unfold firstMet
 rw[show(List.range ns.length).map (fun i=>ns.getD i 0)=ns from Zao ns 0]
 rfl
def rSet(K:PySem.W.Frag)(xs:List V)(H:Hp)(Q:VK):Prop:=∃(O:List Addr) (d:D) (v:V) (n:Int),xs=[v]/\Y8 K (mask O H) d v/\X0 d=some (.int n)/\∀p,H p=none->∃N:Nat,n=N/\Q (.ref p) (YZ H p (.ext (Zlr p N)))
theorem Zt2(hc:X.calm=true)(hu:X.A.units+64<cLine):X7 X (.type "set") (rSet X.K):=by
 intro pins s σ H xs us Q I rs h
 obtain⟨O,d,v,n,rfl,rp,e,q⟩:=h
 unfold X0 at e
 split at e
 ·rename_i ds
  obtain⟨p,vs,rfl,hp,r2⟩:=rp
  obtain⟨u,rfl,ru⟩:=WB rs
  cases ru
  obtain⟨its,rv,pl,_⟩:=I.list (XX.of (Zf _ _ hp))
  split at e
  ·rename_i ns ei
   split at e
   ·rename_i h4
    cases e
    cases Xg ei
    cases r2.ints
    have hi:=XJ rv
    have hl:its.length=ns.length:=hi.length
    refine call_set_list (items:=its.toArray) (ns:=ns) (I.ok.hd hc) pl.isList (by simpa using hi) (by rw[Ql];unfold scanBound;omega) fun h' tk hS hk=>?_
    have sz:its.toArray.size=ns.length:=by rw[Ql];exact hl
    rw[sz,Zfj]at hS
    obtain⟨N,e1,q⟩:=q s.heap.objs.size (I.hok.fresh (Qj _))
    refine⟨.ref s.heap.objs.size,_,I.laid (t':=tk) (o:=.ext (Zlr s.heap.objs.size N)) (fun b o e=>hk b o (Qr e) e) (Qj _) (Znc ?_),rfl,q⟩
    obtain⟨o,es,ep,t,ho,hex,hd,_,_,_,hf,hz⟩:=hS
    exact⟨o,es,ep,t,ho,hex,hd,hf,by omega⟩
   ·cases e
  ·split at e
   ·rename_i ks ek
    split at e
    ·rename_i h5
     obtain⟨st,e1,e2⟩:=bind_some e
     cases e2
     cases W3 ek
     have rm:=Zr.mono Zf _ _ r2
     have ta:=Zcw I rm rv
     have hl:=ta.len
     refine Zfm (items:=its.toArray) (ks:=ks) (stn:=st) (I.ok.hd hc) (by omega) pl.isList (by rw[Ql];omega) (by rw[Ql];omega) (fun i v hv=>?_) e1 fun h' tk hS hk htk=>?_
     ·rw[<- Array.getElem?_toList]at hv
      have hv:its[i]?=some v:=hv
      have hil:=(Qp.mp hv).1
      obtain⟨a,its',g1,g2,g3⟩:=ta.get (i:=i) (by omega)
      refine⟨a,ks.getD i [],?_,?_,Zqw g2 g3⟩
      ·rw[Qx,Qq (by omega)];rfl
      ·rw[<- g1,Qx,hv];rfl
     ·obtain⟨N,e3,q⟩:=q s.heap.objs.size (I.hok.fresh (Qj _))
      refine⟨.ref s.heap.objs.size,_,I.laid (t':=tk) (o:=.ext (Zlr s.heap.objs.size N)) (fun b o e=>hk b o (Qr e) e) (Qj _) (Znc ?_),rfl,q⟩
      obtain⟨no,x⟩:=hS
      obtain⟨o,es,ep,t,a1,a2,a3,a4,a5⟩:=x.len
      exact⟨o,es,ep,t,a1,a2,a3,a4,by omega⟩
    ·cases e
   ·cases e
 ·cases e
theorem Zp6(hc:X.calm=true):X7 X (.builtin "len") (fun xs H Q=>∃(p:Addr) (N:Nat),xs=[.ref p]/\H p=some (.ext (Zlr p N))/\N<=100000/\Q (.int (N:Int)) H):=by
 intro pins s σ H xs us Q I rs h
 obtain⟨p,N,rfl,hp,hN,q⟩:=h
 obtain⟨u,rfl,ru⟩:=WB rs
 cases ru
 obtain⟨⟨o,es,ep,t,ho,hex,hd,hf,hz⟩,_⟩:=(show YI X.prog X.w H s.heap p (.ext (Zlr p N)) from I.hok p _ hp)
 refine call_len_set ho hex hd hf (by omega) ?_
 refine⟨.int (N:Int),H,?_,⟨_,by rw[hz]⟩,q⟩
 exact I.kept (fun _ _ e=>e)
theorem Zsm{d:D}{y:D}(h:X0 d=some y):∃N:Nat,y=.int (N:Int)/\N<=100000:=by
 unfold X0 at h
 split at h
 ·split at h
  ·split at h
   ·rename_i ns _ h4
    cases h
    refine⟨_,rfl,?_⟩
    have:∀(ns:List Int) (σ:List Int),(ns.foldl XQ σ).length<=σ.length+ns.length:=by
     intro ns
     induction ns with
     |nil=>intro σ;exact Qj _
     |cons n ns ih =>
      intro σ
      have:=ih (XQ σ n)
      have:(XQ σ n).length<=σ.length+1:=by unfold XQ;split<;>simp
      simp only[JJ,Qk];omega
    have:=this ns []
    simp only[Q7]at this
    omega
   ·cases h
  ·split at h
   ·split at h
    ·rename_i ks _ h5
     obtain⟨st,e1,e2⟩:=bind_some h
     cases e2
     have:=Zjl ks _ st e1
     simp only[Q7]at this
     exact⟨_,rfl,by omega⟩
    ·cases h
   ·cases h
 ·cases h
theorem Zgo{a:Expr}{fa:FE}{p1 p2 p3:Pos}(ha:EV X a fa)(hc:X.calm=true)(hu:X.A.units+64<cLine)(m1:X.mg "len"=none)(m2:X.mg "set"=none)(g1:Gl X "len":=by rfl)(g2:Gl X "set":=by rfl)
  (h1:starEach [a] X.env=(false,eval a X.env)::starEach [] X.env:=by rfl) (h2:starEach [Expr.Call (.Name "set" p2) [a] [] p3] X.env=(false,eval (.Call (.Name "set" p2) [a] [] p3) X.env)::starEach [] X.env:=by rfl)
  (hp:(backTo p3 (starEach [] X.env)).any (·.1)=false:=by rfl) (hp2:(backTo pos (starEach [] X.env)).any (·.1)=false:=by rfl) :
  EV X (.Call (.Name "len" p1) [.Call (.Name "set" p2) [a] [] p3] [] pos) (f1 X0 fa) :=
 PE.imp (Zdx (Zp6 hc) g1 m1 YR (XZ (Zbq (Zt2 hc hu) g2 m2 Z09 (XZ ha VJ h1) (by decide) (by decide) h1 hp) VJ h2) (by decide) (by decide) h2 hp2) fun σ H Q h=>by
  obtain⟨O,ρ,d,rv,e,q⟩:=h
  obtain⟨x,e1,e⟩:=bind_some e
  obtain⟨N,rfl,hN⟩:=Zsm e
  refine⟨O,ρ,x,rv,e1,fun v H1 s1 r1=>?_⟩
  refine⟨O,x,v,N,rfl,r1,e,fun p hp=>⟨N,rfl,?_⟩⟩
  refine⟨p,N,rfl,ZS,hN,?_⟩
  exact q _ _ (Zg.trans s1 (Zg.new hp)) rfl
end
end L2

namespace L2
open PySem PySem.W PySem.Spec PyProof.Rows HT
def UN:List (List Int)->List (List Int)->Bool
 |[],[]=>false
 |[],_::_=>true
 |_::_,[]=>false
 |x::xs,y::ys=>if x=y then UN xs ys else HT.lexLt x y
section
variable{prog:Program}{w:World}{A:Around}{E:Value->Shared->Prop}{s:Shared}
theorem Xo.drop{h:Heap}:∀{ks:List (List Int)} {us:List Value} (i:Nat),Xo h ks us->Xo h (ks.drop i) (us.drop i)
 |ks,us,0,x=>x
 |[],us,i+1,x=>by rw[show us=[] from x];simp;rfl
 |k::ks,us,i+1,⟨a,its,r,e,_,_,q⟩=>by rw[e];exact q.drop i
theorem Zrk{a b:Addr}{oa ob:Obj}{xs ys:List Value}{na nb:Nat}{r q:List (List Int)}{R:Result->Shared->Prop}(hu:A.units+2<cLine)(ha:s.heap.get? a=some oa)(hda:oa.data=.seq xs.toArray na)(hb:s.heap.get? b=some ob)(hdb:ob.data=.seq ys.toArray nb)(tx:Xo s.heap r xs)(ty:Xo s.heap q ys) :
  ∀(k i:Nat),xs.length-i=k->i<=xs.length->i<=ys.length->R (.ok (.ret (.bool (UN (r.drop i) (q.drop i))))) s->codeAny (model prog w) A (.builtin "list.__eq__.loop" ⟨[.ref a,.ref b,rawInt i,rawInt 0],[]⟩) R s:=by
 have lx:=tx.len
 have ly:=ty.len
 intro k
 induction k with
 |zero =>
  intro i hk hix hiy h
  refine codeAny_builtin PySem.MeetsSeq3.entry_eq_loop ?_
  rw[Around.under_plainId JI _]
  show wpAny _ _ (Builtin.List.listItems (.ref a) >>= _) _ _ s
  refine Qa (JF ha hda ?_)
  refine Qa (JF hb hdb ?_)
  have e1:xs.toArray[((i:Nat):Int).toNat]?=none:=by simp;omega
  rw[e1]
  dsimp only
  refine Qa (JF ha hda ?_)
  refine Qa (JF hb hdb ?_)
  refine Qh ?_
  show R (.ok (.ret (.bool (decide (xs.toArray.size<ys.toArray.size))))) s
  have rd:r.drop i=[]:=List.drop_of_length_le (by omega)
  rw[rd]at h
  have:UN [] (q.drop i)=decide (xs.toArray.size<ys.toArray.size):=by
   rw[Ql,Ql]
   cases hq:q.drop i with
   |nil =>
    have:=List.drop_eq_nil_iff.mp hq
    rw[decide_eq_false (by omega)];rfl
   |cons z zs =>
    have:i<q.length:=by
     rcases Nat.lt_or_ge i q.length with z|z
     ·exact z
     ·rw[List.drop_of_length_le z]at hq;cases hq
    rw[decide_eq_true (by omega)];rfl
  rw[<- this];exact h
 |succ k ih =>
  intro i hk hix hiy h
  refine codeAny_builtin PySem.MeetsSeq3.entry_eq_loop ?_
  rw[Around.under_plainId JI _]
  show wpAny _ _ (Builtin.List.listItems (.ref a) >>= _) _ _ s
  refine Qa (JF ha hda ?_)
  refine Qa (JF hb hdb ?_)
  have hi:i<xs.length:=by omega
  obtain⟨c,cs,e1,ic,tc⟩:=tx.get (i:=i) (by omega)
  have e1':xs.toArray[((i:Nat):Int).toNat]?=some (Value.ref c):=by
   rw[Qz,List.getElem?_toArray,<- e1,Qx,Qq hi];rfl
  rw[e1']
  by_cases hj:i<ys.length
  ·obtain⟨d,ds,e2,id,td⟩:=ty.get (i:=i) (by omega)
   have e2':ys.toArray[((i:Nat):Int).toNat]?=some (Value.ref d):=by
    rw[Qz,List.getElem?_toArray,<- e2,Qx,Qq hj];rfl
   rw[e2']
   dsimp only
   have rx:r.drop i=r.getD i []::r.drop (i+1):=by
    rw[Jj (by omega),Qx,Qq (by omega)];rfl
   have qx:q.drop i=q.getD i []::q.drop (i+1):=by
    rw[Jj (by omega),Qx,Qq (by omega)];rfl
   rw[rx,qx]at h
   unfold UN at h
   refine Qa (wpAny_eqBool_tuple (knd:=intKind prog w) (by simp only[Around.in1_units];omega) (Zqw ic tc) (Zqw id td) ?_)
   by_cases he:r.getD i []=q.getD i []
   ·rw[if_pos he]at h
    rw[decide_eq_true he,if_pos rfl]
    refine Qh ⟨plainId_quiet JI _,?_⟩
    have:=ih (i+1) (by omega) (by omega) (by omega) h
    rw[show(((i+1:Nat):Nat):Int)=((i:Nat):Int)+1 by omega]at this
    exact this
   ·rw[if_neg he]at h
    rw[decide_eq_false he,if_neg (by decide)]
    refine Qa (JF ha hda ?_)
    refine Qa (JF hb hdb ?_)
    rw[e1',e2']
    dsimp only
    refine Qa (lt_tupInts tc td (by simpa using ic) (by simpa using id) (by simp only[Around.in1_units];omega) ?_)
    exact Qh h
  ·have e2':ys.toArray[((i:Nat):Int).toNat]?=none:=by simp;omega
   rw[e2']
   dsimp only
   refine Qa (JF ha hda ?_)
   refine Qa (JF hb hdb ?_)
   refine Qh ?_
   show R (.ok (.ret (.bool (decide (xs.toArray.size<ys.toArray.size))))) s
   have qd:q.drop i=[]:=List.drop_of_length_le (by omega)
   have rx:r.drop i=r.getD i []::r.drop (i+1):=by
    rw[Jj (by omega),Qx,Qq (by omega)];rfl
   rw[qd,rx]at h
   rw[Ql,Ql,decide_eq_false (by omega)]
   exact h
theorem Zy2:isSubtype (.type "list") (.type "list")=pure true:=by rw[isSubtype_type];kernel_rfl
def Ze6(h:Heap)(r:List (List Int))(v:Value):Prop:=∃(a:Addr) (us:List Value) (o:Obj) (n:Nat),v=.ref a/\h.get? a=some o/\o.cls=.type "list"/\o.data=.seq us.toArray n/\Xo h r us
theorem Zzb{r q:List (List Int)}{x y:Value}{C:Bool->Shared->Prop}(hu:A.units+6<cLine)(hx:Ze6 s.heap r x)(hy:Ze6 s.heap q y)(h:C (UN r q) s):wpAny (model prog w) A (keyLt' oneType' x y) C (fun _ _=>False) s:=by
 obtain⟨a,us,oa,n,rfl,ha,ca,da,ta⟩:=hx
 obtain⟨b,vs,ob,m,rfl,hb,cb,db,tb⟩:=hy
 rw[keyLt'_oneType,oneLt'_eq]
 simp only[if_true]
 refine Qa (wpAny_cRoomFor (by omega) ?_)
 have hT:s.TypeIs (.ref a) "list":=⟨_,ha,ca⟩
 have hTb:s.TypeIs (.ref b) "list":=⟨_,hb,cb⟩
 refine Qa (wpAny_callSpecialIfBound?_slot hT PySem.F.slot_list_lt ?_)
 refine wpAny_call (codeAny_call_builtin PySem.F.slot_list_lt.plain PySem.F.entry_list_lt (PySem.F.slot_list_lt.check _ _ _ _ _ _ _ _ hT (PySem.F.args_list_lt_2 _ _) ?_))
 show wpAny _ _ (isInstance (.ref b) (.type "list") >>= _) _ _ s
 refine Qa (wpAny_isInstance hTb Zy2 ?_)
 simp only[JD,Qo,if_false]
 rw[if_neg (by decide)]
 refine Qh ⟨plainId_quiet JI _,?_⟩
 have:=Zrk (prog:=prog) (w:=w) (A:=A) (R:=fun r s'=>∃c,r=.ok (.ret (.bool c))/\C c s') (by omega) ha da hb db ta tb _ 0 rfl (QZ _) (QZ _) ⟨_,rfl,by rw[List.drop_zero,List.drop_zero];exact h⟩
 refine codeAny_mono this fun r s' hr=>?_
 obtain⟨c,rfl,hc⟩:=hr
 exact JQ hc
def Wy(h:Heap):List (List (List Int))->List Value->Prop
 |[],us=>us=[]
 |r::rs,us=>∃v t,us=v::t/\Ze6 h r v/\Wy h rs t
theorem Ze6.keep{h h':Heap}(k:∀b o,h.get? b=some o->h'.get? b=some o){r:List (List Int)}{v:Value}(x:Ze6 h r v):Ze6 h' r v:=by
 obtain⟨a,us,o,n,e,ha,c,d,t⟩:=x
 exact⟨a,us,o,n,e,k _ _ ha,c,d,t.keep k⟩
theorem Wy.keep{h h':Heap}(k:∀b o,h.get? b=some o->h'.get? b=some o):∀{rs:List (List (List Int))} {us:List Value},Wy h rs us->Wy h' rs us
 |[],_,e=>e
 |_::_,_,⟨v,t,e,x,y⟩=>⟨v,t,e,x.keep k,y.keep k⟩
theorem Wy.len{h:Heap}:∀{rs:List (List (List Int))} {us:List Value},Wy h rs us->us.length=rs.length
 |[],_,e=>by rw[show _=_ from e];rfl
 |_::_,_,⟨v,t,e,x,y⟩=>by rw[e,Qk,Qk,y.len]
theorem Wy.get{h:Heap}:∀{rs:List (List (List Int))} {us:List Value} {i:Nat},Wy h rs us->i<rs.length->Ze6 h (rs.getD i []) (us.getD i Value.none)
 |_::_,_,0,⟨v,t,e,x,y⟩,_=>by rw[e];exact x
 |_::_,_,i+1,⟨v,t,e,x,y⟩,hi=>by rw[e];exact y.get (i:=i) (by simpa using hi)
theorem Wy.ty{h:Heap}{rs:List (List (List Int))}{us:List Value}(x:Wy h rs us):∀v∈us,Looks (model prog w) h (typeOf v) (.type "list"):=fun v hv=>by
 obtain⟨i,hi,rfl⟩:=List.mem_iff_getElem.mp hv
 obtain⟨a,ws,o,n,e,ha,hc,_,_⟩:=x.get (i:=i) (by rw[<- x.len];exact hi)
 have:us[i]=.ref a:=by rw[<- e,Qx,Qq hi];rfl
 rw[this]
 exact fun A Q E s k q=>wpAny_typeOf_ref (k _ _ ha) (by rw[hc];exact q)
theorem Zua{rs:List (List (List Int))}{us:List Value}(hu:A.units+6<cLine)(x:Wy s.heap rs us)(h2:2<=us.length):Zoe prog w A s us (fun i j=>UN (rs.getD i []) (rs.getD j [])):=by
 have hl:=x.len
 refine⟨oneType',fun Q hq=>kas_kind (T:=Value.type "list") h2 (fun v hv=>x.ty v hv) (by decide) (by decide) hq,fun i j C hi hj hc=>?_⟩
 exact Zzb hu (x.get (by omega)) (x.get (by omega)) hc
end
theorem UF:∀a,UN a a=false
 |[]=>rfl
 |x::a=>by unfold UN;rw[if_pos rfl];exact UF a
theorem UD:∀a b c,UN a b=true->UN b c=true->UN a c=true
 |[],[],_,h,_=>by cases h
 |[],_::_,[],_,h=>by cases h
 |[],_::_,_::_,_,_=>rfl
 |_::_,[],_,h,_=>by cases h
 |_::_,_::_,[],_,h=>by cases h
 |x::a,y::b,z::c,h1,h2=>by
  unfold UN at h1 h2 ⊢
  by_cases e1:x=y
  ·rw[if_pos e1]at h1
   by_cases e2:y=z
   ·rw[if_pos e2]at h2
    rw[if_pos (e1.trans e2)];exact UD a b c h1 h2
   ·rw[if_neg e2]at h2
    subst e1
    rw[if_neg e2];exact h2
  ·rw[if_neg e1]at h1
   by_cases e2:y=z
   ·subst e2
    rw[if_neg e1];exact h1
   ·rw[if_neg e2]at h2
    have h3:=Wl x y z h1 h2
    rw[if_neg fun e=>by subst e;rw[XS]at h3;cases h3];exact h3
theorem Zbo{a b:List (List Int)}(h:UN a b=true):UN b a=false:=by
 cases e:UN b a with
 |false=>rfl
 |true=>have:=UD a b a h e;rw[UF]at this;cases this
theorem UE:∀a b:List (List Int),a≠b->UN a b=true\/UN b a=true
 |[],[],h=>absurd rfl h
 |[],_::_,_=>.inl rfl
 |_::_,[],_=>.inr rfl
 |x::a,y::b,h=>by
  unfold UN
  by_cases e:x=y
  ·subst e
   rw[if_pos rfl,if_pos rfl]
   exact UE a b fun z=>h (by rw[z])
  ·rw[if_neg e,if_neg fun z=>e z.symm]
   exact XR x y e
def Zrn(a b:List (List Int)):Bool:=!UN b a
theorem Zox(a b c:List (List Int))(h1:Zrn a b=true)(h2:Zrn b c=true):Zrn a c=true:=by
 unfold Zrn at *
 simp only[Bool.not_eq_true']at *
 cases e:UN c a with
 |false=>rfl
 |true =>
  by_cases ab:a=b
  ·subst ab;rw[h2]at e;cases e
  ·rcases UE a b ab with z|z
   ·rw[UD c a b e z]at h2;cases h2
   ·rw[z]at h1;cases h1
theorem Zoy(a b:List (List Int)):(Zrn a b||Zrn b a)=true:=by
 unfold Zrn
 cases e:UN b a with
 |false=>rfl
 |true=>rw[Zbo e];rfl
def Znf(rs:List (List (List Int))):List (List (List Int)):=rs.mergeSort Zrn
theorem VE{a b:List (List (List Int))}(hp:a.Perm b)(hs:a.Pairwise (fun x y=>UN x y=true)):a=Znf b:=by
 refine List.Perm.eq_of_pairwise (le:=fun x y=>Zrn x y=true) (fun x y _ _ h1 h2=>?_) (hs.imp fun h=>?_) (List.pairwise_mergeSort Zox Zoy b) (hp.trans (JA b _).symm)
 ·apply QD
  intro hne
  unfold Zrn at h1 h2
  rcases UE x y hne with z|z
  ·rw[z]at h2;cases h2
  ·rw[z]at h1;cases h1
 ·unfold Zrn;rw[Zbo h];rfl
def Zaq(r:List (List Int)):D:=.lst (r.map kT)
def Zu8:D->Option (List (List Int))
 |.lst ds=>UT ds
 |_=>none
def Zjm:List D->Option (List (List (List Int)))
 |[]=>some []
 |d::ds=>(Zu8 d).bind fun r=>(Zjm ds).bind fun rs=>some (r::rs)
theorem Zov{d:D}{r:List (List Int)}(h:Zu8 d=some r):d=Zaq r:=by
 unfold Zu8 at h
 split at h
 ·rw[W3 h];rfl
 ·cases h
theorem Zdo:∀{ds:List D} {rs:List (List (List Int))},Zjm ds=some rs->ds=rs.map Zaq
 |[],rs,h=>by cases h;rfl
 |d::ds,rs,h=>by
  obtain⟨r,e1,h⟩:=bind_some h
  obtain⟨q,e2,h⟩:=bind_some h
  cases h
  rw[Zov e1,Zdo e2];rfl
theorem Zbk:∀rs:List (List (List Int)),Zjm (rs.map Zaq)=some rs
 |[]=>rfl
 |r::rs=>by
  rw[Qe]
  unfold Zjm
  rw[show Zu8 (Zaq r)=some r from VA r,Zbk rs];rfl
def Xz:List D->Option D
 |[.lst ds]=>match Zjm ds with
  |some rs=>if rs.length<64/\rs.Nodup then some (.lst ((Znf rs).map Zaq)) else none
  |none=>none
 |_=>none
theorem Zpd{rs:List (List (List Int))}(nd:rs.Nodup):Zb4 (fun i j=>UN (rs.getD i []) (rs.getD j [])) rs.length :=
 ⟨fun a b c _ _ _ h1 h2=>UD _ _ _ h1 h2,fun a b _ _ h=>Zbo h,fun a b ha hb hne=>UE _ _ fun z=>hne (by
  have e1:rs.getD a []=rs[a]:=by simp[ha]
  have e2:rs.getD b []=rs[b]:=by simp[hb]
  rw[e1,e2]at z
  exact(List.getElem_inj nd).mp z)⟩
theorem Zl7{ks:List (List (List Int))}{p:Array Nat}(h:KP ks.length p)(hr:Ziw (fun i j=>UN (ks.getD i []) (ks.getD j [])) p ks.length):p.toList.map (fun i=>ks.getD i [])=Znf ks:=by
 refine VE ?_ ?_
 ·have:=(Zc3 h).map (fun i=>ks.getD i [])
  rwa[Zao]at this
 ·rw[Q0,List.pairwise_iff_getElem]
  intro i j hi hj hij
  have hl:p.toList.length=ks.length:=by rw[QU];exact h.size
  have hk:∀i (hi:i<p.toList.length),p.toList[i]=ka p i:=fun i hi=>by
   unfold ka
   rw[Jo,Jw (by rw[h.size];omega)]
   simp
  rw[hk,hk]
  exact hr i j hij (by omega)
section
variable{X:Cx}{pins:List (Addr×Obj)}{σ:St}{H:Hp}{s:Shared}
theorem Zng(I:ZA X pins σ H s):∀{rs:List (List (List Int))} {vs:List V} {us:List Value},Zr X.K H (rs.map Zaq) vs->ZM vs us->Wy s.heap rs us
 |[],_,_,r,rv=>by
  have:_=[]:=r
  subst this
  cases rv;rfl
 |k::ks,_,_,⟨v,vr,e,⟨a,xs,ev,ha,rx⟩,t⟩,rv=>by
  subst e;subst ev
  cases rv with
  |cons r1 YK =>
   cases r1
   obtain⟨its,r2,⟨o,n,ho,hc,_,hd⟩,_⟩:=I.list (XX.of ha)
   exact⟨_,_,rfl,⟨a,its,o,n,rfl,ho,hc,hd,Zcw I rx r2⟩,Zng I t YK⟩
theorem Ze0(hc:X.calm=true)(hu:X.A.units+64<cLine):Xu X (.builtin "sorted") Xz:=by
 intro pins s σ H xs us Q I rs h
 obtain⟨O,ds,d,th,rp,e,q⟩:=h
 unfold Xz at e
 split at e
 ·rename_i es
  obtain⟨v,rfl,p,vs,rfl,hp,r2⟩:=Zas rp
  obtain⟨u,rfl,ru⟩:=WB rs
  cases ru
  obtain⟨its,rv,pl,_⟩:=I.list (XX.of (Zf _ _ hp))
  split at e
  ·rename_i ks ek
   split at e
   ·rename_i h64
    cases e
    cases Zdo ek
    obtain⟨h64,nd⟩:=h64
    have rm:=Zr.mono Zf _ _ r2
    have ta:=Zng I rm rv
    have hl:=ta.len
    have hvl:=r2.length
    rw[Qb]at hvl
    have ko:=Zpd nd
    rw[<- hl]at ko
    refine Zf2 pl.isList (by omega) ko (fun h2 h' hk=>Zua (s:={ s with heap:=h' }) (by simp only[Around.in1_units];omega) (ta.keep hk) h2) fun pm hkp hr=>?_
    rw[hl]at hkp hr
    obtain⟨ep,he⟩:=sortedAll_at s.heap its (List.toArray (pm.toList.map fun i=>its.getD i Value.none))
    have lt:∀i∈pm.toList,i<ks.length:=fun i hi=>QK.mp ((Zc3 hkp).mem_iff.mp hi)
    have r3:=Zbm r2 pm.toList (fun i hi=>by rw[Qb];exact lt i hi)
    have ed:(pm.toList.map fun i=>(ks.map Zaq).getD i .non)=(Znf ks).map Zaq:=by
     rw[<- Zl7 hkp hr,QF]
     refine QQ fun i hi=>?_
     have:=lt i hi
     simp[Qx,this]
    rw[ed]at r3
    have v3:=Zbf rv pm.toList (fun i hi=>by rw[hvl];exact lt i hi)
    refine⟨.ref (s.heap.objs.size+1),_,I.laid (o:=.lst (pm.toList.map fun i=>vs.getD i .non)) (fun _ _=>sortedAll_old) (Jv _) ⟨?_,_,ep,v3,he⟩,rfl,q _ _ (Zg.new (I.hok.fresh (Jv _))) (YD th (I.hok.fresh (Jv _)) r3)⟩
    rw[Qb,QU,hkp.size,Q3];omega
   ·cases e
  ·cases e
 ·cases e
end
end L2

namespace L2
open PySem PySem.Spec PyProof.Rows
def spF(K:PySem.W.Frag)(G:List D->Option D):Sp:=fun vs H Q _=>∃O ds es,YY O H/\Zr K (mask O H) ds vs/\G ds=some (.lst es)/\∀a us H',Zg H H'->H a=none->H' a=some (.lst us)->Zr K (mask (a::O) H') es us->Q (.ref a) H'
structure Zm0(P:Program)(w:World)(K:PySem.W.Frag)(mg:Str->Option Value)(base:Heap)(x:Str)(k:Nat)(ps:List Str)(G:List D->Option D)(f:Addr)(fd:FuncData):Prop where
 ok:Vm P w K mg base Zm1 k f fd ps (spF K G)
 mg:mg x=some (.ref f)
 kp:PySem.W.keepIn K (.ref f)=true
 bi:Zbd K fd ps []
def Zwe(G:List D->Option D):List D->Option D:=fun ds=>(G ds).bind fun d=>match d with|.lst es=>some (.lst es)|_=>none
theorem Zdn{H:Hp}{O:List Addr}{a:Addr}:Zg (mask (a::O) H) (mask O H):=fun b u q=>by
 have hb:b∉a::O:=fun m=>by rw[ZY m]at q;cases q
 rw[Zp hb]at q
 rw[Zp fun m=>hb (Qc _ m)]
 exact q
theorem Zm0.def{P:Program}{w:World}{K:PySem.W.Frag}{mg:Str->Option Value}{base:Heap}{x:Str}{k:Nat}{ps:List Str}{G:List D->Option D}{f:Addr}{fd:FuncData}(h:Zm0 P w K mg base x k ps G f fd):YO P w K mg base x k ps (Zwe G) f fd :=
 ⟨h.ok.imp fun vs H Q E hs=>(by
  obtain⟨O,ds,d,th,rs,e,q⟩:=hs
  obtain⟨d',e1,e⟩:=bind_some e
  cases d' with
  |lst es =>
   cases e
   refine⟨O,ds,es,th,rs,e1,fun a us H' s hn ha r=>q _ H' s ⟨a,us,rfl,?_,Zr.mono Zdn es us r⟩⟩
   rw[Zp fun m=>?_]
   ·exact ha
   ·obtain⟨u,hu,_⟩:=th a m
    rw[hn]at hu;cases hu
  |_=>cases e),h.mg,h.kp,h.bi⟩
section
variable{X:Cx}{pos:Pos}
def Zwz(G:List D->Option D)(fa:FA):FA:=fun ρ=>(fa ρ).bind fun ds=>(G ds).bind fun d=>match d with|.lst es=>some es|_=>none
theorem Zgn{k' k:Nat}{f:Addr}{fd:FuncData}{ps:List Str}{G:List D->Option D}{x:Str}{p:Pos}{e:Expr}{es:List Expr}{fa:FA}(o:Zm0 X.prog X.w X.K X.mg X.base x k ps G f fd)(hr:X9 k' X.A)(ha:AV X (e::es) fa)(hk:k<=k':=by decide)
  (hg:Gl X x:=by rfl) (hdb:(x == ("__debug__":Str))=false:=by decide) (he:starEach (e::es) X.env=(false,eval e X.env)::starEach es X.env:=by rfl) (hpl:(backTo pos (starEach es X.env)).any (·.1)=false:=by rfl) :
  Zun X (.Call (.Name x p) (e::es) [] pos) (Zwz G fa):=PE.imp (Znm (dvs:=[]) o.ok (hr.mono hk) hg o.mg o.kp o.bi .nil Zxl ha hdb he hpl) fun σ H Q h=>by
 obtain⟨O,ρ,zs,rv,e1,q⟩:=h
 obtain⟨ds,e2,e1⟩:=bind_some e1
 obtain⟨d,e3,e1⟩:=bind_some e1
 refine⟨O,ρ,ds,rv,e2,fun vs H1 s1 r1=>?_⟩
 show spF X.K G (vs++[]) H1 Q E0
 rw[Q1]
 cases d with
 |lst es' =>
  cases e1
  refine⟨O,ds,zs,rv.th.mono s1,r1,e3,fun a us H2 s2 hn ha2 r2=>?_⟩
  have q':=q a us (fun b=>if b=a then none else H2 b) (fun b u hb=>?_) (if_pos rfl) (Zr.mono (fun b u hb=>?_) zs us r2)
  ·have eu:YZ (fun b=>if b=a then none else H2 b) a (.lst us)=H2:=by
    funext b
    by_cases z:b=a
    ·subst z;rw[ZS,ha2]
    ·rw[ZE z];exact if_neg z
   rw[eu]at q'
   exact q'
  ·have h1:=s1 b u hb
   have hba:b≠a:=ZW h1 hn
   show(if b=a then none else H2 b)=_
   rw[if_neg hba]
   exact s2 b u h1
  ·have hb':b∉a::O:=fun m=>by rw[ZY m]at hb;cases hb
   rw[Zp hb']at hb
   rw[Zp fun m=>hb' (Qc _ m)]
   show(if b=a then none else H2 b)=_
   rw[if_neg fun z=>hb' (by rw[z];exact Qd)]
   exact hb
 |_=>cases e1
def Zji(i:Nat)(f:FA):FS:=fun ρ=>match f (Ye ρ) with|some ds=>if UO ds=true then .nx (ρ.set i (some (.own (.lst ds)))) else .bad|none=>.bad
theorem Zuz{i:Nat}{x:Str}{e:Expr}{f:FA}{pos':Pos}(hN:X.N.Nodup)(h:Zun X e f)(hi:X.N[i]?=some x:=by rfl)(hx:Zp9 X.env.scope x:=by first|exact Or.inl rfl|exact Or.inr rfl)(hs:swapsWith e (some (.Name x pos')) pos.line X.env=pure false:=by rfl)
  (hf:X.fn x=true\/X.env.scope.names.lookup x=some .local:=by first|exact .inl rfl|exact .inr rfl):SV X (.Assign [.Name x pos'] e pos) (Zji i f):=PS.imp (Zdu hN hi hx h hs hf) fun E σ H ⟨B,O0,O1,ρ,r,q⟩=>by
 unfold Zji at q
 cases e:f (Ye ρ) with
 |none=>rw[e]at q;exact q.elim
 |some ds =>
  rw[e]at q
  dsimp only at q
  split at q
  ·rename_i hm
   exact⟨O0,Ye ρ,ds,r.all,e,fun a vs H1 s hn rep=>q _ _ (a::O1) ((r.mono s).setOwn hn trivial ⟨vs,ZS,Zr.mono (Zjh hn) ds vs (V9 (r.mono s).th ds vs hm rep)⟩)⟩
  ·exact q.elim
def tSF(K:PySem.W.Frag)(F:FS):TS:=fun E σ H=>∃B O0 O1 ρ es,RS K B O0 O1 H ρ σ/\F ρ=.rt (.lst es)/\∀a us H',Zg B H'->B a=none->H' a=some (.lst us)->Zr K (mask (a::O0) H') es us->E.rt (.ref a) H'
def Zw7(X:Cx)(sts:List Stmt)(F:FS):Prop:=Zc7 X sts (tSF X.K F)
def WC(F G:FS):FS:=fun ρ=>match F ρ with|.nx ρ'=>G ρ'|_=>.bad
theorem WI{st:Stmt}{YK:List Stmt}{F G:FS}(h1:SV X st F)(h2:Zw7 X YK G):Zw7 X (st::YK) (WC F G):=Zc7.imp (Uc h1 h2) fun E σ H h=>by
 obtain⟨B,O0,O1,ρ,es,r,e,q⟩:=h
 refine⟨B,O0,O1,ρ,r,?_⟩
 unfold WC at e
 cases e1:F ρ with
 |nx ρ' =>
  rw[e1]at e
  exact fun σ' H' O' r'=>⟨B,O0,O',ρ',es,r',e,q⟩
 |_=>rw[e1]at e;cases e
def Zf4(i:Nat):FS:=fun ρ=>match ρ[i]? with
 |some (some (.own (.lst es)))=>.rt (.lst es)
 |_=>.bad
theorem Zi9{i:Nat}{x:Str}{p1:Pos}(hN:X.N[i]?=some x:=by rfl)(hv:Zul X.env.scope x:=by first|exact Or.inl rfl|exact Or.inr (Or.inl rfl)|exact Or.inr (Or.inr rfl))(hd:(x == ("__debug__":Str))=false:=by decide)
  (hcd:(x == ("__classdict__":Str))=false:=by decide):Zw7 X [.Return (some (.Name x p1)) pos] (Zf4 i):=Zc7.imp (Zc0 (Zlv (VH hN hv hd hcd))) fun E σ H h=>by
 obtain⟨B,O0,O1,ρ,es,r,e,q⟩:=h
 unfold Zf4 at e
 split at e
 ·rename_i es' hi
  cases e
  obtain⟨a,ha,hO,vs,hv',rs⟩:=r.owns i _ hi
  refine⟨.ref a,ha,q a vs H r.same (r.new a hO) hv' (Zr.mono (fun b u hb=>?_) _ vs rs)⟩
  have h3:b∉O0++O1:=fun m=>by rw[ZY m]at hb;cases hb
  rw[Zp h3]at hb
  rw[Zp fun m=>?_]
  ·exact hb
  ·rcases Qm.mp m with z|z
   ·rw[z]at h3;exact h3 (Qg _ hO)
   ·exact h3 (Qw _ z)
 ·cases e
end
theorem Zkm{P:Program}{w:World}{K:PySem.W.Frag}{mg:Str->Option Value}{base:Heap}{x qual:Str}{st:Stmt}{f:Addr}{fd:FuncData}{N ps:List Str}{k n m:Nat}{F:FS}{G:List D->Option D}(Fu:WN K x qual st f fd)(S:Zy N ps (Zk st))(hn:ps.length=n)(hm:N.length=m)(hG:G=Z4 n m F)
  (h:∀(cdv:Value) (A:Around) (outer:List Env) (s:Shared) (H:Hp) (E:XK),X9 k (A.deeper (envOfC qual (Zk st) s.heap.objs.size f cdv))->Zw7 (Zih Zm1 P w K mg base N qual (Zk st) f cdv A outer s H E).nox (X5 st) F) :
  Vm P w K mg base Zm1 (k+1) f fd ps (spF K G):=by
 subst hn hm hG
 have hpl:ps.length<=N.length:=by have:=congrArg List.length S.pre;rw[JT]at this;omega
 refine Fu.ok S (fun vs H Q E hs=>?_) fun cdv A outer s H vs Q E hr hs=>?_
 ·obtain⟨O,ds,d,th,rs,e,_⟩:=hs
  rw[rs.length]
  unfold Z4 at e
  split at e
  ·rename_i hl;exact hl
  ·cases e
 ·obtain⟨O,ds,es,th,rs,e,q⟩:=hs
  unfold Z4 at e
  split at e
  ·rename_i hl
   refine⟨_,h cdv A outer s H E hr,?_⟩
   have hvl:vs.length=ps.length:=by rw[rs.length];exact hl
   have hno:∀(i:Nat) (d':D),(Yq ps.length N.length ds)[i]?≠some (some (.own d')):=by
    intro i d' z
    unfold Yq at z
    by_cases hi:i<ds.length
    ·rw[QL (by simpa using hi)]at z
     obtain⟨e',g1,g2⟩:=map_get z
     cases g2
    ·rw[QT (by simpa using hi),QV]at z
     split at z<;>cases z
   refine⟨H,O,[],Yq ps.length N.length ds,es,⟨?_,(Zg.refl _),th,fun a m=>(by cases m),fun a m=>(by cases m),fun i d' q'=>?_,fun i d' q'=>(hno _ _ q').elim,fun i j d1 d2 a q1=>(hno _ _ q1).elim⟩,?_,q⟩
   ·unfold Yq start;simp[hl,hvl]
   ·unfold Yq at q'
    by_cases hi:i<ds.length
    ·rw[QL (by simpa using hi)]at q'
     obtain⟨e',g1,g2⟩:=map_get q'
     cases g2
     obtain⟨v,g3,g4⟩:=rs.get g1
     refine⟨v,?_,by rw[Q1];exact g4⟩
     unfold start
     rw[QL (by rw[Qb,rs.length];exact hi),QC,g3];rfl
    ·rw[QT (by simpa using hi),QV]at q'
     split at q'<;>cases q'
   ·cases ef:F (Yq ps.length N.length ds) with
    |rt d'=>rw[ef]at e;cases e;rfl
    |nx ρ'=>rw[ef]at e;cases e
    |bk ρ'=>rw[ef]at e;cases e
    |ct ρ'=>rw[ef]at e;cases e
    |bad=>rw[ef]at e;cases e
  ·cases e
end L2

namespace P
open PySem L2 HT
local macro_rules | `(tactic| simp! only [$ts,*]) => `(tactic| simp only [Z4, Yq, ZV, ZJ, Zhq, XH, WK, ZB, Zrg, Z1, Wj, W2, Y7, Zhc, fV, fC, f1, f2, fN, Za, fL, Zx5, Zer, fOr, Ztj, gB, U2, Zfi, VQ, Xr, Zeq, Zh, fR, fFr, Zct, pN, pS, Ye, Yb, VD, XA, gN, gT, env0, Qe, QI, Qk, Q7, List.replicate, J3, QX, J5, Tc, Tf, J9, Ta, Td, J8, QN, Te, J4, Nat.reduceAdd, Nat.reduceSub, Nat.reduceEqDiff, if_true, if_false, reduceIte, Qo, Zh1, U0, Zl5, Z9, Zir, Ue, Znu, Zci, Zs1, Yy, Yz, few, Zoj, Zz5, decide_true, decide_false, JD, J7, decide_not, ne_eq, not_true_eq_false, not_false_eq_true, Int.reduceEq, JX, Tg, Int.reduceAdd, JX, $ts,*])
def cell(ns:List Int)(k:Int):Int:=if k<ns.length then(ns[k.toNat]?).getD 0 else if ns=[] then 0 else(ns[(k%ns.length).toNat]?).getD 0*31+k
theorem Zn1{ns:List Int}{i:Int}(h0:0<=i)(h:i<ns.length):(Zb2 ns i).map D.int=some (.int ((ns[i.toNat]?).getD 0)):=by
 have hl:i.toNat<ns.length:=by omega
 rw[U8 (x:=ns[i.toNat]) h0 (Qq hl),Qq hl]
 rfl
theorem Wi{i:Int}(h0:-(2^64)<i)(h:i<2^64):UC i=true:=@decide_eq_true _ (Classical.propDecidable _) ⟨h0,h⟩
theorem Zbs{i j:Int}(h:UC i=true):WQ (.int i) (.int j)=some (.int (i*j)):=by simp[WQ,h]
theorem Zse{i j:Int}(h:UC j=true):WQ (.int i) (.int j)=some (.int (i*j)):=by simp[WQ,h]
theorem Z0w(ns:List Int){k:Int}(hk:0<=k):YG [.scr ns,.int k]=some (.int (cell ns k)):=by
 unfold YG W0 cell
 simp! only[]
 by_cases h:k<ns.length
 ·simp! only[h]
  rw[Zn1 hk h]
  rfl
 ·simp! only[h,Q7,QZ,Ztp]
  by_cases e:ns=[]
  ·simp! only[e]
  ·have hp:0<ns.length:=JS.mpr e
   have h1:(0:Int)<(ns.length:Int):=by omega
   simp! only[e,h1]
   rw[Zn1 (Int.emod_nonneg _ (by omega)) (Int.emod_lt_of_pos _ h1)]
   simp! only[Zse (Wi (i:=31) (by decide) (by decide))]
def drawn(ns:List Int)(k:Int):Int:=(cell ns k+7919*k+1)*48271%2147483647
def Zaw(ns:List Int)(k m:Int):Int:=(drawn ns k*drawn ns k+7*drawn ns k+k)%2147483629%m
theorem Uf{ns:List Int}{k m:Int}(hm:0<m):0<=Zaw ns k m:=Int.emod_nonneg _ (by omega)
theorem UX{ns:List Int}{k m:Int}(hm:0<m):Zaw ns k m<m:=Int.emod_lt_of_pos _ hm
theorem Vf(ns:List Int){k m:Int}(hk:0<=k)(hm:0<m):Zo [.scr ns,.int k,.int m]=some (.int (Zaw ns k m)):=by
 have d0:0<=drawn ns k:=Int.emod_nonneg _ (by decide)
 have d1:drawn ns k<2147483647:=Int.emod_lt_of_pos _ (by decide)
 have p1:(0:Int)<2147483647:=by decide
 have p2:(0:Int)<2147483629:=by decide
 unfold Zo VW
 simp! only[Z0w ns hk,Zbs (Wi (i:=7919) (by decide) (by decide)),Zse (Wi (i:=48271) (by decide) (by decide)),p1]
 rw[show(cell ns k+7919*k+1)*48271%2147483647=drawn ns k from rfl]
 simp! only[Zbs (Wi (i:=drawn ns k) (by omega) (by omega)),Zbs (Wi (i:=7) (by decide) (by decide)),p2,hm]
 rfl
def UB(n:Nat)(f:Nat->Int):List Int:=(List.range n).map f
theorem Wg(n:Nat)(f:Nat->Int):(UB n f).length=n:=by simp[UB]
theorem Zai{n:Nat}{f:Nat->Int}{i:Nat}(h:i<n):(UB n f)[i]?=some (f i):=by simp[UB,h]
theorem Vq{n:Nat}{f g:Nat->Int}(h:∀i,i<n->f i=g i):UB n f=UB n g:=QQ fun i hi=>h i (QK.mp hi)
theorem Zm7{n:Nat}{f:Nat->Int}{i:Nat}{v:Int}:(UB n f).set i v=UB n (fun k=>if k=i then v else f k):=by
 apply JL
 intro k
 by_cases hk:k<n
 ·rw[Zai hk,List.getElem?_set]
  by_cases e:i=k
  ·subst e
   rw[if_pos rfl,Wg,if_pos hk,if_pos rfl]
  ·rw[if_neg e,Zai hk,if_neg (fun z=>e z.symm)]
 ·rw[QA (by rw[List.length_set,Wg];omega),QA (by rw[Wg];omega)]
theorem Zuw(n:Nat)(f:Nat->Int):(UB n f).sum=M.S n f:=M.S_range n f
theorem Zyp(l:List Int):l=UB l.length (fun i=>(l[i]?).getD 0):=by
 apply JL
 intro k
 by_cases hk:k<l.length
 ·rw[Zai hk,Qq hk];rfl
 ·rw[QA (by omega),QA (by rw[Wg];omega)]
def tD(n:Nat)(f:Nat->Int):D:=.tup ((UB n f).map .int)
def lD(n:Nat)(f:Nat->Int):D:=.lst ((UB n f).map .int)
theorem Zmt{n:Nat}{f:Nat->Int}{i:Int}(h0:0<=i)(h:i<n):Zb2 ((UB n f).map D.int) i=some (.int (f i.toNat)) :=
 U8 h0 (by rw[QC,Zai (by omega)];rfl)
theorem Zxx(n:Nat)(f:Nat->Int):D.lst ((List.range n).map (fun i=>D.int (f i)))=lD n f:=by
 unfold lD UB
 rw[QF]
 rfl
theorem Zbn{n:Nat}(h:n<=1000):(List.range n).length<=65536:=by rw[Qt];omega
abbrev Bd:=Int×Int×Int
structure Gr where
 n:Nat
 bs:List Bd
def bD(b:Bd):D:=.tup [.int b.1,.int b.2.1,.int b.2.2]
def gD(g:Gr):D:=.tup [.int g.n,.tup (g.bs.map bD)]
structure W1(g:Gr):Prop where
 n1:1<=g.n
 n5:g.n<=5
 rg:∀b∈g.bs,0<=b.1/\b.1<b.2.1/\b.2.1<g.n/\1<=b.2.2/\b.2.2<=4
 rise:g.bs.Pairwise (fun x y=>HT.lexLt [x.1,x.2.1] [y.1,y.2.1]=true)
 par:∀y:Nat,1<=y->y<g.n->∃b∈g.bs,b.2.1=y
 few:g.bs.length<=10
theorem Zpn(i:Int):Zgg "int" (.int i)=some (.bl true):=by simp[Zgg,Zx1,Zay]
theorem Zmd(i:Int):Zgg "bool" (.int i)=some (.bl false):=by simp[Zgg,Zx1,Zay]
theorem Zge(ds:List D):Zgg "tuple" (.tup ds)=some (.bl true):=by simp[Zgg,Zx1,Zay]
theorem Zpm(ds:List D):Zgg "list" (.lst ds)=some (.bl true):=by simp[Zgg,Zx1,Zay]
theorem Zck(i:Int):ZL [.int i]=some (.bl true):=by
 unfold ZL Uw
 simp! only[Zpn,Zmd]
theorem Zen(i lo hi:Int):Zn [.int i,.int lo,.int hi]=some (.bl (decide (lo<=i/\i<=hi))):=by
 unfold Zn XO
 simp! only[Zck]
 by_cases h:lo<=i
 ·simp! only[h,true_and]
 ·simp! only[h,false_and]
theorem Zwi(n:Nat)(f:Nat->Int):((UB n f).map D.int).length=n:=by rw[Qb,Wg]
theorem Zjx{X:List D->D}(hX:X=D.tup\/X=D.lst)(g:Gr)(f:Nat->Int)(hn:g.n<=5):Zv [gD g,X ((UB g.n f).map .int)]=some (.bl true):=by
 have hi:We (X ((UB g.n f).map .int))=some ((UB g.n f).map .int):=by rcases hX with h|h<;>subst h<;>rfl
 have hl:Yv [X ((UB g.n f).map .int)]=some (.int (g.n:Int)):=by rcases hX with h|h<;>subst h<;>simp only[Zh1,U0,Zwi]
 unfold Zv YS gD
 have e0:Zb2 [D.int (g.n:Int),.tup (g.bs.map bD)] 0=some (.int g.n):=rfl
 simp! only[hl,e0,XB]
 rw[Yw D.int (fun _=>.bl true) (UB g.n f) (by simp! only[hi]) (by rw[Wg];omega)]
 ·simp! only[]
  rw[show((UB g.n f).map fun _=>D.bl true)=((UB g.n f).map fun _=>true).map .bl by rw[QF];rfl,Ur]
  simp[List.all_map]
 ·intro x _
  refine⟨_,rfl,?_⟩
  simp! only[Zck]
theorem Zmh(g:Gr)(f:Nat->Int)(hn:g.n<=5):Zv [gD g,tD g.n f]=some (.bl true):=Zjx (.inl rfl) g f hn
theorem b_at0(b:Bd):Zb2 [D.int b.1,.int b.2.1,.int b.2.2] 0=some (.int b.1):=rfl
theorem b_at1(b:Bd):Zb2 [D.int b.1,.int b.2.1,.int b.2.2] 1=some (.int b.2.1):=rfl
theorem Zx9(b:Bd):Zb2 [D.int b.1,.int b.2.1,.int b.2.2] 2=some (.int b.2.2):=rfl
theorem Zkj{n:Nat}{b:Bd}(h:0<=b.1/\b.1<b.2.1/\b.2.1<n/\1<=b.2.2/\b.2.2<=4):Y3 [.int n,bD b]=some (.bl true):=by
 have h1:(0<=b.1/\b.1<=(n:Int)-1):=by omega
 have h2:(b.1+1<=b.2.1/\b.2.1<=(n:Int)-1):=by omega
 have h3:(1<=b.2.2/\b.2.2<=4):=by omega
 unfold Y3 Uz bD
 simp! only[Zge,Ud,b_at0,b_at1,Zx9,Zen,h1,h2,h3,and_self]
theorem Zks(ds:List D)(k:Nat):Zcu ds none (some (k:Int))=ds.take k:=by
 unfold Zcu
 rw[Zjk,Zne]
 simp
theorem Zku(ds:List D)(k:Nat):Zcu ds (some (k:Int)) none=ds.drop k:=by
 unfold Zcu
 rw[Zjk,Zne]
 by_cases h:k<=ds.length
 ·rw[JK h,List.take_of_length_le (by rw[List.length_drop];omega)]
 ·rw[Nat.min_eq_right (by omega),List.drop_eq_nil_of_le (by omega),List.drop_eq_nil_of_le (by omega)];simp
def US:List Bd->List (Bd×Bd)
 |a::b::r=>(a,b)::US (b::r)
 |_=>[]
theorem Zlb:∀bs:List Bd,Vp (bs.map bD) ((bs.map bD).drop 1)=(US bs).map fun p=>.tup [bD p.1,bD p.2]
 |[]=>rfl
 |[_]=>rfl
 |a::b::r=>by
  have:=Zlb (b::r)
  simp only[Qe,List.drop_succ_cons,List.drop_zero,Vp,US]at this ⊢
  rw[this]
theorem Zc8:∀bs:List Bd,(US bs).length<=bs.length
 |[]=>Qj _
 |[_]=>QZ _
 |a::b::r=>by
  have:=Zc8 (b::r)
  simp only[US,Qk]at this ⊢
  omega
theorem Zfr:∀{bs:List Bd},bs.Pairwise (fun x y=>HT.lexLt [x.1,x.2.1] [y.1,y.2.1]=true)->∀p∈US bs,HT.lexLt [p.1.1,p.1.2.1] [p.2.1,p.2.2.1]=true
 |[],_,p,hp=>by cases hp
 |[_],_,p,hp=>by cases hp
 |a::b::r,h,p,hp=>by
  simp only[US,Qm]at hp
  rcases hp with z|z
  ·subst z;exact(QS.mp h).1 b Qd
  ·exact Zfr (QS.mp h).2 p z
theorem Zi6(b:Bd):Zcu [D.int b.1,.int b.2.1,.int b.2.2] none (some 2)=[D.int b.1,.int b.2.1]:=Zks _ 2
theorem lt_bD(a b:Bd):XH (.tup [D.int a.1,.int a.2.1]) (.tup [D.int b.1,.int b.2.1])=some (.bl (HT.lexLt [a.1,a.2.1] [b.1,b.2.1])):=rfl
theorem Zpv{g:Gr}(h:W1 g):XV [.tup (g.bs.map bD)]=some (.bl true):=by
 unfold XV Zb8
 simp! only[]
 rw[Yw (fun p:Bd×Bd=>.tup [bD p.1,bD p.2]) (fun _=>.bl true) (US g.bs) (by simp! only[Zml,Zxc,We,Zku (g.bs.map bD) 1,show(some (1:Int))=some ((1:Nat):Int) from rfl,Zlb]) (by have:=Zc8 g.bs;have:=h.few;omega)]
 ·simp! only[]
  rw[show((US g.bs).map fun _=>D.bl true)=((US g.bs).map fun _=>true).map .bl by rw[QF];rfl,Ur]
  simp[List.all_map]
 ·intro p hp
  refine⟨_,rfl,?_⟩
  have hr:=Zfr h.rise p hp
  unfold bD
  simp! only[Jg,List.zip_nil_left,Zxc,Zi6,XI,lt_bD,hr]
def kN(l:List Nat):List Y5:=l.map fun(i:Nat)=>Sum.inl (i:Int)
def tN(l:List Nat):List D:=l.map fun _=>.bl true
def Ws(l:List Nat)(i:Nat):List Nat:=if i∈l then l else l++[i]
theorem Zh3{l:List Nat}{i:Nat}:(Sum.inl (i:Int):Y5)∈kN l↔i∈l:=by
 unfold kN
 constructor
 ·intro h
  obtain⟨j,hj,e⟩:=Qn.mp h
  have:(j:Int)=(i:Int):=Sum.inl.inj e
  rw[show i=j by omega];exact hj
 ·intro h;exact Qn.mpr ⟨i,h,rfl⟩
theorem Zj5:∀(l:List Nat) (i:Nat),(Zk8 (kN l) (tN l) (Sum.inl (i:Int):Y5)).isSome=decide (i∈l)
 |[],i=>by simp[kN,tN,Zk8]
 |j::l,i=>by
  have ih:=Zj5 l i
  unfold kN tN at ih ⊢
  simp only[Qe,Zk8]
  by_cases e:j=i
  ·subst e;simp
  ·have:¬((Sum.inl (j:Int):Y5)=Sum.inl (i:Int)):=fun z=>e (by have:=Sum.inl.inj z;omega)
   rw[if_neg this,ih]
   have:i≠j:=fun z=>e z.symm
   simp[this]
theorem Zjq(l:List Nat)(i:Nat):Zce (kN l) (Sum.inl (i:Int):Y5)=kN (Ws l i):=by
 unfold Zce Ws
 by_cases h:i∈l
 ·rw[if_pos (Zh3.mpr h),if_pos h]
 ·rw[if_neg (fun z=>h (Zh3.mp z)),if_neg h];simp[kN]
theorem Zqh:∀(l:List Nat) (x:Y5),((kN l).zip (tN l)).map (fun p=>if p.1=x then(.bl true:D) else p.2)=tN l
 |[],_=>rfl
 |j::l,x=>by
  have ih:=Zqh l x
  unfold kN tN at ih ⊢
  simp only[Qe,Jg,ih]
  split<;>rfl
theorem Zjt(l:List Nat)(i:Nat):Zcf (kN l) (tN l) (Sum.inl (i:Int):Y5) (.bl true)=tN (Ws l i):=by
 unfold Zcf Ws
 by_cases h:i∈l
 ·rw[if_pos (Zh3.mpr h),if_pos h,Zqh]
 ·rw[if_neg (fun z=>h (Zh3.mp z)),if_neg h];simp[tN]
theorem Xq{l:List Nat}{i j:Nat}:j∈Ws l i↔j∈l\/j=i:=by
 unfold Ws
 by_cases h:i∈l
 ·rw[if_pos h]
  constructor
  ·exact .inl
  ·rintro(z|z)
   ·exact z
   ·subst z;exact h
 ·rw[if_neg h];simp
theorem Zlu{l:List Nat}{i:Nat}(h:l.Nodup):(Ws l i).Nodup:=by
 unfold Ws
 by_cases e:i∈l
 ·rw[if_pos e];exact h
 ·rw[if_neg e,Jb]
  exact⟨h,by simp,fun a ha b hb=>by simp at hb;subst hb;exact fun z=>e (z▸ha)⟩
structure Zit(n:Nat)(l:List Nat):Prop where
 nd:l.Nodup
 lt:∀i∈l,i<n
theorem Zit.put{n:Nat}{l:List Nat}{i:Nat}(h:Zit n l)(hi:i<n):Zit n (Ws l i):=⟨Zlu h.nd,fun j hj=>by
 rcases Xq.mp hj with z|z
 ·exact h.lt j z
 ·omega⟩
theorem Zit.len{n:Nat}{l:List Nat}(h:Zit n l):l.length<=n:=M.length_le_of_nodup n l h.nd h.lt
def Wo(g:Gr)(l:List Nat)(x:List (Option Cl)):YT:=some (.val (.int g.n))::some (.val (.tup (g.bs.map bD)))::some (.own (.dcK (kN l) (tN l)))::x
theorem Zs0{g:Gr}{l:List Nat}{a b c:Option Cl}{i:Nat}(k:Nat)(hl:l.length<=5){x:List (Option Cl)}(hx:(Ye (Wo g l x))[k]?=some (some (.int (i:Int)))) :
  YX 2 (fV k) (fC (.bl true)) (Wo g l x)=.nx (Wo g (Ws l i) x):=by
 have e1:fV k (Ye (Wo g l x))=some (.int (i:Int)):=by unfold fV;rw[hx];rfl
 have e2:fC (.bl true) (Ye (Wo g l x))=some (.bl true):=rfl
 have e3:(Wo g l x)[2]?=some (some (.own (.dcK (kN l) (tN l)))):=rfl
 unfold YX
 rw[e1,e2,e3]
 dsimp only[Zfh]
 rw[if_pos ⟨rfl,by unfold kN Yu;rw[Qb];omega⟩,Zjq,Zjt]
 rfl
theorem jturn{g:Gr}{l:List Nat}{x3:Option Cl}{a b:Nat}{k:Int}(hl:l.length<=4\/l.length<=5)(hl5:(Ws l a).length<=5) :
  Wj (Zfi (gB (f2 X1 (fV 4) (fV 2))) (gB (f2 X1 (fV 5) (fV 2)))) (Zj (YX 2 (fV 4) (fC (.bl true))) (YX 2 (fV 5) (fC (.bl true)))) WK (Wo g l [x3,some (.val (.int a)),some (.val (.int b)),some (.val (.int k))]) =
   .nx (Wo g (if a∈l\/b∈l then Ws (Ws l a) b else l) [x3,some (.val (.int a)),some (.val (.int b)),some (.val (.int k))]):=by
 have e4:gB (f2 X1 (fV 4) (fV 2)) (Ye (Wo g l [x3,some (.val (.int a)),some (.val (.int b)),some (.val (.int k))]))=some (decide (a∈l)):=by
  unfold Wo
  simp! only[X1,Up,Zfh,Zj5]
 have e5:gB (f2 X1 (fV 5) (fV 2)) (Ye (Wo g l [x3,some (.val (.int a)),some (.val (.int b)),some (.val (.int k))]))=some (decide (b∈l)):=by
  unfold Wo
  simp! only[X1,Up,Zfh,Zj5]
 have put:Zj (YX 2 (fV 4) (fC (.bl true))) (YX 2 (fV 5) (fC (.bl true))) (Wo g l [x3,some (.val (.int a)),some (.val (.int b)),some (.val (.int k))])=.nx (Wo g (Ws (Ws l a) b) [x3,some (.val (.int a)),some (.val (.int b)),some (.val (.int k))]):=by
  rw[ZV,Zs0 (a:=none) (b:=none) (c:=none) (i:=a) 4 (by omega) rfl,ZJ,Zs0 (a:=none) (b:=none) (c:=none) (i:=b) 5 hl5 rfl]
 unfold Wj Zfi
 rw[e4,e5]
 by_cases ha:a∈l
 ·simp only[ha,decide_true,QN,if_true,true_or];exact put
 ·by_cases hb:b∈l
  ·simp only[ha,hb,decide_true,decide_false,QN,Qo,if_false,if_true,or_true];exact put
  ·simp only[ha,hb,decide_false,QN,Qo,if_false,or_self];rfl
theorem Zkh{g:Gr}(h:W1 g):Z6 [.int g.n,.tup (g.bs.map bD)]=some (.bl true):=by
 have n5:=h.n5
 have n1:=h.n1
 have inner:∀(r:Nat) (l:List Nat) (x3 x4 x5 x6:Option Cl),Zit g.n l->(∀i,i<=r->i<g.n->i∈l) ->
   ∃l' x4' x5' x6',YB (Zh (fV 1)) (gT [4,5,6]) (Wj (Zfi (gB (f2 X1 (fV 4) (fV 2))) (gB (f2 X1 (fV 5) (fV 2)))) (Zj (YX 2 (fV 4) (fC (.bl true))) (YX 2 (fV 5) (fC (.bl true)))) WK) (Wo g l [x3,x4,x5,x6])=.nx (Wo g l' [x3,x4',x5',x6']) /\
    Zit g.n l'/\∀i,i<=r+1->i<g.n->i∈l':=by
  intro r l x3 x4 x5 x6 hR hr
  have hf:Zh (fV 1) (Yb (Wo g l [x3,x4,x5,x6]))=some (g.bs.map bD):=rfl
  unfold YB
  rw[hf]
  dsimp only
  obtain⟨ρ',e,⟨l',y4,y5,y6,rfl,h1,h2,h3⟩⟩:=Um (t:=gT [4,5,6]) (F:=Wj (Zfi (gB (f2 X1 (fV 4) (fV 2))) (gB (f2 X1 (fV 5) (fV 2)))) (Zj (YX 2 (fV 4) (fC (.bl true))) (YX 2 (fV 5) (fC (.bl true)))) WK)
   (fun k ρ=>∃l' y4 y5 y6,ρ=Wo g l' [x3,y4,y5,y6]/\Zit g.n l'/\(∀i∈l,i∈l')/\∀(m:Nat) (b:Bd),m<k->g.bs[m]?=some b->b.1<=r->b.2.1.toNat∈l') (g.bs.map bD) 0 (Wo g l [x3,x4,x5,x6]) (fun i d ρ hd hP=>by
    obtain⟨l',y4,y5,y6,rfl,h1,h2,h3⟩:=hP
    rw[QC]at hd
    cases hb:g.bs[i]? with
    |none=>rw[hb]at hd;cases hd
    |some b =>
     rw[hb]at hd
     cases hd
     obtain⟨r0,r1,r2,_,_⟩:=h.rg b (Jh hb)
     have ea:b.1=((b.1.toNat:Nat):Int):=by omega
     have eb:b.2.1=((b.2.1.toNat:Nat):Int):=by omega
     have ra:=h1.put (i:=b.1.toNat) (by omega)
     refine⟨_,_,rfl,?_,⟨if b.1.toNat∈l'\/b.2.1.toNat∈l' then Ws (Ws l' b.1.toNat) b.2.1.toNat else l',some (.val (.int b.1.toNat)),some (.val (.int b.2.1.toNat)),some (.val (.int b.2.2)),rfl,?_,?_,?_⟩⟩
     ·have:=jturn (g:=g) (l:=l') (x3:=x3) (a:=b.1.toNat) (b:=b.2.1.toNat) (k:=b.2.2) (.inr (by have:=h1.len;omega)) (by have:=ra.len;omega)
      rw[<- this]
      show _=Wj _ _ _ _
      congr 1
      unfold Wo
      simp! only[Jg,List.zip_nil_left]
      rw[<- ea,<- eb]
     ·split
      ·exact ra.put (by omega)
      ·exact h1
     ·intro j hj
      split
      ·exact Xq.mpr (.inl (Xq.mpr (.inl (h2 j hj))))
      ·exact h2 j hj
     ·intro m c hm hc hcr
      by_cases em:m=i
      ·subst em
       rw[hb]at hc;cases hc
       have hal:b.1.toNat∈l':=h2 _ (hr _ (by omega) (by omega))
       rw[if_pos (.inl hal)]
       exact Xq.mpr (.inr rfl)
      ·have:=h3 m c (by omega) hc hcr
       split
       ·exact Xq.mpr (.inl (Xq.mpr (.inl this)))
       ·exact this) ⟨l,x4,x5,x6,rfl,hR,fun i hi=>hi,fun m b hm=>absurd hm (by omega)⟩
  refine⟨l',y4,y5,y6,e,h1,fun i hi hin=>?_⟩
  by_cases ei:i<=r
  ·exact h2 i (hr i ei hin)
  ·have:i=r+1:=by omega
   subst this
   obtain⟨b,hb,eb⟩:=h.par (r+1) (by omega) hin
   obtain⟨m,hm⟩:=List.mem_iff_getElem?.mp hb
   have:=h3 m b (by have:=(Qp.mp hm).1;simpa using this) hm (by have:=h.rg b hb;omega)
   rwa[eb]at this
 unfold Z6 Ux
 have es:Yq 2 7 [D.int g.n,.tup (g.bs.map bD)]=[some (.val (.int g.n)),some (.val (.tup (g.bs.map bD))),none,none,none,none,none]:=rfl
 unfold Z4
 rw[if_pos (show([D.int g.n,.tup (g.bs.map bD)]:List D).length=2 from rfl),es]
 have e1:Zjj 2 0 true [some (.val (.int g.n)),some (.val (.tup (g.bs.map bD))),none,none,none,none,none]=.nx (Wo g [0] [none,none,none,none]):=rfl
 rw[ZV,e1,ZJ,ZV]
 have hf:∀x,fR YW (Za (fV 0) fN) (Ye (Wo g [0] x))=some ((List.range g.n).map fun k=>D.int (k:Nat)):=fun x=>by
  unfold Wo
  simp! only[Xk (show g.n<=65536 by omega)]
 unfold Y1
 rw[hf]
 dsimp only
 obtain⟨ρ',e,⟨l',y3,y4,y5,y6,rfl,h1,h2⟩⟩:=Um (t:=gN 3) (F:=YB (Zh (fV 1)) (gT [4,5,6]) (Wj (Zfi (gB (f2 X1 (fV 4) (fV 2))) (gB (f2 X1 (fV 5) (fV 2)))) (Zj (YX 2 (fV 4) (fC (.bl true))) (YX 2 (fV 5) (fC (.bl true)))) WK))
  (fun k ρ=>∃l' y3 y4 y5 y6,ρ=Wo g l' [y3,y4,y5,y6]/\Zit g.n l'/\∀i,i<=k->i<g.n->i∈l') ((List.range g.n).map fun k=>D.int (k:Nat)) 0 (Wo g [0] [none,none,none,none]) (fun i d ρ hd hP=>by
   obtain⟨l',y3,y4,y5,y6,rfl,h1,h2⟩:=hP
   obtain⟨l2,z4,z5,z6,e2,h3,h4⟩:=inner (0+i) l' (some (.val d)) y4 y5 y6 h1 h2
   exact⟨_,_,rfl,e2,l2,_,z4,z5,z6,rfl,h3,h4⟩) ⟨[0],none,none,none,none,rfl,⟨by simp,fun i hi=>by simp at hi;omega⟩,fun i hi _=>by simp;omega⟩
 rw[e,ZJ]
 have hl:l'.length=g.n:=by
  have a:=h1.len
  have b:(List.range g.n).length<=l'.length:=by
   have key:∀(l m:List Nat),l.Nodup->(∀x∈l,x∈m)->l.length<=m.length:=by
    intro l
    induction l with
    |nil=>intro m _ _;simp
    |cons x l ih =>
     intro m nd h
     have hx:=h x Qd
     have:=ih (m.erase x) (QP.mp nd).2 fun y hy=>by
      have hne:y≠x:=fun z=>by subst z;exact(QP.mp nd).1 hy
      exact(List.mem_erase_of_ne hne).mpr (h y (Qc _ hy))
     have e:=List.length_erase_of_mem hx
     have p:=List.length_pos_of_mem hx
     simp
     omega
   refine key _ _ List.nodup_range fun x hx=>h2 x ?_ (QK.mp hx)
   have:=QK.mp hx
   simp;omega
  simp at b
  omega
 unfold Wo
 simp! only[Zf8,XB]
 unfold kN
 rw[Qb,hl]
 simp
theorem VR(g:Gr):Yl (gD g) (.int 0)=some (.int g.n):=rfl
theorem Z0x(g:Gr):Yl (gD g) (.int 1)=some (.tup (g.bs.map bD)):=rfl
theorem Zki{g:Gr}(h:W1 g):Xi [gD g]=some (.bl true):=by
 have n5:=h.n5
 have n1:=h.n1
 have w:(1<=(g.n:Int)/\(g.n:Int)<=5):=by omega
 have hc:ZK 1 [1] (Zh (fV 2)) (gN 0) Xn (fL Y3 (Za (fV 1) (Za (fV 0) fN))) [some (gD g),some (.int g.n),some (.tup (g.bs.map bD))]=some (.lst (g.bs.map fun _=>.bl true)):=by
  refine Yw bD (fun _=>.bl true) g.bs rfl (by have:=h.few;omega) fun b hb=>⟨_,rfl,?_⟩
  simp! only[Zkj (h.rg b hb)]
 have ha:Za7 [.lst (g.bs.map fun _=>D.bl true)]=some (.bl true):=by
  rw[show(g.bs.map fun _=>D.bl true)=(g.bs.map fun _=>true).map .bl by rw[QF];rfl,Ur]
  simp[List.all_map]
 have et:Zgg "tuple" (gD g)=some (.bl true):=rfl
 have el:Yv [gD g]=some (.int 2):=rfl
 unfold Xi Uy
 simp! only[et,el,Ud,VR,Z0x,Zen,w,and_self,Zge,hc,ha,Zpv h,Zkh h]
theorem Zgi{g:Gr}(h:W1 g):YN [gD g]=some (gD g):=by
 unfold YN Zb9
 simp! only[Zki h]
theorem Zgh{g:Gr}(h:W1 g)(f:Nat->Int):YM [gD g,tD g.n f]=some (.bl true):=by
 have et:Zgg "tuple" (tD g.n f)=some (.bl true):=rfl
 unfold YM Zb6
 simp! only[Zgi h,et,Zmh g f h.n5]
theorem Zeo{g:Gr}(h:W1 g)(f:Nat->Int):YF [gD g,tD g.n f]=some (tD g.n f):=by
 unfold YF WZ
 simp! only[Zgh h f]
def ln(bs:List Bd)(i j:Nat):Int:=(bs.map fun b=>if b.1=((min i j:Nat):Int)/\b.2.1=((max i j:Nat):Int) then b.2.2 else 0).sum
theorem Zj4{α:Type}(f:α->Int)(xs:List α):Zdf [.lst (xs.map fun x=>D.int (f x))]=some (.int (xs.map f).sum):=by
 rw[show(xs.map fun x=>D.int (f x))=(xs.map f).map .int by rw[QF];rfl,Zfz]
theorem Zd4(i j:Nat):UY [.int i,.int j]=some (.int (min i j:Nat)):=by
 unfold UY
 dsimp only
 by_cases h:(j:Int)<i
 ·rw[if_pos h,Nat.min_eq_right (by omega)]
 ·rw[if_neg h,JK (by omega)]
theorem Zd6(i j:Nat):UZ [.int i,.int j]=some (.int (max i j:Nat)):=by
 unfold UZ
 dsimp only
 by_cases h:(j:Int)>i
 ·rw[if_pos h,JW (by omega)]
 ·rw[if_neg h,Nat.max_eq_left (by omega)]
def fl(c:Nat->Int)(k:Nat)(b:Bd):Int:=(if b.1=(k:Int) then b.2.2*(c b.1.toNat-c b.2.1.toNat) else 0)-(if b.2.1=(k:Int) then b.2.2*(c b.1.toNat-c b.2.1.toNat) else 0)
theorem Zsu{n:Nat}{f g:Nat->Int}(h:∀i,i<n->f i=g i):lD n f=lD n g:=by unfold lD;rw[Vq h]
theorem Zq1{n:Nat}{f g:Nat->Int}(h:∀i,i<n->f i=g i):tD n f=tD n g:=by unfold tD;rw[Vq h]
theorem ix_lD{n:Nat}{f:Nat->Int}{i:Int}(h0:0<=i)(h:i<n):Yl (lD n f) (.int i)=some (.int (f i.toNat)):=Zmt h0 h
theorem ix_tD{n:Nat}{f:Nat->Int}{i:Int}(h0:0<=i)(h:i<n):Yl (tD n f) (.int i)=some (.int (f i.toNat)):=Zmt h0 h
theorem Zos{ρ:YT}{i:Nat}{fk fv:FE}{n:Nat}{f:Nat->Int}{k v:Int}(h:ρ[i]?=some (some (.own (lD n f))))(hv:fv (Ye ρ)=some (.int v))(hk:fk (Ye ρ)=some (.int k))(h0:0<=k)(h1:k<n) :
  Zbj i fk fv ρ=.nx (ρ.set i (some (.own (lD n fun j=>if j=k.toNat then v else f j)))):=by
 unfold Zbj
 rw[h]
 unfold lD
 dsimp only
 rw[hv,hk]
 dsimp only
 rw[if_pos (show Zmf (.int v)=true from rfl),show Zl9 ((UB n f).map D.int).length k=some k.toNat from Z0o h0 (by rw[Qb,Wg];exact h1)]
 dsimp only
 rw[<- List.map_set,Zm7]
theorem Zz9(bs:List Bd)(i j:Nat):ln bs i j=ln bs j i:=by unfold ln;rw[Nat.min_comm,Nat.max_comm]
def XM(i j:Nat)(b:Bd):Bool:=decide (b.1=((min i j:Nat):Int)/\b.2.1=((max i j:Nat):Int))
theorem Vb{bs:List Bd}{i j:Nat}(h:∀b∈bs,XM i j b=false):ln bs i j=0:=by
 unfold ln
 induction bs with
 |nil=>rfl
 |cons b bs ih =>
  have h0:=h b Qd
  unfold XM at h0
  rw[Qe,Jr,ih fun c hc=>h c (Qc _ hc),if_neg (of_decide_eq_false h0)];rfl
theorem Vc(b:Bd)(bs:List Bd)(i j:Nat):ln (b::bs) i j=(if XM i j b=true then b.2.2 else 0)+ln bs i j:=by
 unfold ln XM
 rw[Qe,Jr]
 simp only[decide_eq_true_eq]
theorem Zar{b c:Bd}(h:HT.lexLt [b.1,b.2.1] [c.1,c.2.1]=true){i j:Nat}(hb:XM i j b=true):XM i j c=false:=by
 unfold XM at *
 have hb:=of_decide_eq_true hb
 refine decide_eq_false fun hc=>?_
 rw[hb.1,hb.2,hc.1,hc.2,XS]at h
 cases h
theorem Zxu{bs:List Bd}(h:∀b∈bs,0<=b.2.2)(i j:Nat):0<=ln bs i j:=by
 induction bs with
 |nil=>exact JM _
 |cons b bs ih =>
  have h0:=h b Qd
  have:=ih fun c hc=>h c (Qc _ hc)
  rw[Vc]
  split<;>omega
theorem Zwh{n:Nat}{bs:List Bd}(h:∀b∈bs,0<=b.1/\b.1<b.2.1/\b.2.1<n/\1<=b.2.2/\b.2.2<=4)(i:Nat):ln bs i i=0:=Vb fun b hb=>decide_eq_false fun z=>by
 have:=h b hb
 rw[Nat.min_self,Nat.max_self]at z
 omega
theorem Zsn:∀{bs:List Bd},bs.Pairwise (fun x y=>HT.lexLt [x.1,x.2.1] [y.1,y.2.1]=true)->(∀b∈bs,b.2.2<=4)->∀i j,ln bs i j<=4
 |[],_,_,i,j=>by show(0:Int)<=4;decide
 |b::bs,hr,h,i,j=>by
  rw[Vc]
  cases e:XM i j b with
  |true =>
   rw[Vb fun c hc=>Zar ((QS.mp hr).1 c hc) e,if_pos rfl]
   have:=h b Qd;omega
  |false =>
   have:=Zsn (QS.mp hr).2 (fun c hc=>h c (Qc _ hc)) i j
   rw[if_neg (by decide)];omega
theorem Z0b{bs:List Bd}(h:∀b∈bs,0<=b.2.2){b:Bd}(hb:b∈bs){i j:Nat}(hh:XM i j b=true):b.2.2<=ln bs i j:=by
 induction bs with
 |nil=>cases hb
 |cons c bs ih =>
  rw[Vc]
  have n1:=Zxu (fun c hc=>h c (Qc _ hc)) i j
  have n2:=h c Qd
  rcases Qm.mp hb with z|z
  ·subst z;rw[if_pos hh];omega
  ·have:=ih (fun c hc=>h c (Qc _ hc)) z
   split<;>omega
theorem W1.gd{g:Gr}(h:W1 g):M.Gd g.n (ln g.bs) where
 net:=⟨fun i j _ _=>Zz9 g.bs i j,Zxu fun b hb=>by have:=h.rg b hb;omega,Zwh h.rg⟩
 le4:=Zsn h.rise fun b hb=>(h.rg b hb).2.2.2.2
 pos:=h.n1
 le5:=h.n5
 par:=fun y h1 hy=>by
  obtain⟨b,hb,eb⟩:=h.par y h1 hy
  obtain⟨r0,r1,r2,r3,r4⟩:=h.rg b hb
  refine⟨b.1.toNat,by omega,?_⟩
  have:=Z0b (i:=b.1.toNat) (j:=y) (fun b hb=>by have:=h.rg b hb;omega) hb (decide_eq_true (by rw[JK (by omega),JW (by omega)];omega))
  omega
theorem Zwv{g:Gr}(h:W1 g)(i j:Nat):Y4 [gD g,.int i,.int j]=some (.int (ln g.bs i j)):=by
 have key:∀(bs:List Bd) (x:Option Cl),bs.Pairwise (fun x y=>HT.lexLt [x.1,x.2.1] [y.1,y.2.1]=true) ->
   ∃x',Z8 (gN 3) (Wj (gB (f2 Xb (Zct (fV 3) pN (pS (fC (.int 2)))) (fL Yy (Za (fL UY (Za (fV 1) (Za (fV 2) fN))) (Za (fL UZ (Za (fV 1) (Za (fV 2) fN))) fN))))) (Z1 (f2 Yl (fV 3) (fC (.int 2)))) WK) (bs.map bD) [some (.val (gD g)),some (.val (.int i)),some (.val (.int j)),x] =
    if(bs.any (XM i j))=true then .rt (.int (ln bs i j)) else .nx [some (.val (gD g)),some (.val (.int i)),some (.val (.int j)),x']:=by
  intro bs
  induction bs with
  |nil=>intro x _;exact⟨x,rfl⟩
  |cons b bs ih =>
   intro x hr
   have et:Wj (gB (f2 Xb (Zct (fV 3) pN (pS (fC (.int 2)))) (fL Yy (Za (fL UY (Za (fV 1) (Za (fV 2) fN))) (Za (fL UZ (Za (fV 1) (Za (fV 2) fN))) fN))))) (Z1 (f2 Yl (fV 3) (fC (.int 2)))) WK [some (.val (gD g)),some (.val (.int i)),some (.val (.int j)),some (.val (bD b))] =
     if XM i j b=true then .rt (.int b.2.2) else .nx [some (.val (gD g)),some (.val (.int i)),some (.val (.int j)),some (.val (bD b))]:=by
    have e:=Zpy [b.1,b.2.1] [((min i j:Nat):Int),((max i j:Nat):Int)]
    simp only[Qe,QI]at e
    unfold bD XM
    simp! only[Zd4,Zd6,Zxc,Zi6,Yu,Nat.reduceLeDiff,e,Zx9,List.cons.injEq,and_true,decide_eq_true_eq]
    by_cases hh:b.1=((min i j:Nat):Int)/\b.2.1=((max i j:Nat):Int)
    ·simp only[hh,and_self,decide_true,if_true]
    ·simp only[hh,decide_false,if_false]
   obtain⟨x',e2⟩:=ih (some (.val (bD b))) (QS.mp hr).2
   refine⟨x',?_⟩
   rw[Qe]
   unfold Z8
   have eg:gN 3 (bD b)=some [(3,bD b)]:=rfl
   rw[eg]
   dsimp only[XA,Ta,J9]
   rw[et,JC,Vc]
   cases hh:XM i j b with
   |true =>
    rw[Vb fun c hc=>Zar ((QS.mp hr).1 c hc) hh]
    simp
   |false =>
    simp only[Qo,if_false,Bool.false_or,Int.zero_add]
    exact e2
 obtain⟨x',e⟩:=key g.bs none h.rise
 unfold Y4 VX Z4
 have es:Yq 3 4 [gD g,.int i,.int j]=[some (.val (gD g)),some (.val (.int i)),some (.val (.int j)),none]:=rfl
 rw[if_pos (show([gD g,.int i,.int j]:List D).length=3 from rfl),es,ZV]
 have hf:Zh (f2 Yl (fV 0) (fC (.int 1))) (Yb [some (.val (gD g)),some (.val (.int i)),some (.val (.int j)),none])=some (g.bs.map bD):=rfl
 unfold YB
 rw[hf]
 dsimp only
 rw[e]
 cases ha:g.bs.any (XM i j) with
 |true=>rfl
 |false =>
  rw[Vb fun b hb=>by
   have:=List.any_eq_false.mp ha b hb
   simpa using this]
  rfl
abbrev Jn:=(Nat×Nat)×Int
def jk(p:Nat×Nat):List Y5:=[Sum.inl (p.1:Int),Sum.inl (p.2:Int)]
def ki(p:Nat×Nat):List Int:=[(p.1:Int),(p.2:Int)]
def kJ(js:List Jn):List (List Y5):=js.map fun j=>jk j.1
def dJ(js:List Jn):List D:=js.map fun j=>.int j.2
def Ub(js:List Jn)(p:Nat×Nat)(v:Int):List Jn:=if p∈js.map (·.1) then js.map (fun j=>if j.1=p then(p,v) else j) else js++[(p,v)]
theorem Zl8{p q:Nat×Nat}:jk p=jk q↔p=q:=by
 constructor
 ·intro h
  unfold jk at h
  simp only[List.cons.injEq,Sum.inl.injEq,and_true]at h
  exact Prod.ext (by omega) (by omega)
 ·intro h;rw[h]
theorem Zh4{js:List Jn}{p:Nat×Nat}:jk p∈kJ js↔p∈js.map (·.1):=by
 unfold kJ
 simp only[Qn]
 constructor
 ·rintro⟨j,hj,e⟩;exact⟨j,hj,Zl8.mp e⟩
 ·rintro⟨j,hj,e⟩;exact⟨j,hj,by rw[e]⟩
theorem Zvf(js:List Jn)(p:Nat×Nat)(v:Int):Zce (kJ js) (jk p)=kJ (Ub js p v):=by
 unfold Zce Ub
 by_cases h:p∈js.map (·.1)
 ·rw[if_pos (Zh4.mpr h),if_pos h]
  unfold kJ
  rw[QF]
  refine QQ fun j _=>?_
  show jk j.1=jk (if j.1=p then(p,v) else j).1
  split
  ·rename_i e;rw[e]
  ·rfl
 ·rw[if_neg (fun z=>h (Zh4.mp z)),if_neg h];simp[kJ]
theorem Zw8:∀(js:List Jn) (p:Nat×Nat) (v:Int),((kJ js).zip (dJ js)).map (fun q=>if q.1=jk p then(.int v:D) else q.2)=dJ (js.map fun j=>if j.1=p then(p,v) else j)
 |[],_,_=>rfl
 |j::js,p,v=>by
  have ih:=Zw8 js p v
  unfold kJ dJ at ih ⊢
  simp only[Qe,Jg,ih]
  congr 1
  by_cases e:j.1=p
  ·rw[if_pos (by rw[e]),if_pos e]
  ·rw[if_neg (fun z=>e (Zl8.mp z)),if_neg e]
theorem Zvg(js:List Jn)(p:Nat×Nat)(v:Int):Zcf (kJ js) (dJ js) (jk p) (.int v)=dJ (Ub js p v):=by
 unfold Zcf Ub
 by_cases h:p∈js.map (·.1)
 ·rw[if_pos (Zh4.mpr h),if_pos h,Zw8]
 ·rw[if_neg (fun z=>h (Zh4.mp z)),if_neg h];simp[dJ]
def Zbe(js:List Jn)(p:Nat×Nat):Option Int:=(js.find? fun j=>decide (j.1=p)).map (·.2)
theorem Z0f:∀(js:List Jn) (p:Nat×Nat),Zk8 (kJ js) (dJ js) (jk p)=(Zbe js p).map .int
 |[],p=>rfl
 |j::js,p=>by
  have ih:=Z0f js p
  unfold kJ dJ at ih ⊢
  unfold Zbe at ih ⊢
  simp only[Qe,Zk8,Ju]
  by_cases e:j.1=p
  ·rw[if_pos (by rw[e])];simp[e]
  ·rw[if_neg (fun z=>e (Zl8.mp z)),ih];simp[e]
structure Zqg(n m:Nat)(js:List Jn):Prop where
 nd:(js.map (·.1)).Nodup
 rg:∀j∈js,j.1.1<j.1.2/\j.1.2<n/\1<=j.2/\j.2<=4
 par:∀y,1<=y->y<m->∃j∈js,j.1.2=y
theorem Zf5{js:List Jn}{p:Nat×Nat}{v:Int}:(Ub js p v).map (·.1)=if p∈js.map (·.1) then js.map (·.1) else js.map (·.1)++[p]:=by
 unfold Ub
 by_cases h:p∈js.map (·.1)
 ·rw[if_pos h,if_pos h,QF]
  refine QQ fun j _=>?_
  show(if j.1=p then(p,v) else j).1=j.1
  split
  ·rename_i e;exact e.symm
  ·rfl
 ·rw[if_neg h,if_neg h];simp
theorem Zjs{js:List Jn}{p:Nat×Nat}{v:Int}:(Ub js p v).length<=js.length+1:=by
 have:=congrArg List.length (Zf5 (js:=js) (p:=p) (v:=v))
 rw[Qb]at this
 rw[this]
 split<;>simp
theorem Zqg.put{n m m':Nat}{js:List Jn}(h:Zqg n m js){p:Nat×Nat}{v:Int}(h1:p.1<p.2)(h2:p.2<n)(h3:1<=v)(h4:v<=4)(hm:m'<=m\/(m'=m+1/\p.2=m)):Zqg n m' (Ub js p v):=by
 have keys:=Zf5 (js:=js) (p:=p) (v:=v)
 refine⟨?_,fun j hj=>?_,fun y y1 ym=>?_⟩
 ·rw[keys]
  split
  ·exact h.nd
  ·rename_i hn
   rw[Jb]
   exact⟨h.nd,by simp,fun a ha b hb=>by simp at hb;subst hb;exact fun z=>hn (z▸ha)⟩
 ·unfold Ub at hj
  split at hj
  ·obtain⟨i,hi,e⟩:=Qn.mp hj
   split at e
   ·subst e;exact⟨h1,h2,h3,h4⟩
   ·subst e;exact h.rg i hi
  ·rcases Qu.mp hj with z|z
   ·exact h.rg j z
   ·simp at z;subst z;exact⟨h1,h2,h3,h4⟩
 ·have mem:∀{q:Nat×Nat},q∈(Ub js p v).map (·.1)->∃j∈Ub js p v,j.1=q:=fun{q} hq=>by
   obtain⟨j,hj,e⟩:=Qn.mp hq;exact⟨j,hj,e⟩
  by_cases e:y<m
  ·obtain⟨j,hj,ej⟩:=h.par y y1 e
   have:j.1∈(Ub js p v).map (·.1):=by
    rw[keys]
    have hj':j.1∈js.map (·.1):=Qn.mpr ⟨j,hj,rfl⟩
    split
    ·exact hj'
    ·exact Qw _ hj'
   obtain⟨i,hi,ei⟩:=mem this
   exact⟨i,hi,by rw[ei];exact ej⟩
  ·have ey:y=p.2:=by omega
   have:p∈(Ub js p v).map (·.1):=by
    rw[keys]
    split
    ·rename_i z;exact z
    ·simp
   obtain⟨i,hi,ei⟩:=mem this
   exact⟨i,hi,by rw[ei];exact ey.symm⟩
theorem Zsp{n m:Nat}{js:List Jn}(h:Zqg n m js){p:Nat×Nat}{v:Int}(e:Zbe js p=some v):1<=v/\v<=4:=by
 unfold Zbe at e
 cases q:js.find? fun j=>decide (j.1=p) with
 |none=>rw[q]at e;cases e
 |some j =>
  rw[q]at e;cases e
  exact(h.rg j (List.mem_of_find?_eq_some q)).2.2
theorem Zj6{js:List Jn}{p:Nat×Nat}(h:p∈js.map (·.1)):∃v,Zbe js p=some v:=by
 obtain⟨j,hj,e⟩:=Qn.mp h
 unfold Zbe
 cases q:js.find? fun j=>decide (j.1=p) with
 |none =>
  have:=List.find?_eq_none.mp q j hj
  simp[e]at this
 |some i=>exact⟨i.2,rfl⟩
def Xs(ns:List Int)(a t:Int)(n:Nat)(js:List Jn)(x:List (Option Cl)):YT:=some (.val (.scr ns))::some (.val (.int a))::some (.val (.int t))::some (.val (.int n))::some (.own (.dcT (kJ js) (dJ js)))::x
theorem Zh2(p:Nat×Nat):Zwl (.tup [.int p.1,.int p.2])=some (jk p):=rfl
theorem gput{ns:List Int}{a t:Int}{n:Nat}{js:List Jn}{x:List (Option Cl)}{fk fv:FE}{p:Nat×Nat}{v:Int}(hk:fk (Ye (Xs ns a t n js x))=some (.tup [.int p.1,.int p.2]))(hv:fv (Ye (Xs ns a t n js x))=some (.int v))(hl:js.length<60000) :
  YX 4 fk fv (Xs ns a t n js x)=.nx (Xs ns a t n (Ub js p v) x):=by
 have e3:(Xs ns a t n js x)[4]?=some (some (.own (.dcT (kJ js) (dJ js)))):=rfl
 unfold YX
 rw[hk,hv,e3]
 dsimp only
 rw[Zh2]
 dsimp only
 rw[if_pos ⟨rfl,by unfold kJ Yu;rw[Qb];omega⟩,Zvf js p v,Zvg]
 rfl
theorem Zti{i j:Int}(h0:0<j)(h:j<1073741824):Zgm (.int i) (.int j)=some (.int (i/j)):=@if_pos _ (Classical.propDecidable _) ⟨h0,h⟩ _ _ _
theorem Zw6{a b:List D}(h:a≠[])(hl:a.length+b.length<=65536):ZR (.tup a) (.tup b)=some (.tup (a++b)):=by
 unfold ZR
 dsimp only
 rw[if_pos ⟨by cases a with|nil=>exact absurd rfl h|cons _ _=>rfl,hl⟩]
theorem Zal{ks:List (List Int)}(hl:ks.length<64)(nd:ks.Nodup)(hne:∀k∈ks,k≠[]):Y0 [.lst (ks.map kT)]=some (.lst ((W4 ks).map kT)):=by
 cases ks with
 |nil=>simp[Y0,XI,Znv,W4]
 |cons k ks =>
  have hi:XI ((k::ks).map kT)=none:=rfl
  unfold Y0
  dsimp only
  rw[hi]
  dsimp only
  rw[VA]
  dsimp only
  rw[if_pos ⟨hl,nd,hne⟩]
theorem WH{ks:List (List Int)}{k:List Int}:k∈W4 ks↔k∈ks:=(JA ks _).mem_iff
theorem Zfv{ks:List (List Int)}:(W4 ks).length=ks.length:=(JA ks _).length_eq
theorem Zll{ks:List (List Int)}(nd:ks.Nodup):(W4 ks).Pairwise (fun a b=>HT.lexLt a b=true):=by
 have h1:=List.pairwise_mergeSort Zcg Zch ks
 have h2:(W4 ks).Nodup:=(JA ks _).nodup_iff.mpr nd
 have h3:=h1.and (List.nodup_iff_pairwise_ne.mp h2)
 refine h3.imp fun{a b} ⟨l,ne⟩=>?_
 rcases XR a b ne with z|z
 ·exact z
 ·unfold VZ at l;rw[z]at l;cases l
def Zb0(js:List Jn):List Bd:=(W4 (js.map fun j=>ki j.1)).map fun k=>(k.getD 0 0,k.getD 1 0,(Zbe js ((k.getD 0 0).toNat,(k.getD 1 0).toNat)).getD 0)
theorem Z0h{p q:Nat×Nat}(h:ki p=ki q):p=q:=by
 unfold ki at h
 simp only[List.cons.injEq,and_true]at h
 exact Prod.ext (by omega) (by omega)
theorem Zj9{js:List Jn}(h:(js.map (·.1)).Nodup):(js.map fun j=>ki j.1).Nodup:=by
 rw[show(js.map fun j=>ki j.1)=(js.map (·.1)).map ki by rw[QF];rfl]
 rw[List.nodup_iff_pairwise_ne]at h ⊢
 rw[Q0]
 exact h.imp fun ne z=>ne (Z0h z)
theorem Zwm{n:Nat}{js:List Jn}(h:Zqg n n js)(h1:1<=n)(h5:n<=5)(hl:js.length<=10):W1 ⟨n,Zb0 js⟩:=by
 have key:∀b∈Zb0 js,∃j∈js,b.1=(j.1.1:Int)/\b.2.1=(j.1.2:Int)/\1<=b.2.2/\b.2.2<=4:=fun b hb=>by
  unfold Zb0 at hb
  obtain⟨k,hk,e⟩:=Qn.mp hb
  obtain⟨j,hj,ek⟩:=Qn.mp (WH.mp hk)
  subst e;subst ek
  obtain⟨v,hv⟩:=Zj6 (js:=js) (p:=j.1) (Qn.mpr ⟨j,hj,rfl⟩)
  have rv:=Zsp h hv
  refine⟨j,hj,rfl,rfl,?_⟩
  show 1<=(Zbe js (((j.1.1:Int)).toNat,((j.1.2:Int)).toNat)).getD 0/\(Zbe js (((j.1.1:Int)).toNat,((j.1.2:Int)).toNat)).getD 0<=4
  rw[Qz,Qz,show((j.1.1,j.1.2):Nat×Nat)=j.1 from rfl,hv]
  exact rv
 refine⟨h1,h5,fun b hb=>?_,?_,fun y y1 yn=>?_,by show(Zb0 js).length<=10;unfold Zb0;rw[Qb,Zfv,Qb];exact hl⟩
 ·obtain⟨j,hj,e1,e2,e3,e4⟩:=key b hb
  have:=h.rg j hj
  show 0<=b.1/\b.1<b.2.1/\b.2.1<(n:Int)/\_
  omega
 ·show(Zb0 js).Pairwise _
  unfold Zb0
  rw[Q0]
  have hr:=Zll (Zj9 h.nd)
  refine List.Pairwise.imp_of_mem (fun{a b} ha hb hab=>?_) hr
  obtain⟨i,_,rfl⟩:=Qn.mp (WH.mp ha)
  obtain⟨j,_,rfl⟩:=Qn.mp (WH.mp hb)
  exact hab
 ·obtain⟨j,hj,e⟩:=h.par y y1 yn
  refine⟨_,Qn.mpr ⟨ki j.1,WH.mpr (Qn.mpr ⟨j,hj,rfl⟩),rfl⟩,?_⟩
  show((j.1.2:Nat):Int)=y
  omega
theorem ne_tD{n:Nat}{f g:Nat->Int}(h:∀i,i<n->f i=g i):Wc (tD n f) (tD n g)=some (.bl false):=by
 rw[Zq1 h];unfold tD;rw[Zo5];simp
def V6(n:Nat)(f:Nat->Nat->Int):List (List Int):=(List.range n).map fun i=>UB n (f i)
def YL(n:Nat)(f:Nat->Nat->Int):D:=mD (V6 n f)
theorem Vr{n:Nat}{f:Nat->Nat->Int}{i:Nat}(h:i<n):(V6 n f)[i]?=some (UB n (f i)):=by simp[V6,h]
theorem V5(n:Nat)(f:Nat->Nat->Int):(V6 n f).length=n:=by simp[V6]
theorem Zlo{n:Nat}{f g:Nat->Nat->Int}(h:∀i j,i<n->j<n->f i j=g i j):V6 n f=V6 n g:=QQ fun i hi=>Vq fun j hj=>h i j (QK.mp hi) hj
theorem Zjg{n:Nat}{f:Nat->Nat->Int}{a b:Nat}{x:Int}(ha:a<n):Zan (V6 n f) a b x=V6 n (fun i j=>if i=a/\j=b then x else f i j):=by
 unfold Zan
 rw[Vr ha]
 dsimp only
 rw[Zm7]
 apply JL
 intro k
 by_cases hk:k<n
 ·rw[Vr hk,List.getElem?_set]
  by_cases e:a=k
  ·subst e
   rw[if_pos rfl,V5,if_pos hk]
   congr 1
   refine Vq fun j _=>?_
   by_cases ej:j=b<;>simp[ej]
  ·rw[if_neg e,Vr hk]
   congr 1
   refine Vq fun j _=>?_
   rw[if_neg fun z=>e z.1.symm]
 ·rw[QA (by rw[List.length_set,V5];omega),QA (by rw[V5];omega)]
theorem Znw{n:Nat}{f:Nat->Nat->Int}{a b:Int}(ha:0<=a)(ha':a<n)(hb:0<=b)(hb':b<n):Zqf (V6 n f) a b=true:=by
 unfold Zqf
 rw[Vr (show a.toNat<n by omega)]
 dsimp only
 rw[Wg]
 simp only[QO,decide_eq_true_eq]
 omega
theorem Ui{i j:Nat}{b:Bd}(h:0<=b.1/\b.1<b.2.1):XM i j b=true↔(i=b.1.toNat/\j=b.2.1.toNat)\/(i=b.2.1.toNat/\j=b.1.toNat):=by
 unfold XM
 rw[decide_eq_true_eq]
 rcases Nat.le_total i j with z|z
 ·rw[JK z,JW z];omega
 ·rw[Nat.min_eq_right z,Nat.max_eq_left z];omega
theorem Z0c(bs cs:List Bd)(i j:Nat):ln (bs++cs) i j=ln bs i j+ln cs i j:=by unfold ln;rw[QM,List.sum_append]
theorem Zkn{n:Nat}:∀(bs done:List Bd),(∀b∈done++bs,0<=b.1/\b.1<b.2.1/\b.2.1<n/\1<=b.2.2/\b.2.2<=4)->(done++bs).Pairwise (fun x y=>HT.lexLt [x.1,x.2.1] [y.1,y.2.1]=true) ->
  UR (bs.map bD) (V6 n (ln done))=some (V6 n (ln (done++bs)))
 |[],done,_,_=>by rw[Q1];rfl
 |b::bs,done,h,hr=>by
  obtain⟨h0,h1,h2,h3,h4⟩:=h b (by simp)
  have e:done++b::bs=(done++[b])++bs:=by simp
  have ih:=Zkn bs (done++[b]) (by rw[<- e];exact h) (by rw[<- e];exact hr)
  rw[e,<- ih,Qe]
  show(if Zqf (V6 n (ln done)) b.1 b.2.1=true then(if Zqf (Zan (V6 n (ln done)) b.1.toNat b.2.1.toNat b.2.2) b.2.1 b.1=true then UR (bs.map bD) (Zan (Zan (V6 n (ln done)) b.1.toNat b.2.1.toNat b.2.2) b.2.1.toNat b.1.toNat b.2.2) else none) else none)=UR (bs.map bD) (V6 n (ln (done++[b])))
  rw[if_pos (Znw h0 (by omega) (by omega) h2),Zjg (by omega),if_pos (Znw (by omega) h2 h0 (by omega)),Zjg (by omega)]
  congr 1
  refine Zlo fun i j _ _=>?_
  rw[Z0c]
  have hb1:ln [b] i j=if XM i j b=true then b.2.2 else 0:=by rw[Vc];show _+0=_;omega
  rw[hb1]
  have z:XM i j b=true->ln done i j=0:=fun hh=>Vb fun c hc=>by
   have hp:=List.pairwise_append.mp hr
   have:=hp.2.2 c hc b Qd
   cases q:XM i j c with
   |false=>rfl
   |true=>have:=Zar this q;rw[hh]at this;cases this
  by_cases e1:i=b.2.1.toNat/\j=b.1.toNat
  ·rw[if_pos e1]
   have hh:=(Ui ⟨h0,h1⟩).mpr (.inr e1)
   rw[z hh,if_pos hh];omega
  ·rw[if_neg e1]
   by_cases e2:i=b.1.toNat/\j=b.2.1.toNat
   ·rw[if_pos e2]
    have hh:=(Ui ⟨h0,h1⟩).mpr (.inl e2)
    rw[z hh,if_pos hh];omega
   ·rw[if_neg e2,if_neg fun hh=>by
     rcases(Ui ⟨h0,h1⟩).mp hh with w|w
     ·exact e2 w
     ·exact e1 w]
    omega
theorem Zvc(n:Nat):List.replicate n (VC n)=V6 n (ln []):=by
 apply JL
 intro k
 by_cases hk:k<n
 ·rw[Vr hk,QV,if_pos hk]
  congr 1
  unfold VC
  apply JL
  intro j
  by_cases hj:j<n
  ·rw[Zai hj,QV,if_pos hj];rfl
  ·rw[QA (by simp;omega),QA (by rw[Wg];omega)]
 ·rw[QA (by simp;omega),QA (by rw[V5];omega)]
theorem Zc5{g:Gr}(h:W1 g):Zq [gD g]=some (YL g.n (ln g.bs)):=by
 have n5:=h.n5
 unfold Zq VU Z4
 rw[if_pos (show([gD g]:List D).length=1 from rfl)]
 have es:Yq 1 5 [gD g]=[some (.val (gD g)),none,none,none,none]:=rfl
 rw[es]
 have e0:(f2 Yl (fV 0) (fC (.int 0))) (Yb [some (.val (gD g)),none,none,none,none])=some (.int g.n):=rfl
 have e1:(Zh (f2 Yl (fV 0) (fC (.int 1)))) (Yb [some (.val (gD g)),none,none,none,none])=some (g.bs.map bD):=rfl
 unfold Znd
 rw[if_pos ⟨rfl,rfl⟩]
 unfold Zls
 rw[e0,e1]
 dsimp only
 rw[if_pos (by omega),Qz,Zvc,Zkn g.bs [] h.rg h.rise]
 rfl
def nL(bs:List Nat):D:=.lst (bs.map fun i=>D.int ((i:Nat):Int))
theorem Zhw{n:Nat}{f:Nat->Nat->Int}{i:Nat}(h:i<n):Yl (YL n f) (.int (i:Int))=some (lD n (f i)):=by
 unfold YL mD
 rw[Zci]
 exact U8 (by omega) (by rw[QC,Qz,Vr h];rfl)
theorem WR(n:Nat)(f:Nat->Nat->Int):Yv [YL n f]=some (.int n):=by
 unfold YL mD
 rw[U0,Qb,V5]
theorem Zxy{n:Nat}{f:Nat->Int}{i:Nat}(h:i<n):Yl (lD n f) (.int (i:Int))=some (.int (f i)):=by rw[ix_lD (by omega) (by omega)];rfl
theorem Zde{n:Nat}{f:Nat->Int}{i:Nat}(h:i<n):Yl (tD n f) (.int (i:Int))=some (.int (f i)):=by rw[ix_tD (by omega) (by omega)];rfl
theorem Zn2{n:Nat}{f:Nat->Nat->Int}(hn:n<=1000)(q:Nat):Zx [YL n f,.int (q:Int)]=some (nL (M.others n q)):=by
 unfold Zx Wz
 simp! only[]
 rw[Xt (fun(i:Nat)=>D.int ((i:Nat):Int)) (fun i=>decide (i≠q)) (fun i=>D.int ((i:Nat):Int)) (List.range n) (by simp! only[WR,Xk (show n<=65536 by omega)]) (Zbn hn)]
 ·rfl
 ·intro x _
  refine⟨_,rfl,?_,fun _=>rfl⟩
  simp! only[Ud]
  by_cases e:x=q
  ·simp[e]
  ·have:(x:Int)≠(q:Int):=by omega
   simp[e,this]
theorem VP{n:Nat}{f:Nat->Nat->Int}{y:Nat}(hy:y<n){bs:List Nat}(hb:∀b∈bs,b<n)(hl:bs.length<=1000):ZC [YL n f,.int (y:Int),nL bs]=some (.int (M.sumL f y bs)):=by
 unfold ZC U9
 simp! only[]
 rw[Yw (fun(i:Nat)=>D.int ((i:Nat):Int)) (fun i=>D.int (f y i)) bs rfl (by omega)]
 ·simp! only[]
  rw[Zj4]
  rfl
 ·intro x hx
  refine⟨_,rfl,?_⟩
  simp! only[Zhw hy,Zxy (hb x hx)]
theorem Zej(x:Nat):∀bs:List Nat,Zs7 (.int (x:Int)) ((bs.map fun i=>D.int ((i:Nat):Int)).map Zg6)=decide (x∈bs)
 |[]=>rfl
 |b::bs=>by
  have ih:=Zej x bs
  unfold Zs7 at ih ⊢
  have h1:Zuk (Zg6 (D.int ((b:Nat):Int))) (.int (x:Int))=decide (x=b):=by
   show((b:Int) == (x:Int))=decide (x=b)
   by_cases e:x=b
   ·subst e;simp
   ·have:¬((b:Int)=(x:Int)):=by omega
    simp[e,this]
  rw[Qe,Qe,JC,ih,h1]
  simp
theorem Zbx:∀bs:List Nat,(bs.map fun i=>D.int ((i:Nat):Int)).all X4=true
 |[]=>rfl
 |b::bs=>by simp only[Qe,JN,X4,Zbx bs,JO]
theorem UW(x:Nat)(bs:List Nat):Xv (.int (x:Int)) (nL bs)=some (.bl (!decide (x∈bs))):=by
 unfold Xv nL
 dsimp only
 rw[Zbx]
 simp only[X4,JO,if_true,Zg6,Zej]
theorem Zwr(x:Nat)(bs:List Nat):X1 (.int (x:Int)) (nL bs)=some (.bl (decide (x∈bs))):=by
 unfold X1 nL
 dsimp only
 rw[Zbx]
 simp only[X4,JO,if_true,Zg6,Zej]
def Wh(n:Nat)(L:Nat->Nat->Int)(ld:D)(q:Nat)(bs:List Nat)(x:List (Option Cl)):YT:=some (.val (YL n L))::some (.val ld)::some (.val (.int (q:Int)))::some (.own (nL bs))::x
theorem Zn3{n:Nat}{L:Nat->Nat->Int}{d:Nat->Int}{q:Nat}(hn:n<=5)(hq:q<n){ld:D}(hld:∀i,i<n->Yl ld (.int ((i:Nat):Int))=some (.int (d i))):ZU [YL n L,ld,.int (q:Int)]=some (nL (M.burnt n L d q)):=by
 have step:∀(y:Nat) (bs:List Nat) (x4:Option Cl),y<n->M.BI n L d q bs ->
   Wj (U2 (gB (f2 Xv (fV 5) (fV 3))) (gB (f2 XH (f2 Yl (fV 1) (fV 5)) (fL ZC (Za (fV 0) (Za (fV 5) (Za (fV 3) fN))))))) (WE 3 (fV 5)) WK (Wh n L ld q bs [x4,some (.val (.int (y:Int)))]) =
    .nx (Wh n L ld q (M.bstep L d bs y) [x4,some (.val (.int (y:Int)))]):=by
  intro y bs x4 hy hb
  have hl:=hb.len
  have e1:gB (f2 Xv (fV 5) (fV 3)) (Ye (Wh n L ld q bs [x4,some (.val (.int (y:Int)))]))=some (!decide (y∈bs)):=by
   unfold Wh
   simp! only[UW]
  have e2:gB (f2 XH (f2 Yl (fV 1) (fV 5)) (fL ZC (Za (fV 0) (Za (fV 5) (Za (fV 3) fN))))) (Ye (Wh n L ld q bs [x4,some (.val (.int (y:Int)))]))=some (decide (d y<M.sumL L y bs)):=by
   unfold Wh
   simp! only[hld y hy,VP hy hb.lt (show bs.length<=1000 by omega)]
  have e3:WE 3 (fV 5) (Wh n L ld q bs [x4,some (.val (.int (y:Int)))])=.nx (Wh n L ld q (bs++[y]) [x4,some (.val (.int (y:Int)))]):=by
   unfold WE
   have a1:(Wh n L ld q bs [x4,some (.val (.int (y:Int)))])[3]?=some (some (.own (.lst (bs.map fun i=>D.int ((i:Nat):Int))))):=rfl
   have a2:fV 5 (Ye (Wh n L ld q bs [x4,some (.val (.int (y:Int)))]))=some (.int (y:Int)):=rfl
   rw[a1,a2]
   dsimp only
   rw[if_pos ⟨rfl,by rw[Qb];show bs.length<65536;omega⟩]
   unfold Wh nL
   rw[QM]
   rfl
  unfold Wj U2
  rw[e1,e2]
  unfold M.bstep
  by_cases m:y∈bs
  ·rw[if_neg (fun w=>w.1 m)]
   simp only[m,decide_true,JD,QN,Qo,if_false]
   rfl
  ·by_cases l:d y<M.sumL L y bs
   ·rw[if_pos ⟨m,l⟩]
    simp only[m,l,decide_true,decide_false,J7,QN,if_true]
    exact e3
   ·rw[if_neg (fun w=>l w.2)]
    simp only[m,l,decide_false,J7,QN,if_true]
    rfl
 have round:∀(bs:List Nat) (x4 x5:Option Cl),M.BI n L d q bs->∃x5',YB (Zh (fL Zx (Za (fV 0) (Za (fV 2) fN)))) (gN 5) (Wj (U2 (gB (f2 Xv (fV 5) (fV 3))) (gB (f2 XH (f2 Yl (fV 1) (fV 5)) (fL ZC (Za (fV 0) (Za (fV 5) (Za (fV 3) fN))))))) (WE 3 (fV 5)) WK) (Wh n L ld q bs [x4,x5]) =
   .nx (Wh n L ld q (M.bround L d (M.others n q) bs) [x4,x5']):=by
  intro bs x4 x5 hb
  have hf:Zh (fL Zx (Za (fV 0) (Za (fV 2) fN))) (Yb (Wh n L ld q bs [x4,x5]))=some ((M.others n q).map fun i=>D.int ((i:Nat):Int)):=by
   unfold Wh
   simp! only[Zn2 (show n<=1000 by omega)]
   rfl
  unfold YB
  rw[hf]
  dsimp only
  have go:∀(ys bs:List Nat) (x5:Option Cl),(∀y∈ys,y<n)->M.BI n L d q bs->∃x5',Z8 (gN 5) (Wj (U2 (gB (f2 Xv (fV 5) (fV 3))) (gB (f2 XH (f2 Yl (fV 1) (fV 5)) (fL ZC (Za (fV 0) (Za (fV 5) (Za (fV 3) fN))))))) (WE 3 (fV 5)) WK) (ys.map fun i=>D.int ((i:Nat):Int)) (Wh n L ld q bs [x4,x5]) =
    .nx (Wh n L ld q (M.bround L d ys bs) [x4,x5']):=by
   intro ys
   induction ys with
   |nil=>intro bs x5 _ _;exact⟨x5,rfl⟩
   |cons y ys ih =>
    intro bs x5 hy hb
    have hyn:=hy y Qd
    obtain⟨x5',e⟩:=ih (M.bstep L d bs y) (some (.val (.int (y:Int)))) (fun z hz=>hy z (Qc _ hz)) (hb.step hyn)
    refine⟨x5',?_⟩
    rw[Qe]
    unfold Z8
    have eg:gN 5 (D.int ((y:Nat):Int))=some [(5,D.int ((y:Nat):Int))]:=rfl
    rw[eg]
    dsimp only
    have es:XA (Wh n L ld q bs [x4,x5]) [(5,D.int ((y:Nat):Int))]=Wh n L ld q bs [x4,some (.val (.int (y:Int)))]:=rfl
    rw[es,step y bs x4 hyn hb]
    exact e
  exact go _ bs x5 (fun y hy=>(M.mem_others.mp hy).1) hb
 unfold ZU Vn Z4
 rw[if_pos (show([YL n L,ld,.int (q:Int)]:List D).length=3 from rfl)]
 have es:Yq 3 6 [YL n L,ld,.int (q:Int)]=[some (.val (YL n L)),some (.val ld),some (.val (.int (q:Int))),none,none,none]:=rfl
 rw[es,ZV]
 have e1:Y7 3 (fR few (Za (fV 2) fN)) [some (.val (YL n L)),some (.val ld),some (.val (.int (q:Int))),none,none,none]=.nx (Wh n L ld q [q] [none,none]):=rfl
 rw[e1,ZJ,ZV]
 have hf:fR YW (Za (fL Yv (Za (fV 0) fN)) fN) (Ye (Wh n L ld q [q] [none,none]))=some ((List.range n).map fun k=>D.int (k:Nat)):=by
  unfold Wh
  simp! only[WR,Xk (show n<=65536 by omega)]
 unfold Y1
 rw[hf]
 dsimp only
 have go:∀(ks:List Nat) (bs:List Nat) (x4 x5:Option Cl),M.BI n L d q bs->∃x4' x5',Z8 (gN 4) (YB (Zh (fL Zx (Za (fV 0) (Za (fV 2) fN)))) (gN 5) (Wj (U2 (gB (f2 Xv (fV 5) (fV 3))) (gB (f2 XH (f2 Yl (fV 1) (fV 5)) (fL ZC (Za (fV 0) (Za (fV 5) (Za (fV 3) fN))))))) (WE 3 (fV 5)) WK)) (ks.map fun i=>D.int ((i:Nat):Int)) (Wh n L ld q bs [x4,x5]) =
   .nx (Wh n L ld q (M.brounds L d (M.others n q) ks.length bs) [x4',x5']):=by
  intro ks
  induction ks with
  |nil=>intro bs x4 x5 _;exact⟨x4,x5,rfl⟩
  |cons k ks ih =>
   intro bs x4 x5 hb
   obtain⟨x5',e⟩:=round bs (some (.val (.int (k:Int)))) x5 hb
   obtain⟨y4,y5,e2⟩:=ih (M.bround L d (M.others n q) bs) (some (.val (.int (k:Int)))) x5' (hb.round fun y hy=>(M.mem_others.mp hy).1)
   refine⟨y4,y5,?_⟩
   rw[Qe]
   unfold Z8
   have eg:gN 4 (D.int ((k:Nat):Int))=some [(4,D.int ((k:Nat):Int))]:=rfl
   rw[eg]
   dsimp only
   have es:XA (Wh n L ld q bs [x4,x5]) [(4,D.int ((k:Nat):Int))]=Wh n L ld q bs [some (.val (.int (k:Int))),x5]:=rfl
   rw[es,e]
   exact e2
 obtain⟨y4,y5,e⟩:=go (List.range n) [q] none none (M.BI.start hq)
 rw[e,ZJ]
 rw[Qt]
 rfl
theorem Ziq{a b:List D}(hl:a.length+b.length<=65536):ZR (.lst a) (.lst b)=some (.lst (a++b)):=by
 unfold ZR
 dsimp only
 rw[if_pos (show a.length+b.length<=Yu from hl)]
def rD(r:List Int):D:=.lst (r.map .int)
theorem Zkp(i j:Nat):Xb (.int (i:Int)) (.int (j:Int))=some (.bl (decide (i=j))):=by
 rw[XB]
 by_cases e:i=j
 ·simp[e]
 ·have:(i:Int)≠(j:Int):=by omega
  simp[e,this]
theorem Zy0(n:Nat)(f:Nat->Int):Zdf [lD n f]=some (.int (M.S n f)):=by unfold lD;rw[Zfz,Zuw]
theorem Zs3(bs:List Nat):We (nL bs)=some (bs.map fun i=>D.int ((i:Nat):Int)):=rfl
theorem Zvz{n q:Nat}(hn:n<=1000):(M.others n q).length<=1000:=by
 unfold M.others
 exact Jt (Q5 _ _) (by rw[Qt];exact hn)
theorem X3{g:Gr}(h:W1 g){q:Nat}(hq:q<g.n):Zm [gD g,.int (q:Int)]=some (.int (q:Int)):=by
 have w:(0<=(q:Int)/\(q:Int)<=(g.n:Int)-1):=by omega
 unfold Zm WX
 simp! only[Zgi h,VR,Zen,w,and_self]
theorem Zsd(bs:List Nat):Yv [nL bs]=some (.int (bs.length:Int)):=by unfold nL;rw[U0,Qb]
theorem Zpw{g:Gr}(h:W1 g){q:Nat}(hq:q<g.n)(d:Nat->Int)(hd:M.NoDebt g.n q d):XW [gD g,tD g.n d,.int (q:Int)]=some (if(M.burnt g.n (ln g.bs) d q).length=g.n then nL (M.burnt g.n (ln g.bs) d q) else .non):=by
 have n5:=h.n5
 have hc:ZK 1 [1] (Zh (fL Zx (Za (fV 3) (Za (fV 2) fN)))) (gN 0) Xn (f2 XH (f2 Yl (fV 1) (fV 0)) (fC (.int 0))) [some (gD g),some (tD g.n d),some (.int (q:Int)),some (YL g.n (ln g.bs)),none]=some (.lst (((M.others g.n q).map fun i=>decide (d i<0)).map .bl)):=by
  rw[Yw (fun(i:Nat)=>D.int ((i:Nat):Int)) (fun i=>D.bl (decide (d i<0))) (M.others g.n q) (by simp! only[Zn2 (show g.n<=1000 by omega),Zs3]) (by have:=Zvz (n:=g.n) (q:=q) (by omega);omega)]
  ·rw[QF];rfl
  ·intro x hx
   refine⟨_,rfl,?_⟩
   simp! only[Zde (M.mem_others.mp hx).1]
 have ha:((M.others g.n q).map fun i=>decide (d i<0)).any id=false:=by
  rw[List.any_map,List.any_eq_false]
  intro i hi
  have m:=M.mem_others.mp hi
  have:=hd i m.1 m.2
  simp;omega
 unfold XW Zca
 simp! only[Zeo h,X3 h hq,Zc5 h]
 rw[hc]
 simp! only[Zub,ha,Zn3 h.n5 hq (fun i hi=>Zde hi),Zsd,WR,Zkp]
 by_cases e:(M.burnt g.n (ln g.bs) d q).length=g.n
 ·simp! only[e]
 ·simp! only[e]
theorem Z1e{a b:List Nat}(h:a.length+b.length<=65536):ZR (nL a) (nL b)=some (nL (a++b)):=by
 unfold nL
 rw[Ziq (by rw[Qb,Qb];exact h),QM]
theorem Za0{α:Type}{f:α->D}(h:∀x,Zmf (f x)=true):∀xs:List α,UO (xs.map f)=true
 |[]=>rfl
 |x::xs=>by rw[Qe];unfold UO;rw[h x,Za0 h xs];rfl
theorem lim2:(2<=Yu)=True:=by unfold Yu;simp
theorem lim3:(3<=Yu)=True:=by unfold Yu;simp
theorem VY:(0<=Yu)=True:=by simp
theorem Zax:(1<=Yu)=True:=by unfold Yu;simp
def la(l:Bd):Nat:=l.1.toNat
def lb(l:Bd):Nat:=l.2.1.toNat
def lo(f:Nat->Int)(l:Bd):Int:=if f (lb l)<f (la l) then f (lb l) else f (la l)
def WG(f:Nat->Int)(l:Bd)(i:Nat):Int:=if f i=f (la l)\/f i=f (lb l) then lo f l else f i
def Zqa(T:List Bd->(Nat->Int)->List (List Bd))(f:Nat->Int):List Bd->List (List Bd)
 |[]=>[]
 |l::r=>(if f (la l)=f (lb l) then [] else(T r (WG f l)).map (l::·))++Zqa T f r
def Zm4(n:Nat)(f:Nat->Int):Bool:=(List.range n).all fun i=>f i == 0
def Ze7(n:Nat):Nat->List Bd->(Nat->Int)->List (List Bd)
 |0,_,_=>[]
 |k+1,ls,f=>if Zm4 n f=true then [[]] else Zqa (Ze7 n k) f ls
structure Rp(n:Nat)(f:Nat->Int):Prop where
 nn:∀i,i<n->0<=f i
 le:∀i,i<n->f i<=i
 id:∀i,i<n->f (f i).toNat=f i
def cnt(n:Nat)(f:Nat->Int):Nat:=(List.range n).countP fun i=>decide (i≠0/\f i=i)
theorem Zp3{Y:Nat}{p q:Nat->Bool}(hq:q Y=false)(hp:p Y=true):∀n,Y<n->(∀i,i<n->i≠Y->p i=q i)->(List.range n).countP p=(List.range n).countP q+1:=by
 have same:∀n,(∀i,i<n->p i=q i)->(List.range n).countP p=(List.range n).countP q:=fun n h=>by
  induction n with
  |zero=>rfl
  |succ n ih=>rw[JY,List.countP_append,List.countP_append,ih fun i hi=>h i (by omega)];simp[h n (by omega)]
 intro n
 induction n with
 |zero=>intro h;omega
 |succ n ih =>
  intro hY he
  rw[JY,List.countP_append,List.countP_append]
  by_cases e:Y=n
  ·subst e
   rw[same Y fun i hi=>he i (by omega) (by omega)]
   simp[hp,hq]
  ·rw[ih (by omega) fun i hi hn=>he i (by omega) hn]
   have:=he n (by omega) (fun z=>e z.symm)
   simp[this];omega
theorem Zcv{n:Nat}{f:Nat->Int}:Zm4 n f=true ↔ ∀i,i<n->f i=0:=by
 unfold Zm4;simp
theorem Zm3{n:Nat}{f:Nat->Int}(h:Zm4 n f=true):cnt n f=0:=by
 unfold cnt
 rw[List.countP_eq_zero]
 intro i hi
 have:=Zcv.mp h i (QK.mp hi)
 simp;omega
theorem Zbt{n:Nat}{f:Nat->Int}{l:Bd}(r:Rp n f)(ha:la l<n)(hb:lb l<n):Rp n (WG f l):=by
 have na:=r.nn _ ha
 have nb:=r.nn _ hb
 have ia:=r.id _ ha
 have ib:=r.id _ hb
 have hlo:lo f l=f (la l)\/lo f l=f (lb l):=by unfold lo;split<;>simp
 have hle:lo f l<=f (la l)/\lo f l<=f (lb l):=by unfold lo;split<;>omega
 refine⟨fun i hi=>?_,fun i hi=>?_,fun i hi=>?_⟩
 ·unfold WG;split
  ·rcases hlo with e|e<;>omega
  ·exact r.nn i hi
 ·have:=r.le i hi
  unfold WG;split
  ·rename_i h;rcases h with e|e<;>omega
  ·exact this
 ·have key:WG f l (lo f l).toNat=lo f l:=by
   have:f (lo f l).toNat=lo f l:=by rcases hlo with e|e<;>rw[e]<;>assumption
   unfold WG
   rw[this,if_pos hlo]
  by_cases hc:f i=f (la l)\/f i=f (lb l)
  ·have e:WG f l i=lo f l:=by unfold WG;rw[if_pos hc]
   rw[e];exact key
  ·have e:WG f l i=f i:=by unfold WG;rw[if_neg hc]
   rw[e]
   unfold WG
   rw[r.id i hi,if_neg hc]
theorem Za4{n:Nat}{f:Nat->Int}{l:Bd}(r:Rp n f)(ha:la l<n)(hb:lb l<n)(hne:f (la l)≠f (lb l)):cnt n f=cnt n (WG f l)+1:=by
 have na:=r.nn _ ha
 have nb:=r.nn _ hb
 have lea:=r.le _ ha
 have leb:=r.le _ hb
 have ia:=r.id _ ha
 have ib:=r.id _ hb
 obtain⟨Y,hYn,hY0,hYf,hYl,hYm,hoth⟩:∃Y:Nat,Y<n/\Y≠0/\f Y=(Y:Int)/\lo f l<(Y:Int)/\((Y:Int)=f (la l)\/(Y:Int)=f (lb l))/\(∀z,(z=f (la l)\/z=f (lb l))->z=Y\/z=lo f l):=by
  by_cases hlt:f (lb l)<f (la l)
  ·have e:lo f l=f (lb l):=by unfold lo;rw[if_pos hlt]
   refine⟨(f (la l)).toNat,by omega,by omega,by rw[ia];omega,by omega,.inl (by omega),fun z hz=>by omega⟩
  ·have e:lo f l=f (la l):=by unfold lo;rw[if_neg hlt]
   refine⟨(f (lb l)).toNat,by omega,by omega,by rw[ib];omega,by omega,.inr (by omega),fun z hz=>by omega⟩
 have hlo:lo f l=f (la l)\/lo f l=f (lb l):=by unfold lo;split<;>simp
 refine Zp3 (Y:=Y) ?_ ?_ n hYn fun i hi hiY=>?_
 ·have e:WG f l Y=lo f l:=by unfold WG;rw[if_pos (by rw[hYf];exact hYm)]
  simp only[decide_eq_false_iff_not,e]
  omega
 ·simp only[decide_eq_true_eq];exact⟨hY0,hYf⟩
 ·apply decide_eq_decide.mpr
  by_cases hc:f i=f (la l)\/f i=f (lb l)
  ·have e:WG f l i=lo f l:=by unfold WG;rw[if_pos hc]
   rw[e]
   rcases hoth _ hc with z|z
   ·constructor
    ·intro⟨a,b⟩;omega
    ·intro⟨a,b⟩
     have:f (lo f l).toNat=lo f l:=by rcases hlo with e|e<;>rw[e]<;>assumption
     rw[b]at this
     simp at this
     omega
   ·rw[z]
  ·have e:WG f l i=f i:=by unfold WG;rw[if_neg hc]
   rw[e]
def Zum(n:Nat)(ls:List Bd):Prop:=∀l∈ls,la l<n/\lb l<n
theorem Zqr{n:Nat}:∀(k:Nat) (ls:List Bd) (f:Nat->Int),Rp n f->Zum n ls->∀t∈Ze7 n k ls f,t.length=cnt n f/\t.Sublist ls:=by
 intro k
 induction k with
 |zero=>intro ls f _ _ t ht;cases ht
 |succ k ih =>
  intro ls f r hr t ht
  unfold Ze7 at ht
  split at ht
  ·rename_i hz
   rw[Q4.mp ht]
   exact⟨(Zm3 hz).symm,List.nil_sublist _⟩
  ·revert hr ht
   induction ls with
   |nil=>intro hr ht;cases ht
   |cons l ls ihl =>
    intro hr ht
    obtain⟨ha,hb⟩:=hr l Qd
    have hr':Zum n ls:=fun x hx=>hr x (Qc _ hx)
    unfold Zqa at ht
    rcases Qu.mp ht with h|h
    ·split at h
     ·cases h
     ·rename_i hne
      obtain⟨u,hu,rfl⟩:=Qn.mp h
      obtain⟨h1,h2⟩:=ih ls (WG f l) (Zbt r ha hb) hr' u hu
      exact⟨by rw[Qk,h1,<- Za4 r ha hb hne],h2.cons₂ l⟩
    ·obtain⟨h1,h2⟩:=ihl hr' h
     exact⟨h1,h2.cons l⟩
def Zfo(n:Nat)(ls:List Bd)(f:Nat->Int):Prop:=∀S:Int->Bool,S 0=true->(∃i,i<n/\S (f i)=false)->∃l∈ls,S (f (la l))≠S (f (lb l))
theorem in2(x p q:Int):X1 (.int x) (.tup [.int p,.int q])=some (.bl (decide (x=p\/x=q))):=by
 simp only[X1,X4,JN,List.all_nil,JO,if_true,Zg6,Qe,QI,Zs7,JC,List.any_nil,Zuk,Bool.or_false]
 congr 2
 rw[Bool.eq_iff_iff]
 simp only[Bool.or_eq_true,beq_iff_eq,decide_eq_true_eq]
 omega
theorem Zt8(l:Bd):Yl (bD l) (.int 0)=some (.int l.1):=rfl
theorem Zt7(l:Bd):Yl (bD l) (.int 1)=some (.int l.2.1):=rfl
theorem Zsv{n:Nat}{f:Nat->Int}{i:Int}(h0:0<=i)(h:i<n):Yl (lD n f) (.int i)=some (.int (f i.toNat)):=by
 show Yl (.lst _) _=_
 rw[Zci];exact Zmt h0 h
def Zfn(n:Nat)(l:Bd):Prop:=0<=l.1/\l.1<n/\0<=l.2.1/\l.2.1<n
theorem Zfn.r{n:Nat}{l:Bd}(h:Zfn n l):la l<n/\lb l<n:=by
 obtain⟨a,b,c,d⟩:=h
 unfold la lb;omega
def tL(t:List Bd):D:=.lst (t.map bD)
def Ym(bs:List Bd):List Bd:=bs.flatMap fun b=>(List.range b.2.2.toNat).map fun(k:Nat)=>((b.1,(b.2.1,(k:Int))):Bd)
theorem Za1{bs:List Bd}{l:Bd}:l∈Ym bs ↔ ∃b∈bs,l.1=b.1/\l.2.1=b.2.1/\0<=l.2.2/\l.2.2<b.2.2:=by
 unfold Ym
 rw[List.mem_flatMap]
 constructor
 ·rintro⟨b,hb,hl⟩
  obtain⟨k,hk,rfl⟩:=Qn.mp hl
  have:=QK.mp hk
  exact⟨b,hb,rfl,rfl,by show(0:Int)<=(k:Int);omega,by show(k:Int)<_;omega⟩
 ·rintro⟨b,hb,h1,h2,h3,h4⟩
  refine⟨b,hb,Qn.mpr ⟨l.2.2.toNat,QK.mpr (by omega),?_⟩⟩
  obtain⟨x,y,z⟩:=l
  simp only at *
  ext<;>simp only<;>omega
theorem Zwu{bs:List Bd}(h:∀b∈bs,b.2.2<=4):(Ym bs).length<=4*bs.length:=by
 induction bs with
 |nil=>simp[Ym]
 |cons b bs ih =>
  have:=ih fun x hx=>h x (Qc _ hx)
  have h4:=h b Qd
  unfold Ym at this ⊢
  rw[Q8,Qi,Qb,Qt,Qk]
  omega
theorem Ul{g:Gr}(h:W1 g):YE [gD g]=some (.lst ((Ym g.bs).map bD)):=by
 have key:∀(bs:List Bd) (found:List Bd) (x y z:Option Cl),(∀b∈bs,0<=b.2.2/\b.2.2<=4)->found.length+4*bs.length<=1000->∃x' y' z',
   Z8 (gT [2,3,4]) (UU 1 (ZK 1 [2,3] (fR YW (Za (fV 4) fN)) (gN 0) Xn (fL Yy (Za (fV 1) (Za (fV 2) (Za (fV 0) fN)))))) (bs.map bD) [some (.val (gD g)),some (.own (.lst (found.map bD))),x,y,z] =
    .nx [some (.val (gD g)),some (.own (.lst ((found++Ym bs).map bD))),x',y',z']:=by
  intro bs
  induction bs with
  |nil=>intro found x y z _ _;exact⟨x,y,z,by unfold Ym;simp[Z8]⟩
  |cons b bs ih =>
   intro found x y z hb hl
   obtain⟨b0,b4⟩:=hb b Qd
   simp only[Qk]at hl
   have hc:∀u,ZK 1 [2,3] (fR YW (Za (fV 4) fN)) (gN 0) Xn (fL Yy (Za (fV 1) (Za (fV 2) (Za (fV 0) fN)))) [some (gD g),u,some (.int b.1),some (.int b.2.1),some (.int b.2.2)] =
     some (.lst (((List.range b.2.2.toNat).map fun(k:Nat)=>((b.1,(b.2.1,(k:Int))):Bd)).map bD)):=by
    intro u
    have hr:YW [.int b.2.2]=some ((List.range b.2.2.toNat).map fun(k:Nat)=>D.int (k:Int)):=by
     have:=Xk (n:=b.2.2.toNat) (by omega)
     rw[show((b.2.2.toNat:Nat):Int)=b.2.2 by omega]at this
     exact this
    have e:=Yw (n:=1) (ix:=[2,3]) (fi:=fR YW (Za (fV 4) fN)) (t:=gN 0) (fe:=fL Yy (Za (fV 1) (Za (fV 2) (Za (fV 0) fN)))) (ρ:=[some (gD g),u,some (.int b.1),some (.int b.2.1),some (.int b.2.2)])
     (fun(k:Nat)=>D.int (k:Int)) (fun(k:Nat)=>bD ((b.1,(b.2.1,(k:Int))):Bd)) (List.range b.2.2.toNat) (by simp! only[hr]) (by rw[Qt];omega) fun k _=>⟨_,rfl,?_⟩
    ·rw[e,QF];rfl
    ·simp! only[lim3];rfl
   have him:UO (((List.range b.2.2.toNat).map fun(k:Nat)=>((b.1,(b.2.1,(k:Int))):Bd)).map bD)=true:=by
    generalize ((List.range b.2.2.toNat).map fun(k:Nat)=>((b.1,(b.2.1,(k:Int))):Bd))=q
    induction q with
    |nil=>rfl
    |cons a q ihq=>rw[Qe,UO,ihq];rfl
   obtain⟨x',y',z',e⟩:=ih (found++(List.range b.2.2.toNat).map fun(k:Nat)=>((b.1,(b.2.1,(k:Int))):Bd)) (some (.val (.int b.1))) (some (.val (.int b.2.1))) (some (.val (.int b.2.2))) (fun x hx=>hb x (Qc _ hx))
    (by rw[Qi,Qb,Qt];omega)
   refine⟨x',y',z',?_⟩
   have tt:gT [2,3,4] (bD b)=some [(2,.int b.1),(3,.int b.2.1),(4,.int b.2.2)]:=rfl
   rw[Qe]
   unfold Z8
   rw[tt]
   simp! only[UU,hc,him]
   rw[if_pos ⟨trivial,by rw[Qb,Qb,Qb,Qt];unfold Yu;omega⟩]
   rw[<- QM]
   simp only[Ym,Q8]at e ⊢
   rw[<- Q2]
   exact e
 obtain⟨x,y,z,e⟩:=key g.bs [] none none none (fun b hb=>by have:=h.rg b hb;omega) (by have:=h.few;simp;omega)
 simp only[QI,QX]at e
 have hf:∀F:FS,YB (Zh (f2 Yl (fV 0) (fC (.int 1)))) (gT [2,3,4]) F [some (.val (gD g)),some (.own (.lst [])),none,none,none]=Z8 (gT [2,3,4]) F (g.bs.map bD) [some (.val (gD g)),some (.own (.lst [])),none,none,none]:=fun F=>rfl
 unfold YE WW
 simp! only[VY,hf,e]
def Ve(i:Nat):Int:=(i:Int)
def TR(g:Gr):List (List Bd):=Ze7 g.n 8 (Ym g.bs) Ve
theorem Zkd(n:Nat):Rp n Ve:=⟨fun i _=>by unfold Ve;omega,fun i _=>JM _,fun i _=>rfl⟩
theorem Zh8(n:Nat)(hn:1<=n):cnt n Ve=n-1:=by
 have:∀n,cnt (n+1) Ve=n:=fun n=>by
  unfold cnt
  induction n with
  |zero=>rfl
  |succ n ih=>rw[JY,List.countP_append,ih];simp[Ve]
 obtain⟨m,rfl⟩:∃m,n=m+1:=⟨n-1,by omega⟩
 rw[this];rfl
section
variable{g:Gr}(h:W1 g)
include h
theorem Uk:∀l∈Ym g.bs,Zfn g.n l:=fun l hl=>by
 obtain⟨b,hb,h1,h2,h3,h4⟩:=Za1.mp hl
 have:=h.rg b hb
 unfold Zfn;omega
theorem Zn0:(Ym g.bs).length<=40:=by
 have:=Zwu (bs:=g.bs) fun b hb=>(h.rg b hb).2.2.2.2
 have:=h.few
 omega
theorem Zue:∀t∈TR g,t.length=g.n-1/\t.Sublist (Ym g.bs):=fun t ht=>by
 have:=Zqr 8 (Ym g.bs) Ve (Zkd _) (fun l hl=>(Uk h l hl).r) t ht
 rw[Zh8 _ h.n1]at this
 exact this
theorem Wp:(Ym g.bs).Pairwise fun x y=>HT.lexLt [x.1,x.2.1,x.2.2] [y.1,y.2.1,y.2.2]=true:=by
 have hr:=h.rise
 clear h
 generalize g.bs=bs at hr
 induction bs with
 |nil=>unfold Ym;simp
 |cons b bs ih =>
  have ih:=ih (QS.mp hr).2
  unfold Ym at ih ⊢
  rw[Q8,List.pairwise_append]
  refine⟨?_,ih,fun x hx y hy=>?_⟩
  ·rw[Q0]
   refine(List.pairwise_lt_range).imp fun{a b'} hab=>?_
   simp only[HT.lexLt]
   simp;omega
  ·obtain⟨k,_,rfl⟩:=Qn.mp hx
   obtain⟨b',hb',h1,h2,_,_⟩:=Za1.mp (show y∈Ym bs from hy)
   have:=(QS.mp hr).1 b' hb'
   rw[h1,h2]
   simp only[HT.lexLt]at this ⊢
   simp at this ⊢
   by_cases e1:b.1=b'.1
   ·rw[if_pos e1]at this ⊢
    rw[if_neg this.1];exact this.2
   ·rw[if_neg e1]at this ⊢
    exact this
end
end P

namespace P
def sN:Nat->(Nat->Nat)->Nat
 |0,_=>0
 |n+1,f=>sN n f+f n
theorem Zt{n:Nat}{f g:Nat->Nat}(h:∀i,i<n->f i=g i):sN n f=sN n g:=by
 induction n with
 |zero=>rfl
 |succ n ih=>unfold sN;rw[ih fun i hi=>h i (by omega),h n (by omega)]
theorem V8(m k:Nat)(f:Nat->Nat):sN (m+k) f=sN m f+sN k (fun i=>f (m+i)):=by
 induction k with
 |zero=>rfl
 |succ k ih=>show sN (m+k) f+f (m+k)=sN m f+(sN k (fun i=>f (m+i))+f (m+k));rw[ih];omega
theorem Xa(n c:Nat):sN n (fun _=>c)=n*c:=by
 induction n with
 |zero=>simp[sN]
 |succ n ih=>unfold sN;rw[ih,Nat.succ_mul]
theorem Zy5(n:Nat)(f g:Nat->Nat):sN n (fun i=>f i+g i)=sN n f+sN n g:=by
 induction n with
 |zero=>rfl
 |succ n ih=>show sN n (fun i=>f i+g i)+(f n+g n)=(sN n f+f n)+(sN n g+g n);rw[ih];omega
theorem Zcy(n m:Nat)(f:Nat->Nat->Nat):sN n (fun i=>sN m (f i))=sN m (fun j=>sN n fun i=>f i j):=by
 induction n with
 |zero=>show 0=_;rw[show(fun j=>sN 0 fun i=>f i j)=fun _=>0 from rfl,Xa];omega
 |succ n ih =>
  show sN n (fun i=>sN m (f i))+sN m (f n)=_
  rw[ih,<- Zy5];rfl
def i9(p:Prop) [Decidable p]:Nat:=if p then 1 else 0
theorem Zek{p q:Prop} [Decidable p] [Decidable q](h:p↔q):i9 p=i9 q:=by
 unfold i9;by_cases hp:p
 ·rw[if_pos hp,if_pos (h.mp hp)]
 ·rw[if_neg hp,if_neg fun z=>hp (h.mpr z)]
theorem Zx3{p:Prop} [Decidable p](h:¬p):i9 p=0:=if_neg h
theorem Zh9{p:Prop} [Decidable p](h:p):i9 p=1:=if_pos h
def B2(p q r y z:Nat):Prop:=(y<p/\z<q+r)\/(z<q/\y<p+r)
instance (p q r y z:Nat):Decidable (B2 p q r y z):=by unfold B2;infer_instance
def N2(p q r:Nat):Nat:=sN (p+r) fun y=>sN (q+r) fun z=>i9 (B2 p q r y z)
theorem Za9(p q r:Nat):N2 p q r=p*(q+r)+r*q:=by
 unfold N2
 rw[V8]
 have h1:sN p (fun y=>sN (q+r) fun z=>i9 (B2 p q r y z))=p*(q+r):=by
  rw[Zt (g:=fun _=>q+r) fun y hy=>?_,Xa]
  rw[Zt (g:=fun _=>1) fun z hz=>Zh9 (by unfold B2;omega),Xa];omega
 have h2:sN r (fun i=>sN (q+r) fun z=>i9 (B2 p q r (p+i) z))=r*q:=by
  rw[Zt (g:=fun _=>q) fun y hy=>?_,Xa]
  rw[V8,Zt (g:=fun _=>1) fun z hz=>Zh9 (by unfold B2;omega),Xa,Zt (n:=r) (g:=fun _=>0) fun z hz=>Zx3 (by unfold B2;omega),Xa];omega
 rw[h1,h2]
def B3(a b c d e f x y z:Nat):Prop:=(x<a/\B2 (b+d) (c+e) f y z)\/(y<b/\B2 (a+d) (c+f) e x z)\/(z<c/\B2 (a+e) (b+f) d x y)
instance (a b c d e f x y z:Nat):Decidable (B3 a b c d e f x y z):=by unfold B3;infer_instance
def N3(a b c d e f:Nat):Nat:=sN (a+d+e) fun x=>sN (b+d+f) fun y=>sN (c+e+f) fun z=>i9 (B3 a b c d e f x y z)
theorem Zg1{p q r y z:Nat}(hy:y<p+r)(hz:z<q+r):B2 p q r y z↔y<p\/z<q:=⟨fun h=>h.imp (·.1) (·.1),fun h=>h.imp (⟨·,hz⟩) (⟨·,hy⟩)⟩
theorem Zcq{a b c d e f x y z:Nat}(hx:x<a+d+e)(hy:y<b+d+f)(hz:z<c+e+f):B3 a b c d e f x y z↔(x<a/\(y<b+d\/z<c+e))\/(y<b/\(x<a+d\/z<c+f))\/(z<c/\(x<a+e\/y<b+f)):=by
 unfold B3
 rw[Zg1 hy hz,Zg1 (p:=a+d) (q:=c+f) (r:=e) (y:=x) (z:=z) (by omega) (by omega),Zg1 (p:=a+e) (q:=b+f) (r:=d) (y:=x) (z:=y) (by omega) (by omega)]
theorem N3_eq(a b c d e f:Nat):N3 a b c d e f=a*N2 (b+d) (c+e) f+b*N2 d (c+f) e+c*N2 e f d:=by
 unfold N3
 rw[Nat.add_assoc,V8]
 have h1:sN a (fun x=>sN (b+d+f) fun y=>sN (c+e+f) fun z=>i9 (B3 a b c d e f x y z))=a*N2 (b+d) (c+e) f:=by
  rw[Zt (g:=fun _=>N2 (b+d) (c+e) f) fun x hx=>?_,Xa]
  exact Zt fun y _=>Zt fun z _=>Zek ((Zcq (by omega) (by omega) (by omega)).trans (Iff.trans (by omega) (Zg1 (by omega) (by omega)).symm))
 have h2:sN (d+e) (fun i=>sN (b+d+f) fun y=>sN (c+e+f) fun z=>i9 (B3 a b c d e f (a+i) y z))=sN (d+e) (fun i=>sN (b+d+f) fun y=>sN (c+e+f) fun z=>i9 (B3 0 b c d e f i y z)) :=
  Zt fun x _=>Zt fun y _=>Zt fun z _=>Zek ((Zcq (by omega) (by omega) (by omega)).trans (Iff.trans (by omega) (Zcq (by omega) (by omega) (by omega)).symm))
 have h3:sN (d+e) (fun i=>sN (b+d+f) fun y=>sN (c+e+f) fun z=>i9 (B3 0 b c d e f i y z))=b*N2 d (c+f) e+sN (d+f) (fun y=>sN (d+e) fun x=>sN (c+e+f) fun z=>i9 (B3 0 0 c d e f x y z)):=by
  rw[Zcy,Nat.add_assoc b d f,V8]
  congr 1
  ·rw[Zt (g:=fun _=>N2 d (c+f) e) fun y hy=>?_,Xa]
   unfold N2
   refine Zt fun x _=>?_
   rw[show c+e+f=c+f+e by omega]
   exact Zt fun z _=>Zek ((Zcq (by omega) (by omega) (by omega)).trans (Iff.trans (by omega) (Zg1 (by omega) (by omega)).symm))
  ·exact Zt fun y _=>Zt fun x _=>Zt fun z _=>Zek ((Zcq (by omega) (by omega) (by omega)).trans (Iff.trans (by omega) (Zcq (by omega) (by omega) (by omega)).symm))
 have h4:sN (d+f) (fun y=>sN (d+e) fun x=>sN (c+e+f) fun z=>i9 (B3 0 0 c d e f x y z))=c*N2 e f d:=by
  rw[Zcy]
  have:(fun x=>sN (d+f) fun y=>sN (c+e+f) fun z=>i9 (B3 0 0 c d e f x y z))=fun x=>sN (c+e+f) fun z=>sN (d+f) fun y=>i9 (B3 0 0 c d e f x y z):=by
   funext x;rw[Zcy]
  rw[this,Zcy,Nat.add_assoc c e f,V8]
  have z1:sN c (fun z=>sN (d+e) fun x=>sN (d+f) fun y=>i9 (B3 0 0 c d e f x y z))=c*N2 e f d:=by
   rw[Zt (g:=fun _=>N2 e f d) fun z hz=>?_,Xa]
   unfold N2
   rw[show d+e=e+d by omega,show d+f=f+d by omega]
   exact Zt fun x _=>Zt fun y _=>Zek ((Zcq (by omega) (by omega) (by omega)).trans (Iff.trans (by omega) (Zg1 (by omega) (by omega)).symm))
  have z2:sN (e+f) (fun i=>sN (d+e) fun x=>sN (d+f) fun y=>i9 (B3 0 0 c d e f x y (c+i)))=0:=by
   rw[Zt (g:=fun _=>0) fun z _=>?_,Xa];· omega
   rw[Zt (g:=fun _=>0) fun x _=>?_,Xa];· omega
   rw[Zt (g:=fun _=>0) fun y _=>Zx3 (fun w=>by have:=(Zcq (by omega) (by omega) (by omega)).mp w;omega),Xa];omega
  rw[z1,z2];omega
 rw[h1,h2,h3,h4];omega
end P

namespace P
def T4(a b c d e f:Nat):Nat:=a*((b+d)*(c+e+f)+f*(c+e))+b*(d*(c+f+e)+e*(c+f))+c*(e*(f+d)+d*f)
theorem Zoc(a b c d e f:Nat):N3 a b c d e f=T4 a b c d e f:=by
 rw[N3_eq,Za9,Za9,Za9]
 unfold T4
 grind
theorem T4_1(a b c d e f:Nat):T4 a d e b c f=T4 a b c d e f:=by unfold T4;grind
theorem T4_2(a b c d e f:Nat):T4 b d f a c e=T4 a b c d e f:=by unfold T4;grind
theorem T4_3(a b c d e f:Nat):T4 c e f a b d=T4 a b c d e f:=by unfold T4;grind
theorem N2_1(a b c:Nat):N2 a c b=N2 a b c:=by rw[Za9,Za9];grind
theorem N2_2(a b c:Nat):N2 b c a=N2 a b c:=by rw[Za9,Za9];grind
end P

namespace P
open PySem L2 HT
def Zyo(T:List Bd->(Nat->Int)->Nat)(f:Nat->Int):List Bd->Nat
 |[]=>0
 |b::r=>(if f (la b)=f (lb b) then 0 else b.2.2.toNat*T r (WG f b))+Zyo T f r
def tc(n:Nat):Nat->List Bd->(Nat->Int)->Nat
 |0,_,_=>0
 |k+1,bs,f=>if Zm4 n f=true then 1 else Zyo (tc n k) f bs
theorem Zd3{f:Nat->Int}{l:Bd}:WG f l (la l)=WG f l (lb l):=by
 unfold WG
 rw[if_pos (.inl rfl),if_pos (.inr rfl)]
theorem Zsf{f:Nat->Int}{l l':Bd}(h1:la l=la l')(h2:lb l=lb l'):WG f l=WG f l':=by
 funext i;unfold WG lo;rw[h1,h2]
theorem Zok{T:List Bd->(Nat->Int)->List (List Bd)}{f:Nat->Int}:∀(cs r:List Bd),(∀l∈cs,f (la l)=f (lb l))->Zqa T f (cs++r)=Zqa T f r:=by
 intro cs
 induction cs with
 |nil=>intro r _;rfl
 |cons c cs ih =>
  intro r h
  rw[J3]
  unfold Zqa
  rw[if_pos (h c Qd),QX,ih r fun l hl=>h l (Qc _ hl)]
  cases r with
  |nil=>rfl
  |cons _ _=>rfl
theorem Zol{n k:Nat}{f:Nat->Int}(cs r:List Bd)(h:∀l∈cs,f (la l)=f (lb l)):Ze7 n k (cs++r) f=Ze7 n k r f:=by
 cases k with
 |zero=>rfl
 |succ k=>unfold Ze7;rw[Zok cs r h]
theorem Zln{n k:Nat}{f:Nat->Int}{b:Bd}:∀(cs r:List Bd),(∀l∈cs,la l=la b/\lb l=lb b)->(Zqa (Ze7 n k) f (cs++r)).length=(if f (la b)=f (lb b) then 0 else cs.length*(Ze7 n k r (WG f b)).length)+(Zqa (Ze7 n k) f r).length:=by
 intro cs
 induction cs with
 |nil=>intro r _;simp
 |cons c cs ih =>
  intro r h
  obtain⟨h1,h2⟩:=h c Qd
  have ih:=ih r fun l hl=>h l (Qc _ hl)
  rw[J3]
  show((if f (la c)=f (lb c) then [] else(Ze7 n k (cs++r) (WG f c)).map (c::·))++Zqa (Ze7 n k) f (cs++r)).length=_
  rw[Qi,ih,h1,h2]
  by_cases he:f (la b)=f (lb b)
  ·rw[if_pos he,if_pos he,if_pos he];simp
  ·rw[if_neg he,if_neg he,if_neg he,Qb,Zol cs r (fun l hl=>by
    obtain⟨g1,g2⟩:=h l (Qc _ hl)
    rw[g1,g2,<- h1,<- h2];exact Zd3),Zsf h1 h2,Qk,Nat.succ_mul]
   omega
theorem Zqt{n:Nat}:∀(k:Nat) (bs:List Bd) (f:Nat->Int),(Ze7 n k (Ym bs) f).length=tc n k bs f:=by
 intro k
 induction k with
 |zero=>intro bs f;rfl
 |succ k ih =>
  intro bs f
  unfold Ze7 tc
  split
  ·rfl
  ·induction bs with
   |nil=>rfl
   |cons b bs ihb =>
    have e:Ym (b::bs)=((List.range b.2.2.toNat).map fun(k:Nat)=>((b.1,(b.2.1,(k:Int))):Bd))++Ym bs:=by unfold Ym;rw[Q8]
    rw[e,Zln (b:=b) _ _ (fun l hl=>by obtain⟨q,_,rfl⟩:=Qn.mp hl;exact⟨rfl,rfl⟩),ihb,ih]
    simp only[Zyo,Qb,Qt]
def pw(W:Nat->Nat->Int)(ps:List (Nat×Nat)):List Bd:=ps.map fun p=>(((p.1:Int),((p.2:Int),W p.1 p.2)):Bd)
theorem Zi5{T:List Bd->(Nat->Int)->Nat}{f:Nat->Int}{b:Bd}{r:List Bd}(h:b.2.2=0):Zyo T f (b::r)=Zyo T f r:=by
 show(if _ then 0 else b.2.2.toNat*_)+_=_
 rw[h];split<;>simp
theorem Zqx{n:Nat}{W:Nat->Nat->Int}:∀(k:Nat) (ps:List (Nat×Nat)) (bs:List Bd) (f:Nat->Int),ps.Pairwise (fun p q=>HT.lexLt [(p.1:Int),p.2] [(q.1:Int),q.2]=true)->bs.Pairwise (fun x y=>HT.lexLt [x.1,x.2.1] [y.1,y.2.1]=true) ->
  (∀b∈bs,∃p∈ps,b.1=(p.1:Int)/\b.2.1=(p.2:Int)/\b.2.2=W p.1 p.2)->(∀p∈ps,W p.1 p.2≠0->∃b∈bs,b.1=(p.1:Int)/\b.2.1=(p.2:Int))->tc n k bs f=tc n k (pw W ps) f:=by
 intro k
 induction k with
 |zero=>intro ps bs f _ _ _ _;rfl
 |succ k ih =>
  intro ps bs f hp hb h1 h2
  unfold tc
  split
  ·rfl
  ·revert bs
   induction ps with
   |nil =>
    intro bs hb h1 h2
    cases bs with
    |nil=>rfl
    |cons b bs=>obtain⟨p,hp,_⟩:=h1 b Qd;cases hp
   |cons p ps ihp =>
    intro bs hb h1 h2
    obtain⟨pf,ptl⟩:=QS.mp hp
    have irr:∀l:List Int,HT.lexLt l l=false:=XS
    have far:∀b∈bs,(b.1=(p.1:Int)/\b.2.1=(p.2:Int)/\b.2.2=W p.1 p.2)\/(∃q∈ps,b.1=(q.1:Int)/\b.2.1=(q.2:Int)/\b.2.2=W q.1 q.2):=fun b hb=>by
     obtain⟨q,hq,e⟩:=h1 b hb
     rcases Qm.mp hq with rfl|hq
     ·exact .inl e
     ·exact .inr ⟨q,hq,e⟩
    cases bs with
    |nil =>
     have hw:W p.1 p.2=0:=QD fun z=>by obtain⟨b,hb,_⟩:=h2 p Qd z;cases hb
     have:=ihp ptl [] List.Pairwise.nil (fun b hb=>by cases hb) (fun q hq z=>by obtain⟨b,hb,_⟩:=h2 q (Qc _ hq) z;cases hb)
     rw[this];exact(Zi5 (b:=(((p.1:Int),((p.2:Int),W p.1 p.2)):Bd)) (r:=pw W ps) hw).symm
    |cons b bs =>
     obtain⟨bf,btl⟩:=QS.mp hb
     by_cases hbp:b.1=(p.1:Int)/\b.2.1=(p.2:Int)
     ·have hbw:b.2.2=W p.1 p.2:=by
       rcases far b Qd with e|⟨q,hq,e1,e2,_⟩
       ·exact e.2.2
       ·have:=pf q hq
        rw[<- e1,<- e2,hbp.1,hbp.2,irr]at this
        cases this
      have eb:b=(((p.1:Int),((p.2:Int),W p.1 p.2)):Bd):=by
       obtain⟨x,y,z⟩:=b
       simp only at hbp hbw
       rw[hbp.1,hbp.2,hbw]
      have c1:∀b'∈bs,∃q∈ps,b'.1=(q.1:Int)/\b'.2.1=(q.2:Int)/\b'.2.2=W q.1 q.2:=fun b' hb'=>by
       rcases far b' (Qc _ hb') with e|e
       ·have:=bf b' hb'
        rw[e.1,e.2.1,hbp.1,hbp.2,irr]at this
        cases this
       ·exact e
      have c2:∀q∈ps,W q.1 q.2≠0->∃b'∈bs,b'.1=(q.1:Int)/\b'.2.1=(q.2:Int):=fun q hq z=>by
       obtain⟨b',hb',e⟩:=h2 q (Qc _ hq) z
       rcases Qm.mp hb' with rfl|hb'
       ·have:=pf q hq
        rw[<- e.1,<- e.2,hbp.1,hbp.2,irr]at this
        cases this
       ·exact⟨b',hb',e⟩
      rw[show pw W (p::ps)=(((p.1:Int),((p.2:Int),W p.1 p.2)):Bd)::pw W ps from rfl,<- eb]
      show(if _ then 0 else _*tc n k bs (WG f b))+Zyo (tc n k) f bs=(if _ then 0 else _*tc n k (pw W ps) (WG f b))+Zyo (tc n k) f (pw W ps)
      rw[ihp ptl bs btl c1 c2,ih ps bs (WG f b) ptl btl c1 c2]
     ·have c1:∀b'∈b::bs,∃q∈ps,b'.1=(q.1:Int)/\b'.2.1=(q.2:Int)/\b'.2.2=W q.1 q.2:=fun b' hb'=>by
       rcases far b' hb' with e|e
       ·exfalso
        rcases far b Qd with e0|⟨q,hq,q1,q2,_⟩
        ·exact hbp ⟨e0.1,e0.2.1⟩
        ·rcases Qm.mp hb' with rfl|hb'
         ·exact hbp ⟨e.1,e.2.1⟩
         ·have g1:=bf b' hb'
          have g2:=pf q hq
          rw[<- q1,<- q2]at g2
          rw[e.1,e.2.1]at g1
          rw[Vd g2]at g1
          cases g1
       ·exact e
      have hw:W p.1 p.2=0:=QD fun z=>by
       obtain⟨b',hb',e⟩:=h2 p Qd z
       obtain⟨q,hq,q1,q2,_⟩:=c1 b' hb'
       have:=pf q hq
       rw[<- q1,<- q2,e.1,e.2,irr]at this
       cases this
      have:=ihp ptl (b::bs) hb c1 (fun q hq z=>h2 q (Qc _ hq) z)
      rw[this];exact(Zi5 (b:=(((p.1:Int),((p.2:Int),W p.1 p.2)):Bd)) (r:=pw W ps) hw).symm
def pf(p:List Int)(i:Nat):Int:=p.getD i 0
def NN(p:List Int):Prop:=∀c∈p,0<=c
theorem Zjv{p:List Int}(h:NN p)(i:Nat):0<=pf p i:=by
 unfold pf
 rw[Qx]
 cases e:p[i]? with
 |none=>exact JM 0
 |some c=>exact h c (Jh e)
theorem Zhk{p:List Int}{c:Int}(i:Nat):pf (p++[c]) i=if i=p.length then c else pf p i:=by
 unfold pf
 rw[Qx,Qx]
 by_cases h:i<p.length
 ·rw[QL h,if_neg (by omega)]
 ·by_cases e:i=p.length
  ·rw[if_pos e,e];simp
  ·rw[if_neg e,QA (by simp;omega),QA (by omega)]
section
variable{n:Nat}{L:Nat->Nat->Int}{q:Nat}
def Bn(n:Nat)(L:Nat->Nat->Int)(q:Nat)(p:List Int):Bool:=decide ((M.burnt n L (pf p) q).length=n)
theorem U6(N:M.Net n L)(hq:q<n){p:List Int}(h:NN p):Bn n L q p=true↔M.Settled n L q (pf p):=by
 unfold Bn
 rw[decide_eq_true_eq]
 exact M.burnt_settled N hq fun i _ _=>Zjv h i
theorem Zdk{d d':Nat->Int}(h:M.Settled n L q d)(h0:∀i,0<=d' i)(hl:∀i,d' i<=d i):M.Settled n L q d' :=
 ⟨fun i _ _=>h0 i,fun A hA hne=>by
  obtain⟨i,hi,ha,hlt⟩:=h.sets A hA hne
  exact⟨i,hi,ha,by have:=hl i;omega⟩⟩
theorem Zd2{p:List Int}{c:Int}(h:NN p)(hc:0<=c):NN (p++[c]):=fun x hx=>by
 rcases Qu.mp hx with z|z
 ·exact h x z
 ·rw[Q4.mp z];exact hc
theorem Zw2(N:M.Net n L)(hq:q<n){p:List Int}(h:NN p){c c':Int}(hc:0<=c)(hcc:c<=c')(hb:Bn n L q (p++[c'])=true):Bn n L q (p++[c])=true:=by
 rw[U6 N hq (Zd2 h hc)]
 refine Zdk ((U6 N hq (Zd2 h (by omega))).mp hb) (Zjv (Zd2 h hc)) fun i=>?_
 rw[Zhk,Zhk];split<;>omega
theorem Z07(N:M.Net n L)(hq:q<n){p:List Int}(h:NN p){c:Int}(hc:0<=c)(hb:Bn n L q (p++[c])=true):Bn n L q p=true:=by
 rw[U6 N hq h]
 refine Zdk ((U6 N hq (Zd2 h hc)).mp hb) (Zjv h) fun i=>?_
 rw[Zhk]
 split
 ·rename_i e
  have:pf p i=0:=by unfold pf;rw[Qx,QA (by omega)];rfl
  omega
 ·exact JM _
theorem Zog{P:Nat->Bool}(h:∀c c',c<=c'->P c'=true->P c=true):∀m s,(List.range' s m).takeWhile P=(List.range' s m).filter P:=by
 intro m
 induction m with
 |zero=>intro s;rfl
 |succ m ih =>
  intro s
  rw[List.range'_succ]
  cases hp:P s with
  |true=>rw[List.takeWhile_cons_of_pos hp,JU hp,ih]
  |false =>
   rw[List.takeWhile_cons_of_neg (by rw[hp];decide),JV (by rw[hp];decide)]
   symm
   rw[List.filter_eq_nil_iff]
   intro c hc hP
   have:=List.mem_range'_1.mp hc
   rw[h s c (by omega) hP]at hp
   cases hp
def Zic(n:Nat)(L:Nat->Nat->Int)(q m:Nat)(p:List Int):List (List Int):=((List.range m).takeWhile fun(c:Nat)=>Bn n L q (p++[(c:Int)])).map fun(c:Nat)=>p++[(c:Int)]
def pk(n:Nat)(L:Nat->Nat->Int)(q:Nat)(m:Nat->Nat):Nat->List (List Int)
 |0=>[[]]
 |y+1=>(pk n L q m y).flatMap (Zic n L q (m y))
def Zk7(m:Nat->Nat):Nat->List (List Int)
 |0=>[[]]
 |y+1=>(Zk7 m y).flatMap fun r=>(List.range (m y)).map fun(c:Nat)=>r++[(c:Int)]
theorem Zhf{m:Nat->Nat}:∀y,∀r∈Zk7 m y,NN r/\r.length=y:=by
 intro y
 induction y with
 |zero=>intro r hr;rw[Q4.mp hr];exact⟨fun c hc=>(by cases hc),rfl⟩
 |succ y ih =>
  intro r hr
  obtain⟨r0,h0,h1⟩:=List.mem_flatMap.mp hr
  obtain⟨c,_,rfl⟩:=Qn.mp h1
  obtain⟨a,b⟩:=ih r0 h0
  exact⟨Zd2 a (by omega),by rw[Qi,b];rfl⟩
theorem Zf6(N:M.Net n L)(hq:q<n)(m:Nat->Nat)(h0:Bn n L q []=true):∀y,pk n L q m y=(Zk7 m y).filter (Bn n L q):=by
 intro y
 induction y with
 |zero=>unfold pk Zk7;rw[JU h0];rfl
 |succ y ih =>
  unfold pk Zk7
  rw[ih]
  have hn:=Zhf (m:=m) y
  generalize Zk7 m y=rs at hn
  induction rs with
  |nil=>rfl
  |cons r rs ihr =>
   have ihr:=ihr fun x hx=>hn x (Qc _ hx)
   obtain⟨nn,_⟩:=hn r Qd
   have e1:Zic n L q (m y) r=(((List.range (m y)).map fun(c:Nat)=>r++[(c:Int)])).filter (Bn n L q):=by
    unfold Zic
    rw[List.range_eq_range',Zog (P:=fun(c:Nat)=>Bn n L q (r++[(c:Int)])) (fun c c' hcc hP=>Zw2 N hq nn (by omega) (by omega) hP),List.filter_map];rfl
   rw[Q8,List.filter_append]
   cases hb:Bn n L q r with
   |true=>rw[JU hb,Q8,ihr,e1]
   |false =>
    rw[JV (by rw[hb];decide),ihr]
    have:(((List.range (m y)).map fun(c:Nat)=>r++[(c:Int)])).filter (Bn n L q)=[]:=by
     rw[List.filter_eq_nil_iff]
     intro x hx hP
     obtain⟨c,_,rfl⟩:=Qn.mp hx
     rw[Z07 N hq nn (by omega) hP]at hb
     cases hb
    rw[this,QX]
def Zht:List Nat->(List Int->Bool)->Nat
 |[],P=>if P []=true then 1 else 0
 |m::ms,P=>sN m fun x=>Zht ms fun r=>P ((x:Int)::r)
def Zxd:List Nat->List (List Int)
 |[]=>[[]]
 |m::ms=>(List.range m).flatMap fun(x:Nat)=>(Zxd ms).map fun r=>(x:Int)::r
theorem Zoo(m:Nat)(f:Nat->Nat):((List.range m).map f).sum=sN m f:=by
 induction m with
 |zero=>rfl
 |succ m ih=>rw[JY,QM,List.sum_append,ih];simp[sN]
theorem Zot:∀(ms:List Nat) (P:List Int->Bool),((Zxd ms).filter P).length=Zht ms P:=by
 intro ms
 induction ms with
 |nil=>intro P;unfold Zxd Zht;cases h:P []<;>simp[h]
 |cons m ms ih =>
  intro P
  unfold Zxd Zht
  rw[List.filter_flatMap,List.length_flatMap,<- Zoo]
  congr 1
  refine QQ fun x _=>?_
  rw[List.filter_map,Qb]
  exact ih _
theorem Zri:∀(ms:List Nat) (m:Nat),Zxd (ms++[m])=(Zxd ms).flatMap fun r=>(List.range m).map fun(c:Nat)=>r++[(c:Int)]:=by
 intro ms
 induction ms with
 |nil =>
  intro m
  simp only[QX,Zxd,Qe,QI,Q8,List.flatMap_nil,Q1]
  rw[List.flatMap_def]
  induction (List.range m) with
  |nil=>rfl
  |cons a l ih=>simp[ih]
 |cons a ms ih =>
  intro m
  rw[J3]
  show(List.range a).flatMap _=((List.range a).flatMap _).flatMap _
  rw[List.flatMap_assoc]
  congr 1
  funext x
  rw[ih,List.map_flatMap,List.flatMap_map]
  congr 1
  funext r
  rw[QF];rfl
theorem Zu6(m:Nat->Nat):∀y,Zk7 m y=Zxd ((List.range y).map m):=by
 intro y
 induction y with
 |zero=>rfl
 |succ y ih=>rw[JY,QM,List.map_singleton,Zri,<- ih];rfl
end
end P

namespace P
section
variable{n:Nat}{L:Nat->Nat->Int}{d:Nat->Int}{q u v w:Nat}
theorem Zam(hi:∀i,i<n↔i=q\/i=u\/i=v\/i=w)(hS:∀f,M.S n f=f q+f u+f v+f w)(h1:q≠u)(h2:q≠v)(h3:q≠w)(h4:u≠v)(h5:u≠w)(h6:v≠w)(N:M.Net n L) :
  M.Settled n L q d↔(0<=d u/\0<=d v/\0<=d w)/\(d u<L u q+L u v+L u w/\d v<L v q+L v u+L v w/\d w<L w q+L w u+L w v)/\(d u<L u q+L u w\/d v<L v q+L v w)/\(d u<L u q+L u v\/d w<L w q+L w v)/\(d v<L v q+L v u\/d w<L w q+L w u)/\(d u<L u q\/d v<L v q\/d w<L w q):=by
 have du:=N.diag u
 have dv:=N.diag v
 have dw:=N.diag w
 constructor
 ·intro h
  have key:∀A:Nat->Bool,A q=false->(A u=true\/A v=true\/A w=true)->(A u=true/\d u<M.outOf n L A u)\/(A v=true/\d v<M.outOf n L A v)\/(A w=true/\d w<M.outOf n L A w):=by
   intro A hA hne
   obtain⟨i,hin,hAi,hlt⟩:=h.sets A hA (by
    rcases hne with z|z|z
    ·exact⟨u,(hi u).mpr (.inr (.inl rfl)),z⟩
    ·exact⟨v,(hi v).mpr (.inr (.inr (.inl rfl))),z⟩
    ·exact⟨w,(hi w).mpr (.inr (.inr (.inr rfl))),z⟩)
   rcases(hi i).mp hin with rfl|rfl|rfl|rfl
   ·rw[hA]at hAi;cases hAi
   ·exact .inl ⟨hAi,hlt⟩
   ·exact .inr (.inl ⟨hAi,hlt⟩)
   ·exact .inr (.inr ⟨hAi,hlt⟩)
  have k1:=key (fun i=>decide (i=u)) (decide_eq_false h1) (.inl (decide_eq_true rfl))
  have k2:=key (fun i=>decide (i=v)) (decide_eq_false h2) (.inr (.inl (decide_eq_true rfl)))
  have k3:=key (fun i=>decide (i=w)) (decide_eq_false h3) (.inr (.inr (decide_eq_true rfl)))
  have k4:=key (fun i=>decide (i=u\/i=v)) (decide_eq_false fun z=>z.elim h1 h2) (.inl (decide_eq_true (.inl rfl)))
  have k5:=key (fun i=>decide (i=u\/i=w)) (decide_eq_false fun z=>z.elim h1 h3) (.inl (decide_eq_true (.inl rfl)))
  have k6:=key (fun i=>decide (i=v\/i=w)) (decide_eq_false fun z=>z.elim h2 h3) (.inr (.inl (decide_eq_true (.inl rfl))))
  have k7:=key (fun i=>decide (i=u\/i=v\/i=w)) (decide_eq_false fun z=>z.elim h1 fun z=>z.elim h2 h3) (.inl (decide_eq_true (.inl rfl)))
  have n1:¬v=u:=fun z=>h4 z.symm
  have n2:¬w=u:=fun z=>h5 z.symm
  have n3:¬w=v:=fun z=>h6 z.symm
  simp only[M.outOf,hS,decide_eq_true_eq,h1,h2,h3,h4,h5,h6,n1,n2,n3,if_true,if_false,or_false,false_or,or_true,true_or,false_and,true_and,du,dv,dw]at k1 k2 k3 k4 k5 k6 k7
  have e1:=h.nodebt u ((hi u).mpr (.inr (.inl rfl))) (fun z=>h1 z.symm)
  have e2:=h.nodebt v ((hi v).mpr (.inr (.inr (.inl rfl)))) (fun z=>h2 z.symm)
  have e3:=h.nodebt w ((hi w).mpr (.inr (.inr (.inr rfl)))) (fun z=>h3 z.symm)
  refine⟨⟨e1,e2,e3⟩,⟨?_,?_,?_⟩,k4.imp (fun z=>?_) (fun z=>?_),k5.imp (fun z=>?_) (fun z=>?_),k6.imp (fun z=>?_) (fun z=>?_),k7.imp (fun z=>?_) fun z=>z.imp (fun z=>?_) (fun z=>?_)⟩<;>clear k4 k5 k6 k7<;>omega
 ·rintro⟨⟨e1,e2,e3⟩,⟨a1,a2,a3⟩,b1,b2,b3,c1⟩
  refine⟨fun i hin hne=>?_,fun A hA ⟨i,hin,hAi⟩=>?_⟩
  ·rcases(hi i).mp hin with rfl|rfl|rfl|rfl
   ·exact absurd rfl hne
   ·exact e1
   ·exact e2
   ·exact e3
  ·have key:(A u=true/\d u<M.outOf n L A u)\/(A v=true/\d v<M.outOf n L A v)\/(A w=true/\d w<M.outOf n L A w):=by
    have ne:A u=true\/A v=true\/A w=true:=by
     rcases(hi i).mp hin with rfl|rfl|rfl|rfl
     ·rw[hA]at hAi;cases hAi
     ·exact .inl hAi
     ·exact .inr (.inl hAi)
     ·exact .inr (.inr hAi)
    unfold M.outOf
    rw[hS,hS,hS,hA]
    cases x:A u<;>cases y:A v<;>cases z:A w<;>simp only[x,y,z,if_true,if_false,Qo,or_false,false_or,or_true,true_or,false_and,true_and,du,dv,dw]at ne ⊢<;>clear ne hS hi hA e1 e2 e3 N du dv dw
    ·clear a1 a2 b1 b2 b3 c1;omega
    ·clear a1 a3 b1 b2 b3 c1;omega
    ·clear a1 a2 a3 b1 b2 c1;omega
    ·clear a2 a3 b1 b2 b3 c1;omega
    ·clear a1 a2 a3 b1 b3 c1;omega
    ·clear a1 a2 a3 b2 b3 c1;omega
    ·clear a1 a2 a3 b1 b2 b3;omega
   rcases key with z|z|z
   ·exact⟨u,(hi u).mpr (.inr (.inl rfl)),z⟩
   ·exact⟨v,(hi v).mpr (.inr (.inr (.inl rfl))),z⟩
   ·exact⟨w,(hi w).mpr (.inr (.inr (.inr rfl))),z⟩
theorem Zdl(hi:∀i,i<n↔i=q\/i=u\/i=v)(hS:∀f,M.S n f=f q+f u+f v)(h1:q≠u)(h2:q≠v)(h4:u≠v)(N:M.Net n L) :
  M.Settled n L q d↔(0<=d u/\0<=d v)/\(d u<L u q+L u v/\d v<L v q+L v u)/\(d u<L u q\/d v<L v q):=by
 have du:=N.diag u
 have dv:=N.diag v
 constructor
 ·intro h
  have key:∀A:Nat->Bool,A q=false->(A u=true\/A v=true)->(A u=true/\d u<M.outOf n L A u)\/(A v=true/\d v<M.outOf n L A v):=by
   intro A hA hne
   obtain⟨i,hin,hAi,hlt⟩:=h.sets A hA (by
    rcases hne with z|z
    ·exact⟨u,(hi u).mpr (.inr (.inl rfl)),z⟩
    ·exact⟨v,(hi v).mpr (.inr (.inr rfl)),z⟩)
   rcases(hi i).mp hin with rfl|rfl|rfl
   ·rw[hA]at hAi;cases hAi
   ·exact .inl ⟨hAi,hlt⟩
   ·exact .inr ⟨hAi,hlt⟩
  have k1:=key (fun i=>decide (i=u)) (decide_eq_false h1) (.inl (decide_eq_true rfl))
  have k2:=key (fun i=>decide (i=v)) (decide_eq_false h2) (.inr (decide_eq_true rfl))
  have k4:=key (fun i=>decide (i=u\/i=v)) (decide_eq_false (by omega)) (.inl (decide_eq_true (.inl rfl)))
  have n1:¬v=u:=fun z=>h4 z.symm
  simp only[M.outOf,hS,decide_eq_true_eq,h1,h2,h4,n1,if_true,if_false,or_false,false_or,or_true,true_or,false_and,true_and,du,dv]at k1 k2 k4
  have e1:=h.nodebt u ((hi u).mpr (.inr (.inl rfl))) (fun z=>h1 z.symm)
  have e2:=h.nodebt v ((hi v).mpr (.inr (.inr rfl))) (fun z=>h2 z.symm)
  omega
 ·rintro⟨⟨e1,e2⟩,⟨a1,a2⟩,b1⟩
  refine⟨fun i hin hne=>?_,fun A hA ⟨i,hin,hAi⟩=>?_⟩
  ·rcases(hi i).mp hin with rfl|rfl|rfl
   ·exact absurd rfl hne
   ·exact e1
   ·exact e2
  ·have key:(A u=true/\d u<M.outOf n L A u)\/(A v=true/\d v<M.outOf n L A v):=by
    have ne:A u=true\/A v=true:=by
     rcases(hi i).mp hin with rfl|rfl|rfl
     ·rw[hA]at hAi;cases hAi
     ·exact .inl hAi
     ·exact .inr hAi
    unfold M.outOf
    rw[hS,hS,hA]
    cases x:A u<;>cases y:A v<;>simp only[x,y,if_true,if_false,Qo,or_false,false_or,or_true,true_or,false_and,true_and,du,dv]at ne ⊢<;>omega
   rcases key with z|z
   ·exact⟨u,(hi u).mpr (.inr (.inl rfl)),z⟩
   ·exact⟨v,(hi v).mpr (.inr (.inr rfl)),z⟩
theorem Zje(hi:∀i,i<n↔i=q\/i=u)(hS:∀f,M.S n f=f q+f u)(h1:q≠u)(N:M.Net n L) :
  M.Settled n L q d↔0<=d u/\d u<L u q:=by
 have du:=N.diag u
 constructor
 ·intro h
  obtain⟨i,hin,hAi,hlt⟩:=h.sets (fun i=>decide (i=u)) (decide_eq_false h1) ⟨u,(hi u).mpr (.inr rfl),decide_eq_true rfl⟩
  have e:i=u:=of_decide_eq_true hAi
  subst e
  have e1:=h.nodebt i hin (fun z=>h1 z.symm)
  simp only[M.outOf,hS,decide_eq_true_eq,h1,if_true,if_false]at hlt
  omega
 ·rintro⟨e1,a1⟩
  refine⟨fun i hin hne=>?_,fun A hA ⟨i,hin,hAi⟩=>⟨i,hin,hAi,?_⟩⟩
  ·rcases(hi i).mp hin with rfl|rfl
   ·exact absurd rfl hne
   ·exact e1
  ·rcases(hi i).mp hin with rfl|rfl
   ·rw[hA]at hAi;cases hAi
   ·unfold M.outOf
    rw[hS,hA,hAi]
    simpa using a1
end
section
variable{L:Nat->Nat->Int}
def W9(L:Nat->Nat->Int)(i j:Nat):Nat:=(L i j).toNat
theorem w9{n:Nat}(N:M.Net n L)(i j:Nat):L i j=(W9 L i j:Int):=by have:=N.nn i j;unfold W9;omega
theorem Zui{n:Nat}(N:M.Net n L){i j:Nat}(hi:i<n)(hj:j<n):W9 L i j=W9 L j i:=by unfold W9;rw[N.sym i j hi hj]
def mB(n:Nat)(L:Nat->Nat->Int)(q y:Nat):Nat:=if y=q then 1 else(M.S n (L y)).toNat
def T9(n:Nat)(L:Nat->Nat->Int):Nat:=if n=1 then 1 else if n=2 then W9 L 0 1 else if n=3 then N2 (W9 L 0 1) (W9 L 0 2) (W9 L 1 2) else T4 (W9 L 0 1) (W9 L 0 2) (W9 L 0 3) (W9 L 1 2) (W9 L 1 3) (W9 L 2 3)
theorem Zfe(f:Nat->Nat):sN 1 f=f 0:=by simp[sN]
theorem Vj{n:Nat}{q:Nat}{r:List Int}{p:Prop} [Decidable p](N:M.Net n L)(hq:q<n)(hr:NN r)(h:M.Settled n L q (pf r)↔p):(if Bn n L q r=true then 1 else 0)=i9 p:=by
 have:(Bn n L q r=true)↔p:=(U6 N hq hr).trans h
 unfold i9
 by_cases hp:p
 ·rw[if_pos hp,if_pos (this.mpr hp)]
 ·rw[if_neg hp,if_neg fun z=>hp (this.mp z)]
theorem nn4(a b c d:Nat):NN [(a:Int),b,c,d]:=by intro x hx;simp at hx;omega
theorem nn3(a b c:Nat):NN [(a:Int),b,c]:=by intro x hx;simp at hx;omega
theorem nn2(a b:Nat):NN [(a:Int),b]:=by intro x hx;simp at hx;omega
theorem b3x(a b c d e f x y t:Nat):((0:Int)<=x/\(0:Int)<=y/\(0:Int)<=t)/\((x:Int)<a+d+e/\(y:Int)<b+d+f/\(t:Int)<c+e+f)/\((x:Int)<a+e\/(y:Int)<b+f)/\((x:Int)<a+d\/(t:Int)<c+f)/\((y:Int)<b+d\/(t:Int)<c+e)/\((x:Int)<a\/(y:Int)<b\/(t:Int)<c)↔B3 a b c d e f x y t:=by unfold B3 B2;omega
theorem cnt4(N:M.Net 4 L){q:Nat}(hq:q<4):Zht ((List.range 4).map (mB 4 L q)) (Bn 4 L q)=T9 4 L:=by
 have m:∀y,(M.S 4 (L y)).toNat=W9 L y 0+W9 L y 1+W9 L y 2+W9 L y 3:=fun y=>by
  have:=w9 N y 0;have:=w9 N y 1;have:=w9 N y 2;have:=w9 N y 3
  simp only[M.S];omega
 have z:∀y,W9 L y y=0:=fun y=>by unfold W9;rw[N.diag y];rfl
 have Zap:=Zui N (i:=1) (j:=0) (by omega) (by omega)
 have Zhe:=Zui N (i:=2) (j:=0) (by omega) (by omega)
 have Zqd:=Zui N (i:=3) (j:=0) (by omega) (by omega)
 have Zhd:=Zui N (i:=2) (j:=1) (by omega) (by omega)
 have Zqc:=Zui N (i:=3) (j:=1) (by omega) (by omega)
 have Zqb:=Zui N (i:=3) (j:=2) (by omega) (by omega)
 have hb:T9 4 L=T4 (W9 L 0 1) (W9 L 0 2) (W9 L 0 3) (W9 L 1 2) (W9 L 1 3) (W9 L 2 3):=rfl
 rw[hb]
 have r4:List.range 4=[0,1,2,3]:=rfl
 rw[r4]
 have cs:q=0\/q=1\/q=2\/q=3:=by omega
 have hW:=w9 N
 rcases cs with rfl|rfl|rfl|rfl
 ·rw[<- Zoc]
  simp only[Qe,QI,mB,Zht,m,z,Zap,Zhe,Zqd,Zhd,Zqc,Zqb,if_true,if_false,show ¬(1=0) by decide,show ¬(2=0) by decide,show ¬(3=0) by decide,Zfe]
  unfold N3
  rw[show W9 L 0 1+0+W9 L 1 2+W9 L 1 3=W9 L 0 1+W9 L 1 2+W9 L 1 3 by omega,show W9 L 0 2+W9 L 1 2+0+W9 L 2 3=W9 L 0 2+W9 L 1 2+W9 L 2 3 by omega,Nat.add_zero]
  refine Zt fun x hx=>Zt fun y hy=>Zt fun t ht=>Vj N hq (nn4 0 x y t) ?_
  rw[Zam (q:=0) (u:=1) (v:=2) (w:=3) (fun i=>by omega) (fun f=>by simp only[M.S];omega) (by decide) (by decide) (by decide) (by decide) (by decide) (by decide) N]
  simp only[hW,Zap,Zhe,Zqd,Zhd,Zqc,Zqb,show pf [((0:Nat):Int),(x:Int),(y:Int),(t:Int)] 1=x from rfl,show pf [((0:Nat):Int),(x:Int),(y:Int),(t:Int)] 2=y from rfl,show pf [((0:Nat):Int),(x:Int),(y:Int),(t:Int)] 3=t from rfl]
  exact b3x ..
 ·rw[<- T4_1,<- Zoc]
  simp only[Qe,QI,mB,Zht,m,z,Zap,Zhe,Zqd,Zhd,Zqc,Zqb,if_true,if_false,show ¬(0=1) by decide,show ¬(2=1) by decide,show ¬(3=1) by decide,Zfe]
  unfold N3
  rw[show 0+W9 L 0 1+W9 L 0 2+W9 L 0 3=W9 L 0 1+W9 L 0 2+W9 L 0 3 by omega,show W9 L 0 2+W9 L 1 2+0+W9 L 2 3=W9 L 1 2+W9 L 0 2+W9 L 2 3 by omega,Nat.add_zero,Nat.add_comm (W9 L 0 3) (W9 L 1 3)]
  refine Zt fun x hx=>Zt fun y hy=>Zt fun t ht=>Vj N hq (nn4 x 0 y t) ?_
  rw[Zam (q:=1) (u:=0) (v:=2) (w:=3) (fun i=>by omega) (fun f=>by simp only[M.S];omega) (by decide) (by decide) (by decide) (by decide) (by decide) (by decide) N]
  simp only[hW,Zap,Zhe,Zqd,Zhd,Zqc,Zqb,show pf [(x:Int),((0:Nat):Int),(y:Int),(t:Int)] 0=x from rfl,show pf [(x:Int),((0:Nat):Int),(y:Int),(t:Int)] 2=y from rfl,show pf [(x:Int),((0:Nat):Int),(y:Int),(t:Int)] 3=t from rfl]
  exact b3x ..
 ·rw[<- T4_2,<- Zoc]
  simp only[Qe,QI,mB,Zht,m,z,Zap,Zhe,Zqd,Zhd,Zqc,Zqb,if_true,if_false,show ¬(0=2) by decide,show ¬(1=2) by decide,show ¬(3=2) by decide,Zfe]
  unfold N3
  rw[show 0+W9 L 0 1+W9 L 0 2+W9 L 0 3=W9 L 0 2+W9 L 0 1+W9 L 0 3 by omega,show W9 L 0 1+0+W9 L 1 2+W9 L 1 3=W9 L 1 2+W9 L 0 1+W9 L 1 3 by omega,show W9 L 0 3+W9 L 1 3+W9 L 2 3+0=W9 L 2 3+W9 L 0 3+W9 L 1 3 by omega]
  refine Zt fun x hx=>Zt fun y hy=>Zt fun t ht=>Vj N hq (nn4 x y 0 t) ?_
  rw[Zam (q:=2) (u:=0) (v:=1) (w:=3) (fun i=>by omega) (fun f=>by simp only[M.S];omega) (by decide) (by decide) (by decide) (by decide) (by decide) (by decide) N]
  simp only[hW,Zap,Zhe,Zqd,Zhd,Zqc,Zqb,show pf [(x:Int),(y:Int),((0:Nat):Int),(t:Int)] 0=x from rfl,show pf [(x:Int),(y:Int),((0:Nat):Int),(t:Int)] 1=y from rfl,show pf [(x:Int),(y:Int),((0:Nat):Int),(t:Int)] 3=t from rfl]
  exact b3x ..
 ·rw[<- T4_3,<- Zoc]
  simp only[Qe,QI,mB,Zht,m,z,Zap,Zhe,Zqd,Zhd,Zqc,Zqb,if_true,if_false,show ¬(0=3) by decide,show ¬(1=3) by decide,show ¬(2=3) by decide,Zfe]
  unfold N3
  rw[show 0+W9 L 0 1+W9 L 0 2+W9 L 0 3=W9 L 0 3+W9 L 0 1+W9 L 0 2 by omega,show W9 L 0 1+0+W9 L 1 2+W9 L 1 3=W9 L 1 3+W9 L 0 1+W9 L 1 2 by omega,show W9 L 0 2+W9 L 1 2+0+W9 L 2 3=W9 L 2 3+W9 L 0 2+W9 L 1 2 by omega]
  refine Zt fun x hx=>Zt fun y hy=>Zt fun t ht=>Vj N hq (nn4 x y t 0) ?_
  rw[Zam (q:=3) (u:=0) (v:=1) (w:=2) (fun i=>by omega) (fun f=>by simp only[M.S];omega) (by decide) (by decide) (by decide) (by decide) (by decide) (by decide) N]
  simp only[hW,Zap,Zhe,Zqd,Zhd,Zqc,Zqb,show pf [(x:Int),(y:Int),(t:Int),((0:Nat):Int)] 0=x from rfl,show pf [(x:Int),(y:Int),(t:Int),((0:Nat):Int)] 1=y from rfl,show pf [(x:Int),(y:Int),(t:Int),((0:Nat):Int)] 2=t from rfl]
  exact b3x ..
theorem b2x(a b d x y:Nat):((0:Int)<=x/\(0:Int)<=y)/\((x:Int)<a+d/\(y:Int)<b+d)/\((x:Int)<a\/(y:Int)<b)↔B2 a b d x y:=by unfold B2;omega
theorem cnt3(N:M.Net 3 L){q:Nat}(hq:q<3):Zht ((List.range 3).map (mB 3 L q)) (Bn 3 L q)=T9 3 L:=by
 have m:∀y,(M.S 3 (L y)).toNat=W9 L y 0+W9 L y 1+W9 L y 2:=fun y=>by
  have:=w9 N y 0;have:=w9 N y 1;have:=w9 N y 2
  simp only[M.S];omega
 have z:∀y,W9 L y y=0:=fun y=>by unfold W9;rw[N.diag y];rfl
 have Zap:=Zui N (i:=1) (j:=0) (by omega) (by omega)
 have Zhe:=Zui N (i:=2) (j:=0) (by omega) (by omega)
 have Zhd:=Zui N (i:=2) (j:=1) (by omega) (by omega)
 have hb:T9 3 L=N2 (W9 L 0 1) (W9 L 0 2) (W9 L 1 2):=rfl
 rw[hb]
 have r3:List.range 3=[0,1,2]:=rfl
 rw[r3]
 have cs:q=0\/q=1\/q=2:=by omega
 have hW:=w9 N
 rcases cs with rfl|rfl|rfl
 ·simp only[Qe,QI,mB,Zht,m,z,Zap,Zhe,Zhd,if_true,if_false,show ¬(1=0) by decide,show ¬(2=0) by decide,Zfe]
  unfold N2
  rw[show W9 L 0 1+0+W9 L 1 2=W9 L 0 1+W9 L 1 2 by omega,Nat.add_zero]
  refine Zt fun x hx=>Zt fun y hy=>Vj N hq (nn3 0 x y) ?_
  rw[Zdl (q:=0) (u:=1) (v:=2) (fun i=>by omega) (fun f=>by simp only[M.S];omega) (by decide) (by decide) (by decide) N]
  simp only[hW,Zap,Zhe,Zhd,show pf [((0:Nat):Int),(x:Int),(y:Int)] 1=x from rfl,show pf [((0:Nat):Int),(x:Int),(y:Int)] 2=y from rfl]
  exact b2x ..
 ·rw[<- N2_1]
  simp only[Qe,QI,mB,Zht,m,z,Zap,Zhe,Zhd,if_true,if_false,show ¬(0=1) by decide,show ¬(2=1) by decide,Zfe]
  unfold N2
  rw[show 0+W9 L 0 1+W9 L 0 2=W9 L 0 1+W9 L 0 2 by omega,show W9 L 0 2+W9 L 1 2+0=W9 L 1 2+W9 L 0 2 by omega]
  refine Zt fun x hx=>Zt fun y hy=>Vj N hq (nn3 x 0 y) ?_
  rw[Zdl (q:=1) (u:=0) (v:=2) (fun i=>by omega) (fun f=>by simp only[M.S];omega) (by decide) (by decide) (by decide) N]
  simp only[hW,Zap,Zhe,Zhd,show pf [(x:Int),((0:Nat):Int),(y:Int)] 0=x from rfl,show pf [(x:Int),((0:Nat):Int),(y:Int)] 2=y from rfl]
  exact b2x ..
 ·rw[<- N2_2]
  simp only[Qe,QI,mB,Zht,m,z,Zap,Zhe,Zhd,if_true,if_false,show ¬(0=2) by decide,show ¬(1=2) by decide,Zfe]
  unfold N2
  rw[show 0+W9 L 0 1+W9 L 0 2=W9 L 0 2+W9 L 0 1 by omega,show W9 L 0 1+0+W9 L 1 2=W9 L 1 2+W9 L 0 1 by omega]
  refine Zt fun x hx=>Zt fun y hy=>Vj N hq (nn3 x y 0) ?_
  rw[Zdl (q:=2) (u:=0) (v:=1) (fun i=>by omega) (fun f=>by simp only[M.S];omega) (by decide) (by decide) (by decide) N]
  simp only[hW,Zap,Zhe,Zhd,show pf [(x:Int),(y:Int),((0:Nat):Int)] 0=x from rfl,show pf [(x:Int),(y:Int),((0:Nat):Int)] 1=y from rfl]
  exact b2x ..
theorem cnt2(N:M.Net 2 L){q:Nat}(hq:q<2):Zht ((List.range 2).map (mB 2 L q)) (Bn 2 L q)=T9 2 L:=by
 have m:∀y,(M.S 2 (L y)).toNat=W9 L y 0+W9 L y 1:=fun y=>by
  have:=w9 N y 0;have:=w9 N y 1
  simp only[M.S];omega
 have z:∀y,W9 L y y=0:=fun y=>by unfold W9;rw[N.diag y];rfl
 have Zap:=Zui N (i:=1) (j:=0) (by omega) (by omega)
 have hb:T9 2 L=W9 L 0 1:=rfl
 rw[hb]
 have r2:List.range 2=[0,1]:=rfl
 rw[r2]
 have cs:q=0\/q=1:=by omega
 have hW:=w9 N
 have fin:∀k:Nat,sN k (fun _=>1)=k:=fun k=>by rw[Xa];omega
 rcases cs with rfl|rfl
 ·simp only[Qe,QI,mB,Zht,m,z,Zap,if_true,if_false,show ¬(1=0) by decide,Zfe,Nat.add_zero]
  rw[Zt (g:=fun _=>1) fun x hx=>?_,fin]
  rw[Vj (p:=x<W9 L 0 1) N hq (nn2 0 x)]
  ·exact Zh9 hx
  ·rw[Zje (q:=0) (u:=1) (fun i=>by omega) (fun f=>by simp only[M.S];omega) (by decide) N]
   simp only[hW,Zap,show pf [((0:Nat):Int),(x:Int)] 1=x from rfl]
   omega
 ·simp only[Qe,QI,mB,Zht,m,z,Zap,if_true,if_false,show ¬(0=1) by decide,Zfe,Nat.zero_add]
  rw[Zt (g:=fun _=>1) fun x hx=>?_,fin]
  rw[Vj (p:=x<W9 L 0 1) N hq (nn2 x 0)]
  ·exact Zh9 hx
  ·rw[Zje (q:=1) (u:=0) (fun i=>by omega) (fun f=>by simp only[M.S];omega) (by decide) N]
   simp only[hW,Zap,show pf [(x:Int),((0:Nat):Int)] 0=x from rfl]
   omega
theorem cnt1(N:M.Net 1 L){q:Nat}(hq:q<1):Zht ((List.range 1).map (mB 1 L q)) (Bn 1 L q)=T9 1 L:=by
 obtain rfl:q=0:=by omega
 have hb:T9 1 L=1:=rfl
 have r1:List.range 1=[0]:=rfl
 rw[hb,r1]
 simp only[Qe,QI,mB,Zht,if_true,Zfe]
 rw[Vj (p:=True) N hq (fun x hx=>by simp at hx;omega)]
 ·rfl
 ·refine iff_true_intro ⟨fun i hi hne=>(by omega),fun A hA ⟨i,hi,hAi⟩=>?_⟩
  obtain rfl:i=0:=by omega
  rw[hA]at hAi;cases hAi
theorem cnt9{n:Nat}(N:M.Net n L)(h1:1<=n)(h4:n<=4){q:Nat}(hq:q<n):Zht ((List.range n).map (mB n L q)) (Bn n L q)=T9 n L:=by
 have cs:n=1\/n=2\/n=3\/n=4:=by omega
 rcases cs with rfl|rfl|rfl|rfl
 ·exact cnt1 N hq
 ·exact cnt2 N hq
 ·exact cnt3 N hq
 ·exact cnt4 N hq
end
end P

namespace P
section
variable{L:Nat->Nat->Int}
def Zxh(n:Nat):List (Nat×Nat):=if n=1 then [] else if n=2 then [(0,1)] else if n=3 then [(0,1),(0,2),(1,2)] else [(0,1),(0,2),(0,3),(1,2),(1,3),(2,3)]
theorem tc1:tc 1 8 (pw L (Zxh 1)) Ve=T9 1 L:=rfl
theorem tc2:tc 2 8 (pw L (Zxh 2)) Ve=T9 2 L:=by
 show(L 0 1).toNat*1+0=W9 L 0 1
 unfold W9;omega
theorem tc3:tc 3 8 (pw L (Zxh 3)) Ve=T9 3 L:=by
 show W9 L 0 1*(W9 L 0 2*1+(W9 L 1 2*1+0))+(W9 L 0 2*(W9 L 1 2*1+0)+(W9 L 1 2*0+0))=N2 (W9 L 0 1) (W9 L 0 2) (W9 L 1 2)
 rw[Za9];grind
theorem tc4:tc 4 8 (pw L (Zxh 4)) Ve=T9 4 L:=by
 show(L 0 1).toNat*((L 0 2).toNat*((L 0 3).toNat*1+(0+((L 1 3).toNat*1+((L 2 3).toNat*1+0))))+((L 0 3).toNat*((L 1 2).toNat*1+(0+((L 2 3).toNat*1+0)))+((L 1 2).toNat*((L 1 3).toNat*1+((L 2 3).toNat*1+0))+((L 1 3).toNat*((L 2 3).toNat*1+0)+((L 2 3).toNat*(0)+0)))))+((L 0 2).toNat*((L 0 3).toNat*((L 1 2).toNat*1+((L 1 3).toNat*1+(0+0)))+((L 1 2).toNat*((L 1 3).toNat*1+((L 2 3).toNat*1+0))+((L 1 3).toNat*((L 2 3).toNat*1+0)+((L 2 3).toNat*(0)+0))))+((L 0 3).toNat*((L 1 2).toNat*((L 1 3).toNat*1+((L 2 3).toNat*1+0))+((L 1 3).toNat*((L 2 3).toNat*1+0)+((L 2 3).toNat*(0)+0)))+((L 1 2).toNat*((L 1 3).toNat*(0+0)+((L 2 3).toNat*(0)+0))+((L 1 3).toNat*((L 2 3).toNat*(0)+0)+((L 2 3).toNat*(0)+0)))))=T4 (L 0 1).toNat (L 0 2).toNat (L 0 3).toNat (L 1 2).toNat (L 1 3).toNat (L 2 3).toNat
 generalize (L 0 1).toNat=a,(L 0 2).toNat=b,(L 0 3).toNat=c,(L 1 2).toNat=d,(L 1 3).toNat=e,(L 2 3).toNat=f
 unfold T4
 grind
end
end P

namespace P
open PySem L2 HT
local macro_rules | `(tactic| simp! only [$ts,*]) => `(tactic| simp only [Z4, Yq, ZV, ZJ, Zhq, XH, WK, ZB, Zrg, Z1, Wj, W2, Y7, Zhc, fV, fC, f1, f2, fN, Za, fL, Zx5, Zer, fOr, Ztj, gB, U2, Zfi, VQ, Xr, Zeq, Zh, fR, fFr, Zct, pN, pS, Ye, Yb, VD, XA, gN, gT, env0, Qe, QI, Qk, Q7, List.replicate, J3, QX, J5, Tc, Tf, J9, Ta, Td, J8, QN, Te, J4, Nat.reduceAdd, Nat.reduceSub, Nat.reduceEqDiff, if_true, if_false, reduceIte, Qo, Zh1, U0, Zl5, Z9, Zir, Ue, Znu, Zci, Zs1, Yy, Yz, few, Zoj, Zz5, decide_true, decide_false, JD, J7, decide_not, ne_eq, not_true_eq_false, not_false_eq_true, Int.reduceEq, JX, Tg, Int.reduceAdd, JX, $ts,*])
def pT(p:List Int):D:=.tup (p.map .int)
theorem Zzt(p:List Int)(c:Int)(h:p.length<=1000):Zcp (pT p) (.tup [.int c])=some (pT (p++[c])):=by
 unfold pT Zcp
 dsimp only
 rw[if_pos (by simp only[Qb,Qk,Q7];unfold Yu;omega),QM];rfl
theorem Zs9(p:List Int):Zmf (pT p)=true:=by unfold pT;unfold Zmf;exact Za0 (fun _=>rfl) _
def Zwk(n:Nat)(p:List Int):D:=.tup (p.map .int++List.replicate (n-p.length) (.int 0))
theorem Z0g{n:Nat}{p:List Int}{i:Nat}(hi:i<n):Yl (Zwk n p) (.int (i:Int))=some (.int (pf p i)):=by
 unfold Zwk
 rw[Znu]
 refine U8 (by omega) ?_
 rw[Qz]
 unfold pf
 rw[Qx]
 by_cases h:i<p.length
 ·rw[QL (by rw[Qb];exact h),QC,Qq h];rfl
 ·rw[QT (by rw[Qb];omega),Qb,QV,if_pos (by omega),QA (by omega)];rfl
noncomputable def lnB:FS:=(Zj (ZB 7 (f2 ZR (f2 Zcp (fV 4) (fL Yy (Za (fV 6) fN))) (f2 Zj1 (fL Yy (Za (fC (.int 0)) fN)) (f2 (Z9 fun i j=>.int (i-j)) (f2 (Z9 fun i j=>.int (i-j)) (fL Yv (Za (fV 0) fN)) (fV 5)) (fC (.int 1))))))
 (Zj (Wj (gB (f2 XH (fL Yv (Za (fL ZU (Za (fV 0) (Za (fV 7) (Za (fV 1) fN)))) fN)) (fL Yv (Za (fV 0) fN)))) (fun ρ=>.bk ρ) WK)
 (WE 3 (f2 Zcp (fV 4) (fL Yy (Za (fV 6) fN))))))
section
variable{n:Nat}{L:Nat->Nat->Int}{q:Nat}
def Ze8(n:Nat)(L:Nat->Nat->Int)(q:Nat)(bg:D)(found:List (List Int))(x:List (Option Cl)):YT:=some (.val (YL n L))::some (.val (.int (q:Int)))::some (.val bg)::some (.own (.lst (found.map pT)))::x
theorem Zwf(hn:n<=5)(hq:q<n){p:List Int}(hy:p.length<n){bg:D}(c:Nat)(found:List (List Int))(x7:Option Cl)(hl:found.length<65000) :
  lnB (Ze8 n L q bg found [some (.val (pT p)),some (.val (.int (p.length:Int))),some (.val (.int (c:Int))),x7]) =
   if Bn n L q (p++[(c:Int)])=true then .nx (Ze8 n L q bg (found++[p++[(c:Int)]]) [some (.val (pT p)),some (.val (.int (p.length:Int))),some (.val (.int (c:Int))),some (.val (Zwk n (p++[(c:Int)])))])
   else .bk (Ze8 n L q bg found [some (.val (pT p)),some (.val (.int (p.length:Int))),some (.val (.int (c:Int))),some (.val (Zwk n (p++[(c:Int)])))]):=by
 have e1:Zj1 (.tup [.int 0]) (.int ((n:Int)-(p.length:Int)-1))=some (.tup (List.replicate (n-(p++[(c:Int)]).length) (.int 0))):=by
  show(if _ then _ else _)=_
  rw[if_pos (by omega),Qi,QW,show((n:Int)-(p.length:Int)-1).toNat=n-(p.length+1) by omega]
 have e2:ZR (pT (p++[(c:Int)])) (.tup (List.replicate (n-(p++[(c:Int)]).length) (.int 0)))=some (Zwk n (p++[(c:Int)])):=by
  unfold pT Zwk
  exact Zw6 (by simp) (by simp;omega)
 have e3:=Zn3 (L:=L) (d:=pf (p++[(c:Int)])) hn hq (ld:=Zwk n (p++[(c:Int)])) fun i hi=>Z0g hi
 have bl:=(M.burnt_bi (L:=L) (d:=pf (p++[(c:Int)])) hq).len
 have e4:=Zzt p (c:Int) (by omega)
 unfold lnB Ze8
 simp! only[Zax,e4,WR,e1,e2,e3,Zsd]
 have e5:decide (((M.burnt n L (pf (p++[(c:Int)])) q).length:Int)<(n:Int))=!Bn n L q (p++[(c:Int)]):=by
  unfold Bn
  by_cases h:(M.burnt n L (pf (p++[(c:Int)])) q).length=n
  ·rw[decide_eq_true h,decide_eq_false (by omega)];rfl
  ·rw[decide_eq_false h,decide_eq_true (by omega)];rfl
 rw[e5]
 cases hB:Bn n L q (p++[(c:Int)]) with
 |false =>
  simp only[J7,Qo,if_false];rfl
 |true =>
  simp only[JD,if_true]
  simp! only[WE,Zax,e4,Zs9,Qb]
  rw[if_pos ⟨trivial,by unfold Yu;omega⟩,QM];rfl
theorem Zwg(hn:n<=5)(hq:q<n){p:List Int}(hy:p.length<n){bg:D}:∀(cs:List Nat) (found:List (List Int)) (x6 x7:Option Cl),found.length+cs.length<=65000->∃x6' x7',
  Z8 (gN 6) lnB (cs.map fun(c:Nat)=>D.int (c:Int)) (Ze8 n L q bg found [some (.val (pT p)),some (.val (.int (p.length:Int))),x6,x7]) =
   .nx (Ze8 n L q bg (found++(cs.takeWhile fun(c:Nat)=>Bn n L q (p++[(c:Int)])).map fun(c:Nat)=>p++[(c:Int)]) [some (.val (pT p)),some (.val (.int (p.length:Int))),x6',x7']):=by
 intro cs
 induction cs with
 |nil=>intro found x6 x7 _;exact⟨x6,x7,by simp[Z8]⟩
 |cons c cs ih =>
  intro found x6 x7 hl
  simp only[Qk]at hl
  have st:=Zwf (L:=L) hn hq hy (bg:=bg) c found x7 (by omega)
  rw[Qe]
  unfold Z8
  have eg:gN 6 (D.int ((c:Nat):Int))=some [(6,D.int ((c:Nat):Int))]:=rfl
  rw[eg]
  dsimp only
  have es:XA (Ze8 n L q bg found [some (.val (pT p)),some (.val (.int (p.length:Int))),x6,x7]) [(6,D.int ((c:Nat):Int))]=Ze8 n L q bg found [some (.val (pT p)),some (.val (.int (p.length:Int))),some (.val (.int (c:Int))),x7]:=rfl
  rw[es,st]
  cases hB:Bn n L q (p++[(c:Int)]) with
  |true =>
   obtain⟨x6',x7',e⟩:=ih (found++[p++[(c:Int)]]) (some (.val (.int (c:Int)))) (some (.val (Zwk n (p++[(c:Int)])))) (by rw[Qi,QW];omega)
   refine⟨x6',x7',?_⟩
   rw[if_pos rfl]
   dsimp only
   rw[e,List.takeWhile_cons_of_pos (p:=fun(c:Nat)=>Bn n L q (p++[(c:Int)])) hB,Qe,Q2];rfl
  |false =>
   refine⟨some (.val (.int (c:Int))),some (.val (Zwk n (p++[(c:Int)]))),?_⟩
   rw[if_neg (by decide),List.takeWhile_cons_of_neg (p:=fun(c:Nat)=>Bn n L q (p++[(c:Int)])) (by rw[hB];decide),QI,Q1]
noncomputable def lnC:FS:=(Zj (ZB 5 (fL Yv (Za (fV 4) fN)))
 (Y1 (fR YW (Za (Zx5 (gB (f2 Xb (fV 5) (fV 1))) (fC (.int 1)) (fL Zdf (Za (f2 Yl (fV 0) (fV 5)) fN))) fN)) (gN 6) lnB))
theorem Ztl{m:Nat}{p:List Int}:(Zic n L q m p).length<=m:=by
 unfold Zic
 rw[Qb]
 have:=(List.takeWhile_sublist (l:=List.range m) fun(c:Nat)=>Bn n L q (p++[(c:Int)])).length_le
 rw[Qt]at this;exact this
theorem Z0a(hn:n<=5)(hq:q<n){y:Nat}(hyn:y<n)(hm:mB n L q y<=20)(h0:0<=M.S n (L y)){bg:D}{p:List Int}(hp:p.length=y)(found:List (List Int))(x5 x6 x7:Option Cl)(hl:found.length<=64000):∃x5' x6' x7',
  lnC (Ze8 n L q bg found [some (.val (pT p)),x5,x6,x7])=.nx (Ze8 n L q bg (found++Zic n L q (mB n L q y) p) [some (.val (pT p)),x5',x6',x7']):=by
 subst hp
 obtain⟨x6',x7',e⟩:=Zwg (L:=L) hn hq hyn (bg:=bg) (List.range (mB n L q p.length)) found x6 x7 (by rw[Qt];omega)
 refine⟨some (.val (.int (p.length:Int))),x6',x7',?_⟩
 ·unfold lnC
  rw[ZV]
  have e1:ZB 5 (fL Yv (Za (fV 4) fN)) (Ze8 n L q bg found [some (.val (pT p)),x5,x6,x7])=.nx (Ze8 n L q bg found [some (.val (pT p)),some (.val (.int (p.length:Int))),x6,x7]):=by
   unfold Ze8 pT
   simp! only[Qb]
  rw[e1,ZJ]
  unfold Y1
  have e2:fR YW (Za (Zx5 (gB (f2 Xb (fV 5) (fV 1))) (fC (.int 1)) (fL Zdf (Za (f2 Yl (fV 0) (fV 5)) fN))) fN) (Ye (Ze8 n L q bg found [some (.val (pT p)),some (.val (.int (p.length:Int))),x6,x7]))=some ((List.range (mB n L q p.length)).map fun(k:Nat)=>D.int (k:Int)):=by
   have hr:=Xk (n:=mB n L q p.length) (by omega)
   unfold Ze8
   simp! only[Zkp,Zhw hyn,Zy0]
   by_cases hc:p.length=q
   ·have e3:mB n L q p.length=1:=by unfold mB;rw[if_pos hc]
    rw[e3]at hr ⊢
    simp only[hc,decide_true,if_true,QN]
    exact hr
   ·have e3:((mB n L q p.length:Nat):Int)=M.S n (L p.length):=by unfold mB;rw[if_neg hc];omega
    rw[e3]at hr
    simp only[hc,decide_false,Qo,if_false,QN]
    exact hr
  rw[e2]
  dsimp only
  rw[e];rfl
theorem Z0d(hn:n<=5)(hq:q<n){y:Nat}(hyn:y<n)(hm:mB n L q y<=20)(h0:0<=M.S n (L y)){bg:D}:∀(ps found:List (List Int)) (x4 x5 x6 x7:Option Cl),(∀p∈ps,p.length=y)->found.length+20*ps.length<=64000->∃x4' x5' x6' x7',
  Z8 (gN 4) lnC (ps.map pT) (Ze8 n L q bg found [x4,x5,x6,x7])=.nx (Ze8 n L q bg (found++ps.flatMap (Zic n L q (mB n L q y))) [x4',x5',x6',x7']):=by
 intro ps
 induction ps with
 |nil=>intro found x4 x5 x6 x7 _ _;exact⟨x4,x5,x6,x7,by simp[Z8]⟩
 |cons p ps ih =>
  intro found x4 x5 x6 x7 hp hl
  simp only[Qk]at hl
  obtain⟨y5,y6,y7,e1⟩:=Z0a (L:=L) hn hq hyn hm h0 (bg:=bg) (hp p Qd) found x5 x6 x7 (by omega)
  have hx:=Ztl (n:=n) (L:=L) (q:=q) (m:=mB n L q y) (p:=p)
  obtain⟨z4,z5,z6,z7,e2⟩:=ih (found++Zic n L q (mB n L q y) p) (some (.val (pT p))) y5 y6 y7 (fun r hr=>hp r (Qc _ hr)) (by rw[Qi];omega)
  refine⟨z4,z5,z6,z7,?_⟩
  rw[Qe]
  unfold Z8
  have eg:gN 4 (pT p)=some [(4,pT p)]:=rfl
  rw[eg]
  dsimp only
  have es:XA (Ze8 n L q bg found [x4,x5,x6,x7]) [(4,pT p)]=Ze8 n L q bg found [some (.val (pT p)),x5,x6,x7]:=rfl
  rw[es,e1]
  dsimp only
  rw[e2,Q8,Q2]
end
section
variable{n:Nat}{L:Nat->Nat->Int}{q:Nat}
theorem Zxt(N:M.Net n L)(h4:∀i j,L i j<=4)(hn:n<=4){y:Nat}(hy:y<n):mB n L q y<=12:=by
 unfold mB
 split
 ·omega
 ·have d:=N.diag y
  have a:=h4 y 0
  have b:=h4 y 1
  have c:=h4 y 2
  have e:=h4 y 3
  have cs:n=1\/n=2\/n=3\/n=4:=by omega
  rcases cs with rfl|rfl|rfl|rfl<;>simp only[M.S]
  ·omega
  ·omega
  ·omega
  ·have cy:y=0\/y=1\/y=2\/y=3:=by omega
   rcases cy with rfl|rfl|rfl|rfl<;>omega
theorem S_nn(N:M.Net n L)(y:Nat):0<=M.S n (L y):=by
 have key:∀k,0<=M.S k (L y):=by
  intro k
  induction k with
  |zero=>exact JM 0
  |succ k ih=>show 0<=M.S k (L y)+L y k;have:=N.nn y k;omega
 exact key n
theorem Zu7{m:Nat->Nat}{k:Nat}(hm:∀y,y<k->m y<=12):∀y,y<=k->(Zk7 m y).length<=12^y:=by
 intro y
 induction y with
 |zero=>intro _;exact Qj 1
 |succ y ih =>
  intro hk
  have ih:=ih (by omega)
  unfold Zk7
  have:∀rs:List (List Int),(rs.flatMap fun r=>(List.range (m y)).map fun(c:Nat)=>r++[(c:Int)]).length<=rs.length*12:=by
   intro rs
   induction rs with
   |nil=>simp
   |cons r rs ihr =>
    rw[Q8,Qi,Qb,Qt,Qk]
    have:=hm y (by omega)
    omega
  have:=this (Zk7 m y)
  rw[Nat.pow_succ];omega
theorem Zzi(N:M.Net n L)(hq:q<n)(h0:Bn n L q []=true)(m:Nat->Nat)(y:Nat):(∀p∈pk n L q m y,p.length=y)/\(pk n L q m y).length<=(Zk7 m y).length:=by
 rw[Zf6 N hq m h0]
 exact⟨fun p hp=>(Zhf y p (QH.mp hp).1).2,Q5 _ _⟩
theorem S_pos{f:Nat->Int}{j:Nat}:∀{n:Nat},j<n->(∀k,0<=f k)->0<f j->0<M.S n f:=by
 intro n hj h0 hp
 have nn:∀k,0<=M.S k f:=by
  intro k
  induction k with
  |zero=>exact JM 0
  |succ k ih=>show 0<=M.S k f+f k;have:=h0 k;omega
 induction n with
 |zero=>omega
 |succ n ih =>
  show 0<M.S n f+f n
  by_cases e:j=n
  ·have:=nn n;rw[<- e]at this ⊢;omega
  ·have:=ih (by omega);have:=h0 n;omega
end
theorem Zt3{g:Gr}(h:W1 g){q:Nat}(hq:q<g.n):Bn g.n (ln g.bs) q []=true:=by
 have N:=h.gd.net
 rw[U6 N hq (fun c hc=>by cases hc)]
 have z:∀i,pf [] i=0:=fun i=>by unfold pf;simp
 refine⟨fun i _ _=>by rw[z];exact JM 0,fun A hA hne=>?_⟩
 obtain⟨i,j,hi,hj,ai,aj,l⟩:=h.gd.cross A hne ⟨q,hq,hA⟩
 refine⟨i,hi,ai,?_⟩
 rw[z]
 refine S_pos (j:=j) hj (fun k=>?_) ?_
 ·show 0<=if A k=true then 0 else ln g.bs i k
  split
  ·exact JM 0
  ·exact N.nn i k
 ·show 0<if A j=true then 0 else ln g.bs i j
  rw[aj];exact l
theorem Zr3{n:Nat}{p:List Int}(h:p.length=n):pT p=tD n (pf p):=by
 subst h
 unfold pT tD
 rw[show UB p.length (pf p)=p from ?_]
 have:=Zyp p
 unfold pf
 simp only[Qx]
 exact this.symm
section
variable{g:Gr}(h:W1 g){q:Nat}
include h
end
theorem VI{g:Gr}(h:W1 g)(h4:g.n<=4){q:Nat}(hq:q<g.n):pk g.n (ln g.bs) q (mB g.n (ln g.bs) q) g.n=(Zk7 (mB g.n (ln g.bs) q) g.n).filter (Bn g.n (ln g.bs) q)/\(pk g.n (ln g.bs) q (mB g.n (ln g.bs) q) g.n).length=T9 g.n (ln g.bs):=by
 have N:=h.gd.net
 have e:=Zf6 N hq (mB g.n (ln g.bs) q) (Zt3 h hq) g.n
 refine⟨e,?_⟩
 rw[e,Zu6,Zot]
 exact cnt9 N h.n1 h4 hq
theorem Zd7:∀{bs:List Bd},bs.Pairwise (fun x y=>HT.lexLt [x.1,x.2.1] [y.1,y.2.1]=true)->∀{b:Bd},b∈bs->∀{i j:Nat},XM i j b=true->ln bs i j=b.2.2:=by
 intro bs
 induction bs with
 |nil=>intro _ b hb;cases hb
 |cons c bs ih =>
  intro hp b hb i j hh
  obtain⟨p1,p2⟩:=QS.mp hp
  rw[Vc]
  rcases Qm.mp hb with rfl|hb'
  ·rw[if_pos hh,Vb fun c hc=>Zar (p1 c hc) hh];omega
  ·have hn:XM i j c=false:=by
    cases z:XM i j c with
    |false=>rfl
    |true=>rw[Zar (p1 b hb') z]at hh;cases hh
   rw[if_neg (by rw[hn];decide),ih p2 hb' hh];omega
theorem Zvm{n a b:Nat}(hn:n<=4)(h1:a<b)(h2:b<n):(a,b)∈Zxh n:=by
 have cs:n=2\/n=3\/n=4:=by omega
 rcases cs with rfl|rfl|rfl
 ·obtain⟨rfl,rfl⟩:a=0/\b=1:=by omega
  decide
 ·have:(a=0/\b=1)\/(a=0/\b=2)\/(a=1/\b=2):=by omega
  rcases this with⟨rfl,rfl⟩|⟨rfl,rfl⟩|⟨rfl,rfl⟩<;>decide
 ·have:(a=0/\b=1)\/(a=0/\b=2)\/(a=0/\b=3)\/(a=1/\b=2)\/(a=1/\b=3)\/(a=2/\b=3):=by omega
  rcases this with⟨rfl,rfl⟩|⟨rfl,rfl⟩|⟨rfl,rfl⟩|⟨rfl,rfl⟩|⟨rfl,rfl⟩|⟨rfl,rfl⟩<;>decide
theorem Zzg{n:Nat}(hn:n<=4)(h1:1<=n):(∀p∈Zxh n,p.1<p.2)/\(Zxh n).Pairwise (fun p q=>HT.lexLt [(p.1:Int),p.2] [(q.1:Int),q.2]=true):=by
 have cs:n=1\/n=2\/n=3\/n=4:=by omega
 rcases cs with rfl|rfl|rfl|rfl<;>exact⟨by decide,by decide⟩
theorem Zdd{g:Gr}(h:W1 g)(h4:g.n<=4):(TR g).length=T9 g.n (ln g.bs):=by
 unfold TR
 rw[Zqt]
 obtain⟨a,b⟩:=Zzg h4 h.n1
 rw[Zqx (W:=ln g.bs) 8 (Zxh g.n) g.bs Ve b h.rise]
 ·have cs:g.n=1\/g.n=2\/g.n=3\/g.n=4:=by have:=h.n1;omega
  rcases cs with e|e|e|e<;>rw[e]
  ·exact tc1
  ·exact tc2
  ·exact tc3
  ·exact tc4
 ·intro x hx
  have r:=h.rg x hx
  refine⟨(x.1.toNat,x.2.1.toNat),Zvm h4 (by omega) (by omega),by show x.1=((x.1.toNat:Nat):Int);omega,by show x.2.1=((x.2.1.toNat:Nat):Int);omega,?_⟩
  refine(Zd7 h.rise hx ?_).symm
  rw[Ui ⟨r.1,r.2.1⟩]
  exact .inl ⟨rfl,rfl⟩
 ·intro p hp hw
  have lt:=a p hp
  refine QD fun z=>hw (Vb fun x hx=>?_)
  refine decide_eq_false fun e=>z ⟨x,hx,?_⟩
  rw[JK (by omega),JW (by omega)]at e
  exact e
theorem dk_pT(p:List Int):dk (pT p)=true:=by unfold pT;simp[dk,XC]
theorem Zzr(ps:List (List Int)):Zkq (ps.map pT)=true/\VS (ps.map pT)<=10:=by
 induction ps with
 |nil=>exact⟨rfl,by simp[VS]⟩
 |cons p ps ih =>
  refine⟨by simp only[Qe,Zkq,dk_pT,ih.1,JO],?_⟩
  simp only[Qe,VS,pT,Zac,Xl]
  have:=ih.2
  unfold pT at this
  omega
theorem Zz6(ps:List (List Int)):Wc (.lst (ps.map pT)) (.lst (ps.map pT))=some (.bl false):=by
 obtain⟨a,b⟩:=Zzr ps
 have k:dk (.lst (ps.map pT))=true:=by simpa [dk] using a
 have d:Zac (.lst (ps.map pT))<=64:=by simp only[Zac];omega
 rw[Zav k k d d];simp
theorem Zpb(ns:List Int)(h:ns.length<=4000):X0 (.lst (ns.map .int))=some (.int ((ns.foldl XQ []).length:Nat)):=by
 unfold X0
 dsimp only
 rw[VM]
 dsimp only
 rw[if_pos h]
def Zy4:List (Nat×Nat):=[(0,1),(0,2),(0,3),(1,2),(1,3),(2,3)]
def k2(p:Nat×Nat):List Int:=[(p.1:Int),(p.2:Int)]
def okP(ps:List (Nat×Nat)):Bool:=match runS (ps.map k2) ([],#[]) with
 |some st=>Nat.beq st.1.length ps.length == decide ps.Nodup
 |none=>false
theorem okP_1:(Zy4.all fun a=>okP [a])=true:=by decide+kernel
theorem okP_2:(Zy4.all fun a=>Zy4.all fun b=>okP [a,b])=true:=by decide+kernel
theorem okP_3:(Zy4.all fun a=>Zy4.all fun b=>Zy4.all fun c=>okP [a,b,c])=true:=by decide+kernel
theorem Zhb{p:Nat×Nat}(h:p.1<p.2/\p.2<=3):p∈Zy4:=by
 obtain⟨a,b⟩:=p
 simp only at h
 have:(a=0/\b=1)\/(a=0/\b=2)\/(a=0/\b=3)\/(a=1/\b=2)\/(a=1/\b=3)\/(a=2/\b=3):=by omega
 rcases this with⟨rfl,rfl⟩|⟨rfl,rfl⟩|⟨rfl,rfl⟩|⟨rfl,rfl⟩|⟨rfl,rfl⟩|⟨rfl,rfl⟩<;>decide
theorem Zz4{ps:List (Nat×Nat)}(h:okP ps=true)(hl:ps.length<=3)(hne:ps≠[]):∃N:Nat,X0 (.lst (ps.map fun p=>.tup [.int (p.1:Int),.int (p.2:Int)]))=some (.int (N:Int))/\(N=ps.length↔ps.Nodup):=by
 unfold okP at h
 split at h
 ·rename_i st e
  refine⟨st.1.length,?_,?_⟩
  ·have e1:(ps.map fun p=>D.tup [.int (p.1:Int),.int (p.2:Int)])=(ps.map k2).map kT:=by rw[QF];rfl
   have e2:XI ((ps.map k2).map kT)=none:=by
    cases ps with
    |nil=>exact absurd rfl hne
    |cons p ps=>rfl
   rw[e1]
   unfold X0
   dsimp only
   rw[e2]
   dsimp only
   rw[VA]
   dsimp only
   rw[if_pos (by rw[Qb];omega),e];rfl
  ·have h:=eq_of_beq h
   constructor
   ·intro z
    rw[show Nat.beq st.1.length ps.length=true from Nat.beq_eq.mpr z]at h
    exact of_decide_eq_true h.symm
   ·intro z
    rw[decide_eq_true z]at h
    exact Nat.beq_eq.mp h
 ·cases h
theorem Zl4(ps:List (Nat×Nat))(h3:ps.length<=3)(hp:∀p∈ps,p.1<p.2/\p.2<=3):∃N:Nat,X0 (.lst (ps.map fun p=>.tup [.int (p.1:Int),.int (p.2:Int)]))=some (.int (N:Int))/\(N=ps.length↔ps.Nodup):=by
 cases ps with
 |nil=>exact⟨0,rfl,by simp⟩
 |cons a ps =>
  have ha:=Zhb (hp a Qd)
  refine Zz4 ?_ h3 (by simp)
  cases ps with
  |nil=>exact Ja.mp okP_1 a ha
  |cons b ps =>
   have hb:=Zhb (hp b (by simp))
   cases ps with
   |nil=>exact Ja.mp (Ja.mp okP_2 a ha) b hb
   |cons c ps =>
    have hc:=Zhb (hp c (by simp))
    cases ps with
    |nil=>exact Ja.mp (Ja.mp (Ja.mp okP_3 a ha) b hb) c hc
    |cons d ps=>simp at h3
end P

namespace P
open PySem L2
noncomputable def Uv(ZU:List D->Option D):FS :=
 (WC (Y7 3 (fR few fN))
 (WC (YB (Zh (fV 2)) (gN 4) (Zj (ZB 5 (fL Yv (Za (fV 4) fN)))
 (Y1 (fR YW (Za (Zx5 (gB (f2 Xb (fV 5) (fV 1))) (fC (.int 1)) (fL Zdf (Za (f2 Yl (fV 0) (fV 5)) fN))) fN)) (gN 6) (Zj (ZB 7 (f2 ZR (f2 Zcp (fV 4) (fL Yy (Za (fV 6) fN))) (f2 Zj1 (fL Yy (Za (fC (.int 0)) fN)) (f2 (Z9 fun i j=>.int (i-j)) (f2 (Z9 fun i j=>.int (i-j)) (fL Yv (Za (fV 0) fN)) (fV 5)) (fC (.int 1))))))
 (Zj (Wj (gB (f2 XH (fL Yv (Za (fL ZU (Za (fV 0) (Za (fV 7) (Za (fV 1) fN)))) fN)) (fL Yv (Za (fV 0) fN)))) (fun ρ=>.bk ρ) WK)
 (WE 3 (f2 Zcp (fV 4) (fL Yy (Za (fV 6) fN)))))))))
 (Zf4 3)))
noncomputable def Z5:List D->Option D:=Z4 3 8 (Uv ZU)
noncomputable def Zbb(Zm Zq Z5:List D->Option D):FS :=
 (WC (W2 (fL Zm (Za (fV 0) (Za (fV 1) fN))))
 (WC (ZB 2 (fL Zq (Za (fV 0) fN)))
 (WC (Y7 3 (fR few (Za (fL Yy fN) fN)))
 (WC (Y1 (fR YW (Za (fL Yv (Za (fV 2) fN)) fN)) (gN 4) (Zff 3 (Y7 3 (Zwz Z5 (Za (fV 2) (Za (fV 1) (Za (fV 3) fN)))))))
 (Zf4 3)))))
noncomputable def Ys:List D->Option D:=Z4 2 5 (Zbb Zm Zq Z5)
noncomputable def V1(Yx:List D->Option D):FS :=
 (Zj (Y7 3 (fR few (Za (fL Yz (Za (fV 2) fN)) fN)))
 (Zj (ZB 4 (fL Yz (Za (fV 2) fN)))
 (Zj (Y1 (fR YW (Za (f2 Yl (fV 0) (fC (.int 0))) fN)) (gN 5) (Zj (ZB 6 (ZK 1 [4] (fR YW (Za (f2 Yl (fV 0) (fC (.int 0))) fN)) (gN 0) (gB (f2 Xv (fV 0) (fV 1))) (fV 0)))
 (Zj (ZB 7 (ZK 1 [1,0,4] (Zh (fV 6)) (gN 0) (gB (f2 XH (f2 Yl (fV 1) (fV 0)) (fL Yx (Za (fV 2) (Za (fV 0) (Za (fV 3) fN)))))) (fV 0)))
 (Wj (gB (f2 Wc (fV 7) (fL Yz fN))) (Zj (Zcd 3 (fV 7))
 (ZB 4 (f2 ZR (fV 4) (fV 7)))) WK))))
 (Z1 (fV 3)))))
noncomputable def Z7:List D->Option D:=Z4 3 8 (V1 Yx)
noncomputable def Vy(Z7 Zu Yx:List D->Option D):FS :=
 (Zj (Y7 3 (fR few fN))
 (Zj (ZB 4 (fL Z7 (Za (fV 0) (Za (fV 1) (Za (fV 2) fN)))))
 (Zj (Y1 (fR Zbl (Za (fC (.int 1)) (Za (fL Yv (Za (fV 4) fN)) fN))) (gN 5) (Zj (Y7 6 (fR few fN))
 (Zj (YB (Zh (Zct (fV 4) pN (pS (f2 (Z9 fun i j=>.int (i-j)) (fV 5) (fC (.int 1)))))) (gN 7) (UU 6 (fV 7)))
 (YB (Zh (f2 Yl (fV 4) (fV 5))) (gN 8) (Zj (Y7 9 (fR few fN))
 (Zj (YB (Zh (fL Zu (Za (fV 0) fN))) (gN 10) (Wj (U2 (gB (f2 X1 (fV 8) (Zct (fV 10) pN (pS (fC (.int 2)))))) (gB (f2 X1 (f2 (Z9 fun i j=>.int (i-j)) (f2 ZR (f2 Yl (fV 10) (fC (.int 0))) (f2 Yl (fV 10) (fC (.int 1)))) (fV 8)) (f2 Yl (fV 4) (f2 (Z9 fun i j=>.int (i-j)) (fV 5) (fC (.int 1))))))) (WE 9 (fV 10)) WK))
 (WE 3 (f2 Yl (fV 9) (f2 (Z9 fun i j=>.int (i-j)) (f2 Yl (fV 1) (fV 8)) (fL Yx (Za (fV 0) (Za (fV 8) (Za (fV 6) fN)))))))))))))
 (Z1 (fL Y0 (Za (fV 3) fN))))))
noncomputable def Ya:List D->Option D:=Z4 3 11 (Vy Z7 Zu Yx)
noncomputable def WA(ZQ:List D->Option D):FS :=
 (Z1 (ZK 2 [3] (Ztk (fL ZQ (Za (fV 0) (Za (fV 1) (Za (fV 2) fN))))) (gT [0,1]) (gB (f2 inL (fV 1) (fV 2))) (fV 0)))
noncomputable def ZX:List D->Option D:=Z4 4 4 (WA ZQ)
noncomputable def Ut(Zm Yj Zq ZN ZX ZC:List D->Option D):FS :=
 (Zj (W2 (fL Zm (Za (fV 0) (Za (fV 2) fN))))
 (Zj (W2 (fL Yj (Za (fV 0) (Za (fV 1) fN))))
 (Zj (ZB 3 (fL Zq (Za (fV 0) fN)))
 (Zj (Y7 4 (Zjn (fR few (Za (fC (.int 0)) fN)) (fL Yv (Za (fV 3) fN))))
 (Zj (ZB 5 (fL Yz fN))
 (Zj (ZB 6 (fL Yz (Za (fV 2) fN)))
 (Zj (V7 (Xr (fV 6)) (Zj (ZB 7 (f2 ZR (fV 5) (fV 6)))
 (Zj (ZB 8 (ZK 1 [3,6,1] (Zh (fL ZN (Za (fV 3) (Za (fV 7) fN)))) (gN 0) (Xr (fL ZX (Za (fV 1) (Za (fV 0) (Za (fV 2) (Za (fV 3) fN)))))) (fV 0)))
 (Zj (YB (Zh (fV 8)) (gN 9) (Zbj 4 (fV 9) (f2 ZR (fL ZC (Za (fV 3) (Za (fV 9) (Za (fV 5) fN)))) (f2 Yl (fL ZX (Za (fV 3) (Za (fV 9) (Za (fV 6) (Za (fV 1) fN))))) (fC (.int 0))))))
 (Zj (ZB 5 (fV 7))
 (ZB 6 (fV 8)))))))
 (Z1 (fL Zlk (Za (fV 4) fN))))))))))
noncomputable def Yt:List D->Option D:=Z4 3 10 (Ut Zm Yj Zq ZN ZX ZC)
noncomputable def UA:FS :=
 (Zj (ZB 2 (ZK 1 [] (fR YW (Za (f2 Yl (fV 0) (fC (.int 0))) fN)) (gN 0) Xn (fV 0)))
 (Zj (YB (Zh (fV 1)) (gT [3,4,5]) (Zj (Wj (gB (f2 Xb (f2 Yl (fV 2) (fV 3)) (f2 Yl (fV 2) (fV 4)))) (Z1 (fC (.bl false))) WK)
 (ZB 2 (ZK 1 [2,3,4] (Zh (fV 2)) (gN 0) Xn (f2 Yl (fL Yz (Za (fV 0) (Za (f2 Yl (fV 1) (fV 2)) fN))) (fL Zei (Za (f2 Xb (fV 0) (f2 Yl (fV 1) (fV 3))) fN)))))))
 (Z1 (f2 Xb (f1 X0 (fV 2)) (fC (.int 1))))))
noncomputable def Yk:List D->Option D:=Z4 2 6 UA
noncomputable def Zbc(Zu Yk:List D->Option D):FS :=
 (Zj (ZB 1 (fL Yz (Za (fL Yz fN) fN)))
 (Zj (YB (Zh (fL Zu (Za (fV 0) fN))) (gN 2) (Zj (ZB 3 (ZK 1 [2,0] (Zh (fV 1)) (gN 0) (gB (f2 XH (fL Yv (Za (fV 0) fN)) (f2 (Z9 fun i j=>.int (i-j)) (f2 Yl (fV 2) (fC (.int 0))) (fC (.int 1))))) (f2 ZR (fV 0) (fL Yz (Za (fV 1) fN)))))
 (ZB 1 (f2 ZR (fV 1) (ZK 1 [] (Zh (fV 3)) (gN 0) (gB (f2 Xb (f1 X0 (ZK 1 [] (Zh (fV 0)) (gN 0) Xn (Zct (fV 0) pN (pS (fC (.int 2)))))) (fL Yv (Za (fV 0) fN)))) (fV 0))))))
 (Z1 (fL Xz (Za (ZK 1 [0] (Zh (fV 1)) (gN 0) (U2 (gB (f2 Xb (fL Yv (Za (fV 0) fN)) (f2 (Z9 fun i j=>.int (i-j)) (f2 Yl (fV 1) (fC (.int 0))) (fC (.int 1))))) (Xr (fL Yk (Za (fV 1) (Za (fV 0) fN))))) (fV 0)) fN)))))
noncomputable def YJ:List D->Option D:=Z4 1 4 (Zbc Zu Yk)
noncomputable def Zyh(YC Zo Ys Xx Ya Yt YJ:List D->Option D):FS :=
 (Zj (ZB 1 (fL YC (Za (fV 0) (Za (fC (.int 0)) (Za (fC (.int 4)) fN)))))
 (Zj (ZB 2 (fL Zo (Za (fV 0) (Za (fC (.int 30)) (Za (f2 Yl (fV 1) (fC (.int 0))) fN)))))
 (Zj (Y7 3 (fR few fN))
 (Zj (Y7 4 (Zwz Ys (Za (fV 1) (Za (fV 2) fN))))
 (Zj (Zji 5 (Zh (fV 4)))
 (Zj (Zff 5 (WE 4 (fC .non)))
 (Zj (Wj (gB (f2 Wc (fL (Zwe Ys) (Za (fV 1) (Za (fV 2) fN))) (fV 5))) (Z1 (fC (.bl false))) WK)
 (Zj (YB (Zh (fV 5)) (gN 6) (Zj (ZB 7 (fL Xx (Za (fV 1) (Za (fV 6) (Za (fV 2) fN)))))
 (Zj (Wj (gB (f2 Wc (fV 7) (fL Ya (Za (fV 1) (Za (fV 6) (Za (fV 2) fN)))))) (Z1 (fC (.bl false))) WK)
 (Zj (ZB 8 (fFr (Zh (fV 7))))
 (Zj (Wj (Zfi (gB (f2 Wc (fL Yt (Za (fV 1) (Za (fV 8) (Za (fV 2) fN)))) (fV 6))) (gB (f2 Wc (fV 8) (fV 7)))) (Z1 (fC (.bl false))) WK)
 (Zcd 3 (fV 7)))))))
 (Z1 (f2 Xb (fL Xz (Za (fV 3) fN)) (fL YJ (Za (fV 1) fN))))))))))))
noncomputable def Zuh:List D->Option D:=Z4 1 9 (Zyh YC Zo Ys Xx Ya Yt YJ)
end P

namespace P
open PySem L2 HT
local macro_rules | `(tactic| simp! only [$ts,*]) => `(tactic| simp only [Z4, Yq, ZV, ZJ, Zhq, XH, WK, ZB, Zrg, Z1, Wj, W2, Y7, Zhc, fV, fC, f1, f2, fN, Za, fL, Zx5, Zer, fOr, Ztj, gB, U2, Zfi, VQ, Xr, Zeq, Zh, fR, fFr, Zct, pN, pS, Ye, Yb, VD, XA, gN, gT, env0, Qe, QI, Qk, Q7, List.replicate, J3, QX, J5, Tc, Tf, J9, Ta, Td, J8, QN, Te, J4, Nat.reduceAdd, Nat.reduceSub, Nat.reduceEqDiff, if_true, if_false, reduceIte, Qo, Zh1, U0, Zl5, Z9, Zir, Ue, Znu, Zci, Zs1, Yy, Yz, few, Zoj, Zz5, decide_true, decide_false, JD, J7, decide_not, ne_eq, not_true_eq_false, not_false_eq_true, Int.reduceEq, JX, Tg, Int.reduceAdd, JX, $ts,*])
def kb(l:Bd):List Int:=[l.1,l.2.1,l.2.2]
def Zk4(n:Nat):List Bd->(Nat->Int)->Bool
 |[],f=>Zm4 n f
 |l::t,f=>decide (f (la l)≠f (lb l))&&Zk4 n t (WG f l)
theorem Vx{n:Nat}{l:Bd}{t:List Bd}{f:Nat->Int}:Zk4 n (l::t) f=true↔f (la l)≠f (lb l)/\Zk4 n t (WG f l)=true:=by
 show(decide (f (la l)≠f (lb l))&&Zk4 n t (WG f l))=true↔_
 rw[QO,decide_eq_true_eq]
theorem Zqs{n:Nat}:∀(k:Nat) (ls:List Bd) (f:Nat->Int),Rp n f->Zum n ls->cnt n f<k->∀t,t∈Ze7 n k ls f↔t.Sublist ls/\Zk4 n t f=true:=by
 intro k
 induction k with
 |zero=>intro ls f _ _ h;omega
 |succ k ih =>
  intro ls f r hi hc t
  unfold Ze7
  by_cases hz:Zm4 n f=true
  ·rw[if_pos hz,Q4]
   constructor
   ·rintro rfl;exact⟨List.nil_sublist _,hz⟩
   ·rintro⟨hs,ha⟩
    cases t with
    |nil=>rfl
    |cons l t =>
     have hl:=hi l (hs.subset Qd)
     have z:=Zcv.mp hz
     have:=(Vx.mp ha).1
     rw[z _ hl.1,z _ hl.2]at this
     exact absurd rfl this
  ·rw[if_neg hz]
   induction ls with
   |nil =>
    constructor
    ·intro h;cases h
    ·rintro⟨hs,ha⟩
     rw[List.sublist_nil.mp hs]at ha
     exact absurd ha hz
   |cons l ls ihl =>
    have ihl:=ihl fun x hx=>hi x (Qc _ hx)
    have hl:=hi l Qd
    have hls:Zum n ls:=fun x hx=>hi x (Qc _ hx)
    show t∈(if f (la l)=f (lb l) then [] else(Ze7 n k ls (WG f l)).map (l::·))++Zqa (Ze7 n k) f ls↔_
    rw[Qu,ihl]
    constructor
    ·rintro(h|⟨hs,ha⟩)
     ·by_cases he:f (la l)=f (lb l)
      ·rw[if_pos he]at h;cases h
      ·rw[if_neg he]at h
       obtain⟨u,hu,rfl⟩:=Qn.mp h
       have c:=Za4 r hl.1 hl.2 he
       obtain⟨s,a⟩:=(ih ls (WG f l) (Zbt r hl.1 hl.2) hls (by omega) u).mp hu
       exact⟨s.cons₂ l,Vx.mpr ⟨he,a⟩⟩
     ·exact⟨hs.cons l,ha⟩
    ·rintro⟨hs,ha⟩
     cases hs with
     |cons _ h=>exact .inr ⟨h,ha⟩
     |cons_cons _ h =>
      obtain⟨he,a⟩:=Vx.mp ha
      have c:=Za4 r hl.1 hl.2 he
      rw[if_neg he]
      exact .inl (Qn.mpr ⟨_,(ih ls (WG f l) (Zbt r hl.1 hl.2) hls (by omega) _).mpr ⟨h,a⟩,rfl⟩)
theorem Zqu{T:List Bd->(Nat->Int)->List (List Bd)}{f:Nat->Int}:∀(ls:List Bd) (t:List Bd),t∈Zqa T f ls->∃l∈ls,∃u,t=l::u:=by
 intro ls
 induction ls with
 |nil=>intro t h;cases h
 |cons l ls ih =>
  intro t h
  rcases Qu.mp h with h|h
  ·by_cases he:f (la l)=f (lb l)
   ·rw[if_pos he]at h;cases h
   ·rw[if_neg he]at h
    obtain⟨u,_,rfl⟩:=Qn.mp h
    exact⟨l,Qd,u,rfl⟩
  ·obtain⟨l',h1,h2⟩:=ih t h
   exact⟨l',Qc _ h1,h2⟩
theorem Zuu{n:Nat}:∀(k:Nat) (ls:List Bd) (f:Nat->Int),ls.Pairwise (fun x y=>HT.lexLt (kb x) (kb y)=true)->(Ze7 n k ls f).Pairwise fun x y=>UN (x.map kb) (y.map kb)=true:=by
 intro k
 induction k with
 |zero=>intro ls f _;exact List.Pairwise.nil
 |succ k ih =>
  intro ls f hp
  unfold Ze7
  split
  ·exact List.pairwise_singleton _ _
  ·induction ls with
   |nil=>exact List.Pairwise.nil
   |cons l ls ihl =>
    obtain⟨h1,h2⟩:=QS.mp hp
    show((if f (la l)=f (lb l) then [] else(Ze7 n k ls (WG f l)).map (l::·))++Zqa (Ze7 n k) f ls).Pairwise _
    rw[List.pairwise_append]
    refine⟨?_,ihl h2,?_⟩
    ·split
     ·exact List.Pairwise.nil
     ·rw[Q0]
      refine(ih ls (WG f l) h2).imp fun{a b} h=>?_
      show UN (kb l::a.map kb) (kb l::b.map kb)=true
      unfold UN
      rw[if_pos rfl];exact h
    ·intro x hx y hy
     split at hx
     ·cases hx
     ·obtain⟨u,_,rfl⟩:=Qn.mp hx
      obtain⟨l',hl',v,rfl⟩:=Zqu ls y hy
      have hlt:=h1 l' hl'
      show UN (kb l::u.map kb) (kb l'::v.map kb)=true
      unfold UN
      rw[if_neg fun e=>by rw[e,XS]at hlt;cases hlt];exact hlt
def Zab(l:Bd):Nat×Nat:=(la l,lb l)
theorem Zz7{f:Nat->Int}{l:Bd}{i j:Nat}(h:f i=f j):WG f l i=WG f l j:=by unfold WG;rw[h]
theorem Z1g{n:Nat}:∀(t:List Bd) (f:Nat->Int),Zk4 n t f=true->∀l∈t,f (la l)≠f (lb l):=by
 intro t
 induction t with
 |nil=>intro f _ l hl;cases hl
 |cons l0 t ih =>
  intro f h l hl
  obtain⟨a,b⟩:=Vx.mp h
  rcases Qm.mp hl with rfl|hl
  ·exact a
  ·exact fun e=>ih _ b l hl (Zz7 e)
theorem Z1h{n:Nat}:∀(t:List Bd) (f:Nat->Int),Zk4 n t f=true->(t.map Zab).Nodup:=by
 intro t
 induction t with
 |nil=>intro f _;exact List.nodup_nil
 |cons l0 t ih =>
  intro f h
  obtain⟨a,b⟩:=Vx.mp h
  rw[Qe,QP]
  refine⟨fun hm=>?_,ih _ b⟩
  obtain⟨l,hl,e⟩:=Qn.mp hm
  unfold Zab at e
  injection e with e1 e2
  refine Z1g t _ b l hl ?_
  rw[e1,e2];exact Zd3
def Zxn(r:List Bd):Bool:=decide ((r.map Zab).Nodup)
def Zhv(n:Nat)(M:List (List Bd))(l:Bd):List (List Bd):=M++((M.filter fun r=>decide (r.length<n-1)).map (·++[l])).filter Zxn
structure MOk(n:Nat)(done:List Bd)(M:List (List Bd)):Prop where
 nd:M.Nodup
 mem:∀r,r∈M↔r.Sublist done/\r.length<=n-1/\(r.map Zab).Nodup
theorem Znp(n:Nat):MOk n [] [[]]:=⟨by simp,fun r=>by
 rw[Q4]
 constructor
 ·rintro rfl;exact⟨List.nil_sublist _,QZ _,List.nodup_nil⟩
 ·rintro⟨h,_⟩;exact List.sublist_nil.mp h⟩
theorem Zq8{r done:List Bd}{l:Bd}:r.Sublist (done++[l])↔r.Sublist done\/∃q,q.Sublist done/\r=q++[l]:=by
 rw[List.sublist_append_iff]
 constructor
 ·rintro⟨a,b,rfl,ha,hb⟩
  cases b with
  |nil=>rw[Q1];exact .inl ha
  |cons x b =>
   have:x::b=[l]:=by
    cases hb with
    |cons _ h=>cases h
    |cons_cons _ h=>rw[List.sublist_nil.mp h]
   exact .inr ⟨a,ha,by rw[this]⟩
 ·rintro(h|⟨q,h,rfl⟩)
  ·exact⟨r,[],by rw[Q1],h,List.nil_sublist _⟩
  ·exact⟨q,[l],rfl,h,List.Sublist.refl _⟩
theorem Zsg{n:Nat}{done:List Bd}{M:List (List Bd)}(h:MOk n done M){l:Bd}(hl:l∉done):MOk n (done++[l]) (Zhv n M l):=by
 have mem2:∀r,r∈((M.filter fun r=>decide (r.length<n-1)).map (·++[l])).filter Zxn ↔ ∃q,q∈M/\q.length<n-1/\r=q++[l]/\(r.map Zab).Nodup:=by
  intro r
  rw[QH,Qn]
  constructor
  ·rintro⟨⟨q,hq,rfl⟩,hn⟩
   obtain⟨a,b⟩:=QH.mp hq
   exact⟨q,a,of_decide_eq_true b,rfl,of_decide_eq_true hn⟩
  ·rintro⟨q,a,b,rfl,c⟩
   exact⟨⟨q,QH.mpr ⟨a,decide_eq_true b⟩,rfl⟩,decide_eq_true c⟩
 refine⟨?_,fun r=>?_⟩
 ·unfold Zhv
  rw[Jb]
  refine⟨h.nd,?_,?_⟩
  ·refine List.Pairwise.filter _ ?_
   rw[Q0]
   exact(h.nd.filter _).imp fun{a b} hab e=>hab (List.append_cancel_right e)
  ·intro a ha b hb e
   subst e
   obtain⟨q,_,_,rfl,_⟩:=(mem2 a).mp hb
   have:=((h.mem _).mp ha).1
   exact hl (this.subset (Qg _ (Q4.mpr rfl)))
 ·unfold Zhv
  rw[Qu,mem2,h.mem,Zq8]
  constructor
  ·rintro(⟨a,b,c⟩|⟨q,a,b,rfl,c⟩)
   ·exact⟨.inl a,b,c⟩
   ·exact⟨.inr ⟨q,((h.mem q).mp a).1,rfl⟩,by rw[Qi,QW];omega,c⟩
  ·rintro⟨a|⟨q,a,rfl⟩,b,c⟩
   ·exact .inl ⟨a,b,c⟩
   ·rw[Qi,QW]at b
    refine .inr ⟨q,(h.mem q).mpr ⟨a,by omega,?_⟩,by omega,rfl,c⟩
    rw[QM]at c
    exact(Jb.mp c).1
theorem Znq{n:Nat}:∀(ls done:List Bd) (M:List (List Bd)),(done++ls).Nodup->MOk n done M->MOk n (done++ls) (ls.foldl (Zhv n) M):=by
 intro ls
 induction ls with
 |nil=>intro done M _ h;rw[Q1];exact h
 |cons l ls ih =>
  intro done M hn h
  have hl:l∉done:=fun hm=>(Jb.mp hn).2.2 l hm l Qd rfl
  have:=ih (done++[l]) (Zhv n M l) (by rw[Q2];exact hn) (Zsg h hl)
  rw[Q2]at this
  exact this
theorem Zsi{n:Nat}:∀(ls:List Bd) (M:List (List Bd)),(ls.foldl (Zhv n) M).length<=2^ls.length*M.length:=by
 intro ls
 induction ls with
 |nil=>intro M;simp
 |cons l ls ih =>
  intro M
  have:=ih (Zhv n M l)
  have h2:(Zhv n M l).length<=2*M.length:=by
   unfold Zhv
   have a:=Q5 Zxn ((M.filter fun r=>decide (r.length<n-1)).map (·++[l]))
   have b:=Q5 (fun r:List Bd=>decide (r.length<n-1)) M
   rw[Qi]
   rw[Qb]at a
   omega
  simp only[JJ,Qk,Nat.pow_succ]
  have h3:2^ls.length*(Zhv n M l).length<=2^ls.length*(2*M.length):=Nat.mul_le_mul_left _ h2
  rw[<- Nat.mul_assoc]at h3
  omega
def Zl6(n:Nat)(ls:List Bd):List (List Bd):=(ls.foldl (Zhv n) [[]]).filter fun r=>decide (r.length=n-1)&&Zk4 n r Ve
theorem Zbv{g:Gr}(h:W1 g)(h4:g.n<=4):(TR g).Perm (Zl6 g.n (Ym g.bs))/\(TR g).Pairwise (fun x y=>UN (x.map kb) (y.map kb)=true):=by
 have rise:(TR g).Pairwise (fun x y=>UN (x.map kb) (y.map kb)=true):=Zuu 8 (Ym g.bs) Ve (Wp h)
 refine⟨?_,rise⟩
 have nd1:(TR g).Nodup:=rise.imp fun{a b} hab e=>by subst e;rw[UF]at hab;cases hab
 have ndl:(Ym g.bs).Nodup:=(Wp h).imp fun{a b} hab e=>by subst e;rw[XS]at hab;cases hab
 have mk:=Znq (n:=g.n) (Ym g.bs) [] [[]] (by rw[QX];exact ndl) (Znp g.n)
 rw[QX]at mk
 have nd2:(Zl6 g.n (Ym g.bs)).Nodup:=mk.nd.filter _
 refine(List.perm_ext_iff_of_nodup nd1 nd2).mpr fun t=>?_
 have m1:=Zqs (n:=g.n) 8 (Ym g.bs) Ve (Zkd _) (fun l hl=>(Uk h l hl).r) (by rw[Zh8 _ h.n1];omega) t
 unfold Zl6
 rw[QH,mk.mem,QO,decide_eq_true_eq]
 constructor
 ·intro ht
  obtain⟨a,b⟩:=m1.mp ht
  have p:=(Zue h t ht).1
  exact⟨⟨a,by omega,Z1h t _ b⟩,p,b⟩
 ·rintro⟨⟨a,_,_⟩,_,b⟩
  exact m1.mpr ⟨a,b⟩
theorem Zcl{g:Gr}(h:W1 g):Zu [gD g]=some (.lst ((Ym g.bs).map bD)):=Ul h
def Sp(n:Nat)(ν f:Nat->Int):Prop:=∀i j,i<n->j<n->(ν i=ν j↔f i=f j)
def Zzc(ν:Nat->Int)(l:Bd)(i:Nat):Int:=if ν i=ν (lb l) then ν (la l) else ν i
theorem Zsh{a b c d m:Int}(hm:m=c\/m=d):((if a=c\/a=d then m else a)=(if b=c\/b=d then m else b))↔(a=b\/((a=c\/a=d)/\(b=c\/b=d))):=by
 by_cases ha:a=c\/a=d
 ·rw[if_pos ha]
  by_cases hb:b=c\/b=d
  ·rw[if_pos hb];exact⟨fun _=>.inr ⟨ha,hb⟩,fun _=>rfl⟩
  ·rw[if_neg hb]
   refine⟨fun e=>absurd (e▸hm) hb,fun e=>?_⟩
   rcases e with e|e
   ·exact absurd (e▸ha) hb
   ·exact absurd e.2 hb
 ·rw[if_neg ha]
  by_cases hb:b=c\/b=d
  ·rw[if_pos hb]
   refine⟨fun e=>absurd (e▸hm) ha,fun e=>?_⟩
   rcases e with e|e
   ·exact absurd (e▸hb) ha
   ·exact absurd e.1 ha
  ·rw[if_neg hb];exact⟨.inl,fun e=>e.elim id fun z=>absurd z.1 ha⟩
theorem Zx2{a c d:Int}:(if a=d then c else a)=if a=c\/a=d then c else a:=by
 by_cases h:a=d
 ·rw[if_pos h,if_pos (.inr h)]
 ·rw[if_neg h]
  by_cases k:a=c
  ·rw[if_pos (.inl k)];exact k
  ·rw[if_neg fun z=>z.elim k h]
theorem Zu3{n:Nat}{ν f:Nat->Int}{l:Bd}(h:Sp n ν f)(ha:la l<n)(hb:lb l<n):Sp n (Zzc ν l) (WG f l):=by
 intro i j hi hj
 have hl:lo f l=f (la l)\/lo f l=f (lb l):=by
  unfold lo;split
  ·exact .inr rfl
  ·exact .inl rfl
 unfold Zzc WG
 rw[Zx2,Zx2,Zsh (.inl rfl),Zsh hl,h i j hi hj,h i _ hi ha,h i _ hi hb,h j _ hj ha,h j _ hj hb]
theorem Zrb:∀(ns σ:List Int),σ.length<=(ns.foldl XQ σ).length:=by
 intro ns
 induction ns with
 |nil=>intro σ;exact Qj _
 |cons n ns ih =>
  intro σ
  have:=ih (XQ σ n)
  have:σ.length<=(XQ σ n).length:=by unfold XQ;split<;>simp
  simp only[JJ];omega
theorem Zra:∀(ns:List Int) (c:Int),(ns.foldl XQ [c]).length=1 ↔ ∀x∈ns,x=c:=by
 intro ns
 induction ns with
 |nil=>intro c;simp
 |cons n ns ih =>
  intro c
  rw[JJ]
  by_cases e:n=c
  ·subst e
   rw[show XQ [n] n=[n] by unfold XQ;simp,ih]
   simp
  ·rw[show XQ [c] n=[c,n] by unfold XQ;simp;exact fun z=>e z.symm]
   constructor
   ·intro h
    have:=Zrb ns [c,n]
    simp at this;omega
   ·intro h;exact absurd (h n Qd) e
theorem Zo7{n:Nat}(hn:0<n){ν f:Nat->Int}(h:Sp n ν f)(r:Rp n f):decide (((UB n ν).foldl XQ []).length=1)=Zm4 n f:=by
 have f0:f 0=0:=by have a:=r.nn 0 hn;have b:=r.le 0 hn;omega
 obtain⟨k,rfl⟩:∃k,n=k+1:=⟨n-1,by omega⟩
 have e:UB (k+1) ν=ν 0::(List.range k).map (fun i=>ν (i+1)):=by
  unfold UB
  rw[List.range_succ_eq_map,Qe,QF];rfl
 rw[e,JJ,show XQ [] (ν 0)=[ν 0] from rfl]
 have iff:(((List.range k).map (fun i=>ν (i+1))).foldl XQ [ν 0]).length=1↔Zm4 (k+1) f=true:=by
  rw[Zra,Zcv]
  constructor
  ·intro hx i hi
   cases i with
   |zero=>exact f0
   |succ i =>
    have:=hx (ν (i+1)) (Qn.mpr ⟨i,QK.mpr (by omega),rfl⟩)
    have:=(h (i+1) 0 hi hn).mp this
    omega
  ·intro hz x hx
   obtain⟨i,hi,rfl⟩:=Qn.mp hx
   have:=QK.mp hi
   exact(h (i+1) 0 (by omega) hn).mpr (by rw[hz (i+1) (by omega),f0])
 cases hz:Zm4 (k+1) f with
 |true=>exact decide_eq_true (iff.mpr hz)
 |false=>exact decide_eq_false fun z=>by rw[iff.mp z]at hz;cases hz
noncomputable def Zxz:FS:=(Zj (Wj (gB (f2 Xb (f2 Yl (fV 2) (fV 3)) (f2 Yl (fV 2) (fV 4)))) (Z1 (fC (.bl false))) WK)
 (ZB 2 (ZK 1 [2,3,4] (Zh (fV 2)) (gN 0) Xn (f2 Yl (fL Yz (Za (fV 0) (Za (f2 Yl (fV 1) (fV 2)) fN))) (fL Zei (Za (f2 Xb (fV 0) (f2 Yl (fV 1) (fV 3))) fN))))))
theorem pick2(x y:Int)(b:Bool):Yl (.lst [.int x,.int y]) (.int (if b=true then 1 else 0))=some (.int (if b=true then y else x)):=by cases b<;>rfl
theorem Zpt{g:Gr}(h:W1 g){t:List Bd}(ht:∀l∈t,Zfn g.n l):Yk [gD g,tL t]=some (.bl (Zk4 g.n t Ve)):=by
 have n1:=h.n1
 have n5:=h.n5
 have loop:∀(t:List Bd) (ν f:Nat->Int) (x3 x4 x5:Option Cl) (w:D),(∀l∈t,Zfn g.n l)->Sp g.n ν f->Rp g.n f ->
   (Zk4 g.n t f=true->∃ν' f' x3' x4' x5',Z8 (gT [3,4,5]) Zxz (t.map bD) [some (.val (gD g)),some (.val w),some (.val (lD g.n ν)),x3,x4,x5]=.nx [some (.val (gD g)),some (.val w),some (.val (lD g.n ν')),x3',x4',x5']/\Sp g.n ν' f'/\Rp g.n f'/\Zm4 g.n f'=true) /\
   (Zk4 g.n t f=false->(Z8 (gT [3,4,5]) Zxz (t.map bD) [some (.val (gD g)),some (.val w),some (.val (lD g.n ν)),x3,x4,x5]=.rt (.bl false))\/∃ν' f' x3' x4' x5',Z8 (gT [3,4,5]) Zxz (t.map bD) [some (.val (gD g)),some (.val w),some (.val (lD g.n ν)),x3,x4,x5]=.nx [some (.val (gD g)),some (.val w),some (.val (lD g.n ν')),x3',x4',x5']/\Sp g.n ν' f'/\Rp g.n f'/\Zm4 g.n f'=false):=by
  intro t
  induction t with
  |nil =>
   intro ν f x3 x4 x5 w _ sp r
   exact⟨fun ha=>⟨ν,f,x3,x4,x5,rfl,sp,r,ha⟩,fun ha=>.inr ⟨ν,f,x3,x4,x5,rfl,sp,r,ha⟩⟩
  |cons l t ih =>
   intro ν f x3 x4 x5 w hl sp r
   have lo:=hl l Qd
   obtain⟨a1,a2,b1,b2⟩:=lo
   have ha:la l<g.n:=by unfold la;omega
   have hb:lb l<g.n:=by unfold lb;omega
   have eg:gT [3,4,5] (bD l)=some [(3,.int l.1),(4,.int l.2.1),(5,.int l.2.2)]:=rfl
   have es:XA [some (.val (gD g)),some (.val w),some (.val (lD g.n ν)),x3,x4,x5] [(3,.int l.1),(4,.int l.2.1),(5,.int l.2.2)]=[some (.val (gD g)),some (.val w),some (.val (lD g.n ν)),some (.val (.int l.1)),some (.val (.int l.2.1)),some (.val (.int l.2.2))]:=rfl
   have i1:Yl (lD g.n ν) (.int l.1)=some (.int (ν (la l))):=Zsv a1 a2
   have i2:Yl (lD g.n ν) (.int l.2.1)=some (.int (ν (lb l))):=Zsv b1 b2
   rw[Qe]
   unfold Z8
   rw[eg]
   dsimp only
   rw[es]
   by_cases he:f (la l)=f (lb l)
   ·have hv:=(sp _ _ ha hb).mpr he
    have ac:Zk4 g.n (l::t) f=false:=by
     show(decide (f (la l)≠f (lb l))&&_)=false
     rw[decide_eq_false (by simp[he])];rfl
    rw[ac]
    refine⟨fun z=>(by cases z),fun _=>.inl ?_⟩
    have:Zxz [some (.val (gD g)),some (.val w),some (.val (lD g.n ν)),some (.val (.int l.1)),some (.val (.int l.2.1)),some (.val (.int l.2.2))]=.rt (.bl false):=by
     unfold Zxz
     simp! only[i1,i2,XB,hv]
    rw[this]
   ·have hv:¬ν (la l)=ν (lb l):=fun z=>he ((sp _ _ ha hb).mp z)
    have hc:∀u,ZK 1 [2,3,4] (Zh (fV 2)) (gN 0) Xn (f2 Yl (fL Yz (Za (fV 0) (Za (f2 Yl (fV 1) (fV 2)) fN))) (fL Zei (Za (f2 Xb (fV 0) (f2 Yl (fV 1) (fV 3))) fN))) [some (gD g),some w,some (lD g.n ν),some (.int l.1),some (.int l.2.1),u]=some (lD g.n (Zzc ν l)):=by
     intro u
     rw[Yw (fun(i:Nat)=>D.int (ν i)) (fun(i:Nat)=>D.int (Zzc ν l i)) (List.range g.n) (by
      simp! only[]
      show some ((UB g.n ν).map D.int)=_
      unfold UB;rw[QF];rfl) (by rw[Qt];omega) fun i _=>⟨_,rfl,?_⟩,Zxx]
     have ib:∀b:Bool,Zei [.bl b]=some (.int (if b=true then 1 else 0)):=fun b=>by cases b<;>rfl
     simp! only[i1,i2,XB,lim2,ib,pick2]
     unfold Zzc
     by_cases e:ν i=ν (lb l)
     ·simp[e];rfl
     ·simp[e];rfl
    have st:Zxz [some (.val (gD g)),some (.val w),some (.val (lD g.n ν)),some (.val (.int l.1)),some (.val (.int l.2.1)),some (.val (.int l.2.2))]=.nx [some (.val (gD g)),some (.val w),some (.val (lD g.n (Zzc ν l))),some (.val (.int l.1)),some (.val (.int l.2.1)),some (.val (.int l.2.2))]:=by
     unfold Zxz
     simp! only[i1,i2,XB,hv,hc]
    rw[st]
    dsimp only
    have ac:Zk4 g.n (l::t) f=Zk4 g.n t (WG f l):=by
     show(decide (f (la l)≠f (lb l))&&_)=_
     rw[decide_eq_true he];rfl
    rw[ac]
    exact ih (Zzc ν l) (WG f l) _ _ _ w (fun x hx=>hl x (Qc _ hx)) (Zu3 sp ha hb) (Zbt r ha hb)
 have h0:=loop t Ve Ve none none none (tL t) ht (fun i j _ _=>Iff.rfl) (Zkd g.n)
 have e0:∀u1 u2 u3 u4,ZK 1 [] (fR YW (Za (f2 Yl (fV 0) (fC (.int 0))) fN)) (gN 0) Xn (fV 0) [some (gD g),u1,u2,u3,u4,none]=some (lD g.n Ve):=by
  intro u1 u2 u3 u4
  rw[Yw (fun(i:Nat)=>D.int (i:Int)) (fun(i:Nat)=>D.int (Ve i)) (List.range g.n) (by simp! only[VR,Xk (show g.n<=65536 by omega)]) (by rw[Qt];omega) fun i _=>⟨_,rfl,rfl⟩,Zxx]
 have hb:Yk=Z4 2 6 (Zj (ZB 2 (ZK 1 [] (fR YW (Za (f2 Yl (fV 0) (fC (.int 0))) fN)) (gN 0) Xn (fV 0))) (Zj (YB (Zh (fV 1)) (gT [3,4,5]) Zxz) (Z1 (f2 Xb (f1 X0 (fV 2)) (fC (.int 1)))))):=rfl
 have hf:∀F:FS,YB (Zh (fV 1)) (gT [3,4,5]) F [some (.val (gD g)),some (.val (tL t)),some (.val (lD g.n Ve)),none,none,none]=Z8 (gT [3,4,5]) F (t.map bD) [some (.val (gD g)),some (.val (tL t)),some (.val (lD g.n Ve)),none,none,none]:=fun F=>rfl
 have last:∀ν f,Sp g.n ν f->Rp g.n f->(X0 (lD g.n ν)).bind (fun x=>Xb x (.int 1))=some (.bl (Zm4 g.n f)):=by
  intro ν f sp r
  unfold lD
  rw[Zpb _ (by rw[Wg];omega)]
  simp only[QN]
  rw[XB,<- Zo7 n1 sp r]
  congr 2
  by_cases e:((UB g.n ν).foldl XQ []).length=1
  ·rw[decide_eq_true e,decide_eq_true (by omega)]
  ·rw[decide_eq_false e,decide_eq_false (by omega)]
 rw[hb]
 cases ha:Zk4 g.n t Ve with
 |true =>
  obtain⟨ν,f,x3,x4,x5,e,sp,r,z⟩:=h0.1 ha
  simp! only[e0,hf,e]
  rw[last ν f sp r,z]
 |false =>
  rcases h0.2 ha with e|⟨ν,f,x3,x4,x5,e,sp,r,z⟩
  ·simp! only[e0,hf,e]
  ·simp! only[e0,hf,e]
   rw[last ν f sp r,z]
theorem Zlq(t:List Bd):Yv [tL t]=some (.int (t.length:Int)):=by unfold tL;rw[U0,Qb]
theorem Zyu{t:List Bd}{l:Bd}(h:t.length<=1000):ZR (tL t) (.lst [bD l])=some (tL (t++[l])):=by
 unfold tL
 rw[Ziq (by simp only[Qb,Qk,Q7];omega),QM];rfl
def X8(M:List (List Bd)):D:=.lst (M.map tL)
theorem Zy9{a b:List (List Bd)}(h:a.length+b.length<=65536):ZR (X8 a) (X8 b)=some (X8 (a++b)):=by
 unfold X8
 rw[Ziq (by simp only[Qb];exact h),QM]
theorem part2(l:Bd):Zxc (bD l) none (some 2)=some (.tup [.int l.1,.int l.2.1]):=rfl
section
variable{g:Gr}(h:W1 g)(h4:g.n<=4)
include h h4
theorem Zou{r:List Bd}(hr:∀l∈r,Zfn g.n l/\l.1<l.2.1)(h3:r.length<=3):∃N:Nat,X0 (.lst (r.map fun l=>D.tup [.int l.1,.int l.2.1]))=some (.int (N:Int))/\(N=r.length↔(r.map Zab).Nodup):=by
 obtain⟨N,e,i⟩:=Zl4 (r.map Zab) (by rw[Qb];exact h3) (fun p hp=>by
  obtain⟨l,hl,rfl⟩:=Qn.mp hp
  obtain⟨⟨a1,a2,b1,b2⟩,lt⟩:=hr l hl
  show la l<lb l/\lb l<=3
  unfold la lb;omega)
 refine⟨N,?_,by rw[Qb]at i;exact i⟩
 rw[<- e,QF]
 congr 2
 refine QQ fun l hl=>?_
 obtain⟨⟨a1,a2,b1,b2⟩,lt⟩:=hr l hl
 show _=D.tup [.int ((la l:Nat):Int),.int ((lb l:Nat):Int)]
 unfold la lb
 rw[show((l.1.toNat:Nat):Int)=l.1 by omega,show((l.2.1.toNat:Nat):Int)=l.2.1 by omega]
theorem Zwc{M:List (List Bd)}{l:Bd}(hl:Zfn g.n l/\l.1<l.2.1)(hM:∀r∈M,∀x∈r,Zfn g.n x/\x.1<x.2.1)(hs:M.length<=2000)(x3:Option Cl):∃x3',
  (Zj (ZB 3 (ZK 1 [2,0] (Zh (fV 1)) (gN 0) (gB (f2 XH (fL Yv (Za (fV 0) fN)) (f2 (Z9 fun i j=>.int (i-j)) (f2 Yl (fV 2) (fC (.int 0))) (fC (.int 1))))) (f2 ZR (fV 0) (fL Yz (Za (fV 1) fN)))))
 (ZB 1 (f2 ZR (fV 1) (ZK 1 [] (Zh (fV 3)) (gN 0) (gB (f2 Xb (f1 X0 (ZK 1 [] (Zh (fV 0)) (gN 0) Xn (Zct (fV 0) pN (pS (fC (.int 2)))))) (fL Yv (Za (fV 0) fN)))) (fV 0))))) [some (.val (gD g)),some (.val (X8 M)),some (.val (bD l)),x3] =
   .nx [some (.val (gD g)),some (.val (X8 (Zhv g.n M l))),some (.val (bD l)),x3']:=by
 have n1:=h.n1
 have c1:∀u,ZK 1 [2,0] (Zh (fV 1)) (gN 0) (gB (f2 XH (fL Yv (Za (fV 0) fN)) (f2 (Z9 fun i j=>.int (i-j)) (f2 Yl (fV 2) (fC (.int 0))) (fC (.int 1))))) (f2 ZR (fV 0) (fL Yz (Za (fV 1) fN))) [some (gD g),some (X8 M),some (bD l),u]=some (X8 ((M.filter fun r=>decide (r.length<g.n-1)).map (·++[l]))):=by
  intro u
  have e:=Xt (n:=1) (ix:=[2,0]) (fi:=Zh (fV 1)) (t:=gN 0) (gt:=gB (f2 XH (fL Yv (Za (fV 0) fN)) (f2 (Z9 fun i j=>.int (i-j)) (f2 Yl (fV 2) (fC (.int 0))) (fC (.int 1))))) (fe:=f2 ZR (fV 0) (fL Yz (Za (fV 1) fN))) (ρ:=[some (gD g),some (X8 M),some (bD l),u])
   tL (fun r=>decide (r.length<g.n-1)) (fun r=>tL (r++[l])) M rfl (by omega) fun r hr=>⟨_,rfl,?_,fun hlt=>?_⟩
  ·rw[e];unfold X8;rw[QF];rfl
  ·simp! only[Zlq,VR]
   congr 1
   by_cases z:r.length<g.n-1
   ·rw[decide_eq_true z,decide_eq_true (by omega)]
   ·rw[decide_eq_false z,decide_eq_false (by omega)]
  ·have:=of_decide_eq_true hlt
   simp! only[Zax,Zyu (t:=r) (l:=l) (by omega)]
 have c2:∀u v,ZK 1 [] (Zh (fV 3)) (gN 0) (gB (f2 Xb (f1 X0 (ZK 1 [] (Zh (fV 0)) (gN 0) Xn (Zct (fV 0) pN (pS (fC (.int 2)))))) (fL Yv (Za (fV 0) fN)))) (fV 0) [u,some (X8 M),v,some (X8 ((M.filter fun r=>decide (r.length<g.n-1)).map (·++[l])))]=some (X8 (((M.filter fun r=>decide (r.length<g.n-1)).map (·++[l])).filter Zxn)):=by
  intro u v
  refine Xt tL Zxn tL ((M.filter fun r=>decide (r.length<g.n-1)).map (·++[l])) rfl (by
   rw[Qb]
   have:=Q5 (fun r:List Bd=>decide (r.length<g.n-1)) M
   omega) fun r hr=>⟨_,rfl,?_,fun _=>rfl⟩
  obtain⟨q,hq,rfl⟩:=Qn.mp hr
  obtain⟨qm,ql⟩:=QH.mp hq
  have ql:=of_decide_eq_true ql
  have ok:∀x∈q++[l],Zfn g.n x/\x.1<x.2.1:=fun x hx=>by
   rcases Qu.mp hx with z|z
   ·exact hM q qm x z
   ·rw[Q4.mp z];exact hl
  obtain⟨N,eN,iN⟩:=Zou h h4 ok (by rw[Qi,QW];omega)
  have c3:ZK 1 [] (Zh (fV 0)) (gN 0) Xn (Zct (fV 0) pN (pS (fC (.int 2)))) [some (tL (q++[l]))]=some (.lst ((q++[l]).map fun l=>D.tup [.int l.1,.int l.2.1])) :=
   Yw bD (fun l=>D.tup [.int l.1,.int l.2.1]) (q++[l]) rfl (by rw[Qi,QW];omega) fun x _=>⟨_,rfl,by simp! only[part2]⟩
  simp! only[c3,eN,Zlq,XB]
  congr 1
  unfold Zxn
  by_cases z:((q++[l]).map Zab).Nodup
  ·rw[decide_eq_true z,decide_eq_true (by have:=iN.mpr z;omega)]
  ·rw[decide_eq_false z,decide_eq_false (fun y=>z (iN.mp (by omega)))]
 refine⟨some (.val (X8 ((M.filter fun r=>decide (r.length<g.n-1)).map (·++[l])))),?_⟩
 have fl:=Q5 (fun r:List Bd=>decide (r.length<g.n-1)) M
 have fl2:=Q5 Zxn ((M.filter fun r=>decide (r.length<g.n-1)).map (·++[l]))
 rw[Qb]at fl2
 simp! only[c1,c2,Zy9 (show M.length+(((M.filter fun r=>decide (r.length<g.n-1)).map (·++[l])).filter Zxn).length<=65536 by omega)]
 rfl
theorem md_ok{M:List (List Bd)}{l:Bd}(hl:Zfn g.n l/\l.1<l.2.1)(hM:∀r∈M,∀x∈r,Zfn g.n x/\x.1<x.2.1):∀r∈Zhv g.n M l,∀x∈r,Zfn g.n x/\x.1<x.2.1:=by
 intro r hr x hx
 rcases Qu.mp hr with z|z
 ·exact hM r z x hx
 ·obtain⟨q,hq,rfl⟩:=Qn.mp (QH.mp z).1
  rcases Qu.mp hx with y|y
  ·exact hM q (QH.mp hq).1 x y
  ·rw[Q4.mp y];exact hl
theorem Zv8(M:List (List Bd))(l:Bd):(Zhv g.n M l).length<=2*M.length:=by
 have:=Zsi (n:=g.n) [l] M
 simpa using this
theorem Zwd:∀(ls:List Bd) (M:List (List Bd)) (x2 x3:Option Cl),(∀l∈ls,Zfn g.n l/\l.1<l.2.1)->(∀r∈M,∀x∈r,Zfn g.n x/\x.1<x.2.1)->2^ls.length*M.length<=1000->∃x2' x3',
  Z8 (gN 2) (Zj (ZB 3 (ZK 1 [2,0] (Zh (fV 1)) (gN 0) (gB (f2 XH (fL Yv (Za (fV 0) fN)) (f2 (Z9 fun i j=>.int (i-j)) (f2 Yl (fV 2) (fC (.int 0))) (fC (.int 1))))) (f2 ZR (fV 0) (fL Yz (Za (fV 1) fN)))))
 (ZB 1 (f2 ZR (fV 1) (ZK 1 [] (Zh (fV 3)) (gN 0) (gB (f2 Xb (f1 X0 (ZK 1 [] (Zh (fV 0)) (gN 0) Xn (Zct (fV 0) pN (pS (fC (.int 2)))))) (fL Yv (Za (fV 0) fN)))) (fV 0))))) (ls.map bD) [some (.val (gD g)),some (.val (X8 M)),x2,x3] =
   .nx [some (.val (gD g)),some (.val (X8 (ls.foldl (Zhv g.n) M))),x2',x3']:=by
 intro ls
 induction ls with
 |nil=>intro M x2 x3 _ _ _;exact⟨x2,x3,rfl⟩
 |cons l ls ih =>
  intro M x2 x3 hl hM hs
  have l1:=hl l Qd
  have ml:=Zv8 h h4 M l
  simp only[Qk,Nat.pow_succ]at hs
  have p1:1<=2^ls.length:=Nat.one_le_two_pow
  have m1:M.length<=1000:=by
   have:1*M.length<=2^ls.length*2*M.length:=Nat.mul_le_mul_right _ (by omega)
   omega
  obtain⟨y3,e1⟩:=Zwc h h4 l1 hM (by omega) x3
  obtain⟨z2,z3,e2⟩:=ih (Zhv g.n M l) (some (.val (bD l))) y3 (fun x hx=>hl x (Qc _ hx)) (md_ok h h4 l1 hM) (by
   have:2^ls.length*(Zhv g.n M l).length<=2^ls.length*(2*M.length):=Nat.mul_le_mul_left _ ml
   rw[<- Nat.mul_assoc]at this
   omega)
  refine⟨z2,z3,?_⟩
  rw[Qe]
  unfold Z8
  have eg:gN 2 (bD l)=some [(2,bD l)]:=rfl
  rw[eg]
  dsimp only
  have es:XA [some (.val (gD g)),some (.val (X8 M)),x2,x3] [(2,bD l)]=[some (.val (gD g)),some (.val (X8 M)),some (.val (bD l)),x3]:=rfl
  rw[es,e1]
  exact e2
theorem Zkg(h9:(Ym g.bs).length<=9)(h64:(TR g).length<64):YJ [gD g]=some (.lst ((TR g).map tL)):=by
 have n1:=h.n1
 have ok:∀l∈Ym g.bs,Zfn g.n l/\l.1<l.2.1:=fun l hl=>by
  refine⟨Uk h l hl,?_⟩
  obtain⟨b,hb,e1,e2,_⟩:=Za1.mp hl
  have:=h.rg b hb
  omega
 have p9:2^(Ym g.bs).length<=2^9:=Nat.pow_le_pow_right (by omega) h9
 obtain⟨x2,x3,e⟩:=Zwd h h4 (Ym g.bs) [[]] none none ok (fun r hr x hx=>by rw[Q4.mp hr]at hx;cases hx) (by simp;omega)
 have ml:=Zsi (n:=g.n) (Ym g.bs) [[]]
 obtain⟨pm,rise⟩:=Zbv h h4
 have hmem:∀r∈(Ym g.bs).foldl (Zhv g.n) [[]],∀l∈r,Zfn g.n l:=by
  have ndl:(Ym g.bs).Nodup:=(Wp h).imp fun{a b} hab e=>by subst e;rw[XS]at hab;cases hab
  have mk:=Znq (n:=g.n) (Ym g.bs) [] [[]] (by rw[QX];exact ndl) (Znp g.n)
  rw[QX]at mk
  intro r hr l hl
  exact Uk h l (((mk.mem r).mp hr).1.subset hl)
 have hc:∀u v,ZK 1 [0] (Zh (fV 1)) (gN 0) (U2 (gB (f2 Xb (fL Yv (Za (fV 0) fN)) (f2 (Z9 fun i j=>.int (i-j)) (f2 Yl (fV 1) (fC (.int 0))) (fC (.int 1))))) (Xr (fL Yk (Za (fV 1) (Za (fV 0) fN))))) (fV 0) [some (gD g),some (X8 ((Ym g.bs).foldl (Zhv g.n) [[]])),u,v]=some (X8 (Zl6 g.n (Ym g.bs))):=by
  intro u v
  refine Xt tL (fun r=>decide (r.length=g.n-1)&&Zk4 g.n r Ve) tL _ rfl (by simp at ml;omega) fun r hr=>⟨_,rfl,?_,fun _=>rfl⟩
  have it:=Zpt h (t:=r) (hmem r hr)
  simp! only[Zlq,VR,XB,it]
  by_cases z:r.length=g.n-1
  ·rw[decide_eq_true z,decide_eq_true (show(r.length:Int)=(g.n:Int)-1 by omega)];simp
  ·rw[decide_eq_false z,decide_eq_false (show ¬(r.length:Int)=(g.n:Int)-1 by omega)];simp
 have rr:∀M:List (List Bd),X8 M=.lst ((M.map fun t=>t.map kb).map Zaq):=fun M=>by
  unfold X8
  rw[QF]
  congr 1
  refine QQ fun t _=>?_
  show tL t=Zaq (t.map kb)
  unfold tL Zaq
  rw[QF];rfl
 have pm2:((TR g).map fun t=>t.map kb).Perm ((Zl6 g.n (Ym g.bs)).map fun t=>t.map kb):=pm.map _
 have rise2:((TR g).map fun t=>t.map kb).Pairwise (fun x y=>UN x y=true):=by rw[Q0];exact rise
 have ss:Xz [X8 (Zl6 g.n (Ym g.bs))]=some (.lst ((TR g).map tL)):=by
  rw[rr]
  unfold Xz
  dsimp only
  rw[Zbk]
  dsimp only
  have nd:((Zl6 g.n (Ym g.bs)).map fun t=>t.map kb).Nodup:=(pm2.nodup_iff).mp (rise2.imp fun{a b} hab e=>by subst e;rw[UF]at hab;cases hab)
  rw[if_pos ⟨by rw[Qb,<- pm.length_eq];exact h64,nd⟩,<- VE pm2 rise2]
  have:=rr (TR g)
  unfold X8 at this
  rw[this]
 have hb:YJ=Z4 1 4 (Zj (ZB 1 (fL Yz (Za (fL Yz fN) fN))) (Zj (YB (Zh (fL Zu (Za (fV 0) fN))) (gN 2) (Zj (ZB 3 (ZK 1 [2,0] (Zh (fV 1)) (gN 0) (gB (f2 XH (fL Yv (Za (fV 0) fN)) (f2 (Z9 fun i j=>.int (i-j)) (f2 Yl (fV 2) (fC (.int 0))) (fC (.int 1))))) (f2 ZR (fV 0) (fL Yz (Za (fV 1) fN)))))
 (ZB 1 (f2 ZR (fV 1) (ZK 1 [] (Zh (fV 3)) (gN 0) (gB (f2 Xb (f1 X0 (ZK 1 [] (Zh (fV 0)) (gN 0) Xn (Zct (fV 0) pN (pS (fC (.int 2)))))) (fL Yv (Za (fV 0) fN)))) (fV 0))))))
 (Z1 (fL Xz (Za (ZK 1 [0] (Zh (fV 1)) (gN 0) (U2 (gB (f2 Xb (fL Yv (Za (fV 0) fN)) (f2 (Z9 fun i j=>.int (i-j)) (f2 Yl (fV 1) (fC (.int 0))) (fC (.int 1))))) (Xr (fL Yk (Za (fV 1) (Za (fV 0) fN))))) (fV 0)) fN))))):=rfl
 have hf:∀(F:FS),YB (Zh (fL Zu (Za (fV 0) fN))) (gN 2) F [some (.val (gD g)),some (.val (X8 [[]])),none,none]=Z8 (gN 2) F ((Ym g.bs).map bD) [some (.val (gD g)),some (.val (X8 [[]])),none,none]:=fun F=>by
  unfold YB
  simp! only[Zcl h]
  rfl
 have hz:(.lst [.lst []]:D)=X8 [[]]:=rfl
 rw[hb]
 unfold Z4
 rw[if_pos (show([gD g]:List D).length=1 from rfl)]
 have es:Yq 1 4 [gD g]=[some (.val (gD g)),none,none,none]:=rfl
 have e1:ZB 1 (fL Yz (Za (fL Yz fN) fN)) [some (.val (gD g)),none,none,none]=.nx [some (.val (gD g)),some (.val (X8 [[]])),none,none]:=by
  simp! only[VY,Zax,hz]
 rw[es,ZV,e1,ZJ,ZV,hf,e,ZJ]
 simp! only[hc,ss]
end
def sJ(js:List Jn):Int:=(js.map (·.2)).sum
theorem Zhy(j:Jn)(js:List Jn)(p:Nat×Nat):Zbe (j::js) p=if j.1=p then some j.2 else Zbe js p:=by
 unfold Zbe
 rw[Ju]
 by_cases h:j.1=p
 ·simp[h]
 ·simp[h]
theorem Zso:∀(js:List Jn) (p:Nat×Nat),p∉js.map (·.1)->Zbe js p=none/\∀v:Int,js.map (fun j=>if j.1=p then(p,v) else j)=js:=by
 intro js
 induction js with
 |nil=>intro p _;exact⟨rfl,fun _=>rfl⟩
 |cons j js ih =>
  intro p h
  rw[Qe,Qm,not_or]at h
  obtain⟨a,b⟩:=ih p h.2
  have hne:¬j.1=p:=fun e=>h.1 e.symm
  refine⟨by rw[Zhy,if_neg hne];exact a,fun v=>?_⟩
  rw[Qe,if_neg hne,b v]
theorem Zvd(v:Int):∀(js:List Jn) (p:Nat×Nat),(js.map (·.1)).Nodup->p∈js.map (·.1)->sJ (js.map (fun j=>if j.1=p then(p,v) else j))=sJ js+v-(Zbe js p).getD 0:=by
 intro js
 induction js with
 |nil=>intro p _ h;cases h
 |cons j js ih =>
  intro p nd h
  rw[Qe,QP]at nd
  rw[Qe,Zhy]
  by_cases e:j.1=p
  ·rw[if_pos e,if_pos e]
   rw[e]at nd
   rw[(Zso js p nd.1).2 v]
   show v+sJ js=j.2+sJ js+v-j.2
   omega
  ·rw[if_neg e,if_neg e]
   have hm:p∈js.map (·.1):=by
    rcases Qm.mp h with z|z
    ·exact absurd z.symm e
    ·exact z
   have:=ih p nd.2 hm
   show j.2+sJ _=j.2+sJ js+v-_
   omega
theorem Zjr{n m:Nat}{js:List Jn}(h:Zqg n m js){p:Nat×Nat}{v:Int}:sJ (Ub js p v)=sJ js+v-(Zbe js p).getD 0:=by
 unfold Ub
 by_cases hm:p∈js.map (·.1)
 ·rw[if_pos hm];exact Zvd v js p h.nd hm
 ·rw[if_neg hm,(Zso js p hm).1]
  unfold sJ
  rw[QM,List.sum_append]
  simp
theorem Zsq{n m:Nat}{js:List Jn}(h:Zqg n m js)(p:Nat×Nat):0<=(Zbe js p).getD 0:=by
 cases e:Zbe js p with
 |none=>exact JM 0
 |some v=>have:=Zsp h e;show 0<=v;omega
theorem Z0e:∀(js:List Jn),(js.map (·.1)).Nodup->∀j∈js,Zbe js j.1=some j.2:=by
 intro js
 induction js with
 |nil=>intro _ j hj;cases hj
 |cons a js ih =>
  intro nd j hj
  rw[Qe,QP]at nd
  rw[Zhy]
  rcases Qm.mp hj with rfl|hj
  ·rw[if_pos rfl]
  ·rw[if_neg fun e=>nd.1 (by rw[e];exact Qn.mpr ⟨j,hj,rfl⟩)]
   exact ih nd.2 j hj
theorem Znz:∀bs:List Bd,(∀b∈bs,0<=b.2.2)->((Ym bs).length:Int)=(bs.map fun b=>b.2.2).sum:=by
 intro bs
 induction bs with
 |nil=>intro _;rfl
 |cons b bs ih =>
  intro h
  have:=ih fun x hx=>h x (Qc _ hx)
  have hb:=h b Qd
  unfold Ym at this ⊢
  rw[Q8,Qi,Qb,Qt,Qe,Jr,<- this]
  omega
theorem psum{a b:List Int}(h:a.Perm b):a.sum=b.sum:=by
 induction h with
 |nil=>rfl
 |cons x _ ih=>rw[Jr,Jr,ih]
 |swap x y l=>simp only[Jr];omega
 |trans _ _ i1 i2=>rw[i1,i2]
theorem Zwt{n:Nat}{js:List Jn}(h:Zqg n n js):((Ym (Zb0 js)).length:Int)=sJ js:=by
 have val:∀j∈js,(Zbe js (((ki j.1).getD 0 0).toNat,((ki j.1).getD 1 0).toNat)).getD 0=j.2:=fun j hj=>by
  show(Zbe js (((j.1.1:Nat):Int).toNat,((j.1.2:Nat):Int).toNat)).getD 0=j.2
  rw[Qz,Qz,show((j.1.1,j.1.2):Nat×Nat)=j.1 from rfl,Z0e js h.nd j hj];rfl
 rw[Znz _ fun b hb=>by
  unfold Zb0 at hb
  obtain⟨k,hk,rfl⟩:=Qn.mp hb
  obtain⟨j,hj,rfl⟩:=Qn.mp (WH.mp hk)
  show 0<=(Zbe js (((ki j.1).getD 0 0).toNat,((ki j.1).getD 1 0).toNat)).getD 0
  rw[val j hj]
  have:=h.rg j hj
  omega]
 unfold Zb0 sJ
 rw[QF]
 have pm:(W4 (js.map fun j=>ki j.1)).Perm (js.map fun j=>ki j.1):=JA _ _
 rw[psum (pm.map _),QF]
 congr 1
 exact QQ fun j hj=>val j hj
theorem Zpu(ns:List Int){a:Int}{t:Nat}(ha:0<=a)(ht:1<=t)(h5:t<=5):∃g,W1 g/\g.n<=t/\((Ym g.bs).length:Int)<=2*((g.n:Int)-1)+3/\YC [.scr ns,.int a,.int t]=some (gD g):=by
 have tp:(0:Int)<(t:Int):=by omega
 obtain⟨n,hn⟩:∃n:Nat,1+Zaw ns a t=(n:Int):=⟨(1+Zaw ns a t).toNat,by have:=Uf (ns:=ns) (k:=a) tp;omega⟩
 have m0:=Uf (ns:=ns) (k:=a) tp
 have m1:=UX (ns:=ns) (k:=a) tp
 have n1:1<=n:=by omega
 have nt:n<=t:=by omega
 have es:Yq 3 10 [D.scr ns,.int a,.int t]=[some (.val (.scr ns)),some (.val (.int a)),some (.val (.int t)),none,none,none,none,none,none,none]:=rfl
 have e1:ZB 3 (f2 ZR (fC (.int 1)) (fL Zo (Za (fV 0) (Za (fV 1) (Za (fV 2) fN))))) [some (.val (.scr ns)),some (.val (.int a)),some (.val (.int t)),none,none,none,none,none,none,none] =
   .nx [some (.val (.scr ns)),some (.val (.int a)),some (.val (.int t)),some (.val (.int n)),none,none,none,none,none,none]:=by
  simp! only[Vf ns ha tp,hn]
 have e2:Zrh 4 [some (.val (.scr ns)),some (.val (.int a)),some (.val (.int t)),some (.val (.int n)),none,none,none,none,none,none]=.nx (Xs ns a t n [] [none,none,none,none,none]):=rfl
 have loop1:∃js x,Y1 (fR Zbl (Za (fC (.int 1)) (Za (fV 3) fN))) (gN 5) (YX 4 (fL Yy (Za (fL Zo (Za (fV 0) (Za (f2 ZR (fV 1) (fV 5)) (Za (fV 5) fN)))) (Za (fV 5) fN))) (f2 ZR (fC (.int 1)) (f2 Zgm (fL Zo (Za (fV 0) (Za (f2 ZR (f2 ZR (fV 1) (fC (.int 5))) (fV 5)) (Za (fC (.int 5)) fN)))) (fC (.int 3)))))
   (Xs ns a t n [] [none,none,none,none,none])=.nx (Xs ns a t n js [x,none,none,none,none])/\Zqg n n js/\js.length<=4/\sJ js<=2*((n:Int)-1):=by
  have hr:fR Zbl (Za (fC (.int 1)) (Za (fV 3) fN)) (Ye (Xs ns a t n [] [none,none,none,none,none]))=some ((List.range (n-1)).map fun(k:Nat)=>D.int (1+(k:Int))):=by
   unfold Xs
   simp! only[Znh (i:=1) (j:=n) (by omega) (by omega) (by omega) (by omega)]
   rw[show((n:Int)-1).toNat=n-1 by omega]
  unfold Y1
  rw[hr]
  dsimp only
  obtain⟨ρ',e,⟨js,x,rfl,h1,h2,h3⟩⟩:=Um (t:=gN 5) (F:=YX 4 (fL Yy (Za (fL Zo (Za (fV 0) (Za (f2 ZR (fV 1) (fV 5)) (Za (fV 5) fN)))) (Za (fV 5) fN))) (f2 ZR (fC (.int 1)) (f2 Zgm (fL Zo (Za (fV 0) (Za (f2 ZR (f2 ZR (fV 1) (fC (.int 5))) (fV 5)) (Za (fC (.int 5)) fN)))) (fC (.int 3)))))
   (fun m ρ=>∃js x,ρ=Xs ns a t n js [x,none,none,none,none]/\Zqg n (m+1) js/\js.length<=m/\sJ js<=2*(m:Int)) ((List.range (n-1)).map fun(k:Nat)=>D.int (1+(k:Int))) 0 (Xs ns a t n [] [none,none,none,none,none]) (fun m e ρ he hP=>by
    obtain⟨js,x,rfl,h1,h2,h3⟩:=hP
    rw[QC]at he
    have hm:m<n-1:=by
     cases q:(List.range (n-1))[m]? with
     |none=>rw[q]at he;cases he
     |some z=>have:=(Qp.mp q).1;simpa using this
    rw[List.getElem?_range hm]at he
    cases he
    have y0:(0:Int)<1+(m:Int):=by omega
    have k0:=Uf (ns:=ns) (k:=a+(1+(m:Int))) y0
    have k1:=UX (ns:=ns) (k:=a+(1+(m:Int))) y0
    have v0:=Uf (ns:=ns) (k:=a+5+(1+(m:Int))) (show(0:Int)<5 by decide)
    have v1:=UX (ns:=ns) (k:=a+5+(1+(m:Int))) (show(0:Int)<5 by decide)
    refine⟨_,_,rfl,gput (js:=js) (p:=((Zaw ns (a+(1+(m:Int))) (1+(m:Int))).toNat,m+1)) (v:=1+Zaw ns (a+5+(1+(m:Int))) 5/3) (x:=[some (.val (.int (1+(m:Int)))),none,none,none,none]) ?_ ?_ (by omega),_,some (.val (.int (1+(m:Int)))),rfl,?_,?_,?_⟩
    ·unfold Xs
     simp! only[Vf ns (show 0<=a+(1+(m:Int)) by omega) y0,Yu,Nat.reduceLeDiff]
     rw[show(((Zaw ns (a+(1+(m:Int))) (1+(m:Int))).toNat:Nat):Int)=Zaw ns (a+(1+(m:Int))) (1+(m:Int)) by omega,Int.add_comm (m:Int) 1]
    ·unfold Xs
     simp! only[Vf ns (show 0<=a+5+(1+(m:Int)) by omega) (show(0:Int)<5 by decide),Zti (show(0:Int)<3 by decide) (show(3:Int)<1073741824 by decide)]
    ·exact h1.put (by show _<m+1;omega) (by show m+1<n;omega) (by omega) (by omega) (.inr ⟨by omega,by show m+1=0+m+1;omega⟩)
    ·have:=Zjs (js:=js) (p:=((Zaw ns (a+(1+(m:Int))) (1+(m:Int))).toNat,m+1)) (v:=1+Zaw ns (a+5+(1+(m:Int))) 5/3)
     omega
    ·have:=Zjr h1 (p:=((Zaw ns (a+(1+(m:Int))) (1+(m:Int))).toNat,m+1)) (v:=1+Zaw ns (a+5+(1+(m:Int))) 5/3)
     have:=Zsq h1 ((Zaw ns (a+(1+(m:Int))) (1+(m:Int))).toNat,m+1)
     omega) ⟨[],none,rfl,⟨by simp,fun j hj=>(by cases hj),fun y y1 ym=>(by omega)⟩,Qj _,by unfold sJ;simp⟩
  refine⟨js,x,e,?_,?_,?_⟩
  ·rw[Qb,Qt,show 0+(n-1)+1=n by omega]at h1;exact h1
  ·rw[Qb,Qt]at h2;omega
  ·rw[Qb,Qt]at h3;omega
 obtain⟨js1,x1,l1,ok1,len1,sum1⟩:=loop1
 have loop2:∃js x,Y1 (fR YW (Za (f2 WQ (fL Zo (Za (fV 0) (Za (f2 ZR (fV 1) (fC (.int 10))) (Za (fC (.int 4)) fN)))) (fL Zei (Za (f2 (Z9 fun i j=>.bl (decide (j<i))) (fV 3) (fC (.int 1))) fN))) fN)) (gN 6) (Zj (ZB 7 (fL Zo (Za (fV 0) (Za (f2 ZR (f2 ZR (fV 1) (fC (.int 11))) (f2 WQ (fC (.int 2)) (fV 6))) (Za (fV 3) fN)))))
 (Zj (ZB 8 (f2 Ue (f2 ZR (f2 ZR (fV 7) (fC (.int 1))) (fL Zo (Za (fV 0) (Za (f2 ZR (f2 ZR (fV 1) (fC (.int 12))) (f2 WQ (fC (.int 2)) (fV 6))) (Za (f2 (Z9 fun i j=>.int (i-j)) (fV 3) (fC (.int 1))) fN))))) (fV 3)))
 (Zj (ZB 9 (fL Yy (Za (fL UY (Za (fV 7) (Za (fV 8) fN))) (Za (fL UZ (Za (fV 7) (Za (fV 8) fN))) fN))))
 (YX 4 (fV 9) (f2 ZR (f2 Ue (Zpx (fV 4) (fV 9) (fC (.int 0))) (fC (.int 4))) (fC (.int 1)))))))
   (Xs ns a t n js1 [x1,none,none,none,none])=.nx (Xs ns a t n js x)/\Zqg n n js/\js.length<=8/\sJ js<=2*((n:Int)-1)+3:=by
  have q0:=Uf (ns:=ns) (k:=a+10) (show(0:Int)<4 by decide)
  have q1:=UX (ns:=ns) (k:=a+10) (show(0:Int)<4 by decide)
  obtain⟨r,hr4,hrn,hr⟩:∃r:Nat,r<=3/\(0<r->1<n)/\fR YW (Za (f2 WQ (fL Zo (Za (fV 0) (Za (f2 ZR (fV 1) (fC (.int 10))) (Za (fC (.int 4)) fN)))) (fL Zei (Za (f2 (Z9 fun i j=>.bl (decide (j<i))) (fV 3) (fC (.int 1))) fN))) fN) (Ye (Xs ns a t n js1 [x1,none,none,none,none]))=some ((List.range r).map fun k=>D.int (k:Nat)):=by
   have sm:∀z,WQ (.int (Zaw ns (a+10) 4)) (.int z)=some (.int (Zaw ns (a+10) 4*z)):=fun z=>Zbs (Wi (by omega) (by omega))
   by_cases hn1:(1:Int)<n
   ·refine⟨(Zaw ns (a+10) 4).toNat,by omega,fun _=>by omega,?_⟩
    unfold Xs
    simp! only[Vf ns (show 0<=a+10 by omega) (show(0:Int)<4 by decide),hn1,Zei,sm,Int.mul_one,Zhg q0 (show Zaw ns (a+10) 4<=65536 by omega)]
   ·refine⟨0,by omega,fun z=>absurd z (by omega),?_⟩
    unfold Xs
    simp! only[Vf ns (show 0<=a+10 by omega) (show(0:Int)<4 by decide),hn1,Zei,sm,Int.mul_zero,Zhg (j:=0) (by decide) (by decide)]
    rfl
  unfold Y1
  rw[hr]
  dsimp only
  obtain⟨ρ',e,⟨js,x5,x6,x7,x8,x9,rfl,h1,h2,h3⟩⟩:=Um (t:=gN 6) (F:=Zj (ZB 7 (fL Zo (Za (fV 0) (Za (f2 ZR (f2 ZR (fV 1) (fC (.int 11))) (f2 WQ (fC (.int 2)) (fV 6))) (Za (fV 3) fN)))))
 (Zj (ZB 8 (f2 Ue (f2 ZR (f2 ZR (fV 7) (fC (.int 1))) (fL Zo (Za (fV 0) (Za (f2 ZR (f2 ZR (fV 1) (fC (.int 12))) (f2 WQ (fC (.int 2)) (fV 6))) (Za (f2 (Z9 fun i j=>.int (i-j)) (fV 3) (fC (.int 1))) fN))))) (fV 3)))
 (Zj (ZB 9 (fL Yy (Za (fL UY (Za (fV 7) (Za (fV 8) fN))) (Za (fL UZ (Za (fV 7) (Za (fV 8) fN))) fN))))
 (YX 4 (fV 9) (f2 ZR (f2 Ue (Zpx (fV 4) (fV 9) (fC (.int 0))) (fC (.int 4))) (fC (.int 1)))))))
   (fun m ρ=>∃js x5 x6 x7 x8 x9,ρ=Xs ns a t n js [x5,x6,x7,x8,x9]/\Zqg n n js/\js.length<=m+4/\sJ js<=2*((n:Int)-1)+m) ((List.range r).map fun k=>D.int (k:Nat)) 0 (Xs ns a t n js1 [x1,none,none,none,none]) (fun m e ρ he hP=>by
    obtain⟨js,x5,x6,x7,x8,x9,rfl,h1,h2,h3⟩:=hP
    rw[QC]at he
    have hm:m<r:=by
     cases q:(List.range r)[m]? with
     |none=>rw[q]at he;cases he
     |some z=>have:=(Qp.mp q).1;simpa using this
    rw[List.getElem?_range hm]at he
    cases he
    have n2:=hrn (by omega)
    have np:(0:Int)<(n:Int):=by omega
    have np1:(0:Int)<(n:Int)-1:=by omega
    obtain⟨i,hi⟩:∃i:Nat,Zaw ns (a+11+2*(m:Int)) n=(i:Int):=⟨(Zaw ns (a+11+2*(m:Int)) n).toNat,by have:=Uf (ns:=ns) (k:=a+11+2*(m:Int)) np;omega⟩
    have iN:i<n:=by have:=UX (ns:=ns) (k:=a+11+2*(m:Int)) np;omega
    have u0:=Uf (ns:=ns) (k:=a+12+2*(m:Int)) np1
    have u1:=UX (ns:=ns) (k:=a+12+2*(m:Int)) np1
    obtain⟨j,hj⟩:∃j:Nat,((i:Int)+1+Zaw ns (a+12+2*(m:Int)) ((n:Int)-1))%(n:Int)=(j:Int):=⟨(((i:Int)+1+Zaw ns (a+12+2*(m:Int)) ((n:Int)-1))%(n:Int)).toNat,by have:=Int.emod_nonneg ((i:Int)+1+Zaw ns (a+12+2*(m:Int)) ((n:Int)-1)) (show(n:Int)≠0 by omega);omega⟩
    have jN:j<n:=by have:=Int.emod_lt_of_pos ((i:Int)+1+Zaw ns (a+12+2*(m:Int)) ((n:Int)-1)) np;omega
    have ij:i≠j:=fun z=>by
     subst z
     by_cases w:(i:Int)+1+Zaw ns (a+12+2*(m:Int)) ((n:Int)-1)<n
     ·rw[Int.emod_eq_of_lt (by omega) w]at hj;omega
     ·have:((i:Int)+1+Zaw ns (a+12+2*(m:Int)) ((n:Int)-1))%(n:Int)=(i:Int)+1+Zaw ns (a+12+2*(m:Int)) ((n:Int)-1)-n:=by
       rw[<- Int.sub_emod_right,Int.emod_eq_of_lt (by omega) (by omega)]
      omega
    have s7:ZB 7 (fL Zo (Za (fV 0) (Za (f2 ZR (f2 ZR (fV 1) (fC (.int 11))) (f2 WQ (fC (.int 2)) (fV 6))) (Za (fV 3) fN)))) (Xs ns a t n js [x5,some (.val (.int (m:Int))),x7,x8,x9])=.nx (Xs ns a t n js [x5,some (.val (.int (m:Int))),some (.val (.int i)),x8,x9]):=by
     unfold Xs
     simp! only[Zbs (Wi (i:=2) (by decide) (by decide)),Vf ns (show 0<=a+11+2*(m:Int) by omega) np,hi]
    have s8:ZB 8 (f2 Ue (f2 ZR (f2 ZR (fV 7) (fC (.int 1))) (fL Zo (Za (fV 0) (Za (f2 ZR (f2 ZR (fV 1) (fC (.int 12))) (f2 WQ (fC (.int 2)) (fV 6))) (Za (f2 (Z9 fun i j=>.int (i-j)) (fV 3) (fC (.int 1))) fN))))) (fV 3)) (Xs ns a t n js [x5,some (.val (.int (m:Int))),some (.val (.int i)),x8,x9])=.nx (Xs ns a t n js [x5,some (.val (.int (m:Int))),some (.val (.int i)),some (.val (.int j)),x9]):=by
     unfold Xs
     simp! only[Zbs (Wi (i:=2) (by decide) (by decide)),Vf ns (show 0<=a+12+2*(m:Int) by omega) np1,np,hj]
    have s9:ZB 9 (fL Yy (Za (fL UY (Za (fV 7) (Za (fV 8) fN))) (Za (fL UZ (Za (fV 7) (Za (fV 8) fN))) fN))) (Xs ns a t n js [x5,some (.val (.int (m:Int))),some (.val (.int i)),some (.val (.int j)),x9])=.nx (Xs ns a t n js [x5,some (.val (.int (m:Int))),some (.val (.int i)),some (.val (.int j)),some (.val (.tup [.int (min i j:Nat),.int (max i j:Nat)]))]):=by
     unfold Xs
     simp! only[Zd4,Zd6,Yu,Nat.reduceLeDiff]
    obtain⟨v,hv⟩:∃v:Int,(match Zbe js (min i j,max i j) with|some v=>v|none=>0)=v:=⟨_,rfl⟩
    have sv:(f2 ZR (f2 Ue (Zpx (fV 4) (fV 9) (fC (.int 0))) (fC (.int 4))) (fC (.int 1))) (Ye (Xs ns a t n js [x5,some (.val (.int (m:Int))),some (.val (.int i)),some (.val (.int j)),some (.val (.tup [.int (min i j:Nat),.int (max i j:Nat)]))]))=some (.int (v%4+1)):=by
     unfold Xs
     have p4:(0:Int)<4:=by decide
     have kt:=Zh2 (min i j,max i j)
     dsimp only at kt
     simp! only[Zpx,Up,kt,Z0f]
     cases w:Zbe js (min i j,max i j) with
     |none =>
      rw[w]at hv
      dsimp only at hv
      subst hv
      simp! only[Option.map_none,p4]
     |some u =>
      rw[w]at hv
      dsimp only at hv
      subst hv
      simp! only[p4]
    refine⟨_,Xs ns a t n (Ub js (min i j,max i j) (v%4+1)) [x5,some (.val (.int (m:Int))),some (.val (.int i)),some (.val (.int j)),some (.val (.tup [.int (min i j:Nat),.int (max i j:Nat)]))],rfl,?_,_,_,_,_,_,_,rfl,?_,?_,?_⟩
    ·show Zr9 (ZB 7 _ (Xs ns a t n js [x5,some (.val (.int (m:Int))),x7,x8,x9])) _=_
     rw[s7,ZJ,ZV,s8,ZJ,ZV,s9,ZJ]
     exact gput (p:=(min i j,max i j)) rfl sv (by omega)
    ·have:0<=v%4:=Int.emod_nonneg _ (by decide)
     have:v%4<4:=Int.emod_lt_of_pos _ (by decide)
     exact h1.put (by show min i j<max i j;omega) (by show max i j<n;omega) (by omega) (by omega) (.inl (Qj _))
    ·have:=Zjs (js:=js) (p:=(min i j,max i j)) (v:=v%4+1)
     omega
    ·have hv':(Zbe js (min i j,max i j)).getD 0=v:=by
      rw[<- hv]
      cases Zbe js (min i j,max i j)<;>rfl
     have s:=Zjr h1 (p:=(min i j,max i j)) (v:=v%4+1)
     have nn:=Zsq h1 (min i j,max i j)
     rw[hv']at s nn
     have:v%4<=v:=by omega
     omega) ⟨js1,x1,none,none,none,none,rfl,ok1,by omega,by simpa using sum1⟩
  refine⟨js,_,e,h1,?_,?_⟩
  ·rw[Qb,Qt]at h2
   omega
  ·rw[Qb,Qt]at h3
   omega
 obtain⟨js,x,l2,ok2,len2,sum2⟩:=loop2
 refine⟨⟨n,Zb0 js⟩,Zwm ok2 n1 (by omega) (by omega),nt,by show((Ym (Zb0 js)).length:Int)<=2*((n:Int)-1)+3;rw[Zwt ok2];exact sum2,?_⟩
 unfold YC Vo Z4
 rw[if_pos (show([D.scr ns,.int a,.int t]:List D).length=3 from rfl),es,ZV,e1,ZJ,ZV,e2,ZJ,ZV,l1,ZJ,ZV,l2,ZJ]
 have hs:Y0 [.lst ((kJ js).map fun k=>.tup (k.map kD))]=some (.lst ((W4 (js.map fun j=>ki j.1)).map kT)):=by
  have:((kJ js).map fun k=>D.tup (k.map kD))=(js.map fun j=>ki j.1).map kT:=by
   unfold kJ
   rw[QF,QF]
   rfl
  rw[this]
  refine Zal (by rw[Qb];omega) (Zj9 ok2.nd) fun k hk=>?_
  obtain⟨j,_,rfl⟩:=Qn.mp hk
  unfold ki;simp
 unfold Xs
 simp! only[]
 rw[Yw kT (fun k=>bD (k.getD 0 0,k.getD 1 0,(Zbe js ((k.getD 0 0).toNat,(k.getD 1 0).toNat)).getD 0)) (W4 (js.map fun j=>ki j.1)) (by simp! only[Zh0,hs,We]) (by rw[Zfv,Qb];omega)]
 ·simp! only[Zlk,Yu,Nat.reduceLeDiff]
  unfold gD Zb0
  rw[QF]
  rfl
 ·intro k hk
  refine⟨_,rfl,?_⟩
  obtain⟨j,hj,rfl⟩:=Qn.mp (WH.mp hk)
  obtain⟨v,hv⟩:=Zj6 (js:=js) (p:=j.1) (Qn.mpr ⟨j,hj,rfl⟩)
  have kt:=Zh2 j.1
  have ek:kT (ki j.1)=.tup [.int j.1.1,.int j.1.2]:=rfl
  have e0:(Zbe js (((ki j.1).getD 0 0).toNat,((ki j.1).getD 1 0).toNat)).getD 0=v:=by
   show(Zbe js (((j.1.1:Nat):Int).toNat,((j.1.2:Nat):Int).toNat)).getD 0=v
   rw[Qz,Qz,show((j.1.1,j.1.2):Nat×Nat)=j.1 from rfl,hv];rfl
  rw[e0]
  simp! only[ek,Z04,Up,kt,Z0f,hv,Yu,Nat.reduceLeDiff]
  rfl
theorem Zu9{α:Type}{r:α->α->Prop}(irr:∀x,¬r x x)(asy:∀x y,r x y->¬r y x):∀l1 l2:List α,l1.Pairwise r->l2.Pairwise r->(∀x,x∈l1↔x∈l2)->l1=l2:=by
 intro l1
 induction l1 with
 |nil =>
  intro l2 _ _ h
  cases l2 with
  |nil=>rfl
  |cons y l2=>have:=(h y).mpr Qd;cases this
 |cons x l1 ih =>
  intro l2 p1 p2 h
  cases l2 with
  |nil=>have:=(h x).mp Qd;cases this
  |cons y l2 =>
   obtain⟨a1,b1⟩:=QS.mp p1
   obtain⟨a2,b2⟩:=QS.mp p2
   have e:x=y:=by
    rcases Qm.mp ((h x).mp Qd) with z|z
    ·exact z
    ·rcases Qm.mp ((h y).mpr Qd) with z2|z2
     ·exact z2.symm
     ·exact(asy _ _ (a1 y z2) (a2 x z)).elim
   subst e
   rw[ih l2 b1 b2 fun z=>?_]
   constructor
   ·intro hz
    rcases Qm.mp ((h z).mp (Qc _ hz)) with rfl|q
    ·exact(irr _ (a1 _ hz)).elim
    ·exact q
   ·intro hz
    rcases Qm.mp ((h z).mpr (Qc _ hz)) with rfl|q
    ·exact(irr _ (a2 _ hz)).elim
    ·exact q
def VN(y:Nat)(zs:List Nat)(l:Bd):Bool:=(decide (la l=y)&&decide (lb l∈zs))||(decide (lb l=y)&&decide (la l∈zs))
theorem X2{y:Nat}{zs:List Nat}{l:Bd}:VN y zs l=true↔(la l=y/\lb l∈zs)\/(lb l=y/\la l∈zs):=by
 unfold VN;simp
def LT(ls:List Bd)(y:Nat)(zs:List Nat):List Bd:=ls.filter (VN y zs)
theorem Zb3{ls:List Bd}{y:Nat}{zs:List Nat}{l:Bd}:l∈LT ls y zs↔l∈ls/\((la l=y/\lb l∈zs)\/(lb l=y/\la l∈zs)):=by
 unfold LT;rw[QH,X2]
def Xc(n:Nat)(L:Nat->Nat->Int)(d:Nat->Int)(R:List Nat):List Nat:=((List.range n).filter fun y=>!decide (y∈R)).filter fun y=>decide (d y<M.sumL L y R)
theorem YU{n:Nat}{L:Nat->Nat->Int}{d:Nat->Int}{R:List Nat}{y:Nat}:y∈Xc n L d R↔y<n/\y∉R/\d y<M.sumL L y R:=by
 unfold Xc
 rw[QH,QH,QK]
 simp[and_assoc]
theorem Zd0{n:Nat}{L:Nat->Nat->Int}{d:Nat->Int}{R:List Nat}:(Xc n L d R).Pairwise (· < ·):=by
 unfold Xc
 exact(List.Pairwise.filter _ (List.Pairwise.filter _ List.pairwise_lt_range))
theorem Zhs{n:Nat}{L:Nat->Nat->Int}{d:Nat->Int}{R:List Nat}:(Xc n L d R).Nodup:=(Zd0).imp fun{a b} h=>by omega
def XG(ls:List Bd)(L:Nat->Nat->Int)(d:Nat->Int)(B A:List Nat)(y:Nat):Bd:=((LT ls y A)[(d y-M.sumL L y B).toNat]?).getD (0,0,0)
def go(ls:List Bd)(n:Nat)(L:Nat->Nat->Int)(d:Nat->Int):Nat->List Nat->List Nat->List Bd
 |0,_,_=>[]
 |k+1,B,A=>if A=[] then [] else(Xc n L d (B++A)).map (XG ls L d B A)++go ls n L d k (B++A) (Xc n L d (B++A))
structure St(n:Nat)(L:Nat->Nat->Int)(d:Nat->Int)(q:Nat)(B A:List Nat):Prop where
 nd:(B++A).Nodup
 lt:∀i∈B++A,i<n
 lo:∀y,y<n->y∉B++A->M.sumL L y B<=d y
 bk:q∈B++A
theorem XY{n:Nat}{L:Nat->Nat->Int}{d:Nat->Int}{q:Nat}(hq:q<n)(h0:∀i,i<n->0<=d i):St n L d q [] [q]:=by
 refine⟨by simp,fun i hi=>?_,fun y hy _=>?_,by simp⟩
 ·simp at hi;omega
 ·exact h0 y hy
theorem St.step{n:Nat}{L:Nat->Nat->Int}{d:Nat->Int}{q:Nat}{B A:List Nat}(h:St n L d q B A):St n L d q (B++A) (Xc n L d (B++A)):=by
 refine⟨?_,fun i hi=>?_,fun y hy hn=>?_,Qw _ h.bk⟩
 ·rw[Jb]
  exact⟨h.nd,Zhs,fun a ha b hb e=>by subst e;exact(YU.mp hb).2.1 ha⟩
 ·rcases Qu.mp hi with z|z
  ·exact h.lt i z
  ·exact(YU.mp z).1
 ·have h1:y∉B++A:=fun z=>hn (Qw _ z)
  by_cases e:d y<M.sumL L y (B++A)
  ·exact absurd (Qg _ (YU.mpr ⟨hy,h1,e⟩)) hn
  ·omega
theorem Zv3{y:Nat}{b:Bd}(hb:0<=b.1/\b.1<b.2.1):∀zs:List Nat,zs.Nodup->y∉zs->(zs.map fun z=>if XM y z b=true then b.2.2 else 0).sum=if VN y zs b=true then b.2.2 else 0:=by
 have hh:∀z,z≠y->(XM y z b=true↔(la b=y/\lb b=z)\/(lb b=y/\la b=z)):=fun z hz=>(Ui hb).trans (or_congr (and_congr eq_comm eq_comm) (and_congr eq_comm eq_comm))
 intro zs
 induction zs with
 |nil=>intro _ _;rw[if_neg (by rw[X2];simp)];rfl
 |cons z zs ih =>
  intro nd hy
  obtain⟨n1,n2⟩:=QP.mp nd
  have hzy:z≠y:=fun e=>hy (by rw[e];exact Qd)
  have hys:y∉zs:=fun e=>hy (Qc _ e)
  rw[Qe,Jr,ih n2 hys]
  by_cases h1:XM y z b=true
  ·have h2:¬VN y zs b=true:=fun e=>by
    have a:=(hh z hzy).mp h1
    have c:=X2.mp e
    rcases a with⟨a1,a2⟩|⟨a1,a2⟩<;>rcases c with⟨c1,c2⟩|⟨c1,c2⟩
    ·rw[a2]at c2;exact n1 c2
    ·rw[a1]at c2;exact hys c2
    ·rw[a1]at c2;exact hys c2
    ·rw[a2]at c2;exact n1 c2
   have h3:VN y (z::zs) b=true:=X2.mpr (by
    rcases(hh z hzy).mp h1 with⟨a1,a2⟩|⟨a1,a2⟩
    ·exact .inl ⟨a1,by rw[a2];exact Qd⟩
    ·exact .inr ⟨a1,by rw[a2];exact Qd⟩)
   rw[if_pos h1,if_neg h2,if_pos h3];omega
  ·have e:VN y (z::zs) b=true↔VN y zs b=true:=by
    rw[X2,X2]
    have hn:=fun w=>h1 ((hh z hzy).mpr w)
    simp only[Qm]
    constructor
    ·rintro(⟨a,c|c⟩|⟨a,c|c⟩)
     ·exact(hn (.inl ⟨a,c⟩)).elim
     ·exact .inl ⟨a,c⟩
     ·exact(hn (.inr ⟨a,c⟩)).elim
     ·exact .inr ⟨a,c⟩
    ·rintro(⟨a,c⟩|⟨a,c⟩)
     ·exact .inl ⟨a,.inr c⟩
     ·exact .inr ⟨a,.inr c⟩
   rw[if_neg h1]
   simp only[e]
   omega
theorem Zcc{α:Type}(f g:α->Int):∀xs:List α,(xs.map fun x=>f x+g x).sum=(xs.map f).sum+(xs.map g).sum
 |[]=>rfl
 |x::xs=>by rw[Qe,Qe,Qe,Jr,Jr,Jr,Zcc f g xs];omega
theorem Zug{y:Nat}{zs:List Nat}(nd:zs.Nodup)(hy:y∉zs):∀{bs:List Bd},(∀b∈bs,0<=b.1/\b.1<b.2.1/\0<=b.2.2)->((LT (Ym bs) y zs).length:Int)=M.sumL (ln bs) y zs
 |[],_=>by
  show(0:Int)=(zs.map (ln [] y)).sum
  have:zs.map (ln [] y)=zs.map fun _=>(0:Int):=QQ fun z _=>rfl
  rw[this]
  clear nd hy this
  induction zs with
  |nil=>rfl
  |cons z zs ih=>rw[Qe,Jr,<- ih];rfl
 |b::bs,h=>by
  have ih:=Zug nd hy (bs:=bs) fun c hc=>h c (Qc _ hc)
  have hb:=h b Qd
  have e1:M.sumL (ln (b::bs)) y zs=(zs.map fun z=>if XM y z b=true then b.2.2 else 0).sum+M.sumL (ln bs) y zs:=by
   unfold M.sumL
   rw[<- Zcc]
   congr 1
   exact QQ fun z _=>Vc b bs y z
  rw[e1,Zv3 ⟨hb.1,hb.2.1⟩ zs nd hy,<- ih]
  unfold LT Ym
  rw[Q8,List.filter_append,Qi]
  have e2:((List.range b.2.2.toNat).map fun(k:Nat)=>((b.1,(b.2.1,(k:Int))):Bd)).filter (VN y zs)=if VN y zs b=true then((List.range b.2.2.toNat).map fun(k:Nat)=>((b.1,(b.2.1,(k:Int))):Bd)) else []:=by
   have hk:∀k:Nat,VN y zs ((b.1,(b.2.1,(k:Int))):Bd)=VN y zs b:=fun k=>rfl
   by_cases e:VN y zs b=true
   ·rw[if_pos e,List.filter_eq_self]
    intro x hx
    obtain⟨k,_,rfl⟩:=Qn.mp hx
    rw[hk];exact e
   ·rw[if_neg e,List.filter_eq_nil_iff]
    intro x hx
    obtain⟨k,_,rfl⟩:=Qn.mp hx
    rw[hk];exact e
  rw[e2]
  by_cases e:VN y zs b=true
  ·rw[if_pos e,if_pos e,Qb,Qt];omega
  ·rw[if_neg e,if_neg e];simp
section
variable{g:Gr}(h:W1 g)
include h
theorem Zc2{d:Nat->Int}{q:Nat}{B A:List Nat}(s:St g.n (ln g.bs) d q B A){y:Nat}(hy:y∈Xc g.n (ln g.bs) d (B++A)) :
  ∃k:Nat,d y-M.sumL (ln g.bs) y B=(k:Int)/\k<(LT (Ym g.bs) y A).length/\(LT (Ym g.bs) y A)[k]?=some (XG (Ym g.bs) (ln g.bs) d B A y)/\XG (Ym g.bs) (ln g.bs) d B A y∈LT (Ym g.bs) y A:=by
 obtain⟨h1,h2,h3⟩:=YU.mp hy
 have lo:=s.lo y h1 h2
 rw[M.sumL_app]at h3
 have nd:=Jb.mp s.nd
 have hA:y∉A:=fun z=>h2 (Qg _ z)
 have len:=Zug nd.2.1 hA (bs:=g.bs) fun b hb=>by have:=h.rg b hb;omega
 refine⟨(d y-M.sumL (ln g.bs) y B).toNat,by omega,by omega,?_,?_⟩
 ·unfold XG
  rw[Qq (by omega)];rfl
 ·unfold XG
  rw[Qq (by omega)]
  exact List.getElem_mem _
end
theorem WP{α:Type} [DecidableEq α]:∀(l m:List α),l.Nodup->(∀x∈l,x∈m)->l.length<=m.length:=by
 intro l
 induction l with
 |nil=>intro m _ _;exact QZ _
 |cons x l ih =>
  intro m nd h
  have hx:=h x Qd
  have:=ih (m.erase x) (QP.mp nd).2 fun y hy=>by
   have hne:y≠x:=fun z=>by subst z;exact(QP.mp nd).1 hy
   exact(List.mem_erase_of_ne hne).mpr (h y (Qc _ hy))
  have e:=List.length_erase_of_mem hx
  have p:=List.length_pos_of_mem hx
  rw[Qk]
  omega
theorem Zhu{f:Nat->Int}{l:Bd}(S':Int->Bool)(i:Nat):(if f i=f (la l)\/f i=f (lb l) then S' (lo f l) else S' (f i))=S' (WG f l i):=by
 unfold WG
 split<;>rfl
theorem Zgq{n:Nat}{l:Bd}{t:List Bd}{f:Nat->Int}(r:Rp n f)(ha:la l<n)(hb:lb l<n)(c:Zfo n (l::t) f):Zfo n t (WG f l):=by
 intro S' s0 hx
 obtain⟨i,hi,hS⟩:=hx
 have na:=r.nn _ ha
 have nb:=r.nn _ hb
 obtain⟨l',hl,hne⟩:=c (fun x=>if x=f (la l)\/x=f (lb l) then S' (lo f l) else S' x) (by
  show(if _ then _ else _)=true
  by_cases e:(0:Int)=f (la l)\/(0:Int)=f (lb l)
  ·rw[if_pos e]
   have:lo f l=0:=by unfold lo;split<;>omega
   rw[this];exact s0
  ·rw[if_neg e];exact s0) ⟨i,hi,by
  show(if _ then _ else _)=false
  rw[Zhu];exact hS⟩
 have hne:(if f (la l')=f (la l)\/f (la l')=f (lb l) then S' (lo f l) else S' (f (la l')))≠(if f (lb l')=f (la l)\/f (lb l')=f (lb l) then S' (lo f l) else S' (f (lb l'))):=hne
 rw[Zhu,Zhu]at hne
 rcases Qm.mp hl with e|e
 ·rw[e,Zd3]at hne
  exact absurd rfl hne
 ·exact⟨l',e,hne⟩
theorem Zgr{n:Nat}{l:Bd}{t:List Bd}{f:Nat->Int}(e:f (la l)=f (lb l))(c:Zfo n (l::t) f):Zfo n t f:=by
 intro S s0 hx
 obtain⟨l',hl,hne⟩:=c S s0 hx
 rcases Qm.mp hl with z|z
 ·rw[z,e]at hne;exact absurd rfl hne
 ·exact⟨l',z,hne⟩
theorem Zkw{n:Nat}{f:Nat->Int}(c:Zfo n [] f):Zm4 n f=true:=by
 rw[Zcv]
 intro i hi
 by_cases e:f i=0
 ·exact e
 ·obtain⟨l,hl,_⟩:=c (fun x=>decide (x=0)) (by simp) ⟨i,hi,by simp[e]⟩
  cases hl
theorem Zty{n:Nat}:∀(t:List Bd) (f:Nat->Int),Rp n f->Zum n t->Zfo n t f->cnt n f<=t.length:=by
 intro t
 induction t with
 |nil=>intro f _ _ c;rw[Zm3 (Zkw c)];exact Qj 0
 |cons l t ih =>
  intro f r hR c
  obtain⟨ha,hb⟩:=hR l Qd
  have hR':Zum n t:=fun x hx=>hR x (Qc _ hx)
  rw[Qk]
  by_cases e:f (la l)=f (lb l)
  ·have:=ih f r hR' (Zgr e c);omega
  ·have:=ih _ (Zbt r ha hb) hR' (Zgq r ha hb c)
   have:=Za4 r ha hb e
   omega
theorem Z1f{n:Nat}:∀(t:List Bd) (f:Nat->Int),Rp n f->Zum n t->Zfo n t f->t.length=cnt n f->Zk4 n t f=true:=by
 intro t
 induction t with
 |nil=>intro f _ _ c _;exact Zkw c
 |cons l t ih =>
  intro f r hR c hl
  obtain⟨ha,hb⟩:=hR l Qd
  have hR':Zum n t:=fun x hx=>hR x (Qc _ hx)
  rw[Qk]at hl
  by_cases e:f (la l)=f (lb l)
  ·have:=Zty t f r hR' (Zgr e c);omega
  ·have:=Za4 r ha hb e
   exact Vx.mpr ⟨e,ih _ (Zbt r ha hb) hR' (Zgq r ha hb c) (by omega)⟩
section
variable{g:Gr}(h:W1 g)
include h
theorem Zhr{d:Nat->Int}{q:Nat}(hd:M.Settled g.n (ln g.bs) q d){R:List Nat}(nd:R.Nodup)(lt:∀i∈R,i<g.n)(hq:q∈R)(e:Xc g.n (ln g.bs) d R=[]):∀y,y<g.n->y∈R:=by
 intro y hy
 by_cases z:y∈R
 ·exact z
 ·obtain⟨i,hi,hA,hl⟩:=hd.sets (fun j=>!decide (j∈R)) (by simp[hq]) ⟨y,hy,by simp[z]⟩
  have hiR:i∉R:=by simpa using hA
  have es:M.outOf g.n (ln g.bs) (fun j=>!decide (j∈R)) i=M.sumL (ln g.bs) i R:=by
   rw[M.sumL_S g.n _ _ R nd lt]
   unfold M.outOf
   congr 1
   funext j
   by_cases q:j∈R<;>simp[q]
  rw[es]at hl
  have:i∈Xc g.n (ln g.bs) d R:=YU.mpr ⟨hi,hiR,hl⟩
  rw[e]at this;cases this
theorem Wb{d:Nat->Int}{q:Nat}{B A:List Nat}(s:St g.n (ln g.bs) d q B A){y:Nat}(hy:y∈Xc g.n (ln g.bs) d (B++A)) :
  XG (Ym g.bs) (ln g.bs) d B A y∈Ym g.bs/\((la (XG (Ym g.bs) (ln g.bs) d B A y)=y/\lb (XG (Ym g.bs) (ln g.bs) d B A y)∈A)\/(lb (XG (Ym g.bs) (ln g.bs) d B A y)=y/\la (XG (Ym g.bs) (ln g.bs) d B A y)∈A)):=by
 obtain⟨k,_,_,_,hm⟩:=Zc2 h s hy
 exact Zb3.mp hm
theorem Zmg{d:Nat->Int}{q:Nat}:∀(k:Nat) (B A:List Nat),St g.n (ln g.bs) d q B A->∀l∈go (Ym g.bs) g.n (ln g.bs) d k B A,l∈Ym g.bs/\la l∉B/\lb l∉B:=by
 intro k
 induction k with
 |zero=>intro B A _ l hl;cases hl
 |succ k ih =>
  intro B A s l hl
  unfold go at hl
  split at hl
  ·cases hl
  ·rcases Qu.mp hl with z|z
   ·obtain⟨y,hy,rfl⟩:=Qn.mp z
    obtain⟨h1,h2⟩:=Wb h s hy
    have hyB:y∉B:=fun w=>(YU.mp hy).2.1 (Qw _ w)
    have dj:∀x∈A,x∉B:=fun x hx w=>(Jb.mp s.nd).2.2 x w x hx rfl
    refine⟨h1,?_⟩
    rcases h2 with⟨a,b⟩|⟨a,b⟩
    ·exact⟨by rw[a];exact hyB,dj _ b⟩
    ·exact⟨dj _ b,by rw[a];exact hyB⟩
   ·obtain⟨a,b,c⟩:=ih _ _ s.step l z
    exact⟨a,fun w=>b (Qw _ w),fun w=>c (Qw _ w)⟩
theorem Ztb{d:Nat->Int}{q:Nat}{k:Nat}{B A:List Nat}(s:St g.n (ln g.bs) d q B A){y:Nat}(hy:y∉B++A){l:Bd}(hl:l∈LT (Ym g.bs) y A) :
  l∈go (Ym g.bs) g.n (ln g.bs) d (k+1) B A↔y∈Xc g.n (ln g.bs) d (B++A)/\l=XG (Ym g.bs) (ln g.bs) d B A y:=by
 have hA:A≠[]:=fun e=>by
  rw[e]at hl
  rcases(Zb3.mp hl).2 with⟨_,w⟩|⟨_,w⟩<;>cases w
 unfold go
 rw[if_neg hA]
 constructor
 ·intro w
  rcases Qu.mp w with z|z
  ·obtain⟨y',hy',e⟩:=Qn.mp z
   obtain⟨_,h2⟩:=Wb h s hy'
   rw[e]at h2
   have:y'=y:=by
    have hy2:=(YU.mp hy').2.1
    rcases(Zb3.mp hl).2 with⟨a,b⟩|⟨a,b⟩<;>rcases h2 with⟨a',b'⟩|⟨a',b'⟩
    ·omega
    ·exact absurd (Qg B b) (by rw[a'];exact hy2)
    ·exact absurd (Qg B b) (by rw[a'];exact hy2)
    ·omega
   subst this
   exact⟨hy',e.symm⟩
  ·obtain⟨_,b,c⟩:=Zmg h _ _ _ s.step l z
   rcases(Zb3.mp hl).2 with⟨_,w⟩|⟨_,w⟩
   ·exact absurd (Qg B w) c
   ·exact absurd (Qg B w) b
 ·rintro⟨a,b⟩
  exact Qw _ (Qn.mpr ⟨y,a,b.symm⟩)
theorem go_nd{d:Nat->Int}{q:Nat}:∀(k:Nat) (B A:List Nat),St g.n (ln g.bs) d q B A->(go (Ym g.bs) g.n (ln g.bs) d k B A).Nodup:=by
 intro k
 induction k with
 |zero=>intro B A _;exact List.nodup_nil
 |succ k ih =>
  intro B A s
  unfold go
  split
  ·exact List.nodup_nil
  ·rw[Jb]
   refine⟨?_,ih _ _ s.step,fun a ha b hb e=>?_⟩
   ·rw[List.Nodup,Q0]
    refine(Zhs (n:=g.n) (L:=ln g.bs) (d:=d) (R:=B++A)).imp_of_mem fun{y z} hy hz hne e=>?_
    obtain⟨_,h1⟩:=Wb h s hy
    obtain⟨_,h2⟩:=Wb h s hz
    rw[<- e]at h2
    have y2:=(YU.mp hy).2.1
    have z2:=(YU.mp hz).2.1
    rcases h1 with⟨a,b⟩|⟨a,b⟩<;>rcases h2 with⟨a',b'⟩|⟨a',b'⟩
    ·omega
    ·exact absurd (Qg B b) (by rw[a'];exact z2)
    ·exact absurd (Qg B b) (by rw[a'];exact z2)
    ·omega
   ·subst e
    obtain⟨y,hy,rfl⟩:=Qn.mp ha
    obtain⟨_,h1⟩:=Wb h s hy
    obtain⟨_,b,c⟩:=Zmg h _ _ _ s.step _ hb
    rcases h1 with⟨_,w⟩|⟨_,w⟩
    ·exact c (Qg B w)
    ·exact b (Qg B w)
theorem Z0t{d:Nat->Int}{q:Nat}(hd:M.Settled g.n (ln g.bs) q d):∀(k:Nat) (B A:List Nat),St g.n (ln g.bs) d q B A->A≠[]->g.n+1<=k+(B++A).length->(go (Ym g.bs) g.n (ln g.bs) d k B A).length+(B++A).length=g.n:=by
 intro k
 induction k with
 |zero =>
  intro B A s _ hk
  have:=M.length_le_of_nodup g.n (B++A) s.nd s.lt
  omega
 |succ k ih =>
  intro B A s hA hk
  unfold go
  rw[if_neg hA,Qi,Qb]
  by_cases e:Xc g.n (ln g.bs) d (B++A)=[]
  ·have all:=Zhr h hd s.nd s.lt s.bk e
   have l1:=M.length_le_of_nodup g.n (B++A) s.nd s.lt
   have l2:(List.range g.n).length<=(B++A).length:=WP _ _ List.nodup_range fun x hx=>all x (QK.mp hx)
   rw[Qt]at l2
   rw[e]
   have:go (Ym g.bs) g.n (ln g.bs) d k (B++A) []=[]:=by cases k<;>simp[go]
   rw[this];simp only[Q7];omega
  ·have hp:=JS.mpr e
   have:=ih (B++A) _ s.step e (by rw[Qi (as:=B++A)];omega)
   rw[Qi (as:=B++A)]at this
   omega
theorem Zny{d:Nat->Int}{q:Nat}(hd:M.Settled g.n (ln g.bs) q d)(S:Nat->Bool)(c:Bool):∀(k:Nat) (B A:List Nat),St g.n (ln g.bs) d q B A->A≠[]->g.n+1<=k+(B++A).length->(∀l∈go (Ym g.bs) g.n (ln g.bs) d k B A,S (la l)=S (lb l))->(∀i∈B++A,S i=c)->∀i,i<g.n->S i=c:=by
 intro k
 induction k with
 |zero =>
  intro B A s _ hk
  have:=M.length_le_of_nodup g.n (B++A) s.nd s.lt
  omega
 |succ k ih =>
  intro B A s hA hk hl hc
  unfold go at hl
  rw[if_neg hA]at hl
  by_cases e:Xc g.n (ln g.bs) d (B++A)=[]
  ·have all:=Zhr h hd s.nd s.lt s.bk e
   exact fun i hi=>hc i (all i hi)
  ·have hp:=JS.mpr e
   refine ih (B++A) _ s.step e (by rw[Qi (as:=B++A)];omega) (fun l w=>hl l (Qg _ w)) fun i hi=>?_
   rcases Qu.mp hi with z|z
   ·exact hc i z
   ·have e1:=hl _ (Qw _ (Qn.mpr ⟨i,z,rfl⟩))
    obtain⟨_,h2⟩:=Wb h s z
    rcases h2 with⟨a,b⟩|⟨a,b⟩
    ·rw[a]at e1;rw[e1];exact hc _ (Qg _ b)
    ·rw[a]at e1;rw[<- e1];exact hc _ (Qg _ b)
def V4(g:Gr)(q:Nat)(d:Nat->Int):List Bd:=go (Ym g.bs) g.n (ln g.bs) d (g.n+1) [] [q]
def Yn(g:Gr)(q:Nat)(d:Nat->Int):List Bd:=(Ym g.bs).filter fun l=>decide (l∈V4 g q d)
end
section
variable{g:Gr}(h:W1 g){q:Nat}(hq:q<g.n){d:Nat->Int}(hd:M.Settled g.n (ln g.bs) q d)(h0:∀i,i<g.n->0<=d i)
include h hq hd h0
theorem Zdc{l:Bd}:l∈Yn g q d↔l∈V4 g q d:=by
 unfold Yn
 rw[QH,decide_eq_true_eq]
 exact⟨fun w=>w.2,fun w=>⟨(Zmg h _ _ _ (XY hq h0) l w).1,w⟩⟩
theorem Z0u:(Ym g.bs).Nodup:=(Wp h).imp fun{a b} w e=>by
 rw[e]at w
 simp[HT.lexLt]at w
theorem Zm6:(Yn g q d).Perm (V4 g q d):=by
 refine(List.perm_ext_iff_of_nodup ?_ (go_nd h _ _ _ (XY hq h0))).mpr fun l=>Zdc h hq hd h0
 exact(Z0u h hq hd h0).filter _
theorem Zlm:(Yn g q d).length=g.n-1:=by
 rw[(Zm6 h hq hd h0).length_eq]
 have:=Z0t h hd (g.n+1) [] [q] (XY hq h0) (by simp) (by simp)
 simp at this
 unfold V4
 omega
theorem ts_TR(h4:g.n<=4):Yn g q d∈TR g:=by
 have n1:=h.n1
 have hR:Zum g.n (Yn g q d):=fun l hl=>(Uk h l (QH.mp hl).1).r
 refine(Zqs 8 (Ym g.bs) Ve (Zkd _) (fun l hl=>(Uk h l hl).r) (by rw[Zh8 _ n1];omega) _).mpr ⟨List.filter_sublist,Z1f _ _ (Zkd _) hR ?_ (by rw[Zh8 _ n1];exact Zlm h hq hd h0)⟩
 intro S s0 hx
 obtain⟨i,hi,hS⟩:=hx
 apply QD
 intro hn
 have all:=Zny h hd (fun j=>S (Ve j)) (S (Ve q)) (g.n+1) [] [q] (XY hq h0) (by simp) (by simp) (fun l hl=>by
  apply QD
  intro z
  exact hn ⟨l,(Zdc h hq hd h0).mpr hl,z⟩) (fun j hj=>by simp at hj;rw[hj])
 have a:=all i hi
 have b:=all 0 (by omega)
 have c:S (Ve 0)=true:=s0
 have a':S (Ve i)=S (Ve q):=a
 have b':S (Ve 0)=S (Ve q):=b
 rw[hS]at a'
 rw[c,<- a']at b'
 cases b'
end
theorem lt3{a b c d e f:Int}:HT.lexLt [a,b,c] [d,e,f]=true↔a<d\/(a=d/\(b<e\/(b=e/\c<f))):=by
 simp only[HT.lexLt]
 by_cases h1:a=d
 ·subst h1
  by_cases h2:b=e
  ·subst h2
   by_cases h3:c=f
   ·subst h3;simp
   ·simp[h3]
  ·simp[h2]
 ·simp[h1]
theorem Zt9(x:Bd):¬HT.lexLt [x.1,x.2.1,x.2.2] [x.1,x.2.1,x.2.2]=true:=fun z=>by rw[lt3]at z;omega
theorem Z1c(x y:Bd):HT.lexLt [x.1,x.2.1,x.2.2] [y.1,y.2.1,y.2.2]=true->¬HT.lexLt [y.1,y.2.1,y.2.2] [x.1,x.2.1,x.2.2]=true:=fun z w=>by rw[lt3]at z w;omega
def Zwb(L:Nat->Nat->Int)(y:Nat)(A:List Nat):List Bd:=A.flatMap fun z=>(List.range (L y z).toNat).map fun(k:Nat)=>((((min y z:Nat):Int),(((max y z:Nat):Int),(k:Int))):Bd)
theorem Znr{L:Nat->Nat->Int}{y:Nat}{A:List Nat}{l:Bd}:l∈Zwb L y A ↔ ∃z∈A,l.1=((min y z:Nat):Int)/\l.2.1=((max y z:Nat):Int)/\0<=l.2.2/\l.2.2<L y z:=by
 unfold Zwb
 rw[List.mem_flatMap]
 constructor
 ·rintro⟨z,hz,hl⟩
  obtain⟨k,hk,rfl⟩:=Qn.mp hl
  have:=QK.mp hk
  exact⟨z,hz,rfl,rfl,by dsimp only;omega,by dsimp only;omega⟩
 ·rintro⟨z,hz,h1,h2,h3,h4⟩
  refine⟨z,hz,Qn.mpr ⟨l.2.2.toNat,QK.mpr (by omega),?_⟩⟩
  obtain⟨a,b,c⟩:=l
  simp only at h1 h2 h3 ⊢
  rw[h1,h2,Int.toNat_of_nonneg h3]
theorem Zsk{L:Nat->Nat->Int}{y:Nat}{A:List Nat}(hy:y∉A)(hA:A.Pairwise (· < ·)):(Zwb L y A).Pairwise fun x y=>HT.lexLt [x.1,x.2.1,x.2.2] [y.1,y.2.1,y.2.2]=true:=by
 induction A with
 |nil=>exact .nil
 |cons z A ih =>
  obtain⟨p1,p2⟩:=QS.mp hA
  have ih:=ih (fun w=>hy (Qc _ w)) p2
  have hzy:y≠z:=fun e=>hy (by rw[e];exact Qd)
  unfold Zwb
  rw[Q8,List.pairwise_append]
  refine⟨?_,ih,fun a ha b hb=>?_⟩
  ·rw[Q0]
   refine(List.pairwise_lt_range).imp fun{a b'} hab=>?_
   rw[lt3]
   right
   refine⟨rfl,.inr ⟨rfl,?_⟩⟩
   show(a:Int)<(b':Int)
   omega
  ·obtain⟨k,_,rfl⟩:=Qn.mp ha
   obtain⟨z',hz',h1,h2,_,_⟩:=Znr.mp (show b∈Zwb L y A from hb)
   have:=p1 z' hz'
   have hy':y≠z':=fun e=>hy (by rw[e];exact Qc _ hz')
   rw[h1,h2,lt3]
   dsimp only
   omega
section
variable{g:Gr}(h:W1 g)
include h
theorem Zz8{y:Nat}{A:List Nat}(hy:y∉A)(hA:A.Pairwise (· < ·)):Zwb (ln g.bs) y A=LT (Ym g.bs) y A:=by
 refine Zu9 (r:=fun x y:Bd=>HT.lexLt [x.1,x.2.1,x.2.2] [y.1,y.2.1,y.2.2]=true) Zt9 Z1c _ _ (Zsk hy hA) ((Wp h).filter _) fun l=>?_
 rw[Znr,Zb3,Za1]
 constructor
 ·rintro⟨z,hz,h1,h2,h3,h4⟩
  have hzy:y≠z:=fun e=>hy (by rw[e];exact hz)
  have ex:∃b∈g.bs,XM y z b=true:=by
   apply QD
   intro w
   rw[Vb (bs:=g.bs) (i:=y) (j:=z) fun b hb=>by
    cases q:XM y z b with
    |false=>rfl
    |true=>exact absurd ⟨b,hb,q⟩ w]at h4
   omega
  obtain⟨b,hb,hh⟩:=ex
  rw[Zd7 h.rise hb hh]at h4
  have hh':=of_decide_eq_true (show decide _=true from hh)
  refine⟨⟨b,hb,by rw[h1,hh'.1],by rw[h2,hh'.2],h3,h4⟩,?_⟩
  unfold la lb
  rw[h1,h2,Qz,Qz]
  by_cases e:y<=z
  ·rw[JK e,JW e];exact .inl ⟨rfl,hz⟩
  ·rw[Nat.min_eq_right (by omega),Nat.max_eq_left (by omega)];exact .inr ⟨rfl,hz⟩
 ·rintro⟨⟨b,hb,h1,h2,h3,h4⟩,he⟩
  have r:=h.rg b hb
  unfold la lb at he
  rw[h1,h2]at he
  have key:∀z:Nat,((b.1=((min y z:Nat):Int)/\b.2.1=((max y z:Nat):Int)))->z∈A->∃z∈A,l.1=((min y z:Nat):Int)/\l.2.1=((max y z:Nat):Int)/\0<=l.2.2/\l.2.2<ln g.bs y z:=fun z hh hz=>by
   refine⟨z,hz,by rw[h1,hh.1],by rw[h2,hh.2],h3,?_⟩
   rw[Zd7 h.rise hb (show XM y z b=true from decide_eq_true hh)]
   exact h4
  rcases he with⟨e1,e2⟩|⟨e1,e2⟩
  ·exact key _ (by rw[JK (by omega),JW (by omega)];omega) e2
  ·exact key _ (by rw[Nat.min_eq_right (by omega),Nat.max_eq_left (by omega)];omega) e2
end
theorem Zop{A:List Nat}(hA:A.Pairwise (· < ·))(hl:A.length<64):Y0 [nL A]=some (nL A):=by
 have e:A.map (fun i=>D.int ((i:Nat):Int))=(A.map fun(i:Nat)=>(i:Int)).map .int:=by rw[QF];rfl
 unfold nL
 rw[e]
 unfold Y0
 dsimp only
 rw[VM]
 dsimp only
 rw[if_pos (by rw[Qb];exact hl),<- Zaz (List.Perm.refl _)]
 rw[Q0]
 exact hA.imp fun{a b} w=>by omega
theorem Znx:∀t:List Bd,UO (t.map bD)=true
 |[]=>rfl
 |l::t=>by rw[Qe,UO,Znx t];rfl
section
variable{n:Nat}{L:Nat->Nat->Int}
theorem Zkk(hn:n<=1000)(R:List Nat):ZN [YL n L,nL R]=some (nL ((List.range n).filter fun y=>!decide (y∈R))):=by
 unfold ZN WU
 simp! only[]
 rw[Xt (fun(i:Nat)=>D.int ((i:Nat):Int)) (fun i=>!decide (i∈R)) (fun i=>D.int ((i:Nat):Int)) (List.range n) (by simp! only[WR,Xk (show n<=65536 by omega)]) (Zbn hn)]
 ·rfl
 ·intro x _
  refine⟨_,rfl,?_,fun _=>rfl⟩
  simp! only[UW]
noncomputable def Zuj:FS:=UU 3 (ZK 1 [1,4] (fR YW (Za (f2 Yl (f2 Yl (fV 0) (fV 1)) (fV 4)) fN)) (gN 0) Xn (fL Yy (Za (fL UY (Za (fV 1) (Za (fV 2) fN))) (Za (fL UZ (Za (fV 1) (Za (fV 2) fN))) (Za (fV 0) fN)))))
theorem Zsl(h4:∀i j,0<=L i j/\L i j<=4){y:Nat}(hy:y<n){W:D}:∀(A:List Nat) (found:List Bd) (x4:Option Cl),(∀z∈A,z<n)->found.length+4*A.length<=1000->∃x4',
  Z8 (gN 4) Zuj (A.map fun i=>D.int ((i:Nat):Int)) [some (.val (YL n L)),some (.val (.int (y:Int))),some (.val W),some (.own (.lst (found.map bD))),x4] =
   .nx [some (.val (YL n L)),some (.val (.int (y:Int))),some (.val W),some (.own (.lst ((found++Zwb L y A).map bD))),x4']:=by
 intro A
 induction A with
 |nil=>intro found x4 _ _;exact⟨x4,by unfold Zwb;simp[Z8]⟩
 |cons z A ih =>
  intro found x4 hA hl
  have hz:=hA z Qd
  simp only[Qk]at hl
  obtain⟨l0,l4⟩:=h4 y z
  have hr:YW [.int (L y z)]=some ((List.range (L y z).toNat).map fun(k:Nat)=>D.int (k:Int)):=Zhg l0 (by omega)
  have hc:∀u v,ZK 1 [1,4] (fR YW (Za (f2 Yl (f2 Yl (fV 0) (fV 1)) (fV 4)) fN)) (gN 0) Xn (fL Yy (Za (fL UY (Za (fV 1) (Za (fV 2) fN))) (Za (fL UZ (Za (fV 1) (Za (fV 2) fN))) (Za (fV 0) fN)))) [some (YL n L),some (.int (y:Int)),u,v,some (.int (z:Int))] =
    some (.lst (((List.range (L y z).toNat).map fun(k:Nat)=>((((min y z:Nat):Int),(((max y z:Nat):Int),(k:Int))):Bd)).map bD)):=by
   intro u v
   have e:=Yw (n:=1) (ix:=[1,4]) (fi:=fR YW (Za (f2 Yl (f2 Yl (fV 0) (fV 1)) (fV 4)) fN)) (t:=gN 0) (fe:=fL Yy (Za (fL UY (Za (fV 1) (Za (fV 2) fN))) (Za (fL UZ (Za (fV 1) (Za (fV 2) fN))) (Za (fV 0) fN)))) (ρ:=[some (YL n L),some (.int (y:Int)),u,v,some (.int (z:Int))])
    (fun(k:Nat)=>D.int (k:Int)) (fun(k:Nat)=>bD ((((min y z:Nat):Int),(((max y z:Nat):Int),(k:Int))):Bd)) (List.range (L y z).toNat) (by simp! only[Zhw hy,Zxy hz,hr]) (by rw[Qt];omega) fun k _=>⟨_,rfl,?_⟩
   ·rw[e,QF];rfl
   ·simp! only[Zd4,Zd6,lim3];rfl
  have him:=Znx ((List.range (L y z).toNat).map fun(k:Nat)=>((((min y z:Nat):Int),(((max y z:Nat):Int),(k:Int))):Bd))
  obtain⟨x',e⟩:=ih (found++(List.range (L y z).toNat).map fun(k:Nat)=>((((min y z:Nat):Int),(((max y z:Nat):Int),(k:Int))):Bd)) (some (.val (.int (z:Int)))) (fun x hx=>hA x (Qc _ hx)) (by rw[Qi,Qb,Qt];omega)
  refine⟨x',?_⟩
  rw[Qe]
  unfold Z8
  have tt:gN 4 (D.int (z:Int))=some [(4,.int (z:Int))]:=rfl
  rw[tt]
  have es:Zuj (XA [some (.val (YL n L)),some (.val (.int (y:Int))),some (.val W),some (.own (.lst (found.map bD))),x4] [(4,.int (z:Int))])=.nx [some (.val (YL n L)),some (.val (.int (y:Int))),some (.val W),some (.own (.lst ((found++(List.range (L y z).toNat).map fun(k:Nat)=>((((min y z:Nat):Int),(((max y z:Nat):Int),(k:Int))):Bd)).map bD))),some (.val (.int (z:Int)))]:=by
   unfold Zuj
   simp! only[UU,hc,him]
   rw[if_pos ⟨trivial,by rw[Qb,Qb,Qb,Qt];unfold Yu;omega⟩,<- QM]
  dsimp only
  rw[es]
  dsimp only
  rw[e,Q2]
  unfold Zwb
  rw[Q8]
end
section
variable{g:Gr}(h:W1 g)
include h
theorem Zke{y:Nat}(hy:y<g.n){A:List Nat}(hyA:y∉A)(hA:A.Pairwise (· < ·))(hlt:∀z∈A,z<g.n)(hl:A.length<=60):ZQ [YL g.n (ln g.bs),.int (y:Int),nL A]=some (tL (LT (Ym g.bs) y A)):=by
 have gd:=h.gd
 obtain⟨x4,e⟩:=Zsl (n:=g.n) (L:=ln g.bs) (fun i j=>⟨gd.net.nn i j,gd.le4 i j⟩) hy (W:=nL A) A [] none hlt (by simp;omega)
 have hb:ZQ=Z4 3 5 (Zj (Y7 3 (fR few fN)) (Zj (YB (Zh (fL Y0 (Za (fV 2) fN))) (gN 4) Zuj) (Z1 (fV 3)))):=rfl
 have hs:=Zop hA (by omega)
 have hf:YB (Zh (fL Y0 (Za (fV 2) fN))) (gN 4) Zuj [some (.val (YL g.n (ln g.bs))),some (.val (.int (y:Int))),some (.val (nL A)),some (.own (.lst [])),none]=Z8 (gN 4) Zuj (A.map fun i=>D.int ((i:Nat):Int)) [some (.val (YL g.n (ln g.bs))),some (.val (.int (y:Int))),some (.val (nL A)),some (.own (.lst [])),none]:=by
  unfold YB
  simp! only[hs]
  rfl
 rw[hb]
 simp! only[VY,hf]
 rw[QI]at e
 rw[e,QX,Zz8 h hyA hA]
 rfl
theorem Zyk{y:Nat}{A:List Nat}:(LT (Ym g.bs) y A).length<=40:=Jt (Q5 _ _) (Zn0 h)
end
theorem Z1b{a b:Bd}(e:bD a=bD b):a=b:=by
 obtain⟨a1,a2,a3⟩:=a
 obtain⟨b1,b2,b3⟩:=b
 unfold bD at e
 simp only[D.tup.injEq,List.cons.injEq,D.int.injEq,and_true]at e
 obtain⟨h1,h2,h3⟩:=e
 rw[h1,h2,h3]
theorem Zr8(l:Bd):Zqe (bD l)=true:=rfl
theorem Zs8(ls:List Bd)(l:Bd):inL (bD l) (.lst (ls.map bD))=some (.bl (decide (l∈ls))):=by
 show(if(Zqe (bD l)&&(ls.map bD).all Zqe)=true then _ else _)=_
 have h1:(ls.map bD).all Zqe=true:=by rw[List.all_map,Ja];intro x _;exact Zr8 x
 rw[Zr8,h1,if_pos (show(true&&true)=true from rfl)]
 congr 2
 rw[List.any_map,Bool.eq_iff_iff,List.any_eq_true,decide_eq_true_eq]
 constructor
 ·rintro⟨x,hx,e⟩
  have:=(Zif (bD x) (bD l) rfl rfl).mp e
  rw[<- Z1b this];exact hx
 ·intro hx
  exact⟨l,hx,(Zif (bD l) (bD l) rfl rfl).mpr rfl⟩
def en:Nat->List Bd->List (Nat×Bd)
 |_,[]=>[]
 |k,l::ls=>(k,l)::en (k+1) ls
theorem Zn7:∀(ls:List Bd) (k:Nat),Vl k (ls.map bD)=(en k ls).map fun p=>.tup [.int ((p.1:Nat):Int),bD p.2]
 |[],_=>rfl
 |l::ls,k=>by rw[Qe,Vl,Zn7 ls (k+1)];rfl
theorem Ztr:∀(ls:List Bd) (k:Nat),(en k ls).length=ls.length
 |[],_=>rfl
 |l::ls,k=>by rw[en,Qk,Ztr ls (k+1)];rfl
def Zhj(t ls:List Bd)(k:Nat):List Nat:=((en k ls).filter fun p=>decide (p.2∈t)).map (·.1)
theorem Zbp{t:List Bd}:∀(ls:List Bd) (k:Nat),(∀l∈ls,l∉t)->Zhj t ls k=[]
 |[],_,_=>rfl
 |l::ls,k,h=>by
  have h1:=h l Qd
  have ih:=Zbp (t:=t) ls (k+1) fun x hx=>h x (Qc _ hx)
  unfold Zhj at ih ⊢
  rw[en,JV (by simpa using h1)]
  exact ih
theorem Zju{t:List Bd}{l0:Bd}(ht:l0∈t):∀(ls:List Bd) (k i:Nat),ls.Nodup->ls[i]?=some l0->(∀l∈ls,l∈t->l=l0)->Zhj t ls k=[k+i]
 |[],_,i,_,h,_=>by simp at h
 |l::ls,k,i,nd,h,u=>by
  obtain⟨n1,n2⟩:=QP.mp nd
  cases i with
  |zero =>
   simp at h
   subst h
   have ih:=Zbp (t:=t) ls (k+1) fun x hx w=>n1 (by rw[<- u x (Qc _ hx) w];exact hx)
   unfold Zhj at ih ⊢
   rw[en,JU (by simpa using ht),Qe,ih]
   rfl
  |succ i =>
   have hl:l∉t:=fun w=>n1 (by
    rw[u l Qd w]
    exact Jh (by simpa using h))
   have ih:=Zju ht ls (k+1) i n2 (by simpa using h) fun x hx=>u x (Qc _ hx)
   unfold Zhj at ih ⊢
   rw[en,JV (by simpa using hl),ih,show k+1+i=k+(i+1) by omega]
section
variable{g:Gr}(h:W1 g)
include h
theorem Zkf{y:Nat}(hy:y<g.n){A:List Nat}(hyA:y∉A)(hA:A.Pairwise (· < ·))(hlt:∀z∈A,z<g.n)(hl:A.length<=60)(t:List Bd):ZX [YL g.n (ln g.bs),.int (y:Int),nL A,tL t]=some (nL (Zhj t (LT (Ym g.bs) y A) 0)):=by
 have e1:=Zke h hy hyA hA hlt hl
 have e2:Zxv (tL (LT (Ym g.bs) y A))=some ((LT (Ym g.bs) y A).map bD):=rfl
 have len:=Zyk h (y:=y) (A:=A)
 unfold ZX WA
 simp! only[]
 rw[Xt (fun p:Nat×Bd=>.tup [.int ((p.1:Nat):Int),bD p.2]) (fun p=>decide (p.2∈t)) (fun p=>D.int ((p.1:Nat):Int)) (en 0 (LT (Ym g.bs) y A)) (by simp! only[Ztk,e1,e2,Zn7]) (by rw[Ztr];omega)]
 ·unfold nL Zhj
  rw[QF];rfl
 ·intro p _
  have e3:inL (bD p.2) (tL t)=some (.bl (decide (p.2∈t))):=Zs8 t p.2
  refine⟨_,rfl,?_,fun _=>rfl⟩
  simp! only[Jg,List.zip_nil_left,e3]
theorem Z0v{q:Nat}(hq:q<g.n){d:Nat->Int}(hd:M.Settled g.n (ln g.bs) q d)(h0:d q=0):Z0 [gD g,tD g.n d,.int (q:Int)]=some (tD g.n d):=by
 have e1:=Zpw h hq d hd.nodebt
 rw[if_pos ((M.burnt_settled h.gd.net hq hd.nodebt).mpr hd)]at e1
 have e2:∀bs:List Nat,Zs5 (nL bs) .non=some (.bl false):=fun _=>rfl
 have e3:Yl (tD g.n d) (.int (q:Int))=some (.int 0):=by rw[Zde hq,h0]
 unfold Z0 X6
 simp! only[Zgh h,e3,Ud,e1,e2]
def tE(g:Gr)(d:Nat->Int)(q:Nat)(found:List Bd)(B A:List Nat)(x:List (Option Cl)):YT :=
 some (.val (gD g))::some (.val (tD g.n d))::some (.val (.int (q:Int)))::some (.val (YL g.n (ln g.bs)))::some (.own (.lst (found.map bD)))::some (.val (nL B))::some (.val (nL A))::x
end
noncomputable def toI:FS:=Zj (ZB 10 (f2 (Z9 fun i j=>.int (i-j)) (f2 Yl (fV 1) (fV 9)) (fL ZC (Za (fV 3) (Za (fV 9) (Za (fV 5) fN))))))
 (WE 4 (f2 Yl (fL ZQ (Za (fV 3) (Za (fV 9) (Za (fV 6) fN)))) (fV 10)))
noncomputable def toC:FE:=ZK 1 [1,3,7] (Zh (fL ZN (Za (fV 3) (Za (fV 7) fN)))) (gN 0) (gB (f2 XH (f2 Yl (fV 1) (fV 0)) (fL ZC (Za (fV 2) (Za (fV 0) (Za (fV 3) fN)))))) (fV 0)
noncomputable def toB:FS:=Zj (ZB 7 (f2 ZR (fV 5) (fV 6))) (Zj (ZB 8 toC) (Zj (YB (Zh (fV 8)) (gN 9) toI) (Zj (ZB 5 (fV 7)) (ZB 6 (fV 8)))))
section
variable{g:Gr}(h:W1 g)
include h
theorem Zqv{d:Nat->Int}{q:Nat}{B A:List Nat}(s:St g.n (ln g.bs) d q B A)(hA:A.Pairwise (· < ·)){x7 x8:Option Cl}:∀(ys:List Nat) (found:List Bd) (x9 x10:Option Cl),(∀y∈ys,y∈Xc g.n (ln g.bs) d (B++A))->found.length+ys.length<=1000->∃x9' x10',
  Z8 (gN 9) toI (ys.map fun i=>D.int ((i:Nat):Int)) (tE g d q found B A [x7,x8,x9,x10])=.nx (tE g d q (found++ys.map (XG (Ym g.bs) (ln g.bs) d B A)) B A [x7,x8,x9',x10']):=by
 have n5:=h.n5
 have lenBA:=M.length_le_of_nodup g.n (B++A) s.nd s.lt
 rw[Qi]at lenBA
 have ltA:∀z∈A,z<g.n:=fun z hz=>s.lt z (Qg _ hz)
 have Zuj:∀z∈B,z<g.n:=fun z hz=>s.lt z (Qw _ hz)
 intro ys
 induction ys with
 |nil=>intro found x9 x10 _ _;exact⟨x9,x10,by simp[Z8]⟩
 |cons y ys ih =>
  intro found x9 x10 hy hl
  rw[Qk]at hl
  have hyn:=hy y Qd
  obtain⟨y1,y2,y3⟩:=YU.mp hyn
  obtain⟨k,k1,k2,k3,k4⟩:=Zc2 h s hyn
  have yA:y∉A:=fun z=>y2 (Qg _ z)
  obtain⟨x9',x10',e⟩:=ih (found++[XG (Ym g.bs) (ln g.bs) d B A y]) (some (.val (.int (y:Int)))) (some (.val (.int (k:Int)))) (fun z hz=>hy z (Qc _ hz)) (by rw[Qi,QW];omega)
  refine⟨x9',x10',?_⟩
  rw[Qe]
  unfold Z8
  have tt:gN 9 (D.int (y:Int))=some [(9,.int (y:Int))]:=rfl
  rw[tt]
  have l1:=VP (f:=ln g.bs) y1 Zuj (by omega)
  have l2:=Zke h y1 yA hA ltA (by omega)
  have l3:Yl (tL (LT (Ym g.bs) y A)) (.int (k:Int))=some (bD (XG (Ym g.bs) (ln g.bs) d B A y)):=by
   unfold tL
   rw[Zci]
   refine U8 (by omega) ?_
   rw[Qz,QC,k3];rfl
  have im:Zmf (bD (XG (Ym g.bs) (ln g.bs) d B A y))=true:=rfl
  have es:toI (XA (tE g d q found B A [x7,x8,x9,x10]) [(9,.int (y:Int))])=.nx (tE g d q (found++[XG (Ym g.bs) (ln g.bs) d B A y]) B A [x7,x8,some (.val (.int (y:Int))),some (.val (.int (k:Int)))]):=by
   unfold toI tE
   simp! only[Zde y1,l1,k1,l2,l3,WE,im]
   rw[if_pos ⟨trivial,by rw[Qb];unfold Yu;omega⟩,QM]
   rfl
  dsimp only
  rw[es]
  dsimp only
  rw[e,Q2]
  rfl
theorem Zyn{d:Nat->Int}{R:List Nat}(nd:R.Nodup)(lt:∀i∈R,i<g.n){a b x4 x5 x6 x8 x9 x10:Option D}:toC [a,some (tD g.n d),b,some (YL g.n (ln g.bs)),x4,x5,x6,some (nL R),x8,x9,x10]=some (nL (Xc g.n (ln g.bs) d R)):=by
 have n5:=h.n5
 have lenR:=M.length_le_of_nodup g.n R nd lt
 unfold toC
 rw[Xt (fun(i:Nat)=>D.int ((i:Nat):Int)) (fun y=>decide (d y<M.sumL (ln g.bs) y R)) (fun i=>D.int ((i:Nat):Int)) ((List.range g.n).filter fun y=>!decide (y∈R)) (by simp! only[Zkk (L:=ln g.bs) (show g.n<=1000 by omega)];rfl) (by have:=Q5 (fun y=>!decide (y∈R)) (List.range g.n);rw[Qt]at this;omega)]
 ·rfl
 ·intro y hy
  have y1:=QK.mp (QH.mp hy).1
  refine⟨_,rfl,?_,fun _=>rfl⟩
  simp! only[Zde y1,VP (f:=ln g.bs) y1 lt (by omega)]
theorem Zuv{d:Nat->Int}{q:Nat}:∀(k:Nat) (B A:List Nat) (found:List Bd) (x7 x8 x9 x10:Option Cl),St g.n (ln g.bs) d q B A->A.Pairwise (· < ·)->(A≠[]->g.n+2<=k+(B++A).length)->1<=k->found.length<=(B++A).length->∃B' A' y7 y8 y9 y10,
  YQ (Xr (fV 6)) toB k (tE g d q found B A [x7,x8,x9,x10])=.nx (tE g d q (found++go (Ym g.bs) g.n (ln g.bs) d k B A) B' A' [y7,y8,y9,y10]):=by
 have n5:=h.n5
 intro k
 induction k with
 |zero=>intro B A found x7 x8 x9 x10 _ _ _ hk;omega
 |succ k ih =>
  intro B A found x7 x8 x9 x10 s hA hk _ hf
  have lenBA:=M.length_le_of_nodup g.n (B++A) s.nd s.lt
  have gt:Xr (fV 6) (Ye (tE g d q found B A [x7,x8,x9,x10]))=some (!A.isEmpty):=by
   show Zoj (nL A)=_
   show some (!(A.map fun i=>D.int ((i:Nat):Int)).isEmpty)=_
   cases A<;>rfl
  unfold YQ
  rw[gt]
  by_cases e:A=[]
  ·subst e
   refine⟨B,[],x7,x8,x9,x10,?_⟩
   have:go (Ym g.bs) g.n (ln g.bs) d (k+1) B []=[]:=by simp[go]
   rw[this,Q1];rfl
  ·have hk:=hk e
   have eA:(!A.isEmpty)=true:=by cases A with|nil=>exact absurd rfl e|cons _ _=>rfl
   rw[eA]
   dsimp only
   have s':=s.step
   have lenF:=M.length_le_of_nodup g.n _ s'.nd s'.lt
   rw[Qi (as:=B++A)]at lenF
   obtain⟨z9,z10,ei⟩:=Zqv h s hA (x7:=some (.val (nL (B++A)))) (x8:=some (.val (nL (Xc g.n (ln g.bs) d (B++A))))) (Xc g.n (ln g.bs) d (B++A)) found x9 x10 (fun y hy=>hy) (by omega)
   have eb:toB (tE g d q found B A [x7,x8,x9,x10])=.nx (tE g d q (found++(Xc g.n (ln g.bs) d (B++A)).map (XG (Ym g.bs) (ln g.bs) d B A)) (B++A) (Xc g.n (ln g.bs) d (B++A)) [some (.val (nL (B++A))),some (.val (nL (Xc g.n (ln g.bs) d (B++A)))),z9,z10]):=by
    have e7:ZB 7 (f2 ZR (fV 5) (fV 6)) (tE g d q found B A [x7,x8,x9,x10])=.nx (tE g d q found B A [some (.val (nL (B++A))),x8,x9,x10]):=by
     have:=Z1e (a:=B) (b:=A) (by rw[Qi]at lenBA;omega)
     unfold tE
     simp! only[this]
    have e8:ZB 8 toC (tE g d q found B A [some (.val (nL (B++A))),x8,x9,x10])=.nx (tE g d q found B A [some (.val (nL (B++A))),some (.val (nL (Xc g.n (ln g.bs) d (B++A)))),x9,x10]):=by
     unfold tE ZB
     simp only[Yb,Qe,QI]
     rw[Zyn h s.nd s.lt]
     rfl
    have e9:YB (Zh (fV 8)) (gN 9) toI (tE g d q found B A [some (.val (nL (B++A))),some (.val (nL (Xc g.n (ln g.bs) d (B++A)))),x9,x10])=Z8 (gN 9) toI ((Xc g.n (ln g.bs) d (B++A)).map fun i=>D.int ((i:Nat):Int)) (tE g d q found B A [some (.val (nL (B++A))),some (.val (nL (Xc g.n (ln g.bs) d (B++A)))),x9,x10]):=rfl
    unfold toB
    rw[ZV,e7,ZJ,ZV,e8,ZJ,ZV,e9,ei,ZJ]
    unfold tE
    simp! only[]
   rw[eb]
   dsimp only
   obtain⟨B',A',y7,y8,y9,y10,e2⟩:=ih (B++A) (Xc g.n (ln g.bs) d (B++A)) (found++(Xc g.n (ln g.bs) d (B++A)).map (XG (Ym g.bs) (ln g.bs) d B A)) (some (.val (nL (B++A)))) (some (.val (nL (Xc g.n (ln g.bs) d (B++A))))) z9 z10 s' Zd0
    (fun e'=>by have:=JS.mpr e';rw[Qi (as:=B++A)];omega) (by omega) (by rw[Qi (bs:=(Xc g.n (ln g.bs) d (B++A)).map (XG (Ym g.bs) (ln g.bs) d B A)),Qb,Qi (as:=B++A)];omega)
   refine⟨B',A',y7,y8,y9,y10,?_⟩
   rw[e2]
   conv=>rhs;rw[go]
   rw[if_neg e,Q2]
end
section
variable{g:Gr}(h:W1 g){q:Nat}(hq:q<g.n){d:Nat->Int}(hd:M.Settled g.n (ln g.bs) q d)(h0:∀i,i<g.n->0<=d i)
include h hq hd h0
theorem Zfw:Y0 [.lst ((V4 g q d).map bD)]=some (tL (Yn g q d)):=by
 have n5:=h.n5
 have pm:=Zm6 h hq hd h0
 have len:=Zlm h hq hd h0
 have e:(V4 g q d).map bD=((V4 g q d).map kb).map kT:=by rw[QF];rfl
 have e2:tL (Yn g q d)=.lst (((Yn g q d).map kb).map kT):=by unfold tL;rw[QF];rfl
 have rs:((Yn g q d).map kb).Pairwise (fun a b=>HT.lexLt a b=true):=by
  rw[Q0]
  exact(Wp h).filter _
 have nd:((V4 g q d).map kb).Nodup:=by
  refine(pm.map kb).nodup_iff.mp (rs.imp fun{a b} w z=>?_)
  subst z
  have:∀a:List Int,HT.lexLt a a=false:=fun a=>by
   induction a with
   |nil=>rfl
   |cons x a ih=>simp[HT.lexLt,ih]
  rw[this]at w;cases w
 rw[e,Zal (by rw[Qb,<- pm.length_eq];omega) nd (fun k hk=>by obtain⟨l,_,rfl⟩:=Qn.mp hk;simp[kb]),e2,<- Zah (pm.map kb) rs]
theorem Zpr(hz:d q=0):Xx [gD g,tD g.n d,.int (q:Int)]=some (tL (Yn g q d)):=by
 have n5:=h.n5
 obtain⟨B',A',y7,y8,y9,y10,e⟩:=Zuv h (g.n+1) [] [q] [] none none none none (XY hq h0) (by simp) (fun _=>by simp) (by omega) (by simp)
 have hb:Xx=Z4 3 11 (Zj (W2 (fL Zm (Za (fV 0) (Za (fV 2) fN)))) (Zj (W2 (fL Z0 (Za (fV 0) (Za (fV 1) (Za (fV 2) fN))))) (Zj (ZB 3 (fL Zq (Za (fV 0) fN))) (Zj (Y7 4 (fR few fN)) (Zj (ZB 5 (fL Yz fN)) (Zj (ZB 6 (fL Yz (Za (fV 2) fN))) (Zj (V7 (Xr (fV 6)) toB) (Z1 (fL Y0 (Za (fV 4) fN)))))))))):=rfl
 have ew:=Zf3 (g:=Xr (fV 6)) (F:=toB) (ρ:=tE g d q [] [] [q] [none,none,none,none]) (g.n+1) e (by intro z;cases z)
 rw[QX]at ew
 have es:=Zfw h hq hd h0
 unfold V4 at es
 have e0:tE g d q [] [] [q] [none,none,none,none]=[some (.val (gD g)),some (.val (tD g.n d)),some (.val (.int (q:Int))),some (.val (YL g.n (ln g.bs))),some (.own (.lst [])),some (.val (.lst [])),some (.val (.lst [.int (q:Int)])),none,none,none,none]:=rfl
 rw[e0]at ew
 rw[hb]
 simp! only[X3 h hq,Z0v h hq hd hz,Zc5 h,VY,Zax,ew]
 unfold tE
 simp! only[es]
end
def Zbi(l:List Nat)(p:Nat×Nat):List Nat:=if p.1∈l\/p.2∈l then Ws (Ws l p.1) p.2 else l
def jn(n:Nat)(ps:List (Nat×Nat)):Bool:=decide (((List.range n).foldl (fun l _=>ps.foldl Zbi l) [0]).length=n)
theorem Zna{n:Nat}{l:List Nat}{p:Nat×Nat}(h:Zit n l)(h1:p.1<n)(h2:p.2<n):Zit n (Zbi l p):=by
 unfold Zbi
 split
 ·exact(h.put h1).put h2
 ·exact h
theorem Zdh{l:List Nat}{p:Nat×Nat}{x:Nat}(hx:x∈l):x∈Zbi l p:=by
 unfold Zbi
 split
 ·exact Xq.mpr (.inl (Xq.mpr (.inl hx)))
 ·exact hx
theorem WJ:∀(ps:List (Nat×Nat)) (l:List Nat) {x:Nat},x∈l->x∈ps.foldl Zbi l
 |[],_,_,h=>h
 |p::ps,l,_,h=>WJ ps (Zbi l p) (Zdh h)
theorem Zdg:∀(ps:List (Nat×Nat)) (l:List Nat) {p:Nat×Nat},p∈ps->(p.1∈l\/p.2∈l)->p.1∈ps.foldl Zbi l/\p.2∈ps.foldl Zbi l
 |[],_,_,h,_=>by cases h
 |p0::ps,l,p,h,hh=>by
  rw[JJ]
  rcases Qm.mp h with rfl|h'
  ·have:p.1∈Zbi l p/\p.2∈Zbi l p:=by
    unfold Zbi
    rw[if_pos hh]
    exact⟨Xq.mpr (.inl (Xq.mpr (.inr rfl))),Xq.mpr (.inr rfl)⟩
   exact⟨WJ ps _ this.1,WJ ps _ this.2⟩
  ·exact Zdg ps (Zbi l p0) h' (hh.imp Zdh Zdh)
theorem Zjd{n:Nat}:∀(ps:List (Nat×Nat)) (l:List Nat),(∀p∈ps,p.1<n/\p.2<n)->Zit n l->Zit n (ps.foldl Zbi l)
 |[],_,_,h=>h
 |p::ps,l,hp,h=>Zjd ps _ (fun q hq=>hp q (Qc _ hq)) (Zna h (hp p Qd).1 (hp p Qd).2)
theorem Zwn{n:Nat}(n1:1<=n){t:List Bd}(hR:Zum n t)(c:Zfo n t Ve):jn n (t.map Zab)=true:=by
 have hp:∀p∈t.map Zab,p.1<n/\p.2<n:=fun p hp=>by
  obtain⟨l,hl,rfl⟩:=Qn.mp hp
  exact hR l hl
 have round:∀l:List Nat,Zit n l->0∈l->l.length<n->l.length+1<=((t.map Zab).foldl Zbi l).length:=by
  intro l r h0 hl
  have ex:∃i,i<n/\i∉l:=by
   apply QD
   intro w
   have:(List.range n).length<=l.length:=WP _ _ List.nodup_range fun x hx=>by
    apply QD
    intro z
    exact w ⟨x,QK.mp hx,z⟩
   rw[Qt]at this
   omega
  obtain⟨i,hi,hil⟩:=ex
  obtain⟨b,hb,hne⟩:=c (fun x=>decide (x.toNat∈l)) (by simpa using h0) ⟨i,hi,by unfold Ve;simpa using hil⟩
  unfold Ve at hne
  simp only[Qz]at hne
  have hm:Zab b∈t.map Zab:=Qn.mpr ⟨b,hb,rfl⟩
  have new:∃x,x∉l/\x∈(t.map Zab).foldl Zbi l:=by
   by_cases ha:la b∈l
   ·have hb':lb b∉l:=fun z=>hne (by simp[ha,z])
    exact⟨lb b,hb',(Zdg _ l hm (.inl ha)).2⟩
   ·have hb':lb b∈l:=by
     apply QD
     intro z
     exact hne (by simp[ha,z])
    exact⟨la b,ha,(Zdg _ l hm (.inr hb')).1⟩
  obtain⟨x,hx,hx2⟩:=new
  have:=WP (x::l) ((t.map Zab).foldl Zbi l) (QP.mpr ⟨hx,r.nd⟩) fun y hy=>by
   rcases Qm.mp hy with rfl|z
   ·exact hx2
   ·exact WJ _ _ z
  rwa[Qk]at this
 have all:∀(ds:List Nat) (l:List Nat),Zit n l->0∈l->n<=l.length+ds.length->(ds.foldl (fun l _=>(t.map Zab).foldl Zbi l) l).length=n:=by
  intro ds
  induction ds with
  |nil =>
   intro l r _ hl
   have:=r.len
   simp at hl ⊢
   omega
  |cons d ds ih =>
   intro l r h0 hl
   rw[JJ]
   rw[Qk]at hl
   have r':=Zjd _ l hp r
   refine ih _ r' (WJ _ _ h0) ?_
   by_cases e:l.length<n
   ·have:=round l r h0 e;omega
   ·have:l.length<=((t.map Zab).foldl Zbi l).length:=WP _ _ r.nd fun y hy=>WJ _ _ hy
    omega
 unfold jn
 refine decide_eq_true (all _ _ ⟨by simp,fun i hi=>by simp at hi;omega⟩ (by simp) ?_)
 rw[Qt];simp
def jE(m:Nat)(W:D)(l:List Nat)(x:List (Option Cl)):YT:=some (.val (.int m))::some (.val W)::some (.own (.dcK (kN l) (tN l)))::x
theorem Zkc{m:Nat}{W:D}{l:List Nat}{i:Nat}(k:Nat)(hl:l.length<=5){x:List (Option Cl)}(hx:(Ye (jE m W l x))[k]?=some (some (.int (i:Int)))) :
  YX 2 (fV k) (fC (.bl true)) (jE m W l x)=.nx (jE m W (Ws l i) x):=by
 have e1:fV k (Ye (jE m W l x))=some (.int (i:Int)):=by unfold fV;rw[hx];rfl
 have e2:fC (.bl true) (Ye (jE m W l x))=some (.bl true):=rfl
 have e3:(jE m W l x)[2]?=some (some (.own (.dcK (kN l) (tN l)))):=rfl
 unfold YX
 rw[e1,e2,e3]
 dsimp only[Zfh]
 rw[if_pos ⟨rfl,by unfold kN Yu;rw[Qb];omega⟩,Zjq,Zjt]
 rfl
noncomputable def jB:FS:=Wj (Zfi (gB (f2 X1 (fV 4) (fV 2))) (gB (f2 X1 (fV 5) (fV 2)))) (Zj (YX 2 (fV 4) (fC (.bl true))) (YX 2 (fV 5) (fC (.bl true)))) WK
theorem Zwo{m:Nat}{W:D}{l:List Nat}{x3:Option Cl}{a b:Nat}{k:Int}(hl:l.length<=5)(hl5:(Ws l a).length<=5) :
  jB (jE m W l [x3,some (.val (.int a)),some (.val (.int b)),some (.val (.int k))])=.nx (jE m W (if a∈l\/b∈l then Ws (Ws l a) b else l) [x3,some (.val (.int a)),some (.val (.int b)),some (.val (.int k))]):=by
 have e4:gB (f2 X1 (fV 4) (fV 2)) (Ye (jE m W l [x3,some (.val (.int a)),some (.val (.int b)),some (.val (.int k))]))=some (decide (a∈l)):=by
  unfold jE
  simp! only[X1,Up,Zfh,Zj5]
 have e5:gB (f2 X1 (fV 5) (fV 2)) (Ye (jE m W l [x3,some (.val (.int a)),some (.val (.int b)),some (.val (.int k))]))=some (decide (b∈l)):=by
  unfold jE
  simp! only[X1,Up,Zfh,Zj5]
 have put:Zj (YX 2 (fV 4) (fC (.bl true))) (YX 2 (fV 5) (fC (.bl true))) (jE m W l [x3,some (.val (.int a)),some (.val (.int b)),some (.val (.int k))])=.nx (jE m W (Ws (Ws l a) b) [x3,some (.val (.int a)),some (.val (.int b)),some (.val (.int k))]):=by
  rw[ZV,Zkc (i:=a) 4 (by omega) rfl,ZJ,Zkc (i:=b) 5 hl5 rfl]
 unfold jB Wj Zfi
 rw[e4,e5]
 by_cases ha:a∈l
 ·simp only[ha,decide_true,QN,if_true,true_or];exact put
 ·by_cases hb:b∈l
  ·simp only[ha,hb,decide_true,decide_false,QN,Qo,if_false,if_true,or_true];exact put
  ·simp only[ha,hb,decide_false,QN,Qo,if_false,or_self];rfl
theorem Zps{m:Nat}{t:List Bd}(m1:1<=m)(m5:m<=5)(hv:∀l∈t,Zfn m l):Z6 [.int m,.lst (t.map bD)]=some (.bl (jn m (t.map Zab))):=by
 have inner:∀(cs:List Bd) (l:List Nat) (x3 x4 x5 x6:Option Cl),(∀b∈cs,Zfn m b)->Zit m l ->
   ∃x4' x5' x6',Z8 (gT [4,5,6]) jB (cs.map bD) (jE m (.lst (t.map bD)) l [x3,x4,x5,x6])=.nx (jE m (.lst (t.map bD)) ((cs.map Zab).foldl Zbi l) [x3,x4',x5',x6'])/\Zit m ((cs.map Zab).foldl Zbi l):=by
  intro cs
  induction cs with
  |nil=>intro l x3 x4 x5 x6 _ hR;exact⟨x4,x5,x6,rfl,hR⟩
  |cons b cs ih =>
   intro l x3 x4 x5 x6 hc hR
   obtain⟨r0,r1,r2,r3⟩:=hc b Qd
   have ea:b.1=((b.1.toNat:Nat):Int):=by omega
   have eb:b.2.1=((b.2.1.toNat:Nat):Int):=by omega
   have ra:=hR.put (i:=b.1.toNat) (by omega)
   have hs:=Zna (p:=Zab b) hR (by unfold Zab la;dsimp only;omega) (by unfold Zab lb;dsimp only;omega)
   obtain⟨y4,y5,y6,e,h2⟩:=ih (Zbi l (Zab b)) x3 (some (.val (.int b.1.toNat))) (some (.val (.int b.2.1.toNat))) (some (.val (.int b.2.2))) (fun c h=>hc c (Qc _ h)) hs
   refine⟨y4,y5,y6,?_,h2⟩
   rw[Qe]
   unfold Z8
   have tt:gT [4,5,6] (bD b)=some [(4,.int b.1),(5,.int b.2.1),(6,.int b.2.2)]:=rfl
   rw[tt]
   dsimp only
   have:=Zwo (m:=m) (W:=.lst (t.map bD)) (l:=l) (x3:=x3) (a:=b.1.toNat) (b:=b.2.1.toNat) (k:=b.2.2) (by have:=hR.len;omega) (by have:=ra.len;omega)
   have es:XA (jE m (.lst (t.map bD)) l [x3,x4,x5,x6]) [(4,.int b.1),(5,.int b.2.1),(6,.int b.2.2)]=jE m (.lst (t.map bD)) l [x3,some (.val (.int b.1.toNat)),some (.val (.int b.2.1.toNat)),some (.val (.int b.2.2))]:=by
    rw[<- ea,<- eb];rfl
   rw[es,this]
   exact e
 have outer:∀(ds:List D) (l:List Nat) (y3 y4 y5 y6:Option Cl),Zit m l->∃z3 z4 z5 z6,Z8 (gN 3) (YB (Zh (fV 1)) (gT [4,5,6]) jB) ds (jE m (.lst (t.map bD)) l [y3,y4,y5,y6]) =
   .nx (jE m (.lst (t.map bD)) (ds.foldl (fun l _=>(t.map Zab).foldl Zbi l) l) [z3,z4,z5,z6])/\Zit m (ds.foldl (fun l _=>(t.map Zab).foldl Zbi l) l):=by
  intro ds
  induction ds with
  |nil=>intro l y3 y4 y5 y6 hR;exact⟨y3,y4,y5,y6,rfl,hR⟩
  |cons d ds ih =>
   intro l y3 y4 y5 y6 hR
   obtain⟨u4,u5,u6,e,h2⟩:=inner t l (some (.val d)) y4 y5 y6 hv hR
   obtain⟨z3,z4,z5,z6,e2,h3⟩:=ih _ (some (.val d)) u4 u5 u6 h2
   refine⟨z3,z4,z5,z6,?_,h3⟩
   unfold Z8
   have tt:gN 3 d=some [(3,d)]:=rfl
   rw[tt]
   dsimp only
   have es:XA (jE m (.lst (t.map bD)) l [y3,y4,y5,y6]) [(3,d)]=jE m (.lst (t.map bD)) l [some (.val d),y4,y5,y6]:=rfl
   have hf:Zh (fV 1) (Yb (jE m (.lst (t.map bD)) l [some (.val d),y4,y5,y6]))=some (t.map bD):=rfl
   have ef:YB (Zh (fV 1)) (gT [4,5,6]) jB (jE m (.lst (t.map bD)) l [some (.val d),y4,y5,y6])=.nx (jE m (.lst (t.map bD)) ((t.map Zab).foldl Zbi l) [some (.val d),u4,u5,u6]):=by
    unfold YB
    rw[hf]
    exact e
   rw[es,ef]
   exact e2
 have hb:Z6=Z4 2 7 (Zj (Zjj 2 0 true) (Zj (Y1 (fR YW (Za (fV 0) fN)) (gN 3) (YB (Zh (fV 1)) (gT [4,5,6]) jB)) (Z1 (f2 Xb (fL Zf8 (Za (fV 2) fN)) (fV 0))))):=rfl
 rw[hb]
 have es:Yq 2 7 [D.int m,.lst (t.map bD)]=[some (.val (.int m)),some (.val (.lst (t.map bD))),none,none,none,none,none]:=rfl
 unfold Z4
 rw[if_pos (show([D.int m,.lst (t.map bD)]:List D).length=2 from rfl),es]
 have e1:Zjj 2 0 true [some (.val (.int m)),some (.val (.lst (t.map bD))),none,none,none,none,none]=.nx (jE m (.lst (t.map bD)) [0] [none,none,none,none]):=rfl
 rw[ZV,e1,ZJ,ZV]
 have hf:∀x,fR YW (Za (fV 0) fN) (Ye (jE m (.lst (t.map bD)) [0] x))=some ((List.range m).map fun k=>D.int (k:Nat)):=fun x=>by
  unfold jE
  simp! only[Xk (show m<=65536 by omega)]
 unfold Y1
 rw[hf]
 dsimp only
 obtain⟨z3,z4,z5,z6,e,h⟩:=outer ((List.range m).map fun k=>D.int (k:Nat)) [0] none none none none ⟨by simp,fun i hi=>by simp at hi;omega⟩
 rw[e,ZJ]
 have ej:decide (((((List.range m).map fun k=>D.int (k:Nat)).foldl (fun l _=>(t.map Zab).foldl Zbi l) [0]).length:Int)=(m:Int))=jn m (t.map Zab):=by
  unfold jn
  rw[List.foldl_map]
  by_cases q:((List.range m).foldl (fun l _=>(t.map Zab).foldl Zbi l) [0]).length=m
  ·rw[decide_eq_true q];exact decide_eq_true (by omega)
  ·rw[decide_eq_false q];exact decide_eq_false (by omega)
 unfold jE
 simp! only[Zf8,XB]
 unfold kN
 rw[Qb,ej]
def Zx0:D->Bool
 |.int _=>true
 |_=>false
theorem Zwx(d:D):ZL [d]=some (.bl (Zx0 d)):=by
 cases d<;>rfl
theorem Zmb(ls:List Bd)(l:Bd):Xm [.lst (ls.map bD),bD l]=some (.bl (decide (l∈ls))):=by
 have hi:We (bD l)=some [.int l.1,.int l.2.1,.int l.2.2]:=rfl
 have hc:ZK 1 [] (Zh (fV 1)) (gN 0) Xn (fL ZL (Za (fV 0) fN)) [some (.lst (ls.map bD)),some (bD l)]=some (.lst [.bl true,.bl true,.bl true]):=by
  have e:=Yw (n:=1) (ix:=[]) (fi:=Zh (fV 1)) (t:=gN 0) (fe:=fL ZL (Za (fV 0) fN)) (ρ:=[some (.lst (ls.map bD)),some (bD l)]) (fun d=>d) (fun d=>.bl (Zx0 d)) [.int l.1,.int l.2.1,.int l.2.2]
   (by simp! only[hi,Qe,QI]) (by simp) fun d _=>⟨_,rfl,by simp! only[Zwx]⟩
  rw[e];rfl
 have ha:Za7 [.lst [.bl true,.bl true,.bl true]]=some (.bl true):=rfl
 have ht:Zgg "tuple" (bD l)=some (.bl true):=rfl
 unfold Xm Zb7
 simp! only[ht,hc,ha,Zs8]
theorem Zfs:∀{t:List Bd},t.Pairwise (fun x y=>HT.lexLt [x.1,x.2.1,x.2.2] [y.1,y.2.1,y.2.2]=true)->(US t).all (fun p=>HT.lexLt [p.1.1,p.1.2.1,p.1.2.2] [p.2.1,p.2.2.1,p.2.2.2])=true
 |[],_=>rfl
 |[_],_=>rfl
 |x::y::r,h=>by
  obtain⟨h1,h2⟩:=QS.mp h
  show(HT.lexLt _ _&&(US (y::r)).all _)=true
  rw[h1 y Qd,Zfs h2];rfl
theorem Zpq{g:Gr}(h:W1 g){t:List Bd}(hl:t.length+1=g.n)(hs:∀l∈t,l∈Ym g.bs)(hr:t.Pairwise (fun x y=>HT.lexLt [x.1,x.2.1,x.2.2] [y.1,y.2.1,y.2.2]=true))(c:Zfo g.n t Ve):Yj [gD g,tL t]=some (tL t):=by
 have n5:=h.n5
 have hi:We (.lst (t.map bD))=some (t.map bD):=rfl
 have hc:ZK 1 [2] (Zh (fV 1)) (gN 0) Xn (fL Xm (Za (fV 1) (Za (fV 0) fN))) [some (gD g),some (.lst (t.map bD)),some (.lst ((Ym g.bs).map bD))]=some (.lst ((t.map fun _=>true).map .bl)):=by
  have e:=Yw (n:=1) (ix:=[2]) (fi:=Zh (fV 1)) (t:=gN 0) (fe:=fL Xm (Za (fV 1) (Za (fV 0) fN))) (ρ:=[some (gD g),some (.lst (t.map bD)),some (.lst ((Ym g.bs).map bD))])
   bD (fun _=>.bl true) t (by simp! only[hi]) (by omega) fun l hl=>⟨_,rfl,by simp! only[Zmb,hs l hl]⟩
  rw[e,QF];rfl
 have ha:Za7 [.lst ((t.map fun _=>true).map .bl)]=some (.bl true):=by rw[Ur];simp[List.all_map]
 have hc2:ZK 2 [] (Zml (fV 1) (Zct (fV 1) (pS (fC (.int 1))) pN)) (gT [0,1]) Xn (f2 XH (fV 0) (fV 1)) [some (gD g),some (.lst (t.map bD)),some (.lst ((Ym g.bs).map bD))] =
   some (.lst (((US t).map fun p=>HT.lexLt [p.1.1,p.1.2.1,p.1.2.2] [p.2.1,p.2.2.1,p.2.2.2]).map .bl)):=by
  have e:=Yw (n:=2) (ix:=[]) (fi:=Zml (fV 1) (Zct (fV 1) (pS (fC (.int 1))) pN)) (t:=gT [0,1]) (fe:=f2 XH (fV 0) (fV 1)) (ρ:=[some (gD g),some (.lst (t.map bD)),some (.lst ((Ym g.bs).map bD))])
   (fun p:Bd×Bd=>.tup [bD p.1,bD p.2]) (fun p=>.bl (HT.lexLt [p.1.1,p.1.2.1,p.1.2.2] [p.2.1,p.2.2.1,p.2.2.2])) (US t)
   (by simp! only[Zml,Zxc,We,Zku (t.map bD) 1,show(some (1:Int))=some ((1:Nat):Int) from rfl,Zlb]) (by have:=Zc8 t;omega) fun p _=>⟨_,rfl,rfl⟩
  rw[e,QF];rfl
 have ha2:Za7 [.lst (((US t).map fun p=>HT.lexLt [p.1.1,p.1.2.1,p.1.2.2] [p.2.1,p.2.2.1,p.2.2.2]).map .bl)]=some (.bl true):=by
  rw[Ur,List.all_map]
  exact congrArg (fun b=>some (D.bl b)) (Zfs hr)
 have hn:((t.length:Int))=(g.n:Int)-1:=by omega
 have hv:∀l∈t,Zfn g.n l:=fun l hl=>Uk h l (hs l hl)
 have ej:=Zps h.n1 n5 hv
 rw[Zwn h.n1 (fun l hl=>(hv l hl).r) c]at ej
 have et:XU [gD g,.lst (t.map bD)]=some (.bl true):=by
  unfold XU Zb5
  simp! only[Zpm,VR,Ud,Qb,hn,Ul h,hc,ha,hc2,ha2,ej]
 unfold tL Yj WY
 simp! only[et]
noncomputable def poC:FE:=ZK 1 [3,6,1] (Zh (fL ZN (Za (fV 3) (Za (fV 7) fN)))) (gN 0) (Xr (fL ZX (Za (fV 1) (Za (fV 0) (Za (fV 2) (Za (fV 3) fN)))))) (fV 0)
noncomputable def poI:FS:=Zbj 4 (fV 9) (f2 ZR (fL ZC (Za (fV 3) (Za (fV 9) (Za (fV 5) fN)))) (f2 Yl (fL ZX (Za (fV 3) (Za (fV 9) (Za (fV 6) (Za (fV 1) fN))))) (fC (.int 0))))
noncomputable def poB:FS:=Zj (ZB 7 (f2 ZR (fV 5) (fV 6))) (Zj (ZB 8 poC) (Zj (YB (Zh (fV 8)) (gN 9) poI) (Zj (ZB 5 (fV 7)) (ZB 6 (fV 8)))))
def pE(g:Gr)(t:List Bd)(q:Nat)(c:Nat->Int)(B A:List Nat)(x:List (Option Cl)):YT :=
 some (.val (gD g))::some (.val (tL t))::some (.val (.int (q:Int)))::some (.val (YL g.n (ln g.bs)))::some (.own (lD g.n c))::some (.val (nL B))::some (.val (nL A))::x
structure Tk(g:Gr)(d:Nat->Int)(t:List Bd)(k:Nat)(B A:List Nat):Prop where
 sub:∀l∈go (Ym g.bs) g.n (ln g.bs) d k B A,l∈t
 old:∀l∈t,l∈go (Ym g.bs) g.n (ln g.bs) d k B A\/(la l∈B++A/\lb l∈B++A)
section
variable{g:Gr}(h:W1 g)
include h
theorem Tk.step{d:Nat->Int}{q:Nat}{t:List Bd}{k:Nat}{B A:List Nat}(s:St g.n (ln g.bs) d q B A)(hA:A≠[])(T:Tk g d t (k+1) B A):Tk g d t k (B++A) (Xc g.n (ln g.bs) d (B++A)):=by
 have eg:go (Ym g.bs) g.n (ln g.bs) d (k+1) B A=(Xc g.n (ln g.bs) d (B++A)).map (XG (Ym g.bs) (ln g.bs) d B A)++go (Ym g.bs) g.n (ln g.bs) d k (B++A) (Xc g.n (ln g.bs) d (B++A)):=by
  conv=>lhs;rw[go]
  rw[if_neg hA]
 refine⟨fun l hl=>T.sub l (by rw[eg];exact Qg _ hl),fun l hl=>?_⟩
 rcases T.old l hl with w|w
 ·rw[eg]at w
  rcases Qu.mp w with z|z
  ·obtain⟨y,hy,rfl⟩:=Qn.mp z
   obtain⟨_,h2⟩:=Wb h s hy
   right
   rcases h2 with⟨a,b⟩|⟨a,b⟩
   ·exact⟨Qg _ (by rw[a];exact hy),Qw _ (Qg _ b)⟩
   ·exact⟨Qw _ (Qg _ b),Qg _ (by rw[a];exact hy)⟩
  ·exact .inl z
 ·exact .inr ⟨Qw _ w.1,Qw _ w.2⟩
theorem LT_nd{y:Nat}{A:List Nat}:(LT (Ym g.bs) y A).Nodup:=by
 unfold LT
 refine List.Pairwise.filter _ ((Wp h).imp fun{a b} w e=>?_)
 subst e
 exact Zt9 _ w
theorem Zfx{d:Nat->Int}{q:Nat}{t:List Bd}{k:Nat}{B A:List Nat}(s:St g.n (ln g.bs) d q B A)(T:Tk g d t (k+1) B A){y:Nat}(hy:y∉B++A) :
  (y∈Xc g.n (ln g.bs) d (B++A)->Zhj t (LT (Ym g.bs) y A) 0=[(d y-M.sumL (ln g.bs) y B).toNat]/\0<=d y-M.sumL (ln g.bs) y B)/\(y∉Xc g.n (ln g.bs) d (B++A)->Zhj t (LT (Ym g.bs) y A) 0=[]):=by
 have key:∀l∈LT (Ym g.bs) y A,l∈t->y∈Xc g.n (ln g.bs) d (B++A)/\l=XG (Ym g.bs) (ln g.bs) d B A y:=fun l hl ht=>by
  rcases T.old l ht with w|w
  ·exact(Ztb h s hy hl).mp w
  ·rcases(Zb3.mp hl).2 with⟨a,_⟩|⟨a,_⟩
   ·rw[a]at w;exact absurd w.1 hy
   ·rw[a]at w;exact absurd w.2 hy
 constructor
 ·intro hn
  obtain⟨i,e1,e2,e3,e4⟩:=Zc2 h s hn
  have ht:XG (Ym g.bs) (ln g.bs) d B A y∈t:=T.sub _ ((Ztb h s hy e4).mpr ⟨hn,rfl⟩)
  have:=Zju ht (LT (Ym g.bs) y A) 0 i (LT_nd h) e3 fun l hl w=>(key l hl w).2
  refine⟨?_,by omega⟩
  rw[this,e1,Qz,Nat.zero_add]
 ·intro hn
  exact Zbp _ _ fun l hl w=>hn (key l hl w).1
theorem Zzh{d:Nat->Int}{q:Nat}{t:List Bd}{k:Nat}{B A:List Nat}(s:St g.n (ln g.bs) d q B A)(hA:A.Pairwise (· < ·))(T:Tk g d t (k+1) B A){a b x4 x5 x8 x9:Option D} :
  poC [a,some (tL t),b,some (YL g.n (ln g.bs)),x4,x5,some (nL A),some (nL (B++A)),x8,x9]=some (nL (Xc g.n (ln g.bs) d (B++A))):=by
 have n5:=h.n5
 have lenR:=M.length_le_of_nodup g.n (B++A) s.nd s.lt
 rw[Qi]at lenR
 have ltA:∀z∈A,z<g.n:=fun z hz=>s.lt z (Qg _ hz)
 unfold poC
 rw[Xt (fun(i:Nat)=>D.int ((i:Nat):Int)) (fun y=>decide (y∈Xc g.n (ln g.bs) d (B++A))) (fun i=>D.int ((i:Nat):Int)) ((List.range g.n).filter fun y=>!decide (y∈B++A)) (by simp! only[Zkk (L:=ln g.bs) (show g.n<=1000 by omega)];rfl) (by have:=Q5 (fun y=>!decide (y∈B++A)) (List.range g.n);rw[Qt]at this;omega)]
 ·have e:((List.range g.n).filter fun y=>!decide (y∈B++A)).filter (fun y=>decide (y∈Xc g.n (ln g.bs) d (B++A)))=Xc g.n (ln g.bs) d (B++A):=by
   conv=>rhs;unfold Xc
   refine List.filter_congr fun y hy=>?_
   obtain⟨h1,h2⟩:=QH.mp hy
   have h1:=QK.mp h1
   have h2:y∉B++A:=by simpa using h2
   rw[Bool.eq_iff_iff,decide_eq_true_eq,decide_eq_true_eq,YU]
   exact⟨fun w=>w.2.2,fun w=>⟨h1,h2,w⟩⟩
  rw[e];rfl
 ·intro y hy
  obtain⟨h1,h2⟩:=QH.mp hy
  have h1:=QK.mp h1
  have h2:y∉B++A:=by simpa using h2
  have yA:y∉A:=fun z=>h2 (Qg _ z)
  have e:=Zkf h h1 yA hA ltA (by omega) t
  obtain⟨p1,p2⟩:=Zfx h s T h2
  refine⟨_,rfl,?_,fun _=>rfl⟩
  by_cases hn:y∈Xc g.n (ln g.bs) d (B++A)
  ·rw[(p1 hn).1]at e
   rw[decide_eq_true hn]
   simp! only[e]
   rfl
  ·rw[p2 hn]at e
   rw[decide_eq_false hn]
   simp! only[e]
   rfl
theorem Zrt{d:Nat->Int}{q:Nat}{t:List Bd}{k:Nat}{B A:List Nat}(s:St g.n (ln g.bs) d q B A)(hA:A.Pairwise (· < ·))(T:Tk g d t (k+1) B A){x7 x8:Option Cl}:∀(ys:List Nat) (c:Nat->Int) (x9:Option Cl),(∀y∈ys,y∈Xc g.n (ln g.bs) d (B++A))->∃x9' c',
  Z8 (gN 9) poI (ys.map fun i=>D.int ((i:Nat):Int)) (pE g t q c B A [x7,x8,x9])=.nx (pE g t q c' B A [x7,x8,x9'])/\(∀y∈ys,c' y=d y)/\∀y,y∉ys->c' y=c y:=by
 have n5:=h.n5
 have lenBA:=M.length_le_of_nodup g.n (B++A) s.nd s.lt
 rw[Qi]at lenBA
 have ltA:∀z∈A,z<g.n:=fun z hz=>s.lt z (Qg _ hz)
 have Zuj:∀z∈B,z<g.n:=fun z hz=>s.lt z (Qw _ hz)
 intro ys
 induction ys with
 |nil=>intro c x9 _;exact⟨x9,c,rfl,(fun y hy=>(by cases hy)),fun y _=>rfl⟩
 |cons y ys ih =>
  intro c x9 hy
  have hyn:=hy y Qd
  obtain⟨y1,y2,y3⟩:=YU.mp hyn
  have yA:y∉A:=fun z=>y2 (Qg _ z)
  obtain⟨pl,pn⟩:=(Zfx h s T y2).1 hyn
  have e2:=Zkf h y1 yA hA ltA (by omega) t
  rw[pl]at e2
  have e1:=VP (f:=ln g.bs) y1 Zuj (by omega)
  obtain⟨x9',c',e,u1,u2⟩:=ih (fun j=>if j=y then d y else c j) (some (.val (.int (y:Int)))) fun z hz=>hy z (Qc _ hz)
  refine⟨x9',c',?_,fun z hz=>?_,fun z hz=>?_⟩
  ·rw[Qe]
   unfold Z8
   have tt:gN 9 (D.int (y:Int))=some [(9,.int (y:Int))]:=rfl
   rw[tt]
   have e3:∀i:Nat,Yl (nL [i]) (.int 0)=some (.int (i:Int)):=fun i=>rfl
   have es:poI (XA (pE g t q c B A [x7,x8,x9]) [(9,.int (y:Int))])=.nx (pE g t q (fun j=>if j=y then d y else c j) B A [x7,x8,some (.val (.int (y:Int)))]):=by
    unfold poI
    rw[Zos (n:=g.n) (f:=c) (k:=(y:Int)) (v:=d y) rfl ?_ rfl (by omega) (by omega)]
    ·rw[Qz];rfl
    ·unfold pE
     simp! only[e1,e2,e3]
     congr 2
     omega
   dsimp only
   rw[es]
   exact e
  ·by_cases hz':z∈ys
   ·exact u1 z hz'
   ·have:z=y:=by
     rcases Qm.mp hz with w|w
     ·exact w
     ·exact absurd w hz'
    rw[u2 z hz',this,if_pos rfl]
  ·rw[u2 z fun w=>hz (Qc _ w),if_neg fun w=>hz (by rw[w];exact Qd)]
theorem Zvq{d:Nat->Int}{q:Nat}(hd:M.Settled g.n (ln g.bs) q d){t:List Bd}:∀(k:Nat) (B A:List Nat) (c:Nat->Int) (x7 x8 x9:Option Cl),St g.n (ln g.bs) d q B A->A.Pairwise (· < ·)->Tk g d t k B A->(A≠[]->g.n+2<=k+(B++A).length)->(A=[]->∀i,i<g.n->i∈B)->1<=k->(∀i∈B++A,c i=d i)->∃c' B' A' y7 y8 y9,
  YQ (Xr (fV 6)) poB k (pE g t q c B A [x7,x8,x9])=.nx (pE g t q c' B' A' [y7,y8,y9])/\∀i,i<g.n->c' i=d i:=by
 have n5:=h.n5
 intro k
 induction k with
 |zero=>intro B A c x7 x8 x9 _ _ _ _ _ hk;omega
 |succ k ih =>
  intro B A c x7 x8 x9 s hA T hk hall _ hc
  have lenBA:=M.length_le_of_nodup g.n (B++A) s.nd s.lt
  have gt:Xr (fV 6) (Ye (pE g t q c B A [x7,x8,x9]))=some (!A.isEmpty):=by
   show some (!(A.map fun i=>D.int ((i:Nat):Int)).isEmpty)=_
   cases A<;>rfl
  unfold YQ
  rw[gt]
  by_cases e:A=[]
  ·have hall2:=hall e
   subst e
   exact⟨c,B,[],x7,x8,x9,rfl,fun i hi=>hc i (by rw[Q1];exact hall2 i hi)⟩
  ·have hk:=hk e
   have eA:(!A.isEmpty)=true:=by cases A with|nil=>exact absurd rfl e|cons _ _=>rfl
   rw[eA]
   dsimp only
   have s':=s.step
   obtain⟨z9,c',ei,u1,u2⟩:=Zrt h s hA T (x7:=some (.val (nL (B++A)))) (x8:=some (.val (nL (Xc g.n (ln g.bs) d (B++A))))) (Xc g.n (ln g.bs) d (B++A)) c x9 fun y hy=>hy
   have eb:poB (pE g t q c B A [x7,x8,x9])=.nx (pE g t q c' (B++A) (Xc g.n (ln g.bs) d (B++A)) [some (.val (nL (B++A))),some (.val (nL (Xc g.n (ln g.bs) d (B++A)))),z9]):=by
    have e7:ZB 7 (f2 ZR (fV 5) (fV 6)) (pE g t q c B A [x7,x8,x9])=.nx (pE g t q c B A [some (.val (nL (B++A))),x8,x9]):=by
     have:=Z1e (a:=B) (b:=A) (by rw[Qi]at lenBA;omega)
     unfold pE
     simp! only[this]
    have e8:ZB 8 poC (pE g t q c B A [some (.val (nL (B++A))),x8,x9])=.nx (pE g t q c B A [some (.val (nL (B++A))),some (.val (nL (Xc g.n (ln g.bs) d (B++A)))),x9]):=by
     unfold pE ZB
     simp only[Yb,Qe,QI]
     rw[Zzh h s hA T]
     rfl
    have e9:YB (Zh (fV 8)) (gN 9) poI (pE g t q c B A [some (.val (nL (B++A))),some (.val (nL (Xc g.n (ln g.bs) d (B++A)))),x9])=Z8 (gN 9) poI ((Xc g.n (ln g.bs) d (B++A)).map fun i=>D.int ((i:Nat):Int)) (pE g t q c B A [some (.val (nL (B++A))),some (.val (nL (Xc g.n (ln g.bs) d (B++A)))),x9]):=rfl
    unfold poB
    rw[ZV,e7,ZJ,ZV,e8,ZJ,ZV,e9,ei,ZJ]
    unfold pE
    simp! only[]
   rw[eb]
   dsimp only
   refine ih (B++A) (Xc g.n (ln g.bs) d (B++A)) c' (some (.val (nL (B++A)))) (some (.val (nL (Xc g.n (ln g.bs) d (B++A))))) z9 s' Zd0 (Tk.step h s e T) (fun e'=>?_) (fun e'=>?_) (by omega) fun i hi=>?_
   ·have:=JS.mpr e';rw[Qi (as:=B++A)];omega
   ·exact Zhr h hd s.nd s.lt s.bk e'
   ·rcases Qu.mp hi with w|w
    ·rw[u2 i fun z=>(YU.mp z).2.1 w];exact hc i w
    ·exact u1 i w
end
section
variable{g:Gr}(h:W1 g){q:Nat}(hq:q<g.n){d:Nat->Int}(hd:M.Settled g.n (ln g.bs) q d)(h0:∀i,i<g.n->0<=d i)
include h hq hd h0
theorem Zut:Zfo g.n (Yn g q d) Ve:=by
 intro S s0 hx
 obtain⟨i,hi,hS⟩:=hx
 apply QD
 intro hn
 have all:=Zny h hd (fun j=>S (Ve j)) (S (Ve q)) (g.n+1) [] [q] (XY hq h0) (by simp) (by simp) (fun l hl=>by
  apply QD
  intro z
  exact hn ⟨l,(Zdc h hq hd h0).mpr hl,z⟩) (fun j hj=>by simp at hj;rw[hj])
 have a':S (Ve i)=S (Ve q):=all i hi
 have b':S (Ve 0)=S (Ve q):=all 0 (by omega)
 have c:S (Ve 0)=true:=s0
 rw[hS]at a'
 rw[c,<- a']at b'
 cases b'
theorem VO(hz:d q=0):Yt [gD g,tL (Yn g q d),.int (q:Int)]=some (tD g.n d):=by
 have n5:=h.n5
 have n1:=h.n1
 have len:=Zlm h hq hd h0
 have ck:=Zpq h (t:=Yn g q d) (by omega) (fun l hl=>(QH.mp hl).1) ((Wp h).filter _) (Zut h hq hd h0)
 have T:Tk g d (Yn g q d) (g.n+1) [] [q]:=⟨fun l hl=>(Zdc h hq hd h0).mpr hl,fun l hl=>.inl ((Zdc h hq hd h0).mp hl)⟩
 obtain⟨c',B',A',y7,y8,y9,e,u⟩:=Zvq h hd (g.n+1) [] [q] (fun _=>0) none none none (XY hq h0) (by simp) T (fun _=>by simp) (fun z=>by cases z) (by omega) (fun i hi=>by simp at hi;rw[hi,hz])
 have hb:Yt=Z4 3 10 (Zj (W2 (fL Zm (Za (fV 0) (Za (fV 2) fN)))) (Zj (W2 (fL Yj (Za (fV 0) (Za (fV 1) fN)))) (Zj (ZB 3 (fL Zq (Za (fV 0) fN))) (Zj (Y7 4 (Zjn (fR few (Za (fC (.int 0)) fN)) (fL Yv (Za (fV 3) fN)))) (Zj (ZB 5 (fL Yz fN)) (Zj (ZB 6 (fL Yz (Za (fV 2) fN))) (Zj (V7 (Xr (fV 6)) poB) (Z1 (fL Zlk (Za (fV 4) fN)))))))))):=rfl
 have ew:=Zf3 (g:=Xr (fV 6)) (F:=poB) (ρ:=pE g (Yn g q d) q (fun _=>0) [] [q] [none,none,none]) (g.n+1) e (by intro z;cases z)
 have e0:pE g (Yn g q d) q (fun _=>0) [] [q] [none,none,none]=[some (.val (gD g)),some (.val (tL (Yn g q d))),some (.val (.int (q:Int))),some (.val (YL g.n (ln g.bs))),some (.own (lD g.n fun _=>0)),some (.val (.lst [])),some (.val (.lst [.int (q:Int)])),none,none,none]:=rfl
 rw[e0]at ew
 have er:Y7 4 (Zjn (fR few (Za (fC (.int 0)) fN)) (fL Yv (Za (fV 3) fN))) [some (.val (gD g)),some (.val (tL (Yn g q d))),some (.val (.int (q:Int))),some (.val (YL g.n (ln g.bs))),none,none,none,none,none,none]=.nx [some (.val (gD g)),some (.val (tL (Yn g q d))),some (.val (.int (q:Int))),some (.val (YL g.n (ln g.bs))),some (.own (lD g.n fun _=>0)),none,none,none,none,none]:=by
  have rp:∀n:Nat,(List.replicate n [D.int 0]).flatten=(UB n fun _=>0).map .int:=fun n=>by
   unfold UB
   induction n with
   |zero=>rfl
   |succ n ih=>rw[List.replicate_succ',List.flatten_append,ih,JY];simp
  unfold Y7 Zjn
  simp! only[WR,Zax]
  rw[if_pos ⟨by omega,by omega,by simp[Yu];omega⟩]
  dsimp only
  rw[Qz,rp]
  rfl
 rw[hb]
 unfold Z4
 rw[if_pos (show([gD g,tL (Yn g q d),.int (q:Int)]:List D).length=3 from rfl)]
 have e1:Yq 3 10 [gD g,tL (Yn g q d),.int (q:Int)]=[some (.val (gD g)),some (.val (tL (Yn g q d))),some (.val (.int (q:Int))),none,none,none,none,none,none,none]:=rfl
 have e2:W2 (fL Zm (Za (fV 0) (Za (fV 2) fN))) [some (.val (gD g)),some (.val (tL (Yn g q d))),some (.val (.int (q:Int))),none,none,none,none,none,none,none]=.nx [some (.val (gD g)),some (.val (tL (Yn g q d))),some (.val (.int (q:Int))),none,none,none,none,none,none,none]:=by simp! only[X3 h hq]
 have e3:W2 (fL Yj (Za (fV 0) (Za (fV 1) fN))) [some (.val (gD g)),some (.val (tL (Yn g q d))),some (.val (.int (q:Int))),none,none,none,none,none,none,none]=.nx [some (.val (gD g)),some (.val (tL (Yn g q d))),some (.val (.int (q:Int))),none,none,none,none,none,none,none]:=by simp! only[ck]
 have e4:ZB 3 (fL Zq (Za (fV 0) fN)) [some (.val (gD g)),some (.val (tL (Yn g q d))),some (.val (.int (q:Int))),none,none,none,none,none,none,none]=.nx [some (.val (gD g)),some (.val (tL (Yn g q d))),some (.val (.int (q:Int))),some (.val (YL g.n (ln g.bs))),none,none,none,none,none,none]:=by simp! only[Zc5 h]
 rw[e1,ZV,e2,ZJ,ZV,e3,ZJ,ZV,e4,ZJ,ZV,er,ZJ]
 simp! only[VY,Zax,ew]
 unfold pE
 have et:Zlk [lD g.n c']=some (tD g.n d):=by
  rw[Zsu (g:=d) u];rfl
 simp! only[et]
end
def Wm(n:Nat)(L:Nat->Nat->Int)(d:Nat->Int):Nat->List Nat->List (List Nat)
 |0,_=>[]
 |k+1,R=>if Xc n L d R=[] then Wm n L d k R else Xc n L d R::Wm n L d k (R++Xc n L d R)
theorem Zj8{n:Nat}{L:Nat->Nat->Int}{d:Nat->Int}{R:List Nat}(e:Xc n L d R=[]):∀k,Wm n L d k R=[]
 |0=>rfl
 |k+1=>by rw[Wm,if_pos e,Zj8 e k]
def mk(ls:List Bd)(L:Nat->Nat->Int)(d:Nat->Int):List Nat->List Nat->List (List Nat)->List Bd
 |_,_,[]=>[]
 |B,A,F::Fs=>F.map (XG ls L d B A)++mk ls L d (B++A) F Fs
def Gds(n:Nat)(L:Nat->Nat->Int)(d:Nat->Int):List Nat->List Nat->List (List Nat)->Prop
 |_,_,[]=>True
 |B,A,F::Fs=>F=Xc n L d (B++A)/\Gds n L d (B++A) F Fs
theorem Zec{n:Nat}{L:Nat->Nat->Int}{d:Nat->Int}:∀(k:Nat) (B A:List Nat),Gds n L d B A (Wm n L d k (B++A))
 |0,_,_=>trivial
 |k+1,B,A=>by
  rw[Wm]
  split
  ·exact Zec k B A
  ·exact⟨rfl,Zec k (B++A) _⟩
theorem Zeb{n:Nat}{L:Nat->Nat->Int}{d:Nat->Int}:∀(k:Nat) (R:List Nat),(Wm n L d k R).length<=k
 |0,_=>Qj 0
 |k+1,R=>by
  rw[Wm]
  split
  ·have:=Zeb (n:=n) (L:=L) (d:=d) k R;omega
  ·have:=Zeb (n:=n) (L:=L) (d:=d) k (R++Xc n L d R);rw[Qk];omega
section
variable{g:Gr}(h:W1 g)
include h
theorem mk_go{d:Nat->Int}{q:Nat}:∀(k k':Nat) (B A:List Nat),St g.n (ln g.bs) d q B A->A≠[]->g.n<=k+(B++A).length->g.n+1<=k'+(B++A).length->mk (Ym g.bs) (ln g.bs) d B A (Wm g.n (ln g.bs) d k (B++A))=go (Ym g.bs) g.n (ln g.bs) d k' B A:=by
 have none:∀(k':Nat) (B A:List Nat),Xc g.n (ln g.bs) d (B++A)=[]->go (Ym g.bs) g.n (ln g.bs) d k' B A=[]:=fun k' B A e=>by
  cases k' with
  |zero=>rfl
  |succ k' =>
   unfold go
   split
   ·rfl
   ·rw[e]
    cases k'<;>simp[go]
 intro k
 induction k with
 |zero =>
  intro k' B A s hA hk hk'
  have len:=M.length_le_of_nodup g.n (B++A) s.nd s.lt
  have e:Xc g.n (ln g.bs) d (B++A)=[]:=by
   cases q':Xc g.n (ln g.bs) d (B++A) with
   |nil=>rfl
   |cons y ys =>
    have hy:y∈Xc g.n (ln g.bs) d (B++A):=by rw[q'];exact Qd
    obtain⟨y1,y2,_⟩:=YU.mp hy
    have:=M.length_le_of_nodup g.n (y::(B++A)) (QP.mpr ⟨y2,s.nd⟩) fun i hi=>by
     rcases Qm.mp hi with rfl|z
     ·exact y1
     ·exact s.lt i z
    rw[Qk]at this
    omega
  rw[none k' B A e];rfl
 |succ k ih =>
  intro k' B A s hA hk hk'
  by_cases e:Xc g.n (ln g.bs) d (B++A)=[]
  ·rw[Zj8 e,none k' B A e];rfl
  ·have hp:=JS.mpr e
   cases k' with
   |zero =>
    have len:=M.length_le_of_nodup g.n (B++A) s.nd s.lt
    omega
   |succ k' =>
    rw[Wm,if_neg e,mk,ih k' (B++A) _ s.step e (by rw[Qi (as:=B++A)];omega) (by rw[Qi (as:=B++A)];omega)]
    conv=>rhs;rw[go]
    rw[if_neg hA]
theorem g_to{y:Nat}{R:List Nat}(hl:R.length<=1000):Yx [gD g,.int (y:Int),nL R]=some (.int (M.sumL (ln g.bs) y R)):=by
 unfold Yx Zcb
 simp! only[]
 rw[Yw (fun(i:Nat)=>D.int ((i:Nat):Int)) (fun i=>D.int (ln g.bs y i)) R rfl (by omega)]
 ·simp! only[]
  rw[Zj4]
  rfl
 ·intro x hx
  refine⟨_,rfl,?_⟩
  simp! only[Zwv h]
end
theorem Zv6(A:List Nat):Wc (nL A) (.lst [])=some (.bl (!A.isEmpty)):=by
 have e:A.map (fun i=>D.int ((i:Nat):Int))=(A.map fun(i:Nat)=>(i:Int)).map .int:=by rw[QF];rfl
 unfold nL
 rw[e]
 have:=Zo6 (A.map fun(i:Nat)=>(i:Int)) []
 rw[QI]at this
 rw[this]
 cases A<;>simp
noncomputable def lyR:FE:=ZK 1 [4] (fR YW (Za (f2 Yl (fV 0) (fC (.int 0))) fN)) (gN 0) (gB (f2 Xv (fV 0) (fV 1))) (fV 0)
noncomputable def lyW:FE:=ZK 1 [1,0,4] (Zh (fV 6)) (gN 0) (gB (f2 XH (f2 Yl (fV 1) (fV 0)) (fL Yx (Za (fV 2) (Za (fV 0) (Za (fV 3) fN)))))) (fV 0)
noncomputable def lyB:FS:=Zj (ZB 6 lyR) (Zj (ZB 7 lyW) (Wj (gB (f2 Wc (fV 7) (fL Yz fN))) (Zj (Zcd 3 (fV 7)) (ZB 4 (f2 ZR (fV 4) (fV 7)))) WK))
def lE(g:Gr)(d:Nat->Int)(q:Nat)(LL:List (List Nat))(R:List Nat)(x:List (Option Cl)):YT :=
 some (.val (gD g))::some (.val (tD g.n d))::some (.val (.int (q:Int)))::some (.own (.lst (LL.map nL)))::some (.val (nL R))::x
section
variable{g:Gr}(h:W1 g)
include h
theorem Zv9{d:Nat->Int}{q:Nat}{LL:List (List Nat)}{R:List Nat}(nd:R.Nodup)(lt:∀i∈R,i<g.n)(hl:LL.length<=100){x5 x6 x7:Option Cl}:∃x6' x7',
  lyB (lE g d q LL R [x5,x6,x7])=.nx (if Xc g.n (ln g.bs) d R=[] then lE g d q LL R [x5,x6',x7'] else lE g d q (LL++[Xc g.n (ln g.bs) d R]) (R++Xc g.n (ln g.bs) d R) [x5,x6',x7']):=by
 have n5:=h.n5
 have lenR:=M.length_le_of_nodup g.n R nd lt
 have lenN:=M.length_le_of_nodup g.n _ (Zhs (n:=g.n) (L:=ln g.bs) (d:=d) (R:=R)) fun i hi=>(YU.mp hi).1
 refine⟨some (.val (nL ((List.range g.n).filter fun y=>!decide (y∈R)))),some (.val (nL (Xc g.n (ln g.bs) d R))),?_⟩
 have e6:ZB 6 lyR (lE g d q LL R [x5,x6,x7])=.nx (lE g d q LL R [x5,some (.val (nL ((List.range g.n).filter fun y=>!decide (y∈R)))),x7]):=by
  have e:∀u v w z,lyR [some (gD g),some (tD g.n d),some (.int (q:Int)),u,some (nL R),v,w,z]=some (nL ((List.range g.n).filter fun y=>!decide (y∈R))):=fun u v w z=>by
   unfold lyR
   rw[Xt (fun(i:Nat)=>D.int ((i:Nat):Int)) (fun i=>!decide (i∈R)) (fun i=>D.int ((i:Nat):Int)) (List.range g.n) (by simp! only[VR,Xk (show g.n<=65536 by omega)]) (Zbn (by omega))]
   ·rfl
   ·intro x _
    refine⟨_,rfl,?_,fun _=>rfl⟩
    simp! only[UW]
  unfold lE ZB
  simp only[Yb,Qe,QI]
  rw[e]
  rfl
 have e7:ZB 7 lyW (lE g d q LL R [x5,some (.val (nL ((List.range g.n).filter fun y=>!decide (y∈R)))),x7])=.nx (lE g d q LL R [x5,some (.val (nL ((List.range g.n).filter fun y=>!decide (y∈R)))),some (.val (nL (Xc g.n (ln g.bs) d R)))]):=by
  have e:∀u v w z,lyW [some (gD g),some (tD g.n d),u,v,some (nL R),w,some (nL ((List.range g.n).filter fun y=>!decide (y∈R))),z]=some (nL (Xc g.n (ln g.bs) d R)):=fun u v w z=>by
   unfold lyW
   rw[Xt (fun(i:Nat)=>D.int ((i:Nat):Int)) (fun y=>decide (d y<M.sumL (ln g.bs) y R)) (fun i=>D.int ((i:Nat):Int)) ((List.range g.n).filter fun y=>!decide (y∈R)) rfl (by have:=Q5 (fun y=>!decide (y∈R)) (List.range g.n);rw[Qt]at this;omega)]
   ·rfl
   ·intro y hy
    have y1:=QK.mp (QH.mp hy).1
    refine⟨_,rfl,?_,fun _=>rfl⟩
    simp! only[Zde y1,g_to h (y:=y) (R:=R) (by omega)]
  unfold lE ZB
  simp only[Yb,Qe,QI]
  rw[e]
  rfl
 have en:=Zv6 (Xc g.n (ln g.bs) d R)
 have ea:=Z1e (a:=R) (b:=Xc g.n (ln g.bs) d R) (by omega)
 unfold lyB
 rw[ZV,e6,ZJ,ZV,e7,ZJ]
 by_cases e:Xc g.n (ln g.bs) d R=[]
 ·rw[if_pos e]
  have et:(!(Xc g.n (ln g.bs) d R).isEmpty)=false:=by rw[e];rfl
  rw[et]at en
  unfold lE
  simp! only[VY,en]
 ·rw[if_neg e]
  have et:(!(Xc g.n (ln g.bs) d R).isEmpty)=true:=by
   cases q':Xc g.n (ln g.bs) d R with
   |nil=>exact absurd q' e
   |cons _ _=>rfl
  rw[et]at en
  unfold lE
  have hm:(LL.map nL).length<Yu:=by rw[Qb];unfold Yu;omega
  simp! only[VY,en,Zcd,hm,ea,QM]
theorem Zwa{d:Nat->Int}{q:Nat}:∀(ds:List D) (LL:List (List Nat)) (R:List Nat) (x5 x6 x7:Option Cl),R.Nodup->(∀i∈R,i<g.n)->LL.length+ds.length<=100->∃R' y5 y6 y7,
  Z8 (gN 5) lyB ds (lE g d q LL R [x5,x6,x7])=.nx (lE g d q (LL++Wm g.n (ln g.bs) d ds.length R) R' [y5,y6,y7]):=by
 intro ds
 induction ds with
 |nil=>intro LL R x5 x6 x7 _ _ _;exact⟨R,x5,x6,x7,by simp[Z8,Wm]⟩
 |cons v ds ih =>
  intro LL R x5 x6 x7 nd lt hl
  rw[Qk]at hl
  obtain⟨z6,z7,e⟩:=Zv9 h nd lt (d:=d) (q:=q) (LL:=LL) (by omega) (x5:=some (.val v)) (x6:=x6) (x7:=x7)
  have es:XA (lE g d q LL R [x5,x6,x7]) [(5,v)]=lE g d q LL R [some (.val v),x6,x7]:=rfl
  have tt:gN 5 v=some [(5,v)]:=rfl
  unfold Z8
  rw[tt]
  dsimp only
  rw[es,e]
  dsimp only
  rw[Qk,Wm]
  by_cases en:Xc g.n (ln g.bs) d R=[]
  ·rw[if_pos en,if_pos en]
   exact ih LL R _ _ _ nd lt (by omega)
  ·rw[if_neg en,if_neg en]
   have nd':(R++Xc g.n (ln g.bs) d R).Nodup:=by
    rw[Jb]
    exact⟨nd,Zhs,fun a ha b hb e=>by subst e;exact(YU.mp hb).2.1 ha⟩
   obtain⟨R',y5,y6,y7,e2⟩:=ih (LL++[Xc g.n (ln g.bs) d R]) (R++Xc g.n (ln g.bs) d R) (some (.val v)) z6 z7 nd' (fun i hi=>by
    rcases Qu.mp hi with z|z
    ·exact lt i z
    ·exact(YU.mp z).1) (by rw[Qi,QW];omega)
   refine⟨R',y5,y6,y7,?_⟩
   rw[e2,Q2];rfl
theorem Zte{d:Nat->Int}{q:Nat}(hq:q<g.n):Z7 [gD g,tD g.n d,.int (q:Int)]=some (.lst (([q]::Wm g.n (ln g.bs) d g.n [q]).map nL)):=by
 have n5:=h.n5
 obtain⟨R',y5,y6,y7,e⟩:=Zwa h (d:=d) (q:=q) ((List.range g.n).map fun k=>D.int (k:Nat)) [[q]] [q] none none none (by simp) (fun i hi=>by simp at hi;omega) (by simp;omega)
 rw[Qb,Qt]at e
 have hb:Z7=Z4 3 8 (Zj (Y7 3 (fR few (Za (fL Yz (Za (fV 2) fN)) fN))) (Zj (ZB 4 (fL Yz (Za (fV 2) fN))) (Zj (Y1 (fR YW (Za (f2 Yl (fV 0) (fC (.int 0))) fN)) (gN 5) lyB) (Z1 (fV 3))))):=rfl
 have e0:lE g d q [[q]] [q] [none,none,none]=[some (.val (gD g)),some (.val (tD g.n d)),some (.val (.int (q:Int))),some (.own (.lst [.lst [.int (q:Int)]])),some (.val (.lst [.int (q:Int)])),none,none,none]:=rfl
 have hf:Y1 (fR YW (Za (f2 Yl (fV 0) (fC (.int 0))) fN)) (gN 5) lyB [some (.val (gD g)),some (.val (tD g.n d)),some (.val (.int (q:Int))),some (.own (.lst [.lst [.int (q:Int)]])),some (.val (.lst [.int (q:Int)])),none,none,none]=.nx (lE g d q ([[q]]++Wm g.n (ln g.bs) d g.n [q]) R' [y5,y6,y7]):=by
  rw[e0]at e
  unfold Y1
  simp! only[VR,Xk (show g.n<=65536 by omega)]
  exact e
 rw[hb]
 simp! only[Zax,hf]
 rfl
end
noncomputable def wL:FS:=Wj (U2 (gB (f2 X1 (fV 8) (Zct (fV 10) pN (pS (fC (.int 2)))))) (gB (f2 X1 (f2 (Z9 fun i j=>.int (i-j)) (f2 ZR (f2 Yl (fV 10) (fC (.int 0))) (f2 Yl (fV 10) (fC (.int 1)))) (fV 8)) (f2 Yl (fV 4) (f2 (Z9 fun i j=>.int (i-j)) (fV 5) (fC (.int 1))))))) (WE 9 (fV 10)) WK
noncomputable def wY:FS:=Zj (Y7 9 (fR few fN)) (Zj (YB (Zh (fL Zu (Za (fV 0) fN))) (gN 10) wL) (WE 3 (f2 Yl (fV 9) (f2 (Z9 fun i j=>.int (i-j)) (f2 Yl (fV 1) (fV 8)) (fL Yx (Za (fV 0) (Za (fV 8) (Za (fV 6) fN))))))))
noncomputable def wK:FS:=Zj (Y7 6 (fR few fN)) (Zj (YB (Zh (Zct (fV 4) pN (pS (f2 (Z9 fun i j=>.int (i-j)) (fV 5) (fC (.int 1)))))) (gN 7) (UU 6 (fV 7))) (YB (Zh (f2 Yl (fV 4) (fV 5))) (gN 8) wY))
def wE(g:Gr)(d:Nat->Int)(q:Nat)(made:List Bd)(LL:List (List Nat))(x:List (Option Cl)):YT :=
 some (.val (gD g))::some (.val (tD g.n d))::some (.val (.int (q:Int)))::some (.own (.lst (made.map bD)))::some (.val (.lst (LL.map nL)))::x
theorem Zyg{LL:List (List Nat)}{k:Nat}{A:List Nat}(e:LL[k]?=some A):Yl (.lst (LL.map nL)) (.int (k:Int))=some (nL A):=by
 rw[Zci]
 refine U8 (by omega) ?_
 rw[Qz,QC,e];rfl
section
variable{g:Gr}(h:W1 g)
include h
theorem Zuq{d:Nat->Int}{q:Nat}{made:List Bd}{LL:List (List Nat)}{k:Nat}{A:List Nat}(eA:LL[k]?=some A){y:Nat}{x6 x7:Option Cl}:∀(ls found:List Bd) (x10:Option Cl),(∀l∈ls,Zfn g.n l/\l.1<l.2.1)->found.length+ls.length<=1000->∃x10',
  Z8 (gN 10) wL (ls.map bD) (wE g d q made LL [some (.val (.int ((k:Int)+1))),x6,x7,some (.val (.int (y:Int))),some (.own (.lst (found.map bD))),x10]) =
   .nx (wE g d q made LL [some (.val (.int ((k:Int)+1))),x6,x7,some (.val (.int (y:Int))),some (.own (.lst ((found++LT ls y A).map bD))),x10']):=by
 intro ls
 induction ls with
 |nil=>intro found x10 _ _;exact⟨x10,by simp[Z8,LT]⟩
 |cons l ls ih =>
  intro found x10 hl hlen
  obtain⟨⟨a0,a1,b0,b1⟩,ab⟩:=hl l Qd
  rw[Qk]at hlen
  have tt:gN 10 (bD l)=some [(10,bD l)]:=rfl
  have es:XA (wE g d q made LL [some (.val (.int ((k:Int)+1))),x6,x7,some (.val (.int (y:Int))),some (.own (.lst (found.map bD))),x10]) [(10,bD l)]=wE g d q made LL [some (.val (.int ((k:Int)+1))),x6,x7,some (.val (.int (y:Int))),some (.own (.lst (found.map bD))),some (.val (bD l))]:=rfl
  have s2:Zxc (bD l) none (some 2)=some (.tup [.int l.1,.int l.2.1]):=rfl
  have i2:=in2 (y:Int) l.1 l.2.1
  have ek:Yl (.lst (LL.map nL)) (.int ((k:Int)+1-1))=some (nL A):=by
   rw[show(k:Int)+1-1=(k:Int) by omega];exact Zyg eA
  have im:Zmf (bD l)=true:=rfl
  have hm:(found.map bD).length<Yu:=by rw[Qb];unfold Yu;omega
  have step:wL (wE g d q made LL [some (.val (.int ((k:Int)+1))),x6,x7,some (.val (.int (y:Int))),some (.own (.lst (found.map bD))),some (.val (bD l))]) =
    .nx (wE g d q made LL [some (.val (.int ((k:Int)+1))),x6,x7,some (.val (.int (y:Int))),some (.own (.lst ((if VN y A l=true then found++[l] else found).map bD))),some (.val (bD l))]):=by
   by_cases hy:(y:Int)=l.1\/(y:Int)=l.2.1
   ·obtain⟨z,ez,hz⟩:∃z:Nat,l.1+l.2.1-(y:Int)=(z:Int)/\(VN y A l=true↔z∈A):=by
     rcases hy with e|e
     ·refine⟨lb l,by unfold lb;omega,?_⟩
      rw[X2]
      have e1:la l=y:=by unfold la;omega
      have e2:lb l≠y:=by unfold lb;omega
      exact⟨fun w=>w.elim (fun v=>v.2) fun v=>absurd v.1 e2,fun w=>.inl ⟨e1,w⟩⟩
     ·refine⟨la l,by unfold la;omega,?_⟩
      rw[X2]
      have e1:lb l=y:=by unfold lb;omega
      have e2:la l≠y:=by unfold la;omega
      exact⟨fun w=>w.elim (fun v=>absurd v.1 e2) fun v=>v.2,fun w=>.inr ⟨e1,w⟩⟩
    have i3:=Zwr z A
    rw[decide_eq_true hy]at i2
    by_cases hzA:z∈A
    ·rw[if_pos (hz.mpr hzA)]
     rw[decide_eq_true hzA]at i3
     unfold wL wE
     simp! only[s2,i2,Zt8,Zt7,ez,ek,i3,WE,im,hm,and_self,QM]
    ·rw[if_neg fun w=>hzA (hz.mp w)]
     rw[decide_eq_false hzA]at i3
     unfold wL wE
     simp! only[s2,i2,Zt8,Zt7,ez,ek,i3]
   ·have hn:¬VN y A l=true:=fun w=>by
     rcases X2.mp w with⟨e,_⟩|⟨e,_⟩
     ·unfold la at e;omega
     ·unfold lb at e;omega
    rw[if_neg hn]
    rw[decide_eq_false hy]at i2
    unfold wL wE
    simp! only[s2,i2]
  obtain⟨x10',e⟩:=ih (if VN y A l=true then found++[l] else found) (some (.val (bD l))) (fun x hx=>hl x (Qc _ hx)) (by split<;>(try rw[Qi,QW])<;>omega)
  refine⟨x10',?_⟩
  rw[Qe]
  unfold Z8
  rw[tt]
  dsimp only
  rw[es,step]
  dsimp only
  rw[e]
  congr 6
  unfold LT
  by_cases hh:VN y A l=true
  ·rw[if_pos hh,JU hh];simp
  ·rw[if_neg hh,JV hh]
theorem Zup{d:Nat->Int}{q:Nat}{LL:List (List Nat)}{k:Nat}{B A:List Nat}(eA:LL[k]?=some A)(s:St g.n (ln g.bs) d q B A){x7:Option Cl}:∀(ys:List Nat) (made:List Bd) (x8 x9 x10:Option Cl),(∀y∈ys,y∈Xc g.n (ln g.bs) d (B++A))->made.length+ys.length<=1000->∃y8 y9 y10,
  Z8 (gN 8) wY (ys.map fun i=>D.int ((i:Nat):Int)) (wE g d q made LL [some (.val (.int ((k:Int)+1))),some (.own (nL B)),x7,x8,x9,x10]) =
   .nx (wE g d q (made++ys.map (XG (Ym g.bs) (ln g.bs) d B A)) LL [some (.val (.int ((k:Int)+1))),some (.own (nL B)),x7,y8,y9,y10]):=by
 have n5:=h.n5
 have lenBA:=M.length_le_of_nodup g.n (B++A) s.nd s.lt
 rw[Qi]at lenBA
 intro ys
 induction ys with
 |nil=>intro made x8 x9 x10 _ _;exact⟨x8,x9,x10,by simp[Z8]⟩
 |cons y ys ih =>
  intro made x8 x9 x10 hy hl
  rw[Qk]at hl
  have hyn:=hy y Qd
  obtain⟨y1,y2,y3⟩:=YU.mp hyn
  obtain⟨i,k1,k2,k3,k4⟩:=Zc2 h s hyn
  obtain⟨z10,el⟩:=Zuq h (d:=d) (q:=q) (made:=made) eA (y:=y) (x6:=some (.own (nL B))) (x7:=x7) (Ym g.bs) [] x10 (fun l hl=>⟨Uk h l hl,by
   obtain⟨b,hb,e1,e2,_,_⟩:=Za1.mp hl
   have:=h.rg b hb
   omega⟩) (by have:=Zn0 h;simp;omega)
  obtain⟨y8,y9,y10,e⟩:=ih (made++[XG (Ym g.bs) (ln g.bs) d B A y]) (some (.val (.int (y:Int)))) (some (.own (.lst ((LT (Ym g.bs) y A).map bD)))) z10 (fun z hz=>hy z (Qc _ hz)) (by rw[Qi,QW];omega)
  refine⟨y8,y9,y10,?_⟩
  have tt:gN 8 (D.int (y:Int))=some [(8,.int (y:Int))]:=rfl
  have es:XA (wE g d q made LL [some (.val (.int ((k:Int)+1))),some (.own (nL B)),x7,x8,x9,x10]) [(8,.int (y:Int))]=wE g d q made LL [some (.val (.int ((k:Int)+1))),some (.own (nL B)),x7,some (.val (.int (y:Int))),x9,x10]:=rfl
  have l3:Yl (.lst ((LT (Ym g.bs) y A).map bD)) (.int (i:Int))=some (bD (XG (Ym g.bs) (ln g.bs) d B A y)):=by
   rw[Zci]
   refine U8 (by omega) ?_
   rw[Qz,QC,k3];rfl
  have im:Zmf (bD (XG (Ym g.bs) (ln g.bs) d B A y))=true:=rfl
  have hm:(made.map bD).length<Yu:=by rw[Qb];unfold Yu;omega
  have step:wY (wE g d q made LL [some (.val (.int ((k:Int)+1))),some (.own (nL B)),x7,some (.val (.int (y:Int))),x9,x10])=.nx (wE g d q (made++[XG (Ym g.bs) (ln g.bs) d B A y]) LL [some (.val (.int ((k:Int)+1))),some (.own (nL B)),x7,some (.val (.int (y:Int))),some (.own (.lst ((LT (Ym g.bs) y A).map bD))),z10]):=by
   have e9:Y7 9 (fR few fN) (wE g d q made LL [some (.val (.int ((k:Int)+1))),some (.own (nL B)),x7,some (.val (.int (y:Int))),x9,x10])=.nx (wE g d q made LL [some (.val (.int ((k:Int)+1))),some (.own (nL B)),x7,some (.val (.int (y:Int))),some (.own (.lst [])),x10]):=by
    unfold wE
    simp! only[VY]
   have ef:YB (Zh (fL Zu (Za (fV 0) fN))) (gN 10) wL (wE g d q made LL [some (.val (.int ((k:Int)+1))),some (.own (nL B)),x7,some (.val (.int (y:Int))),some (.own (.lst [])),x10])=.nx (wE g d q made LL [some (.val (.int ((k:Int)+1))),some (.own (nL B)),x7,some (.val (.int (y:Int))),some (.own (.lst ((LT (Ym g.bs) y A).map bD))),z10]):=by
    have e0:Zh (fL Zu (Za (fV 0) fN)) (Yb (wE g d q made LL [some (.val (.int ((k:Int)+1))),some (.own (nL B)),x7,some (.val (.int (y:Int))),some (.own (.lst [])),x10]))=some ((Ym g.bs).map bD):=by
     unfold wE
     simp! only[Zcl h]
     rfl
    unfold YB
    rw[e0]
    exact el
   unfold wY
   rw[ZV,e9,ZJ,ZV,ef,ZJ]
   unfold wE
   simp! only[Zde y1,g_to h (y:=y) (R:=B) (by omega),k1,l3,WE,im,hm,and_self,QM]
  rw[Qe]
  unfold Z8
  rw[tt]
  dsimp only
  rw[es,step]
  dsimp only
  rw[e,Q2]
  rfl
theorem w_low{d:Nat->Int}{q:Nat}{made:List Bd}{LL:List (List Nat)}{x5 x8 x9 x10:Option Cl}:∀(rs:List (List Nat)) (low:List Nat) (x7:Option Cl),low.length+rs.flatten.length<=1000->∃y7,
  Z8 (gN 7) (UU 6 (fV 7)) (rs.map nL) (wE g d q made LL [x5,some (.own (nL low)),x7,x8,x9,x10])=.nx (wE g d q made LL [x5,some (.own (nL (low++rs.flatten))),y7,x8,x9,x10]):=by
 intro rs
 induction rs with
 |nil=>intro low x7 _;exact⟨x7,by simp[Z8]⟩
 |cons r rs ih =>
  intro low x7 hl
  rw[Jk,Qi]at hl
  obtain⟨y7,e⟩:=ih (low++r) (some (.val (nL r))) (by rw[Qi];omega)
  refine⟨y7,?_⟩
  have tt:gN 7 (nL r)=some [(7,nL r)]:=rfl
  have im:UO (r.map fun i=>D.int ((i:Nat):Int))=true:=Za0 (fun _=>rfl) _
  have hm:(low.map fun i=>D.int ((i:Nat):Int)).length+(r.map fun i=>D.int ((i:Nat):Int)).length<=Yu:=by rw[Qb,Qb];unfold Yu;omega
  have step:UU 6 (fV 7) (XA (wE g d q made LL [x5,some (.own (nL low)),x7,x8,x9,x10]) [(7,nL r)])=.nx (wE g d q made LL [x5,some (.own (nL (low++r))),some (.val (nL r)),x8,x9,x10]):=by
   unfold wE nL
   simp! only[UU,im,hm,and_self,QM]
  rw[Qe]
  unfold Z8
  rw[tt]
  dsimp only
  rw[step]
  dsimp only
  rw[e,Jk,Q2]
theorem Zyi{d:Nat->Int}{q:Nat}{LL:List (List Nat)}:∀(Fs pre:List (List Nat)) (A:List Nat) (made:List Bd) (x5 x6 x7 x8 x9 x10:Option Cl),LL=pre++A::Fs->St g.n (ln g.bs) d q pre.flatten A->Gds g.n (ln g.bs) d pre.flatten A Fs->made.length+5*Fs.length<=900->∃y5 y6 y7 y8 y9 y10,
  Z8 (gN 5) wK ((List.range' pre.length Fs.length).map fun(i:Nat)=>D.int ((i:Int)+1)) (wE g d q made LL [x5,x6,x7,x8,x9,x10])=.nx (wE g d q (made++mk (Ym g.bs) (ln g.bs) d pre.flatten A Fs) LL [y5,y6,y7,y8,y9,y10]):=by
 have n5:=h.n5
 intro Fs
 induction Fs with
 |nil=>intro pre A made x5 x6 x7 x8 x9 x10 _ _ _ _;exact⟨x5,x6,x7,x8,x9,x10,by simp[Z8,mk]⟩
 |cons F Fs ih =>
  intro pre A made x5 x6 x7 x8 x9 x10 eL s gd hl
  obtain⟨eF,gd'⟩:=gd
  rw[Qk]at hl
  have lenBA:=M.length_le_of_nodup g.n _ s.nd s.lt
  rw[Qi]at lenBA
  have s':=s.step
  rw[<- eF]at s'
  have lenF:=M.length_le_of_nodup g.n _ s'.nd s'.lt
  rw[Qi (bs:=F)]at lenF
  have eA:LL[pre.length]?=some A:=by rw[eL,QT (Qj _)];simp
  have eF1:LL[pre.length+1]?=some F:=by rw[eL,QT (by omega)];simp
  have efl:(pre++[A]).flatten=pre.flatten++A:=by simp
  obtain⟨z7,elo⟩:=w_low h (d:=d) (q:=q) (made:=made) (LL:=LL) (x5:=some (.val (.int ((pre.length:Int)+1)))) (x8:=x8) (x9:=x9) (x10:=x10) pre [] x7 (by rw[Q7];omega)
  obtain⟨z8,z9,z10,ey⟩:=Zup h (d:=d) (q:=q) eA s (x7:=z7) F made x8 x9 x10 (fun y hy=>by rw[<- eF];exact hy) (by omega)
  obtain⟨y5,y6,y7,y8,y9,y10,e⟩:=ih (pre++[A]) F (made++F.map (XG (Ym g.bs) (ln g.bs) d pre.flatten A)) (some (.val (.int ((pre.length:Int)+1)))) (some (.own (nL pre.flatten))) z7 z8 z9 z10 (by rw[eL];simp) (by rw[efl];exact s') (by rw[efl];exact gd') (by rw[Qi,Qb];omega)
  refine⟨y5,y6,y7,y8,y9,y10,?_⟩
  have tt:gN 5 (D.int ((pre.length:Int)+1))=some [(5,.int ((pre.length:Int)+1))]:=rfl
  have es:XA (wE g d q made LL [x5,x6,x7,x8,x9,x10]) [(5,.int ((pre.length:Int)+1))]=wE g d q made LL [some (.val (.int ((pre.length:Int)+1))),x6,x7,x8,x9,x10]:=rfl
  have step:wK (wE g d q made LL [some (.val (.int ((pre.length:Int)+1))),x6,x7,x8,x9,x10])=.nx (wE g d q (made++F.map (XG (Ym g.bs) (ln g.bs) d pre.flatten A)) LL [some (.val (.int ((pre.length:Int)+1))),some (.own (nL pre.flatten)),z7,z8,z9,z10]):=by
   have e6:Y7 6 (fR few fN) (wE g d q made LL [some (.val (.int ((pre.length:Int)+1))),x6,x7,x8,x9,x10])=.nx (wE g d q made LL [some (.val (.int ((pre.length:Int)+1))),some (.own (nL [])),x7,x8,x9,x10]):=by
    unfold wE
    simp! only[VY]
    rfl
   have e7:YB (Zh (Zct (fV 4) pN (pS (f2 (Z9 fun i j=>.int (i-j)) (fV 5) (fC (.int 1)))))) (gN 7) (UU 6 (fV 7)) (wE g d q made LL [some (.val (.int ((pre.length:Int)+1))),some (.own (nL [])),x7,x8,x9,x10])=.nx (wE g d q made LL [some (.val (.int ((pre.length:Int)+1))),some (.own (nL pre.flatten)),z7,x8,x9,x10]):=by
    have e0:Zh (Zct (fV 4) pN (pS (f2 (Z9 fun i j=>.int (i-j)) (fV 5) (fC (.int 1))))) (Yb (wE g d q made LL [some (.val (.int ((pre.length:Int)+1))),some (.own (nL [])),x7,x8,x9,x10]))=some (pre.map nL):=by
     have ec:Zxc (.lst (LL.map nL)) none (some ((pre.length:Int)+1-1))=some (.lst (pre.map nL)):=by
      show some (D.lst (Zcu _ _ _))=_
      rw[show(pre.length:Int)+1-1=((pre.length:Nat):Int) by omega,Zks,<- List.map_take,eL]
      simp
     unfold wE
     simp! only[ec]
     rfl
    unfold YB
    rw[e0]
    exact elo
   have e8:YB (Zh (f2 Yl (fV 4) (fV 5))) (gN 8) wY (wE g d q made LL [some (.val (.int ((pre.length:Int)+1))),some (.own (nL pre.flatten)),z7,x8,x9,x10])=.nx (wE g d q (made++F.map (XG (Ym g.bs) (ln g.bs) d pre.flatten A)) LL [some (.val (.int ((pre.length:Int)+1))),some (.own (nL pre.flatten)),z7,z8,z9,z10]):=by
    have e0:Zh (f2 Yl (fV 4) (fV 5)) (Yb (wE g d q made LL [some (.val (.int ((pre.length:Int)+1))),some (.own (nL pre.flatten)),z7,x8,x9,x10]))=some (F.map fun i=>D.int ((i:Nat):Int)):=by
     have ec:=Zyg eF1
     rw[show((pre.length+1:Nat):Int)=(pre.length:Int)+1 by omega]at ec
     unfold wE
     simp! only[ec]
     rfl
    unfold YB
    rw[e0]
    exact ey
   unfold wK
   rw[ZV,e6,ZJ,ZV,e7,ZJ,e8]
  rw[Qk,List.range'_succ,Qe]
  unfold Z8
  rw[tt]
  dsimp only
  rw[es,step]
  dsimp only
  rw[show pre.length+1=(pre++[A]).length by simp,e,mk,Q2,efl]
end
section
variable{g:Gr}(h:W1 g){q:Nat}(hq:q<g.n){d:Nat->Int}(hd:M.Settled g.n (ln g.bs) q d)(h0:∀i,i<g.n->0<=d i)
include h hq hd h0
theorem Zmi:Ya [gD g,tD g.n d,.int (q:Int)]=some (tL (Yn g q d)):=by
 have n5:=h.n5
 have ll:=Zeb (n:=g.n) (L:=ln g.bs) (d:=d) g.n [q]
 obtain⟨y5,y6,y7,y8,y9,y10,e⟩:=Zyi h (d:=d) (q:=q) (LL:=[q]::Wm g.n (ln g.bs) d g.n [q]) (Wm g.n (ln g.bs) d g.n [q]) [] [q] [] none none none none none none rfl (XY hq h0) (Zec g.n [] [q]) (by simp;omega)
 have em:mk (Ym g.bs) (ln g.bs) d [] [q] (Wm g.n (ln g.bs) d g.n [q])=V4 g q d:=mk_go h g.n (g.n+1) [] [q] (XY hq h0) (by simp) (by simp) (by simp)
 have efn:([]:List (List Nat)).flatten=[]:=rfl
 rw[efn,em,QX]at e
 have es:=Zfw h hq hd h0
 have eL:=Zte h (d:=d) hq
 have hb:Ya=Z4 3 11 (Zj (Y7 3 (fR few fN)) (Zj (ZB 4 (fL Z7 (Za (fV 0) (Za (fV 1) (Za (fV 2) fN))))) (Zj (Y1 (fR Zbl (Za (fC (.int 1)) (Za (fL Yv (Za (fV 4) fN)) fN))) (gN 5) wK) (Z1 (fL Y0 (Za (fV 3) fN)))))):=rfl
 have hf:Y1 (fR Zbl (Za (fC (.int 1)) (Za (fL Yv (Za (fV 4) fN)) fN))) (gN 5) wK [some (.val (gD g)),some (.val (tD g.n d)),some (.val (.int (q:Int))),some (.own (.lst [])),some (.val (.lst (([q]::Wm g.n (ln g.bs) d g.n [q]).map nL))),none,none,none,none,none,none]=.nx (wE g d q (V4 g q d) ([q]::Wm g.n (ln g.bs) d g.n [q]) [y5,y6,y7,y8,y9,y10]):=by
  have er:Zbl [.int 1,.int ((([q]::Wm g.n (ln g.bs) d g.n [q]).map nL).length:Int)]=some ((List.range' 0 (Wm g.n (ln g.bs) d g.n [q]).length).map fun(i:Nat)=>D.int ((i:Int)+1)):=by
   rw[Qb,Qk,Znh (by omega) (by omega) (by omega) (by omega),<- List.range_eq_range']
   rw[show(((Wm g.n (ln g.bs) d g.n [q]).length+1:Nat):Int)-1=((Wm g.n (ln g.bs) d g.n [q]).length:Int) by omega,Qz]
   congr 1
   exact QQ fun k _=>by rw[Int.add_comm]
  have e0:∀x,fR Zbl (Za (fC (.int 1)) (Za (fL Yv (Za (fV 4) fN)) fN)) (Ye [some (.val (gD g)),some (.val (tD g.n d)),some (.val (.int (q:Int))),some (.own (.lst [])),some (.val (.lst x)),none,none,none,none,none,none])=Zbl [.int 1,.int (x.length:Int)]:=fun x=>by
   simp! only[]
  unfold Y1
  rw[e0,er]
  exact e
 rw[hb]
 unfold Z4
 rw[if_pos (show([gD g,tD g.n d,.int (q:Int)]:List D).length=3 from rfl)]
 have e1:Yq 3 11 [gD g,tD g.n d,.int (q:Int)]=[some (.val (gD g)),some (.val (tD g.n d)),some (.val (.int (q:Int))),none,none,none,none,none,none,none,none]:=rfl
 have e2:Y7 3 (fR few fN) [some (.val (gD g)),some (.val (tD g.n d)),some (.val (.int (q:Int))),none,none,none,none,none,none,none,none]=.nx [some (.val (gD g)),some (.val (tD g.n d)),some (.val (.int (q:Int))),some (.own (.lst [])),none,none,none,none,none,none,none]:=by simp! only[VY]
 have e3:ZB 4 (fL Z7 (Za (fV 0) (Za (fV 1) (Za (fV 2) fN)))) [some (.val (gD g)),some (.val (tD g.n d)),some (.val (.int (q:Int))),some (.own (.lst [])),none,none,none,none,none,none,none]=.nx [some (.val (gD g)),some (.val (tD g.n d)),some (.val (.int (q:Int))),some (.own (.lst [])),some (.val (.lst (([q]::Wm g.n (ln g.bs) d g.n [q]).map nL))),none,none,none,none,none,none]:=by
  generalize ([q]::Wm g.n (ln g.bs) d g.n [q]).map nL=W at *
  simp! only[eL]
 rw[e1,ZV,e2,ZJ,ZV,e3,ZJ,ZV,hf,ZJ]
 unfold wE
 simp! only[es]
end
def a5(P:Nat->Bool):Bool:=P 0&&P 1&&P 2&&P 3&&P 4
theorem Zgz{P:Nat->Bool}(h:a5 P=true){i:Nat}(hi:i<=4):P i=true:=by
 unfold a5 at h
 simp only[QO]at h
 obtain⟨⟨⟨⟨h0,h1⟩,h2⟩,h3⟩,h4⟩:=h
 have cs:i=0\/i=1\/i=2\/i=3\/i=4:=by omega
 rcases cs with rfl|rfl|rfl|rfl|rfl<;>assumption
theorem few4:(a5 fun a=>a5 fun b=>a5 fun c=>a5 fun d=>a5 fun e=>a5 fun f=>!(Nat.ble (a+b+c+d+e+f) 9)||Nat.ble (T4 a b c d e f) 63)=true:=by decide+kernel
theorem tot4{bs:List Bd}(h:∀b∈bs,0<=b.1/\b.1<b.2.1/\b.2.1<((4:Nat):Int)/\1<=b.2.2/\b.2.2<=4):ln bs 0 1+ln bs 0 2+ln bs 0 3+ln bs 1 2+ln bs 1 3+ln bs 2 3=(bs.map fun b=>b.2.2).sum:=by
 induction bs with
 |nil=>rfl
 |cons b bs ih =>
  have ih:=ih fun x hx=>h x (Qc _ hx)
  have r:=h b Qd
  rw[Qe,Jr,<- ih]
  simp only[Vc]
  have cs:(b.1=0/\b.2.1=1)\/(b.1=0/\b.2.1=2)\/(b.1=0/\b.2.1=3)\/(b.1=1/\b.2.1=2)\/(b.1=1/\b.2.1=3)\/(b.1=2/\b.2.1=3):=by omega
  have hh:∀i j:Nat,i<j->(XM i j b=true↔b.1=(i:Int)/\b.2.1=(j:Int)):=fun i j hij=>by
   unfold XM
   rw[decide_eq_true_eq,JK (by omega),JW (by omega)]
  simp only[hh 0 1 (by omega),hh 0 2 (by omega),hh 0 3 (by omega),hh 1 2 (by omega),hh 1 3 (by omega),hh 2 3 (by omega)]
  clear ih r h hh
  generalize ln bs 0 1=a1,ln bs 0 2=a2,ln bs 0 3=a3,ln bs 1 2=a4,ln bs 1 3=a5,ln bs 2 3=a6
  have key:(if b.1=((0:Nat):Int)/\b.2.1=((1:Nat):Int) then b.2.2 else 0)+(if b.1=((0:Nat):Int)/\b.2.1=((2:Nat):Int) then b.2.2 else 0)+(if b.1=((0:Nat):Int)/\b.2.1=((3:Nat):Int) then b.2.2 else 0)+(if b.1=((1:Nat):Int)/\b.2.1=((2:Nat):Int) then b.2.2 else 0)+(if b.1=((1:Nat):Int)/\b.2.1=((3:Nat):Int) then b.2.2 else 0)+(if b.1=((2:Nat):Int)/\b.2.1=((3:Nat):Int) then b.2.2 else 0)=b.2.2:=by
   rcases cs with⟨e1,e2⟩|⟨e1,e2⟩|⟨e1,e2⟩|⟨e1,e2⟩|⟨e1,e2⟩|⟨e1,e2⟩<;>rw[e1,e2]<;>simp
  clear cs
  generalize (if b.1=((0:Nat):Int)/\b.2.1=((1:Nat):Int) then b.2.2 else 0)=k1 at *
  generalize (if b.1=((0:Nat):Int)/\b.2.1=((2:Nat):Int) then b.2.2 else 0)=k2 at *
  generalize (if b.1=((0:Nat):Int)/\b.2.1=((3:Nat):Int) then b.2.2 else 0)=k3 at *
  generalize (if b.1=((1:Nat):Int)/\b.2.1=((2:Nat):Int) then b.2.2 else 0)=k4 at *
  generalize (if b.1=((1:Nat):Int)/\b.2.1=((3:Nat):Int) then b.2.2 else 0)=k5 at *
  generalize (if b.1=((2:Nat):Int)/\b.2.1=((3:Nat):Int) then b.2.2 else 0)=k6 at *
  omega
theorem Z1l{g:Gr}(h:W1 g)(h4:g.n<=4)(hs:((Ym g.bs).length:Int)<=2*((g.n:Int)-1)+3):T9 g.n (ln g.bs)<64:=by
 have gd:=h.gd
 have W:∀i j,W9 (ln g.bs) i j<=4:=fun i j=>by have:=gd.le4 i j;unfold W9;omega
 have n1:=h.n1
 obtain⟨n,bs⟩:=g
 simp only at *
 have cs:n=1\/n=2\/n=3\/n=4:=by omega
 rcases cs with rfl|rfl|rfl|rfl
 ·show 1<64;omega
 ·show W9 (ln bs) 0 1<64;have:=W 0 1;omega
 ·show N2 (W9 (ln bs) 0 1) (W9 (ln bs) 0 2) (W9 (ln bs) 1 2)<64
  rw[Za9]
  have a:=W 0 1
  have b:=W 0 2
  have c:=W 1 2
  have:W9 (ln bs) 0 1*(W9 (ln bs) 0 2+W9 (ln bs) 1 2)<=4*8:=Nat.mul_le_mul a (by omega)
  have:W9 (ln bs) 1 2*W9 (ln bs) 0 2<=4*4:=Nat.mul_le_mul c b
  omega
 ·show T4 (W9 (ln bs) 0 1) (W9 (ln bs) 0 2) (W9 (ln bs) 0 3) (W9 (ln bs) 1 2) (W9 (ln bs) 1 3) (W9 (ln bs) 2 3)<64
  have k:=Zgz (Zgz (Zgz (Zgz (Zgz (Zgz few4 (W 0 1)) (W 0 2)) (W 0 3)) (W 1 2)) (W 1 3)) (W 2 3)
  have t:=tot4 h.rg
  rw[Znz bs fun b hb=>by have:=h.rg b hb;omega,<- t]at hs
  have e:=fun i j=>w9 gd.net i j
  rw[e 0 1,e 0 2,e 0 3,e 1 2,e 1 3,e 2 3]at hs
  rw[show Nat.ble (W9 (ln bs) 0 1+W9 (ln bs) 0 2+W9 (ln bs) 0 3+W9 (ln bs) 1 2+W9 (ln bs) 1 3+W9 (ln bs) 2 3) 9=true from Nat.ble_eq.mpr (by omega)]at k
  have k:Nat.ble (T4 (W9 (ln bs) 0 1) (W9 (ln bs) 0 2) (W9 (ln bs) 0 3) (W9 (ln bs) 1 2) (W9 (ln bs) 1 3) (W9 (ln bs) 2 3)) 63=true:=by simpa using k
  have:=Nat.ble_eq.mp k
  omega
theorem Zq0(ts:List (List Bd)):Zkq (ts.map tL)=true/\VS (ts.map tL)<=10:=by
 have row:∀t:List Bd,Zkq (t.map bD)=true/\VS (t.map bD)<=5:=by
  intro t
  induction t with
  |nil=>exact⟨rfl,by simp[VS]⟩
  |cons l t ih =>
   refine⟨by rw[Qe,Zkq,ih.1];rfl,?_⟩
   rw[Qe,VS]
   have:Zac (bD l)<=5:=by unfold bD;simp[Zac,VS]
   have:=ih.2
   omega
 induction ts with
 |nil=>exact⟨rfl,by simp[VS]⟩
 |cons t ts ih =>
  obtain⟨a,b⟩:=row t
  refine⟨?_,?_⟩
  ·rw[Qe,Zkq,ih.1,Bool.and_true]
   unfold tL;simpa [dk] using a
  ·rw[Qe,VS]
   have:Zac (tL t)<=6:=by unfold tL;simp only[Zac];omega
   have:=ih.2
   omega
theorem Z01(ts:List (List Bd)):Xb (.lst (ts.map tL)) (.lst (ts.map tL))=some (.bl true):=by
 obtain⟨a,b⟩:=Zq0 ts
 have k:dk (.lst (ts.map tL))=true:=by simpa [dk] using a
 have d:Zac (.lst (ts.map tL))<=64:=by simp only[Zac];omega
 rw[Za2 k k d d];simp
theorem Zf1{F G:FS}{ρ ρ':YT}(e:F ρ=.nx ρ'):WC F G ρ=G ρ':=by unfold WC;rw[e]
section
variable{n:Nat}{L:Nat->Nat->Int}{q:Nat}
theorem Zww(hn:n<=5)(hq:q<n){y:Nat}(hyn:y<n)(hm:mB n L q y<=20)(h0:0<=M.S n (L y)){ps:List (List Int)}(hp:∀p∈ps,p.length=y)(hl:ps.length<=3000) :
  Z5 [YL n L,.int (q:Int),.lst (ps.map pT)]=some (.lst ((ps.flatMap (Zic n L q (mB n L q y))).map pT)):=by
 obtain⟨x4,x5,x6,x7,e⟩:=Z0d (L:=L) hn hq hyn hm h0 (bg:=.lst (ps.map pT)) ps [] none none none none hp (by simp;omega)
 have hb:Z5=Z4 3 8 (WC (Y7 3 (fR few fN)) (WC (YB (Zh (fV 2)) (gN 4) lnC) (Zf4 3))):=rfl
 have hf:∀F:FS,YB (Zh (fV 2)) (gN 4) F (Ze8 n L q (.lst (ps.map pT)) [] [none,none,none,none])=Z8 (gN 4) F (ps.map pT) (Ze8 n L q (.lst (ps.map pT)) [] [none,none,none,none]):=fun F=>rfl
 rw[hb]
 unfold Z4
 rw[if_pos (show([YL n L,.int (q:Int),.lst (ps.map pT)]:List D).length=3 from rfl)]
 have es:Yq 3 8 [YL n L,.int (q:Int),.lst (ps.map pT)]=[some (.val (YL n L)),some (.val (.int (q:Int))),some (.val (.lst (ps.map pT))),none,none,none,none,none]:=rfl
 have eo:Y7 3 (fR few fN) [some (.val (YL n L)),some (.val (.int (q:Int))),some (.val (.lst (ps.map pT))),none,none,none,none,none]=.nx (Ze8 n L q (.lst (ps.map pT)) [] [none,none,none,none]):=rfl
 rw[es,Zf1 eo,Zf1 (by rw[hf,e])]
 rw[QX];rfl
end
theorem Ztd{g:Gr}(h:W1 g)(h4:g.n<=4){q:Nat}(hq:q<g.n):Ys [gD g,.int (q:Int)]=some (.lst ((pk g.n (ln g.bs) q (mB g.n (ln g.bs) q) g.n).map pT)):=by
 have N:=h.gd.net
 have l4:=h.gd.le4
 have n5:=h.n5
 have h0:=Zt3 h hq
 have key:∀(k y:Nat) (x4:Option Cl),y+k=g.n->∃x4',Z8 (gN 4) (Zff 3 (Y7 3 (Zwz Z5 (Za (fV 2) (Za (fV 1) (Za (fV 3) fN)))))) ((List.range' y k).map fun(i:Nat)=>D.int (i:Int)) [some (.val (gD g)),some (.val (.int (q:Int))),some (.val (YL g.n (ln g.bs))),some (.own (.lst ((pk g.n (ln g.bs) q (mB g.n (ln g.bs) q) y).map pT))),x4] =
   .nx [some (.val (gD g)),some (.val (.int (q:Int))),some (.val (YL g.n (ln g.bs))),some (.own (.lst ((pk g.n (ln g.bs) q (mB g.n (ln g.bs) q) g.n).map pT))),x4']:=by
  intro k
  induction k with
  |zero=>intro y x4 e;rw[show y=g.n by omega];exact⟨x4,rfl⟩
  |succ k ih =>
   intro y x4 e
   obtain⟨x4',e2⟩:=ih (y+1) (some (.val (.int (y:Int)))) (by omega)
   refine⟨x4',?_⟩
   obtain⟨s1,s2⟩:=Zzi N hq h0 (mB g.n (ln g.bs) q) y
   have s3:=Zu7 (m:=mB g.n (ln g.bs) q) (k:=g.n) (fun y hy=>Zxt (q:=q) N l4 h4 hy) y (by omega)
   have s4:12^y<=12^3:=Nat.pow_le_pow_right (by omega) (by omega)
   have e3:=Zww (L:=ln g.bs) n5 hq (y:=y) (by omega) (by have:=Zxt (q:=q) N l4 h4 (show y<g.n by omega);omega) (S_nn N y) s1 (by omega)
   rw[List.range'_succ,Qe]
   unfold Z8
   have eg:gN 4 (D.int ((y:Nat):Int))=some [(4,D.int ((y:Nat):Int))]:=rfl
   rw[eg]
   simp! only[Zff,Zwz,e3]
   exact e2
 obtain⟨x4,e⟩:=key g.n 0 none (by omega)
 rw[<- List.range_eq_range']at e
 have hz:(.lst [.tup []]:D)=.lst ((pk g.n (ln g.bs) q (mB g.n (ln g.bs) q) 0).map pT):=rfl
 have hb:Ys=Z4 2 5 (WC (W2 (fL Zm (Za (fV 0) (Za (fV 1) fN)))) (WC (ZB 2 (fL Zq (Za (fV 0) fN))) (WC (Y7 3 (fR few (Za (fL Yy fN) fN))) (WC (Y1 (fR YW (Za (fL Yv (Za (fV 2) fN)) fN)) (gN 4) (Zff 3 (Y7 3 (Zwz Z5 (Za (fV 2) (Za (fV 1) (Za (fV 3) fN))))))) (Zf4 3))))):=rfl
 have e1:W2 (fL Zm (Za (fV 0) (Za (fV 1) fN))) [some (.val (gD g)),some (.val (.int (q:Int))),none,none,none]=.nx [some (.val (gD g)),some (.val (.int (q:Int))),none,none,none]:=by simp! only[X3 h hq]
 have e2:ZB 2 (fL Zq (Za (fV 0) fN)) [some (.val (gD g)),some (.val (.int (q:Int))),none,none,none]=.nx [some (.val (gD g)),some (.val (.int (q:Int))),some (.val (YL g.n (ln g.bs))),none,none]:=by simp! only[Zc5 h]
 have e3:Y7 3 (fR few (Za (fL Yy fN) fN)) [some (.val (gD g)),some (.val (.int (q:Int))),some (.val (YL g.n (ln g.bs))),none,none]=.nx [some (.val (gD g)),some (.val (.int (q:Int))),some (.val (YL g.n (ln g.bs))),some (.own (.lst ((pk g.n (ln g.bs) q (mB g.n (ln g.bs) q) 0).map pT))),none]:=by
  rw[<- hz]
  simp! only[VY,Zax]
 have e4:Y1 (fR YW (Za (fL Yv (Za (fV 2) fN)) fN)) (gN 4) (Zff 3 (Y7 3 (Zwz Z5 (Za (fV 2) (Za (fV 1) (Za (fV 3) fN)))))) [some (.val (gD g)),some (.val (.int (q:Int))),some (.val (YL g.n (ln g.bs))),some (.own (.lst ((pk g.n (ln g.bs) q (mB g.n (ln g.bs) q) 0).map pT))),none]=.nx [some (.val (gD g)),some (.val (.int (q:Int))),some (.val (YL g.n (ln g.bs))),some (.own (.lst ((pk g.n (ln g.bs) q (mB g.n (ln g.bs) q) g.n).map pT))),x4]:=by
  unfold Y1
  have er:∀x,fR YW (Za (fL Yv (Za (fV 2) fN)) fN) (Ye [some (.val (gD g)),some (.val (.int (q:Int))),some (.val (YL g.n (ln g.bs))),x,none])=some ((List.range g.n).map fun(i:Nat)=>D.int (i:Int)):=fun x=>by
   simp! only[WR,Xk (show g.n<=65536 by omega)]
  rw[er]
  exact e
 rw[hb]
 unfold Z4
 rw[if_pos (show([gD g,.int (q:Int)]:List D).length=2 from rfl)]
 have es:Yq 2 5 [gD g,.int (q:Int)]=[some (.val (gD g)),some (.val (.int (q:Int))),none,none,none]:=rfl
 rw[es,Zf1 e1,Zf1 e2,Zf1 e3,Zf1 e4]
 rfl
theorem Zy8{m:Nat->Nat}:∀y,∀r∈Zk7 m y,∀i,i<y->pf r i<m i:=by
 intro y
 induction y with
 |zero=>intro r _ i hi;omega
 |succ y ih =>
  intro r hr i hi
  obtain⟨r0,h0,h1⟩:=List.mem_flatMap.mp hr
  obtain⟨c,hc,rfl⟩:=Qn.mp h1
  have hc:=QK.mp hc
  have hl:=(Zhf y r0 h0).2
  rw[Zhk,hl]
  by_cases e:i=y
  ·rw[if_pos e,e];omega
  ·rw[if_neg e];exact ih r0 h0 i (by omega)
theorem Zy7{m:Nat->Nat}:∀y,(Zk7 m y).Nodup:=by
 intro y
 induction y with
 |zero=>simp[Zk7]
 |succ y ih =>
  unfold Zk7
  rw[List.Nodup,List.pairwise_flatMap]
  refine⟨fun r _=>?_,ih.imp fun{a b} hab x hx z hz e=>?_⟩
  ·rw[Q0]
   refine List.nodup_range.imp fun{a b} hab e=>hab ?_
   have:=List.append_cancel_left e
   simp at this
   omega
  ·obtain⟨c,_,rfl⟩:=Qn.mp hx
   obtain⟨c',_,rfl⟩:=Qn.mp hz
   have:=List.append_inj_left' e rfl
   exact hab this
structure PkOk(g:Gr)(q:Nat)(p:List Int):Prop where
 len:p.length=g.n
 st:M.Settled g.n (ln g.bs) q (pf p)
 nn:∀i,i<g.n->0<=pf p i
 z:pf p q=0
theorem Znk{g:Gr}(h:W1 g)(h4:g.n<=4){q:Nat}(hq:q<g.n){p:List Int}(hp:p∈pk g.n (ln g.bs) q (mB g.n (ln g.bs) q) g.n):PkOk g q p:=by
 rw[(VI h h4 hq).1]at hp
 obtain⟨h1,h2⟩:=QH.mp hp
 obtain⟨nn,len⟩:=Zhf _ _ h1
 have lt:=Zy8 _ _ h1 q hq
 have:mB g.n (ln g.bs) q q=1:=by unfold mB;rw[if_pos rfl]
 rw[this]at lt
 have:=Zjv nn q
 exact⟨len,(U6 h.gd.net hq nn).mp h2,fun i _=>Zjv nn i,by omega⟩
theorem pk_nd{g:Gr}(h:W1 g)(h4:g.n<=4){q:Nat}(hq:q<g.n):(pk g.n (ln g.bs) q (mB g.n (ln g.bs) q) g.n).Nodup:=by
 rw[(VI h h4 hq).1]
 exact(Zy7 _).filter _
theorem Zzs{a b:List Int}(e:pT a=pT b):a=b:=by
 unfold pT at e
 exact Wk.mp (by simpa using e)
theorem ne_tL(t:List Bd):Wc (tL t) (tL t)=some (.bl false):=by
 obtain⟨a,b⟩:=Zq0 [t]
 simp only[Qe,QI,Zkq,Bool.and_true,VS]at a b
 rw[Zav a a (by omega) (by omega)];simp
def UM(g:Gr)(q:Nat)(ps:List (List Int)):List (List Bd):=ps.map fun p=>Yn g q (pf p)
theorem Zqq{g:Gr}(h:W1 g)(h4:g.n<=4){q:Nat}(hq:q<g.n):(TR g).Perm (UM g q (pk g.n (ln g.bs) q (mB g.n (ln g.bs) q) g.n)):=by
 have rise:=(Zbv h h4).2
 have nd1:(TR g).Nodup:=rise.imp fun{a b} hab e=>by subst e;rw[UF]at hab;cases hab
 have nd2:(UM g q (pk g.n (ln g.bs) q (mB g.n (ln g.bs) q) g.n)).Nodup:=by
  unfold UM
  rw[List.Nodup,Q0]
  refine(pk_nd h h4 hq).imp_of_mem fun{a b} ha hb hab e=>hab ?_
  have oa:=Znk h h4 hq ha
  have ob:=Znk h h4 hq hb
  have ea:=VO h hq oa.st oa.nn oa.z
  have eb:=VO h hq ob.st ob.nn ob.z
  rw[e,eb]at ea
  have:=Q9 ea
  rw[<- Zr3 oa.len,<- Zr3 ob.len]at this
  exact(Zzs this).symm
 have sub:∀t∈UM g q (pk g.n (ln g.bs) q (mB g.n (ln g.bs) q) g.n),t∈TR g:=fun t ht=>by
  obtain⟨p,hp,rfl⟩:=Qn.mp ht
  have o:=Znk h h4 hq hp
  exact ts_TR h hq o.st o.nn h4
 have len:(UM g q (pk g.n (ln g.bs) q (mB g.n (ln g.bs) q) g.n)).length=(TR g).length:=by
  unfold UM
  rw[Qb,(VI h h4 hq).2,Zdd h h4]
 refine(List.perm_ext_iff_of_nodup nd1 nd2).mpr fun t=>⟨fun ht=>?_,sub t⟩
 apply QD
 intro hn
 have:=WP (t::UM g q (pk g.n (ln g.bs) q (mB g.n (ln g.bs) q) g.n)) (TR g) (QP.mpr ⟨hn,nd2⟩) fun x hx=>by
  rcases Qm.mp hx with rfl|z
  ·exact ht
  ·exact sub x z
 rw[Qk]at this
 omega
theorem Zre{g:Gr}(h:W1 g)(h4:g.n<=4){q:Nat}(hq:q<g.n)(h64:(TR g).length<64):Xz [.lst ((UM g q (pk g.n (ln g.bs) q (mB g.n (ln g.bs) q) g.n)).map tL)]=some (.lst ((TR g).map tL)):=by
 have pm:=Zqq h h4 hq
 have rise:=(Zbv h h4).2
 generalize UM g q (pk g.n (ln g.bs) q (mB g.n (ln g.bs) q) g.n)=T at pm
 have rr:∀M:List (List Bd),M.map tL=(M.map fun t=>t.map kb).map Zaq:=fun M=>by
  rw[QF]
  refine QQ fun t _=>?_
  show tL t=Zaq (t.map kb)
  unfold tL Zaq
  rw[QF];rfl
 have pm2:((TR g).map fun t=>t.map kb).Perm (T.map fun t=>t.map kb):=pm.map _
 have rise2:((TR g).map fun t=>t.map kb).Pairwise (fun x y=>UN x y=true):=by rw[Q0];exact rise
 have nd:(T.map fun t=>t.map kb).Nodup:=(pm2.nodup_iff).mp (rise2.imp fun{a b} hab e=>by subst e;rw[UF]at hab;cases hab)
 rw[rr]
 unfold Xz
 dsimp only
 rw[Zbk]
 dsimp only
 rw[if_pos ⟨by rw[Qb,<- pm.length_eq];exact h64,nd⟩,<- VE pm2 rise2,rr]
noncomputable def Zst:FS:=Zj (ZB 7 (fL Xx (Za (fV 1) (Za (fV 6) (Za (fV 2) fN)))))
 (Zj (Wj (gB (f2 Wc (fV 7) (fL Ya (Za (fV 1) (Za (fV 6) (Za (fV 2) fN)))))) (Z1 (fC (.bl false))) WK)
 (Zj (ZB 8 (fFr (Zh (fV 7))))
 (Zj (Wj (Zfi (gB (f2 Wc (fL Yt (Za (fV 1) (Za (fV 8) (Za (fV 2) fN)))) (fV 6))) (gB (f2 Wc (fV 8) (fV 7)))) (Z1 (fC (.bl false))) WK)
 (Zcd 3 (fV 7)))))
theorem Zsr{g:Gr}(h:W1 g){q:Nat}(hq:q<g.n){s t k:D}:∀(ps done:List (List Int)) (x6 x7 x8:Option Cl),(∀p∈ps,PkOk g q p)->done.length+ps.length<=10000->∃y6 y7 y8,
  Z8 (gN 6) Zst (ps.map pT) [some (.val s),some (.val (gD g)),some (.val (.int (q:Int))),some (.own (.lst ((UM g q done).map tL))),some (.own t),some (.val k),x6,x7,x8]=.nx [some (.val s),some (.val (gD g)),some (.val (.int (q:Int))),some (.own (.lst ((UM g q (done++ps)).map tL))),some (.own t),some (.val k),y6,y7,y8]:=by
 intro ps
 induction ps with
 |nil=>intro done x6 x7 x8 _ _;exact⟨x6,x7,x8,by simp[Z8]⟩
 |cons p ps ih =>
  intro done x6 x7 x8 hp hl
  rw[Qk]at hl
  have o:=hp p Qd
  obtain⟨y6,y7,y8,e⟩:=ih (done++[p]) (some (.val (tD g.n (pf p)))) (some (.val (tL (Yn g q (pf p))))) (some (.val (tL (Yn g q (pf p))))) (fun r hr=>hp r (Qc _ hr)) (by rw[Qi,QW];omega)
  refine⟨y6,y7,y8,?_⟩
  have e1:=Zpr h hq o.st o.nn o.z
  have e2:=Zmi h hq o.st o.nn
  have e3:=VO h hq o.st o.nn o.z
  have e4:=ne_tL (Yn g q (pf p))
  have e5:Wc (tD g.n (pf p)) (tD g.n (pf p))=some (.bl false):=ne_tD fun _ _=>rfl
  have it:We (tL (Yn g q (pf p)))=some ((Yn g q (pf p)).map bD):=rfl
  have il:(.lst ((Yn g q (pf p)).map bD):D)=tL (Yn g q (pf p)):=rfl
  have hm:((UM g q done).map tL).length<Yu:=by rw[Qb];unfold UM;rw[Qb];unfold Yu;omega
  have ed:(UM g q done).map tL++[tL (Yn g q (pf p))]=(UM g q (done++[p])).map tL:=by unfold UM;simp
  have step:Zst [some (.val s),some (.val (gD g)),some (.val (.int (q:Int))),some (.own (.lst ((UM g q done).map tL))),some (.own t),some (.val k),some (.val (tD g.n (pf p))),x7,x8]=.nx [some (.val s),some (.val (gD g)),some (.val (.int (q:Int))),some (.own (.lst ((UM g q (done++[p])).map tL))),some (.own t),some (.val k),some (.val (tD g.n (pf p))),some (.val (tL (Yn g q (pf p)))),some (.val (tL (Yn g q (pf p))))]:=by
   rw[<- ed]
   generalize (UM g q done).map tL=W at *
   unfold Zst
   simp! only[e1,e2,e4,it,il,e3,e5,Zcd,hm]
  rw[Qe]
  unfold Z8
  have tt:gN 6 (pT p)=some [(6,tD g.n (pf p))]:=by rw[Zr3 o.len];rfl
  rw[tt]
  dsimp only
  have es:XA [some (.val s),some (.val (gD g)),some (.val (.int (q:Int))),some (.own (.lst ((UM g q done).map tL))),some (.own t),some (.val k),x6,x7,x8] [(6,tD g.n (pf p))]=[some (.val s),some (.val (gD g)),some (.val (.int (q:Int))),some (.own (.lst ((UM g q done).map tL))),some (.own t),some (.val k),some (.val (tD g.n (pf p))),x7,x8]:=rfl
  rw[es,step]
  dsimp only
  rw[e,Q2]
  rfl
theorem g_law(ns:List Int):Zuh [.scr ns]=some (.bl true):=by
 obtain⟨g,hg,h4,hs,eG⟩:=Zpu ns (a:=0) (t:=4) (by decide) (by decide) (by decide)
 rw[show((4:Nat):Int)=4 from rfl]at eG
 have n1:=hg.n1
 have tp:(0:Int)<(g.n:Int):=by omega
 have m0:=Uf (ns:=ns) (k:=30) tp
 have m1:=UX (ns:=ns) (k:=30) tp
 obtain⟨q,hq⟩:∃q:Nat,Zaw ns 30 g.n=(q:Int):=⟨(Zaw ns 30 g.n).toNat,by omega⟩
 have hqn:q<g.n:=by omega
 have eM:=Vf ns (k:=30) (m:=(g.n:Int)) (by decide) tp
 rw[hq]at eM
 have few:=Z1l hg h4 hs
 have h64:(TR g).length<64:=by rw[Zdd hg h4];exact few
 have eP:=Ztd hg h4 hqn
 have plen:=(VI hg h4 hqn).2
 have eT:=Zkg hg h4 (by omega) h64
 have eS:=Zre hg h4 hqn h64
 obtain⟨y6,y7,y8,el⟩:=Zsr hg hqn (s:=.scr ns) (t:=.lst ((pk g.n (ln g.bs) q (mB g.n (ln g.bs) q) g.n).map pT++[.non])) (k:=.lst ((pk g.n (ln g.bs) q (mB g.n (ln g.bs) q) g.n).map pT)) (pk g.n (ln g.bs) q (mB g.n (ln g.bs) q) g.n) [] none none none (fun p hp=>Znk hg h4 hqn hp) (by rw[plen];simp;omega)
 rw[QX]at el
 have en:=Zz6 (pk g.n (ln g.bs) q (mB g.n (ln g.bs) q) g.n)
 have im:UO ((pk g.n (ln g.bs) q (mB g.n (ln g.bs) q) g.n).map pT)=true:=Za0 (fun p=>Zs9 p) _
 have lm:((pk g.n (ln g.bs) q (mB g.n (ln g.bs) q) g.n).map pT).length<Yu:=by rw[Qb,plen];unfold Yu;omega
 have hb:Zuh=Z4 1 9 (Zj (ZB 1 (fL YC (Za (fV 0) (Za (fC (.int 0)) (Za (fC (.int 4)) fN))))) (Zj (ZB 2 (fL Zo (Za (fV 0) (Za (fC (.int 30)) (Za (f2 Yl (fV 1) (fC (.int 0))) fN))))) (Zj (Y7 3 (fR L2.few fN)) (Zj (Y7 4 (Zwz Ys (Za (fV 1) (Za (fV 2) fN)))) (Zj (Zji 5 (Zh (fV 4))) (Zj (Zff 5 (WE 4 (fC .non))) (Zj (Wj (gB (f2 Wc (fL (Zwe Ys) (Za (fV 1) (Za (fV 2) fN))) (fV 5))) (Z1 (fC (.bl false))) WK) (Zj (YB (Zh (fV 5)) (gN 6) Zst) (Z1 (f2 Xb (fL Xz (Za (fV 3) fN)) (fL YJ (Za (fV 1) fN))))))))))) ):=rfl
 have eq:=Z01 (TR g)
 have t0:(UM g q []).map tL=[]:=rfl
 rw[t0]at el
 generalize (pk g.n (ln g.bs) q (mB g.n (ln g.bs) q) g.n).map pT=PP at *
 generalize (UM g q (pk g.n (ln g.bs) q (mB g.n (ln g.bs) q) g.n)).map tL=TT at *
 have imn:Zmf .non=true:=rfl
 have hf:YB (Zh (fV 5)) (gN 6) Zst [some (.val (.scr ns)),some (.val (gD g)),some (.val (.int (q:Int))),some (.own (.lst [])),some (.own (.lst (PP++[.non]))),some (.val (.lst PP)),none,none,none]=.nx [some (.val (.scr ns)),some (.val (gD g)),some (.val (.int (q:Int))),some (.own (.lst TT)),some (.own (.lst (PP++[.non]))),some (.val (.lst PP)),y6,y7,y8]:=el
 rw[hb]
 simp! only[eG,VR,eM,VY,Zwz,Zwe,eP,Zji,We,im,Zff,WE,imn,lm,and_self,en,hf,eS,eT,eq]
end P

namespace K11
open PySem L2 P
variable{Pr:Program}{w:World}{K:PySem.W.Frag}{mg:Str->Option Value}{base:Heap}{f:Addr}{fd:FuncData}
def VB(i:Nat):Stmt:=PySem.Challenge.pw_chipyard_k11_whole_trees_of_parkings.main.body.getD i (.Pass ⟨0,0,0,0⟩)
theorem Zur{Q:List Value->Prop}(h:∀a0,Q [a0]):∀us:List Value,us.length=1->Q us
 |[a0],_=>h a0
theorem Zi3{Q:List Value->Prop}(h:∀a0 a1,Q [a0,a1]):∀us:List Value,us.length=2->Q us
 |[a0,a1],_=>h a0 a1
theorem Zi2{Q:List Value->Prop}(h:∀a0 a1 a2,Q [a0,a1,a2]):∀us:List Value,us.length=3->Q us
 |[a0,a1,a2],_=>h a0 a1 a2
theorem us4{Q:List Value->Prop}(h:∀a0 a1 a2 a3,Q [a0,a1,a2,a3]):∀us:List Value,us.length=4->Q us
 |[a0,a1,a2,a3],_=>h a0 a1 a2 a3
abbrev s0:Stmt:=VB 40
theorem t0:Zy ["_law_script","_law_k"] ["_law_script","_law_k"] (Zk s0):=⟨rfl,rfl,rfl,by decide +kernel,rfl,by decide +kernel,by decide +kernel⟩
theorem d0(Fu:WN K "_law_cell_at" "_law_cell_at" s0 f fd)(hm:mg "_law_cell_at"=some (.ref f))(Bt:BT mg) :
  YO Pr w K mg base "_law_cell_at" 1 ["_law_script","_law_k"] YG f fd:=by
 have nd:=t0.nd
 refine⟨Zz (k:=0) (F:=W0) Fu t0 rfl rfl rfl fun cdv A outer s H E hr=>?_,hm,Fu.kp,Fu.binds (ps:=["_law_script","_law_k"]) fun _ _ _ _ _ _=>Zi3 (fun _ _=>by exact rfl)⟩
 exact(Ze (Xe (Yf (WF hr.units0) (Zb 1) (Zs Y6 Bt.len_ YR (Zc (Zb 0) Zd))) (Zi (ZG (ZT (Zb 0) (Zb 1)))) Yd)
  (Ze (Xe (Yf (Wt hr.units) (Zb 0) (Wu Zd)) (Zi (ZG Zl)) Yd)
  (Zi (ZG (ZO Z3 (ZO Va (ZT (Zb 0) (ZO UG (Zb 1) (Zs Y6 Bt.len_ YR (Zc (Zb 0) Zd)))) Zl) (Zb 1))))))
abbrev s1:Stmt:=VB 41
theorem t1:Zy ["_law_script","_law_k","_law_many","_law_drawn"] ["_law_script","_law_k","_law_many"] (Zk s1):=⟨rfl,rfl,rfl,by decide +kernel,rfl,by decide +kernel,by decide +kernel⟩
theorem d1(Fu:WN K "_law_mixed" "_law_mixed" s1 f fd)(hm:mg "_law_mixed"=some (.ref f))(Bt:BT mg)
  {f0:Addr} {e0:FuncData} (o0:YO Pr w K mg base "_law_cell_at" 1 ["_law_script","_law_k"] YG f0 e0) :
  YO Pr w K mg base "_law_mixed" 2 ["_law_script","_law_k","_law_many"] Zo f fd:=by
 have nd:=t1.nd
 refine⟨Zz (k:=1) (F:=VW YG) Fu t1 rfl rfl rfl fun cdv A outer s H E hr=>?_,hm,Fu.kp,Fu.binds (ps:=["_law_script","_law_k","_law_many"]) fun _ _ _ _ _ _=>Zi2 (fun _ _ _=>by exact rfl)⟩
 exact(Ze (ZZ (i:=3) nd (ZO UG (ZO Va (ZO Z3 (ZO Z3 (ZF o0 hr (Zc (Zb 0) (Zc (Zb 1) Zd))) (ZO Va Zl (Zb 1))) Zl) Zl) Zl))
  (Zi (ZG (ZO UG (ZO UG (ZO Z3 (ZO Z3 (ZO Va (Zb 3) (Zb 3)) (ZO Va Zl (Zb 3))) (Zb 1)) Zl) (Zb 2)))))
abbrev s2:Stmt:=VB 42
theorem t2:Zy ["_law_script","_law_at","_law_most","_law_many","_law_joins","_law_yard","_law_k","_law_one","_law_other","_law_pair"] ["_law_script","_law_at","_law_most"] (Zk s2):=⟨rfl,rfl,rfl,by decide +kernel,rfl,by decide +kernel,by decide +kernel⟩
theorem n2_1:(["_law_pair","_law_joins"]:List Str).Nodup:=by decide+kernel
theorem d2(Fu:WN K "_law_ground" "_law_ground" s2 f fd)(hm:mg "_law_ground"=some (.ref f))(Bt:BT mg)
  {f1:Addr} {e1:FuncData} (o1:YO Pr w K mg base "_law_mixed" 2 ["_law_script","_law_k","_law_many"] Zo f1 e1) :
  YO Pr w K mg base "_law_ground" 3 ["_law_script","_law_at","_law_most"] YC f fd:=by
 have nd:=t2.nd
 refine⟨Zz (k:=2) (F:=Vo Zo) Fu t2 rfl rfl rfl fun cdv A outer s H E hr=>?_,hm,Fu.kp,Fu.binds (ps:=["_law_script","_law_at","_law_most"]) fun _ _ _ _ _ _=>Zi2 (fun _ _ _=>by exact rfl)⟩
 exact(Ze (ZZ (i:=3) nd (ZO Z3 Zl (ZF o1 hr (Zc (Zb 0) (Zc (Zb 1) (Zc (Zb 2) Zd))))))
  (Ze (Zuy (i:=4) nd)
  (Ze (W5 QG rfl (Zgc Bt.range_ (Zc Zl (Zc (Zb 3) Zd))) (Zw (i:=5) nd) (Zi (Zcx (i:=4) hr.units (Xy (Zc (ZF o1 hr (Zc (Zb 0) (Zc (ZO Z3 (Zb 1) (Zb 5)) (Zc (Zb 5) Zd)))) (Zc (Zb 5) Zd))) (ZO Z3 Zl (ZO Zr6 (ZF o1 hr (Zc (Zb 0) (Zc (ZO Z3 (ZO Z3 (Zb 1) Zl) (Zb 5)) (Zc Zl Zd)))) Zl)))))
  (Ze (W5 QG rfl (Yo Bt.range_ (Zc (ZO Va (ZF o1 hr (Zc (Zb 0) (Zc (ZO Z3 (Zb 1) Zl) (Zc Zl Zd)))) (Vw Zt1 Bt.int_ Zms (Zc (Vk Zzv (Zb 3) Zl) Zd))) Zd)) (Zw (i:=6) nd) (Ze (ZZ (i:=7) nd (ZF o1 hr (Zc (Zb 0) (Zc (ZO Z3 (ZO Z3 (Zb 1) Zl) (ZO Va Zl (Zb 6))) (Zc (Zb 3) Zd)))))
  (Ze (ZZ (i:=8) nd (ZO UG (ZO Z3 (ZO Z3 (Zb 7) Zl) (ZF o1 hr (Zc (Zb 0) (Zc (ZO Z3 (ZO Z3 (Zb 1) Zl) (ZO Va Zl (Zb 6))) (Zc (ZO Xj (Zb 3) Zl) Zd))))) (Zb 3)))
  (Ze (ZZ (i:=9) nd (Xy (Zc (Zs (Zij rfl) Bt.min_ Zio (Zc (Zb 7) (Zc (Zb 8) Zd))) (Zc (Zs (Zik rfl) Bt.max_ Zip (Zc (Zb 7) (Zc (Zb 8) Zd))) Zd))))
  (Zi (Zcx (i:=4) hr.units (Zb 9) (ZO Z3 (ZO UG (Z00 hr.units (Zb 4) (Zb 9) Zl) Zl) Zl)))))))
  (Zi (ZG (Xy (Zc (Zb 3) (Zc (Vw Zk0 Bt.tuple_ WT (Zc (Yp ["_law_pair","_law_joins"] 1 [4] (Xh (by decide)) rfl (Yi (Zs (UI rfl hr.units) Bt.sorted_ WM (Zc (Vw (Zt0 rfl) Bt.list_ Zc6 (Zc (Zb 4) Zd)) Zd))) (fun _ _ _ _ _=>(Zw (i:=0) n2_1)) (fun _ _ _ _ _=>YH) (fun _ _ _ _ _=>(ZO Z3 (Zb 0) (Xy (Zc (Z0z hr.units (Zb 1) (Zb 0)) Zd))))) Zd)) Zd)))))))))
abbrev s3:Stmt:=VB 14
theorem t3:Zy ["thing"] ["thing"] (Zk s3):=⟨rfl,rfl,rfl,by decide +kernel,rfl,by decide +kernel,by decide +kernel⟩
theorem d3(Fu:WN K "is_number" "is_number" s3 f fd)(hm:mg "is_number"=some (.ref f))(Bt:BT mg) :
  YO Pr w K mg base "is_number" 1 ["thing"] ZL f fd:=by
 have nd:=t3.nd
 refine⟨Zz (k:=0) (F:=Uw) Fu t3 rfl rfl rfl fun cdv A outer s H E hr=>?_,hm,Fu.kp,Fu.binds (ps:=["thing"]) fun _ _ _ _ _ _=>Zur (fun _=>by exact rfl)⟩
 exact(Zi (ZG (U5 (XT Zsy (Zb 0) Bt.isinstance Bt.int_ Zms) (U4 (Z0y (XT Zpg (Zb 0) Bt.isinstance Bt.bool_ Zw3))))))
abbrev s4:Stmt:=VB 15
theorem t4:Zy ["thing","least","most"] ["thing","least","most"] (Zk s4):=⟨rfl,rfl,rfl,by decide +kernel,rfl,by decide +kernel,by decide +kernel⟩
theorem d4(Fu:WN K "is_number_within" "is_number_within" s4 f fd)(hm:mg "is_number_within"=some (.ref f))(Bt:BT mg)
  {f3:Addr} {e3:FuncData} (o3:YO Pr w K mg base "is_number" 1 ["thing"] ZL f3 e3) :
  YO Pr w K mg base "is_number_within" 2 ["thing","least","most"] Zn f fd:=by
 have nd:=t4.nd
 refine⟨Zz (k:=1) (F:=XO ZL) Fu t4 rfl rfl rfl fun cdv A outer s H E hr=>?_,hm,Fu.kp,Fu.binds (ps:=["thing","least","most"]) fun _ _ _ _ _ _=>Zi2 (fun _ _ _=>by exact rfl)⟩
 exact(Zi (ZG (U5 (ZF o3 hr (Zc (Zb 0) Zd)) (U4 (Ztm Zr5 Zr5 (Zb 1) (Zb 0) (Zb 2))))))
abbrev s5:Stmt:=VB 18
theorem t5:Zy ["many","thing"] ["many","thing"] (Zk s5):=⟨rfl,rfl,rfl,by decide +kernel,rfl,by decide +kernel,by decide +kernel⟩
theorem d5(Fu:WN K "is_bundle" "is_bundle" s5 f fd)(hm:mg "is_bundle"=some (.ref f))(Bt:BT mg)
  {f4:Addr} {e4:FuncData} (o4:YO Pr w K mg base "is_number_within" 2 ["thing","least","most"] Zn f4 e4)
  (c_MOST_LINES:∃t,mg "MOST_LINES"=some (.int 4 t)) :
  YO Pr w K mg base "is_bundle" 3 ["many","thing"] Y3 f fd:=by
 have nd:=t5.nd
 refine⟨Zz (k:=2) (F:=Uz Zn) Fu t5 rfl rfl rfl fun cdv A outer s H E hr=>?_,hm,Fu.kp,Fu.binds (ps:=["many","thing"]) fun _ _ _ _ _ _=>Zi3 (fun _ _=>by exact rfl)⟩
 exact(Ze (Xe (WV.tv (Zad (XD (Y9 (XT WS (Zb 1) Bt.isinstance Bt.tuple_ WT))) (V2 (Yf (Vi hr.units) (Zs Y6 Bt.len_ YR (Zc (Zb 1) Zd)) Zl)))) (Zi (ZG Vg)) Yd)
  (Ze (Xe (XD (Y9 (ZF o4 hr (Zc (ZT (Zb 1) Zl) (Zc Zl (Zc (ZO Xj (Zb 0) Zl) Zd)))))) (Zi (ZG Vg)) Yd)
  (Zi (ZG (U5 (ZF o4 hr (Zc (ZT (Zb 1) Zl) (Zc (ZO Z3 (ZT (Zb 1) Zl) Zl) (Zc (ZO Xj (Zb 0) Zl) Zd)))) (U4 (ZF o4 hr (Zc (ZT (Zb 1) Zl) (Zc Zl (Zc (Zn5 c_MOST_LINES) Zd))))))))))
abbrev s6:Stmt:=VB 20
theorem t6:Zy ["many","bundles","reached","round_number","a","b","number"] ["many","bundles"] (Zk s6):=⟨rfl,rfl,rfl,by decide +kernel,rfl,by decide +kernel,by decide +kernel⟩
theorem d6(Fu:WN K "is_joined" "is_joined" s6 f fd)(hm:mg "is_joined"=some (.ref f))(Bt:BT mg) :
  YO Pr w K mg base "is_joined" 1 ["many","bundles"] Z6 f fd:=by
 have nd:=t6.nd
 refine⟨Zz (k:=0) (F:=Ux) Fu t6 rfl rfl rfl fun cdv A outer s H E hr=>?_,hm,Fu.kp,Fu.binds (ps:=["many","bundles"]) fun _ _ _ _ _ _=>Zi3 (fun _ _=>by exact rfl)⟩
 exact(Ze (Zu0 (i:=2) nd)
  (Ze (W5 QG rfl (Yo Bt.range_ (Zc (Zb 0) Zd)) (Zw (i:=3) nd) (Zi (XF QG rfl (Yi (Zb 1)) (Uj (ix:=[4,5,6]) rfl (Yg (Yh 4 nd) (Yg (Yh 5 nd) (Yg (Yh 6 nd) W6)))) (Zi (Xe (WV.tv (Zad (Yf (Zhm hr.units) (Zb 4) (Zb 2)) (V2 (Yf (Zhm hr.units) (Zb 5) (Zb 2))))) (Ze (Zcx (i:=2) hr.units (Zb 4) Vg)
  (Zi (Zcx (i:=2) hr.units (Zb 5) Vg))) Yd)))))
  (Zi (ZG (Vk (Wt hr.units) (Zs Zw1 Bt.len_ YR (Zc (Zb 2) Zd)) (Zb 0))))))
abbrev s7:Stmt:=VB 19
theorem t7:Zy ["bundles"] ["bundles"] (Zk s7):=⟨rfl,rfl,rfl,by decide +kernel,rfl,by decide +kernel,by decide +kernel⟩
theorem n7_1:(["one","other"]:List Str).Nodup:=by decide+kernel
theorem d7(Fu:WN K "do_rise" "do_rise" s7 f fd)(hm:mg "do_rise"=some (.ref f))(Bt:BT mg) :
  YO Pr w K mg base "do_rise" 1 ["bundles"] XV f fd:=by
 have nd:=t7.nd
 refine⟨Zz (k:=0) (F:=Zb8) Fu t7 rfl rfl rfl fun cdv A outer s H E hr=>?_,hm,Fu.kp,Fu.binds (ps:=["bundles"]) fun _ _ _ _ _ _=>Zur (fun _=>by exact rfl)⟩
 exact(Zi (ZG (Zs (Zbz rfl) Bt.all_ Zb1 (Zc (Yp ["one","other"] 2 [] (Ztf rfl) rfl (Zs2 Bt.zip_ (Zb 0) (Wq (Zb 0) (W7 Zl) W8)) (fun _ _ _ _ _=>(Uj (ix:=[0,1]) rfl (Yg (Yh 0 n7_1) (Yg (Yh 1 n7_1) W6)))) (fun _ _ _ _ _=>YH) (fun _ _ _ _ _=>(Vk (WF hr.units0) (Wq (Zb 0) W8 (W7 Zl)) (Wq (Zb 1) W8 (W7 Zl))))) Zd))))
abbrev s8:Stmt:=VB 17
theorem t8:Zy ["thing","many","bundles"] ["thing"] (Zk s8):=⟨rfl,rfl,rfl,by decide +kernel,rfl,by decide +kernel,by decide +kernel⟩
theorem n8_1:(["bundle","many"]:List Str).Nodup:=by decide+kernel
theorem d8(Fu:WN K "is_ground" "is_ground" s8 f fd)(hm:mg "is_ground"=some (.ref f))(Bt:BT mg)
  {f4:Addr} {e4:FuncData} (o4:YO Pr w K mg base "is_number_within" 2 ["thing","least","most"] Zn f4 e4)
  {f5:Addr} {e5:FuncData} (o5:YO Pr w K mg base "is_bundle" 3 ["many","thing"] Y3 f5 e5)
  {f6:Addr} {e6:FuncData} (o6:YO Pr w K mg base "is_joined" 1 ["many","bundles"] Z6 f6 e6)
  {f7:Addr} {e7:FuncData} (o7:YO Pr w K mg base "do_rise" 1 ["bundles"] XV f7 e7)
  (c_MOST_YARDS:∃t,mg "MOST_YARDS"=some (.int 5 t)) :
  YO Pr w K mg base "is_ground" 4 ["thing"] Xi f fd:=by
 have nd:=t8.nd
 refine⟨Zz (k:=3) (F:=Uy Zn Y3 Z6 XV) Fu t8 rfl rfl rfl fun cdv A outer s H E hr=>?_,hm,Fu.kp,Fu.binds (ps:=["thing"]) fun _ _ _ _ _ _=>Zur (fun _=>by exact rfl)⟩
 exact(Ze (Xe (WV.tv (Zad (XD (Y9 (XT WS (Zb 0) Bt.isinstance Bt.tuple_ WT))) (V2 (Yf (Vi hr.units) (Zs Y6 Bt.len_ YR (Zc (Zb 0) Zd)) Zl)))) (Zi (ZG Vg)) Yd)
  (Ze (ZZ (i:=1) nd (ZT (Zb 0) Zl))
  (Ze (ZZ (i:=2) nd (ZT (Zb 0) Zl))
  (Ze (Xe (WV.tv (Zad (XD (Y9 (ZF o4 hr (Zc (Zb 1) (Zc Zl (Zc (Zn5 c_MOST_YARDS) Zd)))))) (V2 (XD (Y9 (XT WS (Zb 2) Bt.isinstance Bt.tuple_ WT)))))) (Zi (ZG Vg)) Yd)
  (Ze (Xe (XD (Y9 (Zs (Zbz rfl) Bt.all_ Zb1 (Zc (Yp ["bundle","many"] 1 [1] (Xh (by decide)) rfl (Yi (Zb 2)) (fun _ _ _ _ _=>(Zw (i:=0) n8_1)) (fun _ _ _ _ _=>YH) (fun _ _ _ _ _=>(ZF o5 hr (Zc (Zb 1) (Zc (Zb 0) Zd))))) Zd)))) (Zi (ZG Vg)) Yd)
  (Zi (ZG (U5 (ZF o7 hr (Zc (Zb 2) Zd)) (U4 (ZF o6 hr (Zc (Zb 1) (Zc (Zb 2) Zd))))))))))))
abbrev s9:Stmt:=VB 9
theorem t9:Zy ["ground"] ["ground"] (Zk s9):=⟨rfl,rfl,rfl,by decide +kernel,rfl,by decide +kernel,by decide +kernel⟩
theorem d9(Fu:WN K "checked" "checked" s9 f fd)(hm:mg "checked"=some (.ref f))(Bt:BT mg)
  {f8:Addr} {e8:FuncData} (o8:YO Pr w K mg base "is_ground" 4 ["thing"] Xi f8 e8) :
  YO Pr w K mg base "checked" 5 ["ground"] YN f fd:=by
 have nd:=t9.nd
 refine⟨Zz (k:=4) (F:=Zb9 Xi) Fu t9 rfl rfl rfl fun cdv A outer s H E hr=>?_,hm,Fu.kp,Fu.binds (ps:=["ground"]) fun _ _ _ _ _ _=>Zur (fun _=>by exact rfl)⟩
 exact(Ze (Xe (XD (Y9 (ZF o8 hr (Zc (Zb 0) Zd)))) Zaj Yd)
  (Zi (ZG (Zb 0))))
abbrev Zap:Stmt:=VB 12
theorem t10:Zy ["ground","yard"] ["ground","yard"] (Zk Zap):=⟨rfl,rfl,rfl,by decide +kernel,rfl,by decide +kernel,by decide +kernel⟩
theorem d10(Fu:WN K "checked_yard" "checked_yard" Zap f fd)(hm:mg "checked_yard"=some (.ref f))(Bt:BT mg)
  {f9:Addr} {e9:FuncData} (o9:YO Pr w K mg base "checked" 5 ["ground"] YN f9 e9)
  {f4:Addr} {e4:FuncData} (o4:YO Pr w K mg base "is_number_within" 2 ["thing","least","most"] Zn f4 e4) :
  YO Pr w K mg base "checked_yard" 6 ["ground","yard"] Zm f fd:=by
 have nd:=t10.nd
 refine⟨Zz (k:=5) (F:=WX YN Zn) Fu t10 rfl rfl rfl fun cdv A outer s H E hr=>?_,hm,Fu.kp,Fu.binds (ps:=["ground","yard"]) fun _ _ _ _ _ _=>Zi3 (fun _ _=>by exact rfl)⟩
 exact(Ze (WD (ZF o9 hr (Zc (Zb 0) Zd)))
  (Ze (Xe (XD (Y9 (ZF o4 hr (Zc (Zb 1) (Zc Zl (Zc (ZO Xj (ZT (Zb 0) Zl) Zl) Zd)))))) Zaj Yd)
  (Zi (ZG (Zb 1)))))
abbrev s11:Stmt:=VB 13
theorem t11:Zy ["ground","table","a","b","number"] ["ground"] (Zk s11):=⟨rfl,rfl,rfl,by decide +kernel,rfl,by decide +kernel,by decide +kernel⟩
theorem n11_1:(["yard","ground"]:List Str).Nodup:=by decide+kernel
theorem d11(Fu:WN K "line_table" "line_table" s11 f fd)(hm:mg "line_table"=some (.ref f))(Bt:BT mg) :
  YO Pr w K mg base "line_table" 1 ["ground"] Zq f fd:=by
 have nd:=t11.nd
 refine⟨Zz (k:=0) (F:=VU) Fu t11 rfl rfl rfl fun cdv A outer s H E hr=>?_,hm,Fu.kp,Fu.binds (ps:=["ground"]) fun _ _ _ _ _ _=>Zur (fun _=>by exact rfl)⟩
 exact(Zon (Znj (i:=1) ["yard","ground"] 1 [0] nd rfl (by first|exact Or.inl rfl|exact Or.inr rfl) rfl (Zla.iv (Yo Bt.range_ (Zc (ZT (Zb 0) Zl) Zd))) (fun _ _ _ _ _=>(Zw (i:=0) n11_1)) (fun _ _ _ _ _=>YH) (fun _ _ _ _ _=>(Zn4 (Xp (Zc Zl Zd)) (ZT (Zb 1) Zl)))) (Zlw QG rfl (Yi (ZT (Zb 0) Zl)) (Uj (ix:=[2,3,4]) rfl (Yg (Yh 2 nd) (Yg (Yh 3 nd) (Yg (Yh 4 nd) W6)))) (Uc (Zlx (Zb 4) (Zlz (Zrx Zh5 (VH (i:=1) rfl (by first|exact Or.inl rfl|exact Or.inr (Or.inl rfl)|exact Or.inr (Or.inr rfl))) (Zb 2) (fun _ _=>rfl)) (Zb 3) Zdm (by intro _;rfl))) (Zc0 (Zlx (Zb 4) (Zlz (Zrx Zh5 (VH (i:=1) rfl (by first|exact Or.inl rfl|exact Or.inr (Or.inl rfl)|exact Or.inr (Or.inr rfl))) (Zb 3) (fun _ _=>rfl)) (Zb 2) Zdm (by intro _;rfl)))))) (Zlv (VH (i:=1) rfl (by first|exact Or.inl rfl|exact Or.inr (Or.inl rfl)|exact Or.inr (Or.inr rfl)))) (fun _ _=>rfl) (by decide) ⟨Nat.le_of_ble_eq_true rfl,Nat.le_of_ble_eq_true rfl,Nat.le_of_ble_eq_true rfl,Nat.le_of_ble_eq_true rfl⟩)
abbrev s12:Stmt:=VB 25
theorem t12:Zy ["table","bank"] ["table","bank"] (Zk s12):=⟨rfl,rfl,rfl,by decide +kernel,rfl,by decide +kernel,by decide +kernel⟩
theorem n12_1:(["yard","bank"]:List Str).Nodup:=by decide+kernel
theorem d12(Fu:WN K "yards_without" "yards_without" s12 f fd)(hm:mg "yards_without"=some (.ref f))(Bt:BT mg) :
  YO Pr w K mg base "yards_without" 1 ["table","bank"] Zx f fd:=by
 have nd:=t12.nd
 refine⟨Zz (k:=0) (F:=Wz) Fu t12 rfl rfl rfl fun cdv A outer s H E hr=>?_,hm,Fu.kp,Fu.binds (ps:=["table","bank"]) fun _ _ _ _ _ _=>Zi3 (fun _ _=>by exact rfl)⟩
 exact(Zi (ZG (Yp ["yard","bank"] 1 [1] (Xh (by decide)) rfl (Zla.iv (Yo Bt.range_ (Zc (Zs Y6 Bt.len_ YR (Zc (Zb 0) Zd)) Zd))) (fun _ _ _ _ _=>(Zw (i:=0) n12_1)) (fun _ _ _ _ _=>(Wf (Yf (Vi hr.units) (Zb 0) (Zb 1)))) (fun _ _ _ _ _=>(Zb 0)))))
abbrev s13:Stmt:=VB 24
theorem t13:Zy ["table","yard","others"] ["table","yard","others"] (Zk s13):=⟨rfl,rfl,rfl,by decide +kernel,rfl,by decide +kernel,by decide +kernel⟩
theorem n13_1:(["other","table","yard"]:List Str).Nodup:=by decide+kernel
theorem d13(Fu:WN K "lines_to" "lines_to" s13 f fd)(hm:mg "lines_to"=some (.ref f))(Bt:BT mg) :
  YO Pr w K mg base "lines_to" 1 ["table","yard","others"] ZC f fd:=by
 have nd:=t13.nd
 refine⟨Zz (k:=0) (F:=U9) Fu t13 rfl rfl rfl fun cdv A outer s H E hr=>?_,hm,Fu.kp,Fu.binds (ps:=["table","yard","others"]) fun _ _ _ _ _ _=>Zi2 (fun _ _ _=>by exact rfl)⟩
 exact(Zi (ZG (Zs (Zmp rfl) Bt.sum_ Zmr (Zc (Yp ["other","table","yard"] 1 [0,1] (Xh (by decide)) rfl (Yi (Zb 2)) (fun _ _ _ _ _=>(Zw (i:=0) n13_1)) (fun _ _ _ _ _=>YH) (fun _ _ _ _ _=>(ZT (ZT (Zb 1) (Zb 2)) (Zb 0)))) Zd))))
abbrev s14:Stmt:=VB 23
theorem t14:Zy ["table","load","bank","burnt","round_number","yard"] ["table","load","bank"] (Zk s14):=⟨rfl,rfl,rfl,by decide +kernel,rfl,by decide +kernel,by decide +kernel⟩
theorem d14(Fu:WN K "burnt_yards" "burnt_yards" s14 f fd)(hm:mg "burnt_yards"=some (.ref f))(Bt:BT mg)
  {f12:Addr} {e12:FuncData} (o12:YO Pr w K mg base "yards_without" 1 ["table","bank"] Zx f12 e12)
  {f13:Addr} {e13:FuncData} (o13:YO Pr w K mg base "lines_to" 1 ["table","yard","others"] ZC f13 e13) :
  YO Pr w K mg base "burnt_yards" 2 ["table","load","bank"] ZU f fd:=by
 have nd:=t14.nd
 refine⟨Zz (k:=1) (F:=Vn Zx ZC) Fu t14 rfl rfl rfl fun cdv A outer s H E hr=>?_,hm,Fu.kp,Fu.binds (ps:=["table","load","bank"]) fun _ _ _ _ _ _=>Zi2 (fun _ _ _=>by exact rfl)⟩
 exact(Ze (XE (i:=3) nd (Xp (Zc (Zb 2) Zd)))
  (Ze (W5 QG rfl (Yo Bt.range_ (Zc (Zs Y6 Bt.len_ YR (Zc (Zb 0) Zd)) Zd)) (Zw (i:=4) nd) (Zi (XF QG rfl (Yi (ZF o12 hr (Zc (Zb 0) (Zc (Zb 2) Zd)))) (Zw (i:=5) nd) (Zi (Xe (WV.tv (Zlc (Yf UV (Zb 5) (Zb 3)) (Zg2 (Yf (WF hr.units0) (ZT (Zb 1) (Zb 5)) (ZF o13 hr (Zc (Zb 0) (Zc (Zb 5) (Zc (Zb 3) Zd)))))))) (Zi (Zbh (i:=3) (Zb 5) (h1:=Uq (i:=3) (Zb 5)))) Yd)))))
  (Zi (ZG (Zb 3)))))
abbrev s15:Stmt:=VB 30
theorem t15:Zy ["table","bank","begun","found","start","yard","chips","load"] ["table","bank","begun"] (Zk s15):=⟨rfl,rfl,rfl,by decide +kernel,rfl,by decide +kernel,by decide +kernel⟩
theorem d15(Fu:WN K "lengthened" "lengthened" s15 f fd)(hm:mg "lengthened"=some (.ref f))(Bt:BT mg)
  {f14:Addr} {e14:FuncData} (o14:YO Pr w K mg base "burnt_yards" 2 ["table","load","bank"] ZU f14 e14) :
  Zm0 Pr w K mg base "lengthened" 3 ["table","bank","begun"] Z5 f fd:=by
 have nd:=t15.nd
 refine⟨Zkm (k:=2) (F:=Uv ZU) Fu t15 rfl rfl rfl fun cdv A outer s H E hr=>?_,hm,Fu.kp,Fu.binds (ps:=["table","bank","begun"]) fun _ _ _ _ _ _=>Zi2 (fun _ _ _=>by exact rfl)⟩
 exact(WI (XE (i:=3) nd (Xp Zd))
  (WI (XF QG rfl (Yi (Zb 2)) (Zw (i:=4) nd) (Ze (ZZ (i:=5) nd (Zs Y6 Bt.len_ YR (Zc (Zb 4) Zd)))
  (Zi (W5 QG rfl (Yo Bt.range_ (Zc (Zx6 (Yf (Wt hr.units) (Zb 5) (Zb 1)) Zl (Zs (Zmp rfl) Bt.sum_ Zmr (Zc (ZT (Zb 0) (Zb 5)) Zd))) Zd)) (Zw (i:=6) nd) (Ze (ZZ (i:=7) nd (ZO Z3 (ZO Zdz (Zb 4) (Xy (Zc (Zb 6) Zd))) (ZO Zr4 (Xy (Zc Zl Zd)) (ZO Xj (ZO Xj (Zs Y6 Bt.len_ YR (Zc (Zb 0) Zd)) (Zb 5)) Zl))))
  (Ze (Xe (Yf (WF hr.units0) (Zs Y6 Bt.len_ YR (Zc (ZF o14 hr (Zc (Zb 0) (Zc (Zb 7) (Zc (Zb 1) Zd)))) Zd)) (Zs Y6 Bt.len_ YR (Zc (Zb 0) Zd))) (Zi Zq7) Yd)
  (Zi (Zbh (i:=3) (ZO Zdz (Zb 4) (Xy (Zc (Zb 6) Zd))) (h1:=Uq (i:=3) (ZO Zdz (Zb 4) (Xy (Zc (Zb 6) Zd))))))))))))
  (Zi9 (i:=3))))
abbrev s16:Stmt:=VB 27
theorem t16:Zy ["ground","bank","table","begun","yard"] ["ground","bank"] (Zk s16):=⟨rfl,rfl,rfl,by decide +kernel,rfl,by decide +kernel,by decide +kernel⟩
theorem d16(Fu:WN K "parkings" "parkings" s16 f fd)(hm:mg "parkings"=some (.ref f))(Bt:BT mg)
  {f10:Addr} {e10:FuncData} (o10:YO Pr w K mg base "checked_yard" 6 ["ground","yard"] Zm f10 e10)
  {f11:Addr} {e11:FuncData} (o11:YO Pr w K mg base "line_table" 1 ["ground"] Zq f11 e11)
  {f15:Addr} {e15:FuncData} (o15:Zm0 Pr w K mg base "lengthened" 3 ["table","bank","begun"] Z5 f15 e15) :
  Zm0 Pr w K mg base "parkings" 7 ["ground","bank"] Ys f fd:=by
 have nd:=t16.nd
 refine⟨Zkm (k:=6) (F:=Zbb Zm Zq Z5) Fu t16 rfl rfl rfl fun cdv A outer s H E hr=>?_,hm,Fu.kp,Fu.binds (ps:=["ground","bank"]) fun _ _ _ _ _ _=>Zi3 (fun _ _=>by exact rfl)⟩
 exact(WI (WD (ZF o10 hr (Zc (Zb 0) (Zc (Zb 1) Zd))))
  (WI (ZZ (i:=2) nd (ZF o11 hr (Zc (Zb 0) Zd)))
  (WI (XE (i:=3) nd (Xp (Zc (Xy Zd) Zd)))
  (WI (W5 QG rfl (Yo Bt.range_ (Zc (Zs Y6 Bt.len_ YR (Zc (Zb 2) Zd)) Zd)) (Zw (i:=4) nd) (Zi (Zq6 (j:=3) (XE (i:=3) nd (Zgn o15 hr (Zc (Zb 2) (Zc (Zb 1) (Zc (Zb 3) Zd))))))))
  (Zi9 (i:=3))))))
abbrev s17:Stmt:=VB 16
theorem t17:Zy ["ground","things"] ["ground","things"] (Zk s17):=⟨rfl,rfl,rfl,by decide +kernel,rfl,by decide +kernel,by decide +kernel⟩
theorem n17_1:(["thing"]:List Str).Nodup:=by decide+kernel
theorem d17(Fu:WN K "has_number_for_each_yard" "has_number_for_each_yard" s17 f fd)(hm:mg "has_number_for_each_yard"=some (.ref f))(Bt:BT mg)
  {f3:Addr} {e3:FuncData} (o3:YO Pr w K mg base "is_number" 1 ["thing"] ZL f3 e3) :
  YO Pr w K mg base "has_number_for_each_yard" 2 ["ground","things"] Zv f fd:=by
 have nd:=t17.nd
 refine⟨Zz (k:=1) (F:=YS ZL) Fu t17 rfl rfl rfl fun cdv A outer s H E hr=>?_,hm,Fu.kp,Fu.binds (ps:=["ground","things"]) fun _ _ _ _ _ _=>Zi3 (fun _ _=>by exact rfl)⟩
 exact(Zi (ZG (U5 (Vk (Wt hr.units) (Zs Y6 Bt.len_ YR (Zc (Zb 1) Zd)) (ZT (Zb 0) Zl)) (U4 (Zs (Zbz rfl) Bt.all_ Zb1 (Zc (Yp ["thing"] 1 [] (Xh (by decide)) rfl (Yi (Zb 1)) (fun _ _ _ _ _=>(Zw (i:=0) n17_1)) (fun _ _ _ _ _=>YH) (fun _ _ _ _ _=>(ZF o3 hr (Zc (Zb 0) Zd)))) Zd))))))
abbrev s18:Stmt:=VB 10
theorem t18:Zy ["ground","thing"] ["ground","thing"] (Zk s18):=⟨rfl,rfl,rfl,by decide +kernel,rfl,by decide +kernel,by decide +kernel⟩
theorem d18(Fu:WN K "is_load" "is_load" s18 f fd)(hm:mg "is_load"=some (.ref f))(Bt:BT mg)
  {f9:Addr} {e9:FuncData} (o9:YO Pr w K mg base "checked" 5 ["ground"] YN f9 e9)
  {f17:Addr} {e17:FuncData} (o17:YO Pr w K mg base "has_number_for_each_yard" 2 ["ground","things"] Zv f17 e17) :
  YO Pr w K mg base "is_load" 6 ["ground","thing"] YM f fd:=by
 have nd:=t18.nd
 refine⟨Zz (k:=5) (F:=Zb6 YN Zv) Fu t18 rfl rfl rfl fun cdv A outer s H E hr=>?_,hm,Fu.kp,Fu.binds (ps:=["ground","thing"]) fun _ _ _ _ _ _=>Zi3 (fun _ _=>by exact rfl)⟩
 exact(Ze (WD (ZF o9 hr (Zc (Zb 0) Zd)))
  (Zi (ZG (U5 (XT WS (Zb 1) Bt.isinstance Bt.tuple_ WT) (U4 (ZF o17 hr (Zc (Zb 0) (Zc (Zb 1) Zd))))))))
abbrev s19:Stmt:=VB 11
theorem t19:Zy ["ground","load"] ["ground","load"] (Zk s19):=⟨rfl,rfl,rfl,by decide +kernel,rfl,by decide +kernel,by decide +kernel⟩
theorem d19(Fu:WN K "checked_load" "checked_load" s19 f fd)(hm:mg "checked_load"=some (.ref f))(Bt:BT mg)
  {f18:Addr} {e18:FuncData} (o18:YO Pr w K mg base "is_load" 6 ["ground","thing"] YM f18 e18) :
  YO Pr w K mg base "checked_load" 7 ["ground","load"] YF f fd:=by
 have nd:=t19.nd
 refine⟨Zz (k:=6) (F:=WZ YM) Fu t19 rfl rfl rfl fun cdv A outer s H E hr=>?_,hm,Fu.kp,Fu.binds (ps:=["ground","load"]) fun _ _ _ _ _ _=>Zi3 (fun _ _=>by exact rfl)⟩
 exact(Ze (Xe (XD (Y9 (ZF o18 hr (Zc (Zb 0) (Zc (Zb 1) Zd))))) Zaj Yd)
  (Zi (ZG (Zb 1))))
abbrev Zhe:Stmt:=VB 22
theorem t20:Zy ["ground","load","bank","table","burnt"] ["ground","load","bank"] (Zk Zhe):=⟨rfl,rfl,rfl,by decide +kernel,rfl,by decide +kernel,by decide +kernel⟩
theorem n20_1:(["yard","load"]:List Str).Nodup:=by decide+kernel
theorem d20(Fu:WN K "burning" "burning" Zhe f fd)(hm:mg "burning"=some (.ref f))(Bt:BT mg)
  {f19:Addr} {e19:FuncData} (o19:YO Pr w K mg base "checked_load" 7 ["ground","load"] YF f19 e19)
  {f10:Addr} {e10:FuncData} (o10:YO Pr w K mg base "checked_yard" 6 ["ground","yard"] Zm f10 e10)
  {f11:Addr} {e11:FuncData} (o11:YO Pr w K mg base "line_table" 1 ["ground"] Zq f11 e11)
  {f12:Addr} {e12:FuncData} (o12:YO Pr w K mg base "yards_without" 1 ["table","bank"] Zx f12 e12)
  {f14:Addr} {e14:FuncData} (o14:YO Pr w K mg base "burnt_yards" 2 ["table","load","bank"] ZU f14 e14) :
  YO Pr w K mg base "burning" 8 ["ground","load","bank"] XW f fd:=by
 have nd:=t20.nd
 refine⟨Zz (k:=7) (F:=Zca YF Zm Zq Zx ZU) Fu t20 rfl rfl rfl fun cdv A outer s H E hr=>?_,hm,Fu.kp,Fu.binds (ps:=["ground","load","bank"]) fun _ _ _ _ _ _=>Zi2 (fun _ _ _=>by exact rfl)⟩
 exact(Ze (WD (ZF o19 hr (Zc (Zb 0) (Zc (Zb 1) Zd))))
  (Ze (WD (ZF o10 hr (Zc (Zb 0) (Zc (Zb 2) Zd))))
  (Ze (ZZ (i:=3) nd (ZF o11 hr (Zc (Zb 0) Zd)))
  (Ze (Xe (Y9 (Zs (Z06 rfl) Bt.any_ Z1a (Zc (Yp ["yard","load"] 1 [1] (Xh (by decide)) rfl (Yi (ZF o12 hr (Zc (Zb 3) (Zc (Zb 2) Zd)))) (fun _ _ _ _ _=>(Zw (i:=0) n20_1)) (fun _ _ _ _ _=>YH) (fun _ _ _ _ _=>(Vk (WF hr.units0) (ZT (Zb 1) (Zb 0)) Zl))) Zd))) (Zi (ZG Zes)) Yd)
  (Ze (ZZ (i:=4) nd (ZF o14 hr (Zc (Zb 3) (Zc (Zb 1) (Zc (Zb 2) Zd)))))
  (Zi (ZG (Zx6 (Yf (Wt hr.units) (Zs Y6 Bt.len_ YR (Zc (Zb 4) Zd)) (Zs Y6 Bt.len_ YR (Zc (Zb 3) Zd))) (Zb 4) Zes))))))))
abbrev Zhd:Stmt:=VB 31
theorem t21:Zy ["ground","thing","bank"] ["ground","thing","bank"] (Zk Zhd):=⟨rfl,rfl,rfl,by decide +kernel,rfl,by decide +kernel,by decide +kernel⟩
theorem d21(Fu:WN K "checked_parking" "checked_parking" Zhd f fd)(hm:mg "checked_parking"=some (.ref f))(Bt:BT mg)
  {f20:Addr} {e20:FuncData} (o20:YO Pr w K mg base "burning" 8 ["ground","load","bank"] XW f20 e20)
  {f18:Addr} {e18:FuncData} (o18:YO Pr w K mg base "is_load" 6 ["ground","thing"] YM f18 e18) :
  YO Pr w K mg base "checked_parking" 9 ["ground","thing","bank"] Z0 f fd:=by
 have nd:=t21.nd
 refine⟨Zz (k:=8) (F:=X6 XW YM) Fu t21 rfl rfl rfl fun cdv A outer s H E hr=>?_,hm,Fu.kp,Fu.binds (ps:=["ground","thing","bank"]) fun _ _ _ _ _ _=>Zi2 (fun _ _ _=>by exact rfl)⟩
 exact(Ze (Xe (WV.tv (Zad (XD (Y9 (ZF o18 hr (Zc (Zb 0) (Zc (Zb 1) Zd))))) (Zad (Yf (Vi hr.units) (ZT (Zb 1) (Zb 2)) Zl) (V2 (Yf Zzu (ZF o20 hr (Zc (Zb 0) (Zc (Zb 1) (Zc (Zb 2) Zd)))) Zes))))) Zaj Yd)
  (Zi (ZG (Zb 1))))
abbrev s22:Stmt:=VB 36
theorem t22:Zy ["table","reached"] ["table","reached"] (Zk s22):=⟨rfl,rfl,rfl,by decide +kernel,rfl,by decide +kernel,by decide +kernel⟩
theorem n22_1:(["yard","reached"]:List Str).Nodup:=by decide+kernel
theorem d22(Fu:WN K "yards_beside" "yards_beside" s22 f fd)(hm:mg "yards_beside"=some (.ref f))(Bt:BT mg) :
  YO Pr w K mg base "yards_beside" 1 ["table","reached"] ZN f fd:=by
 have nd:=t22.nd
 refine⟨Zz (k:=0) (F:=WU) Fu t22 rfl rfl rfl fun cdv A outer s H E hr=>?_,hm,Fu.kp,Fu.binds (ps:=["table","reached"]) fun _ _ _ _ _ _=>Zi3 (fun _ _=>by exact rfl)⟩
 exact(Zi (ZG (Yp ["yard","reached"] 1 [1] (Xh (by decide)) rfl (Zla.iv (Yo Bt.range_ (Zc (Zs Y6 Bt.len_ YR (Zc (Zb 0) Zd)) Zd))) (fun _ _ _ _ _=>(Zw (i:=0) n22_1)) (fun _ _ _ _ _=>(Wf (Yf UV (Zb 0) (Zb 1)))) (fun _ _ _ _ _=>(Zb 0)))))
abbrev s23:Stmt:=VB 37
theorem t23:Zy ["table","yard","others","lines","other"] ["table","yard","others"] (Zk s23):=⟨rfl,rfl,rfl,by decide +kernel,rfl,by decide +kernel,by decide +kernel⟩
theorem Zxs:(["k","yard","other"]:List Str).Nodup:=by decide+kernel
theorem d23(Fu:WN K "lines_toward" "lines_toward" s23 f fd)(hm:mg "lines_toward"=some (.ref f))(Bt:BT mg) :
  YO Pr w K mg base "lines_toward" 1 ["table","yard","others"] ZQ f fd:=by
 have nd:=t23.nd
 refine⟨Zz (k:=0) (F:=Uu) Fu t23 rfl rfl rfl fun cdv A outer s H E hr=>?_,hm,Fu.kp,Fu.binds (ps:=["table","yard","others"]) fun _ _ _ _ _ _=>Zi2 (fun _ _ _=>by exact rfl)⟩
 exact(Ze (XE (i:=3) nd (Xp Zd))
  (Ze (XF QG rfl (Yi (Zs (UI rfl hr.units) Bt.sorted_ WM (Zc (Zb 2) Zd))) (Zw (i:=4) nd) (Zi (Zg8 (i:=3) (Yp ["k","yard","other"] 1 [1,4] (Xh (by decide)) rfl (Zla.iv (Yo Bt.range_ (Zc (ZT (ZT (Zb 0) (Zb 1)) (Zb 4)) Zd))) (fun _ _ _ _ _=>(Zw (i:=0) Zxs)) (fun _ _ _ _ _=>YH) (fun _ _ _ _ _=>(Xy (Zc (Zs (Zij rfl) Bt.min_ Zio (Zc (Zb 1) (Zc (Zb 2) Zd))) (Zc (Zs (Zik rfl) Bt.max_ Zip (Zc (Zb 1) (Zc (Zb 2) Zd))) (Zc (Zb 0) Zd)))))) (h1:=Zib (i:=3) (Yp ["k","yard","other"] 1 [1,4] (Xh (by decide)) rfl (Zla.iv (Yo Bt.range_ (Zc (ZT (ZT (Zb 0) (Zb 1)) (Zb 4)) Zd))) (fun _ _ _ _ _=>(Zw (i:=0) Zxs)) (fun _ _ _ _ _=>YH) (fun _ _ _ _ _=>(Xy (Zc (Zs (Zij rfl) Bt.min_ Zio (Zc (Zb 1) (Zc (Zb 2) Zd))) (Zc (Zs (Zik rfl) Bt.max_ Zip (Zc (Zb 1) (Zc (Zb 2) Zd))) (Zc (Zb 0) Zd))))))))))
  (Zi (ZG (Zb 3)))))
abbrev s24:Stmt:=VB 28
theorem t24:Zy ["ground","parking","bank","table","tree","below","layer","reached","farther","yard","place"] ["ground","parking","bank"] (Zk s24):=⟨rfl,rfl,rfl,by decide +kernel,rfl,by decide +kernel,by decide +kernel⟩
theorem n24_1:(["yard","parking","table","reached"]:List Str).Nodup:=by decide+kernel
theorem d24(Fu:WN K "tree_of" "tree_of" s24 f fd)(hm:mg "tree_of"=some (.ref f))(Bt:BT mg)
  {f10:Addr} {e10:FuncData} (o10:YO Pr w K mg base "checked_yard" 6 ["ground","yard"] Zm f10 e10)
  {f21:Addr} {e21:FuncData} (o21:YO Pr w K mg base "checked_parking" 9 ["ground","thing","bank"] Z0 f21 e21)
  {f11:Addr} {e11:FuncData} (o11:YO Pr w K mg base "line_table" 1 ["ground"] Zq f11 e11)
  {f22:Addr} {e22:FuncData} (o22:YO Pr w K mg base "yards_beside" 1 ["table","reached"] ZN f22 e22)
  {f13:Addr} {e13:FuncData} (o13:YO Pr w K mg base "lines_to" 1 ["table","yard","others"] ZC f13 e13)
  {f23:Addr} {e23:FuncData} (o23:YO Pr w K mg base "lines_toward" 1 ["table","yard","others"] ZQ f23 e23) :
  YO Pr w K mg base "tree_of" 10 ["ground","parking","bank"] Xx f fd:=by
 have nd:=t24.nd
 refine⟨Zz (k:=9) (F:=Zg0 Zm Z0 Zq ZN ZC ZQ) Fu t24 rfl rfl rfl fun cdv A outer s H E hr=>?_,hm,Fu.kp,Fu.binds (ps:=["ground","parking","bank"]) fun _ _ _ _ _ _=>Zi2 (fun _ _ _=>by exact rfl)⟩
 exact(Ze (WD (ZF o10 hr (Zc (Zb 0) (Zc (Zb 2) Zd))))
  (Ze (WD (ZF o21 hr (Zc (Zb 0) (Zc (Zb 1) (Zc (Zb 2) Zd)))))
  (Ze (ZZ (i:=3) nd (ZF o11 hr (Zc (Zb 0) Zd)))
  (Ze (XE (i:=4) nd (Xp Zd))
  (Ze (ZZ (i:=5) nd (Wu Zd))
  (Ze (ZZ (i:=6) nd (Wu (Zc (Zb 2) Zd)))
  (Ze (Zm8 QG (Y9 (Zb 6)) (Ze (ZZ (i:=7) nd (ZO Z3 (Zb 5) (Zb 6)))
  (Ze (Zak (i:=8) ["yard","parking","table","reached"] 1 [1,3,7] (Xh (by decide)) nd rfl (Yi (ZF o22 hr (Zc (Zb 3) (Zc (Zb 7) Zd)))) (fun _ _ _ _ _=>(Zw (i:=0) n24_1)) (fun _ _ _ _ _=>(Wf (Yf (WF hr.units0) (ZT (Zb 1) (Zb 0)) (ZF o13 hr (Zc (Zb 2) (Zc (Zb 0) (Zc (Zb 3) Zd))))))) (fun _ _ _ _ _=>(Zb 0)))
  (Ze (XF QG rfl (Yi (Zb 8)) (Zw (i:=9) nd) (Ze (ZZ (i:=10) nd (ZO Xj (ZT (Zb 1) (Zb 9)) (ZF o13 hr (Zc (Zb 3) (Zc (Zb 9) (Zc (Zb 5) Zd))))))
  (Zi (Zbh (i:=4) (ZT (ZF o23 hr (Zc (Zb 3) (Zc (Zb 9) (Zc (Zb 6) Zd)))) (Zb 10)) (h1:=Uq (i:=4) (ZT (ZF o23 hr (Zc (Zb 3) (Zc (Zb 9) (Zc (Zb 6) Zd)))) (Zb 10)))))))
  (Ze (ZZ (i:=5) nd (Zb 7))
  (Zi (ZZ (i:=6) nd (Zb 8))))))))
  (Zi (ZG (Zs (UI rfl hr.units) Bt.sorted_ WM (Zc (Zb 4) Zd)))))))))))
abbrev s25:Stmt:=VB 46
theorem t25:Zy ["_law_ground_here","_law_one","_law_other","_law_join"] ["_law_ground_here","_law_one","_law_other"] (Zk s25):=⟨rfl,rfl,rfl,by decide +kernel,rfl,by decide +kernel,by decide +kernel⟩
theorem d25(Fu:WN K "_law_lines" "_law_lines" s25 f fd)(hm:mg "_law_lines"=some (.ref f))(Bt:BT mg) :
  YO Pr w K mg base "_law_lines" 1 ["_law_ground_here","_law_one","_law_other"] Y4 f fd:=by
 have nd:=t25.nd
 refine⟨Zz (k:=0) (F:=VX) Fu t25 rfl rfl rfl fun cdv A outer s H E hr=>?_,hm,Fu.kp,Fu.binds (ps:=["_law_ground_here","_law_one","_law_other"]) fun _ _ _ _ _ _=>Zi2 (fun _ _ _=>by exact rfl)⟩
 exact(Ze (XF QG rfl (Yi (ZT (Zb 0) Zl)) (Zw (i:=3) nd) (Zi (Xe (Yf (Wt hr.units) (Wq (Zb 3) W8 (W7 Zl)) (Xy (Zc (Zs (Zij rfl) Bt.min_ Zio (Zc (Zb 1) (Zc (Zb 2) Zd))) (Zc (Zs (Zik rfl) Bt.max_ Zip (Zc (Zb 1) (Zc (Zb 2) Zd))) Zd)))) (Zi (ZG (ZT (Zb 3) Zl))) Yd)))
  (Zi (ZG Zl)))
abbrev s26:Stmt:=VB 47
theorem t26:Zy ["_law_ground_here","_law_yard","_law_some"] ["_law_ground_here","_law_yard","_law_some"] (Zk s26):=⟨rfl,rfl,rfl,by decide +kernel,rfl,by decide +kernel,by decide +kernel⟩
theorem n26_1:(["_law_other","_law_ground_here","_law_yard"]:List Str).Nodup:=by decide+kernel
theorem d26(Fu:WN K "_law_to" "_law_to" s26 f fd)(hm:mg "_law_to"=some (.ref f))(Bt:BT mg)
  {f25:Addr} {e25:FuncData} (o25:YO Pr w K mg base "_law_lines" 1 ["_law_ground_here","_law_one","_law_other"] Y4 f25 e25) :
  YO Pr w K mg base "_law_to" 2 ["_law_ground_here","_law_yard","_law_some"] Yx f fd:=by
 have nd:=t26.nd
 refine⟨Zz (k:=1) (F:=Zcb Y4) Fu t26 rfl rfl rfl fun cdv A outer s H E hr=>?_,hm,Fu.kp,Fu.binds (ps:=["_law_ground_here","_law_yard","_law_some"]) fun _ _ _ _ _ _=>Zi2 (fun _ _ _=>by exact rfl)⟩
 exact(Zi (ZG (Zs (Zmp rfl) Bt.sum_ Zmr (Zc (Yp ["_law_other","_law_ground_here","_law_yard"] 1 [0,1] (Xh (by decide)) rfl (Yi (Zb 2)) (fun _ _ _ _ _=>(Zw (i:=0) n26_1)) (fun _ _ _ _ _=>YH) (fun _ _ _ _ _=>(ZF o25 hr (Zc (Zb 1) (Zc (Zb 2) (Zc (Zb 0) Zd)))))) Zd))))
abbrev s27:Stmt:=VB 48
theorem t27:Zy ["_law_ground_here","_law_parking","_law_bank","_law_layers_here","_law_inside","_law_turn","_law_rest","_law_row"] ["_law_ground_here","_law_parking","_law_bank"] (Zk s27):=⟨rfl,rfl,rfl,by decide +kernel,rfl,by decide +kernel,by decide +kernel⟩
theorem n27_1:(["_law_yard","_law_inside"]:List Str).Nodup:=by decide+kernel
theorem n27_2:(["_law_yard","_law_parking","_law_ground_here","_law_inside"]:List Str).Nodup:=by decide+kernel
theorem d27(Fu:WN K "_law_layers" "_law_layers" s27 f fd)(hm:mg "_law_layers"=some (.ref f))(Bt:BT mg)
  {f26:Addr} {e26:FuncData} (o26:YO Pr w K mg base "_law_to" 2 ["_law_ground_here","_law_yard","_law_some"] Yx f26 e26) :
  YO Pr w K mg base "_law_layers" 3 ["_law_ground_here","_law_parking","_law_bank"] Z7 f fd:=by
 have nd:=t27.nd
 refine⟨Zz (k:=2) (F:=V1 Yx) Fu t27 rfl rfl rfl fun cdv A outer s H E hr=>?_,hm,Fu.kp,Fu.binds (ps:=["_law_ground_here","_law_parking","_law_bank"]) fun _ _ _ _ _ _=>Zi2 (fun _ _ _=>by exact rfl)⟩
 exact(Ze (XE (i:=3) nd (Xp (Zc (Wu (Zc (Zb 2) Zd)) Zd)))
  (Ze (ZZ (i:=4) nd (Wu (Zc (Zb 2) Zd)))
  (Ze (W5 QG rfl (Yo Bt.range_ (Zc (ZT (Zb 0) Zl) Zd)) (Zw (i:=5) nd) (Ze (Zak (i:=6) ["_law_yard","_law_inside"] 1 [4] (Xh (by decide)) nd rfl (Zla.iv (Yo Bt.range_ (Zc (ZT (Zb 0) Zl) Zd))) (fun _ _ _ _ _=>(Zw (i:=0) n27_1)) (fun _ _ _ _ _=>(Wf (Yf UV (Zb 0) (Zb 1)))) (fun _ _ _ _ _=>(Zb 0)))
  (Ze (Zak (i:=7) ["_law_yard","_law_parking","_law_ground_here","_law_inside"] 1 [1,0,4] (Xh (by decide)) nd rfl (Yi (Zb 6)) (fun _ _ _ _ _=>(Zw (i:=0) n27_2)) (fun _ _ _ _ _=>(Wf (Yf (WF hr.units0) (ZT (Zb 1) (Zb 0)) (ZF o26 hr (Zc (Zb 2) (Zc (Zb 0) (Zc (Zb 3) Zd))))))) (fun _ _ _ _ _=>(Zb 0)))
  (Zi (Xe (Yf (Vi hr.units) (Zb 7) (Wu Zd)) (Ze (Zm9 (i:=3) (Zb 7) (h1:=Uq (i:=3) (Zb 7)))
  (Zi (ZZ (i:=4) nd (ZO Z3 (Zb 4) (Zb 7))))) Yd)))))
  (Zi (ZG (Zb 3))))))
abbrev s28:Stmt:=VB 43
theorem t28:Zy ["_law_ground_here","_law_made","_law_a","_law_b","_law_number"] ["_law_ground_here"] (Zk s28):=⟨rfl,rfl,rfl,by decide +kernel,rfl,by decide +kernel,by decide +kernel⟩
theorem Zxr:(["_law_k","_law_a","_law_b"]:List Str).Nodup:=by decide+kernel
theorem d28(Fu:WN K "_law_all_lines" "_law_all_lines" s28 f fd)(hm:mg "_law_all_lines"=some (.ref f))(Bt:BT mg) :
  YO Pr w K mg base "_law_all_lines" 1 ["_law_ground_here"] Zu f fd:=by
 have nd:=t28.nd
 refine⟨Zz (k:=0) (F:=Vz) Fu t28 rfl rfl rfl fun cdv A outer s H E hr=>?_,hm,Fu.kp,Fu.binds (ps:=["_law_ground_here"]) fun _ _ _ _ _ _=>Zur (fun _=>by exact rfl)⟩
 exact(Ze (XE (i:=1) nd (Xp Zd))
  (Ze (XF QG rfl (Yi (ZT (Zb 0) Zl)) (Uj (ix:=[2,3,4]) rfl (Yg (Yh 2 nd) (Yg (Yh 3 nd) (Yg (Yh 4 nd) W6)))) (Zi (Zg8 (i:=1) (Yp ["_law_k","_law_a","_law_b"] 1 [2,3] (Xh (by decide)) rfl (Zla.iv (Yo Bt.range_ (Zc (Zb 4) Zd))) (fun _ _ _ _ _=>(Zw (i:=0) Zxr)) (fun _ _ _ _ _=>YH) (fun _ _ _ _ _=>(Xy (Zc (Zb 1) (Zc (Zb 2) (Zc (Zb 0) Zd)))))) (h1:=Zib (i:=1) (Yp ["_law_k","_law_a","_law_b"] 1 [2,3] (Xh (by decide)) rfl (Zla.iv (Yo Bt.range_ (Zc (Zb 4) Zd))) (fun _ _ _ _ _=>(Zw (i:=0) Zxr)) (fun _ _ _ _ _=>YH) (fun _ _ _ _ _=>(Xy (Zc (Zb 1) (Zc (Zb 2) (Zc (Zb 0) Zd))))))))))
  (Zi (ZG (Zb 1)))))
abbrev s29:Stmt:=VB 49
theorem t29:Zy ["_law_ground_here","_law_parking","_law_bank","_law_made","_law_layers_here","_law_k","_law_lower","_law_row","_law_yard","_law_lines_here","_law_line"] ["_law_ground_here","_law_parking","_law_bank"] (Zk s29):=⟨rfl,rfl,rfl,by decide +kernel,rfl,by decide +kernel,by decide +kernel⟩
theorem d29(Fu:WN K "_law_tree_of" "_law_tree_of" s29 f fd)(hm:mg "_law_tree_of"=some (.ref f))(Bt:BT mg)
  {f27:Addr} {e27:FuncData} (o27:YO Pr w K mg base "_law_layers" 3 ["_law_ground_here","_law_parking","_law_bank"] Z7 f27 e27)
  {f28:Addr} {e28:FuncData} (o28:YO Pr w K mg base "_law_all_lines" 1 ["_law_ground_here"] Zu f28 e28)
  {f26:Addr} {e26:FuncData} (o26:YO Pr w K mg base "_law_to" 2 ["_law_ground_here","_law_yard","_law_some"] Yx f26 e26) :
  YO Pr w K mg base "_law_tree_of" 4 ["_law_ground_here","_law_parking","_law_bank"] Ya f fd:=by
 have nd:=t29.nd
 refine⟨Zz (k:=3) (F:=Vy Z7 Zu Yx) Fu t29 rfl rfl rfl fun cdv A outer s H E hr=>?_,hm,Fu.kp,Fu.binds (ps:=["_law_ground_here","_law_parking","_law_bank"]) fun _ _ _ _ _ _=>Zi2 (fun _ _ _=>by exact rfl)⟩
 exact(Ze (XE (i:=3) nd (Xp Zd))
  (Ze (ZZ (i:=4) nd (ZF o27 hr (Zc (Zb 0) (Zc (Zb 1) (Zc (Zb 2) Zd)))))
  (Ze (W5 QG rfl (Zgc Bt.range_ (Zc Zl (Zc (Zs Y6 Bt.len_ YR (Zc (Zb 4) Zd)) Zd))) (Zw (i:=5) nd) (Ze (XE (i:=6) nd (Xp Zd))
  (Ze (XF QG rfl (Yi (Wq (Zb 4) W8 (W7 (ZO Xj (Zb 5) Zl)))) (Zw (i:=7) nd) (Zi (Zg8 (i:=6) (Zb 7) (h1:=Zib (i:=6) (Zb 7)))))
  (Zi (XF QG rfl (Yi (ZT (Zb 4) (Zb 5))) (Zw (i:=8) nd) (Ze (XE (i:=9) nd (Xp Zd))
  (Ze (XF QG rfl (Yi (ZF o28 hr (Zc (Zb 0) Zd))) (Zw (i:=10) nd) (Zi (Xe (WV.tv (Zlc (Yf (Zhm hr.units) (Zb 8) (Wq (Zb 10) W8 (W7 Zl))) (Zg2 (Yf (Zhm hr.units) (ZO Xj (ZO Z3 (ZT (Zb 10) Zl) (ZT (Zb 10) Zl)) (Zb 8)) (ZT (Zb 4) (ZO Xj (Zb 5) Zl)))))) (Zi (Zbh (i:=9) (Zb 10) (h1:=Uq (i:=9) (Zb 10)))) Yd)))
  (Zi (Zbh (i:=3) (ZT (Zb 9) (ZO Xj (ZT (Zb 1) (Zb 8)) (ZF o26 hr (Zc (Zb 0) (Zc (Zb 8) (Zc (Zb 6) Zd)))))) (h1:=Uq (i:=3) (ZT (Zb 9) (ZO Xj (ZT (Zb 1) (Zb 8)) (ZF o26 hr (Zc (Zb 0) (Zc (Zb 8) (Zc (Zb 6) Zd))))))))))))))))
  (Zi (ZG (Zs (UI rfl hr.units) Bt.sorted_ WM (Zc (Zb 3) Zd)))))))
abbrev Zqd:Stmt:=VB 35
theorem t30:Zy ["ground","lines","a","b","number"] ["ground"] (Zk Zqd):=⟨rfl,rfl,rfl,by decide +kernel,rfl,by decide +kernel,by decide +kernel⟩
theorem Zxq:(["k","a","b"]:List Str).Nodup:=by decide+kernel
theorem d30(Fu:WN K "ground_lines" "ground_lines" Zqd f fd)(hm:mg "ground_lines"=some (.ref f))(Bt:BT mg) :
  YO Pr w K mg base "ground_lines" 1 ["ground"] YE f fd:=by
 have nd:=t30.nd
 refine⟨Zz (k:=0) (F:=WW) Fu t30 rfl rfl rfl fun cdv A outer s H E hr=>?_,hm,Fu.kp,Fu.binds (ps:=["ground"]) fun _ _ _ _ _ _=>Zur (fun _=>by exact rfl)⟩
 exact(Ze (XE (i:=1) nd (Xp Zd))
  (Ze (XF QG rfl (Yi (ZT (Zb 0) Zl)) (Uj (ix:=[2,3,4]) rfl (Yg (Yh 2 nd) (Yg (Yh 3 nd) (Yg (Yh 4 nd) W6)))) (Zi (Zg8 (i:=1) (Yp ["k","a","b"] 1 [2,3] (Xh (by decide)) rfl (Zla.iv (Yo Bt.range_ (Zc (Zb 4) Zd))) (fun _ _ _ _ _=>(Zw (i:=0) Zxq)) (fun _ _ _ _ _=>YH) (fun _ _ _ _ _=>(Xy (Zc (Zb 1) (Zc (Zb 2) (Zc (Zb 0) Zd)))))) (h1:=Zib (i:=1) (Yp ["k","a","b"] 1 [2,3] (Xh (by decide)) rfl (Zla.iv (Yo Bt.range_ (Zc (Zb 4) Zd))) (fun _ _ _ _ _=>(Zw (i:=0) Zxq)) (fun _ _ _ _ _=>YH) (fun _ _ _ _ _=>(Xy (Zc (Zb 1) (Zc (Zb 2) (Zc (Zb 0) Zd))))))))))
  (Zi (ZG (Zb 1)))))
abbrev Zqc:Stmt:=VB 34
theorem t31:Zy ["lines","thing"] ["lines","thing"] (Zk Zqc):=⟨rfl,rfl,rfl,by decide +kernel,rfl,by decide +kernel,by decide +kernel⟩
theorem n31_1:(["part"]:List Str).Nodup:=by decide+kernel
theorem d31(Fu:WN K "is_line" "is_line" Zqc f fd)(hm:mg "is_line"=some (.ref f))(Bt:BT mg)
  {f3:Addr} {e3:FuncData} (o3:YO Pr w K mg base "is_number" 1 ["thing"] ZL f3 e3) :
  YO Pr w K mg base "is_line" 2 ["lines","thing"] Xm f fd:=by
 have nd:=t31.nd
 refine⟨Zz (k:=1) (F:=Zb7 ZL) Fu t31 rfl rfl rfl fun cdv A outer s H E hr=>?_,hm,Fu.kp,Fu.binds (ps:=["lines","thing"]) fun _ _ _ _ _ _=>Zi3 (fun _ _=>by exact rfl)⟩
 exact(Ze (Xe (WV.tv (Zad (XD (Y9 (XT WS (Zb 1) Bt.isinstance Bt.tuple_ WT))) (V2 (XD (Y9 (Zs (Zbz rfl) Bt.all_ Zb1 (Zc (Yp ["part"] 1 [] (Xh (by decide)) rfl (Yi (Zb 1)) (fun _ _ _ _ _=>(Zw (i:=0) n31_1)) (fun _ _ _ _ _=>YH) (fun _ _ _ _ _=>(ZF o3 hr (Zc (Zb 0) Zd)))) Zd))))))) (Zi (ZG Vg)) Yd)
  (Zi (ZG (Vk (Znn hr.units) (Zb 1) (Zb 0)))))
abbrev Zqb:Stmt:=VB 33
theorem t32:Zy ["ground","thing","lines"] ["ground","thing"] (Zk Zqb):=⟨rfl,rfl,rfl,by decide +kernel,rfl,by decide +kernel,by decide +kernel⟩
theorem n32_1:(["line","lines"]:List Str).Nodup:=by decide+kernel
theorem Zxp:(["one","other"]:List Str).Nodup:=by decide+kernel
theorem d32(Fu:WN K "is_tree" "is_tree" Zqb f fd)(hm:mg "is_tree"=some (.ref f))(Bt:BT mg)
  {f30:Addr} {e30:FuncData} (o30:YO Pr w K mg base "ground_lines" 1 ["ground"] YE f30 e30)
  {f31:Addr} {e31:FuncData} (o31:YO Pr w K mg base "is_line" 2 ["lines","thing"] Xm f31 e31)
  {f6:Addr} {e6:FuncData} (o6:YO Pr w K mg base "is_joined" 1 ["many","bundles"] Z6 f6 e6) :
  YO Pr w K mg base "is_tree" 3 ["ground","thing"] XU f fd:=by
 have nd:=t32.nd
 refine⟨Zz (k:=2) (F:=Zb5 YE Xm Z6) Fu t32 rfl rfl rfl fun cdv A outer s H E hr=>?_,hm,Fu.kp,Fu.binds (ps:=["ground","thing"]) fun _ _ _ _ _ _=>Zi3 (fun _ _=>by exact rfl)⟩
 exact(Ze (Xe (WV.tv (Zad (XD (Y9 (XT Zpf (Zb 1) Bt.isinstance Bt.list_ Zc6))) (V2 (Yf (Vi hr.units) (Zs Y6 Bt.len_ YR (Zc (Zb 1) Zd)) (ZO Xj (ZT (Zb 0) Zl) Zl))))) (Zi (ZG Vg)) Yd)
  (Ze (ZZ (i:=2) nd (ZF o30 hr (Zc (Zb 0) Zd)))
  (Ze (Xe (XD (Y9 (Zs (Zbz rfl) Bt.all_ Zb1 (Zc (Yp ["line","lines"] 1 [2] (Xh (by decide)) rfl (Yi (Zb 1)) (fun _ _ _ _ _=>(Zw (i:=0) n32_1)) (fun _ _ _ _ _=>YH) (fun _ _ _ _ _=>(ZF o31 hr (Zc (Zb 1) (Zc (Zb 0) Zd))))) Zd)))) (Zi (ZG Vg)) Yd)
  (Zi (ZG (U5 (Zs (Zbz rfl) Bt.all_ Zb1 (Zc (Yp ["one","other"] 2 [] (Ztf rfl) rfl (Zs2 Bt.zip_ (Zb 1) (Wq (Zb 1) (W7 Zl) W8)) (fun _ _ _ _ _=>(Uj (ix:=[0,1]) rfl (Yg (Yh 0 Zxp) (Yg (Yh 1 Zxp) W6)))) (fun _ _ _ _ _=>YH) (fun _ _ _ _ _=>(Vk (WF hr.units0) (Zb 0) (Zb 1)))) Zd)) (U4 (ZF o6 hr (Zc (ZT (Zb 0) Zl) (Zc (Zb 1) Zd))))))))))
abbrev s33:Stmt:=VB 32
theorem t33:Zy ["ground","thing"] ["ground","thing"] (Zk s33):=⟨rfl,rfl,rfl,by decide +kernel,rfl,by decide +kernel,by decide +kernel⟩
theorem d33(Fu:WN K "checked_tree" "checked_tree" s33 f fd)(hm:mg "checked_tree"=some (.ref f))(Bt:BT mg)
  {f32:Addr} {e32:FuncData} (o32:YO Pr w K mg base "is_tree" 3 ["ground","thing"] XU f32 e32) :
  YO Pr w K mg base "checked_tree" 4 ["ground","thing"] Yj f fd:=by
 have nd:=t33.nd
 refine⟨Zz (k:=3) (F:=WY XU) Fu t33 rfl rfl rfl fun cdv A outer s H E hr=>?_,hm,Fu.kp,Fu.binds (ps:=["ground","thing"]) fun _ _ _ _ _ _=>Zi3 (fun _ _=>by exact rfl)⟩
 exact(Ze (Xe (XD (Y9 (ZF o32 hr (Zc (Zb 0) (Zc (Zb 1) Zd))))) Zaj Yd)
  (Zi (ZG (Zb 1))))
abbrev s34:Stmt:=VB 38
theorem t34:Zy ["table","yard","layer","tree"] ["table","yard","layer","tree"] (Zk s34):=⟨rfl,rfl,rfl,by decide +kernel,rfl,by decide +kernel,by decide +kernel⟩
theorem Zxo:(["place","line","tree"]:List Str).Nodup:=by decide+kernel
theorem d34(Fu:WN K "tree_places" "tree_places" s34 f fd)(hm:mg "tree_places"=some (.ref f))(Bt:BT mg)
  {f23:Addr} {e23:FuncData} (o23:YO Pr w K mg base "lines_toward" 1 ["table","yard","others"] ZQ f23 e23) :
  YO Pr w K mg base "tree_places" 2 ["table","yard","layer","tree"] ZX f fd:=by
 have nd:=t34.nd
 refine⟨Zz (k:=1) (F:=WA ZQ) Fu t34 rfl rfl rfl fun cdv A outer s H E hr=>?_,hm,Fu.kp,Fu.binds (ps:=["table","yard","layer","tree"]) fun _ _ _ _ _ _=>us4 (fun _ _ _ _=>by exact rfl)⟩
 exact(Zi (ZG (Yp ["place","line","tree"] 2 [3] (Ztf rfl) rfl (Zwp Bt.enumerate_ (ZF o23 hr (Zc (Zb 0) (Zc (Zb 1) (Zc (Zb 2) Zd))))) (fun _ _ _ _ _=>(Uj (ix:=[0,1]) rfl (Yg (Yh 0 Zxo) (Yg (Yh 1 Zxo) W6)))) (fun _ _ _ _ _=>(Wf (Yf (Znn hr.units) (Zb 1) (Zb 2)))) (fun _ _ _ _ _=>(Zb 0)))))
abbrev s35:Stmt:=VB 29
theorem t35:Zy ["ground","tree","bank","table","chips","below","layer","reached","farther","yard"] ["ground","tree","bank"] (Zk s35):=⟨rfl,rfl,rfl,by decide +kernel,rfl,by decide +kernel,by decide +kernel⟩
theorem n35_1:(["yard","table","layer","tree"]:List Str).Nodup:=by decide+kernel
theorem d35(Fu:WN K "parking_of" "parking_of" s35 f fd)(hm:mg "parking_of"=some (.ref f))(Bt:BT mg)
  {f10:Addr} {e10:FuncData} (o10:YO Pr w K mg base "checked_yard" 6 ["ground","yard"] Zm f10 e10)
  {f33:Addr} {e33:FuncData} (o33:YO Pr w K mg base "checked_tree" 4 ["ground","thing"] Yj f33 e33)
  {f11:Addr} {e11:FuncData} (o11:YO Pr w K mg base "line_table" 1 ["ground"] Zq f11 e11)
  {f22:Addr} {e22:FuncData} (o22:YO Pr w K mg base "yards_beside" 1 ["table","reached"] ZN f22 e22)
  {f34:Addr} {e34:FuncData} (o34:YO Pr w K mg base "tree_places" 2 ["table","yard","layer","tree"] ZX f34 e34)
  {f13:Addr} {e13:FuncData} (o13:YO Pr w K mg base "lines_to" 1 ["table","yard","others"] ZC f13 e13) :
  YO Pr w K mg base "parking_of" 7 ["ground","tree","bank"] Yt f fd:=by
 have nd:=t35.nd
 refine⟨Zz (k:=6) (F:=Ut Zm Yj Zq ZN ZX ZC) Fu t35 rfl rfl rfl fun cdv A outer s H E hr=>?_,hm,Fu.kp,Fu.binds (ps:=["ground","tree","bank"]) fun _ _ _ _ _ _=>Zi2 (fun _ _ _=>by exact rfl)⟩
 exact(Ze (WD (ZF o10 hr (Zc (Zb 0) (Zc (Zb 2) Zd))))
  (Ze (WD (ZF o33 hr (Zc (Zb 0) (Zc (Zb 1) Zd))))
  (Ze (ZZ (i:=3) nd (ZF o11 hr (Zc (Zb 0) Zd)))
  (Ze (XE (i:=4) nd (Zn4 (Xp (Zc Zl Zd)) (Zs Y6 Bt.len_ YR (Zc (Zb 3) Zd))))
  (Ze (ZZ (i:=5) nd (Wu Zd))
  (Ze (ZZ (i:=6) nd (Wu (Zc (Zb 2) Zd)))
  (Ze (Zm8 QG (Y9 (Zb 6)) (Ze (ZZ (i:=7) nd (ZO Z3 (Zb 5) (Zb 6)))
  (Ze (Zak (i:=8) ["yard","table","layer","tree"] 1 [3,6,1] (Xh (by decide)) nd rfl (Yi (ZF o22 hr (Zc (Zb 3) (Zc (Zb 7) Zd)))) (fun _ _ _ _ _=>(Zw (i:=0) n35_1)) (fun _ _ _ _ _=>(Wf (Y9 (ZF o34 hr (Zc (Zb 1) (Zc (Zb 0) (Zc (Zb 2) (Zc (Zb 3) Zd)))))))) (fun _ _ _ _ _=>(Zb 0)))
  (Ze (XF QG rfl (Yi (Zb 8)) (Zw (i:=9) nd) (Zi (Zq5 (i:=4) (Zb 9) (ZO Z3 (ZF o13 hr (Zc (Zb 3) (Zc (Zb 9) (Zc (Zb 5) Zd)))) (ZT (ZF o34 hr (Zc (Zb 3) (Zc (Zb 9) (Zc (Zb 6) (Zc (Zb 1) Zd))))) Zl)))))
  (Ze (ZZ (i:=5) nd (Zb 7))
  (Zi (ZZ (i:=6) nd (Zb 8))))))))
  (Zi (ZG (Vw Zk0 Bt.tuple_ WT (Zc (Zb 4) Zd)))))))))))
abbrev s36:Stmt:=VB 44
theorem t36:Zy ["_law_ground_here","_law_lines_here","_law_names","_law_a","_law_b","_law_k"] ["_law_ground_here","_law_lines_here"] (Zk s36):=⟨rfl,rfl,rfl,by decide +kernel,rfl,by decide +kernel,by decide +kernel⟩
theorem n36_1:(["_law_yard"]:List Str).Nodup:=by decide+kernel
theorem n36_2:(["_law_name","_law_names","_law_a","_law_b"]:List Str).Nodup:=by decide+kernel
theorem d36(Fu:WN K "_law_is_tree" "_law_is_tree" s36 f fd)(hm:mg "_law_is_tree"=some (.ref f))(Bt:BT mg) :
  YO Pr w K mg base "_law_is_tree" 1 ["_law_ground_here","_law_lines_here"] Yk f fd:=by
 have nd:=t36.nd
 refine⟨Zz (k:=0) (F:=UA) Fu t36 rfl rfl rfl fun cdv A outer s H E hr=>?_,hm,Fu.kp,Fu.binds (ps:=["_law_ground_here","_law_lines_here"]) fun _ _ _ _ _ _=>Zi3 (fun _ _=>by exact rfl)⟩
 exact(Ze (ZZ (i:=2) nd (Yp ["_law_yard"] 1 [] (Xh (by decide)) rfl (Zla.iv (Yo Bt.range_ (Zc (ZT (Zb 0) Zl) Zd))) (fun _ _ _ _ _=>(Zw (i:=0) n36_1)) (fun _ _ _ _ _=>YH) (fun _ _ _ _ _=>(Zb 0))))
  (Ze (XF QG rfl (Yi (Zb 1)) (Uj (ix:=[3,4,5]) rfl (Yg (Yh 3 nd) (Yg (Yh 4 nd) (Yg (Yh 5 nd) W6)))) (Ze (Xe (Yf (Wt hr.units) (ZT (Zb 2) (Zb 3)) (ZT (Zb 2) (Zb 4))) (Zi (ZG Vg)) Yd)
  (Zi (ZZ (i:=2) nd (Yp ["_law_name","_law_names","_law_a","_law_b"] 1 [2,3,4] (Xh (by decide)) rfl (Yi (Zb 2)) (fun _ _ _ _ _=>(Zw (i:=0) n36_2)) (fun _ _ _ _ _=>YH) (fun _ _ _ _ _=>(ZT (Wu (Zc (Zb 0) (Zc (ZT (Zb 1) (Zb 2)) Zd))) (Vw Zt1 Bt.int_ Zms (Zc (Vk (Wt hr.units) (Zb 0) (ZT (Zb 1) (Zb 3))) Zd)))))))))
  (Zi (ZG (Vk (Wt hr.units) (Zgo (Zb 2) rfl hr.units Bt.len_ Bt.set_) Zl)))))
abbrev s37:Stmt:=VB 45
theorem t37:Zy ["_law_ground_here","_law_made","_law_line","_law_longer"] ["_law_ground_here"] (Zk s37):=⟨rfl,rfl,rfl,by decide +kernel,rfl,by decide +kernel,by decide +kernel⟩
theorem n37_1:(["_law_row","_law_line","_law_ground_here"]:List Str).Nodup:=by decide+kernel
theorem n37_2:(["_law_row"]:List Str).Nodup:=by decide+kernel
theorem n37_3:(["_law_part"]:List Str).Nodup:=by decide+kernel
theorem n37_4:(["_law_row","_law_ground_here"]:List Str).Nodup:=by decide+kernel
theorem d37(Fu:WN K "_law_trees" "_law_trees" s37 f fd)(hm:mg "_law_trees"=some (.ref f))(Bt:BT mg)
  {f28:Addr} {e28:FuncData} (o28:YO Pr w K mg base "_law_all_lines" 1 ["_law_ground_here"] Zu f28 e28)
  {f36:Addr} {e36:FuncData} (o36:YO Pr w K mg base "_law_is_tree" 1 ["_law_ground_here","_law_lines_here"] Yk f36 e36) :
  YO Pr w K mg base "_law_trees" 2 ["_law_ground_here"] YJ f fd:=by
 have nd:=t37.nd
 refine⟨Zz (k:=1) (F:=Zbc Zu Yk) Fu t37 rfl rfl rfl fun cdv A outer s H E hr=>?_,hm,Fu.kp,Fu.binds (ps:=["_law_ground_here"]) fun _ _ _ _ _ _=>Zur (fun _=>by exact rfl)⟩
 exact(Ze (ZZ (i:=1) nd (Wu (Zc (Wu Zd) Zd)))
  (Ze (XF QG rfl (Yi (ZF o28 hr (Zc (Zb 0) Zd))) (Zw (i:=2) nd) (Ze (Zak (i:=3) ["_law_row","_law_line","_law_ground_here"] 1 [2,0] (Xh (by decide)) nd rfl (Yi (Zb 1)) (fun _ _ _ _ _=>(Zw (i:=0) n37_1)) (fun _ _ _ _ _=>(Wf (Yf (WF hr.units0) (Zs Y6 Bt.len_ YR (Zc (Zb 0) Zd)) (ZO Xj (ZT (Zb 2) Zl) Zl)))) (fun _ _ _ _ _=>(ZO Z3 (Zb 0) (Wu (Zc (Zb 1) Zd)))))
  (Zi (ZZ (i:=1) nd (ZO Z3 (Zb 1) (Yp ["_law_row"] 1 [] (Xh (by decide)) rfl (Yi (Zb 3)) (fun _ _ _ _ _=>(Zw (i:=0) n37_2)) (fun _ _ _ _ _=>(Wf (Yf (Wt hr.units) (Zgo (Yp ["_law_part"] 1 [] (Xh (by decide)) rfl (Yi (Zb 0)) (fun _ _ _ _ _=>(Zw (i:=0) n37_3)) (fun _ _ _ _ _=>YH) (fun _ _ _ _ _=>(Wq (Zb 0) W8 (W7 Zl)))) rfl hr.units Bt.len_ Bt.set_) (Zs Y6 Bt.len_ YR (Zc (Zb 0) Zd))))) (fun _ _ _ _ _=>(Zb 0))))))))
  (Zi (ZG (Zs (Ze0 rfl hr.units) Bt.sorted_ WM (Zc (Yp ["_law_row","_law_ground_here"] 1 [0] (Xh (by decide)) rfl (Yi (Zb 1)) (fun _ _ _ _ _=>(Zw (i:=0) n37_4)) (fun _ _ _ _ _=>(Wf (WV.tv (Zlc (Yf (Wt hr.units) (Zs Y6 Bt.len_ YR (Zc (Zb 0) Zd)) (ZO Xj (ZT (Zb 1) Zl) Zl)) (Zg2 (Y9 (ZF o36 hr (Zc (Zb 1) (Zc (Zb 0) Zd))))))))) (fun _ _ _ _ _=>(Zb 0))) Zd))))))
abbrev Zu5:Stmt:=VB 50
theorem t38:Zy ["_law_script","_law_ground_here","_law_bank","_law_made","_law_told","_law_kept","_law_parking","_law_found","_law_handed"] ["_law_script"] (Zk Zu5):=⟨rfl,rfl,rfl,by decide +kernel,rfl,by decide +kernel,by decide +kernel⟩
theorem d38(Fu:WN K "law" "law" Zu5 f fd)(hm:mg "law"=some (.ref f))(Bt:BT mg)
  {f2:Addr} {e2:FuncData} (o2:YO Pr w K mg base "_law_ground" 3 ["_law_script","_law_at","_law_most"] YC f2 e2)
  {f1:Addr} {e1:FuncData} (o1:YO Pr w K mg base "_law_mixed" 2 ["_law_script","_law_k","_law_many"] Zo f1 e1)
  {f16:Addr} {e16:FuncData} (o16:Zm0 Pr w K mg base "parkings" 7 ["ground","bank"] Ys f16 e16)
  {f24:Addr} {e24:FuncData} (o24:YO Pr w K mg base "tree_of" 10 ["ground","parking","bank"] Xx f24 e24)
  {f29:Addr} {e29:FuncData} (o29:YO Pr w K mg base "_law_tree_of" 4 ["_law_ground_here","_law_parking","_law_bank"] Ya f29 e29)
  {f35:Addr} {e35:FuncData} (o35:YO Pr w K mg base "parking_of" 7 ["ground","tree","bank"] Yt f35 e35)
  {f37:Addr} {e37:FuncData} (o37:YO Pr w K mg base "_law_trees" 2 ["_law_ground_here"] YJ f37 e37) :
  YO Pr w K mg base "law" 11 ["_law_script"] Zuh f fd:=by
 have nd:=t38.nd
 refine⟨Zz (k:=10) (F:=Zyh YC Zo Ys Xx Ya Yt YJ) Fu t38 rfl rfl rfl fun cdv A outer s H E hr=>?_,hm,Fu.kp,Fu.binds (ps:=["_law_script"]) fun _ _ _ _ _ _=>Zur (fun _=>by exact rfl)⟩
 exact(Ze (ZZ (i:=1) nd (ZF o2 hr (Zc (Zb 0) (Zc Zl (Zc Zl Zd)))))
  (Ze (ZZ (i:=2) nd (ZF o1 hr (Zc (Zb 0) (Zc Zl (Zc (ZT (Zb 1) Zl) Zd)))))
  (Ze (XE (i:=3) nd (Xp Zd))
  (Ze (XE (i:=4) nd (Zgn o16 hr (Zc (Zb 1) (Zc (Zb 2) Zd))))
  (Ze (Zuz (i:=5) nd (Zko (Zb 4) Bt.list_ Zc6))
  (Ze (Zq6 (j:=5) (Zbh (i:=4) Zes (h1:=Uq (i:=4) Zes)))
  (Ze (Xe (Yf (Vi hr.units) (ZF o16.def hr (Zc (Zb 1) (Zc (Zb 2) Zd))) (Zb 5)) (Zi (ZG Vg)) Yd)
  (Ze (XF QG rfl (Yi (Zb 5)) (Zw (i:=6) nd) (Ze (ZZ (i:=7) nd (ZF o24 hr (Zc (Zb 1) (Zc (Zb 6) (Zc (Zb 2) Zd)))))
  (Ze (Xe (Yf (Vi hr.units) (Zb 7) (ZF o29 hr (Zc (Zb 1) (Zc (Zb 6) (Zc (Zb 2) Zd))))) (Zi (ZG Vg)) Yd)
  (Ze (ZZ (i:=8) nd (Zun.ev (Zko (Zb 7) Bt.list_ Zc6)))
  (Ze (Xe (WV.tv (Zad (Yf (Vi hr.units) (ZF o35 hr (Zc (Zb 1) (Zc (Zb 8) (Zc (Zb 2) Zd)))) (Zb 6)) (V2 (Yf (Vi hr.units) (Zb 8) (Zb 7))))) (Zi (ZG Vg)) Yd)
  (Zi (Zm9 (i:=3) (Zb 7) (h1:=Uq (i:=3) (Zb 7)))))))))
  (Zi (ZG (Vk (Wt hr.units) (Zs (Ze0 rfl hr.units) Bt.sorted_ WM (Zc (Zb 3) Zd)) (ZF o37 hr (Zc (Zb 1) Zd)))))))))))))
def Zrd(K:PySem.W.Frag):Sp:=fun vs H Q _=>∃(a:Addr) (ns:List Int),vs=[.ref a]/\XX K H a (ns.map V.int)/\ns.length<=63/\∀H',Q (.bl true) H'
theorem all_mk{L:PySem.W.OpenLaw}{w:World}{K:PySem.W.Frag}{h:Heap}{mg:Str->Option Value}{fa f:Addr}(X:K.In h)(G:h.Ns mainGlobals mg)(hfa:mg "law"=some (.ref fa)){od an:Option Addr}{sl:Array (Option Value)}{oc kV dc pm cd ct:Value}{t_MOST_LINES:Tok}{t_MOST_YARDS:Tok}
  (h0:FH K "_law_cell_at" s0)
  (h1:FH K "_law_mixed" s1)
  (h2:FH K "_law_ground" s2)
  (h3:FH K "is_number" s3)
  (h4:FH K "is_number_within" s4)
  (h5:FH K "is_bundle" s5)
  (h6:FH K "is_joined" s6)
  (h7:FH K "do_rise" s7)
  (h8:FH K "is_ground" s8)
  (h9:FH K "checked" s9)
  (h10:FH K "checked_yard" Zap)
  (h11:FH K "line_table" s11)
  (h12:FH K "yards_without" s12)
  (h13:FH K "lines_to" s13)
  (h14:FH K "burnt_yards" s14)
  (h15:FH K "lengthened" s15)
  (h16:FH K "parkings" s16)
  (h17:FH K "has_number_for_each_yard" s17)
  (h18:FH K "is_load" s18)
  (h19:FH K "checked_load" s19)
  (h20:FH K "burning" Zhe)
  (h21:FH K "checked_parking" Zhd)
  (h22:FH K "yards_beside" s22)
  (h23:FH K "lines_toward" s23)
  (h24:FH K "tree_of" s24)
  (h25:FH K "_law_lines" s25)
  (h26:FH K "_law_to" s26)
  (h27:FH K "_law_layers" s27)
  (h28:FH K "_law_all_lines" s28)
  (h29:FH K "_law_tree_of" s29)
  (h30:FH K "ground_lines" Zqd)
  (h31:FH K "is_line" Zqc)
  (h32:FH K "is_tree" Zqb)
  (h33:FH K "checked_tree" s33)
  (h34:FH K "tree_places" s34)
  (h35:FH K "parking_of" s35)
  (h36:FH K "_law_is_tree" s36)
  (h37:FH K "_law_trees" s37)
  (a:PySem.W.nsIn K mainGlobals "law"=some (some (.ref f))) (l:K.lookup f=some ⟨oc,od,.func (PySem.W.fnOf "law" "law" (VT Zu5) (X5 Zu5) (Zk Zu5) .none kV dc pm an cd ct),sl⟩) (c:PySem.W.codeIn K cd "law"=true) (k:PySem.W.keepIn K (.ref f)=true)
  (z_len:PySem.W.nsIn K mainGlobals "len"=some none)
  (z_range:PySem.W.nsIn K mainGlobals "range"=some none)
  (z_sum:PySem.W.nsIn K mainGlobals "sum"=some none)
  (z_all:PySem.W.nsIn K mainGlobals "all"=some none)
  (z_any:PySem.W.nsIn K mainGlobals "any"=some none)
  (z_min:PySem.W.nsIn K mainGlobals "min"=some none)
  (z_max:PySem.W.nsIn K mainGlobals "max"=some none)
  (z_sorted:PySem.W.nsIn K mainGlobals "sorted"=some none)
  (z_zip:PySem.W.nsIn K mainGlobals "zip"=some none)
  (z_enumerate:PySem.W.nsIn K mainGlobals "enumerate"=some none)
  (z_isinstance:PySem.W.nsIn K mainGlobals "isinstance"=some none)
  (z_tuple:PySem.W.nsIn K mainGlobals "tuple"=some none)
  (z_list:PySem.W.nsIn K mainGlobals "list"=some none)
  (z_int:PySem.W.nsIn K mainGlobals "int"=some none)
  (z_bool:PySem.W.nsIn K mainGlobals "bool"=some none)
  (z_set:PySem.W.nsIn K mainGlobals "set"=some none)
  (y_MOST_LINES:PySem.W.nsIn K mainGlobals "MOST_LINES"=some (some (.int 4 t_MOST_LINES)))
  (y_MOST_YARDS:PySem.W.nsIn K mainGlobals "MOST_YARDS"=some (some (.int 5 t_MOST_YARDS)))
  : ∃fd:FuncData,(∀(s:Shared) (v:Value),BindsTo s fd ⟨[v],[]⟩ [("_law_script",v)])/\∀base:Heap,K.In base->base.Ns mainGlobals mg->Vm L.prog w K mg base Zm1 11 fa fd ["_law_script"] (Zrd K):=by
 have e:=hfa.symm.trans (Qs X G a)
 cases e
 have Bt:BT mg:=⟨QR X G z_len,QR X G z_range,QR X G z_sum,QR X G z_all,QR X G z_any,QR X G z_min,QR X G z_max,QR X G z_sorted,QR X G z_zip,QR X G z_enumerate,QR X G z_isinstance,QR X G z_tuple,QR X G z_list,QR X G z_int,QR X G z_bool,QR X G z_set⟩
 refine⟨PySem.W.fnOf "law" "law" (VT Zu5) (X5 Zu5) (Zk Zu5) .none kV dc pm an cd ct,fun s v=>.of_eq rfl,fun base _ _=>?_⟩
 obtain⟨_,_,a0,u0⟩:=h0
 have o0:=d0 (Pr:=L.prog) (w:=w) (base:=base) u0 (Qs X G a0) Bt
 obtain⟨_,_,a1,u1⟩:=h1
 have o1:=d1 (Pr:=L.prog) (w:=w) (base:=base) u1 (Qs X G a1) Bt o0
 obtain⟨_,_,a2,u2⟩:=h2
 have o2:=d2 (Pr:=L.prog) (w:=w) (base:=base) u2 (Qs X G a2) Bt o1
 obtain⟨_,_,a3,u3⟩:=h3
 have o3:=d3 (Pr:=L.prog) (w:=w) (base:=base) u3 (Qs X G a3) Bt
 obtain⟨_,_,a4,u4⟩:=h4
 have o4:=d4 (Pr:=L.prog) (w:=w) (base:=base) u4 (Qs X G a4) Bt o3
 obtain⟨_,_,a5,u5⟩:=h5
 have o5:=d5 (Pr:=L.prog) (w:=w) (base:=base) u5 (Qs X G a5) Bt o4 ⟨_,Qs X G y_MOST_LINES⟩
 obtain⟨_,_,a6,u6⟩:=h6
 have o6:=d6 (Pr:=L.prog) (w:=w) (base:=base) u6 (Qs X G a6) Bt
 obtain⟨_,_,a7,u7⟩:=h7
 have o7:=d7 (Pr:=L.prog) (w:=w) (base:=base) u7 (Qs X G a7) Bt
 obtain⟨_,_,a8,u8⟩:=h8
 have o8:=d8 (Pr:=L.prog) (w:=w) (base:=base) u8 (Qs X G a8) Bt o4 o5 o6 o7 ⟨_,Qs X G y_MOST_YARDS⟩
 obtain⟨_,_,a9,u9⟩:=h9
 have o9:=d9 (Pr:=L.prog) (w:=w) (base:=base) u9 (Qs X G a9) Bt o8
 obtain⟨_,_,a10,u10⟩:=h10
 have o10:=d10 (Pr:=L.prog) (w:=w) (base:=base) u10 (Qs X G a10) Bt o9 o4
 obtain⟨_,_,a11,u11⟩:=h11
 have o11:=d11 (Pr:=L.prog) (w:=w) (base:=base) u11 (Qs X G a11) Bt
 obtain⟨_,_,a12,u12⟩:=h12
 have o12:=d12 (Pr:=L.prog) (w:=w) (base:=base) u12 (Qs X G a12) Bt
 obtain⟨_,_,a13,u13⟩:=h13
 have o13:=d13 (Pr:=L.prog) (w:=w) (base:=base) u13 (Qs X G a13) Bt
 obtain⟨_,_,a14,u14⟩:=h14
 have o14:=d14 (Pr:=L.prog) (w:=w) (base:=base) u14 (Qs X G a14) Bt o12 o13
 obtain⟨_,_,a15,u15⟩:=h15
 have o15:=d15 (Pr:=L.prog) (w:=w) (base:=base) u15 (Qs X G a15) Bt o14
 obtain⟨_,_,a16,u16⟩:=h16
 have o16:=d16 (Pr:=L.prog) (w:=w) (base:=base) u16 (Qs X G a16) Bt o10 o11 o15
 obtain⟨_,_,a17,u17⟩:=h17
 have o17:=d17 (Pr:=L.prog) (w:=w) (base:=base) u17 (Qs X G a17) Bt o3
 obtain⟨_,_,a18,u18⟩:=h18
 have o18:=d18 (Pr:=L.prog) (w:=w) (base:=base) u18 (Qs X G a18) Bt o9 o17
 obtain⟨_,_,a19,u19⟩:=h19
 have o19:=d19 (Pr:=L.prog) (w:=w) (base:=base) u19 (Qs X G a19) Bt o18
 obtain⟨_,_,a20,u20⟩:=h20
 have o20:=d20 (Pr:=L.prog) (w:=w) (base:=base) u20 (Qs X G a20) Bt o19 o10 o11 o12 o14
 obtain⟨_,_,a21,u21⟩:=h21
 have o21:=d21 (Pr:=L.prog) (w:=w) (base:=base) u21 (Qs X G a21) Bt o20 o18
 obtain⟨_,_,a22,u22⟩:=h22
 have o22:=d22 (Pr:=L.prog) (w:=w) (base:=base) u22 (Qs X G a22) Bt
 obtain⟨_,_,a23,u23⟩:=h23
 have o23:=d23 (Pr:=L.prog) (w:=w) (base:=base) u23 (Qs X G a23) Bt
 obtain⟨_,_,a24,u24⟩:=h24
 have o24:=d24 (Pr:=L.prog) (w:=w) (base:=base) u24 (Qs X G a24) Bt o10 o21 o11 o22 o13 o23
 obtain⟨_,_,a25,u25⟩:=h25
 have o25:=d25 (Pr:=L.prog) (w:=w) (base:=base) u25 (Qs X G a25) Bt
 obtain⟨_,_,a26,u26⟩:=h26
 have o26:=d26 (Pr:=L.prog) (w:=w) (base:=base) u26 (Qs X G a26) Bt o25
 obtain⟨_,_,a27,u27⟩:=h27
 have o27:=d27 (Pr:=L.prog) (w:=w) (base:=base) u27 (Qs X G a27) Bt o26
 obtain⟨_,_,a28,u28⟩:=h28
 have o28:=d28 (Pr:=L.prog) (w:=w) (base:=base) u28 (Qs X G a28) Bt
 obtain⟨_,_,a29,u29⟩:=h29
 have o29:=d29 (Pr:=L.prog) (w:=w) (base:=base) u29 (Qs X G a29) Bt o27 o28 o26
 obtain⟨_,_,a30,u30⟩:=h30
 have o30:=d30 (Pr:=L.prog) (w:=w) (base:=base) u30 (Qs X G a30) Bt
 obtain⟨_,_,a31,u31⟩:=h31
 have o31:=d31 (Pr:=L.prog) (w:=w) (base:=base) u31 (Qs X G a31) Bt o3
 obtain⟨_,_,a32,u32⟩:=h32
 have o32:=d32 (Pr:=L.prog) (w:=w) (base:=base) u32 (Qs X G a32) Bt o30 o31 o6
 obtain⟨_,_,a33,u33⟩:=h33
 have o33:=d33 (Pr:=L.prog) (w:=w) (base:=base) u33 (Qs X G a33) Bt o32
 obtain⟨_,_,a34,u34⟩:=h34
 have o34:=d34 (Pr:=L.prog) (w:=w) (base:=base) u34 (Qs X G a34) Bt o23
 obtain⟨_,_,a35,u35⟩:=h35
 have o35:=d35 (Pr:=L.prog) (w:=w) (base:=base) u35 (Qs X G a35) Bt o10 o33 o11 o22 o34 o13
 obtain⟨_,_,a36,u36⟩:=h36
 have o36:=d36 (Pr:=L.prog) (w:=w) (base:=base) u36 (Qs X G a36) Bt
 obtain⟨_,_,a37,u37⟩:=h37
 have o37:=d37 (Pr:=L.prog) (w:=w) (base:=base) u37 (Qs X G a37) Bt o28 o36
 have o38:=d38 (Pr:=L.prog) (w:=w) (base:=base) (Ztg (st:=Zu5) l c k) (Qs X G a) Bt o2 o1 o16 o24 o29 o35 o37
 refine o38.ok.imp fun vs H Q E hs=>?_
 obtain⟨a,ns,rfl,hS,h63,q⟩:=hs
 refine⟨[],[.scr ns],.bl true,fun a m=>(by cases m),⟨_,_,rfl,⟨a,rfl,by rw[Zsj];exact hS⟩,rfl⟩,g_law ns,fun v H' s r=>?_⟩
 have:v=.bl true:=r
 subst this
 exact q H'
theorem walk{l:PySem.W.OpenLaw}{q:Program}{loose:List Str}{XP:(Str->Option Value)->Heap->Prop}{YP:World->Heap->Prop}{d:DefRec}{K:Params->PySem.W.Frag}(hn:l.most=some 63)(hdf:d.params.defaults=[])
  (hY:∀(w:World) (h:Heap),YP w h->(K w.params).In h)
  (F:∀(w:World) (mg:Str->Option Value) (fa:Addr) (h:Heap),(K w.params).In h->h.Ns mainGlobals mg->mg d.name=some (.ref fa) ->
   ∃fd:FuncData,(∀(s:Shared) (u:Value),BindsTo s fd ⟨[u],[]⟩ [("_law_script",u)])/\∀base:Heap,(K w.params).In base->base.Ns mainGlobals mg->Vm l.prog w (K w.params) mg base Zm1 11 fa fd ["_law_script"] (Zrd (K w.params))) :
  PySem.W.WalkO q loose XP YP l.row.toRowW d [] (fun f vs=>PySem.call f vs) :=
 L2.walk_of (n:=63) (k:=11) (x:="_law_script") (CX:=fun _=>Zm1) (sp:=fun w=>Zrd (K w.params)) hn (by decide) hdf ⟨rfl,by decide,by decide⟩ hY F (fun _ _ a ns hl _ hS=>⟨a,ns,rfl,hS,hl,fun _=>rfl⟩) fun _ _ _ _ _ z=>z
end K11

end
-- stand-ins: the head of the last proof goes without these twins, and the built file stays small
def PySem.W.Fast.tw8104066230203622524 : Unit := ()
def PySem.W.Fast.tw10524948666018503365 : Unit := ()
def PySem.W.Fast.tw9842697641989871680 : Unit := ()
def PySem.W.Fast.tw16732221038485130229 : Unit := ()
def PySem.W.Fast.tw6725397661538102992 : Unit := ()
def PySem.W.Fast.tw434769862063888942 : Unit := ()
def PySem.W.Fast.tw5402812705767317972 : Unit := ()
def PySem.W.Fast.tw977875998509373999 : Unit := ()
def PySem.W.Fast.tw8276905146279074922 : Unit := ()
def PySem.W.Fast.tw14857379913927629889 : Unit := ()
def PySem.W.Fast.tw14165877979379738312 : Unit := ()
def PySem.W.Fast.tw3621653739195554438 : Unit := ()
def PySem.W.Fast.tw1606854033450059331 : Unit := ()
def PySem.W.Fast.tw3148623511172543174 : Unit := ()
def PySem.W.Fast.tw1616493138031217386 : Unit := ()
def PySem.W.Fast.tw828404421453424456 : Unit := ()
def PySem.W.Fast.tw13533835093714466608 : Unit := ()
def PySem.W.Fast.tw629157672417710749 : Unit := ()
def PySem.W.Fast.tw6982668356263885994 : Unit := ()
def PySem.W.Fast.tw13818596749671612658 : Unit := ()
def PySem.W.Fast.tw16272372848731124042 : Unit := ()
def PySem.W.Fast.tw9283984170293031212 : Unit := ()
def PySem.W.Fast.tw18039528606343756711 : Unit := ()
def PySem.W.Fast.tw13993478880516360905 : Unit := ()
def PySem.W.Fast.tw6326532458876195998 : Unit := ()
def PySem.W.Fast.tw12267131977947102992 : Unit := ()
def PySem.W.Fast.tw14503348675662290569 : Unit := ()
def PySem.W.Fast.tw16505075876003040231 : Unit := ()
def PySem.W.Fast.tw2340618646719677758 : Unit := ()
def PySem.W.Fast.tw1722780475858766111 : Unit := ()
def PySem.W.Fast.tw4738002292359687963 : Unit := ()
def PySem.W.Fast.tw7466637693599561899 : Unit := ()
def PySem.W.Fast.tw9223397352217011623 : Unit := ()
def PySem.W.Fast.tw12493722007879945822 : Unit := ()
def PySem.W.Fast.tw1682009817436617223 : Unit := ()
def PySem.W.Fast.tw417283457571231551 : Unit := ()
def PySem.W.Fast.tw11523260487443740971 : Unit := ()
def PySem.W.Fast.tw10543283703520856551 : Unit := ()
def PySem.W.Fast.tw3595305755072128478 : Unit := ()
def PySem.W.Fast.tw5040375600713443586 : Unit := ()
def PySem.W.Fast.tw12062529651597700638 : Unit := ()
def PySem.W.Fast.tw15375859381679990041 : Unit := ()
def PySem.W.Fast.tw16488170858273122994 : Unit := ()
def PySem.W.Fast.tw7349438241767084546 : Unit := ()
def PySem.W.Fast.tw10754386226529380706 : Unit := ()
def PySem.W.Fast.tw10256563702040742949 : Unit := ()
def PySem.W.Fast.tw3545547534208870468 : Unit := ()
def PySem.W.Fast.tw12008884590543217018 : Unit := ()
def PySem.W.Fast.tw5953187006576874433 : Unit := ()
def PySem.W.Fast.tw7742474856299750097 : Unit := ()
def PySem.W.Fast.tw17312628567792812037 : Unit := ()
def PySem.W.Fast.tw8061825027774345557 : Unit := ()
def PySem.W.Fast.tw10550244846850060424 : Unit := ()
def PySem.W.Fast.tw2276566470683038748 : Unit := ()
def PySem.W.Fast.tw7057126269355156002 : Unit := ()
def PySem.W.Fast.tw260097953385560552 : Unit := ()
def PySem.W.Fast.tw459421598128728717 : Unit := ()
def PySem.W.Fast.tw8320122890180242290 : Unit := ()
def PySem.W.Fast.tw16170946692256505953 : Unit := ()
def PySem.W.Fast.tw7574156100601944151 : Unit := ()
def PySem.W.Fast.tw4645325779900142801 : Unit := ()
def PySem.W.Fast.tw2028059878846196222 : Unit := ()
def PySem.W.Fast.tw12597469002215062181 : Unit := ()
def PySem.W.Fast.tw7499152185657323150 : Unit := ()
def PySem.W.Fast.tw4311338471577082200 : Unit := ()
def PySem.W.Fast.tw5184425756606884693 : Unit := ()
def PySem.W.Fast.tw4881566602256488772 : Unit := ()
def PySem.W.Fast.tw8053020438786267229 : Unit := ()
def PySem.W.Fast.tw4708096982815406405 : Unit := ()
def PySem.W.Fast.tw551265799285918592 : Unit := ()
def PySem.W.Fast.tw3785702322126752510 : Unit := ()
def PySem.W.Fast.tw9771479211249815333 : Unit := ()
def PySem.W.Fast.tw2308056465503522509 : Unit := ()
def PySem.W.Fast.tw5485700846468218398 : Unit := ()
def PySem.W.Fast.tw13513571071153391010 : Unit := ()
def PySem.W.Fast.tw8803481418382306121 : Unit := ()
def PySem.W.Fast.tw3442679991667556446 : Unit := ()
def PySem.W.Fast.tw707451512480999491 : Unit := ()
def PySem.W.Fast.tw8313045848440144543 : Unit := ()
def PySem.W.Fast.tw16056498872434342191 : Unit := ()
def PySem.W.Fast.tw6081508124246754206 : Unit := ()
def PySem.W.Fast.tw13343311300140312986 : Unit := ()
def PySem.W.Fast.tw11627172381708844927 : Unit := ()
def PySem.W.Fast.tw8338792569322352515 : Unit := ()
def PySem.W.Fast.tw5743192436838026833 : Unit := ()
def PySem.W.Fast.tw10091910378924137219 : Unit := ()
def PySem.W.Fast.tw12612496083971194869 : Unit := ()
def PySem.W.Fast.tw4571768812285498432 : Unit := ()
def PySem.W.Fast.tw1872178144809964501 : Unit := ()
def PySem.W.Fast.tw131286391323254067 : Unit := ()
def PySem.W.Fast.tw3821658941990388178 : Unit := ()
def PySem.W.Fast.tw4993103468775457487 : Unit := ()
def PySem.W.Fast.tw15375228570478585097 : Unit := ()
def PySem.W.Fast.tw10394536870794915903 : Unit := ()
def PySem.W.Fast.tw5178713305661100523 : Unit := ()
def PySem.W.Fast.tw15091965288318357776 : Unit := ()
def PySem.W.Fast.tw7039810822230169599 : Unit := ()
def PySem.W.Fast.tw11664810070552475289 : Unit := ()
def PySem.W.Fast.tw13490678921453971053 : Unit := ()
def PySem.W.Fast.tw9065036611691634351 : Unit := ()
def PySem.W.Fast.tw11034525883959182912 : Unit := ()
def PySem.W.Fast.tw17330213836555793575 : Unit := ()
def PySem.W.Fast.tw5718599594451617587 : Unit := ()
def PySem.W.Fast.tw14077936812129566672 : Unit := ()
def PySem.W.Fast.tw16692771439354405153 : Unit := ()
def PySem.W.Fast.tw16176679792579177399 : Unit := ()
def PySem.W.Fast.tw2435921741911033393 : Unit := ()
def PySem.W.Fast.tw5440146751957293166 : Unit := ()
def PySem.W.Fast.tw16402645278801411608 : Unit := ()
def PySem.W.Fast.tw5516800609411538333 : Unit := ()
def PySem.W.Fast.tw10595994150775903477 : Unit := ()
def PySem.W.Fast.tw3909305620469835920 : Unit := ()
def PySem.W.Fast.tw3021277100965151028 : Unit := ()
def PySem.W.Fast.tw10811804937167553793 : Unit := ()
def PySem.W.Fast.tw18244152556187859803 : Unit := ()
def PySem.W.Fast.tw16793664553290869545 : Unit := ()
def PySem.W.Fast.tw17687181605265894473 : Unit := ()
def PySem.W.Fast.tw14720333475249088941 : Unit := ()
def PySem.W.Fast.tw13359976420268803733 : Unit := ()
open PySem PySem.W PyProof.Rows
set_option maxRecDepth 100000 in
set_option maxHeartbeats 0 in
theorem PySem.Challenge.cw_chipyard_k11_whole_trees_of_parkings_holds : PySem.Challenge.rw_chipyard_k11_whole_trees_of_parkings.Holds := by
 w_on;o_law;k_head;(case hw=>w_witness2)
 k_fill
 refine K11.walk (l:=PySem.Challenge.rw_chipyard_k11_whole_trees_of_parkings) rfl rfl (fun w h Y=>PySem.W.kIn_of Y) ?F
 case F =>
  intro w mg fa h KX G hmg
  refine' K11.all_mk KX G hmg (L2.fh ?a0 ?l0 ?c0 ?k0) (L2.fh ?a1 ?l1 ?c1 ?k1) (L2.fh ?a2 ?l2 ?c2 ?k2) (L2.fh ?a3 ?l3 ?c3 ?k3) (L2.fh ?a4 ?l4 ?c4 ?k4) (L2.fh ?a5 ?l5 ?c5 ?k5) (L2.fh ?a6 ?l6 ?c6 ?k6) (L2.fh ?a7 ?l7 ?c7 ?k7) (L2.fh ?a8 ?l8 ?c8 ?k8) (L2.fh ?a9 ?l9 ?c9 ?k9) (L2.fh ?a10 ?l10 ?c10 ?k10) (L2.fh ?a11 ?l11 ?c11 ?k11) (L2.fh ?a12 ?l12 ?c12 ?k12) (L2.fh ?a13 ?l13 ?c13 ?k13) (L2.fh ?a14 ?l14 ?c14 ?k14) (L2.fh ?a15 ?l15 ?c15 ?k15) (L2.fh ?a16 ?l16 ?c16 ?k16) (L2.fh ?a17 ?l17 ?c17 ?k17) (L2.fh ?a18 ?l18 ?c18 ?k18) (L2.fh ?a19 ?l19 ?c19 ?k19) (L2.fh ?a20 ?l20 ?c20 ?k20) (L2.fh ?a21 ?l21 ?c21 ?k21) (L2.fh ?a22 ?l22 ?c22 ?k22) (L2.fh ?a23 ?l23 ?c23 ?k23) (L2.fh ?a24 ?l24 ?c24 ?k24) (L2.fh ?a25 ?l25 ?c25 ?k25) (L2.fh ?a26 ?l26 ?c26 ?k26) (L2.fh ?a27 ?l27 ?c27 ?k27) (L2.fh ?a28 ?l28 ?c28 ?k28) (L2.fh ?a29 ?l29 ?c29 ?k29) (L2.fh ?a30 ?l30 ?c30 ?k30) (L2.fh ?a31 ?l31 ?c31 ?k31) (L2.fh ?a32 ?l32 ?c32 ?k32) (L2.fh ?a33 ?l33 ?c33 ?k33) (L2.fh ?a34 ?l34 ?c34 ?k34) (L2.fh ?a35 ?l35 ?c35 ?k35) (L2.fh ?a36 ?l36 ?c36 ?k36) (L2.fh ?a37 ?l37 ?c37 ?k37) ?a ?l ?c ?k ?z156 ?z157 ?z158 ?z159 ?z160 ?z161 ?z162 ?z163 ?z164 ?z165 ?z166 ?z167 ?z168 ?z169 ?z170 ?z171 ?z172 ?z173
  (case a0=>k_is)
  (case l0=>k_is)
  (case c0=>k_is)
  (case k0=>k_is)
  (case a1=>k_is)
  (case l1=>k_is)
  (case c1=>k_is)
  (case k1=>k_is)
  (case a2=>k_is)
  (case l2=>k_is)
  (case c2=>k_is)
  (case k2=>k_is)
  (case a3=>k_is)
  (case l3=>k_is)
  (case c3=>k_is)
  (case k3=>k_is)
  (case a4=>k_is)
  (case l4=>k_is)
  (case c4=>k_is)
  (case k4=>k_is)
  (case a5=>k_is)
  (case l5=>k_is)
  (case c5=>k_is)
  (case k5=>k_is)
  (case a6=>k_is)
  (case l6=>k_is)
  (case c6=>k_is)
  (case k6=>k_is)
  (case a7=>k_is)
  (case l7=>k_is)
  (case c7=>k_is)
  (case k7=>k_is)
  (case a8=>k_is)
  (case l8=>k_is)
  (case c8=>k_is)
  (case k8=>k_is)
  (case a9=>k_is)
  (case l9=>k_is)
  (case c9=>k_is)
  (case k9=>k_is)
  (case a10=>k_is)
  (case l10=>k_is)
  (case c10=>k_is)
  (case k10=>k_is)
  (case a11=>k_is)
  (case l11=>k_is)
  (case c11=>k_is)
  (case k11=>k_is)
  (case a12=>k_is)
  (case l12=>k_is)
  (case c12=>k_is)
  (case k12=>k_is)
  (case a13=>k_is)
  (case l13=>k_is)
  (case c13=>k_is)
  (case k13=>k_is)
  (case a14=>k_is)
  (case l14=>k_is)
  (case c14=>k_is)
  (case k14=>k_is)
  (case a15=>k_is)
  (case l15=>k_is)
  (case c15=>k_is)
  (case k15=>k_is)
  (case a16=>k_is)
  (case l16=>k_is)
  (case c16=>k_is)
  (case k16=>k_is)
  (case a17=>k_is)
  (case l17=>k_is)
  (case c17=>k_is)
  (case k17=>k_is)
  (case a18=>k_is)
  (case l18=>k_is)
  (case c18=>k_is)
  (case k18=>k_is)
  (case a19=>k_is)
  (case l19=>k_is)
  (case c19=>k_is)
  (case k19=>k_is)
  (case a20=>k_is)
  (case l20=>k_is)
  (case c20=>k_is)
  (case k20=>k_is)
  (case a21=>k_is)
  (case l21=>k_is)
  (case c21=>k_is)
  (case k21=>k_is)
  (case a22=>k_is)
  (case l22=>k_is)
  (case c22=>k_is)
  (case k22=>k_is)
  (case a23=>k_is)
  (case l23=>k_is)
  (case c23=>k_is)
  (case k23=>k_is)
  (case a24=>k_is)
  (case l24=>k_is)
  (case c24=>k_is)
  (case k24=>k_is)
  (case a25=>k_is)
  (case l25=>k_is)
  (case c25=>k_is)
  (case k25=>k_is)
  (case a26=>k_is)
  (case l26=>k_is)
  (case c26=>k_is)
  (case k26=>k_is)
  (case a27=>k_is)
  (case l27=>k_is)
  (case c27=>k_is)
  (case k27=>k_is)
  (case a28=>k_is)
  (case l28=>k_is)
  (case c28=>k_is)
  (case k28=>k_is)
  (case a29=>k_is)
  (case l29=>k_is)
  (case c29=>k_is)
  (case k29=>k_is)
  (case a30=>k_is)
  (case l30=>k_is)
  (case c30=>k_is)
  (case k30=>k_is)
  (case a31=>k_is)
  (case l31=>k_is)
  (case c31=>k_is)
  (case k31=>k_is)
  (case a32=>k_is)
  (case l32=>k_is)
  (case c32=>k_is)
  (case k32=>k_is)
  (case a33=>k_is)
  (case l33=>k_is)
  (case c33=>k_is)
  (case k33=>k_is)
  (case a34=>k_is)
  (case l34=>k_is)
  (case c34=>k_is)
  (case k34=>k_is)
  (case a35=>k_is)
  (case l35=>k_is)
  (case c35=>k_is)
  (case k35=>k_is)
  (case a36=>k_is)
  (case l36=>k_is)
  (case c36=>k_is)
  (case k36=>k_is)
  (case a37=>k_is)
  (case l37=>k_is)
  (case c37=>k_is)
  (case k37=>k_is)
  (case a=>k_is)
  (case l=>k_is)
  (case c=>k_is)
  (case k=>k_is)
  (case z156=>k_is)
  (case z157=>k_is)
  (case z158=>k_is)
  (case z159=>k_is)
  (case z160=>k_is)
  (case z161=>k_is)
  (case z162=>k_is)
  (case z163=>k_is)
  (case z164=>k_is)
  (case z165=>k_is)
  (case z166=>k_is)
  (case z167=>k_is)
  (case z168=>k_is)
  (case z169=>k_is)
  (case z170=>k_is)
  (case z171=>k_is)
  (case z172=>k_is)
  (case z173=>k_is)

