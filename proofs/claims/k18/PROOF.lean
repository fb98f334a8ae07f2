import PyProof.Rows.All
import Wide.All
import OpenK.AllK
import Wide.FinOn
import PySem.Challenge.RW_chipyard_k18_texts_refused
import Lean
import PyProof.EqAt
import PyProof.EqKinds
import PyProof.TupleCall
set_option Elab.async false
set_option linter.all false
set_option Elab.async false
set_option linter.all false
set_option maxRecDepth 100000
open PySem renaming wpAny_bind->Qa,wpAny_pure->Qc,sizeLine_eq->QK,wpAny_setState_of->QT,wpAny_newObj_type->QU,wpAny_holding->QV,wpAny_call_entry->Q0,wpAny_callSpecial?_slot->Q2,wpAny_mono->Q5,wpAny_field->Jc,wpAny_seqItems->Js,wpAny_truthy_bool->JH,codeAny_builtin->JL,wpAny_askSetting->JP,wpAny_setField->JQ,wpAny_typeNameOfWhole_keyiter->J4,wpAny_setField_rec->J5,codeAny_mono->J8
open PySem.Heap renaming get?_push_of_some->Qb,lt_size->Qk,get?_push_size->Qm,size_push->QN,get?_update_self->QR,get?_update_other->JI
open List renaming length_map->Qd,mem_cons_of_mem->Qe,mem_cons_self->Qf,map_cons->Qh,size_toArray->Qi,getElem?_eq_some_iff->Qj,mem_cons->Ql,getElem?_eq_getElem->Qn,length_cons->Qp,all_eq_true->Qs,mem_append_right->Qt,map_map->Qy,mem_map->QA,getElem?_map->QC,getElem?_set_ne->QD,mem_append->QE,getElem?_eq_none->QG,getElem?_append_left->QH,length_append->QI,mem_range->QJ,length_take->QL,length_zip->QM,getD_eq_getElem?_getD->QO,drop_drop->QP,map_congr_left->QW,length_drop->QX,length_nil->QY,mem_append_left->Q3,getElem?_set_self->Q4,mem_singleton->Q8,append_nil->Q9,getElem?_replicate->Ja,getElem?_append_right->Jb,not_mem_nil->Jd,drop_eq_nil_of_le->Jj,drop_eq_getElem_cons->Jk,mem_filterMap->Jm,all_cons->Jp,zip_cons_cons->Jt,mem_of_mem_take->Jy,mem_of_mem_drop->Jz,getElem?_cons_zero->JA,find?_cons->JB,replicate_succ->JF,map_nil->JK,any_cons->JN,filterMap_cons_some->JT,filterMap_cons_none->JU,mergeSort_perm->JX,getElem_zip->JZ,getElem?_cons_succ->J0,take_of_length_le->J3,nil_append->J9,cons_append->Tc,set_cons_zero->Tf,set_cons_succ->Tg
open Nat renaming le_refl->Qg,ne_of_lt->Qo,lt_of_lt_of_le->Qw,lt_succ_of_lt->QZ,zero_le->Q1,lt_irrefl->Ji,le_succ->Jr,lt_succ_self->Ju,le_trans->Jw,ne_of_gt->JM
open Bool renaming and_eq_true->Qq,false_eq_true->Qr,false_ne_true->Qv,not_eq_true'->JR,not_true->JW
open PySem.W renaming mg_of->Qu,mg_none_of->Qz,kia_one->Jq
open Array renaming length_toList->Qx,getElem?_toList->QQ,getElem?_eq_getElem->QS,getD_eq_getD_getElem?->Jf,toList_inj->JY
open Option renaming bind_some->QB,getD_some->Ta,map_some->Td,getD_none->Te
open Int renaming toNat_natCast->QF,toNat_of_nonneg->Jl,emod_lt_of_pos->Jo,emod_nonneg->JD,cast_ofNat_Int->Th
open PySem.Heap.SameBut renaming update->Q6
open Option.some renaming inj->Q7
open PyProof.Rows renaming slot_tuple_getitem->Je
open PySem.F renaming called_set->Jg,plainAttrs_str->JC,slot_dict_keyiterator_next->JG
open PySem.Obj renaming data_mapFields->Jh
open PySem.Around renaming under_plainId->Jv
open List.cons renaming injEq->Jx
open PyProof.Rows.F renaming plain_set_update_loop->JE
open Ne renaming symm->JO
open PySem.PassesOwn renaming never->J2
noncomputable section
namespace L2
open PySem PySem.Spec PyProof.Rows
abbrev YQ:=Sum Int Str
def Ze4:YQ->Value->Bool
 |.inl k,v=>Value.isInt k v
 |.inr x,v=>Value.isStrOf x v
def keyH(w:World):YQ->Int
 |.inl k=>hashInt k
 |.inr x=>hashStr w x
theorem YL:∀{k:YQ} {v:Value},Ze4 k v=true->(∃i t,k=Sum.inl i/\v=Value.int i t)\/(∃x t,k=Sum.inr x/\v=Value.str x t)
 |.inl i,v,h=>by
  obtain⟨t,e⟩:=Value.isInt_shape (k:=i) (v:=v) h
  exact .inl ⟨i,t,rfl,e⟩
 |.inr x,v,h=>by
  obtain⟨t,e⟩:=Value.isStrOf_shape (x:=x) (v:=v) h
  exact .inr ⟨x,t,rfl,e⟩
theorem Zog(i:Int)(t:Tok):Ze4 (.inl i) (.int i t)=true:=by simp[Ze4,Value.isInt]
theorem Zof(x:Str)(t:Tok):Ze4 (.inr x) (.str x t)=true:=by simp[Ze4,Value.isStrOf]
theorem Zzz(a b:Int):decide ((Sum.inl a:YQ)=Sum.inl b)=(a == b):=by
 by_cases e:a=b
 ·subst e;simp
 ·have h:¬(Sum.inl a:YQ)=Sum.inl b:=fun q=>e (Sum.inl.inj q)
  rw[decide_eq_false h]
  exact(beq_eq_false_iff_ne.mpr e).symm
theorem Zzw(a b:Str):decide ((Sum.inr a:YQ)=Sum.inr b)=decide (a=b):=by
 by_cases e:a=b
 ·subst e;simp
 ·have h:¬(Sum.inr a:YQ)=Sum.inr b:=fun q=>e (Sum.inr.inj q)
  rw[decide_eq_false h,decide_eq_false e]
theorem Zzy(a:Int)(b:Str):decide ((Sum.inl a:YQ)=Sum.inr b)=false:=decide_eq_false (fun q=>nomatch q)
theorem Zzx(a:Str)(b:Int):decide ((Sum.inr a:YQ)=Sum.inl b)=false:=decide_eq_false (fun q=>nomatch q)
def YI(prog:Program)(w:World):PySem.KeyKind prog w YQ where
 is:=Ze4
 hash:=keyH w
 inj:=fun v a b ha hb=>by
  rcases YL ha with⟨i,t,rfl,rfl⟩|⟨x,t,rfl,rfl⟩
  ·rcases YL hb with⟨j,u,rfl,e⟩|⟨y,u,rfl,e⟩
   ·injection e with e1 _;rw[e1]
   ·exact nomatch e
  ·rcases YL hb with⟨j,u,rfl,e⟩|⟨y,u,rfl,e⟩
   ·exact nomatch e
   ·injection e with e1 _;rw[e1]
 byValue:=fun k v h=>by
  rcases YL h with⟨i,t,rfl,rfl⟩|⟨x,t,rfl,rfl⟩<;>rfl
 pyHash:=fun hv h=>by
  rcases YL hv with⟨i,t,rfl,rfl⟩|⟨x,t,rfl,rfl⟩
  ·exact wpAny_pyHash_int h
  ·exact wpAny_pyHash_str h
 eqBool:=fun hu hv h=>by
  rcases YL hu with⟨i,t,rfl,rfl⟩|⟨x,t,rfl,rfl⟩
  ·rcases YL hv with⟨j,u,rfl,rfl⟩|⟨y,u,rfl,rfl⟩
   ·rw[Zzz]at h;exact wpAny_eqBool_int h
   ·rw[Zzy]at h;exact SeqAt.EqAt.int_str i t y u _ _ _ _ h
  ·rcases YL hv with⟨j,u,rfl,rfl⟩|⟨y,u,rfl,rfl⟩
   ·rw[Zzx]at h;exact SeqAt.EqAt.str_int x t j u _ _ _ _ h
   ·rw[Zzw]at h;exact wpAny_eqBool_str h
 «strs»:=fun k x t v h=>by
  rcases YL h with⟨i,u,rfl,e⟩|⟨y,u,rfl,e⟩
  ·exact nomatch e
  ·injection e with e1 _
   subst e1
   cases v<;>rfl
theorem Zil(prog:Program)(w:World)(i:Int)(t:Tok):(YI prog w).is (.inl i) (.int i t)=true:=Zog i t
theorem Zik(prog:Program)(w:World)(x:Str)(t:Tok):(YI prog w).is (.inr x) (.str x t)=true:=Zof x t
inductive V where
 |non|bl (b:Bool)|int (i:Int)|str (x:Str)|byt (b:Array UInt8)|flt (b:UInt64)|ref (a:Addr)|ty (n:String)
 deriving DecidableEq
def ZU:V->Value->Prop
 |.non,u=>u=Value.none
 |.bl b,u=>u=Value.bool b
 |.int i,u=>∃t,u=Value.int i t
 |.str x,u=>∃t,u=Value.str x t
 |.byt b,u=>∃t,u=Value.bytes b t
 |.flt b,u=>∃t,u=Value.float b t
 |.ref a,u=>u=Value.ref a
 |.ty n,u=>u=Value.type n
abbrev ZB:List V->List Value->Prop:=Paired ZU
theorem ZB.length{xs:List V}{us:List Value}(r:ZB xs us):xs.length=us.length:=Paired.length r
theorem ZB.get:∀{xs:List V} {us:List Value} {i:Nat} {x:V},ZB xs us->xs[i]?=some x->∃u,us[i]?=some u/\ZU x u
 |_,_,_,_,.nil,e=>by simp at e
 |_,_,0,_,.cons r _,e=>by simp at e;subst e;exact⟨_,rfl,r⟩
 |_,_,i+1,x,.cons _ t,e=>by
  obtain⟨u,h1,h2⟩:=ZB.get (i:=i) (x:=x) t (by simpa using e)
  exact⟨u,by simpa using h1,h2⟩
theorem ZB.set{x:V}{u:Value}(r:ZU x u):∀{xs:List V} {us:List Value} (i:Nat),ZB xs us->ZB (xs.set i x) (us.set i u)
 |_,_,_,.nil=>.nil
 |_,_,0,.cons _ t=>.cons r t
 |_,_,i+1,.cons q t=>.cons q (ZB.set r i t)
theorem ZB.append:∀{xs ys:List V} {us ws:List Value},ZB xs us->ZB ys ws->ZB (xs++ys) (us++ws)
 |_,_,_,_,.nil,s=>s
 |_,_,_,_,.cons r t,s=>.cons r (ZB.append t s)
theorem ZB.take:∀{xs:List V} {us:List Value} (n:Nat),ZB xs us->ZB (xs.take n) (us.take n)
 |_,_,0,_=>.nil
 |_,_,_+1,.nil=>.nil
 |_,_,n+1,.cons r t=>.cons r (ZB.take n t)
theorem ZB.drop:∀{xs:List V} {us:List Value} (n:Nat),ZB xs us->ZB (xs.drop n) (us.drop n)
 |_,_,0,r=>r
 |_,_,_+1,.nil=>.nil
 |_,_,n+1,.cons _ t=>ZB.drop n t
def Zbk:Option V->Option Value->Prop
 |some v,some u=>ZU v u
 |none,none=>True
 |_,_=>False
def KV{κ:Type}:List (κ×V)->List (κ×Value)->Prop:=Paired fun(p:κ×V) (q:κ×Value)=>p.1=q.1/\ZU p.2 q.2
def kV:YQ->V
 |.inl i=>.int i
 |.inr x=>.str x
inductive HO where
  |lst (xs:List V)
  |tup (xs:List V)
  |dK (kvs:List (YQ×V))|dT (kvs:List (List YQ×V))
  |set (S:Int->Bool) (n:Nat)
  |ins (C dx:Addr) (fs:List (Str×V))
  |own (x:Addr)
  |xd (fs:List (Str×V))
  |met (f x:Addr)
  |rng (lo hi:Int)
  |frz (o:Obj) (u:HO)
  |tbl (ps:Array Value)
  |ext (φ:Heap->Prop)
abbrev Hp:=Addr->Option HO
def Y1(H:Hp)(a:Addr)(o:HO):Hp:=fun b=>if b=a then some o else H b
theorem Yc{H:Hp}{a:Addr}{o:HO}:Y1 H a o a=some o:=by unfold Y1;rw[if_pos rfl]
theorem ZM{H:Hp}{a b:Addr}{o:HO}(h:b≠a):Y1 H a o b=H b:=by unfold Y1;rw[if_neg h]
theorem Zt4{H:Hp}{a:Addr}{o u:HO}:Y1 (Y1 H a o) a u=Y1 H a u:=by
 funext b;unfold Y1;split<;>rfl
theorem ne_of{H:Hp}{a b:Addr}{o u:HO}(h:H a=some o)(h':H b=some u)(d:o≠u):a≠b:=by
 intro e;subst e;rw[h]at h';exact d (Q7 h')
theorem ZS{H:Hp}{a b:Addr}{o:HO}(h:H a=some o)(h':H b=none):a≠b:=by
 intro e;subst e;rw[h]at h';cases h'
section
variable(P:Program)(w:World)
def Yr(H:Hp)(h:Heap)(a:Addr):HO->Prop
 |.lst xs=>xs.length<=sizeLine/\∃(its:List Value) (n:Nat),ZB xs its/\h.get? a=some { cls:=.type "list",data:=.seq its.toArray n }
 |.tup xs=>xs.length<=sizeLine/\∃its:List Value,ZB xs its/\IsTup h a its.toArray
 |.dK kvs=>kvs.length<=sizeLine/\(a == sysModules)=false/\∃vs,KV kvs vs/\h.DictOf (YI P w) a vs
 |.dT kvs=>kvs.length<=sizeLine/\(a == sysModules)=false/\∃xs:List (List YQ×Addr×Value),
   Paired (fun(p:List YQ×V) (q:List YQ×Addr×Value)=>p.1=q.1/\H q.2.1=some (.tup (p.1.map kV))/\ZU p.2 q.2.2) kvs xs /\
   ∃o es ep,h.get? a=some o/\o.ExactDict/\o.data=.dict es ep/\es.toList=xs.map (entryOfKey (tupleKind (YI P w)))/\(xs.map (·.1)).Nodup
 |.set S n=>h.SetOf (intKind P w) a S n
 |.ins C dx fs=>H dx=some (.own a)/\fs.length<=1000/\dx≠a/\h.get? a=some (PySem.W.instObj C dx) /\
   ∃mA,h.Ns1 dx mA/\(∀f,Zbk (fs.lookup f) (mA f))/\PySem.Within mA (fs.map (·.1))
 |.own _=>∃o,h.get? a=some o
 |.xd fs=>∃mA,h.Ns1 a mA/\∀f,Zbk (fs.lookup f) (mA f)
 |.rng lo hi=>∃t u v,h.get? a=some { cls:=.type "range",data:=.fields #[.int lo t,.int hi u,.int 1 v] }
 |.frz o u=>h.get? a=some o/\Yr H h a u
 |.tbl ps=>h.get? a=some { cls:=.none,data:=.fields ps }
 |.met f x=>h.get? a=some (PySem.W.methodObj (.ref f) (.ref x))
 |.ext φ=>φ h/\(∃o,h.get? a=some o)/\∀h1 h2:Heap,φ h1->(∀o,h1.get? a=some o->h2.get? a=some o)->φ h2
def Ua(H:Hp)(h:Heap):Prop:=∀a o,H a=some o->Yr P w H h a o
end
section
variable{P:Program}{w:World}{H H':Hp}{h h':Heap}{a:Addr}{o:HO}
theorem Yr.lt(x:Yr P w H h a o):a<h.objs.size:=by
 cases o with
 |lst xs=>obtain⟨_,_,_,_,e⟩:=x;exact Qk e
 |tup xs=>obtain⟨_,_,_,p⟩:=x;exact p.lt
 |dK kvs=>obtain⟨_,_,_,_,o,_,_,e,_⟩:=x;exact Qk e
 |dT kvs=>obtain⟨_,_,_,_,o,_,_,e,_⟩:=x;exact Qk e
 |set S n=>obtain⟨o,_,_,_,e,_⟩:=x;exact Qk e
 |ins C dx fs=>obtain⟨_,_,_,e,_⟩:=x;exact Qk e
 |own y=>obtain⟨_,e⟩:=x;exact Qk e
 |xd fs=>obtain⟨_,⟨_,_,_,e,_⟩,_⟩:=x;exact Qk e
 |rng lo hi=>obtain⟨_,_,_,e⟩:=x;exact Qk e
 |frz ob u=>obtain⟨e,_⟩:=x;exact Qk e
 |tbl ps=>exact Qk (show h.get? a=some _ from x)
 |met f y=>exact Qk (show h.get? a=some _ from x)
 |ext φ=>obtain⟨_,⟨_,e⟩,_⟩:=x;exact Qk e
theorem Paired.mapP{α β:Type}{F G:α->β->Prop}:∀{l₁:List α} {l₂:List β},Paired F l₁ l₂->(∀a b,F a b->G a b)->Paired G l₁ l₂
 |_,_,.nil,_=>.nil
 |_,_,.cons r t,f=>.cons (f _ _ r) (Paired.mapP t f)
theorem Yr.stay(x:Yr P w H h a o)(k:∀b u,(b=a\/H b=some (.own a))->h.get? b=some u->h'.get? b=some u)
  (ho:∀b,H b=some (.own a)->H' b=some (.own a)) (ht:∀b xs,H b=some (.tup xs)->H' b=some (.tup xs)):Yr P w H' h' a o:=by
 induction o with
 |lst xs=>obtain⟨z,its,n,r,e⟩:=x;exact⟨z,its,n,r,k _ _ (.inl rfl) e⟩
 |tup xs=>obtain⟨z,its,r,ob,e,c⟩:=x;exact⟨z,its,r,ob,k _ _ (.inl rfl) e,c⟩
 |dK kvs=>obtain⟨z,y,vs,r,ob,es,ep,e,c⟩:=x;exact⟨z,y,vs,r,ob,es,ep,k _ _ (.inl rfl) e,c⟩
 |dT kvs =>
  obtain⟨z,y,xs,r,ob,es,ep,e,c⟩:=x
  exact⟨z,y,xs,Paired.mapP r fun p q z=>⟨z.1,ht _ _ z.2.1,z.2.2⟩,ob,es,ep,k _ _ (.inl rfl) e,c⟩
 |set S n=>obtain⟨ob,es,ep,t,e,c⟩:=x;exact⟨ob,es,ep,t,k _ _ (.inl rfl) e,c⟩
 |ins C dx fs =>
  obtain⟨d,z,ne,e,mA,⟨od,es,ep,e2,c⟩,r⟩:=x
  exact⟨ho _ d,z,ne,k _ _ (.inl rfl) e,mA,⟨od,es,ep,k _ _ (.inr d) e2,c⟩,r⟩
 |own y=>obtain⟨ob,e⟩:=x;exact⟨ob,k _ _ (.inl rfl) e⟩
 |xd fs=>obtain⟨mA,⟨od,es,ep,e,c⟩,r⟩:=x;exact⟨mA,⟨od,es,ep,k _ _ (.inl rfl) e,c⟩,r⟩
 |rng lo hi=>obtain⟨t,u,v,e⟩:=x;exact⟨t,u,v,k _ _ (.inl rfl) e⟩
 |frz ob u ih=>obtain⟨e,q⟩:=x;exact⟨k _ _ (.inl rfl) e,ih q⟩
 |tbl ps =>
  have e:h.get? a=some { cls:=.none,data:=.fields ps }:=x
  show h'.get? a=some { cls:=.none,data:=.fields ps }
  exact k a _ (.inl rfl) e
 |met f y =>
  have e:h.get? a=some (PySem.W.methodObj (.ref f) (.ref y)):=x
  show h'.get? a=some (PySem.W.methodObj (.ref f) (.ref y))
  exact k a _ (.inl rfl) e
 |ext φ=>obtain⟨p,⟨o,e⟩,st⟩:=x;exact⟨st _ _ p fun o q=>k _ _ (.inl rfl) q,⟨o,k _ _ (.inl rfl) e⟩,st⟩
theorem Ua.lt(x:Ua P w H h)(e:H a=some o):a<h.objs.size:=(x a o e).lt
theorem Ua.fresh(x:Ua P w H h)(e:h.objs.size<=a):H a=none:=by
 cases q:H a with
 |none=>rfl
 |some u=>exact absurd (Qw (x.lt q) e) (Ji _)
theorem Ua.kept(x:Ua P w H h)(k:∀b u,h.get? b=some u->h'.get? b=some u):Ua P w H h':=fun a o e =>
 (x a o e).stay (fun b u _ q=>k b u q) (fun _ q=>q) fun _ _ q=>q
theorem Ua.laid(x:Ua P w H h)(k:∀b u,h.get? b=some u->h'.get? b=some u)(hp:h.objs.size<=a)(new:Yr P w (Y1 H a o) h' a o):Ua P w (Y1 H a o) h':=fun b u e=>by
 have hn:=x.fresh hp
 by_cases hb:b=a
 ·subst hb;rw[Yc]at e;cases e;exact new
 ·rw[ZM hb]at e
  exact(x b u e).stay (fun c v _ q=>k c v q) (fun c q=>by rw[ZM (ZS q hn)];exact q) fun c xs q=>by rw[ZM (ZS q hn)];exact q
end
def Rd(H:Hp)(a:Addr)(u:HO):Prop:=H a=some u\/∃o,H a=some (.frz o u)
theorem Rd.of{H:Hp}{a:Addr}{u:HO}(h:H a=some u):Rd H a u:=.inl h
theorem Rd.ok{P:Program}{w:World}{H:Hp}{h:Heap}{a:Addr}{u:HO}(r:Rd H a u)(x:Ua P w H h):Yr P w H h a u:=by
 rcases r with r|⟨o,r⟩
 ·exact x a u r
 ·obtain⟨_,q⟩:=x a _ r
  exact q
def Mut:Option HO->Prop
 |some (.lst _)=>True
 |some (.dK _)=>True
 |some (.dT _)=>True
 |some (.set _ _)=>True
 |some (.ins _ _ _)=>True
 |some (.ext _)=>True
 |_=>False
section
variable{P:Program}{w:World}{H:Hp}{h h':Heap}{x e:Addr}{o':HO}
theorem Ua.write(ok:Ua P w H h)(mu:Mut (H x))(he:e=x\/H e=some (.own x))(k:∀b u,b≠e->h.get? b=some u->h'.get? b=some u)(heo:∃u,h'.get? e=some u)
  (new:Yr P w (Y1 H x o') h' x o'):Ua P w (Y1 H x o') h':=fun b u q=>by
 have nown:∀c y,H c=some (.own y)->c≠x:=fun c y r z=>by subst z;rw[r]at mu;exact mu
 have ntup:∀c xs,H c=some (.tup xs)->c≠x:=fun c xs r z=>by subst z;rw[r]at mu;exact mu
 by_cases hb:b=x
 ·subst hb;rw[Yc]at q;cases q;exact new
 ·rw[ZM hb]at q
  by_cases hbe:b=e
  ·have q':H b=some (.own x):=by
    rcases he with z|z
    ·exact absurd (hbe.trans z) hb
    ·rw[hbe];exact z
   rw[q]at q';cases q'
   obtain⟨v,hv⟩:=heo
   exact⟨v,by rw[hbe];exact hv⟩
  ·refine(ok b u q).stay (fun c v hc r=>k c v ?_ r) (fun c r=>by rw[ZM (nown c b r)];exact r) fun c xs r=>by rw[ZM (ntup c xs r)];exact r
   rcases hc with rfl|hc
   ·exact hbe
   ·rintro rfl
    rcases he with z|z
    ·exact nown c b hc z
    ·rw[hc]at z;cases z;exact hb rfl
end
structure Un(fs ex:List Addr)(H H':Hp)(h h':Heap):Prop where
 keep:∀b o,h.get? b=some o->H b=none->b∉fs->b∉ex->h'.get? b=some o
 slot:∀b o,h.get? b=some o->H b=none->b∈fs->b∉ex->∃sl,h'.get? b=some { o with slots:=sl }
 free:∀b o,h.get? b=some o->H b=none->b∉ex->H' b=none
 there:∀b o,h.get? b=some o->b∉ex->∃o',h'.get? b=some o'
 tups:∀b xs,H b=some (.tup xs)->H' b=some (.tup xs)
 frzs:∀b o u,H b=some (.frz o u)->H' b=some (.frz o u)
 tbls:∀b ps,H b=some (.tbl ps)->∃more,H' b=some (.tbl (ps++more))
section
variable{fs fs' ex ex':List Addr}{H H1 H2:Hp}{h h1 h2 h':Heap}{a x e:Addr}{o:HO}
theorem Un.any(u:Un fs ex H H1 h h1){b:Addr}{ob:Obj}(q:h.get? b=some ob)(n:H b=none)(hx:b∉ex):∃sl,h1.get? b=some { ob with slots:=sl }:=by
 by_cases hb:b∈fs
 ·exact u.slot b ob q n hb hx
 ·exact⟨ob.slots,u.keep b ob q n hb hx⟩
theorem Un.trans(a:Un fs ex H H1 h h1)(b:Un fs ex H1 H2 h1 h2):Un fs ex H H2 h h2 where
 keep:=fun c ob q n hc hx=>b.keep c ob (a.keep c ob q n hc hx) (a.free c ob q n hx) hc hx
 slot:=fun c ob q n hc hx=>by
  obtain⟨sl,e1⟩:=a.slot c ob q n hc hx
  obtain⟨sl',e2⟩:=b.slot c _ e1 (a.free c ob q n hx) hc hx
  exact⟨sl',e2⟩
 free:=fun c ob q n hx=>by
  obtain⟨o',e1⟩:=a.there c ob q hx
  exact b.free c o' e1 (a.free c ob q n hx) hx
 there:=fun c ob q hx=>by
  obtain⟨o',e1⟩:=a.there c ob q hx
  exact b.there c o' e1 hx
 tups:=fun c xs q=>b.tups c xs (a.tups c xs q)
 frzs:=fun c ob xs q=>b.frzs c ob xs (a.frzs c ob xs q)
 tbls:=fun c ps q=>by
  obtain⟨m1,e1⟩:=a.tbls c ps q
  obtain⟨m2,e2⟩:=b.tbls c _ e1
  exact⟨m1++m2,by rw[e2,Array.append_assoc]⟩
theorem Un.kept(k:∀b u,h.get? b=some u->h'.get? b=some u):Un fs ex H H h h' :=
 ⟨fun b ob q _ _ _=>k b ob q,fun b ob q _ _ _=>⟨ob.slots,k b ob q⟩,fun _ _ _ n _=>n,fun b ob q _=>⟨ob,k b ob q⟩,fun _ _ q=>q,fun _ _ _ q=>q,fun _ ps q=>⟨#[],by rw[q];simp⟩⟩
theorem Un.refl:Un fs ex H H h h:=Un.kept fun _ _ q=>q
theorem Un.laid(k:∀b u,h.get? b=some u->h'.get? b=some u)(hp:h.objs.size<=a)(hn:H a=none):Un fs ex H (Y1 H a o) h h' where
 keep:=fun b u q _ _ _=>k b u q
 slot:=fun b u q _ _ _=>⟨u.slots,k b u q⟩
 free:=fun b u q n _=>by rw[ZM (Qo (Qw (Qk q) hp))];exact n
 there:=fun b u q _=>⟨u,k b u q⟩
 tups:=fun b xs q=>by rw[ZM (ZS q hn)];exact q
 frzs:=fun b u xs q=>by rw[ZM (ZS q hn)];exact q
 tbls:=fun b ps q=>⟨#[],by rw[ZM (ZS q hn),q];simp⟩
theorem Un.write(mu:Mut (H x))(he:e=x\/H e=some (.own x))(k:∀b u,b≠e->h.get? b=some u->h'.get? b=some u)(heo:∃u,h'.get? e=some u):Un fs ex H (Y1 H x o) h h':=by
 have hx:∀b,H b=none->b≠x:=fun b n z=>by subst z;rw[n]at mu;exact mu
 have hb:∀b,H b=none->b≠e:=fun b n z=>by
  subst z
  rcases he with r|r
  ·exact hx b n r
  ·rw[n]at r;cases r
 have hm:∀b u,H b=some u->¬Mut (some u)->b≠x:=fun b u q nm z=>by subst z;rw[q]at mu;exact nm mu
 refine⟨fun b u q n _ _=>k b u (hb b n) q,fun b u q n _ _=>⟨u.slots,k b u (hb b n) q⟩,fun b u q n _=>by rw[ZM (hx b n)];exact n,fun b u q _=>?_,
  fun b xs q=>by rw[ZM (hm b _ q fun z=>z)];exact q,fun b u xs q=>by rw[ZM (hm b _ q fun z=>z)];exact q,fun b ps q=>⟨#[],by rw[ZM (hm b _ q fun z=>z),q];simp⟩⟩
 by_cases hbe:b=e
 ·subst hbe;exact heo
 ·exact⟨u,k b u hbe q⟩
theorem Un.mono(u:Un fs ex H H1 h h1)(hs:∀b∈fs,b∈fs')(hx:∀b∈ex,b∈ex'):Un fs' ex' H H1 h h1 :=
 ⟨fun b ob q n hb he=>u.keep b ob q n (fun z=>hb (hs b z)) fun z=>he (hx b z),fun _ _ q n _ he=>u.any q n fun z=>he (hx _ z),fun b ob q n he=>u.free b ob q n fun z=>he (hx b z),fun b ob q he=>u.there b ob q fun z=>he (hx b z),u.tups,u.frzs,u.tbls⟩
end
def trk(h:Heap)(H:Hp):List Addr:=(List.range h.objs.size).filter fun a=>(H a).isSome
def Zgo(h:Heap)(H:Hp):Heap:=PySem.W.hideAll h (trk h H)
theorem Zom(h:Heap)(H:Hp):(Zgo h H).objs.size=h.objs.size:=PySem.W.hideAll_size _ _
theorem Zsf{h:Heap}{H:Hp}{b:Addr}{o:Obj}(e:h.get? b=some o)(n:H b=none):(Zgo h H).get? b=some o :=
 PySem.W.hideAll_get _ e fun hm=>by
  have q:(H b).isSome=true:=(List.mem_filter.mp hm).2
  rw[n]at q;simp at q
theorem Zve{h:Heap}{H:Hp}{b:Addr}{o:Obj}(e:(Zgo h H).get? b=some o):h.get? b=some o/\H b=none:=by
 have e':h.get? b=some o:=PySem.W.of_hideAll (trk h H) e
 refine⟨e',?_⟩
 cases q:H b with
 |none=>rfl
 |some x =>
  have hm:b∈trk h H:=List.mem_filter.mpr ⟨QJ.mpr (Qk e'),by simp[q]⟩
  have z:(Zgo h H).get? b=none:=PySem.W.hideAll_none (trk h H) hm
  rw[z]at e;cases e
def Zwn(g h:Heap)(L:Addr):List (Addr×Obj):=(List.range h.objs.size).filterMap fun a=>if a=L\/(g.get? a).isSome=true then none else(h.get? a).map fun o=>(a,o)
def Z0(g h:Heap)(L d:Addr):List (Addr×Obj):=(Zwn g h L).filter fun p=>decide (p.1≠d)
structure Mod(K:PySem.W.Frag)(mg:Str->Option Value)(base:Heap):Prop where
 kin:K.In base
 glob:base.Ns mainGlobals mg
 blt:∃mb,base.Ns builtinsNs mb/\∀x:Str,x≠"__name__"->mb x=bootBuiltins x
 nolimit:base.NoLimit
structure Cx where
 prog:Program
 w:World
 K:PySem.W.Frag
 mg:Str->Option Value
 base:Heap
 A:Around
 N:List Str
 s₀:Shared
 H₀:Hp
 env:Env
 outer:List Env
 stack:List Env
 ex:List Addr
 fn:Str->Bool
 calm:Bool
 pn:List (Addr×Obj)
 xe:Value->Shared->Prop
def Vg(l:List Env):List Addr:=l.filterMap (·.frame)
abbrev Cx.fs(X:Cx):List Addr:=Vg X.outer
def Zwp(sc:Scope)(x:Str):Prop:=sc.names.lookup x=some .local\/sc.names.lookup x=some .cell\/sc.names.lookup x=some .free
def Zpc(sc:Scope)(x:Str):Prop:=sc.names.lookup x=some .local\/sc.names.lookup x=some .cell
def Look(env:Env)(h:Heap)(m:Str->Option Value)(x:Str)(u:Value):Prop :=
 (env.kindOf x=some .local/\m x=some u)\/((env.kindOf x=some .cell\/env.kindOf x=some .free)/\∃c,env.cells.lookup x=some c/\h.IsCell c (some u))
structure Cx.Ok(X:Cx):Prop where
 mod:Mod X.K X.mg X.base
 kind:X.env.scope.kind=.function
 glob:X.env.globals=mainGlobals
 blt:X.env.builtins=builtinsNs
 above:X.s₀.heap.objs.size<=X.env.locals
 inj:∀x y c,X.env.cells.lookup x=some c->X.env.cells.lookup y=some c->x=y
 has:∀x,(X.env.kindOf x=some .cell\/X.env.kindOf x=some .free)->∃c,X.env.cells.lookup x=some c
 cab:∀x c,X.fn x=true->X.env.cells.lookup x=some c->X.s₀.heap.objs.size<=c
 hd:X.calm=true->X.A.handled=none
 frames:X.A.frames=some X.stack
 stk:X.stack=X.outer\/(X.stack=X.env::X.outer/\X.env.frame=some X.env.locals)
 exf:∀b∈X.ex,b≠X.env.locals/\∀x c,X.env.cells.lookup x=some c->c≠b
 bs:∀b o,X.base.get? b=some o->X.s₀.heap.get? b=some o/\X.H₀ b=none
 bsz:X.base.objs.size<=X.s₀.heap.objs.size
 noex:∀b o,X.base.get? b=some o->b∉X.ex
 exfs:∀b∈X.ex,b∉X.fs
 funs:X.s₀.heap.FunFrames X.base X.outer
 frf:∀b∈X.fs,X.H₀ b=none
structure Zq(X:Cx)(pins:List (Addr×Obj))(σ:List (Option V))(H:Hp)(s:Shared):Prop where
 ok:X.Ok
 os:s.os=X.s₀.os
 bare:AllBare s.gens
 base:Un X.fs X.ex X.H₀ H X.s₀.heap s.heap
 loc:∃m,s.heap.Ns X.env.locals m/\∀(i:Nat) (x:Str) (v:V),X.N[i]?=some x->σ[i]?=some (some v)->Zwp X.env.scope x->∃u,ZU v u/\Look X.env s.heap m x u
 cell:∀x c,X.env.cells.lookup x=some c->∃v,s.heap.IsCell c v
 free:H X.env.locals=none
 freeC:∀x c,X.env.cells.lookup x=some c->H c=none
 pin:∀p∈X.pn++pins,s.heap.get? p.1=some p.2/\H p.1=none/\p.1≠X.env.locals/\p.1∉X.fs/\∀v,p.2.data≠.cell v
 hok:Ua X.prog X.w H s.heap
 len:σ.length=X.N.length
section
variable{X:Cx}{pins:List (Addr×Obj)}{σ:List (Option V)}{H H':Hp}{s:Shared}{h':Heap}
theorem Cx.Ok.nofr(ok:X.Ok){b:Addr}{o:Obj}(e:X.base.get? b=some o):b∉X.fs:=fun hb=>by
 have:=(ok.funs.mem hb).1
 rw[e]at this;cases this
theorem Zq.bs(I:Zq X pins σ H s):∀b o,X.base.get? b=some o->s.heap.get? b=some o/\H b=none:=fun b o e =>
 ⟨I.base.keep b o (I.ok.bs b o e).1 (I.ok.bs b o e).2 (I.ok.nofr e) (I.ok.noex b o e),I.base.free b o (I.ok.bs b o e).1 (I.ok.bs b o e).2 (I.ok.noex b o e)⟩
theorem Zq.bk(I:Zq X pins σ H s):∀b o,X.base.get? b=some o->s.heap.get? b=some o:=fun b o e=>(I.bs b o e).1
theorem Zq.mod(I:Zq X pins σ H s):Mod X.K X.mg X.base:=I.ok.mod
theorem Zq.kIn(I:Zq X pins σ H s):X.K.In s.heap:=I.ok.mod.kin.keeps I.bk
theorem Zq.nolimit(I:Zq X pins σ H s):s.heap.NoLimit:=I.ok.mod.nolimit.keeps I.bk
theorem Zq.fr(I:Zq X pins σ H s):∃m,Fr X.base X.env.locals s.heap m :=
 let⟨m,hn,_⟩:=I.loc
 ⟨m,hn,I.bk,Jw I.ok.bsz I.ok.above⟩
theorem Zq.lt(I:Zq X pins σ H s):X.env.locals<s.heap.objs.size:=let⟨_,hn,_⟩:=I.loc;hn.lt
theorem Zq.sz(I:Zq X pins σ H s):X.s₀.heap.objs.size<=s.heap.objs.size:=Jw I.ok.above (Nat.le_of_lt I.lt)
theorem Zq.nofs(I:Zq X pins σ H s){a:Addr}(h:s.heap.objs.size<=a):a∉X.fs:=fun hb=>by
 obtain⟨_,o,ho,_⟩:=I.ok.funs.mem hb
 exact absurd (Qw (Qk ho) (Jw I.sz h)) (Ji _)
theorem Zq.cne(I:Zq X pins σ H s):∀x c,X.env.cells.lookup x=some c->c≠X.env.locals:=fun x c e z=>by
 obtain⟨v,o,ho,hd⟩:=I.cell x c e
 obtain⟨m,⟨o',es,ep,ho',hd',_⟩,_⟩:=I.loc
 rw[z,ho']at ho;cases ho;rw[hd']at hd;cases hd
theorem Zq.funs(I:Zq X pins σ H s):s.heap.FunFrames X.base X.outer:=by
 have all:∀(l:List Env),(∀b∈Vg l,b∈X.fs)->X.s₀.heap.FunFrames X.base l->s.heap.FunFrames X.base l:=by
  intro l
  induction l with
  |nil=>intro _ _;trivial
  |cons env r ih =>
   intro hs hl
   obtain⟨hk,⟨L,o,hf,hn,ho,hd⟩,hr⟩:=hl
   have hL:L∈X.fs:=hs L (by unfold Vg;rw[List.filterMap_cons,hf];exact Qf)
   obtain⟨sl,e⟩:=I.base.slot L o ho (I.ok.frf L hL) hL fun z=>I.ok.exfs L z hL
   exact⟨hk,⟨L,_,hf,hn,e,hd⟩,ih (fun b hb=>hs b (by unfold Vg;rw[List.filterMap_cons,hf];exact Qe _ hb)) hr⟩
 exact all X.outer (fun _ hb=>hb) I.ok.funs
theorem Zq.stack(I:Zq X pins σ H s):s.heap.FunFrames X.base X.stack:=by
 rcases I.ok.stk with e|⟨e,hf⟩
 ·rw[e];exact I.funs
 ·rw[e]
  obtain⟨m,hn,_⟩:=I.loc
  refine .cons (by rw[I.ok.kind];decide) hf hn ?_ I.funs
  exact Heap.get?_none_of_le (Jw I.ok.bsz I.ok.above)
theorem Zq.stkSub(I:Zq X pins σ H s):∀b∈Vg X.stack,b∈X.env.locals::X.fs:=fun b hb=>by
 rcases I.ok.stk with e|⟨e,hf⟩
 ·rw[e]at hb;exact Qe _ hb
 ·rw[e]at hb
  unfold Vg at hb
  rw[List.filterMap_cons,hf]at hb
  exact hb
theorem Zq.stkFree(I:Zq X pins σ H s):∀b∈Vg X.stack,H b=none:=fun b hb=>by
 rcases Ql.mp (I.stkSub b hb) with e|hb
 ·rw[e];exact I.free
 ·obtain⟨_,o,ho,_⟩:=I.ok.funs.mem hb
  exact I.base.free b o ho (I.ok.frf b hb) fun z=>I.ok.exfs b z hb
theorem Zq.step{g':Array GenState}{t':Nat}{d':Drawn}{ch:List Addr}(I:Zq X pins σ H s)
  (hch:∀b∈ch,(b∈X.ex\/X.s₀.heap.objs.size<=b)/\b≠X.env.locals/\(∀x c,X.env.cells.lookup x=some c->c≠b)/\∀p∈X.pn++pins,p.1≠b)
  (keep:∀b o,b≠X.env.locals->b∉X.fs->b∉ch->s.heap.get? b=some o->H b=none->h'.get? b=some o)
  (slot:∀b o,b≠X.env.locals->b∈X.fs->b∉ch->s.heap.get? b=some o->H b=none->∃sl,h'.get? b=some { o with slots:=sl }) (free:∀b o,b∉ch->s.heap.get? b=some o->H b=none->H' b=none)
  (there:∀b o,b∉ch->s.heap.get? b=some o->∃o',h'.get? b=some o')
  (tups:∀b xs,H b=some (.tup xs)->H' b=some (.tup xs)) (frzs:∀b o u,H b=some (.frz o u)->H' b=some (.frz o u)) (tbls:∀b ps,H b=some (.tbl ps)->∃more,H' b=some (.tbl (ps++more)))
  (ns:∀m,s.heap.Ns X.env.locals m->h'.Ns X.env.locals m) (hok:Ua X.prog X.w H' h') (hg:AllBare g') :
  Zq X pins σ H' { s with heap:=h',gens:=g',drawn:=d',toks:=t' }:=by
 have neL:∀b o,X.s₀.heap.get? b=some o->b≠X.env.locals:=fun b o e=>Qo (Qw (Qk e) I.ok.above)
 have neC:∀b o,X.s₀.heap.get? b=some o->b∉X.ex->b∉ch:=fun b o e hx hb=>by
  rcases(hch b hb).1 with z|z
  ·exact hx z
  ·exact absurd (Qw (Qk e) z) (Ji _)
 have cellK:∀x c,X.env.cells.lookup x=some c->∀v,s.heap.IsCell c v->h'.IsCell c v:=fun x c e v ⟨o,ho,hd⟩=>by
  have nch:c∉ch:=fun z=>(hch c z).2.2.1 x c e rfl
  by_cases hc:c∈X.fs
  ·obtain⟨sl,q⟩:=slot c o (I.cne x c e) hc nch ho (I.freeC x c e)
   exact⟨_,q,hd⟩
  ·exact⟨o,keep c o (I.cne x c e) hc nch ho (I.freeC x c e),hd⟩
 refine⟨I.ok,I.os,hg,⟨fun b o e n hb hx=>?_,fun b o e n hb hx=>?_,fun b o e n hx=>?_,fun b o e hx=>?_,fun b xs e=>tups b xs (I.base.tups b xs e),fun b o xs e=>frzs b o xs (I.base.frzs b o xs e),fun b ps e=>?_⟩,?_,fun x c e=>?_,?_,fun x c e=>?_,fun p hp=>?_,hok,I.len⟩
 ·exact keep b o (neL b o e) hb (neC b o e hx) (I.base.keep b o e n hb hx) (I.base.free b o e n hx)
 ·obtain⟨sl,e1⟩:=I.base.slot b o e n hb hx
  obtain⟨sl',e2⟩:=slot b _ (neL b o e) hb (neC b o e hx) e1 (I.base.free b o e n hx)
  exact⟨sl',e2⟩
 ·obtain⟨o',e1⟩:=I.base.there b o e hx
  exact free b o' (neC b o e hx) e1 (I.base.free b o e n hx)
 ·obtain⟨o',e1⟩:=I.base.there b o e hx
  exact there b o' (neC b o e hx) e1
 ·obtain⟨m1,e1⟩:=I.base.tbls b ps e
  obtain⟨m2,e2⟩:=tbls b _ e1
  exact⟨m1++m2,by rw[e2,Array.append_assoc]⟩
 ·obtain⟨m,hn,hl⟩:=I.loc
  refine⟨m,ns m hn,fun i x v e1 e2 e3=>?_⟩
  obtain⟨u,r,l⟩:=hl i x v e1 e2 e3
  refine⟨u,r,?_⟩
  rcases l with l|⟨k,c,e,z⟩
  ·exact .inl l
  ·exact .inr ⟨k,c,e,cellK x c e _ z⟩
 ·obtain⟨v,z⟩:=I.cell x c e
  exact⟨v,cellK x c e v z⟩
 ·obtain⟨m,⟨o,_,_,ho,_⟩,_⟩:=I.loc
  exact free _ o (fun z=>(hch _ z).2.1 rfl) ho I.free
 ·obtain⟨v,o,ho,hd⟩:=I.cell x c e
  exact free c o (fun z=>(hch c z).2.2.1 x c e rfl) ho (I.freeC x c e)
 ·obtain⟨e,n,ne,nf,d⟩:=I.pin p hp
  have nch:p.1∉ch:=fun z=>(hch p.1 z).2.2.2 p hp rfl
  exact⟨keep p.1 p.2 ne nf nch e n,free p.1 p.2 nch e n,ne,nf,d⟩
theorem Zq.un{t':Nat}(I:Zq X pins σ H s)(u:Un X.fs [] H H' s.heap h')(hok:Ua X.prog X.w H' h'):Zq X pins σ H' { s with heap:=h',toks:=t' }:=by
 obtain⟨m,⟨o,es,ep,ho,r⟩,_⟩:=id I.loc
 obtain⟨sl,hL⟩:=u.any ho I.free (by simp)
 exact I.step (g':=s.gens) (d':=s.drawn) (ch:=[]) (fun _ z=>nomatch z) (fun b o _ hb _ e n=>u.keep b o e n hb (by simp)) (fun b o _ hb _ e n=>u.slot b o e n hb (by simp)) (fun b o _ e n=>u.free b o e n (by simp)) (fun b o _ e=>u.there b o e (by simp)) u.tups u.frzs u.tbls (fun m' hm=>by
  obtain⟨o',es',ep',ho',r'⟩:=hm
  rw[ho]at ho';cases ho'
  exact⟨_,es',ep',hL,r'⟩) hok I.bare
theorem Zq.call{g':Array GenState}{t':Nat}{d':Drawn}{ch:List Addr}(I:Zq X pins σ H s)(u:Un (Vg X.stack) ch H H' s.heap h')(hok:Ua X.prog X.w H' h')(hg:AllBare g')
  (hch:∀b∈ch,(b∈X.ex\/X.s₀.heap.objs.size<=b)/\b≠X.env.locals/\(∀x c,X.env.cells.lookup x=some c->c≠b)/\∀p∈X.pn++pins,p.1≠b) :
  Zq X pins σ H' { s with heap:=h',gens:=g',drawn:=d',toks:=t' }:=by
 obtain⟨m,⟨o,es,ep,ho,r⟩,_⟩:=id I.loc
 obtain⟨sl,hL⟩:=u.any ho I.free fun z=>(hch _ z).2.1 rfl
 exact I.step (ch:=ch) hch (fun b o hL hb hc e n=>u.keep b o e n (fun z=>(Ql.mp (I.stkSub b z)).elim hL hb) hc) (fun b o _ _ hc e n=>u.any e n hc) (fun b o hc e n=>u.free b o e n hc) (fun b o hc e=>u.there b o e hc) u.tups u.frzs u.tbls (fun m' hm=>by
  obtain⟨o',es',ep',ho',r'⟩:=hm
  rw[ho]at ho';cases ho'
  exact⟨_,es',ep',hL,r'⟩) hok hg
theorem Zq.turned{t':Nat}{it:Addr}(I:Zq X pins σ H s)(k:∀b o,b≠it->s.heap.get? b=some o->h'.get? b=some o)(hn:H it=none)(hL:it≠X.env.locals)
  (h1:it∈X.ex\/X.s₀.heap.objs.size<=it) (h2:∀x c,X.env.cells.lookup x=some c->c≠it) (h3:∀p∈X.pn++pins,p.1≠it):Zq X pins σ H { s with heap:=h',toks:=t' }:=by
 have nit:∀b u,H b=some u->b≠it:=fun b u e z=>by rw[z,hn]at e;cases e
 refine I.step (g':=s.gens) (d':=s.drawn) (ch:=[it]) (fun b hb=>?_) (fun b o _ _ hc e _=>k b o (fun z=>hc (by simp[z])) e) (fun b o _ _ hc e _=>⟨o.slots,k b o (fun z=>hc (by simp[z])) e⟩) (fun _ _ _ _ n=>n)
  (fun b o hc e=>⟨o,k b o (fun z=>hc (by simp[z])) e⟩) (fun _ _ e=>e) (fun _ _ _ e=>e) (fun b ps e=>⟨#[],by rw[e];simp⟩) (fun m hm=>?_) (fun b u e=>?_) I.bare
 ·have e:b=it:=by simpa using hb
  subst e
  exact⟨h1,hL,h2,h3⟩
 ·obtain⟨o,es,ep,ho,r⟩:=hm
  exact⟨o,es,ep,k _ o (JO hL) ho,r⟩
 ·refine(I.hok b u e).stay (fun c v hc q=>k c v ?_ q) (fun _ q=>q) fun _ _ q=>q
  rcases hc with z|z
  ·rw[z];exact nit b u e
  ·exact nit c _ z
theorem Zq.tok(I:Zq X pins σ H s)(t:Nat):Zq X pins σ H { s with toks:=t }:=I.un (h':=s.heap) (t':=t) Un.refl I.hok
theorem Zq.kept{t':Nat}(I:Zq X pins σ H s)(k:∀b u,s.heap.get? b=some u->h'.get? b=some u):Zq X pins σ H { s with heap:=h',toks:=t' }:=I.un (Un.kept k) (I.hok.kept k)
theorem Zq.laid{a:Addr}{o:HO}{t':Nat}(I:Zq X pins σ H s)(k:∀b u,s.heap.get? b=some u->h'.get? b=some u)(hp:s.heap.objs.size<=a)(new:Yr X.prog X.w (Y1 H a o) h' a o) :
  Zq X pins σ (Y1 H a o) { s with heap:=h',toks:=t' }:=I.un (Un.laid k hp (I.hok.fresh hp)) (I.hok.laid k hp new)
theorem Zq.write{x e:Addr}{o:HO}{t':Nat}(I:Zq X pins σ H s)(mu:Mut (H x))(he:e=x\/H e=some (.own x))(k:∀b u,b≠e->s.heap.get? b=some u->h'.get? b=some u)(heo:∃u,h'.get? e=some u)
  (new:Yr X.prog X.w (Y1 H x o) h' x o):Zq X pins σ (Y1 H x o) { s with heap:=h',toks:=t' }:=I.un (Un.write mu he k heo) (I.hok.write mu he k heo new)
theorem Zq.weak{σ':List (Option V)}(I:Zq X pins σ H s)(hl:σ'.length=σ.length)(w:∀(i:Nat) v,σ'[i]?=some (some v)->σ[i]?=some (some v)):Zq X pins σ' H s :=
 ⟨I.ok,I.os,I.bare,I.base,let⟨m,hn,hl'⟩:=I.loc;⟨m,hn,fun i x v e1 e2 e3=>hl' i x v e1 (w i v e2) e3⟩,I.cell,I.free,I.freeC,I.pin,I.hok,hl.trans I.len⟩
theorem Zq.pins_of{pins':List (Addr×Obj)}(I:Zq X pins σ H s)(h:∀p∈pins',s.heap.get? p.1=some p.2/\H p.1=none/\p.1≠X.env.locals/\p.1∉X.fs/\∀v,p.2.data≠.cell v):Zq X pins' σ H s :=
 ⟨I.ok,I.os,I.bare,I.base,I.loc,I.cell,I.free,I.freeC,fun p hp=>(QE.mp hp).elim (fun z=>I.pin p (Q3 _ z)) (h p),I.hok,I.len⟩
theorem Zcv{N:List Str}(hN:N.Nodup){i j:Nat}{x:Str}(a:N[i]?=some x)(b:N[j]?=some x):i=j:=by
 obtain⟨h1,e1⟩:=Qj.mp a
 obtain⟨h2,e2⟩:=Qj.mp b
 exact(List.getElem_inj hN).mp (e1.trans e2.symm)
theorem Zeu{M:Model}{A:Around}{E:Value->Shared->Prop}{i:Nat}{x:Str}{v:V}{u:Value}{Q:Unit->Shared->Prop}(I:Zq X pins σ H s)(hN:X.N.Nodup)(hi:X.N[i]?=some x)(hx:Zpc X.env.scope x)(r:ZU v u)
  (h:∀s',Zq X pins (σ.set i (some v)) H s'->(∃a,Heap.SameBut a s.heap s'.heap/\(a=X.env.locals\/X.env.cells.lookup x=some a))->Q () s') (hf:X.fn x=true\/X.env.scope.names.lookup x=some .local:=by first|exact .inl rfl|exact .inr rfl|assumption):wpAny M A (storeName X.env x u) Q E s:=by
 obtain⟨m,hn,hl⟩:=id I.loc
 have hcls:(X.env.scope.kind == .class||(X.env.scope.kind == .module&&X.env.locals != X.env.globals))=false:=by rw[I.ok.kind];rfl
 have hiσ:i<σ.length:=by rw[I.len];exact(Qj.mp hi).1
 have cne:=I.cne
 have tracked:∀{a:Addr} {h':Heap},(∃o,s.heap.get? a=some o/\H a=none)->Heap.SameBut a s.heap h'->Ua X.prog X.w H h':=fun{a h'} ha hs b ob e=>by
  obtain⟨_,_,hfree⟩:=ha
  refine(I.hok b ob e).stay (fun c w' hc q=>(hs.2 c ?_).trans q) (fun _ q=>q) fun _ _ q=>q
  rintro rfl
  rcases hc with rfl|hc
  ·rw[hfree]at e;cases e
  ·rw[hfree]at hc;cases hc
 rcases hx with hk|hk
 ·refine wpAny_storeName_local hk hn (fun h' hn' hs=>?_) hcls
  obtain⟨oL,_,_,hoL,_⟩:=id hn
  refine h _ ⟨I.ok,I.os,I.bare,⟨fun b o e n hb hx=>?_,fun b o e n hb hx=>?_,I.base.free,fun b o e hx=>?_,I.base.tups,I.base.frzs,I.base.tbls⟩,⟨_,hn',fun j y v' e1 e2 e3=>?_⟩,fun y c e=>?_,I.free,I.freeC,fun p hp=>?_,tracked ⟨oL,hoL,I.free⟩ hs,by simpa using I.len⟩ ⟨_,hs,.inl rfl⟩
  ·exact(hs.2 b (Qo (Qw (Qk e) I.ok.above))).trans (I.base.keep b o e n hb hx)
  ·obtain⟨sl,e1⟩:=I.base.slot b o e n hb hx
   exact⟨sl,(hs.2 b (Qo (Qw (Qk e) I.ok.above))).trans e1⟩
  ·obtain⟨o',e1⟩:=I.base.there b o e hx
   exact⟨o',(hs.2 b (Qo (Qw (Qk e) I.ok.above))).trans e1⟩
  ·by_cases hj:j=i
   ·subst hj
    rw[hi]at e1;cases e1
    rw[Q4 hiσ]at e2
    cases e2
    exact⟨u,r,.inl ⟨hk,by simp⟩⟩
   ·rw[QD (JO hj)]at e2
    obtain⟨u',r',q⟩:=hl j y v' e1 e2 e3
    refine⟨u',r',?_⟩
    rcases q with⟨k,e⟩|⟨k,c,e,z⟩
    ·refine .inl ⟨k,?_⟩
     have:y≠x:=fun e=>hj (Zcv hN e1 (e▸hi))
     simp[this,e]
    ·exact .inr ⟨k,c,e,z.sameBut hs (cne y c e)⟩
  ·obtain⟨w',z⟩:=I.cell y c e
   exact⟨w',z.sameBut hs (cne y c e)⟩
  ·obtain⟨e,n,ne,nf,d⟩:=I.pin p hp
   exact⟨(hs.2 p.1 ne).trans e,n,ne,nf,d⟩
 ·have hfn:X.fn x=true:=by
   rcases hf with z|z
   ·exact z
   ·rw[z]at hk;cases hk
  obtain⟨c,hc⟩:=I.ok.has x (.inl hk)
  obtain⟨w',z⟩:=I.cell x c hc
  refine wpAny_storeName_cell I.ok.kind hk hc z (fun h' hc' hs=>?_)
  obtain⟨oc,hoc,hocd⟩:=id z
  refine h { s with heap:=h' } ⟨I.ok,I.os,I.bare,⟨fun b o e n hb hx=>?_,fun b o e n hb hx=>?_,I.base.free,fun b o e hx=>?_,I.base.tups,I.base.frzs,I.base.tbls⟩,⟨m,hn.sameBut hs (JO (cne x c hc)),fun j y v' e1 e2 e3=>?_⟩,fun y c' e=>?_,I.free,I.freeC,fun p hp=>?_,tracked ⟨oc,hoc,I.freeC x c hc⟩ hs,by simpa using I.len⟩ ⟨c,hs,.inr hc⟩
  ·exact(hs.2 b (Qo (Qw (Qk e) (I.ok.cab x c hfn hc)))).trans (I.base.keep b o e n hb hx)
  ·obtain⟨sl,e1⟩:=I.base.slot b o e n hb hx
   exact⟨sl,(hs.2 b (Qo (Qw (Qk e) (I.ok.cab x c hfn hc)))).trans e1⟩
  ·obtain⟨o',e1⟩:=I.base.there b o e hx
   exact⟨o',(hs.2 b (Qo (Qw (Qk e) (I.ok.cab x c hfn hc)))).trans e1⟩
  ·by_cases hj:j=i
   ·subst hj
    rw[hi]at e1;cases e1
    rw[Q4 hiσ]at e2
    cases e2
    exact⟨u,r,.inr ⟨.inl hk,c,hc,hc'⟩⟩
   ·rw[QD (JO hj)]at e2
    obtain⟨u',r',q⟩:=hl j y v' e1 e2 e3
    refine⟨u',r',?_⟩
    rcases q with q|⟨k,c',e,z'⟩
    ·exact .inl q
    ·refine .inr ⟨k,c',e,z'.sameBut hs ?_⟩
     rintro rfl
     exact hj (Zcv hN e1 (I.ok.inj _ _ _ e hc▸hi))
  ·by_cases hcc:c'=c
   ·subst hcc;exact⟨_,hc'⟩
   ·obtain⟨w2,z2⟩:=I.cell y c' e
    exact⟨w2,z2.sameBut hs hcc⟩
  ·obtain⟨e,n,ne,nf,d⟩:=I.pin p hp
   refine⟨(hs.2 p.1 ?_).trans e,n,ne,nf,d⟩
   intro q
   rw[q,hoc]at e
   have q':oc=p.2:=Q7 e
   exact d w' (by rw[<- q'];exact hocd)
theorem Zch{M:Model}{A:Around}{E:Value->Shared->Prop}{i:Nat}{x:Str}{v:V}{u:Value}{Q:Unit->Shared->Prop}(I:Zq X pins σ H s)(hN:X.N.Nodup)(hi:X.N[i]?=some x)(hx:Zpc X.env.scope x)(r:ZU v u)
  (h:∀s',Zq X pins (σ.set i (some v)) H s'->Q () s') (hf:X.fn x=true\/X.env.scope.names.lookup x=some .local:=by first|exact .inl rfl|exact .inr rfl|assumption):wpAny M A (storeName X.env x u) Q E s :=
 Zeu I hN hi hx r (fun s' I' _=>h s' I') hf
theorem Zq.call'{s':Shared}{ch:List Addr}(I:Zq X pins σ H s)(ho:s'.os=s.os)(u:Un (Vg X.stack) ch H H' s.heap s'.heap)(hok:Ua X.prog X.w H' s'.heap)(hg:AllBare s'.gens)
  (hch:∀b∈ch,(b∈X.ex\/X.s₀.heap.objs.size<=b)/\b≠X.env.locals/\(∀x c,X.env.cells.lookup x=some c->c≠b)/\∀p∈X.pn++pins,p.1≠b):Zq X pins σ H' s':=by
 obtain⟨h',g',d',t',o'⟩:=s'
 have e:o'=s.os:=ho
 subst e
 exact I.call (g':=g') (t':=t') (d':=d') u hok hg hch
end
abbrev XK:=Value->Option Addr->Hp->Prop
abbrev St:=List (Option V)
abbrev VK:=V->Hp->Prop
abbrev TE:=St->Hp->VK->Prop
abbrev TT:=St->Hp->(Bool->Hp->Prop)->Prop
abbrev TA:=St->Hp->(List V->Hp->Prop)->Prop
structure Zd4 where
 nx:St->Hp->Prop
 rt:VK
 bk:St->Hp->Prop:=fun _ _=>False
 ct:St->Hp->Prop:=fun _ _=>False
abbrev TS:=Zd4->St->Hp->Prop
def EP(X:Cx)(pins:List (Addr×Obj))(σ:St)(Q:VK)(u:Value)(s':Shared):Prop:=∃v H',Zq X pins σ H' s'/\ZU v u/\Q v H'
def TP(X:Cx)(pins:List (Addr×Obj))(σ:St)(Q:Bool->Hp->Prop)(b:Bool)(s':Shared):Prop:=∃H',Zq X pins σ H' s'/\Q b H'
def AP(X:Cx)(pins:List (Addr×Obj))(σ:St)(Q:List V->Hp->Prop)(us:List Value)(s':Shared):Prop:=∃vs H',Zq X pins σ H' s'/\ZB vs us/\Q vs H'
def SP(X:Cx)(pins:List (Addr×Obj))(D:Zd4)(f:Flow)(s':Shared):Prop :=
 match f with
 |.next=>∃σ' H',Zq X pins σ' H' s'/\D.nx σ' H'
 |.brk=>∃σ' H',Zq X pins σ' H' s'/\D.bk σ' H'
 |.cont=>∃σ' H',Zq X pins σ' H' s'/\D.ct σ' H'
 |.ret u=>∃v σ' H',Zq X pins σ' H' s'/\ZU v u/\D.rt v H'
def PE(X:Cx)(e:Expr)(t:TE):Prop :=
 ∀(pins:List (Addr×Obj)) (s:Shared) (σ:St) (H:Hp) (Q:VK),Zq X pins σ H s->t σ H Q->wpAny (model X.prog X.w) X.A (eval e X.env) (EP X pins σ Q) X.xe s
def PT(X:Cx)(e:Expr)(t:TT):Prop :=
 ∀(pins:List (Addr×Obj)) (s:Shared) (σ:St) (H:Hp) (Q:Bool->Hp->Prop),Zq X pins σ H s->t σ H Q->wpAny (model X.prog X.w) X.A (isTrue e X.env (eval e X.env)) (TP X pins σ Q) X.xe s
def PW(X:Cx)(e:Expr)(t:TT):Prop :=
 ∀(VO:Sem Value) (pins:List (Addr×Obj)) (s:Shared) (σ:St) (H:Hp) (Q:Bool->Hp->Prop),Zq X pins σ H s->t σ H Q->wpAny (model X.prog X.w) X.A (isTrue e X.env VO) (TP X pins σ Q) X.xe s
theorem PW.pt{X:Cx}{e:Expr}{t:TT}(h:PW X e t):PT X e t:=h _
def PA(X:Cx)(es:List Expr)(t:TA):Prop :=
 ∀(pos:Pos) (pins:List (Addr×Obj)) (s:Shared) (σ:St) (H:Hp) (Q:List V->Hp->Prop),Zq X pins σ H s->t σ H Q->wpAny (model X.prog X.w) X.A (spliced (backTo pos (starEach es X.env))) (AP X pins σ Q) X.xe s
def PS(X:Cx)(st:Stmt)(t:TS):Prop :=
 ∀(pins:List (Addr×Obj)) (s:Shared) (σ:St) (H:Hp) (D:Zd4),Zq X pins σ H s->t D σ H->wpAny (model X.prog X.w) X.A (exec st X.env) (SP X pins D) X.xe s
def Zbd(X:Cx)(st:List Stmt)(t:TS):Prop :=
 ∀(pins:List (Addr×Obj)) (s:Shared) (σ:St) (H:Hp) (D:Zd4),Zq X pins σ H s->t D σ H->wpAny (model X.prog X.w) X.A (execs st X.env) (SP X pins D) X.xe s
theorem YA{α:Type}{t:Sem α}{Q Q':α->Shared->Prop}{M:Model}{A:Around}{E:Value->Shared->Prop}{s:Shared}(h:wpAny M A t Q E s)(hQ:∀a s,Q a s->Q' a s):wpAny M A t Q' E s:=Q5 h hQ fun _ _ x=>x
section
variable{X:Cx}
theorem bin{a b:Expr}{ta tb:TE}(ha:PE X a ta)(hb:PE X b tb){pins:List (Addr×Obj)}{s:Shared}{σ:St}{H:Hp}{R:V->V->Hp->Prop}(I:Zq X pins σ H s)(h:ta σ H fun x H1=>tb σ H1 fun y H2=>R x y H2)
  {α:Type} {Q:α->Shared->Prop} {f:Value->Value->Sem α}
  (hf:∀v u s2 x y H2,Zq X pins σ H2 s2->ZU x v->ZU y u->R x y H2->wpAny (model X.prog X.w) X.A (f v u) Q X.xe s2) :
  wpAny (model X.prog X.w) X.A (eval a X.env) (fun v s₁=>wpAny (model X.prog X.w) X.A (eval b X.env) (fun u s₂=>wpAny (model X.prog X.w) X.A (f v u) Q X.xe s₂) X.xe s₁) X.xe s:=by
 refine YA (ha pins s σ H _ I h) fun v s1 ⟨x,H1,I1,r1,q1⟩=>?_
 refine YA (hb pins s1 σ H1 _ I1 q1) fun u s2 ⟨y,H2,I2,r2,q2⟩=>?_
 exact hf v u s2 x y H2 I2 r1 r2 q2
def Zye(i:Nat):TE:=fun σ H Q=>∃v,σ[i]?=some (some v)/\Q v H
def tC(v:V):TE:=fun _ H Q=>Q v H
theorem Zao{i:Nat}{x:Str}{pos:Pos}(hN:X.N[i]?=some x)(hv:Zwp X.env.scope x)(hd:(x == ("__debug__":Str))=false:=by decide)(hcd:(x == ("__classdict__":Str))=false:=by decide):PE X (.Name x pos) (Zye i):=by
 intro pins s σ H Q I h
 obtain⟨v,e,h⟩:=h
 obtain⟨m,hn,hl⟩:=I.loc
 obtain⟨u,r,l⟩:=hl i x v hN e hv
 have fin:EP X pins σ Q u s:=⟨v,H,I,r,h⟩
 rcases l with⟨hk,hm⟩|⟨hk,c,hc,hcell⟩
 ·exact wpAny_Name (wpAny_loadName_local I.ok.kind hk hn hm fin) hd
 ·rcases hk with hk|hk
  ·exact wpAny_Name (wpAny_loadName_cell I.ok.kind hk hc hcell fin) hd
  ·exact wpAny_Name (wpAny_loadName_free I.ok.kind hk hc hcell fin hcd) hd
theorem Zq4{i j pos}:PE X (.Constant (.int i) j pos) (tC (.int i)):=fun _ _ _ H _ I h=>wpAny_Constant_int ⟨.int i,H,I.tok _,⟨_,rfl⟩,h⟩
theorem Zxe{b j pos}:PE X (.Constant (.bool b) j pos) (tC (.bl b)):=fun _ _ _ H _ I h=>Constant_bool ⟨.bl b,H,I,rfl,h⟩
theorem Zy1{j pos}:PE X (.Constant .none j pos) (tC .non):=fun _ _ _ H _ I h=>Constant_none ⟨.non,H,I,rfl,h⟩
theorem Zq1{x j pos}:PE X (.Constant (.str x) j pos) (tC (.str x)):=fun _ _ _ H _ I h=>Calls.Constant_str ⟨.str x,H,I.tok _,⟨_,rfl⟩,h⟩
def Gl(X:Cx)(x:Str):Prop:=X.env.kindOf x=some .globalImplicit
theorem Uo{E:Value->Shared->Prop}{pins:List (Addr×Obj)}{s:Shared}{σ:St}{H:Hp}{x:Str}{u:Value}{pos:Pos}{Q:Value->Shared->Prop}(I:Zq X pins σ H s)(hg:Gl X x)(hm:X.mg x=some u)(h:Q u s)
  (hd:(x == ("__debug__":Str))=false:=by decide):wpAny (model X.prog X.w) X.A (eval (.Name x pos) X.env) Q E s :=
 Calls.Name_function_global I.ok.kind hg (Calls.loadGlobal_global (by rw[I.ok.glob];exact I.mod.glob.keeps I.bk) hm h) hd
theorem Zat{E:Value->Shared->Prop}{pins:List (Addr×Obj)}{s:Shared}{σ:St}{H:Hp}{x:Str}{u:Value}{pos:Pos}{Q:Value->Shared->Prop}(I:Zq X pins σ H s)(hg:Gl X x)(hm:X.mg x=none)(hv:bootBuiltins x=some u)(h:Q u s)
  (hn:x≠"__name__":=by decide) (hd:(x == ("__debug__":Str))=false:=by decide):wpAny (model X.prog X.w) X.A (eval (.Name x pos) X.env) Q E s:=by
 obtain⟨mb,h1,h2⟩:=I.mod.blt
 exact Calls.Name_function_global I.ok.kind hg (Calls.loadGlobal_builtin (by rw[I.ok.glob];exact I.mod.glob.keeps I.bk) hm (by rw[I.ok.blt];exact h1.keeps I.bk) ((h2 x hn).trans hv) h) hd
theorem Zmf{x:Str}{v:V}{u:Value}{pos:Pos}(hg:Gl X x)(hm:X.mg x=some u)(r:ZU v u)(hd:(x == ("__debug__":Str))=false:=by decide):PE X (.Name x pos) (tC v) :=
 fun _ _ _ H _ I h=>Uo I hg hm ⟨v,H,I,r,h⟩ hd
theorem Zmh{x:Str}{v:V}{u:Value}{pos:Pos}(hg:Gl X x)(hm:X.mg x=none)(hv:bootBuiltins x=some u)(r:ZU v u)(hn:x≠"__name__":=by decide)(hd:(x == ("__debug__":Str))=false:=by decide):PE X (.Name x pos) (tC v) :=
 fun _ _ _ H _ I h=>Zat I hg hm hv ⟨v,H,I,r,h⟩ hn hd
variable{a b:Expr}{ta tb:TE}{pos:Pos}
variable{tA tB':TT}{Z0:List Expr}
def tAnd(t u:TT):TT:=fun σ H Q=>t σ H fun c H1=>if c=true then u σ H1 Q else Q false H1
def tOr(t u:TT):TT:=fun σ H Q=>t σ H fun c H1=>if c=true then Q true H1 else u σ H1 Q
def tNot(t:TT):TT:=fun σ H Q=>t σ H fun c H1=>Q (!c) H1
theorem Zus(ha:PT X a tA):PW X (.BoolOp .And [a] pos) tA:=by
 intro wh pins s σ H Q I h
 refine isTrue_and (YA (ha pins s σ H Q I h) fun c s1 e=>?_)
 cases c with
 |true=>exact isTrue_and_nil e
 |false=>exact e
theorem Zyr(ha:PT X a tA):PW X (.BoolOp .Or [a] pos) tA:=by
 intro wh pins s σ H Q I h
 refine isTrue_or (YA (ha pins s σ H Q I h) fun c s1 e=>?_)
 cases c with
 |false=>exact isTrue_or_nil e
 |true=>exact e
theorem Zys(ha:PT X a tA)(hb:PW X (.BoolOp .And (b::Z0) pos) tB'):PW X (.BoolOp .And (a::b::Z0) pos) (tAnd tA tB'):=by
 intro wh pins s σ H Q I h
 refine isTrue_and (YA (ha pins s σ H _ I h) fun c s1 ⟨H1,I1,q1⟩=>?_)
 cases c with
 |true=>exact hb wh pins s1 σ H1 Q I1 q1
 |false=>exact⟨H1,I1,q1⟩
theorem pw_or(ha:PT X a tA)(hb:PW X (.BoolOp .Or (b::Z0) pos) tB'):PW X (.BoolOp .Or (a::b::Z0) pos) (tOr tA tB'):=by
 intro wh pins s σ H Q I h
 refine isTrue_or (YA (ha pins s σ H _ I h) fun c s1 ⟨H1,I1,q1⟩=>?_)
 cases c with
 |true=>exact⟨H1,I1,q1⟩
 |false=>exact hb wh pins s1 σ H1 Q I1 q1
theorem Zyt(ha:PT X a tA):PT X (.UnaryOp .Not a pos) (tNot tA):=by
 intro pins s σ H Q I h
 exact isTrue_not (ha pins s σ H (fun c H1=>Q (!c) H1) I h)
def tAndV(ta tb:TE):TE:=fun σ H Q=>ta σ H fun x H1=>∃c,x=.bl c/\if c=true then tb σ H1 Q else Q (.bl false) H1
def tNotV(ta:TE):TE:=fun σ H Q=>ta σ H fun x H1=>∃c,x=.bl c/\Q (.bl (!c)) H1
theorem Zyz{op}{t:TE}(h:PE X a t):PE X (.BoolOp op [a] pos) t:=fun pins s σ H Q I hw=>BoolOp_one (h pins s σ H Q I hw)
theorem Zy2(ha:PE X a ta)(hb:PE X (.BoolOp .And (b::Z0) pos) tb):PE X (.BoolOp .And (a::b::Z0) pos) (tAndV ta tb):=by
 intro pins s σ H Q I h
 refine BoolOp_and (YA (ha pins s σ H _ I h) fun v s1 ⟨x,H1,I1,r1,q1⟩=>?_)
 obtain⟨c,rfl,q1⟩:=q1
 cases r1
 refine JH ?_
 cases c with
 |true=>exact hb pins s1 σ H1 Q I1 q1
 |false=>exact⟨.bl false,H1,I1,rfl,q1⟩
theorem Zy0(ha:PE X a ta):PE X (.UnaryOp .Not a pos) (tNotV ta):=by
 intro pins s σ H Q I h
 refine UnaryOp_ (YA (ha pins s σ H _ I h) fun v s1 ⟨x,H1,I1,r1,q1⟩=>?_)
 obtain⟨c,rfl,q1⟩:=q1
 cases r1
 exact not_of (JH ⟨.bl (!c),H1,I1,rfl,q1⟩)
def tIf(t:TT)(ta tb:TE):TE:=fun σ H Q=>t σ H fun c H1=>if c=true then ta σ H1 Q else tb σ H1 Q
theorem Zif{c:Expr}(hc:PT X c tA)(ha:PE X a ta)(hb:PE X b tb):PE X (.IfExp c a b pos) (tIf tA ta tb):=by
 intro pins s σ H Q I h
 refine wpAny_IfExp (YA (hc pins s σ H _ I h) fun d s1 ⟨H1,I1,q1⟩=>?_)
 cases d with
 |true=>exact ha pins s1 σ H1 Q I1 q1
 |false=>exact hb pins s1 σ H1 Q I1 q1
end
def WH(K:PySem.W.Frag)(H:Hp)(a:Addr)(xs:List V):Prop :=
 Rd H a (.lst xs) \/
  ∃(o:Obj) (its:Array Value) (n:Nat),K.lookup a=some o/\o.cls=.type "list"/\o.dict=none/\o.data=.seq its n/\its.size<=sizeLine/\ZB xs its.toList
def Wq(K:PySem.W.Frag)(H:Hp)(a:Addr)(xs:List V):Prop :=
 Rd H a (.tup xs) \/
  ∃(o:Obj) (its:Array Value) (n:Nat),K.lookup a=some o/\o.cls=.type "tuple"/\o.data=.seq its n/\its.size<=sizeLine/\ZB xs its.toList
def absV:Value->Option V
 |.none=>some .non
 |.bool b=>some (.bl b)
 |.int i _=>some (.int i)
 |.str x _=>some (.str x)
 |.bytes b _=>some (.byt b)
 |.float b _=>some (.flt b)
 |.ref a=>some (.ref a)
 |.type n=>some (.ty n)
 |_=>none
theorem ZU.abs{x:V}{u:Value}(r:ZU x u):absV u=some x:=by
 cases x with
 |non=>cases r;rfl
 |bl _=>cases r;rfl
 |int _=>obtain⟨t,rfl⟩:=r;rfl
 |str _=>obtain⟨t,rfl⟩:=r;rfl
 |byt _=>obtain⟨t,rfl⟩:=r;rfl
 |flt _=>obtain⟨t,rfl⟩:=r;rfl
 |ref _=>cases r;rfl
 |ty _=>cases r;rfl
theorem ZU.inj{x y:V}{u:Value}(r:ZU x u)(q:ZU y u):x=y:=Q7 (r.abs.symm.trans q.abs)
theorem ZB.inj:∀{xs ys:List V} {us:List Value},ZB xs us->ZB ys us->xs=ys
 |_,_,_,.nil,.nil=>rfl
 |_,_,_,.cons r t,.cons r' t'=>by rw[r.inj r',ZB.inj t t']
section
variable{X:Cx}{pins:List (Addr×Obj)}{σ:St}{H:Hp}{s:Shared}{a:Addr}{xs ys:List V}
theorem WH.of{K:PySem.W.Frag}(h:H a=some (.lst xs)):WH K H a xs:=.inl (.inl h)
theorem Wq.of{K:PySem.W.Frag}(h:H a=some (.tup xs)):Wq K H a xs:=.inl (.inl h)
theorem Zq.list(I:Zq X pins σ H s)(h:WH X.K H a xs):∃its:List Value,ZB xs its/\PlainL s.heap a its.toArray/\xs.length<=sizeLine:=by
 rcases h with h|⟨o,its,n,hk,hc,hd,hs,hz,r⟩
 ·obtain⟨z,its,n,r,e⟩:=h.ok I.hok
  exact⟨its,r,⟨_,n,e,rfl,rfl,rfl⟩,z⟩
 ·refine⟨its.toList,r,⟨o,n,I.kIn a o hk,hc,hd,by simpa using hs⟩,?_⟩
  have e:=r.length
  simp only[Qx]at e
  omega
theorem Zq.tuple(I:Zq X pins σ H s)(h:Wq X.K H a xs):∃its:List Value,ZB xs its/\IsTup s.heap a its.toArray/\xs.length<=sizeLine:=by
 rcases h with h|⟨o,its,n,hk,hc,hs,hz,r⟩
 ·obtain⟨z,its,r,p⟩:=h.ok I.hok
  exact⟨its,r,p,z⟩
 ·refine⟨its.toList,r,⟨o,I.kIn a o hk,hc,n,by simpa using hs⟩,?_⟩
  have e:=r.length
  simp only[Qx]at e
  omega
theorem Zq.list_inj(I:Zq X pins σ H s)(h:WH X.K H a xs)(h':WH X.K H a ys):xs=ys:=by
 obtain⟨its,r,⟨o,n,e,_,_,d⟩,_⟩:=I.list h
 obtain⟨its',r',⟨o',n',e',_,_,d'⟩,_⟩:=I.list h'
 rw[e]at e';cases e'
 rw[d]at d'
 injection d' with d1 _
 have:its=its':=by simpa using congrArg Array.toList d1
 subst this
 exact r.inj r'
theorem Zq.tuple_inj(I:Zq X pins σ H s)(h:Wq X.K H a xs)(h':Wq X.K H a ys):xs=ys:=by
 obtain⟨its,r,⟨o,e,_,n,d⟩,_⟩:=I.tuple h
 obtain⟨its',r',⟨o',e',_,n',d'⟩,_⟩:=I.tuple h'
 rw[e]at e';cases e'
 rw[d]at d'
 injection d' with d1 _
 have:its=its':=by simpa using congrArg Array.toList d1
 subst this
 exact r.inj r'
end
abbrev Cx.wish(X:Cx)(E:Value->Shared->Prop):Cx:={ X with xe:=E }
abbrev Cx.nox(X:Cx):Cx:=X.wish fun _ _=>False
theorem Cx.Ok.wish{X:Cx}(ok:X.Ok)(E:Value->Shared->Prop):(X.wish E).Ok :=
 ⟨ok.mod,ok.kind,ok.glob,ok.blt,ok.above,ok.inj,ok.has,ok.cab,ok.hd,ok.frames,ok.stk,ok.exf,ok.bs,ok.bsz,ok.noex,ok.exfs,ok.funs,ok.frf⟩
theorem Cx.Ok.unwish{X:Cx}{E:Value->Shared->Prop}(ok:(X.wish E).Ok):X.Ok :=
 ⟨ok.mod,ok.kind,ok.glob,ok.blt,ok.above,ok.inj,ok.has,ok.cab,ok.hd,ok.frames,ok.stk,ok.exf,ok.bs,ok.bsz,ok.noex,ok.exfs,ok.funs,ok.frf⟩
section
variable{X:Cx}{pins:List (Addr×Obj)}{σ:St}{H:Hp}{s:Shared}{E:Value->Shared->Prop}
theorem Zq.wish(I:Zq X pins σ H s)(E:Value->Shared->Prop):Zq (X.wish E) pins σ H s:=⟨I.ok.wish E,I.os,I.bare,I.base,I.loc,I.cell,I.free,I.freeC,I.pin,I.hok,I.len⟩
theorem Zq.unwish(I:Zq (X.wish E) pins σ H s):Zq X pins σ H s:=⟨I.ok.unwish,I.os,I.bare,I.base,I.loc,I.cell,I.free,I.freeC,I.pin,I.hok,I.len⟩
theorem SP.unwish{D:Zd4}{f:Flow}{s':Shared}(h:SP (X.wish E) pins D f s'):SP X pins D f s':=by
 cases f with
 |next=>obtain⟨σ',H',I,q⟩:=h;exact⟨σ',H',I.unwish,q⟩
 |brk=>obtain⟨σ',H',I,q⟩:=h;exact⟨σ',H',I.unwish,q⟩
 |cont=>obtain⟨σ',H',I,q⟩:=h;exact⟨σ',H',I.unwish,q⟩
 |ret u=>obtain⟨v,σ',H',I,r,q⟩:=h;exact⟨v,σ',H',I.unwish,r,q⟩
theorem PE.nox{e:Expr}{t:TE}(h:PE X.nox e t):PE X e t:=fun pins s σ H Q I hw =>
 Q5 (h pins s σ H Q (I.wish _) hw) (fun _ _ ⟨v,H',I',r,q⟩=>⟨v,H',I'.unwish,r,q⟩) fun _ _ z=>False.elim z
theorem PT.nox{e:Expr}{t:TT}(h:PT X.nox e t):PT X e t:=fun pins s σ H Q I hw =>
 Q5 (h pins s σ H Q (I.wish _) hw) (fun _ _ ⟨H',I',q⟩=>⟨H',I'.unwish,q⟩) fun _ _ z=>False.elim z
theorem Zbd.nox{st:List Stmt}{t:TS}(h:Zbd X.nox st t):Zbd X st t:=fun pins s σ H D I hw =>
 Q5 (h pins s σ H D (I.wish _) hw) (fun _ _ q=>q.unwish) fun _ _ z=>False.elim z
end
section
variable{X:Cx}{st:Stmt}{Z0:List Stmt}{t u:TS}{e:Expr}{te:TE}{pos:Pos}
def tNext:TS:=fun D σ H=>D.nx σ H
def tSeq(t u:TS):TS:=fun D σ H=>t { D with nx:=u D } σ H
theorem Zuw:Zbd X [] tNext:=fun _ _ σ H _ I h=>wpAny_execs_nil ⟨σ,H,I,h⟩
theorem Zcq(h1:PS X st t)(h2:Zbd X Z0 u):Zbd X (st::Z0) (tSeq t u):=by
 intro pins s σ H D I h
 refine wpAny_execs_cons (YA (h1 pins s σ H { D with nx:=u D } I h) fun f s1 q=>?_)
 cases f with
 |next =>
  obtain⟨σ',H',I',q⟩:=q
  exact h2 pins s1 σ' H' D I' q
 |ret v=>exact q
 |brk=>exact q
 |cont=>exact q
theorem Zmc(h1:PS X st t):Zbd X [st] t:=by
 intro pins s σ H D I h
 refine wpAny_execs_cons (YA (h1 pins s σ H D I h) fun f s1 q=>?_)
 cases f with
 |next=>exact wpAny_execs_nil q
 |ret v=>exact q
 |brk=>exact q
 |cont=>exact q
theorem Zq.quiet{pins:List (Addr×Obj)}{σ:St}{H:Hp}{s:Shared}(I:Zq X pins σ H s):interactive X.env=false:=by simp[interactive,I.ok.kind]
def tDrop(te:TE):TS:=fun D σ H=>te σ H fun _ H1=>D.nx σ H1
theorem Zmd(he:PE X e te)(hs:swapsWith e none pos.line X.env=pure false:=by rfl):PS X (.Expr e pos) (tDrop te):=by
 intro pins s σ H D I h
 exact wpAny_Expr_any (YA (he pins s σ H _ I h) fun v s1 ⟨x,H1,I1,r1,q1⟩=>⟨σ,H1,I1,q1⟩) I.quiet hs
def tRet(te:TE):TS:=fun D σ H=>te σ H D.rt
theorem Zqs(he:PE X e te):PS X (.Return (some e) pos) (tRet te):=by
 intro pins s σ H D I h
 exact wpAny_Return_some (YA (he pins s σ H _ I h) fun v s1 ⟨x,H1,I1,r1,q1⟩=>⟨x,σ,H1,I1,r1,q1⟩)
def tIfS(c:TT)(t u:TS):TS:=fun D σ H=>c σ H fun b H1=>if b=true then t D σ H1 else u D σ H1
theorem Zxa{c:Expr}{a b:List Stmt}{tc:TT}(hc:PT X c tc)(ha:Zbd X a t)(hb:Zbd X b u):PS X (.If c a b pos) (tIfS tc t u):=by
 intro pins s σ H D I h
 refine wpAny_If (YA (hc pins s σ H _ I h) fun d s1 ⟨H1,I1,q1⟩=>?_)
 cases d with
 |true=>exact ha pins s1 σ H1 D I1 q1
 |false=>exact hb pins s1 σ H1 D I1 q1
def Zyg:TS:=fun _ _ _=>False
theorem Zal{sts:List Stmt}:Zbd X sts Zyg:=fun _ _ _ _ _ _ h=>h.elim
end
abbrev TG:=V->St->Hp->(St->Hp->Prop)->Prop
abbrev Zx1:=List V->St->Hp->(St->Hp->Prop)->Prop
def PG(X:Cx)(target:Expr)(t:TG):Prop :=
 ∀(pins:List (Addr×Obj)) (s:Shared) (σ:St) (H:Hp) (v:V) (u:Value) (Q:St->Hp->Prop),Zq X pins σ H s->ZU v u->t v σ H Q ->
  wpAny (model X.prog X.w) X.A (assign target X.env u) (fun _ s'=>∃σ' H',Zq X pins σ' H' s'/\Q σ' H') X.xe s
def PGs(X:Cx)(ts:List Expr)(t:Zx1):Prop :=
 ∀(pins:List (Addr×Obj)) (s:Shared) (σ:St) (H:Hp) (vs:List V) (us:List Value) (Q:St->Hp->Prop),Zq X pins σ H s->ZB vs us->t vs σ H Q ->
  wpAny (model X.prog X.w) X.A (assignInOrder ((assignEach ts X.env).map (·.2)) us) (fun _ s'=>∃σ' H',Zq X pins σ' H' s'/\Q σ' H') X.xe s
abbrev Z1e:=V->V->V->Hp->(Hp->Prop)->Prop
def PSet(X:Cx)(t:Z1e):Prop :=
 ∀(pins:List (Addr×Obj)) (s:Shared) (σ:St) (H:Hp) (o i v:V) (ov iv u:Value) (Q:Hp->Prop),Zq X pins σ H s->ZU o ov->ZU i iv->ZU v u->t o i v H Q ->
  wpAny (model X.prog X.w) X.A (setItem ov iv u) (fun _ s'=>∃H',Zq X pins σ H' s'/\Q H') X.xe s
section
variable{X:Cx}{pos:Pos}
def Zi3(i:Nat):TG:=fun v σ H Q=>Q (σ.set i (some v)) H
theorem Zme{i:Nat}{x:Str}(hN:X.N.Nodup)(hi:X.N[i]?=some x)(hx:Zpc X.env.scope x)(hf:X.fn x=true\/X.env.scope.names.lookup x=some .local:=by first|exact .inl rfl|exact .inr rfl|assumption):PG X (.Name x pos) (Zi3 i):=by
 intro pins s σ H v u Q I r h
 exact wpAny_assign_Name (Zch I hN hi hx r (fun s' I'=>⟨_,H,I',h⟩) hf)
def gNil:Zx1:=fun vs σ H Q=>vs=[]/\Q σ H
def Zxp(t:TG)(u:Zx1):Zx1:=fun vs σ H Q=>∃v r,vs=v::r/\t v σ H fun σ' H'=>u r σ' H' Q
theorem U6:PGs X [] gNil:=by
 intro pins s σ H vs us Q I r h
 obtain⟨e,h⟩:=h
 subst e
 cases r
 exact assignInOrder_nil ⟨σ,H,I,h⟩
theorem YT{e:Expr}{es:List Expr}{t:TG}{u:Zx1}(h1:PG X e t)(h2:PGs X es u)
  (hs:(assignEach (e::es) X.env).map (·.2)=assign e X.env::(assignEach es X.env).map (·.2):=by rfl):PGs X (e::es) (Zxp t u):=by
 intro pins s σ H vs us Q I r h
 obtain⟨v,vr,e1,h⟩:=h
 subst e1
 cases r with
 |cons r rr =>
  rw[hs]
  refine assignInOrder_cons (YA (h1 pins s σ H _ _ _ I r h) fun _ s1 ⟨σ1,H1,I1,q1⟩=>?_)
  exact h2 pins s1 σ1 H1 _ _ Q I1 rr q1
def gTup(K:PySem.W.Frag)(n:Nat)(t:Zx1):TG:=fun v σ H Q=>∃a xs,v=.ref a/\Wq K H a xs/\xs.length=n/\t xs σ H Q
theorem Zyx{es:List Expr}{k:Nat}{t:Zx1}{n:Nat}(hc:X.calm=true)(h:PGs X es t)
  (hn:(assignEach es X.env).length=n:=by rfl) (hst:(assignEach es X.env).findIdx? (·.1)=none:=by rfl):PG X (.Tuple es k pos) (gTup X.K n t):=by
 intro pins s σ H v u Q I r hw
 obtain⟨a,xs,e1,hq,hl,hw⟩:=hw
 subst e1
 cases r
 obtain⟨its,rv,ht,hz⟩:=I.tuple hq
 refine assign_Tuple_tuple (I.ok.hd hc) ht (by simp[hn,<- hl,rv.length]) hst fun h' hx=>?_
 have I1:Zq X pins σ H { s with heap:=h' }:=I.kept (t':=s.toks) fun b o e=>hx b o (Qo (Qk e)) e
 exact h pins _ σ H xs _ Q I1 (by simpa using rv) hw
def gSub(to ti:TE)(t:Z1e):TG:=fun v σ H Q=>to σ H fun o H1=>ti σ H1 fun i H2=>t o i v H2 fun H3=>Q σ H3
theorem Zyy{o i:Expr}{to ti:TE}{t:Z1e}(ho:PE X o to)(hi:PE X i ti)(hs:PSet X t)
  (ha:∀v,assign (.Subscript o i pos) X.env v=(do
   let ov <- holding [v] (eval o X.env)
   let iv <- holding [v,ov] (eval i X.env)
   standAt pos
   holding [v,ov,iv] (setItem ov iv v)
   release [v,ov,iv] []):=by intro _;rfl):PG X (.Subscript o i pos) (gSub to ti t):=by
 intro pins s σ H v u Q I r h
 rw[ha]
 refine Qa (QV (YA (ho pins s σ H _ I h) fun ov s1 ⟨x,H1,I1,r1,q1⟩=>?_))
 refine Qa (QV (YA (hi pins s1 σ H1 _ I1 q1) fun iv s2 ⟨y,H2,I2,r2,q2⟩=>?_))
 refine Qa (wpAny_standAt (Qa (QV (YA (hs pins s2 σ H2 x y v ov iv u _ I2 r1 r2 r q2) fun _ s3 ⟨H3,I3,q3⟩=>?_))))
 exact wpAny_release ⟨σ,H3,I3,q3⟩
def Zyl(te:TE)(g:TG):TS:=fun D σ H=>te σ H fun x H1=>g x σ H1 D.nx
theorem Zyu{tg e:Expr}{te:TE}{g:TG}(he:PE X e te)(hg:PG X tg g)(hs:swapsWithSole [tg] e pos.line X.env=pure false:=by rfl)(hw:swappedStores [tg] e X.env=pure none:=by rfl)
  (h1:(assignEach [tg] X.env).map (·.2)=[assign tg X.env]:=by rfl):PS X (.Assign [tg] e pos) (Zyl te g):=by
 intro pins s σ H D I h
 refine wpAny_Assign_stores (YA (he pins s σ H _ I h) fun v s1 ⟨x,H1,I1,r1,q1⟩=>?_) hs hw
 rw[h1]
 exact YA (hg pins s1 σ H1 x v _ I1 r1 q1) fun _ s2 q=>q
theorem Zam{i:Nat}{x:Str}{e:Expr}{te:TE}{pos':Pos}(hN:X.N.Nodup)(hi:X.N[i]?=some x)(hx:Zpc X.env.scope x)(he:PE X e te)(hs:swapsWith e (some (.Name x pos')) pos.line X.env=pure false:=by rfl)(hf:X.fn x=true\/X.env.scope.names.lookup x=some .local:=by first|exact .inl rfl|exact .inr rfl|assumption) :
  PS X (.Assign [.Name x pos'] e pos) (Zyl te (Zi3 i)):=by
 intro pins s σ H D I h
 refine wpAny_Assign_Name (YA (he pins s σ H _ I h) fun v s1 ⟨y,H1,I1,r1,q1⟩=>?_) hs
 exact Zch I1 hN hi hx r1 (fun s2 I2=>⟨_,H1,I2,q1⟩) hf
end
section
variable{X:Cx}{pos:Pos}
end
structure It where
 go:Nat->Hp->Prop
 yld:Nat->Hp->V->Hp->Prop
 stop:Nat->Hp->Prop
def US(X:Cx)(pins:List (Addr×Obj))(H:Hp)(b:Addr):Prop :=
 H b=none/\b≠X.env.locals/\b∉X.fs/\(b∈X.ex\/X.s₀.heap.objs.size<=b)/\(∀x c,X.env.cells.lookup x=some c->c≠b)/\∀p∈X.pn++pins,p.1≠b
theorem Zq.fpOk{X:Cx}{pins:List (Addr×Obj)}{σ:St}{H H':Hp}{s:Shared}{b:Addr}(I:Zq X pins σ H s)(hb:s.heap.objs.size<=b)(hn:H' b=none):US X pins H' b:=by
 refine⟨hn,JM (Qw I.lt hb),I.nofs hb,.inr (Jw I.sz hb),fun x c e z=>?_,fun p hp z=>?_⟩
 ·obtain⟨v,q⟩:=I.cell x c e
  exact absurd (Qw q.lt (by rw[z];exact hb)) (Ji _)
 ·exact absurd (Qw (Qk (I.pin p hp).1) (by rw[z];exact hb)) (Ji _)
structure Zjs(P:Program)(w:World)(K:PySem.W.Frag)(tg:Expr)(J:It)(fp:List Addr)(it:Addr)(tn:Nat->Heap->Prop):Prop where
 mem:it∈fp
 obj:∀i h,tn i h->∀b∈fp,∃o,h.get? b=some o/\∀v,o.data≠.cell v
 keep:∀i h h',tn i h->(∀b∈fp,∀o,h.get? b=some o->h'.get? b=some o)->tn i h'
 item:∀(X:Cx),X.prog=P->X.w=w->X.K=K->X.calm=true->∀(i:Nat) (pins:List (Addr×Obj)) (s:Shared) (σ:St) (H:Hp) (E:Value->Shared->Prop),Zq X pins σ H s->(∀b∈fp,US X pins H b)->tn i s.heap->J.go i H ->
  wpAny (model P w) X.A (pyNext (.ref it)) (fun r s1=>∃u,r=some u /\
   wpAny (model P w) X.A (letOwnedTupleGo tg (.ref it) u) (fun _ s2=>∃x H',Zq X pins σ H' s2/\ZU x u/\J.yld i H x H'/\tn (i+1) s2.heap/\∀b∈fp,H' b=none) E s1) E s
 done:∀(X:Cx),X.prog=P->X.w=w->X.K=K->X.calm=true->∀(i:Nat) (pins:List (Addr×Obj)) (s:Shared) (σ:St) (H:Hp) (E:Value->Shared->Prop),Zq X pins σ H s->(∀b∈fp,US X pins H b)->tn i s.heap->J.stop i H ->
  wpAny (model P w) X.A (pyNext (.ref it)) (fun r s1=>r=none/\Zq X pins σ H s1) E s
 self:∀(A:Around) (i:Nat) (s:Shared) (Q:Value->Shared->Prop) (E:Value->Shared->Prop),tn i s.heap->Q (.ref it) s->wpAny (model P w) A (pyIter (.ref it)) Q E s
abbrev TI:=St->Hp->(It->Hp->Prop)->Prop
def PIE(X:Cx)(pins:List (Addr×Obj))(σ:St)(tg:Expr)(R:It->Hp->Prop)(itv:Value)(s2:Shared):Prop :=
 ∃(it:Addr) (fp:List Addr) (tn:Nat->Heap->Prop) (J:It) (H':Hp),itv=.ref it/\Zq X pins σ H' s2/\Zjs X.prog X.w X.K tg J fp it tn/\tn 0 s2.heap/\(∀b∈fp,US X pins H' b)/\R J H'
def PI(X:Cx)(tg iter:Expr)(wi:TI):Prop :=
 ∀(pins:List (Addr×Obj)) (s:Shared) (σ:St) (H:Hp) (R:It->Hp->Prop),Zq X pins σ H s->wi σ H R ->
  wpAny (model X.prog X.w) X.A (eval iter X.env) (fun v s1=>wpAny (model X.prog X.w) X.A (pyIter v) (PIE X pins σ tg R) X.xe s1) X.xe s
theorem Zmx{M:Model}{A:Around}{E:Value->Shared->Prop}{s:Shared}{tg:Expr}{it:Addr}{u:Value}{o:Obj}{n:String}{vs:Array Value}{Q:Unit->Shared->Prop}(ho:s.heap.get? it=some o)(hc:o.cls=.type n)(hd:o.data=.fields vs)
  (hn:["enumerate","zip","dict_itemiterator","dict_reverseitemiterator","odict_iterator","itertools.zip_longest","itertools.pairwise"].contains n=false) (hQ:Q () s):wpAny M A (letOwnedTupleGo tg (.ref it) u) Q E s:=by
 unfold letOwnedTupleGo
 cases tg<;>first
  |exact Qc hQ
  |(cases u<;>first
    |exact Qc hQ
    |(refine Qa (wpAny_load ho ?_)
      rw[hc,hd]
      show wpAny M A (if(["enumerate","zip","dict_itemiterator","dict_reverseitemiterator","odict_iterator","itertools.zip_longest","itertools.pairwise"].contains n&&vs[0]? == some (rawInt _))=true then _ else _) Q E s
      rw[if_neg (by intro h;rw[hn,Bool.false_and]at h;cases h)]
      exact Qc hQ))
def Itl(K:PySem.W.Frag)(a:Addr):It :=
 ⟨fun i H=>∃xs x,WH K H a xs/\xs[i]?=some x,fun i H x H'=>H'=H/\∀xs,WH K H a xs->xs[i]?=some x,fun i H=>∃xs,WH K H a xs/\xs.length<=i⟩
def Itt(K:PySem.W.Frag)(a:Addr):It :=
 ⟨fun i H=>∃xs x,Wq K H a xs/\xs[i]?=some x,fun i H x H'=>H'=H/\∀xs,Wq K H a xs->xs[i]?=some x,fun i H=>∃xs,Wq K H a xs/\xs.length<=i⟩
def Itr(lo:Int)(n:Nat):It:=⟨fun i _=>i<n,fun i H x H'=>H'=H/\x=.int (lo+i),fun i _=>n<=i⟩
theorem Zng{P:Program}{w:World}{K:PySem.W.Frag}{tg:Expr}(a it:Addr):Zjs P w K tg (Itl K a) [it] it (fun i h=>h.IsListIter it a i) where
 mem:=by simp
 obj:=fun i h st b hb=>by
  have e:b=it:=by simpa using hb
  subst e
  obtain⟨o,e,c,d⟩:=st
  exact⟨o,e,fun v z=>by rw[d]at z;cases z⟩
 keep:=fun i h h' st k=>st.at fun o e=>k it (by simp) o e
 item:=by
  intro X hP hw hK hc i pins s σ H E I hf st hg
  subst hP hw hK
  obtain⟨xs,x,hq,hx⟩:=hg
  obtain⟨its,rv,p,hz⟩:=I.list hq
  obtain⟨u,hu,ru⟩:=rv.get hx
  obtain⟨f0,f1,f2,f3,f4,f5⟩:=hf it (by simp)
  refine wpAny_pyNext_list_item st p.isList (x:=u) (by simpa using hu) fun h' st' sb=>?_
  have I1:Zq X pins σ H { s with heap:=h' }:=I.turned (t':=s.toks) (fun b o hb e=>(sb.2 b hb).trans e) f0 f1 f3 f4 f5
  obtain⟨o,e,c,d⟩:=id st'
  exact⟨u,rfl,Zmx (s:={ s with heap:=h' }) e c d (by decide) ⟨x,H,I1,ru,⟨rfl,fun ys hy=>by rw[I.list_inj hy hq];exact hx⟩,st',fun b hb=>(hf b hb).1⟩⟩
 done:=by
  intro X hP hw hK hc i pins s σ H E I hf st hg
  subst hP hw hK
  obtain⟨xs,hq,hx⟩:=hg
  obtain⟨its,rv,p,hz⟩:=I.list hq
  obtain⟨f0,f1,f2,f3,f4,f5⟩:=hf it (by simp)
  have hl:=rv.length
  exact wpAny_pyNext_list_end (I.ok.hd hc) st p.isList (by simp;omega) fun h' eb=>⟨rfl,I.turned (t':=s.toks) (fun b o hb e=>eb b o hb e) f0 f1 f3 f4 f5⟩
 self:=fun _ _ _ _ _ st h=>wpAny_pyIter_listiter st h
theorem Zj6{P:Program}{w:World}{K:PySem.W.Frag}{tg:Expr}(a it:Addr):Zjs P w K tg (Itt K a) [it] it (fun i h=>h.IsTupleIter it a i) where
 mem:=by simp
 obj:=fun i h st b hb=>by
  have e:b=it:=by simpa using hb
  subst e
  obtain⟨o,e,c,d⟩:=st
  exact⟨o,e,fun v z=>by rw[d]at z;cases z⟩
 keep:=fun i h h' st k=>st.at fun o e=>k it (by simp) o e
 item:=by
  intro X hP hw hK hc i pins s σ H E I hf st hg
  subst hP hw hK
  obtain⟨xs,x,hq,hx⟩:=hg
  obtain⟨its,rv,p,hz⟩:=I.tuple hq
  obtain⟨u,hu,ru⟩:=rv.get hx
  obtain⟨f0,f1,f2,f3,f4,f5⟩:=hf it (by simp)
  refine wpAny_pyNext_tuple_item st (show s.heap.IsTuple a its.toArray from p) (x:=u) (by simpa using hu) fun h' st' sb=>?_
  have I1:Zq X pins σ H { s with heap:=h' }:=I.turned (t':=s.toks) (fun b o hb e=>(sb.2 b hb).trans e) f0 f1 f3 f4 f5
  obtain⟨o,e,c,d⟩:=id st'
  exact⟨u,rfl,Zmx (s:={ s with heap:=h' }) e c d (by decide) ⟨x,H,I1,ru,⟨rfl,fun ys hy=>by rw[I.tuple_inj hy hq];exact hx⟩,st',fun b hb=>(hf b hb).1⟩⟩
 done:=by
  intro X hP hw hK hc i pins s σ H E I hf st hg
  subst hP hw hK
  obtain⟨xs,hq,hx⟩:=hg
  obtain⟨its,rv,p,hz⟩:=I.tuple hq
  obtain⟨f0,f1,f2,f3,f4,f5⟩:=hf it (by simp)
  have hl:=rv.length
  exact wpAny_pyNext_tuple_end (I.ok.hd hc) st (show s.heap.IsTuple a its.toArray from p) (by simp;omega) fun h' eb=>⟨rfl,I.turned (t':=s.toks) (fun b o hb e=>eb b o hb e) f0 f1 f3 f4 f5⟩
 self:=fun _ _ _ _ _ st h=>wpAny_pyIter_tupleiter st h
theorem Zj7{P:Program}{w:World}{K:PySem.W.Frag}{tg:Expr}(it:Addr)(lo:Int)(n:Nat):Zjs P w K tg (Itr lo n) [it] it (fun i h=>IsRangeIter h it (lo+(i:Nat)*1) ((n:Int)-(i:Nat)) 1) where
 mem:=by simp
 obj:=fun i h st b hb=>by
  have e:b=it:=by simpa using hb
  subst e
  exact⟨_,st,fun v z=>by
   have z':Data.fields _=Data.cell v:=z
   cases z'⟩
 keep:=fun i h h' st k=>k it (by simp) _ st
 item:=by
  intro X hP hw hK hc i pins s σ H E I hf st hg
  subst hP hw hK
  obtain⟨f0,f1,f2,f3,f4,f5⟩:=hf it (by simp)
  have W:=Walks.range (prog:=X.prog) (w:=X.w) (I.ok.hd hc) it lo 1 n
  refine W.item i s _ _ hg st fun v h' tk hv st' kk=>?_
  obtain⟨t,rfl⟩:=hv
  have I1:Zq X pins σ H { s with heap:=h',toks:=tk }:=I.turned (fun b o hb e=>kk b o (by simpa using hb) e) f0 f1 f3 f4 f5
  refine⟨_,rfl,Zmx (s:={ s with heap:=h',toks:=tk }) (n:="range_iterator") st' rfl rfl (by decide) ⟨.int (lo+i),H,I1,⟨t,?_⟩,⟨rfl,rfl⟩,st',fun b hb=>(hf b hb).1⟩⟩
  rw[Int.mul_one]
 done:=by
  intro X hP hw hK hc i pins s σ H E I hf st hg
  subst hP hw hK
  obtain⟨f0,f1,f2,f3,f4,f5⟩:=hf it (by simp)
  exact wpAny_pyNext_range_end (I.ok.hd hc) st (by have:n<=i:=hg;omega) fun h' eb=>⟨rfl,I.turned (t':=s.toks) (fun b o hb e=>eb b o hb e) f0 f1 f3 f4 f5⟩
 self:=fun _ _ _ _ _ st h=>wpAny_pyIter_rangeiter st h
section
variable{X:Cx}{tg:Expr}
def iList(K:PySem.W.Frag)(tl:TE):TI:=fun σ H R=>tl σ H fun x H1=>∃a,x=.ref a/\(∃xs,WH K H1 a xs)/\R (Itl K a) H1
def iTup(K:PySem.W.Frag)(tl:TE):TI:=fun σ H R=>tl σ H fun x H1=>∃a,x=.ref a/\(∃xs,Wq K H1 a xs)/\R (Itt K a) H1
theorem Zu3{l:Expr}{tl:TE}(hl:PE X l tl):PI X tg l (iList X.K tl):=by
 intro pins s σ H R I h
 refine YA (hl pins s σ H _ I h) fun v s1 ⟨x,H1,I1,r1,q1⟩=>?_
 obtain⟨a,e,⟨xs,hq⟩,q⟩:=q1
 subst e
 cases r1
 obtain⟨its,rv,p,hz⟩:=I1.list hq
 refine wpAny_pyIter_list p.isList ?_
 refine⟨s1.heap.objs.size,[s1.heap.objs.size],_,_,H1,rfl,I1.kept (t':=s1.toks) fun b o e=>Qb _ e,Zng a _,⟨_,Qm _ rfl,rfl,rfl⟩,fun b hb=>?_,q⟩
 have e:b=s1.heap.objs.size:=by simpa using hb
 subst e
 exact I1.fpOk (Qg _) (I1.hok.fresh (Qg _))
theorem Zyw{l:Expr}{tl:TE}(hl:PE X l tl):PI X tg l (iTup X.K tl):=by
 intro pins s σ H R I h
 refine YA (hl pins s σ H _ I h) fun v s1 ⟨x,H1,I1,r1,q1⟩=>?_
 obtain⟨a,e,⟨xs,hq⟩,q⟩:=q1
 subst e
 cases r1
 obtain⟨its,rv,p,hz⟩:=I1.tuple hq
 refine wpAny_pyIter_tuple (show s1.heap.IsTuple a its.toArray from p) ?_
 refine⟨s1.heap.objs.size,[s1.heap.objs.size],_,_,H1,rfl,I1.kept (t':=s1.toks) fun b o e=>Qb _ e,Zj6 a _,⟨_,Qm _ rfl,rfl,rfl⟩,fun b hb=>?_,q⟩
 have e:b=s1.heap.objs.size:=by simpa using hb
 subst e
 exact I1.fpOk (Qg _) (I1.hok.fresh (Qg _))
theorem Zh7{pins:List (Addr×Obj)}{σ:St}{H:Hp}{s:Shared}{R:It->Hp->Prop}{E:Value->Shared->Prop}{lo hi:Int}{t u v:Tok}{tk:Nat}(I:Zq X pins σ H s)(h1:-(2^62)<=lo)(h2:lo<2^62)(h3:-(2^62)<=hi)(h4:hi<2^62)
  (q:R (Itr lo (hi-lo).toNat) H):wpAny (model X.prog X.w) X.A (pyIter (.ref s.heap.objs.size)) (PIE X pins σ tg R) E { s with heap:=s.heap.push { cls:=.type "range",data:=.fields #[.int lo t,.int hi u,.int 1 v] },toks:=tk }:=by
 refine wpAny_pyIter_range (IsRange.new ..) (small_one h1 h2 h3 h4) ?_
 have I1:Zq X pins σ H { s with heap:=s.heap.push { cls:=.type "range",data:=.fields #[.int lo t,.int hi u,.int 1 v] },toks:=tk }:=I.kept fun b o e=>Qb _ e
 refine⟨(s.heap.push { cls:=.type "range",data:=.fields #[.int lo t,.int hi u,.int 1 v] }).objs.size,[(s.heap.push { cls:=.type "range",data:=.fields #[.int lo t,.int hi u,.int 1 v] }).objs.size],_,_,H,rfl,
  I1.kept (t':=tk) fun b o e=>Qb _ e,Zj7 _ lo (hi-lo).toNat,?_,fun b hb=>?_,q⟩
 ·have e1:lo+((0:Nat):Int)*1=lo:=by simp
  have e2:(((hi-lo).toNat:Nat):Int)-((0:Nat):Int)=Builtin.Range.rangeSize lo hi 1:=by rw[rangeSize_one];split<;>omega
  show IsRangeIter _ _ (lo+((0:Nat):Int)*1) ((((hi-lo).toNat:Nat):Int)-((0:Nat):Int)) 1
  rw[e1,e2]
  exact Qm _ rfl
 ·have e:b=(s.heap.push { cls:=.type "range",data:=.fields #[.int lo t,.int hi u,.int 1 v] }).objs.size:=by simpa using hb
  subst e
  exact I1.fpOk (Qg _) (I1.hok.fresh (Qg _))
def iRng1(ta:TA):TI:=fun σ H R=>ta σ H fun vs H1=>∃j:Int,vs=[.int j]/\-(2^62)<=j/\j<2^62/\R (Itr 0 j.toNat) H1
def iRng2(ta:TA):TI:=fun σ H R=>ta σ H fun vs H1=>∃i j:Int,vs=[.int i,.int j]/\(-(2^62)<=i/\i<2^62/\-(2^62)<=j/\j<2^62)/\R (Itr i (j-i).toNat) H1
theorem Znv{a:Expr}{ta:TA}{p pos:Pos}(hg:Gl X "range")(hm:X.mg "range"=none)(ha:PA X [a] ta)(hs:starEach [a] X.env=[(false,eval a X.env)]:=by rfl):PI X tg (.Call (.Name "range" p) [a] [] pos) (iRng1 ta):=by
 intro pins s σ H R I h
 refine Call_ (Zat I hg hm boot_range (PyProof.Rows.callWith_type1 (YA (ha pos pins s σ H _ I h) fun us s1 ⟨vs,H1,I1,r1,q1⟩=>?_) hs rfl))
 obtain⟨j,e,q1,q2,q⟩:=q1
 subst e
 cases r1 with
 |cons r rr =>
  cases rr
  obtain⟨t,rfl⟩:=r
  exact call_range_1 (Zh7 I1 (by omega) (by omega) q1 q2 (by simpa using q))
theorem Znu{a b:Expr}{ta:TA}{p pos:Pos}(hg:Gl X "range")(hm:X.mg "range"=none)(ha:PA X [a,b] ta)(hs:starEach [a,b] X.env=[(false,eval a X.env),(false,eval b X.env)]:=by rfl)(hs2:starEach [b] X.env=[(false,eval b X.env)]:=by rfl) :
  PI X tg (.Call (.Name "range" p) [a,b] [] pos) (iRng2 ta):=by
 intro pins s σ H R I h
 refine Call_ (Zat I hg hm boot_range (PyProof.Rows.callWith_type1 (YA (ha pos pins s σ H _ I h) fun us s1 ⟨vs,H1,I1,r1,q1⟩=>?_) (by rw[hs,hs2]) (by rw[hs2];rfl)))
 obtain⟨i,j,e,⟨q1,q2,q3,q4⟩,q⟩:=q1
 subst e
 cases r1 with
 |cons r rr =>
  cases rr with
  |cons r' rr =>
   cases rr
   obtain⟨t,rfl⟩:=r
   obtain⟨t',rfl⟩:=r'
   exact call_range_2 (Zh7 I1 q1 q2 q3 q4 q)
def tFor(wi:TI)(g:TG)(tb:TS):TS:=fun D σ H=>wi σ H fun J H1=>∃W:Nat->Nat->St->Hp->Prop,(∃m,W 0 m σ H1)/\∀i m σ H,W i m σ H ->
 (J.stop i H/\D.nx σ H)\/(J.go i H/\∃N:St->Hp->Prop,(∀σ' H',N σ' H'->∃m',m'<m/\W (i+1) m' σ' H')/\∀x H',J.yld i H x H'->g x σ H' fun σ2 H2=>tb { D with nx:=N,ct:=N,bk:=D.nx } σ2 H2)
def Zan(fp:List Addr)(h:Heap):List (Addr×Obj):=fp.filterMap fun b=>(h.get? b).map fun o=>(b,o)
theorem XX{fp:List Addr}{h:Heap}{b:Addr}{o:Obj}(hb:b∈fp)(e:h.get? b=some o):(b,o)∈Zan fp h:=Jm.mpr ⟨b,hb,by rw[e];rfl⟩
theorem Znz{fp:List Addr}{h:Heap}{p:Addr×Obj}(hp:p∈Zan fp h):p.1∈fp/\h.get? p.1=some p.2:=by
 obtain⟨b,hb,e⟩:=Jm.mp hp
 cases q:h.get? b with
 |none=>rw[q]at e;cases e
 |some o =>
  rw[q]at e
  have e':(b,o)=p:=Q7 e
  subst e'
  exact⟨hb,q⟩
theorem Zq.pinned{pins:List (Addr×Obj)}{σ:St}{H:Hp}{s:Shared}{fp:List Addr}(I:Zq X pins σ H s)(hf:∀b∈fp,US X pins H b)(ho:∀b∈fp,∃o,s.heap.get? b=some o/\∀v,o.data≠.cell v):Zq X (pins++Zan fp s.heap) σ H s :=
 I.pins_of fun p hp=>(QE.mp hp).elim (fun z=>I.pin p (Qt _ z)) fun z=>by
  obtain⟨hb,e⟩:=Znz z
  obtain⟨f0,f1,f2,_⟩:=hf p.1 hb
  obtain⟨o,e',d⟩:=ho p.1 hb
  rw[e]at e';cases e'
  exact⟨e,f0,f1,f2,d⟩
theorem Zq.unpinned{pins pl:List (Addr×Obj)}{σ:St}{H:Hp}{s:Shared}(I:Zq X (pins++pl) σ H s):Zq X pins σ H s:=I.pins_of fun p hp=>I.pin p (Qt _ (Q3 _ hp))
theorem Zqt{iter:Expr}{body:List Stmt}{wi:TI}{g:TG}{tb:TS}{pos:Pos}(hp:PassesOwn (model X.prog X.w) X.A X.env X.xe)(hc:X.calm=true)(hi:PI X tg iter wi)(hg:PG X tg g)(hb:Zbd X body tb)
  (hs:∀x,foldedSetIterable iter X.env x=pure x:=by intro _;rfl):PS X (.For tg iter body [] pos) (tFor wi g tb):=by
 intro pins s σ H D I h
 refine wpAny_For (YA (hi pins s σ H _ I h) fun v s1 h1=>YA h1 fun itv s2 h2=>?_) hs
 obtain⟨it,fp,tn,J,H2,e,I2,T,st2,f2,W,⟨m0,w0⟩,turn⟩:=h2
 subst e
 have stat:∀{H':Hp},(∀b∈fp,H' b=none)->∀b∈fp,US X pins H' b:=fun hn b hb=>⟨hn b hb,(f2 b hb).2⟩
 refine codeAny_forLoop_any (fun n s'=>∃i σ' H',Zq X pins σ' H' s'/\tn i s'.heap/\(∀b∈fp,H' b=none)/\W i n σ' H') ?_ m0 ⟨0,σ,H2,I2,st2,fun b hb=>(f2 b hb).1,w0⟩
 rintro n s3 ⟨i,σ3,H3,I3,st3,fr3,w3⟩
 rcases turn i n σ3 H3 w3 with⟨stop,qn⟩|⟨go,N,hN,step⟩
 ·refine wpAny_passesOwn hp (YA (T.done X rfl rfl rfl hc i pins s3 σ3 H3 X.xe I3 (stat fr3) st3 stop) fun r s4 ⟨hr,I4⟩=>?_)
  subst hr
  exact wpAny_execs_nil ⟨σ3,H3,I4,qn⟩
 ·refine wpAny_passesOwn hp (YA (T.item X rfl rfl rfl hc i pins s3 σ3 H3 X.xe I3 (stat fr3) st3 go) fun r s4 ⟨u,hr,h4⟩=>?_)
  subst hr
  refine wpAny_passesOwn hp (YA h4 fun _ s5 ⟨x,H5,I5,r5,y5,st5,fr5⟩=>?_)
  have I5':=I5.pinned (stat fr5) (T.obj _ _ st5)
  refine wpAny_passesOwn hp (YA (hg _ s5 σ3 H5 x u _ I5' r5 (step x H5 y5)) fun _ s6 ⟨σ6,H6,I6,q6⟩=>?_)
  refine wpAny_passesOwn hp (YA (hb _ s6 σ6 H6 _ I6 q6) fun f s7 q7=>?_)
  have again:∀{σ7:St} {H7:Hp},Zq X (pins++Zan fp s5.heap) σ7 H7 s7->N σ7 H7->∃m,m<n/\∃i σ' H',Zq X pins σ' H' s7/\tn i s7.heap/\(∀b∈fp,H' b=none)/\W i m σ' H':=fun{σ7 H7} I7 n7=>by
   obtain⟨m',hm,w7⟩:=hN σ7 H7 n7
   refine⟨m',hm,i+1,σ7,H7,I7.unpinned,T.keep _ _ _ st5 fun b hb o e=>(I7.pin (b,o) (Qt _ (Qt _ (XX hb e)))).1,fun b hb=>?_,w7⟩
   obtain⟨o,e,d⟩:=T.obj _ _ st5 b hb
   exact(I7.pin (b,o) (Qt _ (Qt _ (XX hb e)))).2.1
  cases f with
  |next=>obtain⟨σ7,H7,I7,n7⟩:=q7;exact again I7 n7
  |cont=>obtain⟨σ7,H7,I7,n7⟩:=q7;exact again I7 n7
  |brk=>obtain⟨σ7,H7,I7,q7⟩:=q7;exact⟨σ7,H7,I7.unpinned,q7⟩
  |ret v=>obtain⟨x7,σ7,H7,I7,r7,q7⟩:=q7;exact⟨x7,σ7,H7,I7.unpinned,r7,q7⟩
end
abbrev R2:=V->V->Hp->VK->Prop
def W6(X:Cx)(f:Value->Value->Sem Value)(r:R2):Prop :=
 ∀(pins:List (Addr×Obj)) (s:Shared) (σ:St) (H:Hp) (x y:V) (v u:Value) (Q:VK),Zq X pins σ H s->ZU x v->ZU y u->r x y H Q ->
  wpAny (model X.prog X.w) X.A (f v u) (EP X pins σ Q) X.xe s
def UnR(X:Cx)(f:Value->Sem Value)(r:V->Hp->VK->Prop):Prop :=
 ∀(pins:List (Addr×Obj)) (s:Shared) (σ:St) (H:Hp) (x:V) (v:Value) (Q:VK),Zq X pins σ H s->ZU x v->r x H Q ->
  wpAny (model X.prog X.w) X.A (f v) (EP X pins σ Q) X.xe s
def Xd(X:Cx)(f:Value)(r:List V->Hp->VK->Prop):Prop :=
 ∀(pins:List (Addr×Obj)) (s:Shared) (σ:St) (H:Hp) (xs:List V) (us:List Value) (Q:VK),Zq X pins σ H s->ZB xs us->r xs H Q ->
  wpAny (model X.prog X.w) X.A (call f us) (EP X pins σ Q) X.xe s
def TruR(X:Cx)(r:V->Hp->(Bool->Hp->Prop)->Prop):Prop :=
 ∀(pins:List (Addr×Obj)) (s:Shared) (σ:St) (H:Hp) (x:V) (v:Value) (Q:Bool->Hp->Prop),Zq X pins σ H s->ZU x v->r x H Q ->
  wpAny (model X.prog X.w) X.A (truthy v) (TP X pins σ Q) X.xe s
def tOp(r:R2)(ta tb:TE):TE:=fun σ H Q=>ta σ H fun x H1=>tb σ H1 fun y H2=>r x y H2 Q
def tUn(r:V->Hp->VK->Prop)(ta:TE):TE:=fun σ H Q=>ta σ H fun x H1=>r x H1 Q
def rI(C:Int->Int->Prop)(g:Int->Int->V):R2:=fun x y H Q=>∃i j,x=.int i/\y=.int j/\C i j/\Q (g i j) H
def Zuq(g:Int->Int->V):R2:=fun x y H Q=>∃i j,x=.int i/\y=.int j/\Q (g i j) H
def rU(g:Int->V):V->Hp->VK->Prop:=fun x H Q=>∃i,x=.int i/\Q (g i) H
section
variable{X:Cx}{a b c:Expr}{ta tb tc:TE}{pos:Pos}
theorem Z07(ha:PE X a ta)(hb:PE X b tb){pins:List (Addr×Obj)}{s:Shared}{σ:St}{H:Hp}{R:V->V->Hp->Prop}(I:Zq X pins σ H s)
  (h:ta σ H fun x H1=>tb σ H1 fun y H2=>R x y H2) {Q:Value->Shared->Prop} {f:Value->Value->Sem Value}
  (hf:∀v u s2 x y H2,Zq X pins σ H2 s2->ZU x v->ZU y u->R x y H2->wpAny (model X.prog X.w) X.A (f v u) Q X.xe s2) :
  wpAny (model X.prog X.w) X.A (eval a X.env) (fun v s₁=>wpAny (model X.prog X.w) X.A (eval b X.env) (fun u s₂=>wpAny (model X.prog X.w) X.A (f v u) Q X.xe s₂) X.xe s₁) X.xe s:=by
 refine YA (ha pins s σ H _ I h) fun v s1 ⟨x,H1,I1,r1,q1⟩=>?_
 refine YA (hb pins s1 σ H1 _ I1 q1) fun u s2 ⟨y,H2,I2,r2,q2⟩=>?_
 exact hf v u s2 x y H2 I2 r1 r2 q2
theorem Zxc{op:Operator}{r:R2}(ho:W6 X (binaryOp op) r)(ha:PE X a ta)(hb:PE X b tb):PE X (.BinOp a op b pos) (tOp r ta tb):=by
 intro pins s σ H Q I h
 exact wpAny_BinOp (Z07 ha hb I h fun v u s2 x y H2 I2 rx ry q=>ho pins s2 σ H2 x y v u Q I2 rx ry q)
theorem pe_un{op:UnaryOp}{r:V->Hp->VK->Prop}(ho:UnR X (unaryOp op) r)(ha:PE X a ta):PE X (.UnaryOp op a pos) (tUn r ta):=by
 intro pins s σ H Q I h
 exact UnaryOp_ (YA (ha pins s σ H _ I h) fun v s1 ⟨x,H1,I1,r1,q1⟩=>ho pins s1 σ H1 x v Q I1 r1 q1)
theorem opI{f:Value->Value->Sem Value}{C:Int->Int->Prop}{g:Int->Int->Int}
  (rule:∀(i j:Int) (t u:Tok) (s:Shared) (Q:Value->Shared->Prop) (E:Value->Shared->Prop),C i j->Q (.int (g i j) s.toks) { s with toks:=s.toks+1 }->wpAny (model X.prog X.w) X.A (f (.int i t) (.int j u)) Q E s) :
  W6 X f (rI C fun i j=>.int (g i j)):=by
 intro pins s σ H x y v u Q I rx ry h
 obtain⟨i,j,rfl,rfl,hc,q⟩:=h
 obtain⟨t,rfl⟩:=rx
 obtain⟨t',rfl⟩:=ry
 exact rule i j t t' s _ _ hc ⟨.int (g i j),H,I.tok _,⟨_,rfl⟩,q⟩
theorem opI0{f:Value->Value->Sem Value}{g:Int->Int->Int}
  (rule:∀(i j:Int) (t u:Tok) (s:Shared) (Q:Value->Shared->Prop) (E:Value->Shared->Prop),Q (.int (g i j) s.toks) { s with toks:=s.toks+1 }->wpAny (model X.prog X.w) X.A (f (.int i t) (.int j u)) Q E s) :
  W6 X f (Zuq fun i j=>.int (g i j)):=by
 intro pins s σ H x y v u Q I rx ry h
 obtain⟨i,j,rfl,rfl,q⟩:=h
 obtain⟨t,rfl⟩:=rx
 obtain⟨t',rfl⟩:=ry
 exact rule i j t t' s _ _ ⟨.int (g i j),H,I.tok _,⟨_,rfl⟩,q⟩
theorem Zvc{f:Value->Value->Sem Value}{g:Int->Int->Bool}
  (rule:∀(i j:Int) (t u:Tok) (s:Shared) (Q:Value->Shared->Prop) (E:Value->Shared->Prop),Q (.bool (g i j)) s->wpAny (model X.prog X.w) X.A (f (.int i t) (.int j u)) Q E s) :
  W6 X f (Zuq fun i j=>.bl (g i j)):=by
 intro pins s σ H x y v u Q I rx ry h
 obtain⟨i,j,rfl,rfl,q⟩:=h
 obtain⟨t,rfl⟩:=rx
 obtain⟨t',rfl⟩:=ry
 exact rule i j t t' s _ _ ⟨.bl (g i j),H,I,rfl,q⟩
def CDiv(i j:Int):Prop:=0<j/\j<1073741824
def CPow(i j:Int):Prop:=0<=j/\j<=1000000/\i.natAbs<2^64
def Z1k(i j:Int):Prop:=(-(2^64)<i/\i<2^64)\/(-(2^64)<j/\j<2^64)
theorem Z1k.ok{i j:Int}(h:Z1k i j):IntMulOk i j:=by
 rcases h with⟨h1,h2⟩|⟨h1,h2⟩
 ·exact .of_left (intBits_le_64 h1 h2)
 ·exact .of_right (intBits_le_64 h1 h2)
theorem Zrc:W6 X (binaryOp .Add) (Zuq fun i j=>.int (i+j)):=opI0 fun _ _ _ _ _ _ _ q=>add_int q
theorem Zy3:W6 X (binaryOp .Sub) (Zuq fun i j=>.int (i-j)):=opI0 fun _ _ _ _ _ _ _ q=>sub_int q
theorem Zy6:W6 X (binaryOp .Mult) (rI Z1k fun i j=>.int (i*j)):=opI fun _ _ _ _ _ _ _ hc q=>mul_int q hc.ok
theorem Zva:W6 X (binaryOp .FloorDiv) (rI CDiv fun i j=>.int (i/j)):=opI fun i j _ _ _ _ _ hc q=>by
 have h1:(0:Int)<j:=hc.1
 have h2:j<1073741824:=hc.2
 exact floordiv_int (by omega) (by rw[Int.fdiv_eq_ediv_of_nonneg i (by omega)];exact q) (.inl (PyProof.noPylong_small (by omega)))
theorem Zy7:W6 X (binaryOp .Mod) (rI (fun _ j=>0<j) fun i j=>.int (i%j)):=opI fun i j _ _ _ _ _ hc q=>by
 have h1:(0:Int)<j:=hc
 exact mod_int' (by omega) (by rw[Int.fmod_eq_emod_of_nonneg i (by omega)];exact q)
theorem Zy5:W6 X (binaryOp .Pow) (rI CPow fun i j=>.int (i^j.toNat)):=opI fun _ _ _ _ _ _ _ hc q=>pow_int_small hc.1 hc.2.1 hc.2.2 q
theorem unI{f:Value->Sem Value}{g:Int->Int}
  (rule:∀(i:Int) (t:Tok) (s:Shared) (Q:Value->Shared->Prop) (E:Value->Shared->Prop),Q (.int (g i) s.toks) { s with toks:=s.toks+1 }->wpAny (model X.prog X.w) X.A (f (.int i t)) Q E s) :
  UnR X f (rU fun i=>.int (g i)):=by
 intro pins s σ H x v Q I rx h
 obtain⟨i,rfl,q⟩:=h
 obtain⟨t,rfl⟩:=rx
 exact rule i t s _ _ ⟨.int (g i),H,I.tok _,⟨_,rfl⟩,q⟩
theorem Zx6:UnR X (unaryOp .USub) (rU fun i=>.int (-i)):=unI fun _ _ _ _ _ q=>neg_int q
end
section
variable{X:Cx}{a b c:Expr}{ta tb tc:TE}{pos:Pos}
theorem Z0m{pins:List (Addr×Obj)}{σ:St}{H:Hp}{s:Shared}{Q:VK}{k k':Bool}(I:Zq X pins σ H s)(q:Q (.bl k) H)(e:k=k'):EP X pins σ Q (.bool k') s:=by
 subst e
 exact⟨.bl k,H,I,rfl,q⟩
theorem op_lt:W6 X (compareOp .Lt) (Zuq fun i j=>.bl (decide (i<j))):=Zvc fun _ _ _ _ _ _ _ q=>lt_int q
theorem op_le:W6 X (compareOp .LtE) (Zuq fun i j=>.bl (decide (i<=j))):=Zvc fun _ _ _ _ _ _ _ q=>le_int q
theorem op_gt:W6 X (compareOp .Gt) (Zuq fun i j=>.bl (decide (j<i))):=Zvc fun _ _ _ _ _ _ _ q=>gt_int q
theorem op_ge:W6 X (compareOp .GtE) (Zuq fun i j=>.bl (decide (j<=i))):=Zvc fun _ _ _ _ _ _ _ q=>ge_int q
theorem Znx:W6 X (compareOp .In) (fun x y H Q=>∃i j,x=.str i/\y=.str j/\Q (.bl (!(Builtin.Str.occurrences j i 0 j.length 1).isEmpty)) H):=by
 intro pins s σ H x y v u Q I rx ry h
 obtain⟨i,j,rfl,rfl,q⟩:=h
 obtain⟨t,rfl⟩:=rx
 obtain⟨t',rfl⟩:=ry
 exact in_str (Z0m I q rfl)
theorem W6.or{f:Value->Value->Sem Value}{r r':R2}(h:W6 X f r)(h':W6 X f r'):W6 X f (fun x y H Q=>r x y H Q\/r' x y H Q):=by
 intro pins s σ H x y v u Q I rx ry q
 rcases q with q|q
 ·exact h pins s σ H x y v u Q I rx ry q
 ·exact h' pins s σ H x y v u Q I rx ry q
theorem Zri(b:Expr){op:CmpOp}(h:op≠.In:=by decide)(h2:op≠.NotIn:=by decide):behindInMarks op b=false:=by
 have e1:(op == CmpOp.In)=false:=by cases op<;>first|rfl|exact absurd rfl h
 have e2:(op == CmpOp.NotIn)=false:=by cases op<;>first|rfl|exact absurd rfl h2
 cases b<;>simp[behindInMarks,e1,e2]
theorem Zu7{op:CmpOp}{r:R2}(ho:W6 X (compareOp op) r)(ha:PE X a ta)(hb:PE X b tb)(hm:behindInMarks op b=false):PE X (.Compare a [op] [b] pos) (tOp r ta tb):=by
 intro pins s σ H Q I h
 exact wpAny_Compare1 (Z07 ha hb I h fun v u s2 x y H2 I2 rx ry q=>ho pins s2 σ H2 x y v u Q I2 rx ry q) hm
def Zw1(t:TE):TT:=fun σ H Q=>t σ H fun x H'=>∃k,x=.bl k/\Q k H'
theorem Zuv{op:CmpOp}{r:R2}(ho:W6 X (compareOp op) r)(ha:PE X a ta)(hb:PE X b tb)(hm:behindInMarks op b=false):PT X (.Compare a [op] [b] pos) (Zw1 (tOp r ta tb)):=by
 intro pins s σ H Q I h
 refine wpAny_isTrue_Compare1 (YA (ha pins s σ H _ I h) fun v s1 ⟨x,H1,I1,r1,q1⟩=>YA (hb pins s1 σ H1 _ I1 q1) fun u s2 ⟨y,H2,I2,r2,q2⟩ =>
  YA (ho pins s2 σ H2 x y v u _ I2 r1 r2 q2) fun c s3 ⟨z,H3,I3,r3,k,e,q3⟩=>?_) hm
 subst e
 cases r3
 exact JH ⟨H3,I3,q3⟩
def Zp3(r r':R2)(ta tb tc:TE):TE:=fun σ H Q=>ta σ H fun x H1=>tb σ H1 fun y H2=>r x y H2 fun z H3=>∃k,z=.bl k /\
 (if k=true then tc σ H3 fun w' H4=>r' y w' H4 Q else Q (.bl false) H3)
theorem Zq7{op op':CmpOp}{r r':R2}(ho:W6 X (compareOp op) r)(ho':W6 X (compareOp op') r')(ha:PE X a ta)(hb:PE X b tb)(hc:PE X c tc)
  (hm:lastMarks [op,op'] [b,c]=false:=by with_unfolding_all rfl):PE X (.Compare a [op,op'] [b,c] pos) (Zp3 r r' ta tb tc):=by
 intro pins s σ H Q I h
 refine Compare_chain (YA (ha pins s σ H _ I h) fun v s1 ⟨x,H1,I1,r1,q1⟩=>chain_link (YA (hb pins s1 σ H1 _ I1 q1) fun u s2 ⟨y,H2,I2,r2,q2⟩ =>
  YA (ho pins s2 σ H2 x y v u _ I2 r1 r2 q2) fun d s3 ⟨z,H3,I3,r3,k,e,q3⟩=>?_)) hm
 subst e
 cases r3
 refine JH ?_
 cases k with
 |false=>exact ite_ff ⟨.bl false,H3,I3,rfl,q3⟩
 |true=>exact ite_tt (chain_last (YA (hc pins s3 σ H3 _ I3 q3) fun w' s4 ⟨z',H4,I4,r4,q4⟩=>ho' pins s4 σ H4 y z' u w' Q I4 r2 r4 q4))
theorem Zqr{op op':CmpOp}{r r':R2}(ho:W6 X (compareOp op) r)(ho':W6 X (compareOp op') r')(ha:PE X a ta)(hb:PE X b tb)(hc:PE X c tc)
  (hm:lastMarks [op,op'] [b,c]=false:=by with_unfolding_all rfl):PT X (.Compare a [op,op'] [b,c] pos) (Zw1 (Zp3 r r' ta tb tc)):=by
 intro pins s σ H Q I h
 refine isTrue_chain (YA (ha pins s σ H _ I h) fun v s1 ⟨x,H1,I1,r1,q1⟩=>test_link (YA (hb pins s1 σ H1 _ I1 q1) fun u s2 ⟨y,H2,I2,r2,q2⟩ =>
  YA (ho pins s2 σ H2 x y v u _ I2 r1 r2 q2) fun d s3 ⟨z,H3,I3,r3,k,e,q3⟩=>?_)) hm
 subst e
 cases r3
 refine JH ?_
 cases k with
 |false =>
  obtain⟨k',e',q'⟩:=q3
  cases e'
  exact ite_ff ⟨H3,I3,q'⟩
 |true =>
  refine ite_tt (test_last (YA (hc pins s3 σ H3 _ I3 q3) fun w' s4 ⟨z',H4,I4,r4,q4⟩=>YA (ho' pins s4 σ H4 y z' u w' _ I4 r2 r4 q4) fun d' s5 ⟨z2,H5,I5,r5,k2,e2,q5⟩=>?_))
  subst e2
  cases r5
  exact JH ⟨H5,I5,q5⟩
def Z1d(K:PySem.W.Frag)(x:V)(H:Hp)(k:Bool):Prop :=
 match x with
 |.non=>k=false
 |.bl b=>k=b
 |.int i=>k=(i != 0)
 |.str y=>y.length<=sizeLine/\k=((y.length:Int) != 0)
 |.byt y=>y.size<=sizeLine/\k=((y.size:Int) != 0)
 |.ref p=>(∃xs,WH K H p xs/\k=!xs.isEmpty)\/(∃xs,Wq K H p xs/\k=!xs.isEmpty)\/∃kvs,H p=some (.dK kvs)/\k=!kvs.isEmpty
 |_=>False
theorem Zk8{κ:Type}{kvs:List (κ×V)}{vs:List (κ×Value)}(r:KV kvs vs):(!vs.isEmpty)=!kvs.isEmpty:=by
 cases r<;>rfl
theorem Zc9{xs:List V}{its:List Value}(r:ZB xs its):(!its.toArray.isEmpty)=!xs.isEmpty:=by
 cases r<;>simp
theorem UM:(sizeLine:Nat)<2^63:=by rw[QK];decide
theorem Zya:TruR X (fun x H Q=>∃k,Z1d X.K x H k/\Q k H):=by
 intro pins s σ H x v Q I rx h
 obtain⟨k,e,q⟩:=h
 have hl:=UM
 have hs:sizeLine=16777216:=QK
 cases x with
 |non =>
  cases rx
  have e':k=false:=e
  subst e'
  exact truthy_none ⟨H,I,q⟩
 |bl b =>
  cases rx
  have e':k=b:=e
  subst e'
  exact JH ⟨H,I,q⟩
 |int i =>
  obtain⟨t,rfl⟩:=rx
  have e':k=(i != 0):=e
  subst e'
  exact PySem.P.truthy_int ⟨H,I,q⟩
 |str y =>
  obtain⟨t,rfl⟩:=rx
  obtain⟨hy,e'⟩:y.length<=sizeLine/\k=((y.length:Int) != 0):=e
  subst e'
  exact PySem.P.truthy_str (by omega) ⟨H,I.tok _,q⟩
 |byt y =>
  obtain⟨t,rfl⟩:=rx
  obtain⟨hy,e'⟩:y.size<=sizeLine/\k=((y.size:Int) != 0):=e
  subst e'
  exact PySem.W.truthy_bytes (by omega) ⟨H,I.tok _,q⟩
 |ref p =>
  cases rx
  have e':(∃xs,WH X.K H p xs/\k=!xs.isEmpty)\/(∃xs,Wq X.K H p xs/\k=!xs.isEmpty)\/∃kvs,H p=some (.dK kvs)/\k=!kvs.isEmpty:=e
  rcases e' with⟨xs,hx,e'⟩|⟨xs,hx,e'⟩|⟨kvs,hx,e'⟩
  ·subst e'
   obtain⟨its,r,pl,hz⟩:=I.list hx
   have hlen:=r.length
   exact wpAny_truthy_list pl.isList (by simp only[Qi];omega) ⟨H,I.tok _,by rw[Zc9 r];exact q⟩
  ·subst e'
   obtain⟨its,r,pl,hz⟩:=I.tuple hx
   have hlen:=r.length
   exact truthy_tuple pl (by simp only[Qi];omega) ⟨H,I.tok _,by rw[Zc9 r];exact q⟩
  ·subst e'
   obtain⟨hz,hS,vs,r,m⟩:kvs.length<=sizeLine/\(p == sysModules)=false/\∃vs,KV kvs vs/\s.heap.DictOf (YI X.prog X.w) p vs:=I.hok p _ hx
   have hlen:kvs.length=vs.length:=Paired.length r
   exact wpAny_truthy_dict hS m (by omega) ⟨H,I.tok _,by rw[Zk8 r];exact q⟩
 |_=>exact(show False from e).elim
theorem Zia(ha:PE X a ta)(he:∀VO,isTrue a X.env VO=(do let v <- VO;standAt a.pos;holding [v] (truthy v))) :
  PT X a (fun σ H Q=>ta σ H fun x H'=>∃k,Z1d X.K x H' k/\Q k H'):=by
 intro pins s σ H Q I h
 exact isTrue_plain (YA (ha pins s σ H _ I h) fun v s1 ⟨x,H1,I1,r1,q1⟩=>Zya pins s1 σ H1 x v Q I1 r1 q1) (he _)
theorem Zkp:W6 X (binaryOp .Add) (fun x y H Q=>∃i j,x=.str i/\y=.str j/\i.length+j.length<=sizeLine/\Q (.str (i++j)) H):=by
 intro pins s σ H x y v u Q I rx ry h
 obtain⟨i,j,rfl,rfl,hz,q⟩:=h
 obtain⟨t,rfl⟩:=rx
 obtain⟨t',rfl⟩:=ry
 exact add_str (fun t' tk=>⟨.str (i++j),H,I.tok _,⟨_,rfl⟩,q⟩) hz
theorem Xp{x:V}{us:List Value}(r:ZB [x] us):∃u,us=[u]/\ZU x u:=by
 cases r with
 |cons r1 r2=>cases r2;exact⟨_,rfl,r1⟩
theorem Zwy{x y:V}{us:List Value}(r:ZB [x,y] us):∃u w',us=[u,w']/\ZU x u/\ZU y w':=by
 cases r with
 |cons r1 r2 =>
  cases r2 with
  |cons r3 r4=>cases r4;exact⟨_,_,rfl,r1,r3⟩
theorem Zo5(hc:X.calm=true):Xd X (.builtin "max") (fun xs H Q=>∃i j,xs=[.int i,.int j]/\Q (.int (if j>i then j else i)) H):=by
 intro pins s σ H xs us Q I r h
 obtain⟨i,j,rfl,q⟩:=h
 obtain⟨u,w',rfl,⟨t,rfl⟩,⟨t',rfl⟩⟩:=Zwy r
 refine max_two_ints (I.ok.hd hc) fun h' tk k=>⟨_,H,I.kept k,?_,q⟩
 by_cases hj:j>i
 ·rw[if_pos hj,if_pos hj];exact⟨_,rfl⟩
 ·rw[if_neg hj,if_neg hj];exact⟨_,rfl⟩
theorem Zo4(hc:X.calm=true):Xd X (.builtin "min") (fun xs H Q=>∃i j,xs=[.int i,.int j]/\Q (.int (if j<i then j else i)) H):=by
 intro pins s σ H xs us Q I r h
 obtain⟨i,j,rfl,q⟩:=h
 obtain⟨u,w',rfl,⟨t,rfl⟩,⟨t',rfl⟩⟩:=Zwy r
 refine min_two_ints (I.ok.hd hc) fun h' tk k=>⟨_,H,I.kept k,?_,q⟩
 by_cases hj:j<i
 ·rw[if_pos hj,if_pos hj];exact⟨_,rfl⟩
 ·rw[if_neg hj,if_neg hj];exact⟨_,rfl⟩
theorem Zff:Xd X (.type "int") (fun xs H Q=>(∃i,xs=[.int i]/\Q (.int i) H)\/∃k,xs=[.bl k]/\Q (.int (if k then 1 else 0)) H):=by
 intro pins s σ H xs us Q I r h
 rcases h with⟨i,rfl,q⟩|⟨k,rfl,q⟩
 ·obtain⟨u,rfl,t,rfl⟩:=Xp r
  exact call_int_int ⟨.int i,H,I,⟨_,rfl⟩,q⟩
 ·obtain⟨u,rfl,r1⟩:=Xp r
  cases r1
  exact call_int_bool ⟨.int (if k then 1 else 0),H,I.tok _,⟨_,rfl⟩,q⟩
theorem Zg2:Xd X (.type "str") (fun xs H Q=>∃i,xs=[.int i]/\i.natAbs.log2<1920/\Q (.str (toString i)) H):=by
 intro pins s σ H xs us Q I r h
 obtain⟨i,rfl,hz,q⟩:=h
 obtain⟨u,rfl,t,rfl⟩:=Xp r
 exact PySem.P.str_of_int hz ⟨.str _,H,I.tok _,⟨_,rfl⟩,q⟩
end
structure ObjM(h:Heap)(x dx C:Addr)(mA:Str->Option Value):Prop where
 obj:h.get? x=some (PySem.W.instObj C dx)
 ns:h.Ns1 dx mA
 ne:dx≠x
section
variable{prog:Program}{w:World}{A:Around}{E:Value->Shared->Prop}{s:Shared}{K:PySem.W.Frag}{x dx C f:Addr}{mA:Str->Option Value}{name:Str}{v:Value}
end
theorem Zbk.some_of{v:V}{o:Option Value}(r:Zbk (some v) o):∃u,o=some u/\ZU v u:=by
 cases o with
 |none=>exact(show False from r).elim
 |some u=>exact⟨u,rfl,r⟩
section
variable{P:Program}{w:World}{H H':Hp}{h h':Heap}{a C dx:Addr}{fs fs':List (Str×V)}
end
structure Cls(K:PySem.W.Frag)(C:Addr):Prop where
 pg:PySem.W.plainGet K C Str.empty=true
 hd:PySem.W.hasDictIn K C=true
 po:PySem.W.plainOver K C=true
 sa:PySem.W.findIn K (.ref C) "__setattr__"=some (some (.builtin "object.__setattr__"))
theorem Cls.get{K:PySem.W.Frag}{C:Addr}(c:Cls K C)(f:Str):PySem.W.plainGet K C f=true:=c.pg
structure Con(K:PySem.W.Frag)(C:Addr)(f:Str)(v:V)(u:Value):Prop where
 at_:PySem.W.findIn K (.ref C) f=some (some u)
 rel:ZU v u
 get:PySem.W.specialIn K u "__get__"=some none
 cp:PySem.W.copiedNames.contains f=false
structure Meth(K:PySem.W.Frag)(C:Addr)(m:Str)(f:Addr):Prop where
 at_:PySem.W.findIn K (.ref C) m=some (some (.ref f))
 fn:PySem.W.isFn K (.ref f)=true
 kp:PySem.W.keepIn K (.ref f)=true
section
variable{X:Cx}{pins:List (Addr×Obj)}{σ:St}{H:Hp}{s:Shared}{a C dx:Addr}{fs:List (Str×V)}{f:Str}{v:V}{A:Around}{E:Value->Shared->Prop}
theorem Zq.made(I:Zq X pins σ H s):Zq X pins σ (Y1 (Y1 H s.heap.objs.size (.own (s.heap.objs.size+1))) (s.heap.objs.size+1) (.ins C s.heap.objs.size []))
  { s with heap:=(s.heap.push PySem.W.emptyDict).push (PySem.W.instObj C s.heap.objs.size) }:=by
 have e1:(s.heap.push PySem.W.emptyDict).get? s.heap.objs.size=some PySem.W.emptyDict:=Qm s.heap rfl
 have e2:((s.heap.push PySem.W.emptyDict).push (PySem.W.instObj C s.heap.objs.size)).get? (s.heap.objs.size+1)=some (PySem.W.instObj C s.heap.objs.size):=by
  have:=Qm (s.heap.push PySem.W.emptyDict) (o:=PySem.W.instObj C s.heap.objs.size) rfl
  rwa[QN]at this
 have e3:(s.heap.push PySem.W.emptyDict).Ns s.heap.objs.size (fun _=>none):=⟨PySem.W.emptyDict,#[],_,e1,rfl,(fun e he=>absurd he (by simp)),fun _=>rfl⟩
 have I1:=I.laid (a:=s.heap.objs.size) (o:=.own (s.heap.objs.size+1)) (h':=s.heap.push PySem.W.emptyDict) (t':=s.toks) (fun b u q=>Qb _ q) (Qg _) ⟨_,e1⟩
 refine I1.laid (a:=s.heap.objs.size+1) (o:=.ins C s.heap.objs.size []) (t':=s.toks) (fun b u q=>Qb _ q) (Nat.le_of_eq (QN _ _)) ?_
 have ne:s.heap.objs.size≠s.heap.objs.size+1:=Qo (Ju _)
 refine⟨by rw[ZM ne,Yc],Q1 _,ne,e2,fun _=>none,(Heap.Ns1.of_empty e3).at fun o q=>Qb _ q,fun _=>True.intro,fun y hy=>absurd rfl hy⟩
end
section
variable{X:Cx}{o e value:Expr}{f:Str}{pos pos' tpos:Pos}{ta tv:TE}
end
section
variable{X:Cx}{pins:List (Addr×Obj)}{σ:St}{H:Hp}{s:Shared}{A:Around}{E:Value->Shared->Prop}{Q:Value->Shared->Prop}{c:Value}{b:Bool}
inductive Zd0(K:PySem.W.Frag)(H:Hp):V->Value->Prop where
 |non:Zd0 K H .non (.type "NoneType")
 |bl (x:Bool):Zd0 K H (.bl x) (.type "bool")
 |int (i:Int):Zd0 K H (.int i) (.type "int")
 |str (x:Str):Zd0 K H (.str x) (.type "str")
 |flt (x:UInt64):Zd0 K H (.flt x) (.type "float")
 |lst {a:Addr} {xs:List V} (e:H a=some (.lst xs)):Zd0 K H (.ref a) (.type "list")
 |frz {a:Addr} {o:Obj} {xs:List V} (e:H a=some (.frz o (.lst xs))):Zd0 K H (.ref a) (.type "list")
 |tup {a:Addr} {xs:List V} (e:H a=some (.tup xs)):Zd0 K H (.ref a) (.type "tuple")
 |dK {a:Addr} {kvs:List (YQ×V)} (e:H a=some (.dK kvs)):Zd0 K H (.ref a) (.type "dict")
 |dT {a:Addr} {kvs:List (List YQ×V)} (e:H a=some (.dT kvs)):Zd0 K H (.ref a) (.type "dict")
 |ins {a C dx:Addr} {fs:List (Str×V)} (e:H a=some (.ins C dx fs)) (cl:Cls K C) (ha:PySem.W.findIn K (.ref C) "__class__"=some (some (.builtin "object.__class__")))
   (hn:PySem.W.specialIn K (.builtin "object.__class__") "__get__"=some (some (.builtin "getset_descriptor.__get__"))) (htk:PySem.W.takesIn K (.builtin "object.__class__")=some true)
   (hm:PySem.W.mroIn K C (.type "object")=some true):Zd0 K H (.ref a) (.ref C)
end
structure XD(k:Nat)(A:Around):Prop where
 hd:A.handled=none
 dp:A.depth+3*k+5<recursionLimit
 un:A.units+16*k+200<cLine
theorem XD.mono{j k:Nat}{A:Around}(r:XD k A)(h:j<=k):XD j A:=⟨r.hd,by have:=r.dp;omega,by have:=r.un;omega⟩
theorem XD.deeper{k:Nat}{A:Around}(r:XD (k+1) A)(env:Env):XD k (A.deeper env) :=
 ⟨r.hd,by have:=r.dp;show A.depth+1+3*k+5<_;omega,by have:=r.un;show A.units+3+16*k+200<_;omega⟩
theorem XD.in1{k:Nat}{A:Around}(r:XD (k+1) A):XD k A.in1 :=
 ⟨r.hd,by have:=r.dp;show A.depth+3*k+5<_;omega,by have:=r.un;show A.units+1+16*k+200<_;omega⟩
theorem XD.depth{k:Nat}{A:Around}(r:XD k A):A.depth<recursionLimit:=by have:=r.dp;omega
theorem XD.units{k:Nat}{A:Around}(r:XD k A):A.units+64<cLine:=by have:=r.un;omega
theorem XD.units0{k:Nat}{A:Around}(r:XD k A):A.units<cLine:=by have:=r.un;omega
def Zyf:TA:=fun _ H Q=>Q [] H
def Zp2(ta:TE)(tr:TA):TA:=fun σ H Q=>ta σ H fun x H1=>tr σ H1 fun xs H2=>Q (x::xs) H2
section
variable{X:Cx}{e:Expr}{es:List Expr}{te:TE}{t:TA}{pos:Pos}
theorem Xh:PA X [] Zyf:=fun _ _ _ _ H Q I h=>Calls.spliced_nil ⟨[],H,I,.nil,h⟩
theorem Ym(ha:PE X e te)(hr:PA X es t)(hs:starEach (e::es) X.env=(false,eval e X.env)::starEach es X.env:=by rfl):PA X (e::es) (Zp2 te t):=by
 intro pos pins s σ H Q I h
 rw[hs]
 show wpAny _ _ (spliced ((false,eval e X.env)::backTo pos (starEach es X.env))) _ _ s
 refine Calls.spliced_cons (YA (ha pins s σ H _ I h) fun u s1 ⟨x,H1,I1,r1,q1⟩=>?_)
 exact YA (hr pos pins s1 σ H1 _ I1 q1) fun us s2 ⟨xs,H2,I2,r2,q2⟩=>⟨x::xs,H2,I2,.cons r1 r2,q2⟩
def tTup(t:TA):TE:=fun σ H Q=>t σ H fun xs H1=>xs.length<=sizeLine/\∀p,H1 p=none->Q (.ref p) (Y1 H1 p (.tup xs))
def tLst(t:TA):TE:=fun σ H Q=>t σ H fun xs H1=>xs.length<=sizeLine/\∀p,H1 p=none->Q (.ref p) (Y1 H1 p (.lst xs))
theorem Zq0{x1}(h:PA X es t):PE X (.Tuple es x1 pos) (tTup t):=by
 intro pins s σ H Q I hq
 refine wpAny_Tuple_spliced (YA (h pos pins s σ H _ I hq) fun us s1 ⟨xs,H1,I1,r,z,q⟩=>⟨by rw[<- r.length];exact z,?_⟩)
 have hf:H1 s1.heap.objs.size=none:=I1.hok.fresh (Qg _)
 refine⟨.ref s1.heap.objs.size,Y1 H1 s1.heap.objs.size (.tup xs),I1.laid (t':=s1.toks) (fun b u e=>Qb _ e) (Qg _) ?_,rfl,q _ hf⟩
 exact⟨z,us,r,⟨_,Qm _ rfl,rfl,_,rfl⟩⟩
theorem Zq2(h:PA X es t):PE X (.List es pos) (tLst t):=by
 intro pins s σ H Q I hq
 refine wpAny_List_spliced (YA (h pos pins s σ H _ I hq) fun us s1 ⟨xs,H1,I1,r,z,q⟩=>⟨by rw[<- r.length];exact z,?_⟩)
 have hf:H1 s1.heap.objs.size=none:=I1.hok.fresh (Qg _)
 refine⟨.ref s1.heap.objs.size,Y1 H1 s1.heap.objs.size (.lst xs),I1.laid (t':=s1.toks) (fun b u e=>Qb _ e) (Qg _) ?_,rfl,q _ hf⟩
 exact⟨z,us,0,r,Qm _ rfl⟩
end
abbrev Sp:=List V->Hp->VK->XK->Prop
abbrev Zm8:=List Env->Hp->Shared->XK->Value->Shared->Prop
structure Zlw(P:Program)(w:World)(K:PySem.W.Frag)(mg:Str->Option Value)(base:Heap)(A:Around)(outer:List Env)(s:Shared)(H:Hp):Prop where
 frames:A.frames=some outer
 mod:Mod K mg base
 bs:∀b o,base.get? b=some o->s.heap.get? b=some o/\H b=none
 bsz:base.objs.size<=s.heap.objs.size
 funs:s.heap.FunFrames base outer
 frf:∀b∈Vg outer,H b=none
 hok:Ua P w H s.heap
 bare:AllBare s.gens
def CE(outer:List Env)(P:Program)(w:World)(H:Hp)(s:Shared)(Q:VK)(u:Value)(s':Shared):Prop :=
 ∃v H',s'.os=s.os/\AllBare s'.gens/\Un (Vg outer) [] H H' s.heap s'.heap/\Ua P w H' s'.heap/\ZU v u/\Q v H'
def CR(CX:Zm8)(outer:List Env)(P:Program)(w:World)(H:Hp)(s:Shared)(Q:VK)(E:XK)(r:Result)(s':Shared):Prop :=
 match r with
 |.ok (.ret u)=>CE outer P w H s Q u s'
 |.ok _=>False
 |.error e=>CX outer H s E e s'
structure Vj(P:Program)(w:World)(K:PySem.W.Frag)(mg:Str->Option Value)(base:Heap)(CX:Zm8)(k:Nat)(f:Addr)(fd:FuncData)(ps:List Str)(sp:Sp):Prop where
 len:∀vs H Q E,sp vs H Q E->vs.length=ps.length
 run:∀(A:Around) (outer:List Env) (s:Shared) (H:Hp) (args:Args) (us:List Value) (vs:List V) (Q:VK) (E:XK),XD k A->Zlw P w K mg base A outer s H->BindsTo s fd args (ps.zip us)->ZB vs us->sp vs H Q E ->
  codeAny (model P w) A (.call (.ref f) args) (CR CX outer P w H s Q E) s
theorem Vj.mono{P:Program}{w:World}{K:PySem.W.Frag}{mg:Str->Option Value}{base:Heap}{CX:Zm8}{j k:Nat}{f:Addr}{fd:FuncData}{ps:List Str}{sp:Sp}(F:Vj P w K mg base CX j f fd ps sp)(h:j<=k) :
  Vj P w K mg base CX k f fd ps sp:=⟨F.len,fun A outer s H args us vs Q E hr=>F.run A outer s H args us vs Q E (hr.mono h)⟩
theorem Vj.imp{P:Program}{w:World}{K:PySem.W.Frag}{mg:Str->Option Value}{base:Heap}{CX:Zm8}{k:Nat}{f:Addr}{fd:FuncData}{ps:List Str}{sp sp':Sp}(F:Vj P w K mg base CX k f fd ps sp)
  (h:∀vs H Q E,sp' vs H Q E->sp vs H Q E):Vj P w K mg base CX k f fd ps sp' :=
 ⟨fun vs H Q E q=>F.len vs H Q E (h _ _ _ _ q),fun A outer s H args us vs Q E hr he hb hv hs=>F.run A outer s H args us vs Q E hr he hb hv (h _ _ _ _ hs)⟩
theorem Zlw.in1{P:Program}{w:World}{K:PySem.W.Frag}{mg:Str->Option Value}{base:Heap}{A:Around}{outer:List Env}{s:Shared}{H:Hp}(e:Zlw P w K mg base A outer s H) :
  Zlw P w K mg base A.in1 outer s H:=⟨e.frames,e.mod,e.bs,e.bsz,e.funs,e.frf,e.hok,e.bare⟩
section
variable{X:Cx}{pins:List (Addr×Obj)}{σ:St}{H:Hp}{s s':Shared}
theorem Zq.env0(I:Zq X pins σ H s):Zlw X.prog X.w X.K X.mg X.base X.A X.stack s H :=
 ⟨I.ok.frames,I.ok.mod,I.bs,Jw I.ok.bsz I.sz,I.stack,I.stkFree,I.hok,I.bare⟩
theorem Zq.after{Q:VK}{u:Value}(I:Zq X pins σ H s)(h:CE X.stack X.prog X.w H s Q u s'):EP X pins σ Q u s':=by
 obtain⟨v,H',os,bare,un,hok,r,q⟩:=h
 obtain⟨hh,g,d,t,os'⟩:=s'
 obtain rfl:os'=s.os:=os
 exact⟨v,H',I.call (h':=hh) (g':=g) (d':=d) (t':=t) (ch:=[]) un hok bare (fun b z=>absurd z (by simp)),r,q⟩
end
def tCall(sp:Sp)(dvs:List V)(E:XK)(t:TA):TE:=fun σ H Q=>t σ H fun vs H1=>sp (vs++dvs) H1 Q E
def Zbe(K:PySem.W.Frag)(fd:FuncData)(ps:List Str)(ds:List Value):Prop :=
 ∀(s:Shared) (us:List Value),K.In s.heap->(us++ds).length=ps.length->BindsTo s fd ⟨us,[]⟩ (ps.zip (us++ds))
theorem Zbe.all{K:PySem.W.Frag}{fd:FuncData}{ps:List Str}(h:∀us:List Value,us.length=ps.length->bindArgs fd ⟨us,[]⟩=pure (ps.zip us)):Zbe K fd ps []:=fun s us _ hl=>by
 rw[Q9]at hl ⊢
 exact .of_eq (h us hl)
def V8(CX:Zm8)(X:Cx)(E:XK):Prop:=∀(pins:List (Addr×Obj)) (σ:St) (H:Hp) (s:Shared) (e:Value) (s':Shared),Zq X pins σ H s->CX X.stack H s E e s'->X.xe e s'
section
variable{X:Cx}{CX:Zm8}{k:Nat}{f C:Addr}{fd:FuncData}{ps:List Str}{sp:Sp}{dvs:List V}{ds:List Value}{E:XK}{x m:Str}{p pos apos:Pos}{e o:Expr}{es:List Expr}{ta:TE}{t:TA}
theorem Zyq{pins:List (Addr×Obj)}{σ:St}{H:Hp}{s:Shared}{Q:VK}{us:List Value}{vs:List V}(F:Vj X.prog X.w X.K X.mg X.base CX k f fd ps sp)(hr:XD k X.A)(hb:Zbe X.K fd ps ds)(hd:ZB dvs ds)(hx:V8 CX X E)
  (I:Zq X pins σ H s) (r:ZB vs us) (h:sp (vs++dvs) H Q E):wpAny (model X.prog X.w) X.A (call (.ref f) us) (EP X pins σ Q) X.xe s:=by
 have r2:ZB (vs++dvs) (us++ds):=r.append hd
 have hl:(us++ds).length=ps.length:=by rw[<- r2.length];exact F.len _ _ _ _ h
 refine wpAny_call (J8 (F.run X.A X.stack s H ⟨us,[]⟩ (us++ds) (vs++dvs) Q E hr I.env0 (hb s us I.kIn hl) r2 h) fun r s' hq=>?_)
 cases r with
 |error e=>exact hx pins σ H s e s' I hq
 |ok fl =>
  cases fl with
  |ret u=>exact I.after hq
  |next=>exact False.elim hq
  |brk=>exact False.elim hq
  |cont=>exact False.elim hq
theorem Zf5(F:Vj X.prog X.w X.K X.mg X.base CX k f fd ps sp)(hr:XD k X.A)(hg:Gl X x)(hm:X.mg x=some (.ref f))(hk:PySem.W.keepIn X.K (.ref f)=true)(hb:Zbe X.K fd ps ds)(hd:ZB dvs ds)(hx:V8 CX X E)
  (ha:PA X (e::es) t) (hdb:(x == ("__debug__":Str))=false:=by decide) (he:starEach (e::es) X.env=(false,eval e X.env)::starEach es X.env:=by rfl) (hpl:(backTo pos (starEach es X.env)).any (·.1)=false:=by rfl) :
  PE X (.Call (.Name x p) (e::es) [] pos) (tCall sp dvs E t):=by
 intro pins s σ H Q I h
 refine wpAny_Call_Name_kw (Uo I hg hm ?_ hdb)
 refine PySem.W.callWith_K (h₀:=X.base) I.ok.mod.kin hk (YA (ha pos pins s σ H _ I h) fun us s1 ⟨vs,H1,I1,r,q⟩=>⟨I1.kIn,?_⟩) he hpl
 exact Zyq F hr hb hd hx I1 r q
structure Mk(K:PySem.W.Frag)(C f:Addr):Prop where
 makes:PySem.W.makesIn K C=true
 init:PySem.W.findIn K (.ref C) "__init__"=some (some (.ref f))
 fn:PySem.W.isFn K (.ref f)=true
 kp:PySem.W.keepIn K (.ref C)=true
end
section
variable{X:Cx}{CX:Zm8}{k:Nat}{f C:Addr}{fd:FuncData}{ps ks:List Str}{sp:Sp}{E:XK}{x m:Str}{p pos apos kpos:Pos}{e o:Expr}{es:List Expr}{kws:List Keyword}{te ta:TE}{t tk:TA}{nm:Option Str}
structure KBinds(K:PySem.W.Frag)(fd:FuncData)(ps ks:List Str)(g:List Value->List Value->List Value)(gV:List V->List V->List V):Prop where
 to:∀(s:Shared) (us ws:List Value),K.In s.heap->(g us ws).length=ps.length->BindsTo s fd ⟨us,ks.zip ws⟩ (ps.zip (g us ws))
 rel:∀{vs:List V} {us:List Value} {zs:List V} {ws:List Value},ZB vs us->ZB zs ws->ZB (gV vs zs) (g us ws)
variable{g:List Value->List Value->List Value}{gV:List V->List V->List V}
end
structure ZK(N P:List Str)(sc:Scope):Prop where
 kind:sc.kind=.function
 co:sc.isCoroutine=false
 gen:sc.isGenerator=false
 nd:N.Nodup
 pre:N.take P.length=P
 par:∀x∈P,sc.names.lookup x=some .local\/sc.names.lookup x=some .cell
 nofree:∀y∈sc.names,y.2≠.free
theorem Zfg{kindOf:Str->Option NameKind}{x:Str}:∀{binds:List (Str×Value)} {m:Str->Option Value},(∀v,(x,v)∉binds)->bindL kindOf binds m x=m x
 |[],_,_=>rfl
 |(n,v)::r,m,h=>by
  unfold bindL
  rw[Zfg fun w hw=>h w (Qe _ hw)]
  split
  ·have:x≠n:=by rintro rfl;exact h v Qf
   simp[this]
  ·rfl
theorem Zfi{kindOf:Str->Option NameKind}{x:Str}:∀{binds:List (Str×Value)} {m:Str->Option Value},(∀v,(x,v)∉binds)->bindC kindOf binds m x=m x
 |[],_,_=>rfl
 |(n,v)::r,m,h=>by
  unfold bindC
  rw[Zfi fun w hw=>h w (Qe _ hw)]
  split
  ·rfl
  ·have:x≠n:=by rintro rfl;exact h v Qf
   simp[this]
theorem Zfh{kindOf:Str->Option NameKind}{x:Str}{v:Value}:∀{P:List Str} {vs:List Value} {i:Nat} {m:Str->Option Value},P.Nodup->P[i]?=some x->vs[i]?=some v->kindOf x=some .local ->
  bindL kindOf (P.zip vs) m x=some v
 |[],_,_,_,_,h,_,_=>by simp at h
 |_::_,[],_,_,_,_,h,_=>by simp at h
 |p::P,w::vs,0,m,nd,h1,h2,hk=>by
  simp at h1 h2;subst h1;subst h2
  show bindL kindOf ((p,w)::P.zip vs) m p=_
  unfold bindL
  rw[Zfg fun v hv=>(List.nodup_cons.mp nd).1 (List.of_mem_zip hv).1,if_pos hk]
  simp
 |p::P,w::vs,i+1,m,nd,h1,h2,hk=>by
  show bindL kindOf ((p,w)::P.zip vs) m x=_
  unfold bindL
  exact Zfh (i:=i) (List.nodup_cons.mp nd).2 (by simpa using h1) (by simpa using h2) hk
theorem Zfj{kindOf:Str->Option NameKind}{x:Str}{v:Value}:∀{P:List Str} {vs:List Value} {i:Nat} {m:Str->Option Value},P.Nodup->P[i]?=some x->vs[i]?=some v->kindOf x≠some .local ->
  bindC kindOf (P.zip vs) m x=some v
 |[],_,_,_,_,h,_,_=>by simp at h
 |_::_,[],_,_,_,_,h,_=>by simp at h
 |p::P,w::vs,0,m,nd,h1,h2,hk=>by
  simp at h1 h2;subst h1;subst h2
  show bindC kindOf ((p,w)::P.zip vs) m p=_
  unfold bindC
  rw[Zfi fun v hv=>(List.nodup_cons.mp nd).1 (List.of_mem_zip hv).1,if_neg hk]
  simp
 |p::P,w::vs,i+1,m,nd,h1,h2,hk=>by
  show bindC kindOf ((p,w)::P.zip vs) m x=_
  unfold bindC
  exact Zfj (i:=i) (List.nodup_cons.mp nd).2 (by simpa using h1) (by simpa using h2) hk
def start(N:List Str)(vs:List V):St:=vs.map some++List.replicate (N.length-vs.length) none
def Zef(CX:Zm8)(P:Program)(w:World)(K:PySem.W.Frag)(mg:Str->Option Value)(base:Heap)(N:List Str)(qual:Str)(scope:Scope)(f:Addr)(cd:Value)(A:Around)(outer:List Env)(s:Shared)(H:Hp)(E:XK):Cx where
 prog:=P
 w:=w
 K:=K
 mg:=mg
 base:=base
 A:=A.deeper (envOfC qual scope s.heap.objs.size f cd)
 N:=N
 s₀:=s
 H₀:=H
 env:=envOfC qual scope s.heap.objs.size f cd
 outer:=outer
 stack:=envOfC qual scope s.heap.objs.size f cd::outer
 ex:=[]
 calm:=true
 fn:=fun _=>true
 pn:=[]
 xe:=fun e s'=>wpAny (model P w) (A.deeper (envOfC qual scope s.heap.objs.size f cd)) (leaving (envOfC qual scope s.heap.objs.size f cd) e) (fun _ s''=>CX outer H s E e s'') (fun e' s''=>CX outer H s E e' s'') s'
theorem Zjk{sc:Scope}{n:Nat}{x:Str}(h:sc.names.lookup x=some .cell):∃c,(cellsFrom n sc.names []).lookup x=some c:=by
 have q:=PySem.W.cellsFrom_some sc.names n [] (.inl h)
 exact Option.isSome_iff_exists.mp q
theorem Zok{CX:Zm8}{P:Program}{w:World}{K:PySem.W.Frag}{mg:Str->Option Value}{base:Heap}{N ps:List Str}{qual:Str}{scope:Scope}{f:Addr}{cd:Value}{A:Around}{outer:List Env}{s s1:Shared}{H:Hp}{E:XK}{us:List Value}{vs:List V}
  (S:ZK N ps scope) (hd:A.handled=none) (e0:Zlw P w K mg base A outer s H) (hl:vs.length=ps.length) (r:ZB vs us)
  (x:InCallC s s.heap.objs.size (bindL (envOfC qual scope s.heap.objs.size f cd).kindOf (ps.zip us) fun _=>none) (cellsFrom (s.heap.objs.size+1) scope.names []) (bindC (envOfC qual scope s.heap.objs.size f cd).kindOf (ps.zip us) fun _=>none) s1) :
  Zq (Zef CX P w K mg base N qual scope f cd A outer s H E) [] (start N vs) H s1:=by
 have hpl:ps.length<=N.length:=by have:=congrArg List.length S.pre;rw[QL]at this;omega
 obtain⟨h1,tk,rfl,hk⟩:=x.done
 have noA:∀b:Addr,b∉(Zef CX P w K mg base N qual scope f cd A outer s H E).ex:=fun b z=>absurd (show b∈([]:List Addr) from z) (by simp)
 refine⟨⟨e0.mod,S.kind,rfl,rfl,Qg _,fun y z c h1 h2=>?_,fun y hy=>?_,fun y c _ h=>?_,fun _=>hd,Around.frames_deeper e0.frames,.inr ⟨rfl,rfl⟩,fun b z=>absurd z (noA b),e0.bs,e0.bsz,fun b _ _=>noA b,fun b z=>absurd z (noA b),e0.funs,e0.frf⟩,
  rfl,e0.bare,Un.kept hk,⟨_,x.toInCall.ns,fun i y v h1 h2 h3=>?_⟩,fun y c h=>⟨_,x.cell y c h⟩,e0.hok.fresh (Qg _),fun y c h=>?_,fun p hp=>absurd (show p∈([]:List (Addr×Obj)) from hp) (by simp),e0.hok.kept hk,?_⟩
 ·exact name_of_addr x.apart (PySem.mem_of_lookup h1) (PySem.mem_of_lookup h2)
 ·have hy:scope.names.lookup y=some .cell\/scope.names.lookup y=some .free:=hy
  rcases hy with hy|hy
  ·exact Zjk hy
  ·exact absurd rfl (S.nofree _ (PySem.mem_of_lookup hy))
 ·exact Nat.le_of_lt (x.above y c (PySem.mem_of_lookup h))
 ·have hi:i<vs.length:=by
   unfold start at h2
   by_cases hi:i<vs.length
   ·exact hi
   ·rw[Jb (by simpa using hi)]at h2
    rw[Ja]at h2
    split at h2<;>cases h2
  have ha:vs[i]?=some v:=by
   unfold start at h2
   rw[QH (by simpa using hi),QC]at h2
   cases e:vs[i]? with
   |none=>rw[e]at h2;cases h2
   |some a=>rw[e]at h2;cases h2;rfl
  obtain⟨u,hu,rv⟩:=r.get ha
  have hp:ps[i]?=some y:=by
   rw[<- S.pre,List.getElem?_take_of_lt (by omega)];exact h1
  have ndP:ps.Nodup:=by rw[<- S.pre];exact S.nd.sublist (List.take_sublist _ _)
  refine⟨u,rv,?_⟩
  rcases S.par y (List.mem_of_getElem? hp) with k|k
  ·exact .inl ⟨k,Zfh ndP hp hu k⟩
  ·obtain⟨c,e⟩:=Zjk (n:=s.heap.objs.size+1) k
   refine .inr ⟨.inl k,c,e,?_⟩
   have q:=x.cell y c e
   rw[Zfj ndP hp hu (by show scope.names.lookup y≠_;rw[k];decide)]at q
   exact q
 ·exact e0.hok.fresh (Nat.le_of_lt (x.above y c (PySem.mem_of_lookup h)))
 ·unfold start
  show _=N.length
  rw[QI,Qd,List.length_replicate]
  omega
theorem Zxq{CX:Zm8}{P:Program}{w:World}{K:PySem.W.Frag}{mg:Str->Option Value}{base:Heap}{k:Nat}{f:Addr}{name qual:Str}{params:Arguments}{body:List Stmt}{scope:Scope}{dV kV doc pm cdv ct oc:Value}{an od:Option Addr}
  {osl:Array (Option Value)} {N ps:List Str} {sp:Sp} (lk:K.lookup f=some ⟨oc,od,.func (PySem.W.fnOf name qual params body scope dV kV doc pm an cdv ct),osl⟩) (hcd:PySem.W.codeIn K cdv qual=true) (S:ZK N ps scope)
  (len:∀vs H Q E,sp vs H Q E->vs.length=ps.length)
  (hbody:∀(A:Around) (outer:List Env) (s:Shared) (H:Hp) (vs:List V) (Q:VK) (E:XK),XD k (A.deeper (envOfC qual scope s.heap.objs.size f cdv))->sp vs H Q E ->
   ∃t,Zbd (Zef CX P w K mg base N qual scope f cdv A outer s H E) body t/\t { nx:=fun _ H'=>Q .non H',rt:=Q } (start N vs) H) :
  Vj P w K mg base CX (k+1) f (PySem.W.fnOf name qual params body scope dV kV doc pm an cdv ct) ps sp:=by
 refine⟨len,fun A outer s H args us vs Q E hr e0 hb r hsp=>?_⟩
 have hl:=len _ _ _ _ hsp
 have KX:K.In s.heap:=e0.mod.kin.keeps fun b o e=>(e0.bs b o e).1
 have lim:s.heap.NoLimit:=e0.mod.nolimit.keeps fun b o e=>(e0.bs b o e).1
 have hkind:∀y∈ps.zip us,scope.names.lookup y.1=some .local\/(scope.names.lookup y.1=some .cell/\((cellsFrom (s.heap.objs.size+1) scope.names []).lookup y.1).isSome=true):=fun⟨n,v⟩ hy=>by
  rcases S.par n (List.of_mem_zip hy).1 with q|q
  ·exact .inl q
  ·exact .inr ⟨q,PySem.W.cellsFrom_some _ _ _ (.inl q)⟩
 refine codeAny_call_function hr.depth (KX _ _ lk) rfl S.co S.gen rfl (PySem.W.codeRec_of KX hcd) (hb _ _ _ _ ?_)
 refine wpAny_newFunctionEnv_cells S.kind hkind fun env he s1 x=>?_
 subst he
 refine⟨lim.keeps x.toInCall.keep,codeAny_func ?_⟩
 obtain⟨t,ht,hq⟩:=hbody A outer s H vs Q E (hr.deeper _) hsp
 have I:Zq (Zef CX P w K mg base N qual scope f cdv A outer s H E) [] (start N vs) H s1:=Zok S hr.hd e0 hl r x
 refine Q5 (ht [] s1 (start N vs) H _ I hq) (fun fl s' hs=>?_) fun e s' hs=>hs
 have fin:∀{σ':St} {H':Hp} {v:V} {u:Value},Zq (Zef CX P w K mg base N qual scope f cdv A outer s H E) [] σ' H' s'->ZU v u->Q v H'->CE outer P w H s Q u s' :=
  fun{σ' H' v u} J rv q=>⟨v,H',J.os,J.bare,J.base,J.hok,rv,q⟩
 cases fl with
 |ret u =>
  obtain⟨v,σ',H',J,rv,q⟩:=hs
  exact fin J rv q
 |next =>
  obtain⟨σ',H',J,q⟩:=hs
  exact fin (v:=V.non) (u:=Value.none) J rfl q
 |brk =>
  obtain⟨_,_,_,q⟩:=hs
  exact False.elim q
 |cont =>
  obtain⟨_,_,_,q⟩:=hs
  exact False.elim q
section
variable{X:Cx}{x:Str}{p pos:Pos}{e:Expr}{es:List Expr}{t:TA}{id T:String}{r:List V->Hp->VK->Prop}
def tCB(r:List V->Hp->VK->Prop)(t:TA):TE:=fun σ H Q=>t σ H fun vs H1=>r vs H1 Q
theorem VU(hc:Xd X (.builtin id) r)(hg:Gl X x)(hm:X.mg x=none)(hv:bootBuiltins x=some (.builtin id))(ha:PA X (e::es) t)(hn:x≠"__name__":=by decide)(hdb:(x == ("__debug__":Str))=false:=by decide)
  (he:starEach (e::es) X.env=(false,eval e X.env)::starEach es X.env:=by rfl) (hpl:(backTo pos (starEach es X.env)).any (·.1)=false:=by rfl):PE X (.Call (.Name x p) (e::es) [] pos) (tCB r t):=by
 intro pins s σ H Q I h
 refine wpAny_Call_Name_kw (Zat I hg hm hv ?_ hn hdb)
 exact PyProof.Rows.callWith_builtin1 (YA (ha pos pins s σ H _ I h) fun us s1 ⟨vs,H1,I1,r1,q1⟩=>hc pins s1 σ H1 vs us Q I1 r1 q1) he hpl
theorem Vc(hc:Xd X (.type T) r)(hg:Gl X x)(hm:X.mg x=none)(hv:bootBuiltins x=some (.type T))(ha:PA X (e::es) t)(hn:x≠"__name__":=by decide)(hdb:(x == ("__debug__":Str))=false:=by decide)
  (he:starEach (e::es) X.env=(false,eval e X.env)::starEach es X.env:=by rfl) (hpl:(backTo pos (starEach es X.env)).any (·.1)=false:=by rfl):PE X (.Call (.Name x p) (e::es) [] pos) (tCB r t):=by
 intro pins s σ H Q I h
 refine wpAny_Call_Name_kw (Zat I hg hm hv ?_ hn hdb)
 exact PyProof.Rows.callWith_type1 (YA (ha pos pins s σ H _ I h) fun us s1 ⟨vs,H1,I1,r1,q1⟩=>hc pins s1 σ H1 vs us Q I1 r1 q1) he hpl
end
end L2
namespace HT
open PySem PyProof.Rows
def lexLt:List Int->List Int->Bool
 |[],[]=>false
 |[],_::_=>true
 |_::_,[]=>false
 |x::xs,y::ys=>if x=y then lexLt xs ys else decide (x<y)
theorem XY(x y:Int)(xs ys:List Int):lexLt (x::xs) (y::ys)=if x=y then lexLt xs ys else decide (x<y):=rfl
theorem Zec:lexLt [] []=false:=rfl
theorem Zcz(y:Int)(ys:List Int):lexLt [] (y::ys)=true:=rfl
theorem Zc0(x:Int)(xs:List Int):lexLt (x::xs) []=false:=rfl
theorem Zs7(A:Around)(s:Shared)(a:Int)(t:Tok)(c:Int)(u:Tok):∃e,SeqAt.EqAt A s (.int a t) (.int c u) e/\(e=true↔a=c) :=
 ⟨(a == c),SeqAt.EqAt.int_int a t c u,by simp⟩
theorem Zqo(A:Around)(s:Shared)(a:Int)(t:Tok)(c:Int)(u:Tok)(prog:Program)(w:World)(E:Value->Shared->Prop)(Q:Value->Shared->Prop)(h:Q (.bool (decide (a<c))) s) :
  wpAny (model prog w) A (richCompare .Lt (.int a t) (.int c u)) Q E s :=
 (PyProof.Rows.lt_int h:wpAny (model prog w) A (compareOp .Lt (.int a t) (.int c u)) Q E s)
section
open PySem.SeqAt
open PySem.AutoSeq1 (wpAny_loadPart')
open PySem.MeetsSeq PySem.MeetsSeq2 PySem.MeetsSeq3
theorem Zd9(l b:Addr)(items items2:Array Value)(n n2:Nat)(dd dd2:Option Addr)(sl sl2:Array (Option Value))(ns ms:List Int)(hi:IntsAre items.toList ns)(hj:IntsAre items2.toList ms) :
  Meets (Builtin.«tuple.__lt__» ⟨[.ref l,.ref b],[]⟩)
   (fun _ R s=>s.heap.get? l=some { cls:=.type "tuple",dict:=dd,data:=.seq items n,slots:=sl }/\s.heap.get? b=some { cls:=.type "tuple",dict:=dd2,data:=.seq items2 n2,slots:=sl2 } /\
    R (.ok (.ret (.bool (lexLt ns ms)))) s) :=
 .of_wp fun prog w A R s h=>by
  obtain⟨hp,g,d,tk,os⟩:=s;obtain⟨hl,hb,h⟩:=h
  have f2:=AutoSeq1.sub_tuple_tuple
  have z1:items.size=ns.length:=by rw[<- hi.length];simp
  have z2:items2.size=ms.length:=by rw[<- hj.length];simp
  wp_walk using wpAny_loadPart' hl,wpAny_loadPart' hb,wpAny_forIn_list _ (fun Z0 b s'=>b.1=none/\s'=⟨hp,g,d,tk,os⟩/\∃(vs ws:List Value) (ns' ms':List Int),Z0=vs.zip ws /\
   IntsAre vs ns'/\IntsAre ws ms'/\ns'.length+items2.size=ms'.length+items.size/\R (.ok (.ret (.bool (lexLt ns' ms')))) ⟨hp,g,d,tk,os⟩) _
  case turn =>
   rintro⟨y,x⟩ Z0 b s' ⟨hb',rfl,vs,ws,ns',ms',hz,hvi,hwi,hlen,hR⟩
   cases hvi with
   |nil=>rw[List.zip_nil_left]at hz;cases hz
   |cons a t hvi' =>
    cases hwi with
    |nil=>rw[List.zip_nil_right]at hz;cases hz
    |cons c u hwi' =>
     rw[Jt]at hz
     injection hz with hyx hrest
     injection hyx with hy hx
     subst hy hx
     rw[XY]at hR
     simp only[Qp]at hlen
     obtain⟨e,he,hiff⟩:=Zs7 A.in1 ⟨hp,g,d,tk,os⟩ a t c u
     refine Qa (he prog w _ _ ?_)
     cases e with
     |true =>
      rw[if_pos (hiff.mp rfl)]at hR
      wp_walk
      exact⟨rfl,rfl,_,_,_,_,hrest,hvi',hwi',by omega,hR⟩
     |false =>
      rw[if_neg (fun q=>absurd (hiff.mpr q) Qv)]at hR
      have hri:=Zqo A.in1 ⟨hp,g,d,tk,os⟩ a t c u prog w
      wp_walk using hri
      exact⟨_,rfl,by simpa using hR⟩
  case fin =>
   rintro⟨b1,b2⟩ s' ⟨hb',rfl,vs,ws,ns',ms',hz,hvi,hwi,hlen,hR⟩
   simp only at hb'
   subst hb'
   have hv:lexLt ns' ms'=decide (items.size<items2.size):=by
    cases hvi with
    |nil =>
     cases hwi with
     |nil =>
      simp only[QY]at hlen
      rw[Zec]
      exact(decide_eq_false (by omega)).symm
     |cons c u hw =>
      simp only[QY,Qp]at hlen
      rw[Zcz]
      exact(decide_eq_true (by omega)).symm
    |cons a t hv =>
     cases hwi with
     |nil =>
      simp only[QY,Qp]at hlen
      rw[Zc0]
      exact(decide_eq_false (by omega)).symm
     |cons c u hw =>
      rw[Jt]at hz
      cases hz
   rw[hv]at hR
   wp_walk
   exact⟨_,rfl,by simpa [Builtin.Tuple.tupleCompareSizes] using hR⟩
  case h =>
   exact⟨rfl,rfl,items.toList,items2.toList,ns,ms,rfl,hi,hj,by omega,h⟩
end
section
variable{prog:Program}{w:World}{A:Around}{E:Value->Shared->Prop}{s:Shared}
theorem lt_tupInts{l b:Addr}{items items2:Array Value}{ns ms:List Int}{Q:Value->Shared->Prop}(hl:IsTup s.heap l items)(hb:IsTup s.heap b items2)(hi:IntsAre items.toList ns)(hj:IntsAre items2.toList ms)
  (hu:A.units<cLine) (h:Q (.bool (lexLt ns ms)) s):wpAny (model prog w) A (compareOp .Lt (.ref l) (.ref b)) Q E s:=by
 obtain⟨⟨cls,dd,data,sl⟩,ho,hc,n,hd⟩:=id hl
 obtain⟨⟨cls2,dd2,data2,sl2⟩,ho2,hc2,n2,hd2⟩:=id hb
 simp only at hc hd hc2 hd2
 subst hc hd hc2 hd2
 exact richCompare_meets_room (op:=.Lt) ⟨_,ho,rfl⟩ ⟨_,ho2,rfl⟩ PySem.F.slot_tuple_lt PySem.F.entry_tuple_lt (PySem.F.args_tuple_lt_2 _ _) (Zd9 l b items items2 n n2 dd dd2 sl sl2 ns ms hi hj)
  ⟨ho,ho2,show Value.bool (lexLt ns ms)≠Value.notImplemented/\Q (.bool (lexLt ns ms)) s from⟨(fun x=>nomatch x),h⟩⟩ hu
theorem cat_tup{t b:Addr}{vs ws:List Value}{Q:Value->Shared->Prop}(ht:IsTup s.heap t vs.toArray)(hb:IsTup s.heap b ws.toArray)(hv:vs≠[])
  (h1:ws=[]->Q (.ref t) s) (h2:ws≠[]->Q (.ref s.heap.objs.size) { s with heap:=s.heap.push { cls:=.type "tuple",data:=.seq (vs++ws).toArray } })
  (hsz:vs.length+ws.length<=sizeLine):wpAny (model prog w) A (binaryOp .Add (.ref t) (.ref b)) Q E s:=by
 obtain⟨⟨cls,dd,data,sl⟩,ho,hc,n,hd⟩:=id ht
 obtain⟨⟨cls2,dd2,data2,sl2⟩,ho2,hc2,n2,hd2⟩:=id hb
 simp only at hc hd hc2 hd2
 subst hc hd hc2 hd2
 have e:vs.toArray++ws.toArray=(vs++ws).toArray:=by simp
 by_cases hw:ws=[]
 ·exact concat_meets ⟨_,ho,rfl⟩ ⟨_,ho2,rfl⟩ noFill_tuple_add seq_tuple_add PySem.F.slot_tuple_add PySem.F.entry_tuple_add (PySem.F.args_tuple_add_2 _ _)
   (tuple_addW1 t b vs.toArray ws.toArray n n2 dd dd2 sl sl2 (by simpa using hv) (by simp[hw])) ⟨ho,ho2,h1 hw⟩
 ·refine concat_meets ⟨_,ho,rfl⟩ ⟨_,ho2,rfl⟩ noFill_tuple_add seq_tuple_add PySem.F.slot_tuple_add PySem.F.entry_tuple_add (PySem.F.args_tuple_add_2 _ _)
   (tuple_addW2 t b vs.toArray ws.toArray n n2 dd dd2 sl sl2 (by simpa using hv) (by simpa using hw) (by rw[Qi,Qi];exact hsz)) ⟨ho,ho2,?_⟩
  rw[e]
  exact h2 hw
def sIx(n d:Nat):Option Int->Nat
 |none=>d
 |some v=>if v<0 then(v+(n:Int)).toNat else min v.toNat n
theorem Zh2(n d:Nat):sIx n d none=d:=rfl
theorem Zl4(n d k:Nat):sIx n d (some (k:Int))=min k n:=by
 show(if(k:Int)<0 then((k:Int)+(n:Int)).toNat else min (k:Int).toNat n)=min k n
 rw[if_neg (by omega),QF]
theorem Zyp(n d:Nat)(hd:d<=n)(o:Option Int):sIx n d o<=n:=by
 cases o with
 |none=>exact hd
 |some v =>
  show(if v<0 then(v+(n:Int)).toNat else min v.toNat n)<=n
  by_cases hv:v<0
  ·rw[if_pos hv];omega
  ·rw[if_neg hv];exact Nat.min_le_right _ _
theorem Zm4(v:Int)(n d:Nat):(if v<0 then max (v+(n:Int)) 0 else min v (n:Int))=((sIx n d (some v):Nat):Int):=by
 show(if v<0 then max (v+(n:Int)) 0 else min v (n:Int))=(((if v<0 then(v+(n:Int)).toNat else min v.toNat n):Nat):Int)
 by_cases hv:v<0
 ·simp only[if_pos hv];omega
 ·simp only[if_neg hv];omega
theorem Zls(lo hi:Option Int)(n:Nat):Builtin.Slice.sliceAdjust lo hi 1 (n:Int)=(((sIx n 0 lo:Nat):Int),((sIx n n hi:Nat):Int)):=by
 have h1:¬((1:Int)<0):=by omega
 unfold Builtin.Slice.sliceAdjust
 simp only[h1,if_false]
 refine Prod.ext ?_ ?_
 ·cases lo with
  |none=>rfl
  |some v=>exact Zm4 v n 0
 ·cases hi with
  |none=>rfl
  |some v=>exact Zm4 v n n
theorem Zko(i j:Nat):Builtin.Slice.slicePlaces (i:Int) (j:Int) 1=j-i:=by
 unfold Builtin.Slice.slicePlaces
 have h1:(1:Int)>0:=by omega
 simp only[h1,if_true,Int.ediv_one]
 split<;>omega
theorem Zcj{v:Value}{o:Option Int}{Q:Option Int->Shared->Prop}(p:IsPart v o)(h:Q o s):wpAny (model prog w) A (Builtin.Slice.slicePartIndex v) Q E s:=by
 cases p with
 |none=>exact slicePart_none h
 |int i t=>exact slicePart_int h
theorem W9{sl:Addr}{vl vu:Value}{lo hi:Option Int}{n:Nat}{Q:Int×Int×Nat->Shared->Prop}(hs:s.heap.IsSliceOf sl vl vu .none)(pl:IsPart vl lo)(pu:IsPart vu hi)
  (h:Q (((sIx n 0 lo:Nat):Int),1,sIx n n hi-sIx n 0 lo) s):wpAny (model prog w) A (Builtin.Slice.sliceApplied (.ref sl) (pure (n:Int))) Q E s:=by
 obtain⟨os,hos,hcs,hds⟩:=id hs
 unfold Builtin.Slice.sliceApplied Builtin.Slice.sliceFields
 refine Qa (Qa (Jc hos hds (x:=vl) rfl (Qa (Jc hos hds (x:=vu) rfl (Qa (Jc hos hds (x:=.none) rfl (Qc ?_)))))))
 refine Qa (slicePart_none ?_)
 show wpAny _ _ (if((1:Int) == 0)=true then _ else _) _ _ s
 rw[if_neg (by decide)]
 refine Qa (Zcj pl (Qa (Zcj pu (Qa (Qc ?_)))))
 show wpAny _ _ (match Builtin.Slice.sliceAdjust lo hi 1 (n:Int) with|(lo,hi)=>pure (lo,(1:Int),Builtin.Slice.slicePlaces lo hi 1)) _ _ s
 rw[Zls lo hi n]
 show wpAny _ _ (pure (((sIx n 0 lo:Nat):Int),(1:Int),Builtin.Slice.slicePlaces ((sIx n 0 lo:Nat):Int) ((sIx n n hi:Nat):Int) 1)) _ _ s
 rw[Zko]
 exact Qc h
theorem Zqx(xs:Array Value)(i k:Nat):((List.range k).filterMap fun(m:Nat)=>xs[((i:Int)+(m:Int)*1).toNat]?).toArray=((xs.toList.drop i).take k).toArray:=by
 have e:(fun(m:Nat)=>xs[((i:Int)+(m:Int)*1).toNat]?)=fun m=>xs[i+m]?:=by
  funext m
  have:((i:Int)+(m:Int)*1).toNat=i+m:=by omega
  rw[this]
 rw[e]
 have:=pick_run xs i k
 rw[List.filterMap_map]at this
 have e2:((fun x=>xs[x]?) ∘ fun x=>i+x)=fun m=>xs[i+m]?:=rfl
 rw[e2]at this
 rw[this]
theorem getItem_tuple_cut{t sl:Addr}{items:Array Value}{vl vu:Value}{lo hi:Option Int}{Q:Value->Shared->Prop}(ht:IsTup s.heap t items)(hs:s.heap.IsSliceOf sl vl vu .none)(pl:IsPart vl lo)(pu:IsPart vu hi)
  (hw:¬(sIx items.size 0 lo=0/\sIx items.size items.size hi=items.size))
  (h:Q (.ref s.heap.objs.size) { s with heap:=s.heap.push { cls:=.type "tuple",data:=.seq ((items.toList.drop (sIx items.size 0 lo)).take (sIx items.size items.size hi-sIx items.size 0 lo)).toArray } })
  (hsz:items.size<=sizeLine):wpAny (model prog w) A (getItem (.ref t) (.ref sl)) Q E s:=by
 have htake:sizeOk (.seq ((items.toList.drop (sIx items.size 0 lo)).take (sIx items.size items.size hi-sIx items.size 0 lo)).toArray):=by
  show((items.toList.drop (sIx items.size 0 lo)).take (sIx items.size items.size hi-sIx items.size 0 lo)).toArray.size<=sizeLine
  rw[Qi,QL,QX,Qx]
  omega
 have hj:sIx items.size items.size hi<=items.size:=Zyp _ _ (Qg _) hi
 obtain⟨os,hos,hcs,hds⟩:=id hs
 have hTs:s.TypeIs (.ref sl) "slice":=⟨os,hos,hcs⟩
 unfold getItem
 try with_reducible refine QV ?_
 first|refine Qa (Qc ?_)|skip
 refine Qa (wpAny_sequenceKey ht.typeIs (by decide) ?_)
 refine Qa (Q2 (name:=Str.ofString "__getitem__") ht.typeIs Je
  (Q0 Je ht.typeIs entry_tuple_getitem ?_ (args_tuple_getitem _ _)))
 show wpAny _ _ (Builtin.Tuple.tupleItemsOf (.ref t) >>= _) _ _ s
 refine Qa (tupleItemsOf_ ht ?_)
 refine Qa (wpAny_typeOf hTs ?_)
 rw[if_pos (by decide)]
 refine Qa (W9 hs pl pu ?_)
 have hno:¬((((sIx items.size 0 lo:Nat):Int) == 0&&(1:Int) == 1&&(sIx items.size items.size hi-sIx items.size 0 lo) == items.size)=true):=by
  intro q
  rw[Qq,Qq]at q
  have q1:((sIx items.size 0 lo:Nat):Int)=0:=eq_of_beq q.1.1
  have q2:sIx items.size items.size hi-sIx items.size 0 lo=items.size:=eq_of_beq q.2
  exact hw ⟨by omega,by omega⟩
 show wpAny _ _ (if(((sIx items.size 0 lo:Nat):Int) == 0&&(1:Int) == 1&&(sIx items.size items.size hi-sIx items.size 0 lo) == items.size)=true then _ else _) _ _ s
 rw[if_neg hno,Zqx]
 first
  |exact Qa (m:=Builtin.Tuple.tupleExact _) (QU (Qc ⟨_,rfl,Qc h⟩) htake)
  |exact Qa (m:=Builtin.Tuple.tupleExact _) (QU (Qa (Qc (Qc ⟨_,rfl,Qc h⟩))) htake)
  |exact Qa (Qa (m:=Builtin.Tuple.tupleExact _) (QU (Qc (Qc ⟨_,rfl,Qc h⟩)) htake))
  |exact Qa (Qa (m:=Builtin.Tuple.tupleExact _) (QU (Qc ⟨_,rfl,Qc h⟩) htake))
end
end HT
namespace L2
open PySem PySem.Spec PyProof.Rows
abbrev TO:=St->Hp->(Option Int->Hp->Prop)->Prop
def PO(X:Cx)(e:Option Expr)(t:TO):Prop :=
 ∀(pins:List (Addr×Obj)) (s:Shared) (σ:St) (H:Hp) (Q:Option Int->Hp->Prop),Zq X pins σ H s->t σ H Q ->
  wpAny (model X.prog X.w) X.A (evalPart e X.env) (fun u s'=>∃o H',Zq X pins σ H' s'/\IsPart u o/\Q o H') X.xe s
def Zt6:TO:=fun _ H Q=>Q none H
def tPart(t:TE):TO:=fun σ H Q=>t σ H fun x H1=>∃i,x=.int i/\Q (some i) H1
theorem XZ{ns:List Int}:∀{us:List Value},ZB (ns.map V.int) us->IntsAre us ns:=by
 induction ns with
 |nil=>intro us r;rw[JK]at r;cases r;exact .nil
 |cons n ns ih =>
  intro us r
  rw[Qh]at r
  cases r with
  |cons r1 r2 =>
   obtain⟨t,e⟩:=r1
   subst e
   exact .cons n t (ih r2)
section
variable{X:Cx}{e:Expr}{te:TE}{lo hi:Option Expr}{tl th:TO}{pos p2:Pos}
theorem Zu2:PO X none Zt6:=by
 intro pins s σ H Q I h
 rw[evalPart_none]
 exact Qc ⟨none,H,I,.none,h⟩
theorem Zu1(h:PE X e te):PO X (some e) (tPart te):=by
 intro pins s σ H Q I hw
 rw[evalPart_some]
 refine YA (h pins s σ H _ I hw) fun u s1 ⟨x,H1,I1,r1,q1⟩=>?_
 obtain⟨i,rfl,q⟩:=q1
 obtain⟨t,rfl⟩:=r1
 exact⟨some i,H1,I1,.int i t,q⟩
def Zwq(X:Cx)(r:V->Option Int->Option Int->Hp->VK->Prop):Prop :=
 ∀(pins:List (Addr×Obj)) (s:Shared) (σ:St) (H:Hp) (x:V) (v vl vu:Value) (lo hi:Option Int) (sl:Addr) (Q:VK),Zq X pins σ H s->ZU x v->s.heap.IsSliceOf sl vl vu .none->IsPart vl lo->IsPart vu hi->r x lo hi H Q ->
  ∃T id,typeLookup (.type T) "__getitem__"=pure (some (.builtin id))/\s.TypeIs v T/\wpAny (model X.prog X.w) X.A (getItem v (.ref sl)) (EP X pins σ Q) X.xe s
theorem Zwq.or{r r':V->Option Int->Option Int->Hp->VK->Prop}(h:Zwq X r)(h':Zwq X r'):Zwq X (fun x lo hi H Q=>r x lo hi H Q\/r' x lo hi H Q):=by
 intro pins s σ H x v vl vu lo hi sl Q I rx hs pl pu q
 rcases q with q|q
 ·exact h pins s σ H x v vl vu lo hi sl Q I rx hs pl pu q
 ·exact h' pins s σ H x v vl vu lo hi sl Q I rx hs pl pu q
def tSl(r:V->Option Int->Option Int->Hp->VK->Prop)(te:TE)(tl th:TO):TE:=fun σ H Q=>te σ H fun x H1=>tl σ H1 fun l H2=>th σ H2 fun u H3=>r x l u H3 Q
theorem Zid{r:V->Option Int->Option Int->Hp->VK->Prop}(hr:Zwq X r)(he:PE X e te)(hl:PO X lo tl)(hu:PO X hi th):PE X (.Subscript e (.Slice lo hi none p2) pos) (tSl r te tl th):=by
 intro pins s σ H Q I h
 refine Subscript_ (YA (he pins s σ H _ I h) fun v s1 ⟨x,H1,I1,r1,q1⟩=>?_)
 refine wpAny_Slice (YA (hl pins s1 σ H1 _ I1 q1) fun vl s2 ⟨l,H2,I2,pl,q2⟩=>YA (hu pins s2 σ H2 _ I2 q2) fun vu s3 ⟨u,H3,I3,pu,q3⟩=>?_)
 rw[evalPart_none]
 refine Qc ?_
 have I4:Zq X pins σ H3 { s3 with heap:=s3.heap.push { cls:=.type "slice",data:=.fields #[vl,vu,.none] } }:=I3.kept (t':=s3.toks) fun b ob q=>Qb _ q
 obtain⟨T,id,hT,ht,hg⟩:=hr pins { s3 with heap:=s3.heap.push { cls:=.type "slice",data:=.fields #[vl,vu,.none] } } σ H3 x v vl vu l u s3.heap.objs.size Q I4 r1 (Heap.IsSliceOf.new ..) pl pu q3
 show wpAny (model X.prog X.w) X.A (subscriptTail e (.Slice lo hi none p2) v (.ref s3.heap.objs.size)) (EP X pins σ Q) X.xe { s3 with heap:=s3.heap.push { cls:=.type "slice",data:=.fields #[vl,vu,.none] } }
 exact tail_any (ops:=[.ref s3.heap.objs.size,v]) ht hT hg (by with_unfolding_all rfl)
def Zjb(xs:List V)(lo hi:Option Int):List V:=(xs.drop (HT.sIx xs.length 0 lo)).take (HT.sIx xs.length xs.length hi-HT.sIx xs.length 0 lo)
theorem Zbc(xs:List V)(lo hi:Option Int):(Zjb xs lo hi).length<=xs.length:=by
 unfold Zjb
 rw[QL,QX]
 omega
def rSlT(K:PySem.W.Frag):V->Option Int->Option Int->Hp->VK->Prop:=fun x lo hi H Q=>∃a xs,x=.ref a/\Wq K H a xs /\
 ¬(HT.sIx xs.length 0 lo=0/\HT.sIx xs.length xs.length hi=xs.length)/\∀p,H p=none->Q (.ref p) (Y1 H p (.tup (Zjb xs lo hi)))
theorem Zyn:Zwq X (rSlT X.K):=by
 intro pins s σ H x v vl vu lo hi sl Q I rx hs pl pu h
 obtain⟨a,xs,rfl,hx,hw,q⟩:=h
 cases rx
 obtain⟨its,r,ht,hz⟩:=I.tuple hx
 have hlen:its.toArray.size=xs.length:=by rw[Qi];exact r.length.symm
 refine⟨"tuple",_,Je.lookup,ht.typeIs,?_⟩
 refine HT.getItem_tuple_cut ht hs pl pu (by rw[hlen];exact hw) ?_ (by rw[hlen];exact hz)
 rw[hlen]
 refine⟨.ref s.heap.objs.size,_,I.laid (t':=s.toks) (o:=.tup (Zjb xs lo hi)) (fun b ob q=>Qb _ q) (Qg _) ?_,rfl,q _ (I.hok.fresh (Qg _))⟩
 exact⟨Jw (Zbc xs lo hi) hz,_,(r.drop (HT.sIx xs.length 0 lo)).take (HT.sIx xs.length xs.length hi-HT.sIx xs.length 0 lo),IsTup.new _ _⟩
def rLtT(K:PySem.W.Frag):R2:=fun x y H Q=>∃a b ns ms,x=.ref a/\y=.ref b/\Wq K H a (ns.map V.int)/\Wq K H b (ms.map V.int)/\Q (.bl (HT.lexLt ns ms)) H
theorem Zy8(hu:X.A.units<cLine):W6 X (compareOp .Lt) (rLtT X.K):=by
 intro pins s σ H x y v u Q I rx ry h
 obtain⟨a,b,ns,ms,rfl,rfl,ha,hb,q⟩:=h
 cases rx
 cases ry
 obtain⟨its,r1,p1,_⟩:=I.tuple ha
 obtain⟨its2,r2,p2,_⟩:=I.tuple hb
 have i1:IntsAre its.toArray.toList ns:=XZ r1
 have i2:IntsAre its2.toArray.toList ms:=XZ r2
 exact HT.lt_tupInts p1 p2 i1 i2 hu ⟨.bl (HT.lexLt ns ms),H,I,rfl,q⟩
def rCatT(K:PySem.W.Frag):R2:=fun x y H Q=>∃a b xs ys,x=.ref a/\y=.ref b/\Wq K H a xs/\Wq K H b ys/\xs≠[]/\xs.length+ys.length<=sizeLine /\
 (ys=[]->Q (.ref a) H)/\(ys≠[]->∀p,H p=none->Q (.ref p) (Y1 H p (.tup (xs++ys))))
theorem ZB.nil_iff{xs:List V}{us:List Value}(r:ZB xs us):us=[]↔xs=[]:=by
 cases r with
 |nil=>simp
 |cons _ _=>simp
theorem Zml:W6 X (binaryOp .Add) (rCatT X.K):=by
 intro pins s σ H x y v u Q I rx ry h
 obtain⟨a,b,xs,ys,rfl,rfl,ha,hb,hx,hz,q1,q2⟩:=h
 cases rx
 cases ry
 obtain⟨its,r1,p1,_⟩:=I.tuple ha
 obtain⟨its2,r2,p2,_⟩:=I.tuple hb
 refine HT.cat_tup p1 p2 (fun z=>hx (r1.nil_iff.mp z)) (fun z=>⟨.ref a,H,I,rfl,q1 (r2.nil_iff.mp z)⟩) (fun z=>?_) (by rw[<- r1.length,<- r2.length];exact hz)
 refine⟨.ref s.heap.objs.size,_,I.laid (t':=s.toks) (o:=.tup (xs++ys)) (fun b ob q=>Qb _ q) (Qg _) ?_,rfl,q2 (fun w=>z (r2.nil_iff.mpr w)) _ (I.hok.fresh (Qg _))⟩
 exact⟨by rw[QI];exact hz,_,r1.append r2,IsTup.new _ _⟩
end
def Zr6(n:Nat)(i:Int):Option Nat:=if 0<=i then(if i<n then some i.toNat else none) else if -(n:Int)<=i then some (i+n).toNat else none
def VI{α:Type}(xs:List α)(i:Int):Option α:=(Zr6 xs.length i).bind fun j=>xs[j]?
theorem Zmu{n:Nat}{i:Int}{j:Nat}(h:Zr6 n i=some j):seqIndex? i n=some j/\j<n/\-(n:Int)<=i/\i<n:=by
 unfold Zr6 at h
 by_cases h0:0<=i
 ·rw[if_pos h0]at h
  by_cases h1:i<n
  ·rw[if_pos h1]at h
   have e:i.toNat=j:=Q7 h
   exact⟨by rw[seqIndex_of h0 h1,e],by omega,by omega,h1⟩
  ·rw[if_neg h1]at h;cases h
 ·rw[if_neg h0]at h
  by_cases h1:-(n:Int)<=i
  ·rw[if_pos h1]at h
   have e:(i+n).toNat=j:=Q7 h
   exact⟨by rw[seqIndex_neg (by omega) h1,e],by omega,h1,by omega⟩
  ·rw[if_neg h1]at h;cases h
theorem Zg7{α:Type}{xs:List α}{i:Int}{v:α}(h:VI xs i=some v):∃j,seqIndex? i xs.length=some j/\xs[j]?=some v/\j<xs.length/\-(xs.length:Int)<=i/\i<xs.length:=by
 unfold VI at h
 cases e:Zr6 xs.length i with
 |none=>rw[e]at h;cases h
 |some j =>
  rw[e]at h
  obtain⟨h1,h2,h3,h4⟩:=Zmu e
  exact⟨j,h1,h,h2,h3,h4⟩
def Zhb(b:Expr):Prop:=∀o i,subscripted b false o i=operate [o,i] (getItem o i)
def Zx3(X:Cx)(r:R2):Prop :=
 ∀(value slice:Expr) (pins:List (Addr×Obj)) (s:Shared) (σ:St) (H:Hp) (x y:V) (v u:Value) (Q:VK),Zq X pins σ H s->ZU x v->ZU y u->r x y H Q ->
  subscripted slice false v u=operate [v,u] (getItem v u)->wpAny (model X.prog X.w) X.A (subscriptTail value slice v u) (EP X pins σ Q) X.xe s
def Ztu(X:Cx)(id:String)(r:V->List V->Hp->VK->Prop):Prop :=
 ∀(pins:List (Addr×Obj)) (s:Shared) (σ:St) (H:Hp) (x:V) (xs:List V) (v:Value) (us:List Value) (Q:VK),Zq X pins σ H s->ZU x v->ZB xs us->r x xs H Q ->
  wpAny (model X.prog X.w) X.A (call (.builtin id) (v::us)) (EP X pins σ Q) X.xe s
section
variable{X:Cx}{a b:Expr}{ta tb:TE}{pos:Pos}
theorem Zx3.or{r r':R2}(h:Zx3 X r)(h':Zx3 X r'):Zx3 X (fun x y H Q=>r x y H Q\/r' x y H Q):=by
 intro value slice pins s σ H x y v u Q I rx ry q hs
 rcases q with q|q
 ·exact h value slice pins s σ H x y v u Q I rx ry q hs
 ·exact h' value slice pins s σ H x y v u Q I rx ry q hs
theorem Ztu.or{id:String}{r r':V->List V->Hp->VK->Prop}(h:Ztu X id r)(h':Ztu X id r'):Ztu X id (fun x xs H Q=>r x xs H Q\/r' x xs H Q):=by
 intro pins s σ H x xs v us Q I rx rs q
 rcases q with q|q
 ·exact h pins s σ H x xs v us Q I rx rs q
 ·exact h' pins s σ H x xs v us Q I rx rs q
theorem Zxd{r:R2}(hr:Zx3 X r)(ha:PE X a ta)(hb:PE X b tb)(hs:Zhb b):PE X (.Subscript a b pos) (tOp r ta tb):=by
 intro pins s σ H Q I h
 exact Subscript_ (Z07 ha hb I h fun v u s2 x y H2 I2 rx ry q=>hr a b pins s2 σ H2 x y v u Q I2 rx ry q (hs _ _))
def rIxL(K:PySem.W.Frag):R2:=fun x y H Q=>∃p xs i v,x=.ref p/\y=.int i/\WH K H p xs/\VI xs i=some v/\Q v H
def rIxT(K:PySem.W.Frag):R2:=fun x y H Q=>∃p xs i v,x=.ref p/\y=.int i/\Wq K H p xs/\VI xs i=some v/\Q v H
def rIxS:R2:=fun x y H Q=>∃z i c,x=.str z/\y=.int i/\z.length<=sizeLine/\VI z.cps.toList i=some c/\Q (.str ⟨#[c]⟩) H
theorem Zvu:Zx3 X (rIxL X.K):=by
 intro value slice pins s σ H x y v u Q I rx ry h hs
 obtain⟨p,xs,i,z,rfl,rfl,hq,he,q⟩:=h
 cases rx
 obtain⟨t,rfl⟩:=ry
 obtain⟨its,r,pl,hz⟩:=I.list hq
 obtain⟨j,h1,h2,h3,h4,h5⟩:=Zg7 he
 obtain⟨w,ew,rw'⟩:=r.get h2
 have hl:=r.length
 have hn:=UM
 have fin:EP X pins σ Q w s:=⟨z,H,I,rw',q⟩
 by_cases h0:0<=i
 ·have hj:i.toNat=j:=by
   rw[seqIndex_of h0 h5]at h1
   exact Q7 h1
  exact item_listR pl.isList h0 (by omega) (by rw[hj];simpa using ew) fin hs
 ·have hj:(i+(its.toArray.size:Int)).toNat=j:=by
   rw[seqIndex_neg (by omega) h4]at h1
   rw[Qi,<- hl]
   exact Q7 h1
  exact subscriptTail_builtinR (x:=w) pl.isList.typeIs slot_list_getitem.lookup
   (wpAny_getItem_list_neg (Q:=fun r s'=>r=w/\EP X pins σ Q r s') pl.isList (by omega) (by rw[Qi]<;>omega) (by omega) (by rw[hj];simpa using ew) ⟨rfl,fin⟩) hs
theorem Zz2:Zx3 X (rIxT X.K):=by
 intro value slice pins s σ H x y v u Q I rx ry h hs
 obtain⟨p,xs,i,z,rfl,rfl,hq,he,q⟩:=h
 cases rx
 obtain⟨t,rfl⟩:=ry
 obtain⟨its,r,pl,hz⟩:=I.tuple hq
 obtain⟨j,h1,h2,h3,h4,h5⟩:=Zg7 he
 obtain⟨w,ew,rw'⟩:=r.get h2
 have hl:=r.length
 have hn:=UM
 have fin:EP X pins σ Q w s:=⟨z,H,I,rw',q⟩
 exact subscriptTail_builtinR (x:=w) pl.typeIs slot_tuple_getitem.lookup
  (getItem_tuple (j:=j) (Q:=fun r s'=>r=w/\EP X pins σ Q r s') pl (by omega) (by omega) (by rw[Qi,<- hl];exact h1) (by simpa using ew) ⟨rfl,fin⟩) hs
theorem Zz3:Zx3 X rIxS:=by
 intro value slice pins s σ H x y v u Q I rx ry h hs
 obtain⟨z,i,c,rfl,rfl,hz,he,q⟩:=h
 obtain⟨t,rfl⟩:=rx
 obtain⟨t',rfl⟩:=ry
 obtain⟨j,h1,h2,h3,h4,h5⟩:=Zg7 he
 have hl:z.cps.toList.length=z.length:=by simp[Str.length]
 rw[hl]at h1 h4 h5
 have hn:=UM
 exact tail_any (typeIs_str s z t) slot_str_getitem.lookup (getItem_str (c:=c) (by
  have e1:decide (i < -(2^63:Int))=false:=decide_eq_false (by omega)
  have e2:decide (i≥2^63)=false:=decide_eq_false (by omega)
  rw[e1,e2,Bool.or_false]) (by rw[h1];simpa using h2) ⟨.str ⟨#[c]⟩,H,I.tok _,⟨_,rfl⟩,q⟩) hs
theorem Zkx(its:List Value)(n j:Nat)(u:Value):Obj.mapSeq (·.setIfInBounds j u) { cls:=.type "list",data:=.seq its.toArray n }={ cls:=.type "list",data:=.seq (its.set j u).toArray n }:=by
 simp[Obj.mapSeq]
theorem Zq.lst{pins:List (Addr×Obj)}{σ:St}{H:Hp}{s:Shared}{p:Addr}{xs:List V}(I:Zq X pins σ H s)(h:H p=some (.lst xs)) :
  ∃(its:List Value) (n:Nat),ZB xs its/\s.heap.get? p=some { cls:=.type "list",data:=.seq its.toArray n }/\xs.length<=sizeLine:=by
 obtain⟨z,its,n,r,e⟩:=I.hok p _ h
 exact⟨its,n,r,e,z⟩
theorem Zq.lstUpd{pins:List (Addr×Obj)}{σ:St}{H:Hp}{s:Shared}{p:Addr}{xs ys:List V}{its its':List Value}{n n':Nat}{f:Obj->Obj}(I:Zq X pins σ H s)(h:H p=some (.lst xs))
  (ho:s.heap.get? p=some { cls:=.type "list",data:=.seq its.toArray n }) (hf:f { cls:=.type "list",data:=.seq its.toArray n }={ cls:=.type "list",data:=.seq its'.toArray n' }) (r:ZB ys its') (hz:ys.length<=sizeLine) (t:Nat) :
  Zq X pins σ (Y1 H p (.lst ys)) { s with heap:=s.heap.update p f,toks:=t }:=by
 have e:(s.heap.update p f).get? p=some { cls:=.type "list",data:=.seq its'.toArray n' }:=by
  rw[QR f ho (by rw[hf]<;>rfl),hf]
 refine I.write (x:=p) (e:=p) (by rw[h];trivial) (.inl rfl) (fun b u hb q=>(JI _ _ (JO hb)).trans q) ⟨_,e⟩ ?_
 exact⟨hz,its',n',r,e⟩
def rSetL:V->V->V->Hp->(Hp->Prop)->Prop:=fun o i v H Q=>∃p xs k j,o=.ref p/\i=.int k/\H p=some (.lst xs)/\Zr6 xs.length k=some j/\Q (Y1 H p (.lst (xs.set j v)))
theorem Zqe:PSet X rSetL:=by
 intro pins s σ H o i v ov iv u Q I ro ri rv h
 obtain⟨p,xs,k,j,rfl,rfl,hp,hj,q⟩:=h
 cases ro
 obtain⟨t,rfl⟩:=ri
 obtain⟨its,n,r,ho,hz⟩:=I.lst hp
 obtain⟨h1,h2,h3,h4⟩:=Zmu hj
 have hl:=r.length
 have hn:=UM
 have I':Zq X pins σ (Y1 H p (.lst (xs.set j v))) { s with heap:=s.heap.update p (Obj.mapSeq (·.setIfInBounds j u)) } :=
  I.lstUpd hp ho (Zkx its n j u) (r.set rv j) (by rw[List.length_set];exact hz) s.toks
 by_cases h0:0<=k
 ·have hk:k.toNat=j:=by
   rw[seqIndex_of h0 h4]at h1
   exact Q7 h1
  exact PySem.W.ki_setAt ho h0 (by omega) (by rw[Qi,<- hl];exact h4) (by rw[hk];exact⟨_,I',q⟩)
 ·have hk:(k+(its.toArray.size:Int)).toNat=j:=by
   rw[seqIndex_neg (by omega) h3]at h1
   rw[Qi,<- hl]
   exact Q7 h1
  exact PySem.W.ki_setBack ho (by omega) (by rw[Qi,<- hl];exact h3) (by omega) (by rw[hk];exact⟨_,I',q⟩)
theorem Zf0(lo hi:Option Int)(n:Nat):(sliceBounds lo hi none n).1=((HT.sIx n 0 lo:Nat):Int)/\(sliceBounds lo hi none n).2.1=((HT.sIx n n hi:Nat):Int)/\(sliceBounds lo hi none n).2.2=1:=by
 refine⟨?_,?_,rfl⟩
 ·cases lo with
  |none=>simp[sliceBounds,HT.sIx]
  |some i =>
   simp only[sliceBounds,HT.sIx,Te,show(1:Int)>0 by decide,if_true]
   by_cases h:i<0
   ·simp only[h,if_true]<;>omega
   ·simp only[h,if_false]<;>omega
 ·cases hi with
  |none=>simp[sliceBounds,HT.sIx]
  |some i =>
   simp only[sliceBounds,HT.sIx,Te,show(1:Int)>0 by decide,if_true]
   by_cases h:i<0
   ·simp only[h,if_true]<;>omega
   ·simp only[h,if_false]<;>omega
theorem Zea(its:List Value)(lo hi:Option Int):slicePick its.toArray lo hi none=((its.drop (HT.sIx its.length 0 lo)).take (HT.sIx its.length its.length hi-HT.sIx its.length 0 lo)).toArray:=by
 obtain⟨h1,h2,h3⟩:=Zf0 lo hi its.toArray.size
 unfold slicePick
 rw[h1,h2,h3]
 simp only[sliceRange_one,pick_run,Qi]<;>rfl
def rSlL(K:PySem.W.Frag):V->Option Int->Option Int->Hp->VK->Prop:=fun x lo hi H Q=>∃a xs,x=.ref a/\WH K H a xs/\∀p,H p=none->Q (.ref p) (Y1 H p (.lst (Zjb xs lo hi)))
theorem Zui:Zwq X (rSlL X.K):=by
 intro pins s σ H x v vl vu lo hi sl Q I rx hs pl pu h
 obtain⟨a,xs,rfl,hx,q⟩:=h
 cases rx
 obtain⟨its,r,ht,hz⟩:=I.list hx
 have hlen:=r.length
 refine⟨"list",_,slot_list_getitem.lookup,ht.isList.typeIs,?_⟩
 refine wpAny_getItem_list_slice ht.isList hs pl pu .none (by simp) ?_ (by rw[Qi]<;>omega)
 rw[Zea,<- hlen]
 refine⟨.ref s.heap.objs.size,_,I.laid (t':=s.toks) (o:=.lst (Zjb xs lo hi)) (fun b ob q=>Qb _ q) (Qg _) ?_,rfl,q _ (I.hok.fresh (Qg _))⟩
 exact⟨Jw (Zbc xs lo hi) hz,_,0,(r.drop (HT.sIx xs.length 0 lo)).take (HT.sIx xs.length xs.length hi-HT.sIx xs.length 0 lo),Qm _ rfl⟩
def UB:V->Bool
 |.non=>true
 |.bl _=>true
 |.int _=>true
 |.str _=>true
 |_=>false
def Zxs:V->V->Bool
 |.non,.non=>true
 |.bl a,.bl b=>a == b
 |.bl a,.int b=>(if a then 1 else 0) == b
 |.int a,.bl b=>a == (if b then 1 else 0)
 |.int a,.int b=>a == b
 |.str a,.str b=>a == b
 |_,_=>false
theorem Z0x{A:Around}{s:Shared}{y x:V}{u v:Value}(ry:ZU y u)(rx:ZU x v)(fy:UB y=true)(fx:UB x=true):SeqAt.EqAt A s u v (Zxs y x):=by
 cases y with
 |non =>
  cases ry
  cases x with
  |non=>cases rx;exact SeqAt.EqAt.same _
  |bl b=>cases rx;exact SeqAt.EqAt.none_bool b
  |int b=>obtain⟨t,rfl⟩:=rx;exact SeqAt.EqAt.none_int b t
  |str b=>obtain⟨t,rfl⟩:=rx;exact SeqAt.EqAt.none_str b t
  |_=>exact absurd (show false=true from fx) Qv
 |bl a =>
  cases ry
  cases x with
  |non=>cases rx;exact SeqAt.EqAt.bool_none a
  |bl b=>cases rx;exact SeqAt.EqAt.bool_bool a b
  |int b=>obtain⟨t,rfl⟩:=rx;exact SeqAt.EqAt.bool_int a b t
  |str b=>obtain⟨t,rfl⟩:=rx;exact SeqAt.EqAt.bool_str a b t
  |_=>exact absurd (show false=true from fx) Qv
 |int a =>
  obtain⟨t',rfl⟩:=ry
  cases x with
  |non=>cases rx;exact SeqAt.EqAt.int_none a t'
  |bl b=>cases rx;exact SeqAt.EqAt.int_bool a t' b
  |int b=>obtain⟨t,rfl⟩:=rx;exact SeqAt.EqAt.int_int a t' b t
  |str b=>obtain⟨t,rfl⟩:=rx;exact SeqAt.EqAt.int_str a t' b t
  |_=>exact absurd (show false=true from fx) Qv
 |str a =>
  obtain⟨t',rfl⟩:=ry
  cases x with
  |non=>cases rx;exact SeqAt.EqAt.str_none a t'
  |bl b=>cases rx;exact SeqAt.EqAt.str_bool a t' b
  |int b=>obtain⟨t,rfl⟩:=rx;exact SeqAt.EqAt.str_int a t' b t
  |str b=>obtain⟨t,rfl⟩:=rx;exact SeqAt.EqAt.str_str a t' b t
  |_=>exact absurd (show false=true from fx) Qv
 |_=>exact absurd (show false=true from fy) Qv
def Zv8(x:V)(u:Value):Bool:=match u with
 |.none=>Zxs .non x
 |.bool b=>Zxs (.bl b) x
 |.int i _=>Zxs (.int i) x
 |.str z _=>Zxs (.str z) x
 |_=>false
theorem Zs3{x y:V}{u:Value}(r:ZU y u)(f:UB y=true):Zv8 x u=Zxs y x:=by
 cases y with
 |non=>cases r;rfl
 |bl b=>cases r;rfl
 |int i=>obtain⟨t,rfl⟩:=r;rfl
 |str z=>obtain⟨t,rfl⟩:=r;rfl
 |_=>exact absurd (show false=true from f) Qv
theorem Zg8{x:V}:∀{xs:List V} {us:List Value},ZB xs us->xs.all UB=true->us.any (Zv8 x)=xs.any fun y=>Zxs y x
 |_,_,.nil,_=>rfl
 |y::xs,u::us,.cons r t,f=>by
  rw[Jp,Qq]at f
  rw[JN,JN,Zs3 r f.1,Zg8 t f.2]
theorem Zcy{A:Around}{s:Shared}{x:V}{v:Value}(rx:ZU x v)(fx:UB x=true):∀{xs:List V} {us:List Value},ZB xs us->xs.all UB=true->∀u∈us,SeqAt.EqAt A s u v (Zv8 x u)
 |_,_,.nil,_=>fun u hu=>by cases hu
 |y::xs,u::us,.cons r t,f=>fun u' hu=>by
  rw[Jp,Qq]at f
  rcases Ql.mp hu with rfl|hu
  ·rw[Zs3 r f.1];exact Z0x r rx f.1 fx
  ·exact Zcy rx fx t f.2 u' hu
def inV(x:V)(xs:List V):Bool:=xs.any fun y=>Zxs y x
def rIn(K:PySem.W.Frag)(neg:Bool):R2:=fun x y H Q=>∃p xs,y=.ref p/\(WH K H p xs\/Wq K H p xs)/\UB x=true/\xs.all UB=true/\Q (.bl (if neg then !inV x xs else inV x xs)) H
theorem Zny:W6 X (compareOp .In) (rIn X.K false):=by
 intro pins s σ H x y v u Q I rx ry h
 obtain⟨p,xs,rfl,hq,fx,fs,q⟩:=h
 cases ry
 rcases hq with hq|hq
 ·obtain⟨its,r,pl,hz⟩:=I.list hq
  refine SeqAt.in_listAt (Zv8 x) pl.isList (fun w hw=>Zcy rx fx r fs w (by simpa using hw)) ⟨.bl _,H,I,rfl,?_⟩
  rw[show its.toArray.any (Zv8 x)=its.any (Zv8 x) by simp,Zg8 r fs]
  exact q
 ·obtain⟨its,r,pl,hz⟩:=I.tuple hq
  refine SeqAt.in_tupleAt (Zv8 x) pl (fun w hw=>Zcy rx fx r fs w (by simpa using hw)) ⟨.bl _,H,I,rfl,?_⟩
  rw[show its.toArray.any (Zv8 x)=its.any (Zv8 x) by simp,Zg8 r fs]
  exact q
theorem Zg5:Xd X (.builtin "len") (fun xs H Q=>∃p ys,xs=[.ref p]/\(WH X.K H p ys\/Wq X.K H p ys)/\Q (.int ys.length) H):=by
 intro pins s σ H xs us Q I r h
 obtain⟨p,ys,rfl,hq,q⟩:=h
 obtain⟨u,rfl,rx⟩:=Xp r
 cases rx
 have hn:=UM
 rcases hq with hq|hq
 ·obtain⟨its,r',pl,hz⟩:=I.list hq
  have hlen:=r'.length
  exact Calls.call_len_list pl.isList (by simp only[Qi]<;>omega) ⟨.int ys.length,H,I.tok _,⟨s.toks+1,by rw[Qi,hlen]⟩,q⟩
 ·obtain⟨its,r',pl,hz⟩:=I.tuple hq
  have hlen:=r'.length
  exact len_tuple pl (by simp only[Qi]<;>omega) ⟨.int ys.length,H,I.tok _,⟨s.toks+1,by rw[Qi,hlen]⟩,q⟩
theorem Zg4:Xd X (.builtin "len") (fun xs H Q=>∃z,xs=[.str z]/\z.length<=sizeLine/\Q (.int z.length) H):=by
 intro pins s σ H xs us Q I r h
 obtain⟨z,rfl,hz,q⟩:=h
 obtain⟨u,rfl,t,rfl⟩:=Xp r
 have hn:=UM
 exact len_str (by omega) ⟨.int z.length,H,I.tok _,⟨_,rfl⟩,q⟩
theorem Xd.or{f:Value}{r r':List V->Hp->VK->Prop}(h:Xd X f r)(h':Xd X f r'):Xd X f (fun xs H Q=>r xs H Q\/r' xs H Q):=by
 intro pins s σ H xs us Q I rs q
 rcases q with q|q
 ·exact h pins s σ H xs us Q I rs q
 ·exact h' pins s σ H xs us Q I rs q
theorem Zei:Xd X (.type "tuple") (fun xs H Q=>∃p ys,xs=[.ref p]/\((WH X.K H p ys/\∀l,H l=none->Q (.ref l) (Y1 H l (.tup ys)))\/(Wq X.K H p ys/\Q (.ref p) H))):=by
 intro pins s σ H xs us Q I r h
 obtain⟨p,ys,rfl,h⟩:=h
 obtain⟨u,rfl,rx⟩:=Xp r
 cases rx
 rcases h with⟨hq,q⟩|⟨hq,q⟩
 ·obtain⟨its,r',pl,hz⟩:=I.list hq
  have hlen:=r'.length
  refine call_tuple_list pl.isList (fun h' kp=>?_) (by simp only[Qi]<;>omega)
  have I1:Zq X pins σ H { s with heap:=h' }:=I.kept (t':=s.toks) kp
  have I2:Zq X pins σ (Y1 H h'.objs.size (.tup ys)) { s with heap:=h'.push { cls:=.type "tuple",data:=.seq its.toArray } } :=
   I1.laid (t':=s.toks) (fun b o e=>Qb _ e) (Qg _) (show Yr X.prog X.w _ _ _ (.tup ys) from⟨hz,its,r',IsTup.new _ _⟩)
  exact⟨.ref h'.objs.size,_,I2,rfl,q _ (I1.hok.fresh (Qg _))⟩
 ·obtain⟨its,r',pl,hz⟩:=I.tuple hq
  exact call_tuple_same pl ⟨.ref p,H,I,rfl,q⟩
def tyV(K:PySem.W.Frag)(T:String)(x:V)(H:Hp):Prop:=match x with
 |.str _=>T="str"
 |.int _=>T="int"
 |.ref p=>(T="list"/\∃xs,WH K H p xs)\/(T="tuple"/\∃o,K.lookup p=some o/\o.cls=.type "tuple"/\o.dict=none) \/
   (T="dict"/\((∃kvs,H p=some (.dK kvs))\/∃kvs,H p=some (.dT kvs)))\/(T="set"/\∃S n,H p=some (.set S n))
 |_=>False
theorem Zx7{pins:List (Addr×Obj)}{σ:St}{H:Hp}{s:Shared}{T:String}{x:V}{v:Value}(I:Zq X pins σ H s)(r:ZU x v)(ty:tyV X.K T x H) :
  s.TypeIs v T/\∀a,v=.ref a->∃ob,s.heap.get? a=some ob/\ob.dict=none:=by
 cases x with
 |str z =>
  obtain⟨t,rfl⟩:=r
  cases (show T="str" from ty)
  exact⟨typeIs_str s z t,fun _ e=>nomatch e⟩
 |int i =>
  obtain⟨t,rfl⟩:=r
  cases (show T="int" from ty)
  exact⟨typeIs_int s i t,fun _ e=>nomatch e⟩
 |ref p =>
  cases r
  rcases ty with⟨rfl,xs,hq⟩|⟨rfl,o,hk,hc,hd⟩|⟨rfl,hk⟩|⟨rfl,S,n,hk⟩
  ·obtain⟨its,_,pl,_⟩:=I.list hq
   refine⟨pl.isList.typeIs,fun a e=>?_⟩
   cases e
   obtain⟨o,n,e,c,hd,_⟩:=pl
   exact⟨o,e,hd⟩
  ·refine⟨⟨o,I.kIn p o hk,hc⟩,fun a e=>?_⟩
   cases e
   exact⟨o,I.kIn _ o hk,hd⟩
  ·have z:∃o,s.heap.get? p=some o/\o.ExactDict:=by
    rcases hk with⟨kvs,hk⟩|⟨kvs,hk⟩
    ·obtain⟨_,_,_,_,o,_,_,e,ex,_⟩:=I.hok p _ hk
     exact⟨o,e,ex⟩
    ·obtain⟨_,_,_,_,o,_,_,e,ex,_⟩:=I.hok p _ hk
     exact⟨o,e,ex⟩
   obtain⟨o,e,ex⟩:=z
   refine⟨⟨o,e,ex.1⟩,fun a e2=>?_⟩
   cases e2
   exact⟨o,e,ex.2.1⟩
  ·obtain⟨o,_,_,_,e,ex,_⟩:=I.hok p _ hk
   refine⟨⟨o,e,ex.1⟩,fun a e2=>?_⟩
   cases e2
   exact⟨o,e,ex.2.1⟩
 |_=>exact False.elim ty
def tBM(K:PySem.W.Frag)(T:String)(r:V->List V->Hp->VK->Prop)(to:TE)(t:TA):TE:=fun σ H Q=>to σ H fun x H1=>tyV K T x H1/\t σ H1 fun xs H2=>r x xs H2 Q
variable{o e:Expr}{es:List Expr}{to:TE}{t:TA}{name:Str}{apos cpos:Pos}{T id:String}{r:V->List V->Hp->VK->Prop}
theorem Zcs(pa:PlainAttrs T)(slot:Slot T name id)(hty:typeOf (.builtin id)=pure (.type "method_descriptor"))(hm:Ztu X id r)(ho:PE X o to)(ha:PA X (e::es) t)
  (hbase:attributeBase o name X.env (eval o X.env)=eval o X.env:=by rfl)
  (hfew:((backTo cpos (starEach (e::es) X.env)).all (fun x=>!x.1)&&(backToKw cpos (keywordEach [] X.env)).all (fun x=>x.1.isSome)
   && decide ((e::es).length+([]:List Keyword).length+(if([]:List Keyword).isEmpty then 0 else 1)<30))=true:=by rfl)
  (hline:(apos.endLine == cpos.line)=true:=by rfl) (hs:starEach (e::es) X.env=(false,eval e X.env)::starEach es X.env:=by rfl) (hplain:(backTo cpos (starEach es X.env)).any (·.1)=false:=by rfl) :
  PE X (.Call (.Attribute o name apos) (e::es) [] cpos) (tBM X.K T r to t):=by
 intro pins s σ H Q I h
 refine wpAny_Call_method_late hbase hfew hline rfl (YA (ho pins s σ H _ I h) fun v s1 ⟨x,H1,I1,r1,ty,q1⟩=>?_)
 obtain⟨h1,h2⟩:=Zx7 I1 r1 ty
 refine⟨T,id,pa,slot,hty,h1,h2,?_⟩
 have hA:=ha cpos pins s1 σ H1 _ I1 q1
 rw[hs]at hA ⊢
 refine Calls.callWith_builtin (by show(false||(backTo cpos (starEach es X.env)).any (·.1))=false;rw[hplain]<;>rfl) (Calls.evalArgs_plain ?_)
 exact YA hA fun us s2 ⟨vs,H2,I2,r2,q2⟩=>hm pins s2 σ H2 x vs v us Q I2 r1 r2 q2
/- xs.append(e),list.index on a module's tuple .. are Ztu facts of 06m -/
end
def MtM(X:Cx)(id:String)(r:V->List V->Hp->VK->Prop):Prop :=
 ∀(pins:List (Addr×Obj)) (s:Shared) (σ:St) (H:Hp) (x:V) (xs:List V) (v:Value) (us:List Value) (Q:VK),Zq X pins σ H s->ZU x v->ZB xs us->r x xs H Q ->
  wpAny (model X.prog X.w) X.A (call (.builtin id) (v::us)) (EP X pins σ Q) X.xe s
theorem ZB.one:∀{x:V} {us:List Value},ZB [x] us->∃u,us=[u]/\ZU x u
 |_,_,.cons r .nil=>⟨_,rfl,r⟩
theorem ZB.two:∀{x y:V} {us:List Value},ZB [x,y] us->∃u v,us=[u,v]/\ZU x u/\ZU y v
 |_,_,_,.cons r (.cons q .nil)=>⟨_,_,rfl,r,q⟩
theorem ZB.zero:∀{us:List Value},ZB [] us->us=[]
 |_,.nil=>rfl
theorem ZB.eraseIdx:∀{xs:List V} {us:List Value} (i:Nat),ZB xs us->ZB (xs.eraseIdx i) (us.eraseIdx i)
 |_,_,_,.nil=>.nil
 |_,_,0,.cons _ t=>t
 |_,_,i+1,.cons r t=>.cons r (ZB.eraseIdx i t)
theorem ZB.reverse{xs:List V}{us:List Value}(h:ZB xs us):ZB xs.reverse us.reverse:=by
 induction h with
 |nil=>exact .nil
 |cons r t ih=>rw[List.reverse_cons,List.reverse_cons];exact ZB.append ih (.cons r .nil)
theorem ZB.rep{xs:List V}{us:List Value}(h:ZB xs us):∀k:Nat,ZB (List.replicate k xs).flatten (List.replicate k us).flatten
 |0=>.nil
 |k+1=>by
  rw[JF,JF,List.flatten_cons,List.flatten_cons]
  exact ZB.append h (ZB.rep h k)
theorem Zfa(its:List Value):∀(k:Nat) (acc:List Value),
  List.foldl (fun x1 x2=>x1++x2) acc.toArray (List.replicate k its.toArray)=(acc++(List.replicate k its).flatten).toArray
 |0,acc=>by simp
 |k+1,acc=>by
  have e:acc.toArray++its.toArray=(acc++its).toArray:=by simp
  have e2:(acc++its)++(List.replicate k its).flatten=acc++(List.replicate (k+1) its).flatten:=by
   rw[JF,List.flatten_cons,List.append_assoc]
  rw[<- e2,<- Zfa its k (acc++its),<- e,JF,List.foldl_cons]
section
variable{X:Cx}{pins:List (Addr×Obj)}{σ:St}{H:Hp}{s:Shared}{l b:Addr}{xs ys zs:List V}
theorem Zq.lset{its its':List Value}{n:Nat}{f:Array Value->Array Value}{t':Nat}(I:Zq X pins σ H s)(hH:H l=some (.lst xs))
  (e:s.heap.get? l=some { cls:=.type "list",data:=.seq its.toArray n }) (hf:f its.toArray=its'.toArray) (hv:ZB ys its') (hz:ys.length<=sizeLine) :
  Zq X pins σ (Y1 H l (.lst ys)) { s with heap:=s.heap.update l (Obj.mapSeq f),toks:=t' }:=by
 have q:=PySem.IsL.update e f
 rw[hf]at q
 refine I.write (x:=l) (e:=l) (by rw[hH];exact trivial) (.inl rfl) (fun b' u hb hu=>(JI s.heap (Obj.mapSeq f) (JO hb)).trans hu) ⟨_,q⟩ ?_
 exact⟨hz,its',_,hv,q⟩
theorem Zq.lnew{its:List Value}{t':Nat}(I:Zq X pins σ H s)(hv:ZB ys its)(hz:ys.length<=sizeLine) :
  Zq X pins σ (Y1 H s.heap.objs.size (.lst ys)) { s with heap:=s.heap.push { cls:=.type "list",data:=.seq its.toArray },toks:=t' } :=
 I.laid (fun _ _ q=>Qb _ q) (Qg _) ⟨hz,its,0,hv,Qm _ rfl⟩
theorem Zq.fresh(I:Zq X pins σ H s):H s.heap.objs.size=none:=I.hok.fresh (Qg _)
theorem Zq.lstM(I:Zq X pins σ H s)(hH:H l=some (.lst xs)):xs.length<=sizeLine/\∃(its:List Value) (n:Nat),ZB xs its/\xs.length=its.length/\s.heap.get? l=some { cls:=.type "list",data:=.seq its.toArray n }:=by
 obtain⟨z,its,n,r,e⟩:=I.hok l _ hH
 exact⟨z,its,n,r,r.length,e⟩
theorem Zig{n:Nat}(h:n<=sizeLine):Builtin.List.listTooLong n=false:=by
 unfold Builtin.List.listTooLong
 exact decide_eq_false (by omega)
end
section
variable{X:Cx}
def Zf2:V->List V->Hp->VK->Prop:=fun x vs H Q=>∃l xs y,x=.ref l/\vs=[y]/\H l=some (.lst xs)/\xs.length<sizeLine/\Q .non (Y1 H l (.lst (xs++[y])))
theorem Zn5:MtM X "list.append" Zf2:=by
 intro pins s σ H x vs v us Q I rx rv h
 obtain⟨l,xs,y,rfl,rfl,hH,hz,q⟩:=h
 cases rx
 obtain⟨u,rfl,ru⟩:=rv.one
 obtain⟨z,its,n,r,hl,e⟩:=I.lstM hH
 refine call_meets F.slot_list_append ⟨_,e,rfl⟩ F.entry_list_append (F.args_list_append_2 _ _) (PySem.list_append l its.toArray n u (by rw[Qi];omega)) ⟨e,?_⟩
 refine⟨.non,_,I.lset (its':=its++[u]) hH e (by simp) (r.append (.cons ru .nil)) ?_,rfl,q⟩
 rw[QI,List.length_singleton]
 omega
def Zur:V->List V->Hp->VK->Prop:=fun x vs H Q=>∃l b xs zs,x=.ref l/\vs=[.ref b]/\H l=some (.lst xs)/\H b=some (.lst zs)/\xs.length+zs.length<=sizeLine/\Q .non (Y1 H l (.lst (xs++zs)))
theorem mt_extend:MtM X "list.extend" Zur:=by
 intro pins s σ H x vs v us Q I rx rv h
 obtain⟨l,b,xs,zs,rfl,rfl,hH,hB,hz,q⟩:=h
 cases rx
 obtain⟨u,rfl,ru⟩:=rv.one
 cases ru
 obtain⟨z,its,n,r,hl,e⟩:=I.lstM hH
 obtain⟨z2,its2,n2,r2,hl2,e2⟩:=I.lstM hB
 have hsz:its.toArray.size+its2.toArray.size<=sizeLine:=by rw[Qi,Qi];omega
 have hlong:¬(!its.toArray.isEmpty&&Builtin.List.listTooLong (its.toArray.size+its2.toArray.size))=true:=by
  rw[Zig hsz,Bool.and_false]
  exact Qv
 refine call_meets F.slot_list_extend ⟨_,e,rfl⟩ F.entry_list_extend (F.args_list_extend_2 _ _)
  (AutoSeq1.list_extend_list_list_0 l its.toArray n b its2.toArray n2 hlong (by rw[Qi];omega) (by omega)) ⟨e,e2,?_⟩
 refine⟨.non,_,I.lset (its':=its++its2) hH e (by simp) (r.append r2) ?_,rfl,q⟩
 rw[QI]
 omega
def rCat:R2:=fun x y H Q=>∃l b xs zs,x=.ref l/\y=.ref b/\H l=some (.lst xs)/\H b=some (.lst zs)/\xs.length+zs.length<=sizeLine/\∀p,H p=none->Q (.ref p) (Y1 H p (.lst (xs++zs)))
theorem Zza:W6 X (binaryOp .Add) rCat:=by
 intro pins s σ H x y v u Q I rx ry h
 obtain⟨l,b,xs,zs,rfl,rfl,hH,hB,hz,q⟩:=h
 cases rx
 cases ry
 obtain⟨z,its,n,r,hl,e⟩:=I.lstM hH
 obtain⟨z2,its2,n2,r2,hl2,e2⟩:=I.lstM hB
 refine PySem.P.add_list e e2 ?_ (by rw[Qi,Qi];omega)
 have ea:its.toArray++its2.toArray=(its++its2).toArray:=by simp
 rw[ea]
 exact⟨.ref _,_,I.lnew (t':=s.toks) (r.append r2) (by rw[QI];omega),rfl,q _ I.fresh⟩
def rRep:R2:=fun x y H Q=>∃l k xs,x=.ref l/\y=.int k/\H l=some (.lst xs)/\-(2^63)<=k/\k<2^63/\xs.length*k.toNat<=sizeLine /\
 ∀p,H p=none->Q (.ref p) (Y1 H p (.lst (List.replicate k.toNat xs).flatten))
theorem Zvm{α:Type}(xs:List α)(k:Nat):(List.replicate k xs).flatten.length=k*xs.length:=by
 induction k with
 |zero=>simp
 |succ k ih=>rw[JF,List.flatten_cons,QI,ih,Nat.succ_mul,Nat.add_comm]
theorem Zy4:W6 X (binaryOp .Mult) rRep:=by
 intro pins s σ H x y v u Q I rx ry h
 obtain⟨l,k,xs,rfl,rfl,hH,h1,h2,hz,q⟩:=h
 cases rx
 obtain⟨t,rfl⟩:=ry
 obtain⟨z,its,n,r,hl,e⟩:=I.lstM hH
 have hlen:its.toArray.size*k.toNat<=sizeLine:=by rw[Qi,<- hl];exact hz
 have hcap:¬its.toArray.size*k.toNat>(2^63-1)/8:=by
  have:(sizeLine:Nat)<=(2^63-1)/8:=by decide
  omega
 have hfit:¬(!Builtin.List.listFitsIndex k)=true:=by
  rw[fitsIndex_both h1 h2]
  exact Qv
 have hlong:¬Builtin.List.listTooLong (its.toArray.size*k.toNat)=true:=by
  rw[Zig hlen]
  exact Qv
 have hnew:List.foldl (fun x1 x2=>x1++x2) #[] (List.replicate (if its.toArray.isEmpty=true then 0 else k.toNat) its.toArray)=(List.replicate k.toNat its).flatten.toArray:=by
  have f0:∀m:Nat,List.foldl (fun x1 x2=>x1++x2) #[] (List.replicate m its.toArray)=(List.replicate m its).flatten.toArray:=fun m=>by
   have:=Zfa its m []
   rw[J9]at this
   exact this
  rw[f0]
  cases its with
  |nil=>simp
  |cons a r'=>rw[if_neg (by simp)]
 refine wpAny_binaryOp_repeat_ref (T:="list") (U:="int") (by decide) ⟨_,e,rfl⟩ (fun s'=>typeIs_int s' k t) noFill_list_mul F.fills_int_mul F.slot_int_rmul repeat_list F.slot_int_index.lookup
  (call_meets F.slot_int_rmul (typeIs_int s k t) F.entry_int_rmul (F.args_int_rmul_2 _ _) (int___rmul___int_list k t l its.toArray n)
   ⟨e,rfl,⟨_,e,rfl⟩,call_meets F.slot_list_mul ⟨_,e,rfl⟩ F.entry_list_mul (F.args_list_mul_2 _ _) (AutoListH.list___mul___list_int_3 l its.toArray n k t hfit hcap hlong) ⟨e,?_⟩⟩)
 rw[hnew]
 exact⟨.ref _,_,I.lnew (t':=s.toks) (r.rep k.toNat) (by rw[Zvm,Nat.mul_comm];exact hz),rfl,q _ I.fresh⟩
end
section
variable{prog:Program}{w:World}{A:Around}{E:Value->Shared->Prop}{s:Shared}
set_option maxRecDepth 100000 in
end
section
variable{X:Cx}
end
section
variable{κ:Type} [DecidableEq κ]
def WS(kvs:List (κ×V))(k:κ):Option V:=(kvs.find? fun kv=>decide (kv.1=k)).map (·.2)
def Vr(kvs:List (κ×V))(k:κ)(v:V):List (κ×V) :=
 if(kvs.any fun kv=>decide (kv.1=k))=true then kvs.map (fun kv=>if kv.1=k then(kv.1,v) else kv) else kvs++[(k,v)]
def Zxu(kvs:List (κ×V))(k:κ):List (κ×V):=kvs.filter fun kv=>decide (kv.1≠k)
theorem Zcb{p:κ×V}{r:List (κ×V)}{k:κ}(e:p.1=k):WS (p::r) k=some p.2:=by simp[WS,JB,e]
theorem Zcc{p:κ×V}{r:List (κ×V)}{k:κ}(e:¬p.1=k):WS (p::r) k=WS r k:=by simp[WS,JB,e]
theorem UZ(k:κ):∀kvs:List (κ×V),(kvs.any fun kv=>decide (kv.1=k))=(WS kvs k).isSome
 |[]=>rfl
 |p::r=>by
  rw[JN]
  by_cases e:p.1=k
  ·simp only[Zcb e,decide_eq_true e,Bool.true_or,Option.isSome_some]
  ·rw[Zcc e,decide_eq_false e,Bool.false_or];exact UZ k r
theorem V3(kvs:List (κ×V))(k:κ)(v:V):(Vr kvs k v).length<=kvs.length+1:=by
 unfold Vr
 split
 ·rw[Qd];omega
 ·rw[QI,Qp,QY];omega
theorem Zbk.isSome_eq{o:Option V}{u:Option Value}(r:Zbk o u):o.isSome=u.isSome:=by
 cases o with
 |none=>cases u with
  |none=>rfl
  |some _=>exact(show False from r).elim
 |some _=>cases u with
  |none=>exact(show False from r).elim
  |some _=>rfl
theorem Zbk.getD{o:Option V}{u:Option Value}{d:V}{d':Value}(r:Zbk o u)(rd:ZU d d'):ZU (o.getD d) (u.getD d'):=by
 cases o with
 |none=>cases u with
  |none=>exact rd
  |some _=>exact(show False from r).elim
 |some _=>cases u with
  |none=>exact(show False from r).elim
  |some _=>exact r
theorem KV.val{kvs:List (κ×V)}{vs:List (κ×Value)}(r:KV kvs vs)(k:κ):Zbk (WS kvs k) (valueAt vs k):=by
 unfold KV at r
 induction r with
 |nil=>exact True.intro
 | @cons p q ps qs h t ih =>
  obtain⟨h1,h2⟩:=h
  by_cases e:p.1=k
  ·have e':q.1=k:=h1.symm.trans e
   have b:valueAt (q::qs) k=some q.2:=by simp[valueAt,JB,e']
   rw[Zcb e,b];exact h2
  ·have e':¬q.1=k:=fun z=>e (h1.trans z)
   have b:valueAt (q::qs) k=valueAt qs k:=by simp[valueAt,JB,e']
   rw[Zcc e,b];exact ih
theorem KV.any{kvs:List (κ×V)}{vs:List (κ×Value)}(r:KV kvs vs)(k:κ):(kvs.any fun kv=>decide (kv.1=k))=vs.any fun kv=>decide (kv.1=k):=by
 unfold KV at r
 induction r with
 |nil=>rfl
 |cons h t ih=>rw[JN,JN,ih,h.1]
theorem KV.repl{kvs:List (κ×V)}{vs:List (κ×Value)}(r:KV kvs vs)(k:κ){y:V}{u:Value}(ry:ZU y u) :
  KV (kvs.map fun kv=>if kv.1=k then(kv.1,y) else kv) (vs.map fun kv=>if kv.1=k then(kv.1,u) else kv):=by
 unfold KV at r ⊢
 induction r with
 |nil=>exact .nil
 | @cons p q ps qs h t ih =>
  rw[Qh,Qh]
  refine .cons ?_ ih
  obtain⟨h1,h2⟩:=h
  by_cases e:p.1=k
  ·rw[if_pos e,if_pos (h1.symm.trans e)];exact⟨h1,ry⟩
  ·rw[if_neg e,if_neg (fun z=>e (h1.trans z))];exact⟨h1,h2⟩
theorem KV.put{kvs:List (κ×V)}{vs:List (κ×Value)}(r:KV kvs vs)(k:κ){y:V}{u:Value}(ry:ZU y u):KV (Vr kvs k y) (stored vs k u):=by
 unfold Vr stored
 rw[r.any k]
 by_cases e:(vs.any fun kv=>decide (kv.1=k))=true
 ·rw[if_pos e,if_pos e];exact r.repl k ry
 ·rw[if_neg e,if_neg e];exact Paired.snoc r ⟨rfl,ry⟩
theorem KV.drop{kvs:List (κ×V)}{vs:List (κ×Value)}(r:KV kvs vs)(k:κ):KV (Zxu kvs k) (without vs k):=by
 unfold KV at r ⊢
 unfold Zxu without
 induction r with
 |nil=>exact .nil
 | @cons p q ps qs h t ih =>
  obtain⟨h1,h2⟩:=h
  rw[List.filter_cons,List.filter_cons]
  by_cases e:p.1=k
  ·have a:¬decide (p.1≠k)=true:=by simp[e]
   have b:¬decide (q.1≠k)=true:=by simp[h1.symm.trans e]
   rw[if_neg a,if_neg b];exact ih
  ·have e':¬q.1=k:=fun z=>e (h1.trans z)
   have a:decide (p.1≠k)=true:=by simp[e]
   have b:decide (q.1≠k)=true:=by simp[e']
   rw[if_pos a,if_pos b];exact .cons ⟨h1,h2⟩ ih
theorem KV.keys{kvs:List (κ×V)}{vs:List (κ×Value)}(r:KV kvs vs):kvs.map (·.1)=vs.map (·.1):=by
 unfold KV at r
 induction r with
 |nil=>rfl
 |cons h t ih=>rw[Qh,Qh,ih,h.1]
theorem KV.length{kvs:List (κ×V)}{vs:List (κ×Value)}(r:KV kvs vs):kvs.length=vs.length:=Paired.length r
end
theorem Ze5{P:Program}{w:World}{k:YQ}{u:Value}(r:ZU (kV k) u):(YI P w).is k u=true:=by
 cases k with
 |inl i=>obtain⟨t,e⟩:=(show ∃t,u=Value.int i t from r);subst e;exact Zil P w i t
 |inr x=>obtain⟨t,e⟩:=(show ∃t,u=Value.str x t from r);subst e;exact Zik P w x t
theorem Ze7{P:Program}{w:World}:∀{ks:List YQ} {us:List Value},ZB (ks.map kV) us->ItemsAre (YI P w) ks us
 |[],_,r=>by rw[JK]at r;cases r;exact .nil
 |k::ks,_,r=>by
  rw[Qh]at r
  cases r with
  |cons h t=>exact .cons (Ze5 h) (Ze7 t)
abbrev KT(H:Hp):List (List YQ×V)->List (List YQ×Addr×Value)->Prop:=Paired fun p q=>p.1=q.1/\H q.2.1=some (.tup (p.1.map kV))/\ZU p.2 q.2.2
theorem KT.val{H:Hp}{kvs:List (List YQ×V)}{xs:List (List YQ×Addr×Value)}(r:KT H kvs xs)(k:List YQ):Zbk (WS kvs k) ((atKey xs k).map (·.2)):=by
 induction r with
 |nil=>exact True.intro
 | @cons p q ps qs h t ih =>
  obtain⟨h1,_,h2⟩:=h
  by_cases e:p.1=k
  ·have e':q.1=k:=h1.symm.trans e
   have b:atKey (q::qs) k=some q.2:=by simp[atKey,JB,e']
   rw[Zcb e,b];exact h2
  ·have e':¬q.1=k:=fun z=>e (h1.trans z)
   have b:atKey (q::qs) k=atKey qs k:=by simp[atKey,JB,e']
   rw[Zcc e,b];exact ih
theorem KT.repl{H:Hp}{kvs:List (List YQ×V)}{xs:List (List YQ×Addr×Value)}(r:KT H kvs xs)(k:List YQ){y:V}{u:Value}(ry:ZU y u) :
  KT H (kvs.map fun kv=>if kv.1=k then(kv.1,y) else kv) (xs.map (putAt k u)):=by
 induction r with
 |nil=>exact .nil
 | @cons p q ps qs h t ih =>
  rw[Qh,Qh]
  refine .cons ?_ ih
  obtain⟨h1,h2,h3⟩:=h
  unfold putAt
  by_cases e:p.1=k
  ·rw[if_pos e,if_pos (h1.symm.trans e)];exact⟨h1,h2,ry⟩
  ·rw[if_neg e,if_neg (fun z=>e (h1.trans z))];exact⟨h1,h2,h3⟩
theorem KT.put{H:Hp}{kvs:List (List YQ×V)}{xs:List (List YQ×Addr×Value)}(r:KT H kvs xs)(k:List YQ){b:Addr}{y:V}{u:Value}(hb:H b=some (.tup (k.map kV)))(ry:ZU y u) :
  KT H (Vr kvs k y) (storedH xs k b u):=by
 have e:(kvs.any fun kv=>decide (kv.1=k))=(atKey xs k).isSome:=by
  rw[UZ,(r.val k).isSome_eq,Option.isSome_map]
 unfold Vr storedH
 rw[e]
 by_cases q:(atKey xs k).isSome=true
 ·rw[if_pos q,if_pos q];exact r.repl k ry
 ·rw[if_neg q,if_neg q];exact Paired.snoc r ⟨rfl,hb,ry⟩
theorem KT.keeps{H H':Hp}{kvs:List (List YQ×V)}{xs:List (List YQ×Addr×Value)}(r:KT H kvs xs)(ht:∀b ys,H b=some (.tup ys)->H' b=some (.tup ys)):KT H' kvs xs :=
 Paired.mapP r fun _ _ z=>⟨z.1,ht _ _ z.2.1,z.2.2⟩
section
variable{P:Program}{w:World}{H:Hp}{h:Heap}{a:Addr}
theorem Zw9{u:HO}(ok:Ua P w H h)(e:Rd H a u):Yr P w H h a u:=e.ok ok
theorem Zdk{kvs:List (YQ×V)}(ok:Ua P w H h)(e:Rd H a (.dK kvs)):kvs.length<=sizeLine/\(a == sysModules)=false/\∃vs,KV kvs vs/\h.DictOf (YI P w) a vs :=
 show Yr P w H h a (.dK kvs) from Zw9 ok e
theorem Zxv{kvs:List (YQ×V)}(ok:Ua P w H h)(e:H a=some (.dK kvs)):kvs.length<=sizeLine/\(a == sysModules)=false/\∃vs,KV kvs vs/\h.DictOf (YI P w) a vs:=Zdk ok (.inl e)
theorem Zc4{ks:List YQ}(ok:Ua P w H h)(e:H a=some (.tup (ks.map kV))):(tupleKind (YI P w)).is h ks a:=by
 obtain⟨_,its,r,o,h1,h2,n,h3⟩:=(show Yr P w H h a (.tup (ks.map kV)) from ok a _ e)
 exact⟨o,its.toArray,n,h1,h2,h3,by simpa using Ze7 r⟩
theorem Zfc{kvs:List (List YQ×V)}(ok:Ua P w H h)(e:Rd H a (.dT kvs)):kvs.length<=sizeLine/\(a == sysModules)=false /\
  ∃xs,KT H kvs xs/\h.DictOfH (tupleKind (YI P w)) a xs:=by
 obtain⟨z,y,xs,r,o,es,ep,h1,h2,h3,h4,h5⟩:=(show Yr P w H h a (.dT kvs) from Zw9 ok e)
 refine⟨z,y,xs,r,o,es,ep,h1,h2,h3,h4,fun x hx=>?_,h5⟩
 have all:∀{l:List (List YQ×V)} {m:List (List YQ×Addr×Value)},KT H l m->∀x∈m,(tupleKind (YI P w)).is h x.1 x.2.1:=by
  intro l m q
  induction q with
  |nil=>intro x hx;exact nomatch hx
  | @cons p q ps qs hq t ih =>
   intro x hx
   rcases Ql.mp hx with e|hx
   ·subst e
    exact Zc4 ok (by rw[<- hq.1];exact hq.2.1)
   ·exact ih x hx
 exact all r x hx
theorem dt_of{kvs:List (List YQ×V)}(ok:Ua P w H h)(e:H a=some (.dT kvs)):kvs.length<=sizeLine/\(a == sysModules)=false /\
  ∃xs,KT H kvs xs/\h.DictOfH (tupleKind (YI P w)) a xs:=Zfc ok (.inl e)
end
def UU(H:Hp)(a:Addr)(y:V)(r:Option V):Prop :=
 (∃kvs k,Rd H a (.dK kvs)/\y=kV k/\r=WS kvs k)\/∃kvs k b,Rd H a (.dT kvs)/\y=.ref b/\H b=some (.tup (k.map kV))/\r=WS kvs k
def Zjv(H:Hp)(a:Addr)(y v:V)(H':Hp):Prop :=
 (∃kvs k,H a=some (.dK kvs)/\y=kV k/\kvs.length<sizeLine/\H'=Y1 H a (.dK (Vr kvs k v))) \/
 ∃kvs k b,H a=some (.dT kvs)/\y=.ref b/\H b=some (.tup (k.map kV))/\kvs.length<sizeLine/\H'=Y1 H a (.dT (Vr kvs k v))
theorem UU.k{H:Hp}{a:Addr}{kvs:List (YQ×V)}{k:YQ}(e:H a=some (.dK kvs)):UU H a (kV k) (WS kvs k):=.inl ⟨kvs,k,.inl e,rfl,rfl⟩
theorem UU.t{H:Hp}{a b:Addr}{kvs:List (List YQ×V)}{k:List YQ}(e:H a=some (.dT kvs))(eb:H b=some (.tup (k.map kV))):UU H a (.ref b) (WS kvs k):=.inr ⟨kvs,k,b,.inl e,rfl,eb,rfl⟩
theorem Zjv.k{H:Hp}{a:Addr}{kvs:List (YQ×V)}{k:YQ}{v:V}(e:H a=some (.dK kvs))(hl:kvs.length<sizeLine):Zjv H a (kV k) v (Y1 H a (.dK (Vr kvs k v))):=.inl ⟨kvs,k,e,rfl,hl,rfl⟩
theorem Zjv.t{H:Hp}{a b:Addr}{kvs:List (List YQ×V)}{k:List YQ}{v:V}(e:H a=some (.dT kvs))(eb:H b=some (.tup (k.map kV)))(hl:kvs.length<sizeLine) :
  Zjv H a (.ref b) v (Y1 H a (.dT (Vr kvs k v))):=.inr ⟨kvs,k,b,e,rfl,eb,hl,rfl⟩
section
variable{X:Cx}{pins:List (Addr×Obj)}{σ:St}{H:Hp}{s:Shared}{a:Addr}{y v:V}{u r:Value}{o:Option V}{A:Around}{E:Value->Shared->Prop}
theorem Zq.big(I:Zq X pins σ H s):sysModules<s.heap.objs.size:=by
 have h:mainGlobals<s.heap.objs.size:=(I.mod.glob.keeps I.bk).lt
 exact Nat.lt_trans (by decide) h
theorem Zoy{Q:Value->Shared->Prop}(hu:A.units+1<cLine)(I:Zq X pins σ H s)(g:UU H a y (some v))(ry:ZU y u)(h:∀w' s',Zq X pins σ H s'->ZU v w'->Q w' s') :
  wpAny (model X.prog X.w) A (getItem (.ref a) u) Q E s:=by
 rcases g with⟨kvs,k,e,ey,l⟩|⟨kvs,k,b,e,ey,eb,l⟩
 ·subst ey
  obtain⟨z,hd,vs,rel,dd⟩:=Zdk I.hok e
  obtain⟨w',hw,rw'⟩:=Zbk.some_of (v:=v) (o:=valueAt vs k) (by rw[l];exact rel.val k)
  exact wpAny_getItem_of (Ze5 ry) dd.mapOf hw (h w' _ (I.tok _) rw')
 ·subst ey
  cases (show u=Value.ref b from ry)
  obtain⟨z,hd,xs,rel,dd⟩:=Zfc I.hok e
  obtain⟨w',hw,rw'⟩:=Zbk.some_of (v:=v) (o:=(atKey xs k).map (·.2)) (by rw[l];exact rel.val k)
  obtain⟨p,hp,hp2⟩:=Option.map_eq_some_iff.mp hw
  refine wpAny_getItem_heap (tupleKind_room_in1 hu) (Zc4 I.hok eb) dd hp ?_
  rw[hp2]
  exact h w' _ (I.tok _) rw'
theorem d_in{Q:Value->Shared->Prop}(hu:A.units+1<cLine)(I:Zq X pins σ H s)(g:UU H a y o)(ry:ZU y u)(h:∀s',Zq X pins σ H s'->Q (.bool o.isSome) s') :
  wpAny (model X.prog X.w) A (compareOp .In u (.ref a)) Q E s:=by
 rcases g with⟨kvs,k,e,ey,l⟩|⟨kvs,k,b,e,ey,eb,l⟩
 ·subst ey
  obtain⟨z,hd,vs,rel,dd⟩:=Zdk I.hok e
  refine wpAny_in_of (Ze5 ry) hd dd.mapOf ?_
  rw[<- (rel.val k).isSome_eq,<- l]
  exact h _ (I.tok _)
 ·subst ey
  cases (show u=Value.ref b from ry)
  obtain⟨z,hd,xs,rel,dd⟩:=Zfc I.hok e
  refine wpAny_in_heap (tupleKind_room_in1 hu) (Zc4 I.hok eb) hd dd ?_
  have q:=(rel.val k).isSome_eq
  rw[Option.isSome_map]at q
  rw[<- q,<- l]
  exact h _ (I.tok _)
theorem Zgz{h':Heap}{t':Nat}{ob:HO}(I:Zq X pins σ H s)(mu:Mut (H a))(hs:Heap.SameBut a s.heap h')(he:∃q,h'.get? a=some q)(new:Yr X.prog X.w (Y1 H a ob) h' a ob) :
  Zq X pins σ (Y1 H a ob) { s with heap:=h',toks:=t' } :=
 I.write (x:=a) (e:=a) mu (.inl rfl) (fun b q hb z=>(hs.2 b hb).trans z) he new
theorem Zs9{P:Program}{w:World}{H':Hp}{h':Heap}{kvs:List (YQ×V)}{vs:List (YQ×Value)}(z:kvs.length<=sizeLine)(hd:(a == sysModules)=false)(rel:KV kvs vs)(dd:h'.DictOf (YI P w) a vs) :
  Yr P w H' h' a (.dK kvs):=⟨z,hd,vs,rel,dd⟩
theorem Zox{H':Hp}{Q:Unit->Shared->Prop}(hu:A.units+1<cLine)(I:Zq X pins σ H s)(g:Zjv H a y v H')(ry:ZU y u)(rv:ZU v r)(h:∀s',Zq X pins σ H' s'->Q () s') :
  wpAny (model X.prog X.w) A (setItem (.ref a) u r) Q E s:=by
 rcases g with⟨kvs,k,e,ey,l,eH⟩|⟨kvs,k,b,e,ey,eb,l,eH⟩
 ·subst ey eH
  obtain⟨z,hd,vs,rel,dd⟩:=Zxv I.hok e
  have hz:vs.length<=sizeLine:=by rw[<- rel.length];exact z
  have hl:(Vr kvs k v).length<=sizeLine:=by have:=V3 kvs k v;omega
  refine wpAny_setItem_pairs (hsz:=hz) (Ze5 ry) dd fun h' dd' hs=>h _ ?_
  have he:∃q,h'.get? a=some q:=let⟨q,_,_,hq,_⟩:=dd';⟨q,hq⟩
  exact Zgz I (by rw[e];exact True.intro) hs he (Zs9 hl hd (rel.put k rv) dd')
 ·subst ey eH
  cases (show u=Value.ref b from ry)
  obtain⟨z,hd,xs,rel,dd⟩:=dt_of I.hok e
  have hz:xs.length<=sizeLine:=by rw[<- Paired.length rel];exact z
  have hl:(Vr kvs k v).length<=sizeLine:=by have:=V3 kvs k v;omega
  refine wpAny_setItem_heap (hsz:=hz) (tupleKind_room_in1 hu) (Zc4 I.hok eb) dd fun h' dd' hs=>h _ ?_
  obtain⟨q,es,ep,hq,h2,h3,h4,_,h5⟩:=dd'
  refine Zgz I (by rw[e];exact True.intro) hs ⟨q,hq⟩ ⟨hl,hd,_,(rel.put k eb rv).keeps fun c ys ec=>?_,q,es,ep,hq,h2,h3,h4,h5⟩
  rw[ZM (ne_of ec e (fun z=>nomatch z))]
  exact ec
end
section
variable{X:Cx}{pins:List (Addr×Obj)}{σ:St}{H:Hp}{s:Shared}{a:Addr}{kvs:List (YQ×V)}{k:YQ}{u:Value}{A:Around}{E:Value->Shared->Prop}
theorem d_len{Q:Value->Shared->Prop}(I:Zq X pins σ H s)(e:Rd H a (.dK kvs))(h:∀t s',Zq X pins σ H s'->Q (.int kvs.length t) s'):wpAny (model X.prog X.w) A (call (.builtin "len") [.ref a]) Q E s:=by
 obtain⟨z,hd,vs,rel,dd⟩:=Zdk I.hok e
 refine call_len_dict hd dd (by rw[<- rel.length];rw[QK]at z;omega) ?_
 rw[<- rel.length]
 exact h _ _ (I.tok _)
end
def Z1g(i:Expr):Prop:=∀ov iv,subscripted i false ov iv=operate [ov,iv] (getItem ov iv)
theorem Zuc{prog:Program}{w:World}{A:Around}{E:Value->Shared->Prop}{s:Shared}{env:Env}{value slice:Expr}{pos:Pos}{T id:String}{Q:Value->Shared->Prop}
  (hl:typeLookup (.type T) "__getitem__"=pure (some (.builtin id))) (hs:Z1g slice)
  (h:wpAny (model prog w) A (eval value env) (fun o s₁=>wpAny (model prog w) A (eval slice env) (fun i s₂=>s₂.TypeIs o T/\wpAny (model prog w) A (getItem o i) Q E s₂) E s₁) E s) :
  wpAny (model prog w) A (eval (.Subscript value slice pos) env) Q E s:=by
 refine Subscript_ (Q5 h (fun o s₁ h₁=>Q5 h₁ (fun i s₂ h₂=>?_) fun _ _ x=>x) fun _ _ x=>x)
 obtain⟨hT,h₂⟩:=h₂
 unfold subscriptTail
 refine Qa ?_
 rw[getitemInPython_of_ne hT.not_modules]
 refine Qa (wpAny_specialOf hT hl ?_)
 have fin:wpAny (model prog w) A (subscripted slice false o i) (fun r s₃=>wpAny (model prog w) A (letTemporaryGo value o r >>= fun _=>pure r) Q E s₃) E s₂:=by
  rw[hs o i]
  exact wpAny_operating (Q5 h₂ (fun r s₃ h₃=>Qa (wpAny_letTemporaryGo (Qc h₃))) fun _ _ x=>x)
 first
  |exact Qc (Qa fin)
  |exact Qa (Qc (Qa fin))
  |exact Qa fin
theorem Zi8{X:Cx}{pins:List (Addr×Obj)}{σ:St}{H:Hp}{s:Shared}{a:Addr}{y:V}{o:Option V}(I:Zq X pins σ H s)(g:UU H a y o):s.TypeIs (.ref a) "dict":=by
 rcases g with⟨kvs,k,e,_,_⟩|⟨kvs,k,b,e,_,_,_⟩
 ·obtain⟨_,_,vs,_,dd⟩:=Zdk I.hok e
  exact dd.typeIs
 ·obtain⟨_,_,xs,_,dd⟩:=Zfc I.hok e
  exact dd.typeIs
def tDGet(td ty:TE):TE:=fun σ H Q=>td σ H fun x H1=>ty σ H1 fun y H2=>∃a v,x=.ref a/\UU H2 a y (some v)/\Q v H2
def sDPut(td ty tv:TE):TS:=fun D σ H=>tv σ H fun v H1=>td σ H1 fun x H2=>ty σ H2 fun y H3=>∃a H4,x=.ref a/\Zjv H3 a y v H4/\D.nx σ H4
section
variable{X:Cx}{o i e value:Expr}{pos pos' tpos:Pos}{td ty tv:TE}
theorem Zu6(hu:X.A.units+1<cLine)(ho:PE X o td)(hi:PE X i ty)(hs:Z1g i):PE X (.Subscript o i pos) (tDGet td ty):=by
 intro pins s σ H Q I h
 refine Zuc PySem.F.slot_dict_getitem.lookup hs (YA (ho pins s σ H _ I h) fun u s1 ⟨x,H1,I1,rx,q1⟩=>YA (hi pins s1 σ H1 _ I1 q1) fun iv s2 ⟨y,H2,I2,ry,a,v,ex,g,q2⟩=>?_)
 subst ex
 obtain rfl:u=Value.ref a:=rx
 exact⟨Zi8 I2 g,Zoy hu I2 g ry fun w' s3 I3 rw'=>⟨v,H2,I3,rw',q2⟩⟩
theorem Zuy(hu:X.A.units+1<cLine)(ho:PE X o td)(hi:PE X i ty)(hv:PE X value tv)(hs:swapsWith value (some (.Subscript o i pos')) pos.line X.env=pure false) :
  PS X (.Assign [.Subscript o i pos'] value pos) (sDPut td ty tv):=by
 intro pins s σ H D I h
 refine wpAny_Assign_Subscript (YA (hv pins s σ H _ I h) fun r s1 ⟨v,H1,I1,rv,q1⟩=>YA (ho pins s1 σ H1 _ I1 q1) fun u s2 ⟨x,H2,I2,rx,q2⟩=>YA (hi pins s2 σ H2 _ I2 q2) fun iv s3 ⟨y,H3,I3,ry,a,H4,ex,g,q3⟩=>?_) hs
 subst ex
 obtain rfl:u=Value.ref a:=rx
 exact Zox hu I3 g ry rv fun s4 I4=>⟨σ,H4,I4,q3⟩
end
theorem Zta{P:Program}{w:World}{H:Hp}(h:Heap)(hb:sysModules<h.objs.size):Yr P w H (h.push { cls:=.type "dict",data:=.dict #[] }) h.objs.size (.dK []) :=
 ⟨Q1 _,beq_eq_false_iff_ne.mpr (JO (Qo hb)),[],.nil,Heap.DictOf.new h⟩
theorem Zs8{P:Program}{w:World}{H:Hp}(h:Heap)(hb:sysModules<h.objs.size):Yr P w H (h.push { cls:=.type "dict",data:=.dict #[] }) h.objs.size (.dT []) :=
 ⟨Q1 _,beq_eq_false_iff_ne.mpr (JO (Qo hb)),[],.nil,_,#[],0,Qm _ rfl,⟨rfl,rfl,rfl⟩,rfl,rfl,List.nodup_nil⟩
def Zyj:TE:=fun _ H Q=>∀p,H p=none->Q (.ref p) (Y1 H p (.dT []))
section
variable{X:Cx}{pos:Pos}
theorem Zq5:PE X (.Dict [] [] pos) Zyj:=fun pins s σ H Q I h =>
 wpAny_Dict_empty ⟨.ref s.heap.objs.size,_,I.laid (a:=s.heap.objs.size) (o:=.dT []) (t':=s.toks) (fun _ _ q=>Qb _ q) (Qg _) (Zs8 s.heap I.big),rfl,h _ (I.hok.fresh (Qg _))⟩
end
def Zka:List (TE×TE)->St->Hp->(List (V×V)->Hp->Prop)->Prop
 |[],_,H,Q=>Q [] H
 |(tk,tv)::r,σ,H,Q=>tk σ H fun x H1=>tv σ H1 fun y H2=>Zka r σ H2 fun ps H3=>Q ((x,y)::ps) H3
abbrev VV:List (V×V)->List (Value×Value)->Prop:=Paired fun p q=>ZU p.1 q.1/\ZU p.2 q.2
def PPs(X:Cx)(pos:Pos)(keys:List (Option Expr))(values:List Expr)(trs:List (TE×TE)):Prop :=
 ∀(pins:List (Addr×Obj)) (s:Shared) (σ:St) (H:Hp) (Q:List (V×V)->Hp->Prop),Zq X pins σ H s->Zka trs σ H Q ->
  wpAny (model X.prog X.w) X.A (evalPairs (pairTrees keys values X.env pos)) (fun vs s'=>∃ps H',Zq X pins σ H' s'/\VV ps vs/\Q ps H') X.xe s
theorem Zuz{X:Cx}{pos:Pos}:PPs X pos [] [] []:=fun pins s σ H Q I h=>pairTrees_nil_walk ⟨[],H,I,.nil,h⟩
theorem Zqu{X:Cx}{pos:Pos}{k v:Expr}{ks:List (Option Expr)}{vs:List Expr}{tk tv:TE}{trs:List (TE×TE)}(hk:PE X k tk)(hv:PE X v tv)(hr:PPs X pos ks vs trs) :
  PPs X pos (some k::ks) (v::vs) ((tk,tv)::trs):=fun pins s σ H Q I h =>
 pairTrees_cons_walk (YA (hk pins s σ H _ I h) fun u s1 ⟨x,H1,I1,rx,q1⟩=>YA (hv pins s1 σ H1 _ I1 q1) fun w2 s2 ⟨y,H2,I2,ry,q2⟩ =>
  YA (hr pins s2 σ H2 _ I2 q2) fun ws s3 ⟨ps,H3,I3,rel,q3⟩=>⟨(x,y)::ps,H3,I3,.cons ⟨rx,ry⟩ rel,q3⟩)
def Zcw(kvs more:List (YQ×V)):List (YQ×V):=more.foldl (fun acc kv=>Vr acc kv.1 kv.2) kvs
theorem KV.merge:∀{more:List (YQ×V)} {rs:List (YQ×Value)} {kvs:List (YQ×V)} {vs:List (YQ×Value)},KV more rs->KV kvs vs->KV (Zcw kvs more) (merged vs rs):=by
 intro more rs kvs vs r
 unfold KV at r
 induction r generalizing kvs vs with
 |nil=>intro q;exact q
 | @cons p q ps qs h t ih =>
  intro r0
  have e:KV (Vr kvs p.1 p.2) (stored vs q.1 q.2):=by
   have:=r0.put p.1 h.2
   rw[<- h.1];exact this
  exact ih e
theorem Uz:∀(more kvs:List (YQ×V)),(Zcw kvs more).length<=kvs.length+more.length
 |[],kvs=>by show kvs.length<=kvs.length+0;omega
 |p::r,kvs=>by
  have h1:=Uz r (Vr kvs p.1 p.2)
  have h2:=V3 kvs p.1 p.2
  show(Zcw (Vr kvs p.1 p.2) r).length<=_
  rw[Qp];omega
theorem Zds{P:Program}{w:World}:∀{kvs:List (YQ×V)} {ws:List (Value×Value)},VV (kvs.map fun kv=>(kV kv.1,kv.2)) ws->∃rs,Carries (YI P w) ws rs/\KV kvs rs
 |[],_,r=>by rw[JK]at r;cases r;exact⟨[],True.intro,.nil⟩
 |p::kvs,_,r=>by
  rw[Qh]at r
  cases r with
  | @cons a b as bs h t =>
   obtain⟨rs,c,q⟩:=Zds (P:=P) (w:=w) t
   obtain⟨b1,b2⟩:=b
   exact⟨(p.1,b2)::rs,⟨Ze5 h.1,rfl,c⟩,.cons ⟨rfl,h.2⟩ q⟩
def tDisp(trs:List (TE×TE)):TE:=fun σ H Q=>∀p,H p=none->Zka trs σ (Y1 H p (.dK [])) fun ps H2=>H2 p=some (.dK [])/\∃kvs:List (YQ×V),ps=kvs.map (fun kv=>(kV kv.1,kv.2))/\kvs.length<=15/\Q (.ref p) (Y1 H2 p (.dK (Zcw [] kvs)))
theorem Zu5{X:Cx}{pos:Pos}{keys:List (Option Expr)}{values:List Expr}{trs:List (TE×TE)}(h:PPs X pos keys values trs)(hall:keys.all (·.isSome)=true)(hl:keys.length=values.length)(h0:keys≠[])
  (h15:keys.length<=15):PE X (.Dict keys values pos) (tDisp trs):=by
 intro pins s σ H Q I q
 have hn:=I.hok.fresh (Qg s.heap.objs.size)
 have I1:=I.laid (a:=s.heap.objs.size) (o:=.dK []) (h':=s.heap.push { cls:=.type "dict",data:=.dict #[] }) (t':=s.toks) (fun _ _ q=>Qb _ q) (Qg _) (Zta s.heap I.big)
 refine wpAny_Dict_walk (knd:=YI X.prog X.w) hall hl h0 h15 (YA (h pins _ σ _ _ I1 (q _ hn)) fun ws s2 ⟨ps,H2,I2,rel,e,kvs,ep,lk,q2⟩=>?_)
 subst ep
 obtain⟨rs,c,rk⟩:=Zds (P:=X.prog) (w:=X.w) rel
 obtain⟨z,hd,vs0,r0,dd⟩:=Zxv I2.hok e
 cases r0
 refine⟨rs,c,dd,fun h' dd' hs=>⟨.ref s.heap.objs.size,_,?_,rfl,q2⟩⟩
 have hz:(Zcw [] kvs).length<=sizeLine:=by
  have h1:=Uz kvs []
  rw[QY]at h1
  rw[QK];omega
 have he:∃q,h'.get? s.heap.objs.size=some q:=let⟨q,_,_,hq,_⟩:=dd';⟨q,hq⟩
 exact Zgz I2 (by rw[e];exact True.intro) hs he (Zs9 hz hd (rk.merge .nil) dd')
structure M1(X:Cx)(o:Expr)(m:Str)(apos:Pos)(e:Expr)(cpos:Pos):Prop where
 base:attributeBase o m X.env (eval o X.env)=eval o X.env
 few:((backTo cpos (starEach [e] X.env)).all (fun x=>!x.1)&&(backToKw cpos (keywordEach [] X.env)).all (fun x=>x.1.isSome)
  && decide (([e]:List Expr).length+([]:List Keyword).length+(if([]:List Keyword).isEmpty then 0 else 1)<30))=true
 line:(apos.endLine == cpos.line)=true
 trees:backTo cpos (starEach [e] X.env)=[(false,eval e X.env)]
structure M2(X:Cx)(o:Expr)(m:Str)(apos:Pos)(e f:Expr)(cpos:Pos):Prop where
 base:attributeBase o m X.env (eval o X.env)=eval o X.env
 few:((backTo cpos (starEach [e,f] X.env)).all (fun x=>!x.1)&&(backToKw cpos (keywordEach [] X.env)).all (fun x=>x.1.isSome)
  && decide (([e,f]:List Expr).length+([]:List Keyword).length+(if([]:List Keyword).isEmpty then 0 else 1)<30))=true
 line:(apos.endLine == cpos.line)=true
 trees:backTo cpos (starEach [e,f] X.env)=[(false,eval e X.env),(false,eval f X.env)]
def IsD(H:Hp)(a:Addr):Prop:=(∃kvs,Rd H a (.dK kvs))\/∃kvs,Rd H a (.dT kvs)
theorem Zz7{X:Cx}{pins:List (Addr×Obj)}{σ:St}{H:Hp}{s:Shared}{a:Addr}(I:Zq X pins σ H s)(d:IsD H a) :
  s.TypeIs (.ref a) "dict"/\(∀b,Value.ref a=.ref b->∃ob,s.heap.get? b=some ob/\ob.dict=none)/\(a == sysModules)=false:=by
 rcases d with⟨kvs,e⟩|⟨kvs,e⟩
 ·obtain⟨_,hd,vs,_,dd⟩:=Zdk I.hok e
  refine⟨dd.typeIs,fun b q=>?_,hd⟩
  cases q
  obtain⟨ob,_,_,h1,h2,_⟩:=dd
  exact⟨ob,h1,h2.2.1⟩
 ·obtain⟨_,hd,xs,_,dd⟩:=Zfc I.hok e
  refine⟨dd.typeIs,fun b q=>?_,hd⟩
  cases q
  obtain⟨ob,_,_,h1,h2,_⟩:=dd
  exact⟨ob,h1,h2.2.1⟩
section
variable{X:Cx}{pins:List (Addr×Obj)}{σ:St}{H:Hp}{s:Shared}{a:Addr}{y d:V}{u r:Value}{o:Option V}{A:Around}{E:Value->Shared->Prop}
theorem Z03{Q:Value->Shared->Prop}(hu:A.units+1<cLine)(I:Zq X pins σ H s)(g:UU H a y o)(ry:ZU y u)(rd:ZU d r)(h:∀w' s',Zq X pins σ H s'->ZU (o.getD d) w'->Q w' s') :
  wpAny (model X.prog X.w) A (call (.builtin "dict.get") [.ref a,u,r]) Q E s:=by
 rcases g with⟨kvs,k,e,ey,l⟩|⟨kvs,k,b,e,ey,eb,l⟩
 ·subst ey
  obtain⟨z,hd,vs,rel,dd⟩:=Zdk I.hok e
  refine call_meetsIn PySem.F.slot_dict_get dd.typeIs PySem.F.entry_dict_get (PySem.F.args_dict_get_3 _ _ _) (meets_dict_get_default (YI X.prog X.w) a (Ze5 ry) hd r) ⟨_,dd.mapOf,h _ _ (I.tok _) ?_⟩
  rw[l]
  exact(rel.val k).getD rd
 ·subst ey
  cases (show u=Value.ref b from ry)
  obtain⟨z,hd,xs,rel,dd⟩:=Zfc I.hok e
  refine call_meetsIn PySem.F.slot_dict_get dd.typeIs PySem.F.entry_dict_get (PySem.F.args_dict_get_3 _ _ _) (meetsH_dict_get_default (tupleKind (YI X.prog X.w)) a b hd r) ⟨tupleKind_room_in1 hu,k,xs,Zc4 I.hok eb,dd,h _ _ (I.tok _) ?_⟩
  rw[l]
  exact(rel.val k).getD rd
end
def Zyk(td ty tx:TE):TE:=fun σ H Q=>td σ H fun x H1=>∃a,x=.ref a/\IsD H1 a/\ty σ H1 fun y H2=>tx σ H2 fun z H3=>∃o,UU H3 a y o/\Q (o.getD z) H3
section
variable{X:Cx}{o e f:Expr}{apos cpos:Pos}{td ty tx:TE}
theorem Zq6(hu:X.A.units+1<cLine)(ho:PE X o td)(he:PE X e ty)(hf:PE X f tx)(m:M2 X o "get" apos e f cpos):PE X (.Call (.Attribute o "get" apos) [e,f] [] cpos) (Zyk td ty tx):=by
 intro pins s σ H Q I h
 refine wpAny_Call_method m.base m.few m.line PySem.F.plainAttrs_dict PySem.F.slot_dict_get PySem.F.type_dict_get (YA (ho pins s σ H _ I h) fun u s1 ⟨x,H1,I1,rx,a,ex,d,q1⟩=>?_)
 subst ex
 obtain rfl:u=Value.ref a:=rx
 obtain⟨t1,t2,_⟩:=Zz7 I1 d
 refine⟨t1,t2,?_⟩
 rw[m.trees]
 refine Calls.callWith_builtin rfl (Calls.evalArgs_plain (Calls.spliced_cons (YA (he pins s1 σ H1 _ I1 q1) fun iv s2 ⟨y,H2,I2,ry,q2⟩ =>
  Calls.spliced_cons (YA (hf pins s2 σ H2 _ I2 q2) fun fv s3 ⟨z,H3,I3,rz,ov,g,q3⟩=>Calls.spliced_nil ?_))))
 exact Z03 hu I3 g ry rz fun w' s4 I4 rw'=>⟨_,H3,I4,rw',q3⟩
end
section
variable{X:Cx}{pins:List (Addr×Obj)}{σ:St}{H:Hp}{s:Shared}{a:Addr}{kvs:List (YQ×V)}{A:Around}{E:Value->Shared->Prop}
end
section
variable{X:Cx}{pins:List (Addr×Obj)}{σ:St}{H:Hp}{s:Shared}{a:Addr}{y:V}{u:Value}{A:Around}{E:Value->Shared->Prop}
end
end L2
namespace Att
open PySem PySem.W PySem.Calls PyProof.Rows
theorem Zbg{P:Params}{h:Heap}:∀(ns:List Int) (vs:List Value),WellAll P h vs (ns.map WData.int)->IntsAre vs ns:=by
 intro ns
 induction ns with
 |nil =>
  intro vs w
  rw[JK]at w
  cases w
  exact .nil
 |cons n ns ih =>
  intro vs w
  rw[Qh]at w
  cases w with
  |cons a b =>
   cases a
   exact .cons _ _ (ih _ b)
theorem Znn{l:OpenLaw}{n:Nat}(hn:l.most=some n){P:Params}{h:Heap}{args:List WData}{vals:List Value}
  (hpre:l.row.toRowW.claim.pre args=true) (hwl:WellAll P h vals args) :
  ∃a vs ns,vals=[Value.ref a]/\args=[WData.list (ns.map WData.int)]/\h.get? a=some { cls:=.type "list",data:=.seq vs.toArray }/\IntsAre vs ns/\ns.length<=n:=by
 have hsh:WShape.hasAll [] args [.list .int]=true:=(pre_splitW hpre).1
 have hc:l.pre.holds [] { args:=args }=true:=(pre_splitW hpre).2
 obtain⟨d,r,rfl,h1,h2⟩:=hasAllW_cons hsh
 obtain rfl:=hasAllW_nil h2
 obtain⟨xs,rfl,h3⟩:=hasW_list h1
 obtain⟨ns,rfl⟩:=items_int h3
 have hlen:ns.length<=n:=by
  unfold OpenLaw.pre at hc
  have h4:(WTm.not (.lt (.lit (.int (n:Int))) (.len (.arg 0)))).holds [] { args:=[.list (ns.map .int)] }=true:=by
   have h4:=(holds_andW hc).1
   rw[hn]at h4
   exact h4
  have h5:=condW_of h4 (w_not (w_lt w_lit (w_len_list (w_arg rfl))))
  rw[Qd]at h5
  refine Nat.le_of_not_lt fun q=>?_
  have q':(n:Int)<((ns.length:Nat):Int):=by omega
  first
   |(rw[decide_eq_true q']at h5;exact absurd h5 (by decide))
   |(simp at h5;omega)
 cases hwl with
 |cons w1 w2 =>
  cases w2
  cases w1 with
  |list ho hall=>exact⟨_,_,ns,rfl,rfl,ho,Zbg ns _ hall,hlen⟩
theorem Zns(l:OpenLaw)(args:List WData):l.row.toRowW.claim.post args (.bool true) args=true :=
 postW_of (r:=l.row.toRowW) (X:=(true == true))
  (show WShape.has [] (.bool true) .bool=true by first|rfl|decide|simp[WShape.has,WShape.arms,WShape.armsAll])
  (show(WTm.eq .res (.lit (.bool true))).value [] { args:=args,res:=some (.bool true),after:=args }=some (.bool (true == true)) from w_eq_bool (w_res rfl) w_lit) rfl
theorem attach_call{l:OpenLaw}{n:Nat}{q:Program}{loose:List Str}{XP:(Str->Option Value)->Heap->Prop}{YP:World->Heap->Prop}{d:DefRec}
  (hn:l.most=some n) (hdf:d.params.defaults=[])
  (call:∀(w:World) (s₀ s₁:Shared) (mg mb:Str->Option Value) (fa:Addr) (o:Obj) (pm cd doc:Value) (a:Addr) (vs:List Value) (ns:List Int),
   Ground q loose [] XP w s₀ mg mb s₁.heap->YP w s₁.heap ->
   s₁.heap.get? fa=some o->o.data=.func (docDef d.name d.params d.body d.scope pm cd doc)->s₁.heap.CodeRec cd d.name->mg d.name=some (.ref fa) ->
   s₁.heap.get? a=some { cls:=.type "list",data:=.seq vs.toArray }->IntsAre vs ns->ns.length<=n->s₁.gens=#[] ->
   codeAny (model l.prog w) callerA (.call (.ref fa) ⟨[.ref a],[]⟩) (fun r s'=>r=.ok (.ret (.bool true))/\OldK s₁.heap s'.heap/\s'.os=s₁.os/\AllBare s'.gens) s₁) :
  WalkO q loose XP YP l.row.toRowW d [] (fun f vs=>PySem.call f vs):=by
 intro w s₀ s₁ mg mb G Y fa o pm cd doc dV kV ho hd hcd hD hmg hg args vals as hpre hlay hrd hwl hlo
 obtain rfl:dV=.none:=Dflts.none hD hdf
 obtain rfl:kV=.none:=Dflts.noKw hD
 obtain⟨a,vs,ns,rfl,rfl,hobj,hints,hlen⟩:=Znn hn hpre hwl
 refine enter_call (J8 (call w s₀ s₁ mg mb fa o pm cd doc a vs ns G Y ho (fd_plain hd) hcd hmg hobj hints hlen hg) fun r s' hq=>?_)
 obtain⟨rfl,h2,h3,h4⟩:=hq
 exact⟨.inl ⟨.bool true,.bool true,[],rfl,fun _=>rfl,.bool true,Zns l _,fun _=>⟨List.Pairwise.nil,fun _ hm=>(nomatch hm)⟩⟩,h2,h3,h4⟩
section
variable{prog:Program}{w:World}{A:Around}{E:Value->Shared->Prop}{s:Shared}{K:Frag}
end
end Att
namespace L2
open PySem PySem.Spec PyProof.Rows
theorem Zeo:∀{vs:List Value} {ns:List Int},IntsAre vs ns->ZB (ns.map V.int) vs
 |_,_,.nil=>.nil
 |_,_,.cons n t h=>.cons ⟨t,rfl⟩ (Zeo h)
def Z1f(H:Hp):Prop:=∀b,H b=none\/∃o xs,H b=some (.frz o (.lst xs))
theorem Zrv{P:Program}{w:World}{K:PySem.W.Frag}{mg mb:Str->Option Value}{CX:Zm8}{k:Nat}{fa a:Addr}{fd:FuncData}{x:Str}{sp:Sp}{s₁:Shared}{vs:List Value}{ns:List Int}
  (KX:K.In s₁.heap) (hns:s₁.heap.Ns mainGlobals mg) (hb:s₁.heap.Ns builtinsNs mb) (hbb:∀x:Str,x≠"__name__"->mb x=bootBuiltins x) (hlim:s₁.heap.NoLimit) (hg:s₁.gens=#[])
  (ha:s₁.heap.get? a=some { cls:=.type "list",data:=.seq vs.toArray }) (hi:IntsAre vs ns) (hl:ns.length<=sizeLine) (hr:XD k callerA)
  (F:∀base:Heap,K.In base->base.Ns mainGlobals mg->Vj P w K mg base CX k fa fd [x] sp) (hbind:∀(s:Shared) (u:Value),BindsTo s fd ⟨[u],[]⟩ [(x,u)])
  (hsp:∀H:Hp,Z1f H->WH K H a (ns.map V.int)->sp [.ref a] H (fun v _=>v=.bl true) fun _ _ _=>False)
  (hCX:∀H e s',CX [] H s₁ (fun _ _ _=>False) e s'->False) :
  codeAny (model P w) callerA (.call (.ref fa) ⟨[.ref a],[]⟩) (fun r s'=>r=.ok (.ret (.bool true))/\OldK s₁.heap s'.heap/\s'.os=s₁.os/\AllBare s'.gens) s₁:=by
 have rv:=Zeo hi
 have lenV:=hi.length
 have core:∀H:Hp,Z1f H->WH K H a (ns.map V.int)->Ua P w H s₁.heap->(∀b,H b≠none->b=a)->(H a≠none->K.lookup a=none) ->
   codeAny (model P w) callerA (.call (.ref fa) ⟨[.ref a],[]⟩) (fun r s'=>r=.ok (.ret (.bool true))/\OldK s₁.heap s'.heap/\s'.os=s₁.os/\AllBare s'.gens) s₁:=by
  intro H hO hS hok hA hK
  have base_of:∀{b:Addr} {o:Obj},s₁.heap.get? b=some o->H b=none->(Zgo s₁.heap H).get? b=some o:=fun e n=>Zsf e n
  have noA:∀{b:Addr} {o:Obj} {es:Array DictEntry} {ep:Nat},s₁.heap.get? b=some o->o.data=.dict es ep->H b=none:=fun{b o es ep} e d=>by
   cases q:H b with
   |none=>rfl
   |some u =>
    have e':b=a:=hA b (by rw[q];simp)
    subst e'
    rw[ha]at e;cases e
    have d':Data.seq vs.toArray _=Data.dict es ep:=d
    cases d'
  have nsK:∀{b:Addr} {m:Str->Option Value},s₁.heap.Ns b m->(Zgo s₁.heap H).Ns b m:=fun{b m} ⟨o,es,ep,e,d,r⟩=>⟨o,es,ep,base_of e (noA e d),d,r⟩
  have hKb:K.In (Zgo s₁.heap H):=fun b o e=>base_of (KX b o e) (by
   cases q:H b with
   |none=>rfl
   |some u =>
    have e':b=a:=hA b (by rw[q];simp)
    subst e'
    rw[hK (by rw[q];simp)]at e;cases e)
  have hM:Mod K mg (Zgo s₁.heap H):=⟨hKb,nsK hns,⟨mb,nsK hb,hbb⟩,let⟨mc,h1,h2⟩:=hlim;⟨mc,nsK h1,h2⟩⟩
  have e0:Zlw P w K mg (Zgo s₁.heap H) callerA [] s₁ H:=⟨rfl,hM,fun b o e=>Zve e,Nat.le_of_eq (Zom _ _),trivial,fun b hb=>absurd (show b∈([]:List Addr) from hb) (by simp),hok,.of_eq hg⟩
  refine J8 ((F _ hKb (nsK hns)).run callerA [] s₁ H ⟨[.ref a],[]⟩ [.ref a] [.ref a] _ _ hr e0 (hbind s₁ (.ref a)) (.cons rfl .nil) (hsp H hO hS)) fun r s' h=>?_
  cases r with
  |error e=>exact(hCX H e s' h).elim
  |ok fl =>
   cases fl with
   |next=>exact False.elim h
   |brk=>exact False.elim h
   |cont=>exact False.elim h
   |ret u =>
    obtain⟨v,H',os,bare,un,hok',r',q⟩:=h
    have q':v=.bl true:=q
    subst q'
    obtain rfl:u=Value.bool true:=r'
    refine⟨rfl,OldK.of_keep fun b o e=>?_,os,bare⟩
    cases q:H b with
    |none=>exact un.keep b o e q (by intro z;exact absurd (show b∈([]:List Addr) from z) (by simp)) (by simp)
    |some u =>
     rcases hO b with z|⟨ob,xs,z⟩
     ·rw[q]at z;cases z
     ·have z2:=un.frzs b ob _ z
      obtain⟨e1,_⟩:=hok b _ z
      obtain⟨e2,_⟩:=hok' b _ z2
      rw[e]at e1;cases e1
      exact e2
 cases hk:K.lookup a with
 |some o =>
  have e:=KX a o hk
  rw[ha]at e
  cases e
  refine core (fun _=>none) (fun _=>.inl rfl) (.inr ⟨_,vs.toArray,_,hk,rfl,rfl,rfl,by rw[Qi,lenV];exact hl,by simpa using rv⟩) (fun b u z=>by have z':(none:Option HO)=some u:=z;cases z') (fun b z=>absurd rfl z) fun z=>absurd rfl z
 |none =>
  refine core (fun b=>if b=a then some (.frz { cls:=.type "list",data:=.seq vs.toArray } (.lst (ns.map V.int))) else none) (fun b=>?_) (.inl (.inr ⟨{ cls:=.type "list",data:=.seq vs.toArray },if_pos rfl⟩)) (fun b u z=>?_) (fun b z=>?_) fun _=>hk
  ·by_cases hb:b=a
   ·exact .inr ⟨_,_,if_pos hb⟩
   ·exact .inl (if_neg hb)
  ·by_cases hb:b=a
   ·have z':=(if_pos hb).symm.trans z
    cases z'
    subst hb
    exact⟨ha,by rw[Qd];exact hl,vs,_,rv,ha⟩
   ·have z':=(if_neg hb).symm.trans z
    cases z'
  ·by_cases hb:b=a
   ·exact hb
   ·exact absurd (if_neg hb) z
abbrev KOf{K:PySem.W.Frag}{h:Heap}(_:K.In h):PySem.W.Frag:=K
theorem walk_of{l:PySem.W.OpenLaw}{n k:Nat}{q:Program}{loose:List Str}{XP:(Str->Option Value)->Heap->Prop}{YP:World->Heap->Prop}{d:DefRec}{K:Params->PySem.W.Frag}{CX:World->Zm8}{sp:World->Sp}{x:Str}
  (hn:l.most=some n) (hn2:n<=sizeLine) (hdf:d.params.defaults=[]) (hr:XD k callerA)
  (hY:∀(w:World) (h:Heap),YP w h->(K w.params).In h)
  (F:∀(w:World) (mg:Str->Option Value) (fa:Addr) (h:Heap),(K w.params).In h->h.Ns mainGlobals mg->mg d.name=some (.ref fa) ->
   ∃fd:FuncData,(∀(s:Shared) (u:Value),BindsTo s fd ⟨[u],[]⟩ [(x,u)]) /\
    ∀base:Heap,(K w.params).In base->base.Ns mainGlobals mg->Vj l.prog w (K w.params) mg base (CX w) k fa fd [x] (sp w))
  (hsp:∀(w:World) (H:Hp) (a:Addr) (ns:List Int),ns.length<=n->Z1f H->WH (K w.params) H a (ns.map V.int)->sp w [.ref a] H (fun v _=>v=.bl true) fun _ _ _=>False)
  (hCX:∀(w:World) (H:Hp) (s:Shared) (e:Value) (s':Shared),CX w [] H s (fun _ _ _=>False) e s'->False) :
  PySem.W.WalkO q loose XP YP l.row.toRowW d [] (fun f vs=>PySem.call f vs):=by
 refine Att.attach_call hn hdf fun w s₀ s₁ mg mb fa o pm cd doc a vs ns G Y ho hd hcd hmg hobj hints hlen hg=>?_
 have KX:=hY w _ Y
 obtain⟨fd,hb,hF⟩:=F w mg fa _ KX G.T.g hmg
 exact Zrv KX G.T.g G.T.b G.T.builtins G.T.nolimit hg hobj hints (Jw hlen hn2) hr hF hb (fun H hO hS=>hsp w H a ns hlen hO hS) fun H e s'=>hCX w H s₁ e s'
end L2
/- THE LAST THEOREM (shape;LID,My.* are yours):
  My.Adr: a structure of the addresses that your layer names (classes,functions);My.Txt K t: a structure (Prop) of the equations over K;
  My.txt_mk:{K} {implicit addresses ..} (e1:nsIn K mainGlobals "law"=some (some (.ref f))) (e2:K.lookup f=some ⟨oc,od,.func (fnOf "law" "law" params body scope dV kV doc pm an cdv ct),sl⟩) (e3:codeIn K cdv "law"=true) ..:∃t,My.Txt K t
set_option maxRecDepth 100000 in
set_option maxHeartbeats 0 in
theorem PySem.Challenge.cw_LID_holds : PySem.Challenge.rw_LID.Holds := by
 w_on;o_law;k_head;(case hw=>w_witness2)
 k_fill
 refine L2.walk_of (l:=PySem.Challenge.rw_LID) (n:=63) (k:=40) (x:="script") (CX:=fun w=>..) (sp:=fun _=>My.sp_law) rfl (by decide) rfl ⟨rfl,by decide,by decide⟩ (fun w h Y=>PySem.W.kIn_of Y) ?F ?S ?C
 case F =>
  intro w mg fa h KX G hmg
  have T:∃t,My.Txt (L2.KOf KX) t:=by
   dsimp only[L2.KOf]
   refine' My.txt_mk ?e1 ?e2 ?e3 ..
   (case e1=>PySem.W.k_is)
   (case e2=>PySem.W.k_is)
   ..
  obtain⟨t,T⟩:=T
  have e0:=hmg.symm.trans (Qu KX G T.law)
  cases e0
  exact⟨_,fun s u=>.of_eq rfl,fun base kb nb=>My.law_fn T kb nb⟩
 case S=>exact fun w H a ns hl hO hS=>..
 case C=>exact ..
(the tactic k_is has no namespace: write k_is) -/
namespace L2
open PySem PySem.Spec PyProof.Rows
def Vy(s:Stmt):Arguments:=match s with
 |.FunctionDef _ a _ _ _ _ _ _ _ _=>a
 |_=>{ posonlyargs:=[],args:=[],vararg:=none,kwonlyargs:=[],kw_defaults:=[],kwarg:=none,defaults:=[] }
def XQ(s:Stmt):List Stmt:=match s with
 |.FunctionDef _ _ b _ _ _ _ _ _ _=>b
 |_=>[]
def Zn(s:Stmt):Scope:=match s with
 |.FunctionDef _ _ _ _ _ _ sc _ _ _=>sc
 |_=>{ kind:=.function,names:=[],isGenerator:=false,isCoroutine:=false }
abbrev Zpf:Zm8:=fun _ _ _ _ _ _=>False
abbrev E0:XK:=fun _ _ _=>False
theorem pass0{X:Cx}:V8 Zpf X E0:=fun _ _ _ _ _ _ _ h=>h.elim
structure W3(K:PySem.W.Frag)(x qual:Str)(st:Stmt)(f:Addr)(fd:FuncData):Prop where
 ex:∃(oc:Value) (od:Option Addr) (kV doc pm:Value) (an:Option Addr) (cdv ct:Value) (osl:Array (Option Value)),
  fd=PySem.W.fnOf x qual (Vy st) (XQ st) (Zn st) .none kV doc pm an cdv ct/\K.lookup f=some ⟨oc,od,.func fd,osl⟩/\PySem.W.codeIn K cdv qual=true
 kp:PySem.W.keepIn K (.ref f)=true
section
variable{P:Program}{w:World}{K:PySem.W.Frag}{mg:Str->Option Value}{base:Heap}
theorem W3.ok{x qual:Str}{st:Stmt}{f:Addr}{fd:FuncData}{N ps:List Str}{k:Nat}{sp:Sp}(F:W3 K x qual st f fd)(S:ZK N ps (Zn st))(len:∀vs H Q E,sp vs H Q E->vs.length=ps.length)
  (hbody:∀(cdv:Value) (A:Around) (outer:List Env) (s:Shared) (H:Hp) (vs:List V) (Q:VK) (E:XK),XD k (A.deeper (envOfC qual (Zn st) s.heap.objs.size f cdv))->sp vs H Q E ->
   ∃t,Zbd (Zef Zpf P w K mg base N qual (Zn st) f cdv A outer s H E).nox (XQ st) t/\t { nx:=fun _ H'=>Q .non H',rt:=Q } (start N vs) H):Vj P w K mg base Zpf (k+1) f fd ps sp:=by
 obtain⟨oc,od,kV,doc,pm,an,cdv,ct,osl,rfl,lk,hcd⟩:=F.ex
 refine Zxq lk hcd S len fun A outer s H vs Q E hr hsp=>?_
 obtain⟨t,h,q⟩:=hbody cdv A outer s H vs Q E hr hsp
 exact⟨t,h.nox,q⟩
theorem W3.binds{x qual:Str}{st:Stmt}{f:Addr}{fd:FuncData}{ps:List Str}(F:W3 K x qual st f fd)
  (h:∀(kV doc pm:Value) (an:Option Addr) (cdv ct:Value) (us:List Value),us.length=ps.length->bindArgs (PySem.W.fnOf x qual (Vy st) (XQ st) (Zn st) .none kV doc pm an cdv ct) ⟨us,[]⟩=pure (ps.zip us)):Zbe K fd ps []:=by
 obtain⟨oc,od,kV,doc,pm,an,cdv,ct,osl,rfl,lk,hcd⟩:=F.ex
 exact .all (h kV doc pm an cdv ct)
theorem Zsq{x qual:Str}{st:Stmt}{f:Addr}{oc:Value}{od an:Option Addr}{osl:Array (Option Value)}{kV doc pm cdv ct:Value}(l:K.lookup f=some ⟨oc,od,.func (PySem.W.fnOf x qual (Vy st) (XQ st) (Zn st) .none kV doc pm an cdv ct),osl⟩)
  (c:PySem.W.codeIn K cdv qual=true) (k:PySem.W.keepIn K (.ref f)=true):W3 K x qual st f (PySem.W.fnOf x qual (Vy st) (XQ st) (Zn st) .none kV doc pm an cdv ct):=⟨⟨oc,od,kV,doc,pm,an,cdv,ct,osl,rfl,l,c⟩,k⟩
end
section
variable{X:Cx}
theorem Zo7:Xd X (.builtin "len") (fun xs H Q=>∃a kvs,xs=[V.ref a]/\H a=some (.dK kvs)/\Q (.int kvs.length) H):=by
 intro pins s σ H xs us Q I r h
 obtain⟨a,kvs,rfl,ha,q⟩:=h
 obtain⟨u,rfl,ru⟩:=Xp r
 cases ru
 exact d_len I (.inl ha) fun t s' I'=>⟨.int kvs.length,H,I',⟨t,rfl⟩,q⟩
end
def Zf(H H':Hp):Prop:=∀b o,H b=some o->H' b=some o
theorem Zf.refl(H:Hp):Zf H H:=fun _ _ h=>h
theorem Zf.trans{H H1 H2:Hp}(a:Zf H H1)(b:Zf H1 H2):Zf H H2:=fun c o h=>b c o (a c o h)
theorem Zf.free{H H':Hp}(e:Zf H H'){l:Addr}(h:H' l=Option.none):H l=Option.none:=by
 cases q:H l with
 |none=>rfl
 |some o =>
  rw[e l o q]at h
  cases h
theorem Zf.seq{K:PySem.W.Frag}{H H':Hp}{a:Addr}{xs:List V}(e:Zf H H')(h:WH K H a xs):WH K H' a xs:=by
 rcases h with(h|⟨o,h⟩)|h
 ·exact .inl (.inl (e _ _ h))
 ·exact .inl (.inr ⟨o,e _ _ h⟩)
 ·exact .inr h
section
variable{κ:Type} [DecidableEq κ]
end
end L2

set_option maxRecDepth 100000
set_option maxHeartbeats 4000000
namespace L2
open PySem PySem.Spec PyProof.Rows
def ZR(X:Cx)(N:List Str)(scope:Scope)(cl:List (Str×Addr))(C:Addr)(s:Shared)(H:Hp)(fp:List Addr):Cx where
 prog:=X.prog
 w:=X.w
 K:=X.K
 mg:=X.mg
 base:=X.base
 A:=X.A
 N:=N
 s₀:=s
 H₀:=H
 env:=compEnvC scope cl C X.env
 outer:=X.stack
 stack:=X.stack
 ex:=fp
 fn:=fun _=>false
 calm:=X.calm
 pn:=[]
 xe:=fun _ _=>False
section
variable{X:Cx}{pins:List (Addr×Obj)}{σ:St}{H:Hp}{s:Shared}{N:List Str}{scope:Scope}{cl:List (Str×Addr)}{C:Addr}{fp:List Addr}
theorem Zfe(I:Zq X pins σ H s)(hk:scope.kind=.function)(hC:s.heap.objs.size<=C)(hf:∀b∈fp,US X pins H b)(ho:∀b∈fp,∃o,s.heap.get? b=some o)
  (hsub:∀x c,cl.lookup x=some c->X.env.cells.lookup x=some c)
  (hhas:∀x,((relabel scope X.env).names.lookup x=some .cell\/(relabel scope X.env).names.lookup x=some .free)->∃c,cl.lookup x=some c) :
  (ZR X N scope cl C s H fp).Ok where
 mod:=I.ok.mod
 kind:=hk
 glob:=I.ok.glob
 blt:=I.ok.blt
 above:=hC
 inj:=fun x y c h1 h2=>I.ok.inj x y c (hsub x c h1) (hsub y c h2)
 has:=hhas
 cab:=fun _ _ h=>nomatch h
 hd:=I.ok.hd
 frames:=I.ok.frames
 stk:=.inl rfl
 exf:=fun b hb=>by
  obtain⟨o,e⟩:=ho b hb
  exact⟨Qo (Qw (Qk e) hC),fun x c z=>(hf b hb).2.2.2.2.1 x c (hsub x c z)⟩
 bs:=I.bs
 bsz:=Jw I.ok.bsz I.sz
 noex:=fun b o e hb=>by
  rcases(hf b hb).2.2.2.1 with z|z
  ·exact I.ok.noex b o e z
  ·exact absurd (Qw (Qw (Qk e) I.ok.bsz) z) (Ji _)
 exfs:=fun b hb hm=>by
  rcases Ql.mp (I.stkSub b hm) with z|z
  ·exact(hf b hb).2.1 z
  ·exact(hf b hb).2.2.1 z
 funs:=I.stack
 frf:=I.stkFree
theorem Un.withNew{fs ex:List Addr}{H H':Hp}{h h':Heap}{a:Addr}{o:HO}(u:Un fs ex H H' h h')(hn:h.get? a=none)(hH:H a=none):Un fs ex H (Y1 H' a o) h h' where
 keep:=u.keep
 slot:=u.slot
 free:=fun b ob q n hx=>by
  have:b≠a:=by rintro rfl;rw[hn]at q;cases q
  rw[ZM this];exact u.free b ob q n hx
 there:=u.there
 tups:=fun b xs q=>by rw[ZM (ZS q hH)];exact u.tups b xs q
 frzs:=fun b ob xs q=>by rw[ZM (ZS q hH)];exact u.frzs b ob xs q
 tbls:=fun b ps q=>by rw[ZM (ZS q hH)];exact u.tbls b ps q
theorem Ua.withNew{P:Program}{w:World}{H:Hp}{h:Heap}{a:Addr}{o:HO}(x:Ua P w H h)(hH:H a=none)(new:Yr P w (Y1 H a o) h a o):Ua P w (Y1 H a o) h:=fun b u e=>by
 by_cases hb:b=a
 ·subst hb;rw[Yc]at e;cases e;exact new
 ·rw[ZM hb]at e
  exact(x b u e).stay (fun _ _ _ q=>q) (fun c q=>by rw[ZM (ZS q hH)];exact q) fun c xs q=>by rw[ZM (ZS q hH)];exact q
theorem Zg0{prog:Program}{w:World}{A:Around}{R:Result->Shared->Prop}{elt tg iter:Expr}{ifs:List Expr}{scope:Scope}{pos:Pos}{it acc:Value}{env:Env}{s:Shared}
  (J:Nat->Shared->Prop)
  (turn:∀n s,J n s->wpAny (model prog w) A (pyNext it) (fun r s1=>match r with
   |none=>R (.ok .next) s1
   |some v=>wpAny (model prog w) A (letOwnedTupleGo tg it v) (fun _ s2=>wpAny (model prog w) A (assign tg env v) (fun _ s3 =>
     wpAny (model prog w) A (forIn ifs true fun c r=>if r=true then do let ok <- isTrue c env (eval c env);pure (ForInStep.yield ok) else pure (ForInStep.yield r)) (fun ok s4 =>
      if ok=true then wpAny (model prog w) A (eval elt env) (fun x s5=>wpAny (model prog w) A (call (.builtin "list.append") [acc,x]) (fun _ s6=>∃m,m<n/\J m s6) (fun _ _=>False) s5) (fun _ _=>False) s4
      else ∃m,m<n/\J m s4) (fun _ _=>False) s3) (fun _ _=>False) s2) (fun _ _=>False) s1) (fun _ _=>False) s)
  (n:Nat) (h:J n s):codeAny (model prog w) A (.compLoop (.ListComp elt [⟨tg,iter,ifs,0⟩] scope pos) 0 it acc env) R s:=by
 refine codeAny_loop rfl J (fun k t hJ=>?_) n h
 show wpAny _ A ((compTurn (.ListComp elt [⟨tg,iter,ifs,0⟩] scope pos) 0 it acc env).onRaise _) _ _ t
 refine wpAny_noted ?_
 rw[compTurn_list]
 have ff:∀{E':Value->Shared->Prop} (x:Value) (y:Shared),False->E' x y:=fun _ _ f=>f.elim
 refine Qa (wpAny_standAt (Qa (Q5 (turn k t hJ) (fun r s1 h1=>?_) ff)))
 cases r with
 |none=>exact Qc h1
 |some v =>
  refine Qa (Q5 h1 (fun _ s2 h2=>?_) ff)
  refine Qa (Q5 h2 (fun _ s3 h3=>?_) ff)
  refine Qa (Q5 h3 (fun ok s4 h4=>?_) ff)
  cases ok with
  |false=>exact Qc ⟨rfl,h4⟩
  |true =>
   refine Qa (Qa (Q5 h4 (fun x s5 h5=>?_) ff))
   exact Qa (Q5 h5 (fun _ s6 h6=>Qc (Qc ⟨rfl,h6⟩)) ff)
def Zx2(X:Cx)(ifs:List Expr)(t:TT):Prop :=
 ∀(pins:List (Addr×Obj)) (s:Shared) (σ:St) (H:Hp) (Q:Bool->Hp->Prop),Zq X pins σ H s->t σ H Q ->
  wpAny (model X.prog X.w) X.A (forIn ifs true fun c r=>if r=true then do let ok <- isTrue c X.env (eval c X.env);pure (ForInStep.yield ok) else pure (ForInStep.yield r)) (TP X pins σ Q) X.xe s
def tYes:TT:=fun _ H Q=>Q true H
theorem Zma{X:Cx}:Zx2 X [] tYes:=fun _ _ _ H _ I h=>wpAny_tests_nil ⟨H,I,h⟩
def Zvw:Option NameKind->Bool
 |some .cell=>true
 |some .free=>true
 |_=>false
theorem Zgm{k:Option NameKind}(h:Zvw k=true):k=some .cell\/k=some .free:=by
 cases k with
 |none=>cases h
 |some k=>cases k<;>first|exact .inl rfl|exact .inr rfl|cases h
def Ux(XN N:List Str)(n:Nat)(scope:Scope)(env:Env)(ix:List Nat):Bool :=
 (List.range ix.length).all fun j=>match ix[j]? with
  |some i=>(match XN[i]? with
   |some x=>(N[n+j]? == some x)&&Zvw ((relabel scope env).names.lookup x)&&Zvw (env.kindOf x)
   |none=>false)
  |none=>false
def W0(scope:Scope)(cells:List (Str×Addr)):Bool:=scope.names.all fun y=>if y.2 == .free then(cells.lookup y.1).isSome else true
def Xt(cells:List (Str×Addr)):List (Str×NameKind)->List (Str×Addr)->List (Str×Addr)
 |[],acc=>acc
 |(n,k)::r,acc=>Xt cells r (if k == .free then(match cells.lookup n with|some a=>(n,a)::acc|none=>acc) else acc)
theorem UE{scope:Scope}{env:Env}(h:W0 scope env.cells=true):closureFor scope env=pure (Xt env.cells scope.names []):=by
 unfold W0 at h
 simp only[closureFor]
 generalize scope.names=ns at h
 generalize ([]:List (Str×Addr))=acc
 induction ns generalizing acc with
 |nil=>rfl
 |cons y r ih =>
  obtain⟨n,k⟩:=y
  simp only[Jp,Qq]at h
  obtain⟨h1,h2⟩:=h
  have ih':=fun acc=>ih h2 acc
  simp only[List.forIn_cons,Xt]
  by_cases hk:(k == NameKind.free)=true
  ·simp only[hk,if_true]at h1 ⊢
   cases e:env.cells.lookup n with
   |none=>rw[e]at h1;cases h1
   |some a =>
    have ec:cellOf env n=pure a:=by unfold cellOf;rw[e]
    rw[ec]
    exact ih' _
  ·simp only[hk,Qr,if_false]
   exact ih' _
theorem Zdo{cells:List (Str×Addr)}{x:Str}{c:Addr}:∀(ns:List (Str×NameKind)) (acc:List (Str×Addr)),(∀y d,acc.lookup y=some d->cells.lookup y=some d) ->
  (Xt cells ns acc).lookup x=some c->cells.lookup x=some c
 |[],acc,ha,h=>ha x c h
 |(n,k)::r,acc,ha,h=>by
  unfold Xt at h
  refine Zdo r _ (fun y d hy=>?_) h
  split at hy
  ·split at hy
   ·rename_i a e
    rw[List.lookup_cons]at hy
    cases q:y == n with
    |true =>
     rw[q]at hy
     have:y=n:=by simpa using q
     subst this
     cases hy;exact e
    |false=>rw[q]at hy;exact ha y d hy
   ·exact ha y d hy
  ·exact ha y d hy
theorem Zdp{cells:List (Str×Addr)}{x:Str}:∀(ns:List (Str×NameKind)) (acc:List (Str×Addr)),(acc.lookup x).isSome=true->((Xt cells ns acc).lookup x).isSome=true
 |[],_,h=>h
 |(n,k)::r,acc,h=>by
  unfold Xt
  refine Zdp r _ ?_
  split
  ·split
   ·rw[List.lookup_cons]
    split
    ·rfl
    ·exact h
   ·exact h
  ·exact h
theorem UQ{cells:List (Str×Addr)}{x:Str}:∀(ns:List (Str×NameKind)) (acc:List (Str×Addr)),(x,NameKind.free)∈ns->(ns.all fun y=>if y.2 == .free then(cells.lookup y.1).isSome else true)=true ->
  ((Xt cells ns acc).lookup x).isSome=true
 |[],_,h,_=>by cases h
 |(n,k)::r,acc,h,ha=>by
  simp only[Jp,Qq]at ha
  unfold Xt
  rcases Ql.mp h with e|e
  ·cases e
   refine Zdp r _ ?_
   have h1:=ha.1
   simp only[beq_self_eq_true,if_true]at h1 ⊢
   cases q:cells.lookup x with
   |none=>rw[q]at h1;cases h1
   |some a=>simp[List.lookup_cons]
  ·exact UQ r _ e ha.2
theorem Wi{env:Env}{x:Str}:∀{names:List (Str×NameKind)},(∀y∈names,y.2≠.cell) ->
  Zvw ((names.map fun(n,k)=>if(k == NameKind.free&&env.scope.kind == .function&&env.kindOf n == some .cell) then(n,NameKind.cell) else(n,k)).lookup x)=true->(x,NameKind.free)∈names
 |[],_,h=>by cases h
 |(n,k)::r,hc,h=>by
  have ih:=Wi (env:=env) (x:=x) (names:=r) (fun y hy=>hc y (Qe _ hy))
  rw[Qh]at h
  by_cases q:(x == n)=true
  ·have e:x=n:=by simpa using q
   subst e
   by_cases hk:k=.free
   ·subst hk;exact Qf
   ·exfalso
    have h0:(k == NameKind.free)=false:=by simpa using hk
    simp only[h0,Bool.false_and,Qr,if_false,List.lookup_cons,beq_self_eq_true]at h
    have hc':=hc (x,k) Qf
    cases k<;>first|exact absurd rfl hk|exact absurd rfl hc'|cases h
  ·have q':(x == n)=false:=by simpa using q
   refine Qe _ (ih ?_)
   by_cases hc2:(k == NameKind.free&&env.scope.kind == .function&&env.kindOf n == some .cell)=true
   ·simp only[hc2,if_true,List.lookup_cons,q']at h;exact h
   ·simp only[hc2,Qr,if_false,List.lookup_cons,q']at h;exact h
def Zw6(n:Nat)(ix:List Nat)(σ:St):St:=List.replicate n none++ix.map fun i=>(σ[i]?).getD none
def Zes(n:Nat)(ix:List Nat)(wi:TI)(g:TG)(tt:TT)(te:TE):TE:=fun σ H Q=>wi σ H fun J H1=>∃W:Nat->Nat->List V->St->Hp->Prop,(∃m,W 0 m [] (Zw6 n ix σ) H1) /\
 ∀i m ys σ' H',W i m ys σ' H' ->
  (J.stop i H'/\ys.length<=sizeLine/\∀l,H' l=none->Q (.ref l) (Y1 H' l (.lst ys))) \/
  (J.go i H'/\ys.length<sizeLine/\∀x H2,J.yld i H' x H2->g x σ' H2 fun σ2 H3=>tt σ2 H3 fun b H4 =>
   if b=true then te σ2 H4 fun y H5=>∃m',m'<m/\W (i+1) m' (ys++[y]) σ2 H5 else ∃m',m'<m/\W (i+1) m' ys σ2 H4)
theorem Zfy(n:Nat)(ix:List Nat)(σ:St):(Zw6 n ix σ).length=n+ix.length:=by simp[Zw6]
theorem Zug{n:Nat}{ix:List Nat}{σ:St}{i:Nat}{v:V}(h:(Zw6 n ix σ)[i]?=some (some v)):∃j k,i=n+j/\ix[j]?=some k/\σ[k]?=some (some v):=by
 unfold Zw6 at h
 by_cases hi:i<n
 ·rw[QH (by simpa using hi),Ja]at h
  split at h<;>cases h
 ·rw[Jb (by simpa using hi),QC]at h
  simp only[List.length_replicate]at h
  cases e:ix[i-n]? with
  |none=>rw[e]at h;cases h
  |some k =>
   rw[e]at h
   simp only[Td]at h
   refine⟨i-n,k,by omega,e,?_⟩
   cases q:σ[k]? with
   |none=>rw[q]at h;cases h
   |some w=>rw[q]at h;simpa using h
abbrev WW(its:List Value)(k:Nat):Obj:={ cls:=.type "list",data:=.seq its.toArray k }
theorem Zdm{acc:Addr}{n:Nat}{ix:List Nat}{h1:Heap}{m0:Str->Option Value}{t1:Nat}(I:Zq X pins σ H s)(ok:(ZR X N scope cl C s H fp).Ok)
  (hsub:∀x c,cl.lookup x=some c->X.env.cells.lookup x=some c) (hhas:∀x,(x,NameKind.free)∈scope.names->∃c,cl.lookup x=some c) (hcell:∀y∈scope.names,y.2≠.cell)
  (hNl:N.length=n+ix.length) (hout:Ux X.N N n scope X.env ix=true)
  (hacc:acc=s.heap.objs.size) (hC:C=s.heap.objs.size+1) (hk:∀b o,s.heap.get? b=some o->h1.get? b=some o) (ha:h1.get? acc=some (WW [] 0)) (hn:h1.Ns C m0) :
  Zq (ZR X N scope cl C s H fp) [(acc,WW [] 0)] (Zw6 n ix σ) H { s with heap:=h1,toks:=t1 }:=by
 subst hacc
 subst hC
 have frA:H s.heap.objs.size=none:=I.hok.fresh (Qg _)
 have frC:H (s.heap.objs.size+1)=none:=I.hok.fresh (Jr _)
 refine⟨ok,rfl,I.bare,Un.kept hk,⟨m0,hn,fun i x v e1 e2 _=>?_⟩,fun x c e=>?_,frC,fun x c e=>I.freeC x c (hsub x c e),fun p hp=>?_,I.hok.kept hk,?_⟩
 ·obtain⟨j,k,rfl,e3,e4⟩:=Zug e2
  unfold Ux at hout
  have hj:j<ix.length:=(Qj.mp e3).1
  have q:=Qs.mp hout j (QJ.mpr hj)
  simp only[e3]at q
  cases e5:X.N[k]? with
  |none=>rw[e5]at q;cases q
  |some y =>
   rw[e5]at q
   simp only[Qq,beq_iff_eq]at q
   obtain⟨⟨q1,q2⟩,q3⟩:=q
   have exy:x=y:=by
    have e1':N[n+j]?=some x:=e1
    rw[e1']at q1;exact Q7 q1
   subst exy
   obtain⟨m,hm,hl⟩:=I.loc
   have hv:Zwp X.env.scope x:=by
    rcases Zgm q3 with z|z
    ·exact .inr (.inl z)
    ·exact .inr (.inr z)
   obtain⟨u,ru,lk⟩:=hl k x v e5 e4 hv
   refine⟨u,ru,.inr ⟨Zgm q2,?_⟩⟩
   have hfree:=Wi hcell q2
   obtain⟨c,hc⟩:=hhas x hfree
   refine⟨c,hc,?_⟩
   rcases lk with⟨k1,_⟩|⟨_,c',e6,z⟩
   ·rcases Zgm q3 with w|w<;>(rw[w]at k1;cases k1)
   ·have:=hsub x c hc
    rw[e6]at this;cases this
    obtain⟨oc,ho,hd⟩:=z
    exact⟨oc,hk _ _ ho,hd⟩
 ·obtain⟨v,oc,ho,hd⟩:=I.cell x c (hsub x c e)
  exact⟨v,oc,hk _ _ ho,hd⟩
 ·have:p=(s.heap.objs.size,WW [] 0):=by simpa [ZR] using hp
  subst this
  refine⟨ha,frA,Qo (Ju _),fun hb=>?_,fun v z=>by cases z⟩
  have hb':s.heap.objs.size∈Vg X.stack:=hb
  rcases Ql.mp (I.stkSub _ hb') with z|z
  ·exact absurd I.lt (by rw[<- z];exact Ji _)
  ·exact I.nofs (Qg _) z
 ·rw[Zfy];exact hNl.symm
theorem Zjc{acc:Addr}{σ':St}{H':Hp}{s':Shared}{its:List Value}{k:Nat}{ys:List V}(I:Zq X pins σ H s)(J:Zq (ZR X N scope cl C s H fp) [(acc,WW its k)] σ' H' s')
  (hf:∀b∈fp,US X pins H b) (hacc:acc=s.heap.objs.size) (rv:ZB ys its) (hl:ys.length<=sizeLine):H' acc=none/\Zq X pins σ (Y1 H' acc (.lst ys)) s':=by
 obtain⟨e,n,_,_,_⟩:=J.pin (acc,WW its k) (Qt _ (by simp))
 refine⟨n,?_⟩
 subst hacc
 have hn:s.heap.get? s.heap.objs.size=none:=Heap.get?_none_of_le (Qg _)
 refine I.call' (ch:=fp) J.os (Un.withNew J.base hn (I.hok.fresh (Qg _))) (Ua.withNew J.hok n ⟨hl,its,k,rv,e⟩) J.bare fun b hb=>?_
 obtain⟨f0,f1,f2,f3,f4,f5⟩:=hf b hb
 exact⟨f3,f1,f4,f5⟩
theorem Zlm{it acc:Addr}{tn:Nat->Heap->Prop}{J:It}{elt tg iter:Expr}{ifs:List Expr}{pos:Pos}{g:TG}{tt:TT}{te:TE}{Q:VK}{s4:Shared}(hc:X.calm=true)
  (I:Zq X pins σ H s) (T:Zjs X.prog X.w X.K tg J fp it tn) (hf:∀b∈fp,US X pins H b) (ho:∀b∈fp,∃o,s.heap.get? b=some o) (hacc:acc=s.heap.objs.size) (hC:C=s.heap.objs.size+1)
  (hg:PG (ZR X N scope cl C s H fp) tg g) (ht:Zx2 (ZR X N scope cl C s H fp) ifs tt) (he:PE (ZR X N scope cl C s H fp) elt te)
  (W:Nat->Nat->List V->St->Hp->Prop) (hW:∀i m ys σ' H',W i m ys σ' H' ->
   (J.stop i H'/\ys.length<=sizeLine/\∀l,H' l=none->Q (.ref l) (Y1 H' l (.lst ys))) \/
   (J.go i H'/\ys.length<sizeLine/\∀x H2,J.yld i H' x H2->g x σ' H2 fun σ2 H3=>tt σ2 H3 fun b H4 =>
    if b=true then te σ2 H4 fun y H5=>∃m',m'<m/\W (i+1) m' (ys++[y]) σ2 H5 else ∃m',m'<m/\W (i+1) m' ys σ2 H4))
  (m:Nat) (h0:∃σ0,Zq (ZR X N scope cl C s H fp) [(acc,WW [] 0)] σ0 H s4/\W 0 m [] σ0 H) (st:tn 0 s4.heap) :
  codeAny (model X.prog X.w) X.A (.compLoop (.ListComp elt [⟨tg,iter,ifs,0⟩] scope pos) 0 (.ref it) (.ref acc) (compEnvC scope cl C X.env))
   (fun r s'=>r=.ok .next/\∃H',H' C=none/\(∃m',s'.heap.Ns C m')/\Zq X pins σ H' s'/\Q (.ref acc) H') s4:=by
 have ff:∀{E':Value->Shared->Prop} (x:Value) (y:Shared),False->E' x y:=fun _ _ f=>f.elim
 obtain⟨σ0,I0,w0⟩:=h0
 have accle:s.heap.objs.size<=acc:=by rw[hacc];exact Qg _
 have nC:C≠acc:=by rw[hC,hacc];exact JM (Ju _)
 have accfp:acc∉fp:=fun hb=>by
  obtain⟨o,e⟩:=ho acc hb
  exact absurd (Qw (Qk e) accle) (Ji _)
 have xfp:∀{its:List Value} {k:Nat} {H':Hp},(∀b∈fp,H' b=none)->∀b∈fp,US (ZR X N scope cl C s H fp) [(acc,WW its k)] H' b:=fun{its k H'} hn b hb =>
  ⟨hn b hb,(I0.ok.exf b hb).1,I0.ok.exfs b hb,.inl hb,(I0.ok.exf b hb).2,fun p hm=>by
   have hm':p=(acc,WW its k):=by simpa [ZR] using hm
   subst hm'
   intro z
   exact accfp (by rw[show acc=b from z];exact hb)⟩
 refine Zg0 (fun n s'=>∃i ys its k σ' H',Zq (ZR X N scope cl C s H fp) [(acc,WW its k)] σ' H' s'/\tn i s'.heap/\(∀b∈fp,H' b=none)/\ZB ys its/\W i n ys σ' H') ?_ m
  ⟨0,[],[],0,σ0,H,I0,st,fun b hb=>(hf b hb).1,.nil,w0⟩
 rintro n s5 ⟨i,ys,its,k,σ5,H5,I5,st5,fr5,rv,w5⟩
 rcases hW i n ys σ5 H5 w5 with⟨stop,hl,q⟩|⟨go,hl,step⟩
 ·refine YA (T.done (ZR X N scope cl C s H fp) rfl rfl rfl hc i _ s5 σ5 H5 _ I5 (xfp fr5) st5 stop) fun r s6 ⟨hr,I6⟩=>?_
  subst hr
  obtain⟨n6,J6⟩:=Zjc I I6 hf hacc rv hl
  obtain⟨m6,hm6,_⟩:=I6.loc
  exact⟨rfl,_,(by rw[ZM nC];exact I6.free),⟨m6,hm6⟩,J6,q acc n6⟩
 ·refine YA (T.item (ZR X N scope cl C s H fp) rfl rfl rfl hc i _ s5 σ5 H5 _ I5 (xfp fr5) st5 go) fun r s6 ⟨u,hr,h6⟩=>?_
  subst hr
  refine YA h6 fun _ s7 ⟨x,H7,I7,r7,y7,st7,fr7⟩=>?_
  have I7':=I7.pinned (xfp fr7) (T.obj _ _ st7)
  refine YA (hg _ s7 σ5 H7 x u _ I7' r7 (step x H7 y7)) fun _ s8 ⟨σ8,H8,I8,q8⟩=>?_
  refine YA (ht _ s8 σ8 H8 _ I8 q8) fun ok s9 ⟨H9,I9,q9⟩=>?_
  have back:∀{H':Hp} {s':Shared},Zq (ZR X N scope cl C s H fp) ([(acc,WW its k)]++Zan fp s7.heap) σ8 H' s'->tn (i+1) s'.heap/\∀b∈fp,H' b=none:=fun{H' s'} I' =>
   ⟨T.keep _ _ _ st7 fun b hb o e=>(I'.pin (b,o) (Qt _ (Qt _ (XX hb e)))).1,fun b hb=>by
    obtain⟨o,e,d⟩:=T.obj _ _ st7 b hb
    exact(I'.pin (b,o) (Qt _ (Qt _ (XX hb e)))).2.1⟩
  cases ok with
  |false =>
   rw[if_neg Qv]at q9
   rw[if_neg Qv]
   obtain⟨m',hm,w'⟩:=q9
   exact⟨m',hm,i+1,ys,its,k,σ8,H9,I9.unpinned,(back I9).1,(back I9).2,rv,w'⟩
  |true =>
   rw[if_pos rfl]at q9
   rw[if_pos rfl]
   refine YA (he _ s9 σ8 H9 _ I9 q9) fun y Zkg ⟨v,H10,I10,r10,q10⟩=>?_
   obtain⟨m',hm,w'⟩:=q10
   obtain⟨b1,b2⟩:=back I10
   have J10:=I10.unpinned
   obtain⟨ea,na,nL,nF,nD⟩:=J10.pin (acc,WW its k) (Qt _ (by simp))
   have hsz:its.toArray.size<=sizeLine:=by
    have:=rv.length
    simp only[Qi];omega
   refine wpAny_list_append_plain (hsz:=hsz) ⟨k,ea⟩ fun h' ⟨k',e'⟩ sb=>?_
   have hpu:its.toArray.push y=(its++[y]).toArray:=by simp
   rw[hpu]at e'
   refine⟨m',hm,i+1,ys++[v],its++[y],k',σ8,H10,?_,T.keep _ _ _ b1 fun b hb o e=>(sb.2 b (fun z=>accfp (z▸hb))).trans e,b2,rv.append (.cons r10 .nil),w'⟩
   have J11:Zq (ZR X N scope cl C s H fp) [] σ8 H10 Zkg:=J10.pins_of fun p hp=>absurd hp (by simp)
   have J12:Zq (ZR X N scope cl C s H fp) [] σ8 H10 { Zkg with heap:=h' }:=J11.turned (t':=Zkg.toks) (it:=acc) (fun b o hb e=>(sb.2 b hb).trans e) na nL
    (.inr accle) (fun x c e z=>by
     obtain⟨w1,oc,hoc,hd⟩:=J10.cell x c e
     have:Zkg.heap.get? acc=some oc:=by rw[<- z];exact hoc
     rw[ea]at this;cases this;cases hd) (fun p hp=>absurd (show p∈([]:List (Addr×Obj))++[] from hp) (by simp))
   refine J12.pins_of fun p hp=>?_
   have:p=(acc,WW (its++[y]) k'):=by simpa using hp
   subst this
   exact⟨e',na,nL,nF,fun v z=>by cases z⟩
theorem sub_of(cells:List (Str×Addr))(ns:List (Str×NameKind)):∀x c,(Xt cells ns []).lookup x=some c->cells.lookup x=some c:=fun _ _ h=>Zdo ns [] (fun _ _ z=>by cases z) h
theorem Zje{elt tg iter:Expr}{ifs:List Expr}{pos p2:Pos}{n:Nat}{ix:List Nat}{wi:TI}{g:TG}{tt:TT}{te:TE}{Q:VK}{use:Option (Value->Sem Unit)}{R:Value->Shared->Prop}
  (hc:X.calm=true) (hi:PI X tg iter wi)
  (hg:∀cl C s H fp,PG (ZR X N scope cl C s H fp) tg g) (ht:∀cl C s H fp,Zx2 (ZR X N scope cl C s H fp) ifs tt) (he:∀cl C s H fp,PE (ZR X N scope cl C s H fp) elt te)
  (hk:scope.kind=.function) (hcell:(scope.names.all fun y=>!(y.2 == .cell))=true) (hnames:(scope.names.all fun y=>!(y.2 == .local)||(scope.names.lookup y.1 == some .local))=true)
  (hNl:N.length=n+ix.length) (hout:Ux X.N N n scope X.env ix=true) (hfree:W0 scope X.env.cells=true) (hs:∀x,foldedSetIterable iter X.env x=pure x)
  (I:Zq X pins σ H s) (h:Zes n ix wi g tt te σ H Q)
  (fin:∀acc C s',(∃H',H' C=none/\C≠X.env.locals/\X.s₀.heap.objs.size<=C/\(∀x c,X.env.cells.lookup x=some c->c≠C)/\(∀p∈X.pn++pins,p.1≠C)/\(∃m',s'.heap.Ns C m')/\Zq X pins σ H' s'/\Q (.ref acc) H') ->
   compPost (model X.prog X.w) X.A X.xe use R (.ref acc) C (.ok .next) s') :
  wpAny (model X.prog X.w) X.A (comprehension (.ListComp elt [⟨tg,iter,ifs,0⟩] scope pos) scope X.env p2 (newList []) false (eval iter X.env) use) R X.xe s:=by
 have hcell':∀y∈scope.names,y.2≠.cell:=fun y hy z=>by
  have:=Qs.mp hcell y hy
  rw[z]at this;cases this
 have hnames':∀y∈scope.names,y.2=.local->scope.names.lookup y.1=some .local:=fun y hy z=>by
  have:=Qs.mp hnames y hy
  rw[z]at this
  simpa using this
 refine wpAny_comprehension_free (use:=use) rfl hs (UE hfree) hk hnames' (YA (hi pins s σ H _ I h) fun v s1 h1=>YA h1 fun itv s2 h2=>?_)
 obtain⟨it,fp,tn,J,H2,e,I2,T,st2,f2,W,⟨m,w0⟩,hW⟩:=h2
 subst e
 have ho:∀b∈fp,∃o,s2.heap.get? b=some o:=fun b hb=>let⟨o,e,_⟩:=T.obj _ _ st2 b hb;⟨o,e⟩
 refine QU (wpAny_newFunctionEnv hcell' (by intro y hy;simp at hy) (fun h1 hns hsb=>?_) hk)
 dsimp only at hns hsb ⊢
 generalize hG:s2.heap.push { cls:=.type "list",dict:=none,data:=.seq ([]:List Value).toArray }=G at hns hsb ⊢
 have hCs:G.objs.size=s2.heap.objs.size+1:=by rw[<- hG,QN]
 have keep:∀b o,s2.heap.get? b=some o->h1.get? b=some o:=fun b o e=>hsb.extBut b o (Qo (by rw[hCs];exact QZ (Qk e))) (Qb _ (hG▸Qb _ e))
 have hac:h1.get? s2.heap.objs.size=some (WW [] 0):=hsb.extBut _ _ (Qo (by rw[hCs];exact Ju _)) (Qb _ (hG▸Qm _ rfl))
 have sub:=sub_of X.env.cells scope.names
 have has:∀x,(x,NameKind.free)∈scope.names->∃c,(Xt X.env.cells scope.names []).lookup x=some c:=fun x hx=>Option.isSome_iff_exists.mp (UQ scope.names [] hx hfree)
 have ok:(ZR X N scope (Xt X.env.cells scope.names []) G.objs.size s2 H2 fp).Ok:=Zfe I2 hk (by rw[hCs];exact Jr _) f2 ho sub fun x hx=>has x (Wi hcell' (by
  rcases hx with z|z<;>(have z':=z;unfold relabel at z';simp only at z';rw[z'];rfl)))
 have I4:=Zdm (t1:=s2.toks+([]:List (Str×Value)).length) I2 ok sub has hcell' hNl hout rfl hCs keep hac hns
 have st4:tn 0 h1:=T.keep _ _ _ st2 fun b hb o e=>keep b o e
 have loop:=Zlm (pos:=pos) (iter:=iter) (Q:=Q) (s4:={ s2 with heap:=h1,toks:=s2.toks+([]:List (Str×Value)).length }) hc I2 T f2 ho rfl hCs (hg _ _ _ _ _) (ht _ _ _ _ _) (he _ _ _ _ _) W hW m ⟨_,I4,w0⟩ st4
 have loop':=J8 loop (R':=compPost (model X.prog X.w) X.A X.xe use R (.ref s2.heap.objs.size) G.objs.size) fun r s' ⟨hr,H',q1,q2,q3,q4⟩=>by
  subst hr
  refine fin _ _ s' ⟨H',q1,?_,?_,?_,?_,q2,q3,q4⟩
  ·intro z
   have:=I2.lt
   rw[<- z,hCs]at this
   exact absurd this (Nat.not_lt.mpr (Jr _))
  ·rw[hCs];exact Nat.le_succ_of_le I2.sz
  ·intro x c e z
   obtain⟨w1,oc,hoc,_⟩:=I2.cell x c e
   have:=Qk hoc
   rw[z,hCs]at this
   exact absurd this (Nat.not_lt.mpr (Jr _))
  ·intro p hp z
   have:=Qk (I2.pin p hp).1
   rw[z,hCs]at this
   exact absurd this (Nat.not_lt.mpr (Jr _))
 exact codeAny_compStart_list loop' (T.self _ 0 _ _ _ st4 loop')
theorem Zmg{elt tg iter:Expr}{ifs:List Expr}{pos:Pos}(N:List Str)(n:Nat)(ix:List Nat){wi:TI}{g:TG}{tt:TT}{te:TE}(hc:X.calm=true)(hi:PI X tg iter wi)
  (hg:∀cl C s H fp,PG (ZR X N scope cl C s H fp) tg g) (ht:∀cl C s H fp,Zx2 (ZR X N scope cl C s H fp) ifs tt) (he:∀cl C s H fp,PE (ZR X N scope cl C s H fp) elt te)
  (hk:scope.kind=.function:=by rfl) (hcell:(scope.names.all fun y=>!(y.2 == .cell))=true:=by rfl) (hnames:(scope.names.all fun y=>!(y.2 == .local)||(scope.names.lookup y.1 == some .local))=true:=by rfl)
  (hNl:N.length=n+ix.length:=by rfl) (hout:Ux X.N N n scope X.env ix=true:=by rfl) (hfree:W0 scope X.env.cells=true:=by rfl) (hs:∀x,foldedSetIterable iter X.env x=pure x:=by intro _;rfl) :
  PE X (.ListComp elt [⟨tg,iter,ifs,0⟩] scope pos) (Zes n ix wi g tt te):=by
 intro pins s σ H Q I h
 rw[eval_ListComp]
 refine Zje (use:=none) hc hi hg ht he hk hcell hnames hNl hout hfree hs I h ?_
 rintro acc C s' ⟨H',q1,q2,q3,q4,q5,⟨m',q6⟩,q7,q8⟩
 exact⟨m',q6,fun h' sb=>⟨.ref acc,H',q7.turned (t':=s'.toks) (fun b o hb e=>(sb.2 b hb).trans e) q1 q2 (.inr q3) q4 q5,rfl,q8⟩⟩
theorem Zux{i:Nat}{x:Str}{pos' sp:Pos}{elt tg iter:Expr}{ifs:List Expr}{pos:Pos}(N:List Str)(n:Nat)(ix:List Nat){wi:TI}{g:TG}{tt:TT}{te:TE}(hN:X.N.Nodup)(hx0:X.N[i]?=some x)(hx:Zpc X.env.scope x)
  (hc:X.calm=true) (hi:PI X tg iter wi)
  (hg:∀cl C s H fp,PG (ZR X N scope cl C s H fp) tg g) (ht:∀cl C s H fp,Zx2 (ZR X N scope cl C s H fp) ifs tt) (he:∀cl C s H fp,PE (ZR X N scope cl C s H fp) elt te)
  (hsw:swapsWith (.ListComp elt [⟨tg,iter,ifs,0⟩] scope pos) (some (.Name x pos')) sp.line X.env=pure true:=by rfl)
  (hk:scope.kind=.function:=by rfl) (hcell:(scope.names.all fun y=>!(y.2 == .cell))=true:=by rfl) (hnames:(scope.names.all fun y=>!(y.2 == .local)||(scope.names.lookup y.1 == some .local))=true:=by rfl)
  (hNl:N.length=n+ix.length:=by rfl) (hout:Ux X.N N n scope X.env ix=true:=by rfl) (hfree:W0 scope X.env.cells=true:=by rfl) (hs:∀x,foldedSetIterable iter X.env x=pure x:=by intro _;rfl)
  (hf:X.fn x=true\/X.env.scope.names.lookup x=some .local:=by first|exact .inl rfl|exact .inr rfl|assumption) :
  PS X (.Assign [.Name x pos'] (.ListComp elt [⟨tg,iter,ifs,0⟩] scope pos) sp) (Zyl (Zes n ix wi g tt te) (Zi3 i)):=by
 intro pins s σ H D I h
 rw[exec_Assign_Name_used _ _ _ _ hsw]
 refine Qa (wpAny_standAt (Qa ?_))
 show wpAny _ X.A (do let _ <- comprehension (.ListComp elt [⟨tg,iter,ifs,0⟩] scope pos) scope X.env _ (newList []) false (eval iter X.env) (some (assign (.Name x pos') X.env))) _ _ s
 refine Qa (YA (Zje (use:=some (assign (.Name x pos') X.env)) (R:=fun _ s'=>SP X pins D .next s') hc hi hg ht he hk hcell hnames hNl hout hfree hs I h ?_) fun _ s' q=>Qc (Qc q))
 rintro acc C s' ⟨H',q1,q2,q3,q4,q5,⟨m',q6⟩,q7,q8⟩
 show wpAny _ X.A (assign (.Name x pos') X.env (.ref acc)) _ _ s'
 refine wpAny_assign_Name (Zeu q7 hN hx0 hx (v:=.ref acc) rfl (fun s2 I2 ⟨a,sb,ha⟩=>?_) hf)
 have naC:C≠a:=by
  rcases ha with rfl|ha
  ·exact q2
  ·exact fun z=>q4 _ _ ha z.symm
 exact⟨m',q6.sameBut sb naC,fun h' sb'=>⟨_,H',I2.turned (t':=s2.toks) (fun b o hb e=>(sb'.2 b hb).trans e) q1 q2 (.inr q3) q4 q5,q8⟩⟩
end
inductive D where
 |non|bl (b:Bool)|int (i:Int)|str (x:Str)|tup (ds:List D)|lst (ds:List D)
  |scr (ns:List Int)
  |dcK (ks:List YQ) (ds:List D)
 |dcT (ks:List (List YQ)) (ds:List D)
  |dcF (ks:List (List YQ)) (ds:List D)
mutual
def YJ(K:PySem.W.Frag)(H:Hp):D->V->Prop
 |.non,v=>v=.non
 |.bl b,v=>v=.bl b
 |.int i,v=>v=.int i
 |.str x,v=>v=.str x
 |.tup ds,v=>∃a vs,v=.ref a/\H a=some (.tup vs)/\Zr K H ds vs
 |.lst ds,v=>∃a vs,v=.ref a/\H a=some (.lst vs)/\Zr K H ds vs
 |.scr ns,v=>∃a,v=.ref a/\WH K H a (ns.map V.int)
 |.dcK ks ds,v=>∃a kvs,v=.ref a/\H a=some (.dK kvs)/\kvs.map (·.1)=ks/\Zr K H ds (kvs.map (·.2))
 |.dcT ks ds,v=>∃a kvs,v=.ref a/\H a=some (.dT kvs)/\kvs.map (·.1)=ks/\Zr K H ds (kvs.map (·.2))
 |.dcF ks ds,v=>∃a o kvs,v=.ref a/\H a=some (.frz o (.dT kvs))/\kvs.map (·.1)=ks/\Zr K H ds (kvs.map (·.2))
def Zr(K:PySem.W.Frag)(H:Hp):List D->List V->Prop
 |[],vs=>vs=[]
 |d::ds,vs=>∃v r,vs=v::r/\YJ K H d v/\Zr K H ds r
end
theorem Zf.seqT{K:PySem.W.Frag}{H H':Hp}{a:Addr}{xs:List V}(e:Zf H H')(h:Wq K H a xs):Wq K H' a xs:=by
 rcases h with(h|⟨o,h⟩)|h
 ·exact .inl (.inl (e _ _ h))
 ·exact .inl (.inr ⟨o,e _ _ h⟩)
 ·exact .inr h
theorem Zf.new{H:Hp}{a:Addr}{o:HO}(h:H a=none):Zf H (Y1 H a o):=fun b u e=>by rw[ZM (ZS e h)];exact e
mutual
theorem YJ.mono{K:PySem.W.Frag}{H H':Hp}(s:Zf H H'):∀(d:D) (v:V),YJ K H d v->YJ K H' d v
 |.non,_,h=>h
 |.bl _,_,h=>h
 |.int _,_,h=>h
 |.str _,_,h=>h
 |.tup ds,_,⟨a,vs,e,h,r⟩=>⟨a,vs,e,s _ _ h,Zr.mono s ds vs r⟩
 |.lst ds,_,⟨a,vs,e,h,r⟩=>⟨a,vs,e,s _ _ h,Zr.mono s ds vs r⟩
 |.scr _,_,⟨a,e,h⟩=>⟨a,e,s.seq h⟩
 |.dcK _ ds,_,⟨a,kvs,e,h,k,r⟩=>⟨a,kvs,e,s _ _ h,k,Zr.mono s ds _ r⟩
 |.dcT _ ds,_,⟨a,kvs,e,h,k,r⟩=>⟨a,kvs,e,s _ _ h,k,Zr.mono s ds _ r⟩
 |.dcF _ ds,_,⟨a,o,kvs,e,h,k,r⟩=>⟨a,o,kvs,e,s _ _ h,k,Zr.mono s ds _ r⟩
theorem Zr.mono{K:PySem.W.Frag}{H H':Hp}(s:Zf H H'):∀(ds:List D) (vs:List V),Zr K H ds vs->Zr K H' ds vs
 |[],_,h=>h
 |d::ds,_,⟨v,r,e,h,t⟩=>⟨v,r,e,YJ.mono s d v h,Zr.mono s ds r t⟩
end
section
variable{K:PySem.W.Frag}{H:Hp}
theorem Zr.length:∀{ds:List D} {vs:List V},Zr K H ds vs->vs.length=ds.length
 |[],_,h=>by rw[show _=_ from h];rfl
 |_::ds,_,⟨v,r,e,_,t⟩=>by rw[e,Qp,Qp,Zr.length t]
theorem Zr.get:∀{ds:List D} {vs:List V} {i:Nat} {d:D},Zr K H ds vs->ds[i]?=some d->∃v,vs[i]?=some v/\YJ K H d v
 |[],_,_,_,_,e=>by simp at e
 |_::_,_,0,_,⟨v,r,e,h,_⟩,q=>by
  simp only[JA,Option.some.injEq]at q
  subst q;subst e;exact⟨v,rfl,h⟩
 |_::ds,_,i+1,d,⟨v,r,e,_,t⟩,q=>by
  subst e
  obtain⟨u,h1,h2⟩:=Zr.get (ds:=ds) (i:=i) t (by simpa using q)
  exact⟨u,by simpa using h1,h2⟩
theorem Zr.append:∀{ds es:List D} {vs us:List V},Zr K H ds vs->Zr K H es us->Zr K H (ds++es) (vs++us)
 |[],_,_,_,h,k=>by rw[show _=_ from h];exact k
 |_::ds,_,_,_,⟨v,r,e,h,t⟩,k=>by subst e;exact⟨v,_,rfl,h,Zr.append t k⟩
theorem Zr.take:∀{ds:List D} {vs:List V} (n:Nat),Zr K H ds vs->Zr K H (ds.take n) (vs.take n)
 |_,_,0,_=>by simp[Zr]
 |[],_,_+1,h=>by rw[show _=_ from h];simp[Zr]
 |_::ds,_,n+1,⟨v,r,e,h,t⟩=>by subst e;exact⟨v,_,rfl,h,Zr.take n t⟩
theorem Zr.drop:∀{ds:List D} {vs:List V} (n:Nat),Zr K H ds vs->Zr K H (ds.drop n) (vs.drop n)
 |_,_,0,h=>h
 |[],_,_+1,h=>by rw[show _=_ from h];simp[Zr]
 |_::ds,_,n+1,⟨v,r,e,_,t⟩=>by subst e;exact Zr.drop n t
theorem Zr.set{d:D}{v:V}(hr:YJ K H d v):∀{ds:List D} {vs:List V} (i:Nat),Zr K H ds vs->Zr K H (ds.set i d) (vs.set i v)
 |[],_,_,h=>by rw[show _=_ from h];simp[Zr]
 |_::ds,_,0,⟨w,r,e,_,t⟩=>by subst e;exact⟨v,_,rfl,hr,t⟩
 |_::ds,_,i+1,⟨w,r,e,h,t⟩=>by subst e;exact⟨w,_,rfl,h,Zr.set hr i t⟩
theorem Zr.one{d:D}{v:V}(h:YJ K H d v):Zr K H [d] [v]:=⟨v,[],rfl,h,rfl⟩
theorem Zr.ints:∀{is:List Int} {vs:List V},Zr K H (is.map D.int) vs->vs=is.map V.int
 |[],_,h=>h
 |i::is,_,⟨v,r,e,h,t⟩=>by
  have:v=.int i:=h
  subst this;subst e;rw[Qh,Zr.ints t]
theorem Um:∀(is:List Int),Zr K H (is.map D.int) (is.map V.int)
 |[]=>rfl
 |i::is=>⟨_,_,rfl,rfl,Um is⟩
end
inductive Cl where
 |val (d:D)
 |own (d:D)
abbrev Xl:=List (Option D)
abbrev XR:=List (Option Cl)
def YF(ρ:XR):Xl:=ρ.map fun c=>match c with
 |some (.val d)=>some d
 |some (.own d)=>some d
 |none=>none
def Ws(ρ:XR):Xl:=ρ.map fun c=>match c with
 |some (.val d)=>some d
 |_=>none
def mask(O:List Addr)(H:Hp):Hp:=fun a=>if a∈O then none else H a
section
variable{O:List Addr}{H H':Hp}
theorem Zi:Zf (mask O H) H:=fun a o h=>by
 unfold mask at h
 split at h
 ·cases h
 ·exact h
theorem ZA(s:Zf H H'):Zf (mask O H) (mask O H'):=fun a o h=>by
 unfold mask at h ⊢
 split at h
 ·cases h
 ·rename_i hn;rw[if_neg hn];exact s a o h
theorem Zrq:mask [] H=H:=by funext a;unfold mask;rw[if_neg (by simp)]
theorem ZF{a:Addr}(h:a∉O):mask O H a=H a:=by unfold mask;rw[if_neg h]
theorem Yy{a:Addr}(h:a∈O):mask O H a=none:=by unfold mask;rw[if_pos h]
def Ziy:HO->Prop
 |.lst _=>True
 |.dK _=>True
 |.dT _=>True
 |_=>False
def YG(O:List Addr)(H:Hp):Prop:=∀a∈O,∃o,H a=some o/\Ziy o
theorem YG.mono(t:YG O H)(s:Zf H H'):YG O H':=fun a h=>let⟨o,e,m⟩:=t a h;⟨o,s _ _ e,m⟩
theorem YG.fresh(t:YG O H){a:Addr}(h:H a=none):a∉O:=fun m=>by obtain⟨o,e,_⟩:=t a m;rw[h]at e;cases e
end
structure RV(K:PySem.W.Frag)(O:List Addr)(H:Hp)(ρ:Xl)(σ:St):Prop where
 th:YG O H
 at_:∀(i:Nat) (d:D),ρ[i]?=some (some d)->∃v,σ[i]?=some (some v)/\YJ K (mask O H) d v
theorem RV.mono{K:PySem.W.Frag}{O:List Addr}{H H':Hp}{ρ:Xl}{σ:St}(r:RV K O H ρ σ)(s:Zf H H'):RV K O H' ρ σ :=
 ⟨r.th.mono s,fun i d e=>let⟨v,h1,h2⟩:=r.at_ i d e;⟨v,h1,YJ.mono (ZA s) d v h2⟩⟩
abbrev FE:=Xl->Option D
abbrev FT:=Xl->Option Bool
abbrev FA:=Xl->Option (List D)
def tD(K:PySem.W.Frag)(f:FE):TE:=fun σ H Q=>∃O ρ d,RV K O H ρ σ/\f ρ=some d/\∀v H',Zf H H'->YJ K (mask O H') d v->Q v H'
def tT(K:PySem.W.Frag)(f:FT):TT:=fun σ H Q=>∃O ρ b,RV K O H ρ σ/\f ρ=some b/\∀H',Zf H H'->Q b H'
def tA(K:PySem.W.Frag)(f:FA):TA:=fun σ H Q=>∃O ρ ds,RV K O H ρ σ/\f ρ=some ds/\∀vs H',Zf H H'->Zr K (mask O H') ds vs->Q vs H'
def EV(X:Cx)(e:Expr)(f:FE):Prop:=PE X e (tD X.K f)
def TV(X:Cx)(e:Expr)(f:FT):Prop:=PT X e (tT X.K f)
def AV(X:Cx)(es:List Expr)(f:FA):Prop:=PA X es (tA X.K f)
theorem PE.imp{X:Cx}{e:Expr}{t t':TE}(h:PE X e t)(k:∀σ H Q,t' σ H Q->t σ H Q):PE X e t':=fun pins s σ H Q I hw=>h pins s σ H Q I (k σ H Q hw)
theorem PT.imp{X:Cx}{e:Expr}{t t':TT}(h:PT X e t)(k:∀σ H Q,t' σ H Q->t σ H Q):PT X e t':=fun pins s σ H Q I hw=>h pins s σ H Q I (k σ H Q hw)
theorem PA.imp{X:Cx}{e:List Expr}{t t':TA}(h:PA X e t)(k:∀σ H Q,t' σ H Q->t σ H Q):PA X e t':=fun pos pins s σ H Q I hw=>h pos pins s σ H Q I (k σ H Q hw)
def fV(i:Nat):FE:=fun ρ=>(ρ[i]?).getD none
def fC(d:D):FE:=fun _=>some d
def f1(o:D->Option D)(a:FE):FE:=fun ρ=>(a ρ).bind o
def f2(o:D->D->Option D)(a b:FE):FE:=fun ρ=>(a ρ).bind fun x=>(b ρ).bind fun y=>o x y
def fN:FA:=fun _=>some []
def Za(a:FE)(r:FA):FA:=fun ρ=>(a ρ).bind fun x=>(r ρ).bind fun xs=>some (x::xs)
def fL(o:List D->Option D)(a:FA):FE:=fun ρ=>(a ρ).bind o
def Zxr(c:FT)(a b:FE):FE:=fun ρ=>(c ρ).bind fun k=>if k=true then a ρ else b ρ
def Zos(a b:FE):FE:=fun ρ=>(a ρ).bind fun x=>match x with|.bl true=>b ρ|.bl false=>some (.bl false)|_=>none
def fOr(a b:FE):FE:=fun ρ=>(a ρ).bind fun x=>match x with|.bl true=>some (.bl true)|.bl false=>b ρ|_=>none
def Z0r(a:FE):FE:=fun ρ=>(a ρ).bind fun x=>match x with|.bl k=>some (.bl (!k))|_=>none
def gB(a:FE):FT:=fun ρ=>(a ρ).bind fun x=>match x with|.bl k=>some k|_=>none
def Zgq(a b:FT):FT:=fun ρ=>(a ρ).bind fun k=>if k=true then b ρ else some false
def WZ(a b:FT):FT:=fun ρ=>(a ρ).bind fun k=>if k=true then some true else b ρ
def WG(a:FT):FT:=fun ρ=>(a ρ).bind fun k=>some (!k)
def Zyd:D->Option Bool
 |.non=>some false
 |.bl b=>some b
 |.int i=>some (i != 0)
 |.tup ds=>some (!ds.isEmpty)
 |.lst ds=>some (!ds.isEmpty)
 |_=>none
def WY(a:FE):FT:=fun ρ=>(a ρ).bind Zyd
theorem bind_some{α β:Type}{a:Option α}{f:α->Option β}{b:β}(h:a.bind f=some b):∃x,a=some x/\f x=some b:=by
 cases a with
 |none=>cases h
 |some x=>exact⟨x,rfl,h⟩
section
variable{X:Cx}{a b c:Expr}{fa fb:FE}{pos:Pos}
theorem Zb(i:Nat){x:Str}(hN:X.N[i]?=some x:=by rfl)(hv:Zwp X.env.scope x:=by first|exact Or.inl rfl|exact Or.inr (Or.inl rfl)|exact Or.inr (Or.inr rfl))(hd:(x == ("__debug__":Str))=false:=by decide)
  (hcd:(x == ("__classdict__":Str))=false:=by decide):EV X (.Name x pos) (fV i):=PE.imp (Zao hN hv hd hcd) fun σ H Q ⟨O,ρ,d,r,e,k⟩=>by
 have e':ρ[i]?=some (some d):=by
  unfold fV at e
  cases q:ρ[i]? with
  |none=>rw[q]at e;cases e
  |some o=>rw[q]at e;rw[show o=some d from e]
 obtain⟨v,h1,h2⟩:=r.at_ i d e'
 exact⟨v,h1,k v H (Zf.refl _) h2⟩
theorem Ze{i j}:EV X (.Constant (.int i) j pos) (fC (.int i)):=PE.imp Zq4 fun σ H Q ⟨O,ρ,d,r,e,k⟩=>by cases e;exact k _ H (Zf.refl _) rfl
theorem Zbb{i j}:EV X (.Constant (.bool i) j pos) (fC (.bl i)):=PE.imp Zxe fun σ H Q ⟨O,ρ,d,r,e,k⟩=>by cases e;exact k _ H (Zf.refl _) rfl
theorem Y8{j}:EV X (.Constant .none j pos) (fC .non):=PE.imp Zy1 fun σ H Q ⟨O,ρ,d,r,e,k⟩=>by cases e;exact k _ H (Zf.refl _) rfl
theorem Zu{x j}:EV X (.Constant (.str x) j pos) (fC (.str x)):=PE.imp Zq1 fun σ H Q ⟨O,ρ,d,r,e,k⟩=>by cases e;exact k _ H (Zf.refl _) rfl
theorem Zac{x:Str}{i:Int}(hm:∃t,X.mg x=some (.int i t))(hg:Gl X x:=by rfl)(hd:(x == ("__debug__":Str))=false:=by decide):EV X (.Name x pos) (fC (.int i)):=by
 obtain⟨t,hm⟩:=hm
 exact PE.imp (Zmf (v:=.int i) hg hm ⟨t,rfl⟩ hd) fun σ H Q ⟨O,ρ,d,r,e,k⟩=>by cases e;exact k _ H (Zf.refl _) rfl
def rD(K:PySem.W.Frag)(o:D->D->Option D):R2:=fun x y H Q=>∃O dx dy d,YG O H/\YJ K (mask O H) dx x/\YJ K (mask O H) dy y/\o dx dy=some d/\∀v H',Zf H H'->YJ K (mask O H') d v->Q v H'
def VC(X:Cx)(f:Value->Value->Sem Value)(o:D->D->Option D):Prop:=W6 X f (rD X.K o)
theorem VC.of{f:Value->Value->Sem Value}{o:D->D->Option D}{r:R2}(h:W6 X f r)(k:∀x y H Q,rD X.K o x y H Q->r x y H Q):VC X f o:=fun pins s σ H x y v u Q I rx ry q=>h pins s σ H x y v u Q I rx ry (k x y H Q q)
theorem Zcd{o:D->D->Option D}{r:R2}(k:∀x y H Q,rD X.K o x y H Q->r x y H Q){σ:St}{H:Hp}{Q:VK}(h:tD X.K (f2 o fa fb) σ H Q):tOp r (tD X.K fa) (tD X.K fb) σ H Q:=by
 obtain⟨O,ρ,d,rv,e,q⟩:=h
 obtain⟨x,e1,e⟩:=bind_some e
 obtain⟨y,e2,e⟩:=bind_some e
 refine⟨O,ρ,x,rv,e1,fun v H1 s1 r1=>?_⟩
 have rv1:=rv.mono s1
 refine⟨O,ρ,y,rv1,e2,fun u H2 s2 r2=>k _ _ _ _ ⟨O,x,y,d,rv1.th.mono s2,YJ.mono (ZA s2) x v r1,r2,e,fun w H3 s3 r3=>q w H3 (Zf.trans (Zf.trans s1 s2) s3) r3⟩⟩
theorem Zv{op:Operator}{o:D->D->Option D}(ho:VC X (binaryOp op) o)(ha:EV X a fa)(hb:EV X b fb):EV X (.BinOp a op b pos) (f2 o fa fb):=PE.imp (Zxc ho ha hb) fun _ _ _ h=>Zcd (fun _ _ _ _ z=>z) h
theorem Ww{op:CmpOp}{o:D->D->Option D}(ho:VC X (compareOp op) o)(ha:EV X a fa)(hb:EV X b fb)(hm:behindInMarks op b=false:=by first|exact Zri _|with_unfolding_all rfl):EV X (.Compare a [op] [b] pos) (f2 o fa fb) :=
 PE.imp (Zu7 ho ha hb hm) fun _ _ _ h=>Zcd (fun _ _ _ _ z=>z) h
theorem ZC{op:CmpOp}{o:D->D->Option D}(ho:VC X (compareOp op) o)(ha:EV X a fa)(hb:EV X b fb)(hm:behindInMarks op b=false:=by first|exact Zri _|with_unfolding_all rfl):TV X (.Compare a [op] [b] pos) (gB (f2 o fa fb)) :=
 PT.imp (Zuv ho ha hb hm) fun σ H Q ⟨O,ρ,k,rv,e,q⟩=>by
  obtain⟨x,e1,e⟩:=bind_some e
  refine Zcd (fun _ _ _ _ z=>z) ⟨O,ρ,x,rv,e1,fun v H' s r=>?_⟩
  cases x with
  |bl z=>cases e;exact⟨_,r,q H' s⟩
  |_=>cases e
def V4(o o':D->D->Option D)(fa fb fc:FE):FE:=fun ρ=>(fa ρ).bind fun x=>(fb ρ).bind fun y=>(o x y).bind fun r=>match r with|.bl true=>(fc ρ).bind fun z=>o' y z|.bl false=>some (.bl false)|_=>none
theorem Zs2{op op':CmpOp}{o o':D->D->Option D}{fc:FE}(ho:VC X (compareOp op) o)(ho':VC X (compareOp op') o')(ha:EV X a fa)(hb:EV X b fb)(hc:EV X c fc)
  (hm:lastMarks [op,op'] [b,c]=false:=by with_unfolding_all rfl) :
  EV X (.Compare a [op,op'] [b,c] pos) (V4 o o' fa fb fc) :=
 PE.imp (Zq7 ho ho' ha hb hc hm) fun σ H Q ⟨O,ρ,d,rv,e,q⟩=>by
  obtain⟨x,e1,e⟩:=bind_some e
  obtain⟨y,e2,e⟩:=bind_some e
  obtain⟨r,e3,e⟩:=bind_some e
  refine⟨O,ρ,x,rv,e1,fun v H1 s1 r1=>?_⟩
  have rv1:=rv.mono s1
  refine⟨O,ρ,y,rv1,e2,fun u H2 s2 r2=>?_⟩
  have rv2:=rv1.mono s2
  refine⟨O,x,y,r,rv2.th,YJ.mono (ZA s2) x v r1,r2,e3,fun w H3 s3 r3=>?_⟩
  cases r with
  |bl k =>
   have:w=.bl k:=r3
   subst this
   refine⟨k,rfl,?_⟩
   cases k with
   |true =>
    rw[if_pos rfl]
    obtain⟨z,e4,e⟩:=bind_some e
    have rv3:=rv2.mono s3
    refine⟨O,ρ,z,rv3,e4,fun w' H4 s4 r4=>⟨O,y,z,d,rv3.th.mono s4,YJ.mono (ZA (Zf.trans s3 s4)) y u r2,r4,e,fun w2 H5 s5 r5=>q w2 H5 (Zf.trans (Zf.trans (Zf.trans (Zf.trans s1 s2) s3) s4) s5) r5⟩⟩
   |false =>
    rw[if_neg Qv]
    cases e
    exact q _ H3 (Zf.trans (Zf.trans s1 s2) s3) rfl
  |_=>cases e
theorem Zgs{op}(h:EV X a fa):EV X (.BoolOp op [a] pos) fa:=Zyz h
theorem Zgv{Z0:List Expr}(ha:EV X a fa)(hb:EV X (.BoolOp .And (b::Z0) pos) fb):EV X (.BoolOp .And (a::b::Z0) pos) (Zos fa fb):=PE.imp (Zy2 ha hb) fun σ H Q ⟨O,ρ,d,rv,e,q⟩=>by
 obtain⟨x,e1,e⟩:=bind_some e
 refine⟨O,ρ,x,rv,e1,fun v H1 s1 r1=>?_⟩
 cases x with
 |bl k =>
  have:v=.bl k:=r1
  subst this
  refine⟨k,rfl,?_⟩
  cases k with
  |true=>rw[if_pos rfl];exact⟨O,ρ,d,rv.mono s1,e,fun w H2 s2 r2=>q w H2 (Zf.trans s1 s2) r2⟩
  |false=>rw[if_neg Qv];cases e;exact q _ H1 s1 rfl
 |_=>cases e
theorem Z0s(ha:EV X a fa):EV X (.UnaryOp .Not a pos) (Z0r fa):=PE.imp (Zy0 ha) fun σ H Q ⟨O,ρ,d,rv,e,q⟩=>by
 obtain⟨x,e1,e⟩:=bind_some e
 refine⟨O,ρ,x,rv,e1,fun v H1 s1 r1=>?_⟩
 cases x with
 |bl k =>
  have:v=.bl k:=r1
  subst this
  cases e
  exact⟨k,rfl,q _ H1 s1 rfl⟩
 |_=>cases e
theorem Zi7{c:Expr}{gc:FT}(hc:TV X c gc)(ha:EV X a fa)(hb:EV X b fb):EV X (.IfExp c a b pos) (Zxr gc fa fb):=PE.imp (Zif hc ha hb) fun σ H Q ⟨O,ρ,d,rv,e,q⟩=>by
 obtain⟨k,e1,e⟩:=bind_some e
 refine⟨O,ρ,k,rv,e1,fun H1 s1=>?_⟩
 cases k with
 |true=>rw[if_pos rfl]at e ⊢;exact⟨O,ρ,d,rv.mono s1,e,fun w H2 s2 r2=>q w H2 (Zf.trans s1 s2) r2⟩
 |false=>rw[if_neg Qv]at e ⊢;exact⟨O,ρ,d,rv.mono s1,e,fun w H2 s2 r2=>q w H2 (Zf.trans s1 s2) r2⟩
def WV(X:Cx)(e:Expr)(f:FT):Prop:=PW X e (tT X.K f)
theorem PW.imp{e:Expr}{t t':TT}(h:PW X e t)(k:∀σ H Q,t' σ H Q->t σ H Q):PW X e t':=fun wh pins s σ H Q I hw=>h wh pins s σ H Q I (k σ H Q hw)
theorem WV.tv{e:Expr}{f:FT}(h:WV X e f):TV X e f:=PW.pt h
variable{ga gb:FT}{Z0:List Expr}
theorem Zbn(ha:TV X a ga):WV X (.BoolOp .And [a] pos) ga:=Zus ha
theorem Xs(ha:TV X a ga):WV X (.BoolOp .Or [a] pos) ga:=Zyr ha
theorem Zfn(ha:TV X a ga)(hb:WV X (.BoolOp .And (b::Z0) pos) gb):WV X (.BoolOp .And (a::b::Z0) pos) (Zgq ga gb):=PW.imp (Zys ha hb) fun σ H Q ⟨O,ρ,d,rv,e,q⟩=>by
 obtain⟨k,e1,e⟩:=bind_some e
 refine⟨O,ρ,k,rv,e1,fun H1 s1=>?_⟩
 cases k with
 |true=>rw[if_pos rfl]at e ⊢;exact⟨O,ρ,d,rv.mono s1,e,fun H2 s2=>q H2 (Zf.trans s1 s2)⟩
 |false=>rw[if_neg Qv]at e ⊢;cases e;exact q H1 s1
theorem Xm(ha:TV X a ga)(hb:WV X (.BoolOp .Or (b::Z0) pos) gb):WV X (.BoolOp .Or (a::b::Z0) pos) (WZ ga gb):=PW.imp (pw_or ha hb) fun σ H Q ⟨O,ρ,d,rv,e,q⟩=>by
 obtain⟨k,e1,e⟩:=bind_some e
 refine⟨O,ρ,k,rv,e1,fun H1 s1=>?_⟩
 cases k with
 |false=>rw[if_neg Qv]at e ⊢;exact⟨O,ρ,d,rv.mono s1,e,fun H2 s2=>q H2 (Zf.trans s1 s2)⟩
 |true=>rw[if_pos rfl]at e ⊢;cases e;exact q H1 s1
theorem Xf(ha:TV X a ga):TV X (.UnaryOp .Not a pos) (WG ga):=PT.imp (Zyt ha) fun σ H Q ⟨O,ρ,d,rv,e,q⟩=>by
 obtain⟨k,e1,e⟩:=bind_some e
 cases e
 exact⟨O,ρ,k,rv,e1,fun H1 s1=>q H1 s1⟩
theorem Zyb{H:Hp}{d:D}{v:V}{k:Bool}{O:List Addr}(r:YJ X.K (mask O H) d v)(e:Zyd d=some k):Z1d X.K v H k:=by
 cases d with
 |non=>cases e;rw[show v=_ from r];rfl
 |bl b=>cases e;rw[show v=_ from r];rfl
 |int i=>cases e;rw[show v=_ from r];rfl
 |str x=>cases e
 |tup ds =>
  obtain⟨a,vs,rfl,h,r⟩:=r
  cases e
  refine .inr (.inl ⟨vs,Wq.of (Zi _ _ h),?_⟩)
  have:=r.length
  cases ds<;>cases vs<;>first|rfl|simp at this
 |lst ds =>
  obtain⟨a,vs,rfl,h,r⟩:=r
  cases e
  refine .inl ⟨vs,WH.of (Zi _ _ h),?_⟩
  have:=r.length
  cases ds<;>cases vs<;>first|rfl|simp at this
 |scr ns=>cases e
 |dcK ks ds=>cases e
 |dcT ks ds=>cases e
 |dcF ks ds=>cases e
theorem Xn(ha:EV X a fa)(he:∀VO,isTrue a X.env VO=(do let v <- VO;standAt a.pos;holding [v] (truthy v)):=by intro _;rfl):TV X a (WY fa):=PT.imp (Zia ha he) fun σ H Q ⟨O,ρ,k,rv,e,q⟩=>by
 obtain⟨x,e1,e⟩:=bind_some e
 exact⟨O,ρ,x,rv,e1,fun v H1 s1 r1=>⟨k,Zyb r1 e,q H1 s1⟩⟩
theorem Zd:AV X [] fN:=PA.imp Xh fun σ H Q ⟨O,ρ,ds,rv,e,q⟩=>by cases e;exact q [] H (Zf.refl _) rfl
theorem Zc{es:List Expr}{fr:FA}(ha:EV X a fa)(hr:AV X es fr)(hs:starEach (a::es) X.env=(false,eval a X.env)::starEach es X.env:=by rfl):AV X (a::es) (Za fa fr) :=
 PA.imp (Ym ha hr hs) fun σ H Q ⟨O,ρ,ds,rv,e,q⟩=>by
  obtain⟨x,e1,e⟩:=bind_some e
  obtain⟨xs,e2,e⟩:=bind_some e
  cases e
  refine⟨O,ρ,x,rv,e1,fun v H1 s1 r1=>⟨O,ρ,xs,rv.mono s1,e2,fun vs H2 s2 r2=>q (v::vs) H2 (Zf.trans s1 s2) ⟨v,vs,rfl,YJ.mono (ZA s2) x v r1,r2⟩⟩⟩
def ZN:Nat:=65536
theorem Z5{n:Nat}(h:n<=ZN):n<=sizeLine:=by
 have:sizeLine=16777216:=QK
 unfold ZN at h
 omega
def Y4(ds:List D):Option D:=if ds.length<=ZN then some (.tup ds) else none
def XH(ds:List D):Option D:=if ds.length<=ZN then some (.lst ds) else none
theorem Zku{ds:List D}{d:D}(h:Y4 ds=some d):d=.tup ds/\ds.length<=sizeLine:=by
 unfold Y4 at h
 split at h
 ·rename_i hl;cases h;exact⟨rfl,Z5 hl⟩
 ·cases h
theorem Zkv{ds:List D}{d:D}(h:XH ds=some d):d=.lst ds/\ds.length<=sizeLine:=by
 unfold XH at h
 split at h
 ·rename_i hl;cases h;exact⟨rfl,Z5 hl⟩
 ·cases h
theorem Xg{K:PySem.W.Frag}{O:List Addr}{H:Hp}{p:Addr}{ds:List D}{vs:List V}(th:YG O H)(hp:H p=none)(r:Zr K (mask O H) ds vs):YJ K (mask O (Y1 H p (.tup vs))) (.tup ds) (.ref p) :=
 ⟨p,vs,rfl,(by rw[ZF (th.fresh hp),Yc]),Zr.mono (ZA (Zf.new hp)) ds vs r⟩
theorem Yj{K:PySem.W.Frag}{O:List Addr}{H:Hp}{p:Addr}{ds:List D}{vs:List V}(th:YG O H)(hp:H p=none)(r:Zr K (mask O H) ds vs):YJ K (mask O (Y1 H p (.lst vs))) (.lst ds) (.ref p) :=
 ⟨p,vs,rfl,(by rw[ZF (th.fresh hp),Yc]),Zr.mono (ZA (Zf.new hp)) ds vs r⟩
theorem Wd{es:List Expr}{f:FA}{x1}(h:AV X es f):EV X (.Tuple es x1 pos) (fL Y4 f):=PE.imp (Zq0 h) fun σ H Q ⟨O,ρ,d,rv,e,q⟩=>by
 obtain⟨ds,e1,e⟩:=bind_some e
 obtain⟨rfl,hl⟩:=Zku e
 refine⟨O,ρ,ds,rv,e1,fun vs H1 s1 r1=>⟨by rw[r1.length];exact hl,fun p hp=>q _ _ (Zf.trans s1 (Zf.new hp)) (Xg (rv.th.mono s1) hp r1)⟩⟩
theorem Vw{es:List Expr}{f:FA}(h:AV X es f):EV X (.List es pos) (fL XH f):=PE.imp (Zq2 h) fun σ H Q ⟨O,ρ,d,rv,e,q⟩=>by
 obtain⟨ds,e1,e⟩:=bind_some e
 obtain⟨rfl,hl⟩:=Zkv e
 refine⟨O,ρ,ds,rv,e1,fun vs H1 s1 r1=>⟨by rw[r1.length];exact hl,fun p hp=>q _ _ (Zf.trans s1 (Zf.new hp)) (Yj (rv.th.mono s1) hp r1)⟩⟩
def spD(K:PySem.W.Frag)(G:List D->Option D):Sp:=fun vs H Q _=>∃O ds d,YG O H/\Zr K (mask O H) ds vs/\G ds=some d/\∀v H',Zf H H'->YJ K (mask O H') d v->Q v H'
theorem Zv6{k:Nat}{f:Addr}{fd:FuncData}{ps:List Str}{G:List D->Option D}{x:Str}{p:Pos}{e:Expr}{es:List Expr}{fa:FA}(F:Vj X.prog X.w X.K X.mg X.base Zpf k f fd ps (spD X.K G))(hr:XD k X.A)
  (hm:X.mg x=some (.ref f)) (hk:PySem.W.keepIn X.K (.ref f)=true) (hb:Zbe X.K fd ps []) (ha:AV X (e::es) fa)
  (hg:Gl X x:=by rfl) (hdb:(x == ("__debug__":Str))=false:=by decide) (he:starEach (e::es) X.env=(false,eval e X.env)::starEach es X.env:=by rfl) (hpl:(backTo pos (starEach es X.env)).any (·.1)=false:=by rfl) :
  EV X (.Call (.Name x p) (e::es) [] pos) (fL G fa):=PE.imp (Zf5 (dvs:=[]) F hr hg hm hk hb .nil pass0 ha hdb he hpl) fun σ H Q ⟨O,ρ,d,rv,e1,q⟩=>by
 obtain⟨ds,e2,e1⟩:=bind_some e1
 refine⟨O,ρ,ds,rv,e2,fun vs H1 s1 r1=>?_⟩
 show spD X.K G (vs++[]) H1 Q E0
 rw[Q9]
 exact⟨O,ds,d,rv.th.mono s1,r1,e1,fun v H2 s2 r2=>q v H2 (Zf.trans s1 s2) r2⟩
def rDs(K:PySem.W.Frag)(o:List D->Option D):List V->Hp->VK->Prop:=fun xs H Q=>∃O ds d,YG O H/\Zr K (mask O H) ds xs/\o ds=some d/\∀v H',Zf H H'->YJ K (mask O H') d v->Q v H'
def YY(X:Cx)(f:Value)(o:List D->Option D):Prop:=Xd X f (rDs X.K o)
theorem YY.of{f:Value}{o:List D->Option D}{r:List V->Hp->VK->Prop}(h:Xd X f r)(k:∀xs H Q,rDs X.K o xs H Q->r xs H Q):YY X f o:=fun pins s σ H xs us Q I rs q=>h pins s σ H xs us Q I rs (k xs H Q q)
theorem Ye{id:String}{o:List D->Option D}{x:Str}{p:Pos}{e:Expr}{es:List Expr}{fa:FA}(hc:YY X (.builtin id) o)(hm:X.mg x=none)(hv:bootBuiltins x=some (.builtin id))(ha:AV X (e::es) fa)
  (hg:Gl X x:=by rfl) (hn:x≠"__name__":=by decide) (hdb:(x == ("__debug__":Str))=false:=by decide)
  (he:starEach (e::es) X.env=(false,eval e X.env)::starEach es X.env:=by rfl) (hpl:(backTo pos (starEach es X.env)).any (·.1)=false:=by rfl):EV X (.Call (.Name x p) (e::es) [] pos) (fL o fa) :=
 PE.imp (VU hc hg hm hv ha hn hdb he hpl) fun σ H Q ⟨O,ρ,d,rv,e1,q⟩=>by
  obtain⟨ds,e2,e1⟩:=bind_some e1
  exact⟨O,ρ,ds,rv,e2,fun vs H1 s1 r1=>⟨O,ds,d,rv.th.mono s1,r1,e1,fun v H2 s2 r2=>q v H2 (Zf.trans s1 s2) r2⟩⟩
theorem ZQ{T:String}{o:List D->Option D}{x:Str}{p:Pos}{e:Expr}{es:List Expr}{fa:FA}(hc:YY X (.type T) o)(hm:X.mg x=none)(hv:bootBuiltins x=some (.type T))(ha:AV X (e::es) fa)
  (hg:Gl X x:=by rfl) (hn:x≠"__name__":=by decide) (hdb:(x == ("__debug__":Str))=false:=by decide)
  (he:starEach (e::es) X.env=(false,eval e X.env)::starEach es X.env:=by rfl) (hpl:(backTo pos (starEach es X.env)).any (·.1)=false:=by rfl):EV X (.Call (.Name x p) (e::es) [] pos) (fL o fa) :=
 PE.imp (Vc hc hg hm hv ha hn hdb he hpl) fun σ H Q ⟨O,ρ,d,rv,e1,q⟩=>by
  obtain⟨ds,e2,e1⟩:=bind_some e1
  exact⟨O,ρ,ds,rv,e2,fun vs H1 s1 r1=>⟨O,ds,d,rv.th.mono s1,r1,e1,fun v H2 s2 r2=>q v H2 (Zf.trans s1 s2) r2⟩⟩
end
abbrev FG:=D->Option (List (Nat×D))
def Zeb(σ:St):List (Nat×D)->List V->St
 |w::ws,v::vs=>Zeb (σ.set w.1 (some v)) ws vs
 |_,_=>σ
def WF(ρ:Xl):List (Nat×D)->Xl
 |w::ws=>WF (ρ.set w.1 (some w.2)) ws
 |[]=>ρ
def Zbf(ρ:XR):List (Nat×D)->XR
 |w::ws=>Zbf (ρ.set w.1 (some (.val w.2))) ws
 |[]=>ρ
def tG(K:PySem.W.Frag)(t:FG):TG:=fun v σ H Q=>∃O d ws,YG O H/\YJ K (mask O H) d v/\t d=some ws/\∀vs,Zr K (mask O H) (ws.map (·.2)) vs->Q (Zeb σ ws vs) H
def GV(X:Cx)(tg:Expr)(t:FG):Prop:=PG X tg (tG X.K t)
theorem PG.imp{X:Cx}{e:Expr}{t t':TG}(h:PG X e t)(k:∀v σ H Q,t' v σ H Q->t v σ H Q):PG X e t':=fun pins s σ H v u Q I r hw=>h pins s σ H v u Q I r (k v σ H Q hw)
def gN(i:Nat):FG:=fun d=>some [(i,d)]
def gT(ix:List Nat):FG:=fun d=>match d with
 |.tup ds=>if ds.length=ix.length then some (ix.zip ds) else none
 |_=>none
def Zld:List Nat->Zx1
 |[]=>gNil
 |i::ix=>Zxp (Zi3 i) (Zld ix)
section
variable{X:Cx}{pos:Pos}
theorem Yn{i:Nat}{x:Str}(hN:X.N.Nodup)(hi:X.N[i]?=some x:=by rfl)(hx:Zpc X.env.scope x:=by first|exact Or.inl rfl|exact Or.inr rfl)(hf:X.fn x=true\/X.env.scope.names.lookup x=some .local:=by first|exact .inl rfl|exact .inr rfl):GV X (.Name x pos) (gN i) :=
 PG.imp (Zme hN hi hx hf) fun v σ H Q ⟨O,d,ws,th,r,e,q⟩=>by
  cases e
  exact q [v] (Zr.one r)
theorem Ze8:∀(ix:List Nat) (ds:List D) (vs:List V) {K:PySem.W.Frag} {H:Hp} (σ:St) (H':Hp) (Q:St->Hp->Prop),ds.length=ix.length->Zr K H ds vs->Q (Zeb σ (ix.zip ds) vs) H'->Zld ix vs σ H' Q
 |[],[],_,_,_,σ,H',Q,_,r,q=>by
  have:_=[]:=r
  subst this
  exact⟨rfl,q⟩
 |i::ix,d::ds,_,_,_,σ,H',Q,hl,⟨v,vr,e,_,t⟩,q=>by
  subst e
  exact⟨v,vr,rfl,Ze8 ix ds vr _ H' Q (by simpa using hl) t q⟩
 |[],_::_,_,_,_,_,_,_,hl,_,_=>by simp at hl
 |_::_,[],_,_,_,_,_,_,hl,_,_=>by simp at hl
theorem Zlx{α β:Type}:∀(xs:List α) (ys:List β),ys.length=xs.length->(xs.zip ys).map (·.2)=ys
 |[],[],_=>rfl
 |_::xs,y::ys,h=>by rw[Jt,Qh,Zlx xs ys (by simpa using h)]
 |[],_::_,h=>by simp at h
 |_::_,[],h=>by simp at h
theorem Zdb{es:List Expr}{k:Nat}{ix:List Nat}(hc:X.calm=true)(h:PGs X es (Zld ix))(hn:(assignEach es X.env).length=ix.length:=by rfl)(hst:(assignEach es X.env).findIdx? (·.1)=none:=by rfl):GV X (.Tuple es k pos) (gT ix) :=
 PG.imp (Zyx hc h hn hst) fun v σ H Q ⟨O,d,ws,th,r,e,q⟩=>by
  cases d with
  |tup ds =>
   have e:(if ds.length=ix.length then some (ix.zip ds) else none)=some ws:=e
   split at e
   ·rename_i hl
    cases e
    obtain⟨a,vs,rfl,ht,rs⟩:=r
    refine⟨a,vs,rfl,Wq.of (Zi _ _ ht),by rw[rs.length];exact hl,Ze8 ix ds vs σ H Q hl rs (q vs ?_)⟩
    rw[Zlx ix ds hl];exact rs
   ·cases e
  |_=>cases e
end
def Z1b(K:PySem.W.Frag)(O:List Addr)(Hb:Hp)(J:It)(ds:List D):Prop:=∀H O',Zf (mask O Hb) (mask O' H)->YG O' H->∀i,
 (∀d,ds[i]?=some d->J.go i H/\∀x H',J.yld i H x H'->Zf H H'/\YJ K (mask O' H') d x)/\(ds.length<=i->J.stop i H)
def Zx0(K:PySem.W.Frag)(J:It)(ds:List D):Prop:=∀H O',YG O' H->∀i,
 (∀d,ds[i]?=some d->J.go i H/\∀x H',J.yld i H x H'->Zf H H'/\YJ K (mask O' H') d x)/\(ds.length<=i->J.stop i H)
def tI(K:PySem.W.Frag)(f:FA):TI:=fun σ H R=>∃O ρ ds,RV K O H ρ σ/\f ρ=some ds/\∀J H',Zf H H'->Z1b K O H' J ds->R J H'
def tIA(K:PySem.W.Frag)(f:FA):TI:=fun σ H R=>∃O ρ ds,RV K O H ρ σ/\f ρ=some ds/\∀J H',Zf H H'->Zx0 K J ds->R J H'
def IV(X:Cx)(tg e:Expr)(f:FA):Prop:=PI X tg e (tI X.K f)
def Z1i(X:Cx)(tg e:Expr)(f:FA):Prop:=PI X tg e (tIA X.K f)
theorem PI.imp{X:Cx}{tg e:Expr}{t t':TI}(h:PI X tg e t)(k:∀σ H R,t' σ H R->t σ H R):PI X tg e t':=fun pins s σ H R I hw=>h pins s σ H R I (k σ H R hw)
theorem PI.or{X:Cx}{tg e:Expr}{t t':TI}(h:PI X tg e t)(h':PI X tg e t'):PI X tg e (fun σ H R=>t σ H R\/t' σ H R):=fun pins s σ H R I hw=>hw.elim (h pins s σ H R I) (h' pins s σ H R I)
theorem Z1i.iv{X:Cx}{tg e:Expr}{f:FA}(h:Z1i X tg e f):IV X tg e f:=PI.imp h fun σ H R ⟨O,ρ,ds,rv,e,q⟩=>⟨O,ρ,ds,rv,e,fun J H' s w=>q J H' s fun H2 O' _ th i=>w H2 O' th i⟩
def UO:D->Option (List D)
 |.lst ds=>some ds
 |.tup ds=>some ds
 |.scr ns=>some (ns.map .int)
 |_=>none
def ZE(a:FE):FA:=fun ρ=>(a ρ).bind UO
section
variable{X:Cx}{tg e:Expr}
theorem Zpp{K:PySem.W.Frag}{O:List Addr}{H:Hp}{a:Addr}{ds:List D}{vs:List V}(h:Wq K (mask O H) a vs)(r:Zr K (mask O H) ds vs):Z1b K O H (Itt K a) ds:=by
 intro H2 O' s th i
 have h2:Wq K H2 a vs:=Zf.seqT Zi (Zf.seqT s h)
 refine⟨fun d e=>?_,fun hl=>⟨vs,h2,by rw[r.length];exact hl⟩⟩
 obtain⟨v,e1,e2⟩:=r.get e
 refine⟨⟨vs,v,h2,e1⟩,fun x H3 ⟨eh,q⟩=>?_⟩
 subst eh
 have:=q vs h2
 rw[e1]at this
 cases this
 exact⟨(Zf.refl _),YJ.mono s d _ e2⟩
theorem Zht{K:PySem.W.Frag}{O:List Addr}{H:Hp}{a:Addr}{ds:List D}{vs:List V}(h:WH K (mask O H) a vs)(r:Zr K (mask O H) ds vs):Z1b K O H (Itl K a) ds:=by
 intro H2 O' s th i
 have h2:WH K H2 a vs:=Zf.seq Zi (Zf.seq s h)
 refine⟨fun d e=>?_,fun hl=>⟨vs,h2,by rw[r.length];exact hl⟩⟩
 obtain⟨v,e1,e2⟩:=r.get e
 refine⟨⟨vs,v,h2,e1⟩,fun x H3 ⟨eh,q⟩=>?_⟩
 subst eh
 have:=q vs h2
 rw[e1]at this
 cases this
 exact⟨(Zf.refl _),YJ.mono s d _ e2⟩
theorem Xo{fa:FE}(h:EV X e fa):IV X tg e (ZE fa):=PI.imp (PI.or (Zu3 (tg:=tg) h) (Zyw (tg:=tg) h)) fun σ H R ⟨O,ρ,ds,rv,e,q⟩=>by
 obtain⟨x,e1,e2⟩:=bind_some e
 cases x with
 |lst es =>
  cases e2
  refine .inl ⟨O,ρ,_,rv,e1,fun v H1 s1 ⟨a,vs,ev,hv,r⟩=>⟨a,ev,⟨vs,WH.of (Zi _ _ hv)⟩,q _ H1 s1 (Zht (WH.of hv) r)⟩⟩
 |scr ns =>
  cases e2
  refine .inl ⟨O,ρ,_,rv,e1,fun v H1 s1 ⟨a,ev,hv⟩=>⟨a,ev,⟨_,Zf.seq Zi hv⟩,q _ H1 s1 (Zht hv (Um ns))⟩⟩
 |tup es =>
  cases e2
  refine .inr ⟨O,ρ,_,rv,e1,fun v H1 s1 ⟨a,vs,ev,hv,r⟩=>⟨a,ev,⟨vs,Wq.of (Zi _ _ hv)⟩,q _ H1 s1 (Zpp (Wq.of hv) r)⟩⟩
 |_=>cases e2
end
def VS(lo:Int)(n:Nat):List D:=(List.range n).map fun(k:Nat)=>D.int (lo+(k:Int))
noncomputable def Zak:List D->Option (List D)
 |[.int j]=>@ite _ (-(2^62)<=j/\j<2^62) (Classical.propDecidable _) (some (VS 0 j.toNat)) none
 |_=>none
noncomputable def Zkh:List D->Option (List D)
 |[.int i,.int j]=>@ite _ ((-(2^62)<=i/\i<2^62)/\-(2^62)<=j/\j<2^62) (Classical.propDecidable _) (some (VS i (j-i).toNat)) none
 |_=>none
def fR(r:List D->Option (List D))(a:FA):FA:=fun ρ=>(a ρ).bind r
theorem Zkk{lo:Int}{n i:Nat}{d:D}(h:(VS lo n)[i]?=some d):i<n/\d=.int (lo+(i:Int)):=by
 unfold VS at h
 rw[QC]at h
 by_cases hi:i<n
 ·rw[List.getElem?_range hi]at h
  exact⟨hi,by cases h;rfl⟩
 ·rw[QG (by simpa using hi)]at h
  cases h
theorem Zkj{lo:Int}{n:Nat}:(VS lo n).length=n:=by simp[VS]
theorem Zhs{K:PySem.W.Frag}{lo:Int}{n:Nat}:Zx0 K (Itr lo n) (VS lo n):=by
 intro H O' th i
 refine⟨fun d e=>?_,fun hl=>by rw[Zkj]at hl;exact hl⟩
 obtain⟨hi,rfl⟩:=Zkk e
 refine⟨hi,fun x H3 ⟨eh,q⟩=>?_⟩
 subst eh
 exact⟨(Zf.refl _),q⟩
section
variable{X:Cx}{tg a b:Expr}{p pos:Pos}{fa:FA}
theorem Uq(hm:X.mg "range"=none)(ha:AV X [a] fa)(hg:Gl X "range":=by rfl)(hs:starEach [a] X.env=[(false,eval a X.env)]:=by rfl):Z1i X tg (.Call (.Name "range" p) [a] [] pos) (fR Zak fa) :=
 PI.imp (Znv hg hm ha hs) fun σ H R ⟨O,ρ,ds,rv,e,q⟩=>by
  obtain⟨xs,e1,e2⟩:=bind_some e
  refine⟨O,ρ,xs,rv,e1,fun vs H1 s1 r=>?_⟩
  unfold Zak at e2
  split at e2
  ·rename_i j
   split at e2
   ·rename_i hj
    cases e2
    obtain⟨v,vr,rfl,hv,ht⟩:=r
    have h1:v=.int j:=hv
    have h2:vr=[]:=ht
    subst h1;subst h2
    exact⟨j,rfl,hj.1,hj.2,q _ H1 s1 Zhs⟩
   ·cases e2
  ·cases e2
theorem Zoi(hm:X.mg "range"=none)(ha:AV X [a,b] fa)(hg:Gl X "range":=by rfl)(hs:starEach [a,b] X.env=[(false,eval a X.env),(false,eval b X.env)]:=by rfl)(hs2:starEach [b] X.env=[(false,eval b X.env)]:=by rfl) :
  Z1i X tg (.Call (.Name "range" p) [a,b] [] pos) (fR Zkh fa) :=
 PI.imp (Znu hg hm ha hs hs2) fun σ H R ⟨O,ρ,ds,rv,e,q⟩=>by
  obtain⟨xs,e1,e2⟩:=bind_some e
  refine⟨O,ρ,xs,rv,e1,fun vs H1 s1 r=>?_⟩
  unfold Zkh at e2
  split at e2
  ·rename_i i j
   split at e2
   ·rename_i hj
    cases e2
    obtain⟨v,vr,rfl,hv,w,wr,rfl,hw,ht⟩:=r
    have h1:v=.int i:=hv
    have h2:w=.int j:=hw
    have h3:wr=[]:=ht
    subst h1;subst h2;subst h3
    exact⟨i,j,rfl,⟨hj.1.1,hj.1.2,hj.2.1,hj.2.2⟩,q _ H1 s1 Zhs⟩
   ·cases e2
  ·cases e2
end
def Zae(t:FG)(gt:FT)(fe:FE)(ρ:Xl):List D->Option (List D)
 |[]=>some []
 |d::ds=>(t d).bind fun ws=>(gt (WF ρ ws)).bind fun k=>if k=true then(fe (WF ρ ws)).bind fun y=>(Zae t gt fe ρ ds).bind fun ys=>some (y::ys) else Zae t gt fe ρ ds
def env0(n:Nat)(ix:List Nat)(ρ:Xl):Xl:=List.replicate n none++ix.map fun i=>(ρ[i]?).getD none
def Z7(n:Nat)(ix:List Nat)(fi:FA)(t:FG)(gt:FT)(fe:FE):FE:=fun ρ=>(fi ρ).bind fun ds=>if ds.length<=ZN then(Zae t gt fe (env0 n ix ρ) ds).bind fun ys=>some (.lst ys) else none
def Y5:FT:=fun _=>some true
def TVs(X:Cx)(ifs:List Expr)(g:FT):Prop:=Zx2 X ifs (tT X.K g)
theorem YH{X:Cx}:TVs X [] Y5:=fun pins s σ H Q I ⟨O,ρ,b,rv,e,q⟩=>by
 cases e
 exact Zma pins s σ H Q I (q H (Zf.refl _))
theorem Zdd{α:Type}{l:List (Option α)}{i:Nat}{x y:α}(h:(l.set i (some x))[i]?=some (some y)):x=y:=by
 rw[List.getElem?_set]at h
 split at h
 ·split at h
  ·cases h;rfl
  ·cases h
 ·rename_i hn;exact absurd rfl hn
theorem Zdc{α:Type}{l:List (Option α)}{i j:Nat}{x y:α}(hn:i≠j)(h:(l.set i (some x))[j]?=some (some y)):l[j]?=some (some y):=by
 rwa[QD hn]at h
theorem RV.set1{K:PySem.W.Frag}{O:List Addr}{H:Hp}{ρ:Xl}{σ:St}{i:Nat}{d:D}{v:V}(r:RV K O H ρ σ)(hl:ρ.length=σ.length)(h:YJ K (mask O H) d v):RV K O H (ρ.set i (some d)) (σ.set i (some v)) :=
 ⟨r.th,fun j e q=>by
  by_cases hj:i=j
  ·subst hj
   have hi:i<ρ.length:=by
    have:=(Qj.mp q).1
    simpa using this
   have:=Zdd q
   subst this
   exact⟨v,by rw[Q4 (by omega)],h⟩
  ·obtain⟨w,h1,h2⟩:=r.at_ j e (Zdc hj q)
   exact⟨w,by rw[QD hj];exact h1,h2⟩⟩
theorem RV.sets{K:PySem.W.Frag}{O:List Addr}{H:Hp}:∀(ws:List (Nat×D)) (vs:List V) {ρ:Xl} {σ:St},RV K O H ρ σ->ρ.length=σ.length->Zr K (mask O H) (ws.map (·.2)) vs->RV K O H (WF ρ ws) (Zeb σ ws vs)/\(WF ρ ws).length=(Zeb σ ws vs).length
 |[],_,_,_,r,hl,_=>⟨r,hl⟩
 |w::ws,_,ρ,σ,r,hl,⟨v,vr,e,h,t⟩=>by
  subst e
  exact RV.sets ws vr (r.set1 hl h) (by simpa using hl) t
theorem Zm2{K:PySem.W.Frag}{O:List Addr}{H:Hp}{n:Nat}{ix:List Nat}{ρ:Xl}{σ:St}(r:RV K O H ρ σ):RV K O H (env0 n ix ρ) (Zw6 n ix σ):=⟨r.th,fun i d e=>by
 unfold env0 at e
 by_cases hi:i<n
 ·rw[QH (by simpa using hi),Ja]at e
  split at e<;>cases e
 ·rw[Jb (by simpa using hi),QC]at e
  simp only[List.length_replicate]at e
  cases q:ix[i-n]? with
  |none=>rw[q]at e;cases e
  |some k =>
   rw[q]at e
   simp only[Td]at e
   have e':ρ[k]?=some (some d):=by
    cases w:ρ[k]? with
    |none=>rw[w]at e;cases e
    |some o=>rw[w]at e;simpa using e
   obtain⟨v,h1,h2⟩:=r.at_ k d e'
   refine⟨v,?_,h2⟩
   unfold Zw6
   rw[Jb (by simpa using hi),QC]
   simp only[List.length_replicate,q,Td]
   rw[h1];rfl⟩
theorem RV.weak{K:PySem.W.Frag}{O:List Addr}{H:Hp}{ρ ρ':Xl}{σ:St}(r:RV K O H ρ σ)(h:∀(i:Nat) (d:D),ρ'[i]?=some (some d)->ρ[i]?=some (some d)):RV K O H ρ' σ:=⟨r.th,fun i d e=>r.at_ i d (h i d e)⟩
theorem Zck:∀(ws:List (Nat×D)) {n:Nat} {ρ:Xl},(∀w∈ws,w.1<n)->∀(i:Nat),n<=i->(WF ρ ws)[i]?=ρ[i]?
 |[],_,_,_,_,_=>rfl
 |w::ws,n,ρ,h,i,hi=>by
  unfold WF
  rw[Zck ws (fun z hz=>h z (Qe _ hz)) i hi,QD]
  have:=h w Qf
  omega
def Zlu(n:Nat)(t:FG):Prop:=∀d ws,t d=some ws->∀w∈ws,w.1<n
theorem X9{n i:Nat}(h:i<n):Zlu n (gN i):=fun d ws e w hw=>by
 cases e
 have:w=(i,d):=by simpa using hw
 subst this;exact h
theorem Zxo{n:Nat}{ix:List Nat}(h:ix.all (·<n)=true):Zlu n (gT ix):=fun d ws e w hw=>by
 cases d with
 |tup ds =>
  have e:(if ds.length=ix.length then some (ix.zip ds) else none)=some ws:=e
  split at e
  ·cases e
   have:=(List.of_mem_zip (show(w.1,w.2)∈_ from hw)).1
   simpa using Qs.mp h _ this
  ·cases e
 |_=>cases e
section
variable{X:Cx}
theorem Zdn{n:Nat}{ix:List Nat}{fi:FA}{t:FG}{gt:FT}{fe:FE}(hlen:∀{ρ:Xl},True)(hok:Zlu n t){σ:St}{H:Hp}{Q:VK}
  (h:∃O ρ ys,RV X.K O H ρ σ/\(∃ds,fi ρ=some ds/\ds.length<=ZN/\Zae t gt fe (env0 n ix ρ) ds=some ys)/\∀a vs H',Zf H H'->H' a=none->Zr X.K (mask O H') ys vs->Q (.ref a) (Y1 H' a (.lst vs))) :
  Zes n ix (tI X.K fi) (tG X.K t) (tT X.K gt) (tD X.K fe) σ H Q:=by
 obtain⟨O,ρ,ys,rv,⟨ds,e1,hlim,e2⟩,q⟩:=h
 refine⟨O,ρ,ds,rv,e1,fun J H1 s1 wk=>?_⟩
 refine⟨fun i m us σ' H'=>m=ds.length-i/\i<=ds.length/\us.length<=i/\Zf H1 H'/\σ'.length=n+ix.length/\RV X.K O H' (env0 n ix ρ) σ' /\
  ∃pre post,Zr X.K (mask O H') pre us/\Zae t gt fe (env0 n ix ρ) (ds.drop i)=some post/\ys=pre++post,
  ⟨ds.length,by simp,Q1 _,Qg _,(Zf.refl _),Zfy n ix σ,Zm2 (rv.mono s1),[],ys,rfl,by simpa using e2,rfl⟩,?_⟩
 rintro i m us σ' H' ⟨rfl,hi,hu,s2,hσ,rv',pre,pst,rp,ec,ey⟩
 have wk':=wk H' O (ZA s2) rv'.th i
 by_cases hlt:i<ds.length
 ·have hd:ds.drop i=ds[i]::ds.drop (i+1):=Jk hlt
  have hg:ds[i]?=some ds[i]:=Qn hlt
  obtain⟨go,yl⟩:=wk'.1 _ hg
  refine .inr ⟨go,?_,fun x H2 hy=>?_⟩
  ·have:=Z5 hlim;omega
  ·obtain⟨s3,rx⟩:=yl x H2 hy
   have rv3:=rv'.mono s3
   rw[hd]at ec
   unfold Zae at ec
   obtain⟨ws,et,ec⟩:=bind_some ec
   obtain⟨k,eg,ec⟩:=bind_some ec
   refine⟨O,_,ws,rv3.th,rx,et,fun vs rs=>?_⟩
   have hl0:(env0 n ix ρ).length=σ'.length:=by rw[hσ];simp[env0]
   obtain⟨rv4,hl4⟩:=RV.sets ws vs rv3 hl0 rs
   have hσ4:(Zeb σ' ws vs).length=n+ix.length:=by
    rw[<- hl4]
    have:∀(ws:List (Nat×D)) (r:Xl),(WF r ws).length=r.length:=by
     intro ws
     induction ws with
     |nil=>intro r;rfl
     |cons w ws ih=>intro r;unfold WF;rw[ih];simp
    rw[this,hl0,hσ]
   have back:∀{H5:Hp},Zf H2 H5->RV X.K O H5 (env0 n ix ρ) (Zeb σ' ws vs):=fun{H5} s5=>(rv4.mono s5).weak fun j d ej=>by
    by_cases hj:n<=j
    ·rw[Zck ws (hok _ ws et) j hj];exact ej
    ·exfalso
     unfold env0 at ej
     rw[QH (by simpa using hj),Ja]at ej
     split at ej<;>cases ej
   refine⟨O,_,k,rv4,eg,fun H4 s4=>?_⟩
   cases k with
   |false =>
    rw[if_neg Qv]at ec ⊢
    exact⟨_,by omega,rfl,hlt,by omega,Zf.trans s2 (Zf.trans s3 s4),hσ4,back s4,pre,pst,Zr.mono (ZA (Zf.trans s3 s4)) pre us rp,ec,ey⟩
   |true =>
    rw[if_pos rfl]at ec ⊢
    obtain⟨y,ef,ec⟩:=bind_some ec
    obtain⟨Z0,er,ec⟩:=bind_some ec
    cases ec
    refine⟨O,_,y,rv4.mono s4,ef,fun v H5 s5 r5=>?_⟩
    refine⟨_,by omega,rfl,hlt,?_,Zf.trans s2 (Zf.trans s3 (Zf.trans s4 s5)),hσ4,back (Zf.trans s4 s5),pre++[y],Z0,Zr.append (Zr.mono (ZA (Zf.trans s3 (Zf.trans s4 s5))) pre us rp) (Zr.one r5),er,by rw[ey];simp⟩
    simp;omega
 ·have e:i=ds.length:=by omega
  subst e
  refine .inl ⟨wk'.2 (Qg _),by have:=Z5 hlim;omega,fun l hl=>?_⟩
  rw[List.drop_length]at ec
  cases ec
  rw[Q9]at ey
  subst ey
  exact q l us H' (Zf.trans s1 s2) hl rp
theorem Zdg{n:Nat}{ix:List Nat}{fi:FA}{t:FG}{gt:FT}{fe:FE}{ρ:Xl}{d:D}(h:Z7 n ix fi t gt fe ρ=some d):∃ys,d=.lst ys/\∃ds,fi ρ=some ds/\ds.length<=ZN/\Zae t gt fe (env0 n ix ρ) ds=some ys:=by
 obtain⟨ds,e1,h⟩:=bind_some h
 split at h
 ·rename_i hl
  obtain⟨ys,e2,h⟩:=bind_some h
  cases h
  exact⟨ys,rfl,ds,e1,hl,e2⟩
 ·cases h
variable{scope:Scope}{elt tg iter:Expr}{ifs:List Expr}{pos:Pos}{fi:FA}{t:FG}{gt:FT}{fe:FE}
theorem Xc(N:List Str)(n:Nat)(ix:List Nat)(hok:Zlu n t)(hc:X.calm=true)(hi:IV X tg iter fi)
  (hg:∀cl C s H fp,GV (ZR X N scope cl C s H fp) tg t) (ht:∀cl C s H fp,TVs (ZR X N scope cl C s H fp) ifs gt) (he:∀cl C s H fp,EV (ZR X N scope cl C s H fp) elt fe)
  (hk:scope.kind=.function:=by rfl) (hcell:(scope.names.all fun y=>!(y.2 == .cell))=true:=by rfl) (hnames:(scope.names.all fun y=>!(y.2 == .local)||(scope.names.lookup y.1 == some .local))=true:=by rfl)
  (hNl:N.length=n+ix.length:=by rfl) (hout:Ux X.N N n scope X.env ix=true:=by rfl) (hfree:W0 scope X.env.cells=true:=by rfl) (hs:∀x,foldedSetIterable iter X.env x=pure x:=by intro _;rfl) :
  EV X (.ListComp elt [⟨tg,iter,ifs,0⟩] scope pos) (Z7 n ix fi t gt fe) :=
 PE.imp (Zmg (g:=tG X.K t) (tt:=tT X.K gt) (te:=tD X.K fe) N n ix hc hi hg ht he hk hcell hnames hNl hout hfree hs) fun σ H Q ⟨O,ρ,d,rv,e,q⟩=>by
  obtain⟨ys,rfl,hh⟩:=Zdg e
  exact Zdn (fun{_}=>trivial) hok ⟨O,ρ,ys,rv,hh,fun a vs H' s hn r=>q _ _ (Zf.trans s (Zf.new hn)) (Yj (rv.th.mono s) hn r)⟩
end
def V9(K:PySem.W.Frag)(O:List Addr)(H:Hp):D->Addr->Prop
 |.lst ds,a=>∃vs,H a=some (.lst vs)/\Zr K (mask O H) ds vs
 |.dcK ks ds,a=>∃kvs,H a=some (.dK kvs)/\kvs.map (·.1)=ks/\Zr K (mask O H) ds (kvs.map (·.2))
 |.dcT ks ds,a=>∃kvs,H a=some (.dT kvs)/\kvs.map (·.1)=ks/\Zr K (mask O H) ds (kvs.map (·.2))
 |_,_=>False
theorem V9.rep{K:PySem.W.Frag}{O O':List Addr}{H:Hp}{a:Addr}:∀{d:D},V9 K O H d a->(∀b∈O',b∈O)->a∉O'->YJ K (mask O' H) d (.ref a)
 |.lst ds,⟨vs,h,r⟩,hs,hn=>⟨a,vs,rfl,by rw[ZF hn];exact h,Zr.mono (fun b o e=>by
   by_cases hb:b∈O'
   ·rw[Yy (hs b hb)]at e;cases e
   ·rw[ZF hb];exact Zi _ _ e) ds vs r⟩
 |.dcK ks ds,⟨kvs,h,k,r⟩,hs,hn=>⟨a,kvs,rfl,by rw[ZF hn];exact h,k,Zr.mono (fun b o e=>by
   by_cases hb:b∈O'
   ·rw[Yy (hs b hb)]at e;cases e
   ·rw[ZF hb];exact Zi _ _ e) ds _ r⟩
 |.dcT ks ds,⟨kvs,h,k,r⟩,hs,hn=>⟨a,kvs,rfl,by rw[ZF hn];exact h,k,Zr.mono (fun b o e=>by
   by_cases hb:b∈O'
   ·rw[Yy (hs b hb)]at e;cases e
   ·rw[ZF hb];exact Zi _ _ e) ds _ r⟩
 |.non,h,_,_=>h.elim
 |.bl _,h,_,_=>h.elim
 |.int _,h,_,_=>h.elim
 |.str _,h,_,_=>h.elim
 |.tup _,h,_,_=>h.elim
 |.scr _,h,_,_=>h.elim
 |.dcF _ _,h,_,_=>h.elim
theorem V9.mono{K:PySem.W.Frag}{O O':List Addr}{H H':Hp}{a:Addr}(s:Zf (mask O H) (mask O' H'))(ha:∀o,H a=some o->H' a=some o):∀{d:D},V9 K O H d a->V9 K O' H' d a
 |.lst ds,⟨vs,h,r⟩=>⟨vs,ha _ h,Zr.mono s ds vs r⟩
 |.dcK ks ds,⟨kvs,h,k,r⟩=>⟨kvs,ha _ h,k,Zr.mono s ds _ r⟩
 |.dcT ks ds,⟨kvs,h,k,r⟩=>⟨kvs,ha _ h,k,Zr.mono s ds _ r⟩
 |.non,h=>h.elim
 |.bl _,h=>h.elim
 |.int _,h=>h.elim
 |.str _,h=>h.elim
 |.tup _,h=>h.elim
 |.scr _,h=>h.elim
 |.dcF _ _,h=>h.elim
structure RS(K:PySem.W.Frag)(B:Hp)(O0 O1:List Addr)(H:Hp)(ρ:XR)(σ:St):Prop where
 len:ρ.length=σ.length
 same:Zf B H
 thB:YG O0 B
 new:∀a∈O1,B a=none
 th:YG O1 H
 vals:∀(i:Nat) (d:D),ρ[i]?=some (some (.val d))->∃v,σ[i]?=some (some v)/\YJ K (mask (O0++O1) H) d v
 owns:∀(i:Nat) (d:D),ρ[i]?=some (some (.own d))->∃a,σ[i]?=some (some (.ref a))/\a∈O1/\V9 K (O0++O1) H d a
 apart:∀(i j:Nat) (d e:D) (a:Addr),ρ[i]?=some (some (.own d))->ρ[j]?=some (some (.own e))->σ[i]?=some (some (.ref a))->σ[j]?=some (some (.ref a))->i=j
section
variable{K:PySem.W.Frag}{B H H':Hp}{O0 O1:List Addr}{ρ:XR}{σ:St}
theorem YG.app{O O':List Addr}(h:YG O H)(h':YG O' H):YG (O++O') H:=fun a m=>(QE.mp m).elim (h a) (h' a)
theorem RS.th0(r:RS K B O0 O1 H ρ σ):YG O0 H:=r.thB.mono r.same
theorem RS.disj(r:RS K B O0 O1 H ρ σ){a:Addr}(h:a∈O1):a∉O0:=fun m=>by
 obtain⟨o,e,_⟩:=r.thB a m
 rw[r.new a h]at e;cases e
theorem RS.mono(r:RS K B O0 O1 H ρ σ)(s:Zf H H'):RS K B O0 O1 H' ρ σ :=
 ⟨r.len,Zf.trans r.same s,r.thB,r.new,r.th.mono s,fun i d e=>let⟨v,h1,h2⟩:=r.vals i d e;⟨v,h1,YJ.mono (ZA s) d v h2⟩,
  fun i d e=>let⟨a,h1,h2,h3⟩:=r.owns i d e;⟨a,h1,h2,h3.mono (ZA s) fun o q=>s _ _ q⟩,r.apart⟩
theorem map_get{α β:Type}{l:List α}{f:α->β}{i:Nat}{b:β}(h:(l.map f)[i]?=some b):∃a,l[i]?=some a/\f a=b:=by
 rw[QC]at h
 cases e:l[i]? with
 |none=>rw[e]at h;cases h
 |some a=>rw[e]at h;exact⟨a,rfl,Q7 h⟩
theorem RS.all(r:RS K B O0 O1 H ρ σ):RV K O0 H (YF ρ) σ:=⟨r.th0,fun i d e=>by
 obtain⟨c,e1,e2⟩:=map_get e
 cases c with
 |none=>cases e2
 |some c =>
  cases c with
  |val d' =>
   cases e2
   obtain⟨v,h1,h2⟩:=r.vals i d e1
   refine⟨v,h1,YJ.mono (fun b o q=>?_) d v h2⟩
   by_cases hb:b∈O0
   ·rw[Yy (Q3 _ hb)]at q;cases q
   ·rw[ZF hb];exact Zi _ _ q
  |own d' =>
   cases e2
   obtain⟨a,h1,h2,h3⟩:=r.owns i d e1
   exact⟨_,h1,h3.rep (fun b hb=>Q3 _ hb) (r.disj h2)⟩⟩
theorem RS.val(r:RS K B O0 O1 H ρ σ):RV K (O0++O1) H (Ws ρ) σ:=⟨YG.app r.th0 r.th,fun i d e=>by
 obtain⟨c,e1,e2⟩:=map_get e
 cases c with
 |none=>cases e2
 |some c =>
  cases c with
  |val d'=>cases e2;exact r.vals i d e1
  |own d'=>cases e2⟩
theorem Yd{l:XR}{i j:Nat}{x:Cl}{y:Cl}(h:(l.set i (some x))[j]?=some (some y)):(i=j/\x=y)\/(i≠j/\l[j]?=some (some y)):=by
 by_cases hj:i=j
 ·subst hj;exact .inl ⟨rfl,Zdd h⟩
 ·exact .inr ⟨hj,Zdc hj h⟩
theorem RS.set(r:RS K B O0 O1 H ρ σ){i:Nat}{d:D}{v:V}(h:YJ K (mask (O0++O1) H) d v):RS K B O0 O1 H (ρ.set i (some (.val d))) (σ.set i (some v)):=by
 have other:∀{j:Nat} {o:Option V},i≠j->(σ.set i (some v))[j]?=some o->σ[j]?=some o:=fun hn q=>by rwa[QD hn]at q
 refine⟨by simpa using r.len,r.same,r.thB,r.new,r.th,fun j e q=>?_,fun j e q=>?_,fun j k d1 d2 a q1 q2 q3 q4=>?_⟩
 ·rcases Yd q with⟨rfl,z⟩|⟨hn,q'⟩
  ·cases z
   have hi:i<ρ.length:=by simpa using (Qj.mp q).1
   exact⟨v,by rw[Q4 (by rw[<- r.len];exact hi)],h⟩
  ·obtain⟨w,h1,h2⟩:=r.vals j e q'
   exact⟨w,by rw[QD hn];exact h1,h2⟩
 ·rcases Yd q with⟨rfl,z⟩|⟨hn,q'⟩
  ·cases z
  ·obtain⟨a,h1,h2,h3⟩:=r.owns j e q'
   exact⟨a,by rw[QD hn];exact h1,h2,h3⟩
 ·rcases Yd q1 with⟨rfl,z⟩|⟨hn,q1'⟩
  ·cases z
  ·rcases Yd q2 with⟨rfl,z⟩|⟨hn2,q2'⟩
   ·cases z
   ·exact r.apart j k d1 d2 a q1' q2' (other hn q3) (other hn2 q4)
theorem RS.sets:∀(ws:List (Nat×D)) (vs:List V) {ρ:XR} {σ:St},RS K B O0 O1 H ρ σ->Zr K (mask (O0++O1) H) (ws.map (·.2)) vs->RS K B O0 O1 H (Zbf ρ ws) (Zeb σ ws vs)
 |[],_,_,_,r,_=>r
 |w::ws,_,ρ,σ,r,⟨v,vr,e,h,t⟩=>by
  subst e
  exact RS.sets ws vr (r.set h) t
theorem RS.setOwn(r:RS K B O0 O1 H ρ σ){i:Nat}{d:D}{a:Addr}{o:HO}(hn:H a=none)(hm:Ziy o)(h:V9 K (O0++a::O1) (Y1 H a o) d a) :
  RS K B O0 (a::O1) (Y1 H a o) (ρ.set i (some (.own d))) (σ.set i (some (.ref a))):=by
 have s:Zf (mask (O0++O1) H) (mask (O0++a::O1) (Y1 H a o)):=fun b u q=>by
  have hb:b∉O0++O1:=fun m=>by rw[Yy m]at q;cases q
  rw[ZF hb]at q
  have hba:b≠a:=ZS q hn
  rw[ZF (fun m=>hb (by
   rcases QE.mp m with z|z
   ·exact Q3 _ z
   ·rcases Ql.mp z with z|z
    ·exact absurd z hba
    ·exact Qt _ z)),ZM hba]
  exact q
 have Zks:B a=none:=by
  cases q:B a with
  |none=>rfl
  |some u=>rw[r.same a u q]at hn;cases hn
 have naO:a∉O1:=r.th.fresh hn
 have other:∀{j:Nat} {x:Option V},i≠j->(σ.set i (some (.ref a)))[j]?=some x->σ[j]?=some x:=fun hn q=>by rwa[QD hn]at q
 have fresh:∀{j:Nat} {e:D} {b:Addr},ρ[j]?=some (some (.own e))->σ[j]?=some (some (.ref b))->b≠a:=fun{j e b} q1 q2=>by
  obtain⟨b',h1,h2,_⟩:=r.owns j e q1
  rw[q2]at h1;cases h1
  intro z;subst z;exact naO h2
 refine⟨by simpa using r.len,Zf.trans r.same (Zf.new hn),r.thB,fun b hb=>?_,fun b hb=>?_,fun j e q=>?_,fun j e q=>?_,fun j k d1 d2 b q1 q2 q3 q4=>?_⟩
 ·rcases Ql.mp hb with z|z
  ·rw[z];exact Zks
  ·exact r.new b z
 ·rcases Ql.mp hb with z|z
  ·rw[z];exact⟨o,Yc,hm⟩
  ·obtain⟨u,e,m⟩:=r.th b z
   exact⟨u,Zf.new hn _ _ e,m⟩
 ·rcases Yd q with⟨rfl,z⟩|⟨hj,q'⟩
  ·cases z
  ·obtain⟨w,h1,h2⟩:=r.vals j e q'
   exact⟨w,by rw[QD hj];exact h1,YJ.mono s e w h2⟩
 ·rcases Yd q with⟨rfl,z⟩|⟨hj,q'⟩
  ·cases z
   have hi:i<ρ.length:=by simpa using (Qj.mp q).1
   exact⟨a,by rw[Q4 (by rw[<- r.len];exact hi)],Qf,h⟩
  ·obtain⟨b,h1,h2,h3⟩:=r.owns j e q'
   exact⟨b,by rw[QD hj];exact h1,Qe _ h2,h3.mono s fun u z=>Zf.new hn _ _ z⟩
 ·rcases Yd q1 with⟨rfl,z1⟩|⟨hj,q1'⟩
  ·rcases Yd q2 with⟨rfl,z2⟩|⟨hk,q2'⟩
   ·rfl
   ·exfalso
    have hi:i<σ.length:=by
     have:=(Qj.mp q3).1
     simpa using this
    rw[Q4 hi]at q3
    cases q3
    exact fresh q2' (other hk q4) rfl
  ·rcases Yd q2 with⟨rfl,z2⟩|⟨hk,q2'⟩
   ·exfalso
    have hi:i<σ.length:=by
     have:=(Qj.mp q4).1
     simpa using this
    rw[Q4 hi]at q4
    cases q4
    exact fresh q1' (other hj q3) rfl
   ·exact r.apart j k d1 d2 b q1' q2' (other hj q3) (other hk q4)
theorem RS.write(r:RS K B O0 O1 H ρ σ){i:Nat}{d d':D}{a:Addr}{o:HO}(hi:ρ[i]?=some (some (.own d)))(ha:σ[i]?=some (some (.ref a)))(hm:Ziy o)(h:V9 K (O0++O1) (Y1 H a o) d' a) :
  RS K B O0 O1 (Y1 H a o) (ρ.set i (some (.own d'))) σ:=by
 obtain⟨a',h1,h2,h3⟩:=r.owns i d hi
 rw[ha]at h1;cases h1
 have em:mask (O0++O1) (Y1 H a o)=mask (O0++O1) H:=by
  funext b
  by_cases hb:b∈O0++O1
  ·rw[Yy hb,Yy hb]
  ·rw[ZF hb,ZF hb,ZM (fun z=>hb (by rw[z];exact Qt _ h2))]
 have hil:i<ρ.length:=(Qj.mp hi).1
 have un:∀{j:Nat} {e:D} {b:Addr},i≠j->ρ[j]?=some (some (.own e))->σ[j]?=some (some (.ref b))->b≠a:=fun{j e b} hn q1 q2 z=>by
  subst z;exact hn (r.apart i j d e b hi q1 ha q2)
 have sB:Zf B (Y1 H a o):=fun b u q=>by
  have:b≠a:=fun z=>by subst z;rw[r.new b h2]at q;cases q
  rw[ZM this];exact r.same b u q
 refine⟨by simpa using r.len,sB,r.thB,r.new,fun b hb=>?_,fun j e q=>?_,fun j e q=>?_,fun j k d1 d2 b q1 q2 q3 q4=>?_⟩
 ·by_cases z:b=a
  ·rw[z];exact⟨o,Yc,hm⟩
  ·rw[ZM z];exact r.th b hb
 ·rcases Yd q with⟨rfl,z⟩|⟨hj,q'⟩
  ·cases z
  ·obtain⟨w,e1,e2⟩:=r.vals j e q'
   rw[em];exact⟨w,e1,e2⟩
 ·rcases Yd q with⟨rfl,z⟩|⟨hj,q'⟩
  ·cases z;exact⟨a,ha,h2,h⟩
  ·obtain⟨b,e1,e2,e3⟩:=r.owns j e q'
   refine⟨b,e1,e2,e3.mono (by rw[em];exact(Zf.refl _)) fun u z=>?_⟩
   rw[ZM (un hj q' e1)];exact z
 ·rcases Yd q1 with⟨rfl,z1⟩|⟨hj,q1'⟩
  ·rcases Yd q2 with⟨rfl,z2⟩|⟨hk,q2'⟩
   ·rfl
   ·exact r.apart i k d d2 b hi q2' q3 q4
  ·rcases Yd q2 with⟨rfl,z2⟩|⟨hk,q2'⟩
   ·exact r.apart j i d1 d b q1' hi q3 q4
   ·exact r.apart j k d1 d2 b q1' q2' q3 q4
theorem RS.rebase(r:RS K B O0 O1 H ρ σ):RS K (mask O1 H) O0 O1 H ρ σ :=
 ⟨r.len,Zi,fun a m=>by
  obtain⟨o,e,k⟩:=r.th0 a m
  exact⟨o,by rw[ZF fun z=>r.disj z m];exact e,k⟩,fun a m=>Yy m,r.th,r.vals,r.owns,r.apart⟩
theorem RS.debase{Hb:Hp}{Ob O2:List Addr}{ρ0:XR}{σ0:St}(r0:RS K B O0 Ob Hb ρ0 σ0)(r:RS K (mask Ob Hb) O0 O2 H ρ σ):RS K B O0 O2 H ρ σ:=by
 have sb:Zf B (mask Ob Hb):=fun b u q=>by
  rw[ZF fun m=>by rw[r0.new b m]at q;cases q]
  exact r0.same b u q
 refine⟨r.len,Zf.trans sb r.same,r0.thB,fun a m=>?_,r.th,r.vals,r.owns,r.apart⟩
 cases q:B a with
 |none=>rfl
 |some u =>
  have h1:=r.new a m
  rw[sb a u q]at h1
  cases h1
end
inductive Out where
 |nx (ρ:XR)|rt (d:D)|bk (ρ:XR)|ct (ρ:XR)|bad
abbrev FS:=XR->Out
def post(K:PySem.W.Frag)(B:Hp)(O0:List Addr)(E:Zd4):Out->Prop
 |.nx ρ=>∀σ H O1,RS K B O0 O1 H ρ σ->E.nx σ H
 |.rt d=>∀v H,Zf B H->YJ K (mask O0 H) d v->E.rt v H
 |.bk ρ=>∀σ H O1,RS K B O0 O1 H ρ σ->E.bk σ H
 |.ct ρ=>∀σ H O1,RS K B O0 O1 H ρ σ->E.ct σ H
 |.bad=>False
def tS(K:PySem.W.Frag)(F:FS):TS:=fun E σ H=>∃B O0 O1 ρ,RS K B O0 O1 H ρ σ/\post K B O0 E (F ρ)
def SV(X:Cx)(st:Stmt)(F:FS):Prop:=PS X st (tS X.K F)
def Zpb(X:Cx)(sts:List Stmt)(F:FS):Prop:=Zbd X sts (tS X.K F)
theorem PS.imp{X:Cx}{e:Stmt}{t t':TS}(h:PS X e t)(k:∀D σ H,t' D σ H->t D σ H):PS X e t':=fun pins s σ H D I hw=>h pins s σ H D I (k D σ H hw)
theorem Zbd.imp{X:Cx}{e:List Stmt}{t t':TS}(h:Zbd X e t)(k:∀D σ H,t' D σ H->t D σ H):Zbd X e t':=fun pins s σ H D I hw=>h pins s σ H D I (k D σ H hw)
def Zn0(o:Out)(G:FS):Out:=match o with
 |.nx ρ=>G ρ
 |o=>o
def Zp(F G:FS):FS:=fun ρ=>Zn0 (F ρ) G
def XF:FS:=fun ρ=>.nx ρ
mutual
def Zvz:D->Bool
 |.tup ds=>Zol ds
 |.lst _=>false
 |.scr _=>false
 |.dcK _ _=>false
 |.dcT _ _=>false
 |.dcF _ ds=>Zol ds
 |_=>true
def Zol:List D->Bool
 |[]=>true
 |d::ds=>Zvz d&&Zol ds
end
def Zz(i:Nat)(f:FE):FS:=fun ρ=>match f (Ws ρ) with|some d=>.nx (ρ.set i (some (.val d)))|none=>.bad
def sSetI(i:Nat)(f:FE):FS:=fun ρ=>match f (YF ρ) with|some d=>if Zvz d=true then .nx (ρ.set i (some (.val d))) else .bad|none=>.bad
def ZX(f:FE):FS:=fun ρ=>match f (YF ρ) with|some d=>.rt d|none=>.bad
def XB(g:FT)(F G:FS):FS:=fun ρ=>match g (YF ρ) with|some true=>F ρ|some false=>G ρ|none=>.bad
def Zaj:FS:=fun _=>.bad
def Wj(t:FG)(F:FS):List D->XR->Out
 |[],ρ=>.nx ρ
 |d::ds,ρ=>match t d with
  |none=>.bad
  |some ws=>match F (Zbf ρ ws) with
   |.nx ρ'=>Wj t F ds ρ'
   |.ct ρ'=>Wj t F ds ρ'
   |.bk ρ'=>.nx ρ'
   |.rt d=>.rt d
   |.bad=>.bad
def VJ(fi:FA)(t:FG)(F:FS):FS:=fun ρ=>match fi (Ws ρ) with|some ds=>Wj t F ds ρ|none=>.bad
def Uw(fi:FA)(t:FG)(F:FS):FS:=fun ρ=>match fi (YF ρ) with|some ds=>Wj t F ds ρ|none=>.bad
section
variable{X:Cx}{st:Stmt}{Z0:List Stmt}{F G:FS}{pos:Pos}
theorem ZO:Zpb X [] XF:=Zbd.imp Zuw fun D σ H ⟨B,O0,O1,ρ,r,q⟩=>q σ H O1 r
theorem Zl(h:SV X st F):Zpb X [st] F:=Zmc h
theorem Zg(h1:SV X st F)(h2:Zpb X Z0 G):Zpb X (st::Z0) (Zp F G):=Zbd.imp (Zcq h1 h2) fun E σ H ⟨B,O0,O1,ρ,r,q⟩=>by
 refine⟨B,O0,O1,ρ,r,?_⟩
 unfold Zp at q
 cases e:F ρ with
 |nx ρ'=>rw[e]at q;exact fun σ' H' O' r'=>⟨B,O0,O',ρ',r',q⟩
 |rt d=>rw[e]at q;exact q
 |bk ρ'=>rw[e]at q;exact q
 |ct ρ'=>rw[e]at q;exact q
 |bad=>rw[e]at q;exact q.elim
theorem Vn{sts:List Stmt}:Zpb X sts Zaj:=Zbd.imp Zal fun D σ H ⟨B,O0,O1,ρ,r,q⟩=>q.elim
theorem Zy{e:Expr}{f:FE}(h:EV X e f):SV X (.Return (some e) pos) (ZX f):=PS.imp (Zqs h) fun E σ H ⟨B,O0,O1,ρ,r,q⟩=>by
 unfold ZX at q
 cases e:f (YF ρ) with
 |none=>rw[e]at q;exact q.elim
 |some d =>
  rw[e]at q
  exact⟨O0,YF ρ,d,r.all,e,fun v H' s rep=>q v H' (Zf.trans r.same s) rep⟩
theorem Yx{c:Expr}{a b:List Stmt}{g:FT}(hc:TV X c g)(ha:Zpb X a F)(hb:Zpb X b G):SV X (.If c a b pos) (XB g F G):=PS.imp (Zxa hc ha hb) fun E σ H ⟨B,O0,O1,ρ,r,q⟩=>by
 unfold XB at q
 cases e:g (YF ρ) with
 |none=>rw[e]at q;exact q.elim
 |some k =>
  rw[e]at q
  refine⟨O0,YF ρ,k,r.all,e,fun H' s=>?_⟩
  cases k with
  |true=>rw[if_pos rfl];exact⟨B,O0,O1,ρ,r.mono s,q⟩
  |false=>rw[if_neg Qv];exact⟨B,O0,O1,ρ,r.mono s,q⟩
theorem ZH{i:Nat}{x:Str}{e:Expr}{f:FE}{pos':Pos}(hN:X.N.Nodup)(h:EV X e f)(hi:X.N[i]?=some x:=by rfl)(hx:Zpc X.env.scope x:=by first|exact Or.inl rfl|exact Or.inr rfl)(hs:swapsWith e (some (.Name x pos')) pos.line X.env=pure false:=by rfl)
  (hf:X.fn x=true\/X.env.scope.names.lookup x=some .local:=by first|exact .inl rfl|exact .inr rfl):SV X (.Assign [.Name x pos'] e pos) (Zz i f):=PS.imp (Zam hN hi hx h hs hf) fun E σ H ⟨B,O0,O1,ρ,r,q⟩=>by
 unfold Zz at q
 cases e:f (Ws ρ) with
 |none=>rw[e]at q;exact q.elim
 |some d =>
  rw[e]at q
  exact⟨O0++O1,Ws ρ,d,r.val,e,fun v H' s rep=>q _ H' O1 ((r.mono s).set rep)⟩
mutual
theorem U5{K:PySem.W.Frag}{O O':List Addr}{H:Hp}(th:YG O' H):∀(d:D) (v:V),Zvz d=true->YJ K (mask O H) d v->YJ K (mask (O++O') H) d v
 |.non,_,_,r=>r
 |.bl _,_,_,r=>r
 |.int _,_,_,r=>r
 |.str _,_,_,r=>r
 |.tup ds,_,e,⟨a,vs,ev,ht,rs⟩=>⟨a,vs,ev,by
   have key:∀{o:HO},mask O H a=some o->¬Ziy o->mask (O++O') H a=some o:=fun{o} q nm=>by
    have h1:=Zi _ _ q
    refine(ZF fun m=>?_).trans h1
    rcases QE.mp m with z|z
    ·rw[Yy z]at q;cases q
    ·obtain⟨u,e1,e2⟩:=th a z
     rw[h1]at e1;cases e1;exact nm e2
   exact key ht fun z=>z,Zcm th ds vs e rs⟩
 |.dcF ks ds,_,e,⟨a,fo,kvs,ev,ht,hk,rs⟩=>⟨a,fo,kvs,ev,by
   have h1:=Zi _ _ ht
   refine(ZF fun m=>?_).trans h1
   rcases QE.mp m with z|z
   ·rw[Yy z]at ht;cases ht
   ·obtain⟨u,e1,e2⟩:=th a z
    rw[h1]at e1;cases e1;exact e2,hk,Zcm th ds _ e rs⟩
 |.lst _,_,e,_=>by cases e
 |.scr _,_,e,_=>by cases e
 |.dcK _ _,_,e,_=>by cases e
 |.dcT _ _,_,e,_=>by cases e
theorem Zcm{K:PySem.W.Frag}{O O':List Addr}{H:Hp}(th:YG O' H):∀(ds:List D) (vs:List V),Zol ds=true->Zr K (mask O H) ds vs->Zr K (mask (O++O') H) ds vs
 |[],_,_,r=>r
 |d::ds,_,e,⟨v,vr,ev,r,rs⟩=>⟨v,vr,ev,U5 th d v (by simp only[Zol,Qq]at e;exact e.1) r,Zcm th ds vr (by simp only[Zol,Qq]at e;exact e.2) rs⟩
end
theorem Zfu{scope:Scope}{elt tg iter:Expr}{ifs:List Expr}{cpos sp pos':Pos}{fi:FA}{t:FG}{gt:FT}{fe:FE}{i:Nat}{x:Str}(N:List Str)(n:Nat)(ix:List Nat)(hok:Zlu n t)(hN:X.N.Nodup)(hc:X.calm=true)(hi:IV X tg iter fi)
  (hg:∀cl C s H fp,GV (ZR X N scope cl C s H fp) tg t) (ht:∀cl C s H fp,TVs (ZR X N scope cl C s H fp) ifs gt) (he:∀cl C s H fp,EV (ZR X N scope cl C s H fp) elt fe)
  (hx0:X.N[i]?=some x:=by rfl) (hx:Zpc X.env.scope x:=by first|exact Or.inl rfl|exact Or.inr rfl)
  (hsw:swapsWith (.ListComp elt [⟨tg,iter,ifs,0⟩] scope cpos) (some (.Name x pos')) sp.line X.env=pure true:=by rfl)
  (hk:scope.kind=.function:=by rfl) (hcell:(scope.names.all fun y=>!(y.2 == .cell))=true:=by rfl) (hnames:(scope.names.all fun y=>!(y.2 == .local)||(scope.names.lookup y.1 == some .local))=true:=by rfl)
  (hNl:N.length=n+ix.length:=by rfl) (hout:Ux X.N N n scope X.env ix=true:=by rfl) (hfree:W0 scope X.env.cells=true:=by rfl) (hs:∀x,foldedSetIterable iter X.env x=pure x:=by intro _;rfl)
  (hf:X.fn x=true\/X.env.scope.names.lookup x=some .local:=by first|exact .inl rfl|exact .inr rfl) :
  SV X (.Assign [.Name x pos'] (.ListComp elt [⟨tg,iter,ifs,0⟩] scope cpos) sp) (Zz i (Z7 n ix fi t gt fe)) :=
 PS.imp (Zux (g:=tG X.K t) (tt:=tT X.K gt) (te:=tD X.K fe) N n ix hN hx0 hx hc hi hg ht he hsw hk hcell hnames hNl hout hfree hs hf) fun E σ H ⟨B,O0,O1,ρ,r,q⟩=>by
  unfold Zz at q
  cases e:Z7 n ix fi t gt fe (Ws ρ) with
  |none=>rw[e]at q;exact q.elim
  |some d =>
   rw[e]at q
   obtain⟨ys,rfl,hh⟩:=Zdg e
   exact Zdn (fun{_}=>trivial) hok ⟨O0++O1,Ws ρ,ys,r.val,hh,fun a vs H' s hn rep=>q _ _ O1 ((r.mono (Zf.trans s (Zf.new hn))).set (Yj (r.val.th.mono s) hn rep))⟩
theorem Zqw{K:PySem.W.Frag}{B B':Hp}{O0:List Addr}{E:Zd4}(sb:Zf B B')(k:∀{H:Hp} {O1:List Addr} {ρ:XR} {σ:St},RS K B' O0 O1 H ρ σ->RS K B O0 O1 H ρ σ):∀(o:Out),post K B O0 E o->post K B' O0 E o
 |.nx _,q=>fun σ H O1 r=>q σ H O1 (k r)
 |.rt _,q=>fun v H s r=>q v H (Zf.trans sb s) r
 |.bk _,q=>fun σ H O1 r=>q σ H O1 (k r)
 |.ct _,q=>fun σ H O1 r=>q σ H O1 (k r)
 |.bad,q=>q
theorem Ze9{K:PySem.W.Frag}{t:FG}{F:FS}{B:Hp}{O0:List Addr}{E:Zd4}{J:It}{ds:List D} (wk:∀{O1:List Addr} {H:Hp} {ρ:XR} {σ:St},RS K B O0 O1 H ρ σ->∀i,
   (∀d,ds[i]?=some d->J.go i H/\∀x H',J.yld i H x H'->Zf H H'/\YJ K (mask (O0++O1) H') d x)/\(ds.length<=i->J.stop i H))
  {O1:List Addr} {H:Hp} {ρ:XR} {σ:St} (r:RS K B O0 O1 H ρ σ) (q:post K B O0 E (Wj t F ds ρ)) :
  ∃W:Nat->Nat->St->Hp->Prop,(∃m,W 0 m σ H)/\∀i m σ H,W i m σ H ->
   (J.stop i H/\E.nx σ H)\/(J.go i H/\∃N:St->Hp->Prop,(∀σ' H',N σ' H'->∃m',m'<m/\W (i+1) m' σ' H')/\∀x H',J.yld i H x H'->tG K t x σ H' fun σ2 H2=>tS K F { E with nx:=N,ct:=N,bk:=E.nx } σ2 H2):=by
 refine⟨fun i m σ H=>m=ds.length-i/\i<=ds.length/\∃O1 ρ,RS K B O0 O1 H ρ σ/\post K B O0 E (Wj t F (ds.drop i) ρ),⟨ds.length,by simp,Q1 _,O1,ρ,r,by simpa using q⟩,?_⟩
 rintro i m σ H ⟨rfl,hi,O1,ρ,r,q⟩
 have w:=wk r i
 by_cases hlt:i<ds.length
 ·have hd:ds.drop i=ds[i]::ds.drop (i+1):=Jk hlt
  have hg:ds[i]?=some ds[i]:=Qn hlt
  obtain⟨go,yl⟩:=w.1 _ hg
  refine .inr ⟨go,fun σ' H'=>∃O1 ρ,RS K B O0 O1 H' ρ σ'/\post K B O0 E (Wj t F (ds.drop (i+1)) ρ),fun σ' H' h=>⟨ds.length-(i+1),by omega,rfl,hlt,h⟩,fun x H' hy=>?_⟩
  obtain⟨s,rx⟩:=yl x H' hy
  rw[hd]at q
  unfold Wj at q
  cases e:t ds[i]with
  |none=>rw[e]at q;exact q.elim
  |some ws =>
   rw[e]at q
   dsimp only at q
   have r':=r.mono s
   refine⟨O0++O1,_,ws,YG.app r'.th0 r'.th,rx,e,fun vs rs=>?_⟩
   refine⟨B,O0,O1,Zbf ρ ws,r'.sets ws vs rs,?_⟩
   cases e2:F (Zbf ρ ws) with
   |nx ρ'=>rw[e2]at q;exact fun σ2 H2 O2 r2=>⟨O2,ρ',r2,q⟩
   |ct ρ'=>rw[e2]at q;exact fun σ2 H2 O2 r2=>⟨O2,ρ',r2,q⟩
   |bk ρ'=>rw[e2]at q;exact q
   |rt d=>rw[e2]at q;exact q
   |bad=>rw[e2]at q;exact q.elim
 ·have e:i=ds.length:=by omega
  subst e
  rw[List.drop_length]at q
  exact .inl ⟨w.2 (Qg _),q σ H O1 r⟩
theorem Zfw{tg iter:Expr}{body:List Stmt}{fi:FA}{t:FG}(hp:PassesOwn (model X.prog X.w) X.A X.env X.xe)(hc:X.calm=true)(hi:IV X tg iter fi)(hg:GV X tg t)(hb:Zpb X body F)
  (hs:∀x,foldedSetIterable iter X.env x=pure x:=by intro _;rfl):SV X (.For tg iter body [] pos) (VJ fi t F):=PS.imp (Zqt hp hc hi hg hb hs) fun E σ H ⟨B,O0,O1,ρ,r,q⟩=>by
 unfold VJ at q
 cases e:fi (Ws ρ) with
 |none=>rw[e]at q;exact q.elim
 |some ds =>
  rw[e]at q
  refine⟨O0++O1,Ws ρ,ds,r.val,e,fun J H1 s1 wk=>?_⟩
  have r1:=r.mono s1
  refine Ze9 (B:=mask O1 H1) (O0:=O0) (fun{O2 H2 ρ2 σ2} r2 i=>wk H2 (O0++O2) (fun b u z=>?_) (YG.app r2.th0 r2.th) i) r1.rebase (Zqw (fun b u z=>?_) (fun r3=>r1.debase r3) _ q)
  ·have hb1:b∉O0++O1:=fun m=>by rw[Yy m]at z;cases z
   have z1:=Zi _ _ z
   have z2:mask O1 H1 b=some u:=by rw[ZF fun m=>hb1 (Qt _ m)];exact z1
   have z3:=r2.same b u z2
   refine(ZF fun m=>?_).trans z3
   rcases QE.mp m with w|w
   ·exact hb1 (Q3 _ w)
   ·rw[r2.new b w]at z2;cases z2
  ·rw[ZF fun m=>by rw[r1.new b m]at z;cases z]
   exact r1.same b u z
theorem Zfv{tg iter:Expr}{body:List Stmt}{fi:FA}{t:FG}(hp:PassesOwn (model X.prog X.w) X.A X.env X.xe)(hc:X.calm=true)(hi:Z1i X tg iter fi)(hg:GV X tg t)(hb:Zpb X body F)
  (hs:∀x,foldedSetIterable iter X.env x=pure x:=by intro _;rfl):SV X (.For tg iter body [] pos) (Uw fi t F):=PS.imp (Zqt hp hc hi hg hb hs) fun E σ H ⟨B,O0,O1,ρ,r,q⟩=>by
 unfold Uw at q
 cases e:fi (YF ρ) with
 |none=>rw[e]at q;exact q.elim
 |some ds =>
  rw[e]at q
  exact⟨O0,YF ρ,ds,r.all,e,fun J H1 s1 wk=>Ze9 (B:=B) (O0:=O0) (fun{O2 H2 ρ2 σ2} r2 i=>wk H2 (O0++O2) (YG.app r2.th0 r2.th) i) (r.mono s1) q⟩
end
open Classical in
section
variable{X:Cx}{F G:FS}{pos:Pos}
def tF(K:PySem.W.Frag)(f:FA):TE:=fun σ H Q=>∃O ρ ds,RV K O H ρ σ/\f ρ=some ds/\∀a vs H1,Zf H H1->H1 a=none->Zr K (mask O H1) ds vs->Q (.ref a) (Y1 H1 a (.lst vs))
def EVF(X:Cx)(e:Expr)(f:FA):Prop:=PE X e (tF X.K f)
def few(ds:List D):Option (List D):=if ds.length<=ZN then some ds else none
theorem Zsv{ds es:List D}(h:few ds=some es):es=ds/\ds.length<=sizeLine:=by
 unfold few at h
 split at h
 ·rename_i hl;cases h;exact⟨rfl,Z5 hl⟩
 ·cases h
theorem Zv5{es:List Expr}{f:FA}(h:AV X es f):EVF X (.List es pos) (fR few f):=PE.imp (Zq2 h) fun σ H Q ⟨O,ρ,d,rv,e,q⟩=>by
 obtain⟨ds,e1,e⟩:=bind_some e
 obtain⟨rfl,hl⟩:=Zsv e
 exact⟨O,ρ,_,rv,e1,fun vs H1 s1 r1=>⟨by rw[r1.length];exact hl,fun p hp=>q p vs H1 s1 hp r1⟩⟩
def fFr(f:FA):FE:=fun ρ=>(f ρ).bind fun ds=>some (.lst ds)
theorem EVF.ev{e:Expr}{f:FA}(h:EVF X e f):EV X e (fFr f):=PE.imp h fun σ H Q ⟨O,ρ,d,rv,e,q⟩=>by
 obtain⟨ds,e1,e⟩:=bind_some e
 cases e
 exact⟨O,ρ,ds,rv,e1,fun a vs H1 s1 hn r=>q _ _ (Zf.trans s1 (Zf.new hn)) (Yj (rv.th.mono s1) hn r)⟩
def Zf1(i:Nat)(f:FA):FS:=fun ρ=>match f (Ws ρ) with|some ds=>.nx (ρ.set i (some (.own (.lst ds))))|none=>.bad
theorem Zqf{H:Hp}{O0 O1:List Addr}{a:Addr}{o:HO}(hn:H a=none):Zf (mask (O0++O1) H) (mask (O0++a::O1) (Y1 H a o)):=fun b u q=>by
 have hb:b∉O0++O1:=fun m=>by rw[Yy m]at q;cases q
 rw[ZF hb]at q
 have hba:b≠a:=ZS q hn
 rw[ZF (fun m=>hb (by
  rcases QE.mp m with z|z
  ·exact Q3 _ z
  ·rcases Ql.mp z with z|z
   ·exact absurd z hba
   ·exact Qt _ z)),ZM hba]
 exact q
theorem Zp8{i:Nat}{x:Str}{e:Expr}{f:FA}{pos':Pos}(hN:X.N.Nodup)(h:EVF X e f)(hi:X.N[i]?=some x:=by rfl)(hx:Zpc X.env.scope x:=by first|exact Or.inl rfl|exact Or.inr rfl)(hs:swapsWith e (some (.Name x pos')) pos.line X.env=pure false:=by rfl)
  (hf:X.fn x=true\/X.env.scope.names.lookup x=some .local:=by first|exact .inl rfl|exact .inr rfl):SV X (.Assign [.Name x pos'] e pos) (Zf1 i f):=PS.imp (Zam hN hi hx h hs hf) fun E σ H ⟨B,O0,O1,ρ,r,q⟩=>by
 unfold Zf1 at q
 cases e:f (Ws ρ) with
 |none=>rw[e]at q;exact q.elim
 |some ds =>
  rw[e]at q
  exact⟨O0++O1,Ws ρ,ds,r.val,e,fun a vs H1 s hn rep=>q _ _ (a::O1) ((r.mono s).setOwn hn trivial ⟨vs,Yc,Zr.mono (Zqf hn) ds vs rep⟩)⟩
def Zai(i:Nat)(fk fv:FE):FS:=fun ρ=>match ρ[i]? with
 |some (some (.own (.lst ds)))=>(match fv (YF ρ),fk (YF ρ) with
  |some d,some (.int k)=>if Zvz d=true then(match Zr6 ds.length k with|some j=>.nx (ρ.set i (some (.own (.lst (ds.set j d)))))|none=>.bad) else .bad
  |_,_=>.bad)
 |_=>.bad
theorem Zp7{i:Nat}{x:Str}{k e:Expr}{fk fv:FE}{Yw pos2:Pos}(hk:EV X k fk)(he:EV X e fv)(hN:X.N[i]?=some x:=by rfl)(hv:Zwp X.env.scope x:=by first|exact Or.inl rfl|exact Or.inr (Or.inl rfl)|exact Or.inr (Or.inr rfl))
  (hd:(x == ("__debug__":Str))=false:=by decide) (hcd:(x == ("__classdict__":Str))=false:=by decide)
  (ha:∀v,assign (.Subscript (.Name x Yw) k pos2) X.env v=(do
   let ov <- holding [v] (eval (.Name x Yw) X.env)
   let iv <- holding [v,ov] (eval k X.env)
   standAt pos2
   holding [v,ov,iv] (setItem ov iv v)
   release [v,ov,iv] []):=by intro _;rfl)
  (hs:swapsWithSole [.Subscript (.Name x Yw) k pos2] e pos.line X.env=pure false:=by rfl) (hw:swappedStores [.Subscript (.Name x Yw) k pos2] e X.env=pure none:=by rfl)
  (h1:(assignEach [.Subscript (.Name x Yw) k pos2] X.env).map (·.2)=[assign (.Subscript (.Name x Yw) k pos2) X.env]:=by rfl) :
  SV X (.Assign [.Subscript (.Name x Yw) k pos2] e pos) (Zai i fk fv):=PS.imp (Zyu he (Zyy (Zao hN hv hd hcd) hk Zqe ha) hs hw h1) fun E σ H ⟨B,O0,O1,ρ,r,q⟩=>by
 unfold Zai at q
 split at q
 ·rename_i ds hi
  split at q
  ·rename_i d kk e1 e2
   split at q
   ·rename_i hm
    split at q
    ·rename_i j ej
     obtain⟨a,ha',hO,vs,hv',rs⟩:=r.owns i _ hi
     refine⟨O0,YF ρ,d,r.all,e1,fun v H1 s1 rv1=>?_⟩
     have r1:=r.mono s1
     refine⟨.ref a,ha',O0,YF ρ,.int kk,r1.all,e2,fun y H2 s2 rv2=>?_⟩
     have r2:=r1.mono s2
     have hv2:H2 a=some (.lst vs):=s2 _ _ (s1 _ _ hv')
     have hy:y=.int kk:=rv2
     subst hy
     refine⟨a,vs,kk,j,rfl,rfl,hv2,by rw[rs.length];exact ej,?_⟩
     have rd:YJ X.K (mask (O0++O1) H2) d v:=U5 (r2.th) d v hm (YJ.mono (ZA s2) d v rv1)
     have em:mask (O0++O1) (Y1 H2 a (.lst (vs.set j v)))=mask (O0++O1) H2:=by
      funext b
      by_cases hb:b∈O0++O1
      ·rw[Yy hb,Yy hb]
      ·rw[ZF hb,ZF hb,ZM (fun z=>hb (by rw[z];exact Qt _ hO))]
     refine q _ _ O1 (r2.write (d':=.lst (ds.set j d)) hi ha' trivial ⟨vs.set j v,Yc,?_⟩)
     rw[em]
     exact Zr.set rd j (Zr.mono (ZA (Zf.trans s1 s2)) ds vs rs)
    ·exact q.elim
   ·exact q.elim
  ·exact q.elim
 ·exact q.elim
def Znp(i:Nat)(fv:FE):FS:=fun ρ=>match ρ[i]? with
 |some (some (.own (.lst ds)))=>(match fv (YF ρ) with
  |some d=>if Zvz d=true/\ds.length<ZN then .nx (ρ.set i (some (.own (.lst (ds++[d]))))) else .bad
  |_=>.bad)
 |_=>.bad
theorem Zym{i:Nat}{x:Str}{e:Expr}{fv:FE}{p1 p2 p3:Pos}(he:EV X e fv)(hN:X.N[i]?=some x:=by rfl)(hv:Zwp X.env.scope x:=by first|exact Or.inl rfl|exact Or.inr (Or.inl rfl)|exact Or.inr (Or.inr rfl))
  (hd:(x == ("__debug__":Str))=false:=by decide) (hcd:(x == ("__classdict__":Str))=false:=by decide)
  (h1:PE X (.Call (.Attribute (.Name x p1) "append" p2) [e] [] p3) (tBM X.K "list" Zf2 (Zye i) (Zp2 (tD X.K fv) Zyf))) (hs:swapsWith (.Call (.Attribute (.Name x p1) "append" p2) [e] [] p3) none pos.line X.env=pure false:=by rfl) :
  SV X (.Expr (.Call (.Attribute (.Name x p1) "append" p2) [e] [] p3) pos) (Znp i fv):=PS.imp (Zmd h1 hs) fun E σ H ⟨B,O0,O1,ρ,r,q⟩=>by
 unfold Znp at q
 split at q
 ·rename_i ds hi
  split at q
  ·rename_i d e1
   split at q
   ·rename_i hm
    obtain⟨a,ha',hO,vs,hv',rs⟩:=r.owns i _ hi
    refine⟨.ref a,ha',.inl ⟨rfl,vs,WH.of hv'⟩,O0,YF ρ,d,r.all,e1,fun v H1 s1 rv1=>?_⟩
    have r1:=r.mono s1
    have hv1:H1 a=some (.lst vs):=s1 _ _ hv'
    refine⟨a,vs,v,rfl,rfl,hv1,by(have:=rs.length;have:=Z5 (Nat.le_of_lt hm.2);have h3:ZN<sizeLine:=(by rw[show sizeLine=16777216 from QK];decide);omega),?_⟩
    have rd:YJ X.K (mask (O0++O1) H1) d v:=U5 r1.th d v hm.1 rv1
    have em:mask (O0++O1) (Y1 H1 a (.lst (vs++[v])))=mask (O0++O1) H1:=by
     funext b
     by_cases hb:b∈O0++O1
     ·rw[Yy hb,Yy hb]
     ·rw[ZF hb,ZF hb,ZM (fun z=>hb (by rw[z];exact Qt _ hO))]
    refine q _ _ O1 (r1.write (d':=.lst (ds++[d])) hi ha' trivial ⟨vs++[v],Yc,?_⟩)
    rw[em]
    exact Zr.append (Zr.mono (ZA s1) ds vs rs) (Zr.one rd)
   ·exact q.elim
  ·exact q.elim
 ·exact q.elim
end
def YB(n N:Nat)(ds:List D):XR:=ds.map (fun d=>some (.val d))++List.replicate (N-n) none
def YZ(n N:Nat)(F:FS):List D->Option D:=fun ds=>if ds.length=n then(match F (YB n N ds) with|.rt d=>some d|.nx _=>some .non|_=>none) else none
theorem Zr.map_get{K:PySem.W.Frag}{H:Hp}{ds:List D}{vs:List V}{i:Nat}{d:D}(r:Zr K H ds vs)(h:(YB ds.length (ds.length+0) ds)[i]?=some (some (.val d))):∃v,vs[i]?=some v/\YJ K H d v:=by
 unfold YB at h
 simp only[Nat.add_zero,Nat.sub_self,List.replicate_zero,Q9]at h
 obtain⟨e,h1,h2⟩:=L2.map_get h
 cases h2
 exact r.get h1
theorem Zv4{P:Program}{w:World}{K:PySem.W.Frag}{mg:Str->Option Value}{base:Heap}{x qual:Str}{st:Stmt}{f:Addr}{fd:FuncData}{N ps:List Str}{k:Nat}{F:FS}(Fu:W3 K x qual st f fd)(S:ZK N ps (Zn st))
  (h:∀(cdv:Value) (A:Around) (outer:List Env) (s:Shared) (H:Hp) (E:XK),XD k (A.deeper (envOfC qual (Zn st) s.heap.objs.size f cdv))->Zpb (Zef Zpf P w K mg base N qual (Zn st) f cdv A outer s H E).nox (XQ st) F) :
  Vj P w K mg base Zpf (k+1) f fd ps (spD K (YZ ps.length N.length F)):=by
 have hpl:ps.length<=N.length:=by have:=congrArg List.length S.pre;rw[QL]at this;omega
 refine Fu.ok S (fun vs H Q E hs=>?_) fun cdv A outer s H vs Q E hr hs=>?_
 ·obtain⟨O,ds,d,th,rs,e,_⟩:=hs
  rw[rs.length]
  unfold YZ at e
  split at e
  ·rename_i hl;exact hl
  ·cases e
 ·obtain⟨O,ds,d,th,rs,e,q⟩:=hs
  unfold YZ at e
  split at e
  ·rename_i hl
   refine⟨_,h cdv A outer s H E hr,?_⟩
   have hvl:vs.length=ps.length:=by rw[rs.length];exact hl
   refine⟨H,O,[],YB ps.length N.length ds,⟨?_,(Zf.refl _),th,fun a m=>(by cases m),fun a m=>(by cases m),fun i d' q'=>?_,fun i d' q'=>?_,fun i j d1 d2 a q1=>?_⟩,?_⟩
   ·unfold YB start;simp[hl,hvl]
   ·unfold YB at q'
    by_cases hi:i<ds.length
    ·rw[QH (by simpa using hi)]at q'
     obtain⟨e',g1,g2⟩:=map_get q'
     cases g2
     obtain⟨v,g3,g4⟩:=rs.get g1
     refine⟨v,?_,by rw[Q9];exact g4⟩
     unfold start
     rw[QH (by rw[Qd,rs.length];exact hi),QC,g3];rfl
    ·rw[Jb (by simpa using hi),Ja]at q'
     split at q'<;>cases q'
   all_goals
    try (
     exfalso
     have hno:∀(i:Nat) (d':D),(YB ps.length N.length ds)[i]?≠some (some (.own d')):=by
      intro i d' z
      unfold YB at z
      by_cases hi:i<ds.length
      ·rw[QH (by simpa using hi)]at z
       obtain⟨e',g1,g2⟩:=map_get z
       cases g2
      ·rw[Jb (by simpa using hi),Ja]at z
       split at z<;>cases z
     first|exact hno _ _ q'|exact hno _ _ q1)
   cases ef:F (YB ps.length N.length ds) with
   |rt d' =>
    rw[ef]at e;cases e
    exact fun v H' s' r'=>q v H' s' r'
   |nx ρ' =>
    rw[ef]at e;cases e
    exact fun σ' H' O1 r'=>q .non H' r'.same rfl
   |bk ρ'=>rw[ef]at e;cases e
   |ct ρ'=>rw[ef]at e;cases e
   |bad=>rw[ef]at e;cases e
  ·cases e
def Z1(g:Int->Int->D):D->D->Option D
 |.int i,.int j=>some (g i j)
 |_,_=>none
theorem Zla{g:Int->Int->D}{x y d:D}(h:Z1 g x y=some d):∃i j,x=.int i/\y=.int j/\d=g i j:=by
 cases x<;>cases y<;>first|(cases h;exact⟨_,_,rfl,rfl,rfl⟩)|cases h
section
variable{X:Cx}
theorem Zbt{f:Value->Value->Sem Value}{g:Int->Int->V}{g':Int->Int->D}(h:W6 X f (Zuq g))(hg:∀(K:PySem.W.Frag) (H:Hp) i j,YJ K H (g' i j) (g i j)):VC X f (Z1 g'):=VC.of h fun x y H Q ⟨O,dx,dy,d,th,rx,ry,e,q⟩=>by
 obtain⟨i,j,rfl,rfl,rfl⟩:=Zla e
 exact⟨i,j,rx,ry,q _ H (Zf.refl _) (hg _ _ i j)⟩
theorem Zbs:VC X (binaryOp .Sub) (Z1 fun i j=>.int (i-j)):=Zbt Zy3 fun _ _ _ _=>rfl
theorem VW:VC X (compareOp .LtE) (Z1 fun i j=>.bl (decide (i<=j))):=Zbt op_le fun _ _ _ _=>rfl
theorem Zar:VC X (compareOp .Gt) (Z1 fun i j=>.bl (decide (j<i))):=Zbt op_gt fun _ _ _ _=>rfl
theorem Zf7:VC X (compareOp .GtE) (Z1 fun i j=>.bl (decide (j<=i))):=Zbt op_ge fun _ _ _ _=>rfl
def ZT:D->D->Option D
 |.int i,.int j=>some (.int (i+j))
 |.tup a,.tup b=>if a.isEmpty=false/\a.length+b.length<=ZN then some (.tup (a++b)) else none
 |.lst a,.lst b=>if a.length+b.length<=ZN then some (.lst (a++b)) else none
 |_,_=>none
theorem ZV:VC X (binaryOp .Add) ZT:=VC.of (W6.or Zrc (W6.or Zml Zza)) fun x y H Q ⟨O,dx,dy,d,th,rx,ry,e,q⟩=>by
 unfold ZT at e
 split at e
 ·cases e
  exact .inl ⟨_,_,rx,ry,q _ H (Zf.refl _) rfl⟩
 ·rename_i a b
  split at e
  ·rename_i hl
   cases e
   obtain⟨p,vs,rfl,hp,rp⟩:=rx
   obtain⟨p2,us,rfl,hp2,rp2⟩:=ry
   have l1:=rp.length
   have l2:=rp2.length
   refine .inr (.inl ⟨p,p2,vs,us,rfl,rfl,Wq.of (Zi _ _ hp),Wq.of (Zi _ _ hp2),fun z=>?_,?_,fun z=>?_,fun z r hr=>?_⟩)
   ·subst z
    have:a=[]:=List.eq_nil_of_length_eq_zero (by rw[<- l1];rfl)
    rw[this]at hl;exact absurd hl.1 (by decide)
   ·have:=Z5 hl.2;omega
   ·subst z
    have:b=[]:=List.eq_nil_of_length_eq_zero (by rw[<- l2];rfl)
    subst this
    rw[Q9]at q
    exact q _ H (Zf.refl _) ⟨p,vs,rfl,hp,rp⟩
   ·exact q _ _ (Zf.new hr) (Xg th hr (rp.append rp2))
  ·cases e
 ·rename_i a b
  split at e
  ·rename_i hl
   cases e
   obtain⟨p,vs,rfl,hp,rp⟩:=rx
   obtain⟨p2,us,rfl,hp2,rp2⟩:=ry
   have l1:=rp.length
   have l2:=rp2.length
   refine .inr (.inr ⟨p,p2,vs,us,rfl,rfl,Zi _ _ hp,Zi _ _ hp2,?_,fun r hr=>?_⟩)
   ·have:=Z5 hl;omega
   ·exact q _ _ (Zf.new hr) (Yj th hr (rp.append rp2))
  ·cases e
 ·cases e
noncomputable def Ul(i:Int):Bool:=@decide (-(2^64)<i/\i<2^64) (Classical.propDecidable _)
theorem Zci{i:Int}(h:Ul i=true):-(2^64)<i/\i<2^64:=@of_decide_eq_true _ (Classical.propDecidable _) h
noncomputable def XV:D->D->Option D
 |.int i,.int j=>if(Ul i||Ul j)=true then some (.int (i*j)) else none
 |.lst a,.int k=>@ite _ (-(2^63)<=k/\k<2^63/\a.length*k.toNat<=ZN) (Classical.propDecidable _) (some (.lst (List.replicate k.toNat a).flatten)) none
 |_,_=>none
theorem Zh5{K:PySem.W.Frag}{H:Hp}{ds:List D}{vs:List V}(r:Zr K H ds vs):∀n:Nat,Zr K H (List.replicate n ds).flatten (List.replicate n vs).flatten
 |0=>rfl
 |n+1=>by rw[JF,JF,List.flatten_cons,List.flatten_cons];exact r.append (Zh5 r n)
theorem X4:VC X (binaryOp .Mult) XV:=VC.of (W6.or Zy6 Zy4) fun x y H Q ⟨O,dx,dy,d,th,rx,ry,e,q⟩=>by
 unfold XV at e
 split at e
 ·rename_i i j
  split at e
  ·rename_i hs
   cases e
   refine .inl ⟨i,j,rx,ry,?_,q _ H (Zf.refl _) rfl⟩
   rcases Bool.or_eq_true_iff.mp hs with h|h
   ·exact .inl (Zci h)
   ·exact .inr (Zci h)
  ·cases e
 ·rename_i a k
  split at e
  ·rename_i hl
   cases e
   obtain⟨p,vs,rfl,hp,rp⟩:=rx
   have l1:=rp.length
   refine .inr ⟨p,k,vs,rfl,ry,Zi _ _ hp,hl.1,hl.2.1,?_,fun r hr=>?_⟩
   ·rw[l1];exact Z5 hl.2.2
   ·exact q _ _ (Zf.new hr) (Yj th hr (Zh5 rp _))
  ·cases e
 ·cases e
noncomputable def VH:D->D->Option D
 |.int i,.int j=>@ite _ (0<j/\j<1073741824) (Classical.propDecidable _) (some (.int (i/j))) none
 |_,_=>none
theorem Zct:VC X (binaryOp .FloorDiv) VH:=VC.of Zva fun x y H Q ⟨O,dx,dy,d,th,rx,ry,e,q⟩=>by
 unfold VH at e
 split at e
 ·rename_i i j
  split at e
  ·rename_i hs
   cases e
   exact⟨i,j,rx,ry,hs,q _ H (Zf.refl _) rfl⟩
  ·cases e
 ·cases e
def XW:D->D->Option D
 |.int i,.int j=>if 0<j then some (.int (i%j)) else none
 |_,_=>none
theorem XG:VC X (binaryOp .Mod) XW:=VC.of Zy7 fun x y H Q ⟨O,dx,dy,d,th,rx,ry,e,q⟩=>by
 unfold XW at e
 split at e
 ·rename_i i j
  split at e
  ·rename_i hs
   cases e
   exact⟨i,j,rx,ry,hs,q _ H (Zf.refl _) rfl⟩
  ·cases e
 ·cases e
noncomputable def Zqv:D->D->Option D
 |.int i,.int j=>@ite _ (0<=j/\j<=1000000/\i.natAbs<2^64) (Classical.propDecidable _) (some (.int (i^j.toNat))) none
 |_,_=>none
theorem Zu9:VC X (binaryOp .Pow) Zqv:=VC.of Zy5 fun x y H Q ⟨O,dx,dy,d,th,rx,ry,e,q⟩=>by
 unfold Zqv at e
 split at e
 ·rename_i i j
  split at e
  ·rename_i hs
   cases e
   exact⟨i,j,rx,ry,hs,q _ H (Zf.refl _) rfl⟩
  ·cases e
 ·cases e
theorem Zjr{K:PySem.W.Frag}{H:Hp}{ds:List D}{vs:List V}{i:Int}{d:D}(r:Zr K H ds vs)(h:VI ds i=some d):∃v,VI vs i=some v/\YJ K H d v:=by
 unfold VI at h ⊢
 rw[r.length]
 cases e:Zr6 ds.length i with
 |none=>rw[e]at h;cases h
 |some j=>rw[e]at h;exact r.get h
def YC:D->D->Option D
 |.lst ds,.int i=>VI ds i
 |.tup ds,.int i=>VI ds i
 |.scr ns,.int i=>(VI ns i).map D.int
 |_,_=>none
theorem Zwk{α β:Type}(f:α->β)(xs:List α)(i:Int):VI (xs.map f) i=(VI xs i).map f:=by
 unfold VI
 rw[Qd]
 cases Zr6 xs.length i with
 |none=>rfl
 |some j=>simp
theorem ZZ{a b:Expr}{fa fb:FE}{pos:Pos}(ha:EV X a fa)(hb:EV X b fb)(hs:Zhb b:=by exact fun _ _=>rfl):EV X (.Subscript a b pos) (f2 YC fa fb):=PE.imp (Zxd (Zvu.or Zz2) ha hb hs) fun σ H Q h=>Zcd (fun x y H Q ⟨O,dx,dy,d,th,rx,ry,e,q⟩=>by
 unfold YC at e
 split at e
 ·obtain⟨p,vs,rfl,hp,rp⟩:=rx
  obtain⟨v,e1,e2⟩:=Zjr rp e
  exact .inl ⟨p,vs,_,v,rfl,ry,WH.of (Zi _ _ hp),e1,q v H (Zf.refl _) e2⟩
 ·obtain⟨p,vs,rfl,hp,rp⟩:=rx
  obtain⟨v,e1,e2⟩:=Zjr rp e
  exact .inr ⟨p,vs,_,v,rfl,ry,Wq.of (Zi _ _ hp),e1,q v H (Zf.refl _) e2⟩
 ·rename_i ns i
  obtain⟨p,rfl,hp⟩:=rx
  cases e1:VI ns i with
  |none=>rw[e1]at e;cases e
  |some n =>
   rw[e1]at e;cases e
   exact .inl ⟨p,_,i,.int n,rfl,ry,Zf.seq Zi hp,by rw[Zwk,e1];rfl,q _ H (Zf.refl _) rfl⟩
 ·cases e) h
def Zzp:D->Option D
 |.int i=>some (.int (-i))
 |_=>none
theorem Z0t{a:Expr}{fa:FE}{pos:Pos}(hu:UnR X (unaryOp .USub) (rU fun i=>.int (-i)))(ha:EV X a fa):EV X (.UnaryOp .USub a pos) (f1 Zzp fa):=PE.imp (pe_un hu ha) fun σ H Q ⟨O,ρ,d,rv,e,q⟩=>by
 obtain⟨x,e1,e⟩:=bind_some e
 refine⟨O,ρ,x,rv,e1,fun v H1 s1 r1=>?_⟩
 cases x with
 |int i=>cases e;exact⟨i,r1,q _ H1 s1 rfl⟩
 |_=>cases e
def Zc2:List D->Option D
 |[.lst ds]=>some (.int ds.length)
 |[.tup ds]=>some (.int ds.length)
 |[.scr ns]=>some (.int ns.length)
 |_=>none
theorem Zdq:YY X (.builtin "len") Zc2:=YY.of Zg5 fun xs H Q ⟨O,ds,d,th,rs,e,q⟩=>by
 unfold Zc2 at e
 split at e
 ·rename_i es
  cases e
  obtain⟨v,vr,rfl,⟨p,vs,rfl,hp,rp⟩,ht⟩:=rs
  have:vr=[]:=ht
  subst this
  refine⟨p,vs,rfl,.inl (WH.of (Zi _ _ hp)),?_⟩
  rw[rp.length];exact q _ H (Zf.refl _) rfl
 ·rename_i es
  cases e
  obtain⟨v,vr,rfl,⟨p,vs,rfl,hp,rp⟩,ht⟩:=rs
  have:vr=[]:=ht
  subst this
  refine⟨p,vs,rfl,.inr (Wq.of (Zi _ _ hp)),?_⟩
  rw[rp.length];exact q _ H (Zf.refl _) rfl
 ·rename_i ns
  cases e
  obtain⟨v,vr,rfl,⟨p,rfl,hp⟩,ht⟩:=rs
  have:vr=[]:=ht
  subst this
  refine⟨p,_,rfl,.inl (Zf.seq Zi hp),?_⟩
  rw[Qd];exact q _ H (Zf.refl _) rfl
 ·cases e
def VQ:List D->Option D
 |[.lst ds]=>some (.tup ds)
 |[.tup ds]=>some (.tup ds)
 |_=>none
theorem Wx:YY X (.type "tuple") VQ:=YY.of Zei fun xs H Q ⟨O,ds,d,th,rs,e,q⟩=>by
 unfold VQ at e
 split at e
 ·rename_i es
  cases e
  obtain⟨v,vr,rfl,⟨p,vs,rfl,hp,rp⟩,ht⟩:=rs
  have:vr=[]:=ht
  subst this
  exact⟨p,vs,rfl,.inl ⟨WH.of (Zi _ _ hp),fun l hl=>q _ _ (Zf.new hl) (Xg th hl rp)⟩⟩
 ·rename_i es
  cases e
  obtain⟨v,vr,rfl,⟨p,vs,rfl,hp,rp⟩,ht⟩:=rs
  have:vr=[]:=ht
  subst this
  exact⟨p,vs,rfl,.inr ⟨Wq.of (Zi _ _ hp),q _ H (Zf.refl _) ⟨p,vs,rfl,hp,rp⟩⟩⟩
 ·cases e
def Zim:List D->Option D
 |[.int i,.int j]=>some (.int (if j<i then j else i))
 |_=>none
def Zin:List D->Option D
 |[.int i,.int j]=>some (.int (if j>i then j else i))
 |_=>none
theorem Zhv{K:PySem.W.Frag}{H:Hp}{i j:Int}{xs:List V}(r:Zr K H [.int i,.int j] xs):xs=[.int i,.int j]:=by
 obtain⟨v,vr,rfl,h1,w,wr,rfl,h2,h3⟩:=r
 rw[show v=_ from h1,show w=_ from h2,show wr=_ from h3]
theorem Z04(hc:X.calm=true):YY X (.builtin "min") Zim:=YY.of (Zo4 hc) fun xs H Q ⟨O,ds,d,th,rs,e,q⟩=>by
 unfold Zim at e
 split at e
 ·cases e;exact⟨_,_,Zhv rs,q _ H (Zf.refl _) rfl⟩
 ·cases e
theorem Z05(hc:X.calm=true):YY X (.builtin "max") Zin:=YY.of (Zo5 hc) fun xs H Q ⟨O,ds,d,th,rs,e,q⟩=>by
 unfold Zin at e
 split at e
 ·cases e;exact⟨_,_,Zhv rs,q _ H (Zf.refl _) rfl⟩
 ·cases e
def Zau:List D->Option D
 |[.int i]=>some (.int i)
 |[.bl k]=>some (.int (if k then 1 else 0))
 |_=>none
theorem Zg1:YY X (.type "int") Zau:=YY.of Zff fun xs H Q ⟨O,ds,d,th,rs,e,q⟩=>by
 unfold Zau at e
 split at e
 ·cases e
  obtain⟨v,vr,rfl,h1,h3⟩:=rs
  rw[show v=_ from h1,show vr=_ from h3]
  exact .inl ⟨_,rfl,q _ H (Zf.refl _) rfl⟩
 ·cases e
  obtain⟨v,vr,rfl,h1,h3⟩:=rs
  rw[show v=_ from h1,show vr=_ from h3]
  exact .inr ⟨_,rfl,q _ H (Zf.refl _) rfl⟩
 ·cases e
end
mutual
def Ya:D->PyData
 |.non=>.none
 |.bl b=>.bool b
 |.int i=>.int i
 |.str x=>.str x
 |.tup ds=>.tuple (XT ds)
 |.lst ds=>.list (XT ds)
 |.scr ns=>.list (ns.map PyData.int)
 |.dcK _ _=>.dict []
 |.dcT _ _=>.dict []
 |.dcF _ _=>.dict []
def XT:List D->List PyData
 |[]=>[]
 |d::ds=>Ya d::XT ds
end
def Zvd(d:D):Bool:=(Ya d).canLay0&&decide ((Ya d).depth<=64)
def YE:D->D->Option D:=fun x y=>if(Zvd x&&Zvd y)=true then some (.bl (PyData.eqv (Ya x) (Ya y))) else none
def XU:D->D->Option D:=fun x y=>if(Zvd x&&Zvd y)=true then some (.bl (!PyData.eqv (Ya x) (Ya y))) else none
section
variable{X:Cx}{pins:List (Addr×Obj)}{σ:St}{H:Hp}{s:Shared}
theorem Zco{h:Heap}:∀(ns:List Int) (us:List Value),ZB (ns.map V.int) us->∃as,ReadsAll h us (ns.map PyData.int) as
 |[],_,.nil=>⟨_,.nil⟩
 |n::ns,_,.cons r t=>by
  obtain⟨tk,rfl⟩:=r
  obtain⟨as,q⟩:=Zco ns _ t
  exact⟨_,.cons (.int n tk) q⟩
mutual
theorem Wu(I:Zq X pins σ H s):∀(d:D) (v:V) (u:Value),(Ya d).canLay0=true->YJ X.K H d v->ZU v u->∃as,Reads s.heap u (Ya d) as
 |.non,_,_,_,h,r=>by subst h;cases r;exact⟨_,.none⟩
 |.bl b,_,_,_,h,r=>by subst h;cases r;exact⟨_,.bool b⟩
 |.int i,_,_,_,h,r=>by subst h;obtain⟨t,rfl⟩:=r;exact⟨_,.int i t⟩
 |.str x,_,_,_,h,r=>by subst h;obtain⟨t,rfl⟩:=r;exact⟨_,.str x t⟩
 |.tup ds,_,_,c,⟨a,vs,e,ht,rs⟩,r=>by
  subst e
  cases r
  obtain⟨its,rv,⟨o,h1,h2,n,h3⟩,_⟩:=I.tuple (Wq.of ht)
  obtain⟨as,q⟩:=VR I ds vs its c rs rv
  exact⟨_,.tuple h1 h2 h3 (by simpa using q)⟩
 |.lst ds,_,_,c,⟨a,vs,e,ht,rs⟩,r=>by
  subst e
  cases r
  obtain⟨its,rv,⟨o,n,h1,h2,_,h3⟩,_⟩:=I.list (WH.of ht)
  obtain⟨as,q⟩:=VR I ds vs its c rs rv
  exact⟨_,.list h1 h2 h3 (by simpa using q)⟩
 |.scr ns,_,_,c,⟨a,e,ht⟩,r=>by
  subst e
  cases r
  obtain⟨its,rv,⟨o,n,h1,h2,_,h3⟩,_⟩:=I.list ht
  obtain⟨as,q⟩:=Zco (h:=s.heap) ns its rv
  exact⟨_,.list h1 h2 h3 (by simpa using q)⟩
 |.dcK _ _,_,_,c,_,_=>by cases c
 |.dcT _ _,_,_,c,_,_=>by cases c
 |.dcF _ _,_,_,c,_,_=>by cases c
theorem VR(I:Zq X pins σ H s):∀(ds:List D) (vs:List V) (us:List Value),PyData.canLayAll0 (XT ds)=true->Zr X.K H ds vs->ZB vs us->∃as,ReadsAll s.heap us (XT ds) as
 |[],_,_,_,h,r=>by
  have:_=[]:=h
  subst this
  cases r
  exact⟨_,.nil⟩
 |d::ds,_,_,c,⟨v,vr,e,h,t⟩,r=>by
  subst e
  cases r with
  |cons r1 r2 =>
   have c':(Ya d).canLay0=true/\PyData.canLayAll0 (XT ds)=true:=by simpa [XT,PyData.canLayAll0] using c
   obtain⟨as,q⟩:=Wu I d v _ c'.1 h r1
   obtain⟨bs,q'⟩:=VR I ds vr _ c'.2 t r2
   exact⟨_,.cons q q'⟩
end
theorem Zf9{d:D}(h:Zvd d=true):(Ya d).canLay0=true/\(Ya d).depth<=64:=by
 unfold Zvd at h
 simpa using h
theorem Y7(hu:X.A.units+64<cLine):VC X (compareOp .Eq) YE:=by
 intro pins s σ H x y v u Q I rx ry h
 obtain⟨O,dx,dy,d,th,r1,r2,e,q⟩:=h
 unfold YE at e
 split at e
 ·rename_i hk
  cases e
  obtain⟨k1,k2⟩:=Bool.and_eq_true_iff.mp hk
  obtain⟨a1,b1⟩:=Zf9 k1
  obtain⟨a2,b2⟩:=Zf9 k2
  obtain⟨as,q1⟩:=Wu I dx x v a1 (YJ.mono Zi dx x r1) rx
  obtain⟨bs,q2⟩:=Wu I dy y u a2 (YJ.mono Zi dy y r2) ry
  exact SeqAt.compareEq_reads q1 q2 a1 a2 (by omega) ⟨.bl _,H,I,rfl,q _ H (Zf.refl _) rfl⟩
 ·cases e
theorem WT(hu:X.A.units+64<cLine):VC X (compareOp .NotEq) XU:=by
 intro pins s σ H x y v u Q I rx ry h
 obtain⟨O,dx,dy,d,th,r1,r2,e,q⟩:=h
 unfold XU at e
 split at e
 ·rename_i hk
  cases e
  obtain⟨k1,k2⟩:=Bool.and_eq_true_iff.mp hk
  obtain⟨a1,b1⟩:=Zf9 k1
  obtain⟨a2,b2⟩:=Zf9 k2
  obtain⟨as,q1⟩:=Wu I dx x v a1 (YJ.mono Zi dx x r1) rx
  obtain⟨bs,q2⟩:=Wu I dy y u a2 (YJ.mono Zi dy y r2) ry
  exact SeqAt.compareNe_reads q1 q2 a1 a2 (by omega) ⟨.bl _,H,I,rfl,q _ H (Zf.refl _) rfl⟩
 ·cases e
def Vu:D->D->Option D
 |.bl a,.bl b=>some (.bl (a == b))
 |.non,.non=>some (.bl true)
 |.non,.bl _=>some (.bl false)
 |.bl _,.non=>some (.bl false)
 |.int _,.bl _=>some (.bl false)
 |.int _,.non=>some (.bl false)
 |.tup _,.non=>some (.bl false)
 |.lst _,.non=>some (.bl false)
 |_,_=>none
theorem Zr7{x y:D}{d:D}{v w:V}{a b:Value}{K:PySem.W.Frag}{H:Hp}(e:Vu x y=some d)(r1:YJ K H x v)(r2:YJ K H y w)(q1:ZU v a)(q2:ZU w b):plainIs a b=true/\d=.bl (a == b):=by
 unfold Vu at e
 split at e
 ·rename_i p q;cases e;rw[show v=_ from r1]at q1;rw[show w=_ from r2]at q2;rw[show a=_ from q1,show b=_ from q2];exact⟨rfl,by cases p<;>cases q<;>rfl⟩
 ·cases e;rw[show v=_ from r1]at q1;rw[show w=_ from r2]at q2;rw[show a=_ from q1,show b=_ from q2];exact⟨rfl,by simp⟩
 ·cases e;rw[show v=_ from r1]at q1;rw[show w=_ from r2]at q2;rw[show a=_ from q1,show b=_ from q2];exact⟨rfl,rfl⟩
 ·cases e;rw[show v=_ from r1]at q1;rw[show w=_ from r2]at q2;rw[show a=_ from q1,show b=_ from q2];exact⟨rfl,rfl⟩
 ·cases e;rw[show v=_ from r1]at q1;rw[show w=_ from r2]at q2;obtain⟨t,rfl⟩:=q1;rw[show b=_ from q2];exact⟨rfl,rfl⟩
 ·cases e;rw[show v=_ from r1]at q1;rw[show w=_ from r2]at q2;obtain⟨t,rfl⟩:=q1;rw[show b=_ from q2];exact⟨rfl,rfl⟩
 ·cases e;obtain⟨p,vs,rfl,_⟩:=r1;rw[show w=_ from r2]at q2;rw[show a=_ from q1,show b=_ from q2];exact⟨rfl,rfl⟩
 ·cases e;obtain⟨p,vs,rfl,_⟩:=r1;rw[show w=_ from r2]at q2;rw[show a=_ from q1,show b=_ from q2];exact⟨rfl,rfl⟩
 ·cases e
theorem Zaq:VC X (compareOp .Is) Vu:=by
 intro pins s σ H x y v u Q I rx ry h
 obtain⟨O,dx,dy,d,th,r1,r2,e,q⟩:=h
 obtain⟨hp,rfl⟩:=Zr7 e r1 r2 rx ry
 exact wpAny_is_plain hp ⟨.bl _,H,I,rfl,q _ H (Zf.refl _) rfl⟩
end
def XM:List D->Option (List Int)
 |[]=>some []
 |.int i::ds=>(XM ds).bind fun r=>some (i::r)
 |_=>none
theorem Xw:∀{ds:List D} {is:List Int},XM ds=some is->ds=is.map D.int
 |[],_,h=>by cases h;rfl
 |d::ds,is,h=>by
  cases d with
  |int i =>
   obtain⟨r,e,h⟩:=bind_some h
   cases h
   rw[Qh,Xw e]
  |_=>cases h
theorem Zda(is:List Int):XM (is.map D.int)=some is:=by
 induction is with
 |nil=>rfl
 |cons i is ih=>rw[Qh,XM,ih];rfl
def Zjp:List D->Option (List Bool)
 |[]=>some []
 |.bl i::ds=>(Zjp ds).bind fun r=>some (i::r)
 |_=>none
theorem Zdv:∀{ds:List D} {is:List Bool},Zjp ds=some is->ds=is.map D.bl
 |[],_,h=>by cases h;rfl
 |d::ds,is,h=>by
  cases d with
  |bl i =>
   obtain⟨r,e,h⟩:=bind_some h
   cases h
   rw[Qh,Zdv e]
  |_=>cases h
theorem Zpa(is:List Bool):Zjp (is.map D.bl)=some is:=by
 induction is with
 |nil=>rfl
 |cons i is ih=>rw[Qh,Zjp,ih];rfl
def sumD:List D->Option D
 |[.lst ds]=>(XM ds).bind fun is=>some (.int is.sum)
 |[.tup ds]=>(XM ds).bind fun is=>some (.int is.sum)
 |_=>none
def Zbj:List D->Option D
 |[.lst ds]=>(Zjp ds).bind fun is=>some (.bl (is.all id))
 |_=>none
section
variable{X:Cx}{pins:List (Addr×Obj)}{σ:St}{H:Hp}{s:Shared}
theorem Zcn{K:PySem.W.Frag}{d:D}{xs:List V}(r:Zr K H [d] xs):∃v,xs=[v]/\YJ K H d v:=by
 obtain⟨v,vr,e,h,t⟩:=r
 have:vr=[]:=t
 subst this
 exact⟨v,e,h⟩
theorem Zt2{is:List Bool}:∀{us:List Value},ZB (is.map V.bl) us->us=is.map Value.bool:=by
 induction is with
 |nil=>intro us r;cases r;rfl
 |cons i is ih =>
  intro us r
  cases r with
  |cons r1 r2=>rw[Qh,show _=_ from r1,ih r2]
theorem Zl7{K:PySem.W.Frag}:∀{is:List Bool} {vs:List V},Zr K H (is.map D.bl) vs->vs=is.map V.bl
 |[],_,h=>h
 |i::is,_,⟨v,r,e,h,t⟩=>by
  have:v=.bl i:=h
  subst this;subst e;rw[Qh,Zl7 t]
theorem Zki{is:List Bool}(b:Bool):(List.range is.length).map (fun i=>is.getD i b)=is:=by
 apply List.ext_getElem
 ·simp
 ·intro i h1 h2
  simp at h1
  simp[h2]
theorem Zoa{p:Addr}{is:List Bool}{A:Around}(hh:A.handled=none)(hl:s.heap.IsList p (is.map Value.bool).toArray){Q:Value->Shared->Prop}
  (h:∀I fp wr P St,Walks X.prog X.w A I fp wr is.length P St->TruthOf X.prog X.w A P (fun i=>is.getD i false)->∀s2:Shared,s2.os=s.os->s2={ s with heap:=s2.heap }->St 0 s2.heap->(∀b o,s.heap.get? b=some o->s2.heap.get? b=some o) ->
   (∀h':Heap,(∀b o,b∉wr->s2.heap.get? b=some o->h'.get? b=some o)->∀b o,s.heap.get? b=some o->h'.get? b=some o)->Q (.ref I) s2) {E:Value->Shared->Prop} :
  wpAny (model X.prog X.w) A (pyIter (.ref p)) Q E s:=by
 have hlt:p<s.heap.objs.size:=by obtain⟨_,e,_⟩:=hl;exact Qk e
 have hsz:(is.map Value.bool).toArray.size=is.length:=by simp
 have W:=Walks.list (prog:=X.prog) (w:=X.w) (A:=A) hh s.heap.objs.size p (Qo hlt) (is.map Value.bool).toArray
 rw[hsz]at W
 refine wpAny_pyIter_list hl (h _ _ _ _ _ W (fun i v s' Q' E' hP hQ=>?_) _ rfl rfl ⟨⟨_,Qm _ rfl,rfl,rfl⟩,hl.push _⟩ (fun b o e=>Qb _ e) fun h' hk b o e=>?_)
 ·have hv:v=.bool (is.getD i false):=by
   have hP:(List.map Value.bool is).toArray[i]?=some v:=hP
   rw[List.getElem?_toArray,QC]at hP
   cases q:is[i]? with
   |none=>rw[q]at hP;cases hP
   |some b=>rw[q]at hP;simp[List.getD,q];exact(Q7 hP).symm
  subst hv
  exact JH hQ
 ·refine hk b o (fun hm=>?_) (Qb _ e)
  have:b=s.heap.objs.size:=by simpa using hm
  subst this
  exact absurd (Qk e) (Ji _)
theorem Zdr(hc:X.calm=true):YY X (.builtin "all") Zbj:=by
 intro pins s σ H xs us Q I rs h
 obtain⟨O,ds,d,th,rp,e,q⟩:=h
 unfold Zbj at e
 split at e
 ·obtain⟨is,e1,e⟩:=bind_some e
  cases e
  cases Zdv e1
  obtain⟨v,rfl,p,vs,rfl,hp,r2⟩:=Zcn rp
  cases Zl7 r2
  obtain⟨u,rfl,ru⟩:=Xp rs
  cases ru
  obtain⟨its,rv,pl,_⟩:=I.list (WH.of (Zi _ _ hp))
  cases Zt2 rv
  refine call_all_walk (Zoa (X:=X) (A:=X.A.in1) (I.ok.hd hc) pl.isList fun It fp wr P St W tr s2 _ es st k1 k2=>?_)
  refine⟨It,fp,wr,_,P,St,_,rfl,W,st,tr,fun h' tk hk=>?_⟩
  have ea:(List.range is.length).all (fun i=>is.getD i false)=is.all id:=by
   conv=>rhs;rw[<- Zki (is:=is) false]
   rw[List.all_map];rfl
  rw[ea]
  rw[es]
  exact⟨.bl _,H,I.kept (k2 h' hk),rfl,q _ H (Zf.refl _) rfl⟩
 ·cases e
def Za7:D->String
 |.non=>"NoneType"
 |.bl _=>"bool"
 |.int _=>"int"
 |.str _=>"str"
 |.tup _=>"tuple"
 |.lst _=>"list"
 |.scr _=>"list"
 |.dcK _ _=>"dict"
 |.dcT _ _=>"dict"
 |.dcF _ _=>"dict"
def Zxm(T:String)(d:D):Bool:=(Za7 d == T)||((Za7 d == "bool")&&(T == "int"))
def Zgl(T:String):D->Option D:=fun d=>some (.bl (Zxm T d))
structure Zju(K:PySem.W.Frag)(T:String):Prop where
 ans:∀S∈["NoneType","bool","int","str","tuple","list","dict"],PySem.W.kitOne K (.type S) (.type T)=some ((S == T)||((S == "bool")&&(T == "int")))
theorem Zk6{A:Around}{E:Value->Shared->Prop}{T:String}{d:D}{v:V}{u:Value}{Q:Value->Shared->Prop}(kt:Zju X.K T)(I:Zq X pins σ H s)(r:YJ X.K H d v)(ru:ZU v u)(h:∀tk,Q (.bool (Zxm T d)) { s with toks:=tk }) :
  wpAny (model X.prog X.w) A (call (.builtin "isinstance") [u,.type T]) Q E s:=by
 have an:PySem.W.kitOne X.K (.type (Za7 d)) (.type T)=some (Zxm T d):=kt.ans (Za7 d) (by cases d<;>simp[Za7])
 cases d with
 |non=>rw[show v=_ from r]at ru;cases ru;exact Jq PySem.W.kitx_none I.kIn True.intro an (fun z=>nomatch z) h
 |bl y=>rw[show v=_ from r]at ru;cases ru;exact Jq PySem.W.kitx_bool I.kIn True.intro an (fun z=>nomatch z) h
 |int i=>rw[show v=_ from r]at ru;obtain⟨t,rfl⟩:=ru;exact Jq PySem.W.kitx_int I.kIn True.intro an (fun z=>nomatch z) h
 |str y=>rw[show v=_ from r]at ru;obtain⟨t,rfl⟩:=ru;exact Jq PySem.W.kitx_str I.kIn True.intro an (fun z=>nomatch z) h
 |tup ds =>
  obtain⟨a,vs,rfl,ht,_⟩:=r
  cases ru
  obtain⟨its,_,⟨o,h1,h2,_⟩,_⟩:=I.tuple (Wq.of ht)
  exact Jq PySem.W.kitx_tuple I.kIn ⟨o,h1,h2⟩ an (fun z=>nomatch z) h
 |lst ds =>
  obtain⟨a,vs,rfl,ht,_⟩:=r
  cases ru
  obtain⟨its,_,⟨o,n,h1,h2,_⟩,_⟩:=I.list (WH.of ht)
  exact Jq PySem.W.kitx_list I.kIn ⟨o,h1,h2⟩ an (fun z=>nomatch z) h
 |scr ns =>
  obtain⟨a,rfl,ht⟩:=r
  cases ru
  obtain⟨its,_,⟨o,n,h1,h2,_⟩,_⟩:=I.list ht
  exact Jq PySem.W.kitx_list I.kIn ⟨o,h1,h2⟩ an (fun z=>nomatch z) h
 |dcK ks ds =>
  obtain⟨a,kvs,rfl,hk,_⟩:=r
  cases ru
  obtain⟨_,_,vs,_,o,es,ep,h1,h2,_⟩:=(show Yr X.prog X.w H s.heap a (.dK kvs) from I.hok a _ hk)
  exact Jq PySem.W.kitx_dict I.kIn ⟨o,h1,h2.1⟩ an (fun z=>nomatch z) h
 |dcT ks ds =>
  obtain⟨a,kvs,rfl,hk,_⟩:=r
  cases ru
  obtain⟨_,_,xs,_,o,es,ep,h1,h2,_⟩:=(show Yr X.prog X.w H s.heap a (.dT kvs) from I.hok a _ hk)
  exact Jq PySem.W.kitx_dict I.kIn ⟨o,h1,h2.1⟩ an (fun z=>nomatch z) h
 |dcF ks ds =>
  obtain⟨a,fo,kvs,rfl,hk,_⟩:=r
  cases ru
  obtain⟨_,_,_,xs,_,o,es,ep,h1,h2,_⟩:=(show Yr X.prog X.w H s.heap a (.frz fo (.dT kvs)) from I.hok a _ hk)
  exact Jq PySem.W.kitx_dict I.kIn ⟨o,h1,h2.1⟩ an (fun z=>nomatch z) h
theorem Zjl{T:String}(kt:Zju X.K T):Xd X (.builtin "isinstance") (fun xs H Q=>∃O d v r,YG O H/\xs=[v,.ty T]/\YJ X.K (mask O H) d v/\r=D.bl (Zxm T d)/\∀w H',Zf H H'->YJ X.K (mask O H') r w->Q w H'):=by
 intro pins s σ H xs us Q I rs h
 obtain⟨O,d,v,r,th,rfl,hr,rfl,q⟩:=h
 cases rs with
 |cons r1 rs =>
  cases rs with
  |cons r2 rs =>
   cases rs
   cases r2
   exact Zk6 kt I (YJ.mono Zi d v hr) r1 fun tk=>⟨.bl _,H,I.tok tk,rfl,q _ H (Zf.refl _) rfl⟩
theorem X0{a:Expr}{fa:FE}{T:String}{x:Str}{p p2 pos:Pos}(kt:Zju X.K T)(ha:EV X a fa)(hm:X.mg "isinstance"=none)(hx:X.mg x=none)(hv:bootBuiltins x=some (.type T))(hgx:Gl X x:=by rfl)(hg:Gl X "isinstance":=by rfl)
  (hn:x≠"__name__":=by decide) (hd:(x == ("__debug__":Str))=false:=by decide)
  (h1:starEach [a,.Name x p2] X.env=(false,eval a X.env)::starEach [.Name x p2] X.env:=by rfl) (h2:starEach [.Name x p2] X.env=(false,eval (.Name x p2) X.env)::starEach [] X.env:=by rfl)
  (hpl:(backTo pos (starEach [.Name x p2] X.env)).any (·.1)=false:=by rfl):EV X (.Call (.Name "isinstance" p) [a,.Name x p2] [] pos) (f1 (Zgl T) fa) :=
 PE.imp (VU (Zjl kt) hg hm boot_isinstance (Ym ha (Ym (Zmh (v:=.ty T) hgx hx hv rfl hn hd) Xh h2) h1) (by decide) (by decide) h1 hpl) fun σ H Q ⟨O,ρ,d,rv,e,q⟩=>by
  obtain⟨z,e1,e⟩:=bind_some e
  cases e
  exact⟨O,ρ,z,rv,e1,fun v H1 s1 r1=>⟨O,z,v,_,rv.th.mono s1,rfl,r1,rfl,fun w H2 s2 r2=>q w H2 (Zf.trans s1 s2) r2⟩⟩
end
end L2

namespace ZP
open PySem PyProof.Rows
section
variable{prog:Program}{w:World}{A:Around}{E:Value->Shared->Prop}{s:Shared}
def It2(b:Bool)(h:Heap)(p q:Addr)(k:Nat):Prop:=if b=true then h.IsListIter p q k else h.IsTupleIter p q k
def Sq2(b:Bool)(h:Heap)(q:Addr)(xs:Array Value):Prop:=if b=true then h.IsList q xs else h.IsTuple q xs
theorem It2.ext{b:Bool}{h h':Heap}{p q c:Addr}{k:Nat}(x:It2 b h p q k)(e:Heap.ExtBut c h h')(n:p≠c):It2 b h' p q k:=by
 cases b
 ·obtain⟨o,ho,r⟩:=x;exact⟨o,e _ _ n ho,r⟩
 ·obtain⟨o,ho,r⟩:=x;exact⟨o,e _ _ n ho,r⟩
theorem It2.at_{b:Bool}{h h':Heap}{p q:Addr}{k:Nat}(x:It2 b h p q k)(e:∀o,h.get? p=some o->h'.get? p=some o):It2 b h' p q k:=by
 cases b
 ·obtain⟨o,ho,r⟩:=x;exact⟨o,e _ ho,r⟩
 ·obtain⟨o,ho,r⟩:=x;exact⟨o,e _ ho,r⟩
theorem It2.ob{b:Bool}{h:Heap}{p q:Addr}{k:Nat}(x:It2 b h p q k):∃o,h.get? p=some o/\∀v,o.data≠.cell v:=by
 cases b
 ·obtain⟨o,ho,_,d⟩:=x;exact⟨o,ho,fun v z=>by rw[d]at z;cases z⟩
 ·obtain⟨o,ho,_,d⟩:=x;exact⟨o,ho,fun v z=>by rw[d]at z;cases z⟩
theorem Sq2.ext{b:Bool}{h h':Heap}{q c:Addr}{xs:Array Value}(x:Sq2 b h q xs)(e:Heap.ExtBut c h h')(n:q≠c):Sq2 b h' q xs:=by
 cases b
 ·obtain⟨o,ho,r⟩:=x;exact⟨o,e _ _ n ho,r⟩
 ·obtain⟨o,ho,r⟩:=x;exact⟨o,e _ _ n ho,r⟩
theorem Zpv{p q:Addr}{k:Nat}{xs:Array Value}{y:Value}{Q:Value->Shared->Prop}(hi:s.heap.IsTupleIter p q k)(hq:s.heap.IsTuple q xs)(hy:xs[k]?=some y)
  (done:∀h',h'.IsTupleIter p q (k+1)->Heap.SameBut p s.heap h'->Q y { s with heap:=h' }):wpAny (model prog w) A (Builtin.SmallTypes.nextOf (.ref p)) Q E s:=by
 obtain⟨oi,gi,ci,di⟩:=id hi
 obtain⟨oq,gq,_,nq,dq⟩:=hq
 unfold Builtin.SmallTypes.nextOf
 refine Qa (Q2 (name:=Str.ofString "__next__") hi.typeIs F.slot_tuple_iterator_next (Q0 F.slot_tuple_iterator_next hi.typeIs F.entry_tuple_iterator_next ?_ (F.args_tuple_iterator_next_1 _)))
 show wpAny _ _ (field (.ref p) 0 >>= _) _ _ s
 refine Qa (Jc gi di (x:=.ref q) rfl ?_)
 show wpAny _ _ (if(Value.ref q == Value.none)=true then _ else _) _ _ s
 rw[if_neg (fun z:(Value.ref q == Value.none)=true=>Qv z)]
 show wpAny _ _ (field (.ref p) 1 >>= _) _ _ s
 refine Qa (Jc gi di (x:=.int k 0) rfl ?_)
 show wpAny _ _ (seqItems? (.ref q) >>= _) _ _ s
 refine Qa (Js gq dq ?_)
 simp only[QF,hy]
 refine Qa (JQ gi di (by simp) (Qc ⟨y,rfl,Qc (done _ ?_ (Q6 ..))⟩))
 refine⟨_,QR _ gi (Obj.isFreed_of_fields (Jh di _)),(Obj.cls_mapFields ..).trans ci,?_⟩
 rw[Jh di]
 simp[rawInt]
theorem Zpu{p q:Addr}{k:Nat}{xs:Array Value}{Q:Value->Shared->Prop}(hh:A.handled=none)(hi:s.heap.IsTupleIter p q k)(hq:s.heap.IsTuple q xs)(hy:xs[k]?=none)
  (out:∀h' e,Heap.ExtBut p s.heap h'->(∃o,h'.get? e=some o/\o.cls=.type "StopIteration")->E (.ref e) { s with heap:=h' }):wpAny (model prog w) A (Builtin.SmallTypes.nextOf (.ref p)) Q E s:=by
 obtain⟨oi,gi,ci,di⟩:=id hi
 obtain⟨oq,gq,_,nq,dq⟩:=hq
 unfold Builtin.SmallTypes.nextOf
 refine Qa (Q2 (name:=Str.ofString "__next__") hi.typeIs F.slot_tuple_iterator_next (Q0 F.slot_tuple_iterator_next hi.typeIs F.entry_tuple_iterator_next ?_ (F.args_tuple_iterator_next_1 _)))
 show wpAny _ _ (field (.ref p) 0 >>= _) _ _ s
 refine Qa (Jc gi di (x:=.ref q) rfl ?_)
 show wpAny _ _ (if(Value.ref q == Value.none)=true then _ else _) _ _ s
 rw[if_neg (fun z:(Value.ref q == Value.none)=true=>Qv z)]
 show wpAny _ _ (field (.ref p) 1 >>= _) _ _ s
 refine Qa (Jc gi di (x:=.int k 0) rfl ?_)
 show wpAny _ _ (seqItems? (.ref q) >>= _) _ _ s
 refine Qa (Js gq dq ?_)
 simp only[QF,hy]
 refine Qa (wpAny_rule (Qa (JQ gi di (by simp) ?_)))
 show wpAny _ _ (newExc (.type "StopIteration") [] >>= fun _=>_) _ _ _
 refine Qa ?_
 simp only[newExc,newTuple]
 refine Qa (QU (hd:=by size_fits) ?_)
 refine Qa (m:=firstArgMember _ _) (wpAny_of_eq (a:=Value.none) (by first|rfl|(simp only[firstArgMember]<;>rfl)) ?_)
 refine QU (hd:=by size_fits) ?_
 simp only[raiseNew]
 refine Qa (wpAny_handled ?_)
 first|rw[show A.in1.handled=none from hh]|rw[hh]
 refine Qa (Qc (wpAny_throw (out _ _ (((Q6 ..).extBut.push _).push _) ⟨_,Qm _ rfl,rfl⟩)))
theorem Zrk{b:Bool}{p q:Addr}{k:Nat}{xs:Array Value}{y:Value}{Q:Value->Shared->Prop}(hi:It2 b s.heap p q k)(hq:Sq2 b s.heap q xs)(hy:xs[k]?=some y)
  (done:∀h',It2 b h' p q (k+1)->Heap.SameBut p s.heap h'->Q y { s with heap:=h' }):wpAny (model prog w) A (Builtin.SmallTypes.nextOf (.ref p)) Q E s:=by
 cases b
 ·exact Zpv hi hq hy done
 ·exact wpAny_nextOf_list_item hi hq hy done
theorem Zxf{b:Bool}{p q:Addr}{k:Nat}{xs:Array Value}{Q:Value->Shared->Prop}(hh:A.handled=none)(hi:It2 b s.heap p q k)(hq:Sq2 b s.heap q xs)(hy:xs[k]?=none)
  (out:∀h' e,Heap.ExtBut p s.heap h'->(∃o,h'.get? e=some o/\o.cls=.type "StopIteration")->E (.ref e) { s with heap:=h' }):wpAny (model prog w) A (Builtin.SmallTypes.nextOf (.ref p)) Q E s:=by
 cases b
 ·exact Zpu hh hi hq hy out
 ·exact wpAny_nextOf_list_end hh hi hq hy out
structure Apart(c u v p1 p2 q1 q2:Addr):Prop where
 uc:u≠c
 vc:v≠c
 p1c:p1≠c
 p2c:p2≠c
 uv:u≠v
 up1:u≠p1
 up2:u≠p2
 vp1:v≠p1
 vp2:v≠p2
 p12:p1≠p2
 q1c:q1≠c
 q1v:q1≠v
 q1p1:q1≠p1
 q1p2:q1≠p2
 q2c:q2≠c
 q2v:q2≠v
 q2p1:q2≠p1
 q2p2:q2≠p2
variable{b1 b2:Bool}{c u v p1 p2 q1 q2:Addr}{k1 k2:Nat}{xs ys:Array Value}{x y a b:Value}
theorem znext{Q:Value->Shared->Prop}(D:Apart c u v p1 p2 q1 q2)(hz:IsZip s.heap c u v .none)(hu:IsPair s.heap u (.ref p1) (.ref p2))(hv:IsPair s.heap v a b)
  (g1:It2 b1 s.heap p1 q1 k1) (g2:It2 b2 s.heap p2 q2 k2) (d1:Sq2 b1 s.heap q1 xs) (d2:Sq2 b2 s.heap q2 ys) (hx:xs[k1]?=some x) (hy:ys[k2]?=some y)
  (done:∀h',IsZip h' c u v (rawInt s.heap.objs.size)->IsPair h' v x y->It2 b1 h' p1 q1 (k1+1)->It2 b2 h' p2 q2 (k2+1)->IsPair h' s.heap.objs.size x y->h'.objs.size=s.heap.objs.size+1 ->
   (∀m o,m≠c->m≠v->m≠p1->m≠p2->s.heap.get? m=some o->h'.get? m=some o)->Q (.ref s.heap.objs.size) { s with heap:=h' }) :
  wpAny (model prog w) A (Builtin.«zip.__next__» ⟨[.ref c],[]⟩) (fun fin s'=>∃r,fin=.done (.ret r)/\Q r s') E s:=by
 show wpAny _ _ (field (.ref c) 2 >>= _) _ _ _
 refine Qa (Jc (x:=.bool false) hz rfl rfl ?_)
 show wpAny _ _ (field (.ref c) 3 >>= _) _ _ _
 refine Qa (Jc (x:=.ref u) hz rfl rfl ?_)
 refine Qa (Js hu rfl ?_)
 show wpAny _ _ (Builtin.SmallTypes.ownedTupleIsFree (.ref c) >>= _) _ _ _
 refine Qa ?_
 unfold Builtin.SmallTypes.ownedTupleIsFree
 refine Qa (Jc (x:=.none) hz rfl rfl (Qc ?_))
 simp only[if_true]
 refine Qa (wpAny_rule ?_)
 refine Qa (Jc (x:=.ref v) hz rfl rfl ?_)
 refine Qa (J5 hz (by simp) fun e1 z1 t1=>?_)
 replace z1:IsZip e1 c u v .ellipsis:=z1
 refine Qa ?_
 simp only[List.zipIdx_cons,List.zipIdx_nil,List.forIn_cons,List.forIn_nil]
 refine Qa (Qa (wpAny_onRaise ?_))
 show wpAny _ _ (Builtin.SmallTypes.nextOf (.ref p1) >>= _) _ _ _
 refine Qa (Zrk (g1.ext t1.extBut D.p1c) (d1.ext t1.extBut D.q1c) hx fun e2 i2 t2=>Qc ?_)
 have v2:IsPair e2 v a b:=t2.extBut _ _ D.vp1 (t1.extBut _ _ D.vc hv)
 refine Qa (Js v2 rfl ?_)
 refine Qa (wpAny_updateSeq_pair v2 fun e3 v3 t3=>?_)
 replace v3:IsPair e3 v x b:=v3
 refine Qa (wpAny_letGo (Qc ?_))
 refine Qa (Qa (wpAny_onRaise ?_))
 show wpAny _ _ (Builtin.SmallTypes.nextOf (.ref p2) >>= _) _ _ _
 refine Qa (Zrk (((g2.ext t1.extBut D.p2c).ext t2.extBut D.p12.symm).ext t3.extBut D.vp2.symm) (((d2.ext t1.extBut D.q2c).ext t2.extBut D.q2p1).ext t3.extBut D.q2v) hy fun e4 i4 t4=>Qc ?_)
 have v4:IsPair e4 v x b:=t4.extBut _ _ D.vp2 v3
 refine Qa (Js v4 rfl ?_)
 refine Qa (wpAny_updateSeq_pair v4 fun e5 v5 t5=>?_)
 replace v5:IsPair e5 v x y:=v5
 refine Qa (wpAny_letGo (Qc (Qc ?_)))
 refine Qa (Js v5 rfl ?_)
 refine Qa (wpAny_newTuple ?_)
 have hsz:e5.objs.size=s.heap.objs.size:=by rw[t5.1,t4.1,t3.1,t2.1,t1.1]
 have z5:IsZip e5 c u v .ellipsis:=t5.extBut _ _ D.vc.symm (t4.extBut _ _ D.p2c.symm (t3.extBut _ _ D.vc.symm (t2.extBut _ _ D.p1c.symm z1)))
 have k5:∀m o,m≠c->m≠v->m≠p1->m≠p2->s.heap.get? m=some o->e5.get? m=some o:=fun m o m1 m2 m3 m4 e =>
  t5.extBut _ _ m2 (t4.extBut _ _ m4 (t3.extBut _ _ m2 (t2.extBut _ _ m3 (t1.extBut _ _ m1 e))))
 have i5:It2 b1 e5 p1 q1 (k1+1):=((i2.ext t3.extBut D.vp1.symm).ext t4.extBut D.p12).ext t5.extBut D.vp1.symm
 have j5:It2 b2 e5 p2 q2 (k2+1):=i4.ext t5.extBut D.vp2.symm
 have zlt:c<e5.objs.size:=Qk z5
 show wpAny _ _ (Builtin.SmallTypes.ownedTupleHandOut (.ref c) (.ref e5.objs.size) >>= _) _ _ _
 refine Qa ?_
 unfold Builtin.SmallTypes.ownedTupleHandOut
 have z6:IsZip (e5.push { cls:=.type "tuple",data:=.seq #[x,y] }) c u v .ellipsis:=Qb _ z5
 refine Qa (J5 z6 (by simp) fun e7 z7 t7=>?_)
 replace z7:IsZip e7 c u v (rawInt e5.objs.size):=z7
 refine J5 z7 (by simp) fun e8 z8 t8=>?_
 replace z8:IsZip e8 c u v (rawInt e5.objs.size):=z8
 have up:∀m o,m≠c->e5.get? m=some o->e8.get? m=some o:=fun m o m1 e=>t8.extBut _ _ m1 (t7.extBut _ _ m1 (Qb _ e))
 have n8:IsPair e8 e5.objs.size x y:=t8.extBut _ _ (JM zlt) (t7.extBut _ _ (JM zlt) (Qm _ rfl))
 have w8:e8.objs.size=e5.objs.size+1:=by rw[t8.1,t7.1,QN]
 rw[hsz]at z8 n8 w8
 refine Qc ⟨_,rfl,?_⟩
 show Q (.ref e5.objs.size) _
 rw[hsz]
 exact done e8 z8 (up _ _ D.vc v5) (i5.at_ fun o e=>up _ o D.p1c e) (j5.at_ fun o e=>up _ o D.p2c e) n8 w8 fun m o m1 m2 m3 m4 e=>up m o m1 (k5 m o m1 m2 m3 m4 e)
theorem zover{Q:Fin->Shared->Prop}(hh:A.handled=none)(D:Apart c u v p1 p2 q1 q2)(hz:IsZip s.heap c u v .none)(hu:IsPair s.heap u (.ref p1) (.ref p2))(hv:IsPair s.heap v a b)
  (g1:It2 b1 s.heap p1 q1 k1) (g2:It2 b2 s.heap p2 q2 k2) (d1:Sq2 b1 s.heap q1 xs) (d2:Sq2 b2 s.heap q2 ys) (hend:xs[k1]?=none\/ys[k2]?=none)
  (out:∀h' e,(∀m o,m≠c->m≠v->m≠p1->m≠p2->s.heap.get? m=some o->h'.get? m=some o)->(∃o,h'.get? e=some o/\o.cls=.type "StopIteration")->E (.ref e) { s with heap:=h' }) :
  wpAny (model prog w) A (Builtin.«zip.__next__» ⟨[.ref c],[]⟩) Q E s:=by
 show wpAny _ _ (field (.ref c) 2 >>= _) _ _ _
 refine Qa (Jc (x:=.bool false) hz rfl rfl ?_)
 show wpAny _ _ (field (.ref c) 3 >>= _) _ _ _
 refine Qa (Jc (x:=.ref u) hz rfl rfl ?_)
 refine Qa (Js hu rfl ?_)
 show wpAny _ _ (Builtin.SmallTypes.ownedTupleIsFree (.ref c) >>= _) _ _ _
 refine Qa ?_
 unfold Builtin.SmallTypes.ownedTupleIsFree
 refine Qa (Jc (x:=.none) hz rfl rfl (Qc ?_))
 simp only[if_true]
 refine Qa (wpAny_rule ?_)
 refine Qa (Jc (x:=.ref v) hz rfl rfl ?_)
 refine Qa (J5 hz (by simp) fun e1 z1 t1=>?_)
 replace z1:IsZip e1 c u v .ellipsis:=z1
 refine Qa ?_
 simp only[List.zipIdx_cons,List.zipIdx_nil,List.forIn_cons,List.forIn_nil]
 refine Qa (Qa (wpAny_onRaise ?_))
 show wpAny _ _ (Builtin.SmallTypes.nextOf (.ref p1) >>= _) _ _ _
 cases hx:xs[k1]? with
 |none =>
  refine Qa (Zxf hh (g1.ext t1.extBut D.p1c) (d1.ext t1.extBut D.q1c) hx fun e2 m t2 hm=>?_)
  obtain⟨om,gm,cm⟩:=hm
  have z2:IsZip e2 c u v .ellipsis:=t2 _ _ D.p1c.symm z1
  have mz:m≠c:=fun x=>by subst x;rw[z2]at gm;cases gm;simp at cm
  exact J5 z2 (by simp) fun e3 _ t3=>out e3 m (fun n o n1 _ n3 _ q=>t3.extBut _ _ n1 (t2 _ _ n3 (t1.extBut _ _ n1 q))) ⟨om,t3.extBut _ _ mz gm,cm⟩
 |some x =>
  have hy:ys[k2]?=none:=by
   rcases hend with h|h
   ·rw[hx]at h;cases h
   ·exact h
  refine Qa (Zrk (g1.ext t1.extBut D.p1c) (d1.ext t1.extBut D.q1c) hx fun e2 i2 t2=>Qc ?_)
  have v2:IsPair e2 v a b:=t2.extBut _ _ D.vp1 (t1.extBut _ _ D.vc hv)
  refine Qa (Js v2 rfl ?_)
  refine Qa (wpAny_updateSeq_pair v2 fun e3 v3 t3=>?_)
  refine Qa (wpAny_letGo (Qc ?_))
  refine Qa (Qa (wpAny_onRaise ?_))
  show wpAny _ _ (Builtin.SmallTypes.nextOf (.ref p2) >>= _) _ _ _
  refine Qa (Zxf hh (((g2.ext t1.extBut D.p2c).ext t2.extBut D.p12.symm).ext t3.extBut D.vp2.symm) (((d2.ext t1.extBut D.q2c).ext t2.extBut D.q2p1).ext t3.extBut D.q2v) hy fun e4 m t4 hm=>?_)
  obtain⟨om,gm,cm⟩:=hm
  have z4:IsZip e4 c u v .ellipsis:=t4 _ _ D.p2c.symm (t3.extBut _ _ D.vc.symm (t2.extBut _ _ D.p1c.symm z1))
  have mz:m≠c:=fun x=>by subst x;rw[z4]at gm;cases gm;simp at cm
  exact J5 z4 (by simp) fun e5 _ t5=>out e5 m (fun n o n1 n2 n3 n4 q=>t5.extBut _ _ n1 (t4 _ _ n4 (t3.extBut _ _ n2 (t2.extBut _ _ n3 (t1.extBut _ _ n1 q))))) ⟨om,t5.extBut _ _ mz gm,cm⟩
theorem zstep{Q:Option Value->Shared->Prop}(D:Apart c u v p1 p2 q1 q2)(hz:IsZip s.heap c u v .none)(hu:IsPair s.heap u (.ref p1) (.ref p2))(hv:IsPair s.heap v a b)
  (g1:It2 b1 s.heap p1 q1 k1) (g2:It2 b2 s.heap p2 q2 k2) (d1:Sq2 b1 s.heap q1 xs) (d2:Sq2 b2 s.heap q2 ys) (hx:xs[k1]?=some x) (hy:ys[k2]?=some y)
  (done:∀h',IsZip h' c u v (rawInt s.heap.objs.size)->IsPair h' v x y->It2 b1 h' p1 q1 (k1+1)->It2 b2 h' p2 q2 (k2+1)->IsPair h' s.heap.objs.size x y->h'.objs.size=s.heap.objs.size+1 ->
   (∀m o,m≠c->m≠v->m≠p1->m≠p2->s.heap.get? m=some o->h'.get? m=some o)->Q (some (.ref s.heap.objs.size)) { s with heap:=h' }) :
  wpAny (model prog w) A (pyNext (.ref c)) Q E s:=by
 have ty:s.TypeIs (.ref c) "zip":=⟨_,hz,rfl⟩
 unfold pyNext
 exact Qa (wpAny_attempt (Q2 (name:=Str.ofString "__next__") ty F.slot_zip_next (Q0 F.slot_zip_next ty F.entry_zip_next
  (znext D hz hu hv g1 g2 d1 d2 hx hy fun h' a1 a2 a3 a4 a5 a6 a7=>Qc (done h' a1 a2 a3 a4 a5 a6 a7)) (F.args_zip_next_1 _))))
theorem zstop{Q:Option Value->Shared->Prop}(hh:A.handled=none)(D:Apart c u v p1 p2 q1 q2)(hz:IsZip s.heap c u v .none)(hu:IsPair s.heap u (.ref p1) (.ref p2))(hv:IsPair s.heap v a b)
  (g1:It2 b1 s.heap p1 q1 k1) (g2:It2 b2 s.heap p2 q2 k2) (d1:Sq2 b1 s.heap q1 xs) (d2:Sq2 b2 s.heap q2 ys) (hend:xs[k1]?=none\/ys[k2]?=none)
  (done:∀h',(∀m o,m≠c->m≠v->m≠p1->m≠p2->s.heap.get? m=some o->h'.get? m=some o)->Q none { s with heap:=h' }):wpAny (model prog w) A (pyNext (.ref c)) Q E s:=by
 have ty:s.TypeIs (.ref c) "zip":=⟨_,hz,rfl⟩
 unfold pyNext
 refine Qa (wpAny_attempt (Q2 (name:=Str.ofString "__next__") ty F.slot_zip_next (Q0 F.slot_zip_next ty F.entry_zip_next
  (zover hh D hz hu hv g1 g2 d1 d2 hend fun h' e hk he=>?_) (F.args_zip_next_1 _))))
 obtain⟨o,ho,hc⟩:=he
 refine Qa (wpAny_isInstance (T:="StopIteration") (b:=true) ⟨o,ho,hc⟩ isSubtype_stop (Qc (done _ hk)))
abbrev itObj(b:Bool)(q:Addr):Obj:={ cls:=.type (if b=true then "list_iterator" else "tuple_iterator"),data:=.fields #[.ref q,.int 0 0] }
theorem iter2{Q:Value->Shared->Prop}{q:Addr}(bb:Bool)(hq:Sq2 bb s.heap q xs)(h:Q (.ref s.heap.objs.size) { s with heap:=s.heap.push (itObj bb q) }):wpAny (model prog w) A (pyIter (.ref q)) Q E s:=by
 cases bb
 ·exact wpAny_pyIter_tuple hq h
 ·exact wpAny_pyIter_list hq h
end
end ZP

namespace HT
open PySem PyProof.Rows
section
variable{prog:Program}{w:World}{A:Around}{E:Value->Shared->Prop}{s:Shared}
theorem getItem_tuple_whole{t sl:Addr}{items:Array Value}{vl vu:Value}{lo hi:Option Int}{Q:Value->Shared->Prop}(ht:IsTup s.heap t items)(hs:s.heap.IsSliceOf sl vl vu .none)(pl:IsPart vl lo)(pu:IsPart vu hi)
  (h1:sIx items.size 0 lo=0) (h2:sIx items.size items.size hi=items.size) (h:Q (.ref t) s):wpAny (model prog w) A (getItem (.ref t) (.ref sl)) Q E s:=by
 obtain⟨os,hos,hcs,hds⟩:=id hs
 have hTs:s.TypeIs (.ref sl) "slice":=⟨os,hos,hcs⟩
 unfold getItem
 try with_reducible refine QV ?_
 first|refine Qa (Qc ?_)|skip
 refine Qa (wpAny_sequenceKey ht.typeIs (by decide) ?_)
 refine Qa (Q2 (name:=Str.ofString "__getitem__") ht.typeIs Je
  (Q0 Je ht.typeIs entry_tuple_getitem ?_ (args_tuple_getitem _ _)))
 show wpAny _ _ (Builtin.Tuple.tupleItemsOf (.ref t) >>= _) _ _ s
 refine Qa (tupleItemsOf_ ht ?_)
 refine Qa (wpAny_typeOf hTs ?_)
 rw[if_pos (by decide)]
 refine Qa (W9 hs pl pu ?_)
 have hyes:((((sIx items.size 0 lo:Nat):Int) == 0&&(1:Int) == 1&&(sIx items.size items.size hi-sIx items.size 0 lo) == items.size)=true):=by
  rw[h1,h2];simp
 show wpAny _ _ (if(((sIx items.size 0 lo:Nat):Int) == 0&&(1:Int) == 1&&(sIx items.size items.size hi-sIx items.size 0 lo) == items.size)=true then _ else _) _ _ s
 rw[if_pos hyes]
 refine Qa ?_
 unfold Builtin.Tuple.tupleIsExact
 refine Qa (wpAny_typeOf ht.typeIs (Qc ?_))
 rw[if_pos (by rfl)]
 refine Qa (wpAny_rule ?_)
 exact Qc ⟨_,rfl,Qc h⟩
end
end HT
namespace L2
open PySem PySem.Spec PyProof.Rows
section
variable{X:Cx}
def WU:D->D->Option D
 |.int i,.int j=>some (.bl (decide (i<j)))
 |.tup a,.tup b=>(XM a).bind fun is=>(XM b).bind fun js=>some (.bl (HT.lexLt is js))
 |_,_=>none
theorem WJ(hu:X.A.units<cLine):VC X (compareOp .Lt) WU:=VC.of (W6.or op_lt (Zy8 hu)) fun x y H Q ⟨O,dx,dy,d,th,rx,ry,e,q⟩=>by
 unfold WU at e
 split at e
 ·cases e
  exact .inl ⟨_,_,rx,ry,q _ H (Zf.refl _) rfl⟩
 ·obtain⟨is,e1,e⟩:=bind_some e
  obtain⟨js,e2,e⟩:=bind_some e
  cases e
  cases Xw e1
  cases Xw e2
  obtain⟨p,vs,rfl,hp,rp⟩:=rx
  obtain⟨p2,us,rfl,hp2,rp2⟩:=ry
  cases rp.ints
  cases rp2.ints
  exact .inr ⟨p,p2,is,js,rfl,rfl,Wq.of (Zi _ _ hp),Wq.of (Zi _ _ hp2),q _ H (Zf.refl _) rfl⟩
 ·cases e
abbrev FP:=Xl->Option (Option Int)
def pN:FP:=fun _=>some none
def pS(f:FE):FP:=fun ρ=>(f ρ).bind fun d=>match d with|.int i=>some (some i)|_=>none
def tP(K:PySem.W.Frag)(p:FP):TO:=fun σ H Q=>∃O ρ o,RV K O H ρ σ/\p ρ=some o/\∀H',Zf H H'->Q o H'
def PD(X:Cx)(e:Option Expr)(p:FP):Prop:=PO X e (tP X.K p)
theorem PO.imp{e:Option Expr}{t t':TO}(h:PO X e t)(k:∀σ H Q,t' σ H Q->t σ H Q):PO X e t':=fun pins s σ H Q I hw=>h pins s σ H Q I (k σ H Q hw)
theorem Yu:PD X none pN:=PO.imp Zu2 fun σ H Q ⟨O,ρ,o,rv,e,q⟩=>by
 cases e
 exact q H (Zf.refl _)
theorem Yt{e:Expr}{f:FE}(h:EV X e f):PD X (some e) (pS f):=PO.imp (Zu1 h) fun σ H Q ⟨O,ρ,o,rv,e,q⟩=>by
 obtain⟨d,e1,e⟩:=bind_some e
 refine⟨O,ρ,d,rv,e1,fun v H1 s1 r1=>?_⟩
 cases d with
 |int i=>cases e;exact⟨i,r1,q H1 s1⟩
 |_=>cases e
def Zbi(ds:List D)(lo hi:Option Int):List D:=(ds.drop (HT.sIx ds.length 0 lo)).take (HT.sIx ds.length ds.length hi-HT.sIx ds.length 0 lo)
def slD:D->Option Int->Option Int->Option D
 |.lst ds,lo,hi=>some (.lst (Zbi ds lo hi))
 |.tup ds,lo,hi=>some (.tup (Zbi ds lo hi))
 |_,_,_=>none
def Zgr(f:FE)(lo hi:FP):FE:=fun ρ=>(f ρ).bind fun d=>(lo ρ).bind fun l=>(hi ρ).bind fun u=>slD d l u
theorem Zi9{K:PySem.W.Frag}{H:Hp}{ds:List D}{vs:List V}(r:Zr K H ds vs)(lo hi:Option Int):Zr K H (Zbi ds lo hi) (Zjb vs lo hi):=by
 unfold Zbi Zjb
 rw[r.length]
 exact(r.drop _).take _
def rSlW(K:PySem.W.Frag):V->Option Int->Option Int->Hp->VK->Prop:=fun x lo hi H Q=>∃a xs,x=.ref a/\Wq K H a xs/\(HT.sIx xs.length 0 lo=0/\HT.sIx xs.length xs.length hi=xs.length)/\Q (.ref a) H
theorem Zqd:Zwq X (rSlW X.K):=by
 intro pins s σ H x v vl vu lo hi sl Q I rx hs pl pu h
 obtain⟨a,xs,rfl,hx,hw,q⟩:=h
 cases rx
 obtain⟨its,r,ht,hz⟩:=I.tuple hx
 have hlen:its.toArray.size=xs.length:=by rw[Qi];exact r.length.symm
 refine⟨"tuple",_,Je.lookup,ht.typeIs,?_⟩
 exact HT.getItem_tuple_whole ht hs pl pu (by rw[hlen];exact hw.1) (by rw[hlen];exact hw.2) ⟨.ref a,H,I,rfl,q⟩
theorem Wa{e:Expr}{lo hi:Option Expr}{f:FE}{pl ph:FP}{pos p2:Pos}(he:EV X e f)(hl:PD X lo pl)(hu:PD X hi ph):EV X (.Subscript e (.Slice lo hi none p2) pos) (Zgr f pl ph) :=
 PE.imp (Zid (Zui.or (Zyn.or Zqd)) he hl hu) fun σ H Q ⟨O,ρ,d,rv,e,q⟩=>by
  obtain⟨x,e1,e⟩:=bind_some e
  obtain⟨l,e2,e⟩:=bind_some e
  obtain⟨u,e3,e⟩:=bind_some e
  refine⟨O,ρ,x,rv,e1,fun v H1 s1 r1=>⟨O,ρ,l,rv.mono s1,e2,fun H2 s2=>⟨O,ρ,u,rv.mono (Zf.trans s1 s2),e3,fun H3 s3=>?_⟩⟩⟩
  have r3:=YJ.mono (ZA (O:=O) (Zf.trans s2 s3)) x v r1
  have th3:=rv.th.mono (Zf.trans s1 (Zf.trans s2 s3))
  have q3:=fun w H4 s4=>q w H4 (Zf.trans (Zf.trans s1 (Zf.trans s2 s3)) s4)
  cases x with
  |lst ds =>
   cases e
   obtain⟨a,vs,rfl,ha,rs⟩:=r3
   exact .inl ⟨a,vs,rfl,WH.of (Zi _ _ ha),fun p hp=>q3 _ _ (Zf.new hp) (Yj th3 hp (Zi9 rs l u))⟩
  |tup ds =>
   cases e
   obtain⟨a,vs,rfl,ha,rs⟩:=r3
   have hl:=rs.length
   by_cases hw:HT.sIx vs.length 0 l=0/\HT.sIx vs.length vs.length u=vs.length
   ·have ec:Zbi ds l u=ds:=by
     unfold Zbi
     rw[<- hl,hw.1,hw.2]
     simp[hl]
    rw[ec]at q3
    exact .inr (.inr ⟨a,vs,rfl,Wq.of (Zi _ _ ha),hw,q3 _ H3 (Zf.refl _) ⟨a,vs,rfl,ha,rs⟩⟩)
   ·exact .inr (.inl ⟨a,vs,rfl,Wq.of (Zi _ _ ha),hw,fun p hp=>q3 _ _ (Zf.new hp) (Xg th3 hp (Zi9 rs l u))⟩)
  |_=>cases e
theorem YU(i:Nat){x:Str}{pos:Pos}(hN:X.N.Nodup)(hi:X.N[i]?=some x:=by rfl)(hx:Zpc X.env.scope x:=by first|exact Or.inl rfl|exact Or.inr rfl)
  (hf:X.fn x=true\/X.env.scope.names.lookup x=some .local:=by first|exact .inl rfl|exact .inr rfl):PG X (.Name x pos) (Zi3 i):=Zme hN hi hx hf
def Zul(f:FE):FS:=fun ρ=>match f (YF ρ) with|some _=>.nx ρ|none=>.bad
theorem Zt9{e:Expr}{f:FE}{pos:Pos}(h:EV X e f)(hs:swapsWith e none pos.line X.env=pure false:=by rfl):SV X (.Expr e pos) (Zul f):=PS.imp (Zmd h hs) fun E σ H ⟨B,O0,O1,ρ,r,q⟩=>by
 unfold Zul at q
 cases e:f (YF ρ) with
 |none=>rw[e]at q;exact q.elim
 |some d =>
  rw[e]at q
  exact⟨O0,YF ρ,d,r.all,e,fun v H' s rep=>q σ H' O1 (r.mono s)⟩
theorem Z1a{i:Nat}{x:Str}{e:Expr}{fv:FE}{p1 p2 p3:Pos}(he:EV X e fv)(hN:X.N[i]?=some x:=by rfl)(hv:Zwp X.env.scope x:=by first|exact Or.inl rfl|exact Or.inr (Or.inl rfl)|exact Or.inr (Or.inr rfl))
  (hd:(x == ("__debug__":Str))=false:=by decide) (hcd:(x == ("__classdict__":Str))=false:=by decide)
  (hbase:attributeBase (.Name x p1) "append" X.env (eval (.Name x p1) X.env)=eval (.Name x p1) X.env:=by rfl)
  (hfew:((backTo p3 (starEach [e] X.env)).all (fun x=>!x.1)&&(backToKw p3 (keywordEach [] X.env)).all (fun x=>x.1.isSome)
   && decide (([e]:List Expr).length+([]:List Keyword).length+(if([]:List Keyword).isEmpty then 0 else 1)<30))=true:=by rfl)
  (hline:(p2.endLine == p3.line)=true:=by rfl) (hs:starEach [e] X.env=(false,eval e X.env)::starEach [] X.env:=by rfl) (hplain:(backTo p3 (starEach [] X.env)).any (·.1)=false:=by rfl) :
  PE X (.Call (.Attribute (.Name x p1) "append" p2) [e] [] p3) (tBM X.K "list" Zf2 (Zye i) (Zp2 (tD X.K fv) Zyf)) :=
 Zcs PySem.F.plainAttrs_list PySem.F.slot_list_append PySem.F.type_list_append Zn5 (Zao hN hv hd hcd) (Ym he Xh hs) hbase hfew hline hs hplain
structure BT(mg:Str->Option Value):Prop where
 len_:mg "len"=none
 range_:mg "range"=none
 sum_:mg "sum"=none
 all_:mg "all"=none
 any_:mg "any"=none
 min_:mg "min"=none
 max_:mg "max"=none
 sorted_:mg "sorted"=none
 zip_:mg "zip"=none
 enumerate_:mg "enumerate"=none
 isinstance:mg "isinstance"=none
 tuple_:mg "tuple"=none
 list_:mg "list"=none
 int_:mg "int"=none
 bool_:mg "bool"=none
 set_:mg "set"=none
structure Xe(P:Program)(w:World)(K:PySem.W.Frag)(mg:Str->Option Value)(base:Heap)(x:Str)(k:Nat)(ps:List Str)(G:List D->Option D)(f:Addr)(fd:FuncData):Prop where
 ok:Vj P w K mg base Zpf k f fd ps (spD K G)
 mg:mg x=some (.ref f)
 kp:PySem.W.keepIn K (.ref f)=true
 bi:Zbe K fd ps []
end
section
variable{X:Cx}{pins:List (Addr×Obj)}{σ:St}{H:Hp}{s:Shared}
theorem Zq.turnedAll{fp:List Addr}{h':Heap}{t':Nat}(I:Zq X pins σ H s)(hf:∀b∈fp,US X pins H b)(k:∀b o,b∉fp->s.heap.get? b=some o->h'.get? b=some o):Zq X pins σ H { s with heap:=h',toks:=t' }:=by
 have nfp:∀b w,H b=some w->b∉fp:=fun b w e m=>by rw[(hf b m).1]at e;cases e
 refine I.step (g':=s.gens) (d':=s.drawn) (ch:=fp) (fun b hb=>?_) (fun b o _ _ hc e _=>k b o hc e) (fun b o _ _ hc e _=>⟨o.slots,k b o hc e⟩) (fun _ _ _ _ n=>n)
  (fun b o hc e=>⟨o,k b o hc e⟩) (fun _ _ e=>e) (fun _ _ _ e=>e) (fun b ps e=>⟨#[],by rw[e];simp⟩) (fun m hm=>?_) (fun b w e=>?_) I.bare
 ·obtain⟨f0,f1,f2,f3,f4,f5⟩:=hf b hb
  exact⟨f3,f1,f4,f5⟩
 ·obtain⟨o,es,ep,ho,r⟩:=hm
  exact⟨o,es,ep,k _ o (fun z=>(hf _ z).2.1 rfl) ho,r⟩
 ·refine(I.hok b w e).stay (fun c v hc q=>k c v ?_ q) (fun _ q=>q) fun _ _ q=>q
  rcases hc with rfl|hc
  ·exact nfp c w e
  ·exact nfp c _ hc
theorem Zq.turnNew{fp:List Addr}{h':Heap}{t':Nat}{vs:List V}{us:List Value}(I:Zq X pins σ H s)(hf:∀b∈fp,US X pins H b)(k:∀b o,b∉fp->s.heap.get? b=some o->h'.get? b=some o)
  (hl:vs.length<=sizeLine) (rv:ZB vs us) (ht:IsTup h' s.heap.objs.size us.toArray):Zq X pins σ (Y1 H s.heap.objs.size (.tup vs)) { s with heap:=h',toks:=t' }:=by
 have nT:H s.heap.objs.size=none:=I.hok.fresh (Qg _)
 have nfp:∀b u,H b=some u->b∉fp:=fun b u e m=>by rw[(hf b m).1]at e;cases e
 have old:∀{b o},s.heap.get? b=some o->b≠s.heap.objs.size:=fun e=>Qo (Qk e)
 refine I.step (g':=s.gens) (d':=s.drawn) (ch:=fp) (fun b hb=>?_) (fun b o _ _ hc e _=>k b o hc e) (fun b o _ _ hc e _=>⟨o.slots,k b o hc e⟩) (fun b o _ e n=>by rw[ZM (old e)];exact n)
  (fun b o hc e=>⟨o,k b o hc e⟩) (fun b xs e=>by rw[ZM (ZS e nT)];exact e) (fun b o u e=>by rw[ZM (ZS e nT)];exact e) (fun b ps e=>⟨#[],by rw[ZM (ZS e nT),e];simp⟩) (fun m hm=>?_) (fun b u e=>?_) I.bare
 ·obtain⟨f0,f1,f2,f3,f4,f5⟩:=hf b hb
  exact⟨f3,f1,f4,f5⟩
 ·obtain⟨o,es,ep,ho,r⟩:=hm
  exact⟨o,es,ep,k _ o (fun z=>(hf _ z).2.1 rfl) ho,r⟩
 ·by_cases hb:b=s.heap.objs.size
  ·subst hb
   rw[Yc]at e
   cases e
   exact⟨hl,us,rv,ht⟩
  ·rw[ZM hb]at e
   refine(I.hok b u e).stay (fun c v hc q=>k c v ?_ q) (fun c q=>by rw[ZM (ZS q nT)];exact q) fun c xs q=>by rw[ZM (ZS q nT)];exact q
   rcases hc with rfl|hc
   ·exact nfp c u e
   ·exact nfp c _ hc
end
def Zd1(b:Bool)(K:PySem.W.Frag)(H:Hp)(a:Addr)(xs:List V):Prop:=if b=true then WH K H a xs else Wq K H a xs
def Itz(b1 b2:Bool)(K:PySem.W.Frag)(a1 a2:Addr):It :=
 ⟨fun i H=>∃xs ys x y,Zd1 b1 K H a1 xs/\Zd1 b2 K H a2 ys/\xs[i]?=some x/\ys[i]?=some y,
  fun i H z H'=>∃T x y,z=.ref T/\H T=none/\(∀xs,Zd1 b1 K H a1 xs->xs[i]?=some x)/\(∀ys,Zd1 b2 K H a2 ys->ys[i]?=some y)/\H'=Y1 H T (.tup [x,y]),
  fun i H=>∃xs ys,Zd1 b1 K H a1 xs/\Zd1 b2 K H a2 ys/\(xs.length<=i\/ys.length<=i)⟩
section
variable{X:Cx}{pins:List (Addr×Obj)}{σ:St}{H:Hp}{s:Shared}
theorem Zq.sqx{b:Bool}{a:Addr}{xs:List V}(I:Zq X pins σ H s)(h:Zd1 b X.K H a xs):∃its:List Value,ZB xs its/\ZP.Sq2 b s.heap a its.toArray/\xs.length<=sizeLine:=by
 cases b
 ·obtain⟨its,r,t,z⟩:=I.tuple h;exact⟨its,r,t,z⟩
 ·obtain⟨its,r,t,z⟩:=I.list h;exact⟨its,r,t.isList,z⟩
theorem Zq.sqx_inj{b:Bool}{a:Addr}{xs ys:List V}(I:Zq X pins σ H s)(h:Zd1 b X.K H a xs)(h':Zd1 b X.K H a ys):xs=ys:=by
 cases b
 ·exact I.tuple_inj h h'
 ·exact I.list_inj h h'
end
def zipTn(b1 b2:Bool)(c u v p1 p2 a1 a2:Addr)(i:Nat)(h:Heap):Prop:=IsZip h c u v .none/\IsPair h u (.ref p1) (.ref p2)/\(∃x y,IsPair h v x y)/\ZP.It2 b1 h p1 a1 i/\ZP.It2 b2 h p2 a2 i
theorem Zpt{P:Program}{w:World}{K:PySem.W.Frag}{elts:List Expr}{kk:Nat}{pos:Pos}{b1 b2:Bool}{c u v p1 p2 a1 a2:Addr}(D:ZP.Apart c u v p1 p2 a1 a2) :
  Zjs P w K (.Tuple elts kk pos) (Itz b1 b2 K a1 a2) [c,u,v,p1,p2] c (zipTn b1 b2 c u v p1 p2 a1 a2) where
 mem:=by simp
 obj:=fun i h ⟨hz,hu,⟨x,y,hv⟩,g1,g2⟩ b hb=>by
  simp only[Ql,Jd,or_false]at hb
  rcases hb with rfl|rfl|rfl|rfl|rfl
  ·exact⟨_,hz,fun v z=>by cases z⟩
  ·exact⟨_,hu,fun v z=>by cases z⟩
  ·exact⟨_,hv,fun v z=>by cases z⟩
  ·exact g1.ob
  ·exact g2.ob
 keep:=fun i h h' ⟨hz,hu,⟨x,y,hv⟩,g1,g2⟩ k=>⟨k _ (by simp) _ hz,k _ (by simp) _ hu,⟨x,y,k _ (by simp) _ hv⟩,g1.at_ fun o e=>k _ (by simp) o e,g2.at_ fun o e=>k _ (by simp) o e⟩
 item:=by
  intro X hP hw hK hc i pins s σ H E I hf st hg
  subst hP hw hK
  obtain⟨hz,hu,⟨x0,y0,hv⟩,g1,g2⟩:=st
  obtain⟨xs,ys,x,y,q1,q2,e1,e2⟩:=hg
  obtain⟨is,r1,d1,z1⟩:=I.sqx q1
  obtain⟨js,r2,d2,z2⟩:=I.sqx q2
  obtain⟨xu,h1,rx⟩:=r1.get e1
  obtain⟨yu,h2,ry⟩:=r2.get e2
  refine ZP.zstep D hz hu hv g1 g2 d1 d2 (x:=xu) (y:=yu) (by simpa using h1) (by simpa using h2) fun h' k1 k2 k3 k4 k5 k6 k7=>?_
  refine⟨_,rfl,wpAny_letOwnedTupleGo_zip k1 fun h'' m1 m2=>?_⟩
  have below:∀{b o},s.heap.get? b=some o->b≠s.heap.objs.size:=fun e=>Qo (Qk e)
  have kp:∀b o,b∉[c,u,v,p1,p2]->s.heap.get? b=some o->h''.get? b=some o:=fun b o hb e=>by
   simp only[Ql,Jd,or_false,not_or]at hb
   exact m2.extBut _ _ hb.1 (k7 b o hb.1 hb.2.2.1 hb.2.2.2.1 hb.2.2.2.2 e)
  have ht:IsTup h'' s.heap.objs.size [xu,yu].toArray:=⟨_,m2.extBut _ _ (fun z=>below hz z.symm) k5,rfl,0,rfl⟩
  refine⟨.ref s.heap.objs.size,_,I.turnNew (t':=s.toks) (vs:=[x,y]) hf kp (by rw[show sizeLine=16777216 from QK];show 2<=16777216;decide) (.cons rx (.cons ry .nil)) ht,rfl,?_,?_,?_⟩
  ·exact⟨_,x,y,rfl,I.hok.fresh (Qg _),fun zs hz'=>by rw[I.sqx_inj hz' q1];exact e1,fun zs hz'=>by rw[I.sqx_inj hz' q2];exact e2,rfl⟩
  ·exact⟨m1,m2.extBut _ _ D.uc (k7 _ _ D.uc D.uv D.up1 D.up2 hu),⟨_,_,m2.extBut _ _ D.vc k2⟩,k3.ext m2.extBut D.p1c,k4.ext m2.extBut D.p2c⟩
  ·intro b hb
   rw[ZM]
   ·exact(hf b hb).1
   ·simp only[Ql,Jd,or_false]at hb
    obtain⟨o1,w1,_⟩:=g1.ob
    obtain⟨o2,w2,_⟩:=g2.ob
    rcases hb with rfl|rfl|rfl|rfl|rfl
    ·exact below hz
    ·exact below hu
    ·exact below hv
    ·exact below w1
    ·exact below w2
 done:=by
  intro X hP hw hK hc i pins s σ H E I hf st hg
  subst hP hw hK
  obtain⟨hz,hu,⟨x0,y0,hv⟩,g1,g2⟩:=st
  obtain⟨xs,ys,q1,q2,hend⟩:=hg
  obtain⟨is,r1,d1,z1⟩:=I.sqx q1
  obtain⟨js,r2,d2,z2⟩:=I.sqx q2
  have l1:=r1.length
  have l2:=r2.length
  refine ZP.zstop (I.ok.hd hc) D hz hu hv g1 g2 d1 d2 (by
   rcases hend with z|z
   ·left;simp;omega
   ·right;simp;omega) fun h' k=>⟨rfl,I.turnedAll (t':=s.toks) hf fun b o hb e=>?_⟩
  simp only[Ql,Jd,or_false,not_or]at hb
  exact k b o hb.1 hb.2.2.1 hb.2.2.2.1 hb.2.2.2.2 e
 self:=fun _ _ _ _ _ st h=>wpAny_pyIter_zip st.1 h
abbrev zh1(h:Heap)(b1:Bool)(a1:Addr):Heap:=h.push (ZP.itObj b1 a1)
abbrev zh2(h:Heap)(b1 b2:Bool)(a1 a2:Addr):Heap:=(zh1 h b1 a1).push (ZP.itObj b2 a2)
abbrev zh3(h:Heap)(b1 b2:Bool)(a1 a2:Addr):Heap:=(zh2 h b1 b2 a1 a2).push { cls:=.type "tuple",data:=.seq #[.ref h.objs.size,.ref (zh1 h b1 a1).objs.size] }
abbrev zh4(h:Heap)(b1 b2:Bool)(a1 a2:Addr):Heap:=(zh3 h b1 b2 a1 a2).push { cls:=.type "tuple",data:=.seq #[.none,.none] }
abbrev Zwt(h:Heap)(b1 b2:Bool)(a1 a2:Addr):Heap:=(zh4 h b1 b2 a1 a2).push { cls:=.type "zip",data:=.fields #[.none,.bool false,.bool false,.ref (zh2 h b1 b2 a1 a2).objs.size,.ref (zh3 h b1 b2 a1 a2).objs.size] }
theorem Zqb{b:Bool}{h:Heap}{q:Addr}{xs:Array Value}{o:Obj}(x:ZP.Sq2 b h q xs):ZP.Sq2 b (h.push o) q xs:=by
 cases b
 ·obtain⟨o',ho,r⟩:=x;exact⟨o',Qb _ ho,r⟩
 ·obtain⟨o',ho,r⟩:=x;exact⟨o',Qb _ ho,r⟩
theorem Zn6(b1 b2:Bool)(a1 a2:Addr)(xs ys:Array Value) :
  Meets (Builtin.«zip.__new__» ⟨[.type "zip",.ref a1,.ref a2],[]⟩) (fun _ R s=>ZP.Sq2 b1 s.heap a1 xs/\ZP.Sq2 b2 s.heap a2 ys /\
   R (.ok (.ret (.ref (zh4 s.heap b1 b2 a1 a2).objs.size))) { s with heap:=Zwt s.heap b1 b2 a1 a2 }) :=
 .of_wp fun prog w A R s h=>by
  obtain⟨hp,g,d,tk,os⟩:=s
  obtain⟨k1,k2,h⟩:=h
  have hsub:=sub_zip
  have j1:ZP.Sq2 b1 (Shared.heap ⟨hp,g,d,tk,os⟩) a1 xs:=k1
  have j2:ZP.Sq2 b2 (Shared.heap ⟨hp.push (ZP.itObj b1 a1),g,d,tk,os⟩) a2 ys:=Zqb k2
  wp_walk using ZP.iter2 b1 j1,ZP.iter2 b2 j2
  exact⟨_,rfl,h⟩
section
variable{X:Cx}{tg:Expr}
def iZip(K:PySem.W.Frag)(t:TA):TI:=fun σ H R=>t σ H fun vs H1=>∃a1 a2 b1 b2 xs ys,vs=[.ref a1,.ref a2]/\Zd1 b1 K H1 a1 xs/\Zd1 b2 K H1 a2 ys/\R (Itz b1 b2 K a1 a2) H1
theorem Zyv{elts:List Expr}{kk:Nat}{pos pp p:Pos}{a b:Expr}{t:TA}(hm:X.mg "zip"=none)(ha:PA X [a,b] t)(hg:Gl X "zip":=by rfl)
  (hs:starEach [a,b] X.env=[(false,eval a X.env),(false,eval b X.env)]:=by rfl) (hs2:starEach [b] X.env=[(false,eval b X.env)]:=by rfl) :
  PI X (.Tuple elts kk pos) (.Call (.Name "zip" p) [a,b] [] pp) (iZip X.K t):=by
 intro pins s σ H R I h
 refine Call_ (Zat I hg hm (show bootBuiltins "zip"=some (.type "zip") by decide+kernel) (PyProof.Rows.callWith_type1 (YA (ha pp pins s σ H _ I h) fun us s1 ⟨vs,H1,I1,r1,q1⟩=>?_) (by rw[hs,hs2]) (by rw[hs2];rfl)))
 obtain⟨a1,a2,b1,b2,xs,ys,rfl,q1,q2,q⟩:=q1
 cases r1 with
 |cons ra rr =>
  cases rr with
  |cons rb rr =>
   cases rr
   cases ra
   cases rb
   obtain⟨is,v1,d1,_⟩:=I1.sqx q1
   obtain⟨js,v2,d2,_⟩:=I1.sqx q2
   refine callType_new F.called_zip (by decide) (F.typeCall_zip_2 _ _) (F.newCall_zip_2 _ _) (fun obj=>F.args_object_init_3 obj _ _) F.entry_zip_new (Zn6 b1 b2 a1 a2 is.toArray js.toArray) ⟨d1,d2,?_⟩
   have z1:(zh1 s1.heap b1 a1).objs.size=s1.heap.objs.size+1:=QN ..
   have z2:(zh2 s1.heap b1 b2 a1 a2).objs.size=s1.heap.objs.size+2:=by rw[QN,z1]
   have z3:(zh3 s1.heap b1 b2 a1 a2).objs.size=s1.heap.objs.size+3:=by rw[QN,z2]
   have z4:(zh4 s1.heap b1 b2 a1 a2).objs.size=s1.heap.objs.size+4:=by rw[QN,z3]
   have n5:(Zwt s1.heap b1 b2 a1 a2).get? (zh4 s1.heap b1 b2 a1 a2).objs.size=some _:=Qm _ rfl
   have n4:(Zwt s1.heap b1 b2 a1 a2).get? (zh3 s1.heap b1 b2 a1 a2).objs.size=some _:=Qb _ (Qm _ rfl)
   have n3:(Zwt s1.heap b1 b2 a1 a2).get? (zh2 s1.heap b1 b2 a1 a2).objs.size=some _:=Qb _ (Qb _ (Qm _ rfl))
   have n2:(Zwt s1.heap b1 b2 a1 a2).get? (zh1 s1.heap b1 a1).objs.size=some _:=Qb _ (Qb _ (Qb _ (Qm _ rfl)))
   have n1:(Zwt s1.heap b1 b2 a1 a2).get? s1.heap.objs.size=some _:=Qb _ (Qb _ (Qb _ (Qb _ (Qm _ rfl))))
   have kp:∀m o,s1.heap.get? m=some o->(Zwt s1.heap b1 b2 a1 a2).get? m=some o:=fun m o e=>Qb _ (Qb _ (Qb _ (Qb _ (Qb _ e))))
   have l1:a1<s1.heap.objs.size:=by cases b1<;>(obtain⟨_,e,_⟩:=d1;exact Qk e)
   have l2:a2<s1.heap.objs.size:=by cases b2<;>(obtain⟨_,e,_⟩:=d2;exact Qk e)
   rw[z2,z3,z4]at n5
   rw[z1,z2]at n3
   rw[z3]at n4
   rw[z1]at n2
   show _/\_
   rw[z4]
   refine⟨⟨_,n5,rfl⟩,wpAny_pyIter_zip n5 ?_⟩
   have I2:Zq X pins σ H1 { s1 with heap:=Zwt s1.heap b1 b2 a1 a2 }:=I1.kept (t':=s1.toks) kp
   have fr:∀d,s1.heap.objs.size<=d->US X pins H1 d:=fun d hd=>I1.fpOk hd (I1.hok.fresh hd)
   have D:ZP.Apart (s1.heap.objs.size+4) (s1.heap.objs.size+2) (s1.heap.objs.size+3) s1.heap.objs.size (s1.heap.objs.size+1) a1 a2:=by
    constructor<;>first
     |exact Qo l1
     |exact Qo l2
     |exact Qo (Qw l1 (Nat.le_add_right _ _))
     |exact Qo (Qw l2 (Nat.le_add_right _ _))
     |exact Qo (Nat.add_lt_add_left (by decide) _)
     |exact JM (Nat.add_lt_add_left (by decide) _)
     |exact JM (Nat.lt_add_of_pos_right (by decide))
     |exact Qo (Nat.lt_add_of_pos_right (by decide))
   refine⟨s1.heap.objs.size+4,[s1.heap.objs.size+4,s1.heap.objs.size+2,s1.heap.objs.size+3,s1.heap.objs.size,s1.heap.objs.size+1],_,_,H1,rfl,I2,Zpt (b1:=b1) (b2:=b2) D,⟨n5,n3,⟨_,_,n4⟩,?_,?_⟩,fun d hd=>?_,q⟩
   ·cases b1<;>exact⟨_,n1,rfl,rfl⟩
   ·cases b2<;>exact⟨_,n2,rfl,rfl⟩
   ·refine⟨(fr d ?_).1,(fr d ?_).2⟩<;>(simp only[Ql,Jd,or_false]at hd;rcases hd with rfl|rfl|rfl|rfl|rfl<;>first|exact Qg _|exact Nat.le_add_right _ _)
def W7:List D->List D->List D
 |x::xs,y::ys=>.tup [x,y]::W7 xs ys
 |_,_=>[]
theorem Zel:∀{xs ys:List D} {i:Nat} {d:D},(W7 xs ys)[i]?=some d->∃x y,xs[i]?=some x/\ys[i]?=some y/\d=.tup [x,y]
 |x::xs,y::ys,0,d,h=>⟨x,y,rfl,rfl,by simpa [W7] using h.symm⟩
 |x::xs,y::ys,i+1,d,h=>by
  obtain⟨p,q,h1,h2,h3⟩:=Zel (xs:=xs) (ys:=ys) (i:=i) (d:=d) (by simpa [W7] using h)
  exact⟨p,q,by simpa using h1,by simpa using h2,h3⟩
 |[],_,_,_,h=>by simp[W7]at h
 |_::_,[],_,_,h=>by simp[W7]at h
theorem Zek:∀(xs ys:List D),(W7 xs ys).length=min xs.length ys.length
 |x::xs,y::ys=>by simp only[W7,Qp,Zek xs ys];omega
 |[],_=>by simp[W7]
 |_::_,[]=>by simp[W7]
def Z0q(a b:FE):FA:=fun ρ=>(a ρ).bind fun x=>(b ρ).bind fun y=>(UO x).bind fun xs=>(UO y).bind fun ys=>some (W7 xs ys)
theorem Zc7{K:PySem.W.Frag}{H:Hp}{d:D}{v:V}{ds:List D}(e:UO d=some ds)(r:YJ K H d v):∃a b vs,v=.ref a/\Zd1 b K H a vs/\Zr K H ds vs:=by
 cases d with
 |lst es=>cases e;obtain⟨a,vs,rfl,h,r⟩:=r;exact⟨a,true,vs,rfl,WH.of h,r⟩
 |tup es=>cases e;obtain⟨a,vs,rfl,h,r⟩:=r;exact⟨a,false,vs,rfl,Wq.of h,r⟩
 |scr ns=>cases e;obtain⟨a,rfl,h⟩:=r;exact⟨a,true,_,rfl,h,Um ns⟩
 |_=>cases e
theorem Zd1.mono{b:Bool}{K:PySem.W.Frag}{H H':Hp}{a:Addr}{vs:List V}(s:Zf H H')(h:Zd1 b K H a vs):Zd1 b K H' a vs:=by
 cases b
 ·exact Zf.seqT s h
 ·exact Zf.seq s h
theorem Zz5{elts:List Expr}{kk:Nat}{pos pp p:Pos}{a b:Expr}{fa fb:FE}(hm:X.mg "zip"=none)(ha:EV X a fa)(hb:EV X b fb)(hg:Gl X "zip":=by rfl)
  (hs:starEach [a,b] X.env=[(false,eval a X.env),(false,eval b X.env)]:=by rfl) (hs2:starEach [b] X.env=[(false,eval b X.env)]:=by rfl) :
  IV X (.Tuple elts kk pos) (.Call (.Name "zip" p) [a,b] [] pp) (Z0q fa fb):=PI.imp (Zyv hm (Ym ha (Ym hb Xh (by rw[hs2];rfl)) (by rw[hs,hs2])) hg hs hs2) fun σ H R ⟨O,ρ,ds,rv,e,q⟩=>by
 obtain⟨x,e1,e⟩:=bind_some e
 obtain⟨y,e2,e⟩:=bind_some e
 obtain⟨xs,e3,e⟩:=bind_some e
 obtain⟨ys,e4,e⟩:=bind_some e
 cases e
 refine⟨O,ρ,x,rv,e1,fun v H1 s1 r1=>⟨O,ρ,y,rv.mono s1,e2,fun w H2 s2 r2=>?_⟩⟩
 obtain⟨a1,b1,vs,rfl,k1,t1⟩:=Zc7 e3 (YJ.mono (ZA s2) x v r1)
 obtain⟨a2,b2,us,rfl,k2,t2⟩:=Zc7 e4 r2
 refine⟨a1,a2,b1,b2,vs,us,rfl,Zd1.mono Zi k1,Zd1.mono Zi k2,q _ H2 (Zf.trans s1 s2) ?_⟩
 intro H3 O' s3 th i
 have j1:Zd1 b1 X.K H3 a1 vs:=Zd1.mono Zi (Zd1.mono s3 k1)
 have j2:Zd1 b2 X.K H3 a2 us:=Zd1.mono Zi (Zd1.mono s3 k2)
 refine⟨fun d hd=>?_,fun hl=>⟨vs,us,j1,j2,?_⟩⟩
 ·obtain⟨p,q,h1,h2,rfl⟩:=Zel hd
  obtain⟨vp,g1,g2⟩:=t1.get h1
  obtain⟨vq,g3,g4⟩:=t2.get h2
  refine⟨⟨vs,us,vp,vq,j1,j2,g1,g3⟩,fun z H4 ⟨T,x',y',ez,hT,f1,f2,eh⟩=>?_⟩
  subst ez eh
  have w1:=f1 vs j1
  have w2:=f2 us j2
  rw[g1]at w1
  rw[g3]at w2
  cases w1
  cases w2
  exact⟨Zf.new hT,Xg th hT ⟨_,_,rfl,YJ.mono s3 p _ g2,_,_,rfl,YJ.mono s3 q _ g4,rfl⟩⟩
 ·rw[Zek,<- t1.length,<- t2.length]at hl
  omega
end
theorem Zbx{K:PySem.W.Frag}{T:String}(h0:PySem.W.kitOne K (.type "NoneType") (.type T)=some (("NoneType" == T)||(("NoneType" == "bool")&&(T == "int"))))
  (h1:PySem.W.kitOne K (.type "bool") (.type T)=some (("bool" == T)||(("bool" == "bool")&&(T == "int")))) (h2:PySem.W.kitOne K (.type "int") (.type T)=some (("int" == T)||(("int" == "bool")&&(T == "int"))))
  (h3:PySem.W.kitOne K (.type "str") (.type T)=some (("str" == T)||(("str" == "bool")&&(T == "int")))) (h4:PySem.W.kitOne K (.type "tuple") (.type T)=some (("tuple" == T)||(("tuple" == "bool")&&(T == "int"))))
  (h5:PySem.W.kitOne K (.type "list") (.type T)=some (("list" == T)||(("list" == "bool")&&(T == "int")))) (h6:PySem.W.kitOne K (.type "dict") (.type T)=some (("dict" == T)||(("dict" == "bool")&&(T == "int")))):Zju K T:=⟨fun S hS=>by
 simp only[Ql,Jd,or_false]at hS
 rcases hS with rfl|rfl|rfl|rfl|rfl|rfl|rfl
 ·exact h0
 ·exact h1
 ·exact h2
 ·exact h3
 ·exact h4
 ·exact h5
 ·exact h6⟩
theorem Zry{K:PySem.W.Frag}:Zju K "int":=Zbx (by kernel_rfl) (by kernel_rfl) (by kernel_rfl) (by kernel_rfl) (by kernel_rfl) (by kernel_rfl) (by kernel_rfl)
theorem Zob{K:PySem.W.Frag}:Zju K "bool":=Zbx (by kernel_rfl) (by kernel_rfl) (by kernel_rfl) (by kernel_rfl) (by kernel_rfl) (by kernel_rfl) (by kernel_rfl)
theorem UN{K:PySem.W.Frag}:Zju K "tuple":=Zbx (by kernel_rfl) (by kernel_rfl) (by kernel_rfl) (by kernel_rfl) (by kernel_rfl) (by kernel_rfl) (by kernel_rfl)
theorem We:bootBuiltins ("len":Str)=some (Value.builtin "len"):=by decide+kernel
theorem Zdw:bootBuiltins ("all":Str)=some (Value.builtin "all"):=by decide+kernel
theorem Z08:bootBuiltins ("min":Str)=some (Value.builtin "min"):=by decide+kernel
theorem Z09:bootBuiltins ("max":Str)=some (Value.builtin "max"):=by decide+kernel
theorem Zfk:bootBuiltins ("sorted":Str)=some (Value.builtin "sorted"):=by decide+kernel
theorem UR:bootBuiltins ("int":Str)=some (Value.type "int"):=by decide+kernel
theorem Zwi:bootBuiltins ("bool":Str)=some (Value.type "bool"):=by decide+kernel
theorem Zwh:bootBuiltins ("list":Str)=some (Value.type "list"):=by decide+kernel
theorem Y6:bootBuiltins ("tuple":Str)=some (Value.type "tuple"):=by decide+kernel
end L2

namespace ZD
open PySem PyProof.Rows
def DictR(h:Heap)(d:Addr)(es:Array DictEntry)(ep:Nat):Prop:=∃o,h.get? d=some o/\o.ExactDict/\o.data=.dict es ep
section
variable{prog:Program}{w:World}{A:Around}{E:Value->Shared->Prop}{s:Shared}{d it:Addr}{es:Array DictEntry}{ep i:Nat}
theorem DictR.ty(x:DictR s.heap d es ep):s.TypeIs (.ref d) "dict":=let⟨o,h1,h2,_⟩:=x;⟨o,h1,h2.1⟩
theorem DictR.ext{h h':Heap}{b:Addr}(x:DictR h d es ep)(e:Heap.ExtBut b h h')(n:d≠b):DictR h' d es ep:=let⟨o,h1,r⟩:=x;⟨o,e _ _ n h1,r⟩
theorem DictR.lt{h:Heap}(x:DictR h d es ep):d<h.objs.size:=let⟨_,h1,_⟩:=x;Qk h1
theorem Zoe{Q:Value->Shared->Prop}(hd:(d == sysModules)=false)(hm:DictR s.heap d es ep)
  (done:Q (.ref s.heap.objs.size) { s with heap:=s.heap.push { cls:=.type "dict_keyiterator",data:=.fields #[.ref d,.int 0 0,.int es.size 0,.int ep 0] } }):wpAny (model prog w) A (pyIter (.ref d)) Q E s:=by
 have ty:=hm.ty
 obtain⟨od,g1,g2,g3⟩:=id hm
 refine wpAny_pyIter_slot ty F.slot_dict_iter (Q0 F.slot_dict_iter ty F.entry_dict_iter ?_ (F.args_dict_iter_1 _))
 unfold Builtin.«dict.__iter__»
 refine Qa ?_
 unfold Builtin.Dict.dictSlotNone
 refine Qa (wpAny_notOrdered_dict ty ?_)
 show wpAny _ _ (pure (Value.ref d)) _ _ s
 refine Qc ?_
 show wpAny _ _ (Builtin.Dict.showsAll d >>= fun _=>_) _ _ s
 unfold Builtin.Dict.showsAll
 rw[if_neg (fun z=>by rw[hd]at z;cases z)]
 refine Qa (Qc ?_)
 refine Qa (wpAny_dictEntries g1 g3 ?_)
 refine Qa (wpAny_dictEpoch g1 g3 ?_)
 refine Qa (QU (Qc ⟨_,rfl,"dict_keyiterator",_,⟨_,Qm _ rfl,rfl⟩,JG.lookup,?_⟩))
 simpa [rawInt] using done
theorem Zod{Q:Option Value->Shared->Prop}{e:DictEntry}(hi:s.heap.IsKeyIter it d i es.size ep)(hm:DictR s.heap d es ep)(hx:es[i]?=some e)
  (done:∀h',h'.IsKeyIter it d (i+1) es.size ep->Heap.SameBut it s.heap h'->Q (some e.key) { s with heap:=h' }):wpAny (model prog w) A (pyNext (.ref it)) Q E s:=by
 obtain⟨oi,k1,k2,k3⟩:=id hi
 obtain⟨od,g1,g2,g3⟩:=id hm
 unfold pyNext
 refine Qa (wpAny_attempt (Q2 (name:=Str.ofString "__next__") hi.typeIs JG (Q0 JG hi.typeIs F.entry_dict_keyiterator_next ?_ (F.args_dict_keyiterator_next_1 _))))
 refine Qa (Qc ?_)
 refine Qa ?_
 refine Qa ?_
 first|refine Qa (J4 hi.typeIs (Qc ?_))|refine Qa (wpAny_typeNameOf_keyiter hi.typeIs (Qc ?_))
 refine Qa (wpAny_fieldsOf k1 k3 ?_)
 simp only[show Builtin.Dict_items.ownsTuple "dict_keyiterator"=false by decide,Qr,if_false]
 show wpAny _ _ (if(Value.ref d == Value.none)=true then _ else _) _ _ s
 rw[if_neg (fun z:(Value.ref d == Value.none)=true=>Qv z)]
 refine Qa (Qc ?_)
 refine Qa (wpAny_dictEntries g1 g3 ?_)
 rw[if_neg (by simp)]
 refine Qa (Qc ?_)
 refine Qa (wpAny_dictEpoch g1 g3 ?_)
 rw[if_neg (by simp)]
 refine Qc ?_
 simp only[show ¬((i:Int)<0) from by omega,if_false,QF,hx]
 refine Qa ?_
 first|refine Qa (J4 hi.typeIs (Qc ?_))|refine Qa (wpAny_typeNameOf_keyiter hi.typeIs (Qc ?_))
 refine Qa (wpAny_isOneOf_keyiter hi.typeIs ?_)
 show wpAny _ _ (setField (.ref it) 1 (rawInt ((i:Int)+1)) >>= fun _=>_) _ _ s
 refine Qa (JQ k1 k3 (by simp) ?_)
 have hi':(s.heap.update it (Obj.mapFields (·.setIfInBounds 1 (rawInt ((i:Int)+1))))).IsKeyIter it d (i+1) es.size ep :=
  ⟨_,QR _ k1 (Obj.isFreed_of_fields (Jh k3 _)),(Obj.cls_mapFields ..).trans k2,by rw[Jh k3];simp[rawInt]⟩
 refine Qa (QV ?_)
 refine Qa (wpAny_isOneOf_keyiter (s:={ s with heap:=s.heap.update it (Obj.mapFields (·.setIfInBounds 1 (rawInt ((i:Int)+1)))) }) hi'.typeIs ?_)
 show wpAny _ _ (pure e.key) _ _ _
 exact Qc (Qc ⟨_,rfl,Qc (done _ hi' (Q6 ..))⟩)
theorem Zoc{Q:Option Value->Shared->Prop}(hh:A.handled=none)(hi:s.heap.IsKeyIter it d i es.size ep)(hm:DictR s.heap d es ep)(hx:es.size<=i)
  (done:∀h',Heap.ExtBut it s.heap h'->Q none { s with heap:=h' }):wpAny (model prog w) A (pyNext (.ref it)) Q E s:=by
 obtain⟨oi,k1,k2,k3⟩:=id hi
 obtain⟨od,g1,g2,g3⟩:=id hm
 unfold pyNext
 refine Qa (wpAny_attempt (Q2 (name:=Str.ofString "__next__") hi.typeIs JG (Q0 JG hi.typeIs F.entry_dict_keyiterator_next ?_ (F.args_dict_keyiterator_next_1 _))))
 refine Qa (Qc ?_)
 refine Qa ?_
 refine Qa ?_
 first|refine Qa (J4 hi.typeIs (Qc ?_))|refine Qa (wpAny_typeNameOf_keyiter hi.typeIs (Qc ?_))
 refine Qa (wpAny_fieldsOf k1 k3 ?_)
 simp only[show Builtin.Dict_items.ownsTuple "dict_keyiterator"=false by decide,Qr,if_false]
 show wpAny _ _ (if(Value.ref d == Value.none)=true then _ else _) _ _ s
 rw[if_neg (fun z:(Value.ref d == Value.none)=true=>Qv z)]
 refine Qa (Qc ?_)
 refine Qa (wpAny_dictEntries g1 g3 ?_)
 rw[if_neg (by simp)]
 refine Qa (Qc ?_)
 refine Qa (wpAny_dictEpoch g1 g3 ?_)
 rw[if_neg (by simp)]
 refine Qc ?_
 simp only[show ¬((i:Int)<0) from by omega,if_false,QF,Array.getElem?_eq_none hx]
 refine Qa ?_
 first|refine Qa (J4 hi.typeIs (Qc ?_))|refine Qa (wpAny_typeNameOf_keyiter hi.typeIs (Qc ?_))
 show wpAny _ _ (setField (.ref it) 0 .none >>= fun _=>_) _ _ s
 refine Qa (JQ k1 k3 (by simp) ?_)
 show wpAny _ _ (newExc (.type "StopIteration") [] >>= fun _=>_) _ _ _
 refine Qa ?_
 simp only[newExc,newTuple]
 refine Qa (QU (hd:=by size_fits) ?_)
 refine Qa (m:=firstArgMember _ _) (wpAny_of_eq (a:=Value.none) (by first|rfl|(simp only[firstArgMember]<;>rfl)) ?_)
 refine QU (hd:=by size_fits) ?_
 simp only[raiseNew]
 refine Qa (wpAny_handled ?_)
 rw[show A.in1.handled=none from hh]
 refine Qa (Qc (wpAny_throw ?_))
 refine Qa (wpAny_isInstance (T:="StopIteration") (b:=true) ⟨_,Qm _ rfl,rfl⟩ isSubtype_stop (Qc (done _ (((Q6 ..).extBut.push _).push _))))
theorem Zj3(hh:A.handled=none)(I d:Addr)(hne:d≠I):Walks prog w A I [I,d] [I] es.size (fun i v=>∃e,es[i]?=some e/\v=e.key) (fun i h=>h.IsKeyIter I d i es.size ep/\DictR h d es ep) where
 sub:=fun b hb=>by
  have:b=I:=by simpa using hb
  simp[this]
 frame:=fun _ _ _ st hk=>⟨st.1.at fun o e=>hk I (by simp) o e,let⟨o,h1,r⟩:=st.2;⟨o,hk d (by simp) o h1,r⟩⟩
 item:=fun i s Q E hi st hQ=>by
  have hx:es[i]?=some es[i]:=QS hi
  exact Zod st.1 st.2 hx fun h' hit' hs'=>hQ _ h' s.toks ⟨_,hx,rfl⟩ ⟨hit',st.2.ext hs'.extBut hne⟩ fun b o hb e=>hs'.extBut b o (fun h=>hb (by simp[h])) e
 done:=fun s Q E st hQ=>Zoc hh st.1 st.2 (Qg _) fun h' he'=>hQ h' s.toks fun b o hb e=>he' b o (fun h=>hb (by simp[h])) e
 self:=fun _ _ _ _ st hQ=>wpAny_pyIter_keyiter st.1 hQ
theorem src_raw(lo:(d == sysModules)=false):PySem.W.KdlSrc prog w "dict" d d es.size (fun i v=>∃e,es[i]?=some e/\v=e.key) (fun h=>DictR h d es ep) where
 type:=fun _ hm=>hm.ty
 there:=fun _ hm=>⟨hm.lt,hm.lt⟩
 keep:=fun _ _ hm hk=>let⟨o,h1,r⟩:=hm;⟨o,hk d (.inl rfl) o h1,r⟩
 notList:=by decide
 notTuple:=by decide
 hint:=fun _ _ _ _ hm hq=>PySem.W.kdl_hint_dict hm.ty hq
 iter:=fun _ _ hh hm=>⟨_,_,(fun _ _ hq=>Zoe lo hm hq),Zj3 hh _ d (Qo hm.lt),⟨⟨_,Qm _ rfl,rfl,rfl⟩,let⟨o,h1,r⟩:=hm;⟨o,Qb _ h1,r⟩⟩⟩
end
end ZD
namespace L2
open PySem PySem.Spec PyProof.Rows
def kD:YQ->D
 |.inl i=>.int i
 |.inr x=>.str x
section
variable{X:Cx}
theorem Zg3(hc:X.calm=true):Xd X (.type "list") (fun xs H Q=>∃a kvs,xs=[.ref a]/\H a=some (.dT kvs)/\∀l bs,H l=none->Paired (fun(k:List YQ) (b:Addr)=>H b=some (.tup (k.map kV))) (kvs.map (·.1)) bs->Q (.ref l) (Y1 H l (.lst (bs.map V.ref)))):=by
 intro pins s σ H xs us Q I rs h
 obtain⟨a,kvs,rfl,ha,q⟩:=h
 obtain⟨u,rfl,ru⟩:=Xp rs
 cases ru
 obtain⟨hz,hS,ys,hp,o,es,ep,h1,h2,h3,h4,h5⟩:=(show Yr X.prog X.w H s.heap a (.dT kvs) from I.hok a _ ha)
 have hlen:kvs.length=ys.length:=Paired.length hp
 have hes:es.size=ys.length:=by rw[<- Qx,h4,Qd]
 refine PySem.W.kdl_call (ZD.src_raw (es:=es) (ep:=ep) hS) (I.ok.hd hc) ⟨o,h1,h2,h3⟩ (by omega) fun h' tk acc' c' hk hl hit=>?_
 have hacc:acc'.toList=(ys.map (·.2.1)).map Value.ref:=by
  apply List.ext_getElem?
  intro j
  rw[Qy,QC]
  by_cases hj:j<ys.length
  ·have e1:ys[j]?=some ys[j]:=Qn hj
   have hja:j<acc'.size:=by rw[hit.1,hes];exact hj
   obtain⟨e,g1,g2⟩:=hit.2 j _ (QS hja)
   have g3:es.toList[j]?=some e:=by rw[QQ];exact g1
   rw[h4,QC,e1]at g3
   cases g3
   rw[QQ,QS hja,e1,g2]
   rfl
  ·rw[QG (by rw[Qx,hit.1,hes];omega),QG (by omega)]
   rfl
 have rv:∀(bs:List Addr),ZB (bs.map V.ref) (bs.map Value.ref):=by
  intro bs
  induction bs with
  |nil=>exact .nil
  |cons b bs ih=>exact .cons rfl ih
 have pk:Paired (fun(k:List YQ) (b:Addr)=>H b=some (.tup (k.map kV))) (kvs.map (·.1)) (ys.map (·.2.1)):=by
  clear hacc hes h4 h5 hlen hz ha q
  induction hp with
  |nil=>exact .nil
  |cons r t ih=>rw[Qh,Qh];exact .cons (by rw[r.1];have:=r.2.1;rw[r.1]at this;exact this) ih
 refine⟨.ref s.heap.objs.size,_,I.laid (o:=.lst ((ys.map (·.2.1)).map V.ref)) hk (Qg _) ⟨?_,acc'.toList,c',by rw[hacc];exact rv _,hl⟩,rfl,q _ _ (I.hok.fresh (Qg _)) pk⟩
 rw[Qd,Qd];omega
end
section
variable{κ:Type} [DecidableEq κ]
def Zjx:List κ->List D->κ->Option D
 |k::ks,d::ds,x=>if k=x then some d else Zjx ks ds x
 |_,_,_=>none
def Za3(ks:List κ)(x:κ):List κ:=if x∈ks then ks else ks++[x]
def Za4(ks:List κ)(ds:List D)(x:κ)(v:D):List D:=if x∈ks then(ks.zip ds).map (fun p=>if p.1=x then v else p.2) else ds++[v]
theorem Zgf{K:PySem.W.Frag}{H:Hp}{x:κ}:∀{kvs:List (κ×V)} {ds:List D},Zr K H ds (kvs.map (·.2))->(∀d,Zjx (kvs.map (·.1)) ds x=some d->∃v,WS kvs x=some v/\YJ K H d v)/\(Zjx (kvs.map (·.1)) ds x=none->WS kvs x=none)
 |[],ds,r=>⟨fun d h=>by simp[Zjx]at h,fun _=>rfl⟩
 |(k,v)::kvs,[],r=>by have:=r.length;simp at this
 |(k,v)::kvs,d::ds,⟨v',r',e,h,t⟩=>by
  have e':v=v'/\kvs.map (·.2)=r':=by simpa using e
  obtain⟨rfl,rfl⟩:=e'
  have ih:=Zgf (x:=x) t
  by_cases hk:k=x
  ·subst hk
   refine⟨fun d' q=>?_,fun q=>?_⟩
   ·simp only[Qh,Zjx,if_true]at q
    cases q
    exact⟨v,by simp[WS],h⟩
   ·simp[Zjx]at q
  ·refine⟨fun d' q=>?_,fun q=>?_⟩
   ·simp only[Qh,Zjx,if_neg hk]at q
    obtain⟨w,h1,h2⟩:=ih.1 d' q
    refine⟨w,?_,h2⟩
    simp only[WS,JB,hk,decide_false]at h1 ⊢
    exact h1
   ·simp only[Qh,Zjx,if_neg hk]at q
    have:=ih.2 q
    simp only[WS,JB,hk,decide_false]at this ⊢
    exact this
theorem Zj4{x:κ}{kvs:List (κ×V)}:(WS kvs x).isSome=decide (x∈kvs.map (·.1)):=by
 rw[<- UZ]
 rw[Bool.eq_iff_iff]
 simp only[List.any_eq_true,decide_eq_true_eq,QA]
theorem Zhi{K:PySem.W.Frag}{H:Hp}{x:κ}{d:D}{v:V}(hr:YJ K H d v):∀{kvs:List (κ×V)} {ds:List D},Zr K H ds (kvs.map (·.2)) ->
  Zr K H (((kvs.map (·.1)).zip ds).map (fun p=>if p.1=x then d else p.2)) ((kvs.map (fun kv=>if kv.1=x then(kv.1,v) else kv)).map (·.2))
 |[],ds,r=>by simp[Zr]
 |(k,u)::kvs,[],r=>by have:=r.length;simp at this
 |(k,u)::kvs,e::ds,⟨v',r',q,h,t⟩=>by
  have q':u=v'/\kvs.map (·.2)=r':=by simpa using q
  obtain⟨rfl,rfl⟩:=q'
  have ih:=Zhi (x:=x) hr t
  simp only[Qh,Jt]
  refine⟨_,_,rfl,?_,ih⟩
  by_cases hk:k=x
  ·simp only[hk,if_true];exact hr
  ·simp only[hk,if_false];exact h
theorem Zl9{K:PySem.W.Frag}{H:Hp}{x:κ}{d:D}{v:V}(hr:YJ K H d v){kvs:List (κ×V)}{ds:List D}(r:Zr K H ds (kvs.map (·.2))) :
  (Vr kvs x v).map (·.1)=Za3 (kvs.map (·.1)) x/\Zr K H (Za4 (kvs.map (·.1)) ds x d) ((Vr kvs x v).map (·.2)):=by
 unfold Vr Za3 Za4
 have hany:(kvs.any fun kv=>decide (kv.1=x))=decide (x∈kvs.map (·.1)):=by rw[UZ,Zj4]
 rw[hany]
 by_cases hx:x∈kvs.map (·.1)
 ·simp only[hx,decide_true,if_true]
  refine⟨?_,Zhi hr r⟩
  rw[Qy]
  apply QW
  intro kv _
  simp only[Function.comp]
  split<;>rfl
 ·simp only[hx,decide_false,Qr,if_false,List.map_append,Qh,JK]
  exact⟨trivial,Zr.append r (Zr.one hr)⟩
end
def Zk3:D->Option YQ
 |.int i=>some (.inl i)
 |.str x=>some (.inr x)
 |_=>none
def Zrz:List D->Option (List YQ)
 |[]=>some []
 |d::ds=>(Zk3 d).bind fun k=>(Zrz ds).bind fun r=>some (k::r)
def Zvo:D->Option (List YQ)
 |.tup ds=>Zrz ds
 |_=>none
theorem Zc5{K:PySem.W.Frag}{H:Hp}{d:D}{v:V}{k:YQ}(e:Zk3 d=some k)(r:YJ K H d v):v=kV k:=by
 cases d with
 |int i=>cases e;exact r
 |str x=>cases e;exact r
 |_=>cases e
theorem Up{K:PySem.W.Frag}{H:Hp}:∀{ds:List D} {vs:List V} {ks:List YQ},Zrz ds=some ks->Zr K H ds vs->vs=ks.map kV
 |[],_,_,e,r=>by cases e;exact r
 |d::ds,_,ks,e,⟨v,vr,q,h,t⟩=>by
  obtain⟨k,e1,e⟩:=bind_some e
  obtain⟨ks',e2,e⟩:=bind_some e
  cases e
  subst q
  rw[Zc5 e1 h,Up e2 t];rfl
theorem Zz1{K:PySem.W.Frag}{H:Hp}(k:YQ):YJ K H (kD k) (kV k):=by cases k<;>rfl
theorem Ziu{K:PySem.W.Frag}{H:Hp}:∀(ks:List YQ),Zr K H (ks.map kD) (ks.map kV)
 |[]=>rfl
 |k::ks=>⟨_,_,rfl,Zz1 k,Ziu ks⟩
def Zad:D->D->Option (Option D)
 |.dcK ks ds,x=>(Zk3 x).bind fun k=>some (Zjx ks ds k)
 |.dcT ks ds,x=>(Zvo x).bind fun k=>some (Zjx ks ds k)
 |.dcF ks ds,x=>(Zvo x).bind fun k=>some (Zjx ks ds k)
 |_,_=>none
theorem Zaw{K:PySem.W.Frag}{O:List Addr}{H:Hp}{dd x:D}{o:Option D}{a v:V}(e:Zad dd x=some o)(rd:YJ K (mask O H) dd a)(rx:YJ K (mask O H) x v) :
  ∃p ov,a=.ref p/\UU H p v ov/\IsD H p/\(∀d,o=some d->∃u,ov=some u/\YJ K (mask O H) d u)/\(o=none->ov=none):=by
 cases dd with
 |dcK ks ds =>
  obtain⟨k,e1,e⟩:=bind_some e
  cases e
  obtain⟨p,kvs,rfl,hp,rfl,rs⟩:=rd
  have hp':=Zi _ _ hp
  cases Zc5 e1 rx
  obtain⟨h1,h2⟩:=Zgf (x:=k) rs
  refine⟨p,WS kvs k,rfl,UU.k hp',.inl ⟨kvs,.inl hp'⟩,fun d q=>?_,fun q=>h2 q⟩
  obtain⟨u,g1,g2⟩:=h1 d q
  exact⟨u,g1,g2⟩
 |dcT ks ds =>
  obtain⟨k,e1,e⟩:=bind_some e
  cases e
  obtain⟨p,kvs,rfl,hp,rfl,rs⟩:=rd
  have hp':=Zi _ _ hp
  cases x with
  |tup xs =>
   obtain⟨b,vs,rfl,hb,rb⟩:=rx
   cases Up e1 rb
   obtain⟨h1,h2⟩:=Zgf (x:=k) rs
   refine⟨p,WS kvs k,rfl,UU.t hp' (Zi _ _ hb),.inr ⟨kvs,.inl hp'⟩,fun d q=>?_,fun q=>h2 q⟩
   obtain⟨u,g1,g2⟩:=h1 d q
   exact⟨u,g1,g2⟩
  |_=>cases e1
 |dcF ks ds =>
  obtain⟨k,e1,e⟩:=bind_some e
  cases e
  obtain⟨p,fo,kvs,rfl,hp,rfl,rs⟩:=rd
  have hp':=Zi _ _ hp
  cases x with
  |tup xs =>
   obtain⟨b,vs,rfl,hb,rb⟩:=rx
   cases Up e1 rb
   obtain⟨h1,h2⟩:=Zgf (x:=k) rs
   refine⟨p,WS kvs k,rfl,.inr ⟨kvs,k,b,.inr ⟨fo,hp'⟩,rfl,Zi _ _ hb,rfl⟩,.inr ⟨kvs,.inr ⟨fo,hp'⟩⟩,fun d q=>?_,fun q=>h2 q⟩
   obtain⟨u,g1,g2⟩:=h1 d q
   exact⟨u,g1,g2⟩
  |_=>cases e1
 |_=>cases e
section
variable{X:Cx}
def UC:D->Bool
 |.non=>true
 |.bl _=>true
 |.int _=>true
 |.str _=>true
 |_=>false
def Zty:D->V
 |.bl b=>.bl b
 |.int i=>.int i
 |.str x=>.str x
 |_=>.non
theorem Zdf{K:PySem.W.Frag}{H:Hp}{d:D}{v:V}(f:UC d=true)(r:YJ K H d v):v=Zty d/\UB v=true:=by
 cases d with
 |non=>rw[show v=_ from r];exact⟨rfl,rfl⟩
 |bl b=>rw[show v=_ from r];exact⟨rfl,rfl⟩
 |int b=>rw[show v=_ from r];exact⟨rfl,rfl⟩
 |str b=>rw[show v=_ from r];exact⟨rfl,rfl⟩
 |_=>cases f
theorem Zav{K:PySem.W.Frag}{H:Hp}:∀{ds:List D} {vs:List V},ds.all UC=true->Zr K H ds vs->vs=ds.map Zty/\vs.all UB=true
 |[],_,_,r=>by rw[show _=_ from r];exact⟨rfl,rfl⟩
 |d::ds,_,f,⟨v,vr,q,h,t⟩=>by
  subst q
  rw[Jp,Qq]at f
  obtain⟨h1,h2⟩:=Zdf f.1 h
  obtain⟨h3,h4⟩:=Zav f.2 t
  exact⟨by rw[h1,h3];rfl,by rw[Jp,h2,h4];rfl⟩
def UP:D->D->Option D
 |x,.lst ds=>if(UC x&&ds.all UC)=true then some (.bl (inV (Zty x) (ds.map Zty))) else none
 |x,.tup ds=>if(UC x&&ds.all UC)=true then some (.bl (inV (Zty x) (ds.map Zty))) else none
 |x,y=>(Zad y x).bind fun o=>some (.bl o.isSome)
theorem Zy9(hu:X.A.units+1<cLine):W6 X (compareOp .In) (fun x y H Q=>∃a o,y=.ref a/\UU H a x o/\Q (.bl o.isSome) H):=by
 intro pins s σ H x y v u Q I rx ry h
 obtain⟨a,o,rfl,g,q⟩:=h
 cases ry
 exact d_in hu I g rx fun s' I'=>⟨.bl o.isSome,H,I',rfl,q⟩
theorem Zra(hu:X.A.units+64<cLine):VC X (compareOp .In) UP:=VC.of (W6.or Zny (Zy9 (Nat.lt_of_le_of_lt (Nat.add_le_add_left (by decide) _) hu))) fun x y H Q ⟨O,dx,dy,d,th,rx,ry,e,q⟩=>by
 have dict:∀o,Zad dy dx=some o->d=.bl o.isSome->∃a ov,y=.ref a/\UU H a x ov/\Q (.bl ov.isSome) H:=fun o e1 e2=>by
  obtain⟨p,ov,e3,g,_,h1,h2⟩:=Zaw e1 ry rx
  refine⟨p,ov,e3,g,?_⟩
  have:ov.isSome=o.isSome:=by
   cases o with
   |none=>rw[h2 rfl];rfl
   |some d'=>obtain⟨u,hu,_⟩:=h1 d' rfl;rw[hu];rfl
  rw[this]
  subst e2
  exact q _ H (Zf.refl _) rfl
 cases dy with
 |lst ds =>
  have e:(if(UC dx&&ds.all UC)=true then some (D.bl (inV (Zty dx) (ds.map Zty))) else none)=some d:=e
  split at e
  ·rename_i hf
   cases e
   obtain⟨f1,f2⟩:=Bool.and_eq_true_iff.mp hf
   obtain⟨p,vs,rfl,hp,rp⟩:=ry
   obtain⟨h1,h2⟩:=Zdf f1 rx
   obtain⟨h3,h4⟩:=Zav f2 rp
   refine .inl ⟨p,vs,rfl,.inl (WH.of (Zi _ _ hp)),h2,h4,?_⟩
   rw[h1,h3]
   exact q _ H (Zf.refl _) rfl
  ·cases e
 |tup ds =>
  have e:(if(UC dx&&ds.all UC)=true then some (D.bl (inV (Zty dx) (ds.map Zty))) else none)=some d:=e
  split at e
  ·rename_i hf
   cases e
   obtain⟨f1,f2⟩:=Bool.and_eq_true_iff.mp hf
   obtain⟨p,vs,rfl,hp,rp⟩:=ry
   obtain⟨h1,h2⟩:=Zdf f1 rx
   obtain⟨h3,h4⟩:=Zav f2 rp
   refine .inl ⟨p,vs,rfl,.inr (Wq.of (Zi _ _ hp)),h2,h4,?_⟩
   rw[h1,h3]
   exact q _ H (Zf.refl _) rfl
  ·cases e
 |dcK ks ds=>obtain⟨o,e1,e⟩:=bind_some e;cases e;exact .inr (dict o e1 rfl)
 |dcT ks ds=>obtain⟨o,e1,e⟩:=bind_some e;cases e;exact .inr (dict o e1 rfl)
 |dcF ks ds=>obtain⟨o,e1,e⟩:=bind_some e;cases e;exact .inr (dict o e1 rfl)
 |_=>cases e
def Z02:D->D->Option D:=fun d k=>(Zad d k).bind fun o=>o
theorem Z0u{a b:Expr}{fa fb:FE}{pos:Pos}(hu:X.A.units+64<cLine)(ha:EV X a fa)(hb:EV X b fb)(hs:Z1g b:=by exact fun _ _=>rfl):EV X (.Subscript a b pos) (f2 Z02 fa fb) :=
 PE.imp (Zu6 (Nat.lt_of_le_of_lt (Nat.add_le_add_left (by decide) _) hu) ha hb hs) fun σ H Q h=>by
  obtain⟨O,ρ,d,rv,e,q⟩:=h
  obtain⟨x,e1,e⟩:=bind_some e
  obtain⟨y,e2,e⟩:=bind_some e
  obtain⟨o,e3,e⟩:=bind_some e
  subst e
  refine⟨O,ρ,x,rv,e1,fun v H1 s1 r1=>⟨O,ρ,y,rv.mono s1,e2,fun u H2 s2 r2=>?_⟩⟩
  obtain⟨p,ov,e4,g,_,h1,_⟩:=Zaw e3 (YJ.mono (ZA s2) x v r1) r2
  obtain⟨w,ew,rw'⟩:=h1 d rfl
  exact⟨p,w,e4,by rw[<- ew];exact g,q w H2 (Zf.trans s1 s2) rw'⟩
def Zor(fa fb fc:FE):FE:=fun ρ=>(fa ρ).bind fun x=>(fb ρ).bind fun y=>(fc ρ).bind fun z=>(Zad x y).bind fun o=>some (o.getD z)
theorem Z0v{o e f:Expr}{fa fb fc:FE}{apos cpos:Pos}(hu:X.A.units+64<cLine)(ho:EV X o fa)(he:EV X e fb)(hf:EV X f fc)(m:M2 X o "get" apos e f cpos:=by exact⟨rfl,rfl,rfl,rfl⟩) :
  EV X (.Call (.Attribute o "get" apos) [e,f] [] cpos) (Zor fa fb fc):=PE.imp (Zq6 (Nat.lt_of_le_of_lt (Nat.add_le_add_left (by decide) _) hu) ho he hf m) fun σ H Q h=>by
 obtain⟨O,ρ,d,rv,e,q⟩:=h
 obtain⟨x,e1,e⟩:=bind_some e
 obtain⟨y,e2,e⟩:=bind_some e
 obtain⟨z,e3,e⟩:=bind_some e
 obtain⟨o,e4,e⟩:=bind_some e
 cases e
 refine⟨O,ρ,x,rv,e1,fun v H1 s1 r1=>?_⟩
 have isd:∃p,v=.ref p/\IsD H1 p:=by
  cases x with
  |dcK ks ds=>obtain⟨p,kvs,rfl,hp,_⟩:=r1;exact⟨p,rfl,.inl ⟨kvs,.inl (Zi _ _ hp)⟩⟩
  |dcT ks ds=>obtain⟨p,kvs,rfl,hp,_⟩:=r1;exact⟨p,rfl,.inr ⟨kvs,.inl (Zi _ _ hp)⟩⟩
  |dcF ks ds=>obtain⟨p,fo,kvs,rfl,hp,_⟩:=r1;exact⟨p,rfl,.inr ⟨kvs,.inr ⟨fo,Zi _ _ hp⟩⟩⟩
  |_=>cases e4
 obtain⟨p,rfl,hd⟩:=isd
 refine⟨p,rfl,hd,O,ρ,y,rv.mono s1,e2,fun u H2 s2 r2=>⟨O,ρ,z,rv.mono (Zf.trans s1 s2),e3,fun w H3 s3 r3=>?_⟩⟩
 obtain⟨p',ov,ep,g,_,h1,h2⟩:=Zaw e4 (YJ.mono (ZA (Zf.trans s2 s3)) x _ r1) (YJ.mono (ZA s3) y u r2)
 cases ep
 refine⟨ov,g,?_⟩
 cases o with
 |none=>rw[h2 rfl];exact q w H3 (Zf.trans s1 (Zf.trans s2 s3)) r3
 |some d'=>obtain⟨t,et,rt⟩:=h1 d' rfl;rw[et];exact q t H3 (Zf.trans s1 (Zf.trans s2 s3)) rt
def Zms:List D->Option D
 |[.dcK ks _]=>some (.int ks.length)
 |_=>none
theorem Zwc:YY X (.builtin "len") Zms:=YY.of Zo7 fun xs H Q ⟨O,ds,d,th,rs,e,q⟩=>by
 unfold Zms at e
 split at e
 ·cases e
  obtain⟨v,rfl,p,kvs,rfl,hp,hk,_⟩:=Zcn rs
  refine⟨p,kvs,rfl,Zi _ _ hp,?_⟩
  rw[<- hk,Qd]at q
  exact q _ H (Zf.refl _) rfl
 ·cases e
def Zgg:List D->Option D
 |[.dcT ks _]=>some (.lst (ks.map fun k=>.tup (k.map kD)))
 |_=>none
theorem Ze3{K:PySem.W.Frag}{H:Hp}:∀{ks:List (List YQ)} {bs:List Addr},Paired (fun(k:List YQ) (b:Addr)=>H b=some (.tup (k.map kV))) ks bs->Zr K H (ks.map fun k=>.tup (k.map kD)) (bs.map V.ref)
 |_,_,.nil=>rfl
 |_,_,.cons h t=>⟨_,_,rfl,⟨_,_,rfl,h,Ziu _⟩,Ze3 t⟩
theorem Zth(hc:X.calm=true):YY X (.type "list") Zgg:=YY.of (Zg3 hc) fun xs H Q ⟨O,ds,d,th,rs,e,q⟩=>by
 unfold Zgg at e
 split at e
 ·cases e
  obtain⟨v,rfl,p,kvs,rfl,hp,rfl,_⟩:=Zcn rs
  refine⟨p,kvs,rfl,Zi _ _ hp,fun l bs hl pk=>q _ _ (Zf.new hl) (Yj th hl ?_)⟩
  refine Ze3 (Paired.mapP pk fun k b hb=>?_)
  refine(ZF fun m=>?_).trans hb
  obtain⟨o,h1,h2⟩:=th b m
  rw[hb]at h1;cases h1;exact h2
 ·cases e
def Zqh(i:Nat):FS:=fun ρ=>.nx (ρ.set i (some (.own (.dcT [] []))))
theorem Zt7{i:Nat}{x:Str}{pos pos' pd:Pos}(hN:X.N.Nodup)(hi:X.N[i]?=some x:=by rfl)(hx:Zpc X.env.scope x:=by first|exact Or.inl rfl|exact Or.inr rfl)(hs:swapsWith (.Dict [] [] pd) (some (.Name x pos')) pos.line X.env=pure false:=by rfl)
  (hf:X.fn x=true\/X.env.scope.names.lookup x=some .local:=by first|exact .inl rfl|exact .inr rfl):SV X (.Assign [.Name x pos'] (.Dict [] [] pd) pos) (Zqh i):=PS.imp (Zam hN hi hx Zq5 hs hf) fun E σ H ⟨B,O0,O1,ρ,r,q⟩ =>
 fun p hp=>q _ _ (p::O1) (r.setOwn hp trivial ⟨[],Yc,rfl,rfl⟩)
def Zqi(i:Nat)(c:Int)(b:Bool):FS:=fun ρ=>.nx (ρ.set i (some (.own (.dcK [.inl c] [.bl b]))))
theorem Zt8{i:Nat}{x:Str}{c:Int}{b:Bool}{j1 j2}{pos pos' pd p1 p2:Pos}(hN:X.N.Nodup)(hi:X.N[i]?=some x:=by rfl)(hx:Zpc X.env.scope x:=by first|exact Or.inl rfl|exact Or.inr rfl)
  (hs:swapsWith (.Dict [some (.Constant (.int c) j1 p1)] [.Constant (.bool b) j2 p2] pd) (some (.Name x pos')) pos.line X.env=pure false:=by rfl)
  (hf:X.fn x=true\/X.env.scope.names.lookup x=some .local:=by first|exact .inl rfl|exact .inr rfl):SV X (.Assign [.Name x pos'] (.Dict [some (.Constant (.int c) j1 p1)] [.Constant (.bool b) j2 p2] pd) pos) (Zqi i c b) :=
 PS.imp (Zam hN hi hx (Zu5 (Zqu Zq4 Zxe Zuz) rfl rfl (by simp) (by simp)) hs hf) fun E σ H ⟨B,O0,O1,ρ,r,q⟩=>by
  intro p hp
  refine⟨Yc,[(.inl c,.bl b)],rfl,by simp,?_⟩
  rw[Zt4]
  exact q _ _ (p::O1) (r.setOwn hp trivial ⟨_,Yc,rfl,_,_,rfl,rfl,rfl⟩)
def Xa(i:Nat)(fk fv:FE):FS:=fun ρ=>match ρ[i]?,fv (YF ρ),fk (YF ρ) with
 |some (some (.own (.dcK ks ds))),some d,some kd=>(match Zk3 kd with
  |some k=>if Zvz d=true/\ks.length<ZN then .nx (ρ.set i (some (.own (.dcK (Za3 ks k) (Za4 ks ds k d))))) else .bad
  |none=>.bad)
 |some (some (.own (.dcT ks ds))),some d,some kd=>(match Zvo kd with
  |some k=>if Zvz d=true/\ks.length<ZN then .nx (ρ.set i (some (.own (.dcT (Za3 ks k) (Za4 ks ds k d))))) else .bad
  |none=>.bad)
 |_,_,_=>.bad
theorem Zbq{i:Nat}{x:Str}{k e:Expr}{fk fv:FE}{pos p1 p2:Pos}(hu:X.A.units+64<cLine)(hk:EV X k fk)(he:EV X e fv)(hN:X.N[i]?=some x:=by rfl)(hv:Zwp X.env.scope x:=by first|exact Or.inl rfl|exact Or.inr (Or.inl rfl)|exact Or.inr (Or.inr rfl))
  (hd:(x == ("__debug__":Str))=false:=by decide) (hcd:(x == ("__classdict__":Str))=false:=by decide) (hs:swapsWith e (some (.Subscript (.Name x p1) k p2)) pos.line X.env=pure false:=by rfl) :
  SV X (.Assign [.Subscript (.Name x p1) k p2] e pos) (Xa i fk fv):=PS.imp (Zuy (Nat.lt_of_le_of_lt (Nat.add_le_add_left (by decide) _) hu) (Zao hN hv hd hcd) hk he hs) fun E σ H ⟨B,O0,O1,ρ,r,q⟩=>by
 have emask:∀{a:Addr} {o:HO} {H2:Hp},a∈O1->mask (O0++O1) (Y1 H2 a o)=mask (O0++O1) H2:=fun{a o H2} hO=>by
  funext b
  by_cases hb:b∈O0++O1
  ·rw[Yy hb,Yy hb]
  ·rw[ZF hb,ZF hb,ZM (fun z=>hb (by rw[z];exact Qt _ hO))]
 have small:∀{n:Nat},n<ZN->n<sizeLine:=fun{n} h=>by
  rw[show sizeLine=16777216 from QK]
  unfold ZN at h
  omega
 unfold Xa at q
 split at q
 ·rename_i ks ds d kd hi e1 e2
  split at q
  ·rename_i key ek
   split at q
   ·rename_i hm
    obtain⟨a,ha,hO,kvs,hv',rfl,rs⟩:=r.owns i _ hi
    refine⟨O0,YF ρ,d,r.all,e1,fun v H1 s1 rv1=>?_⟩
    have r1:=r.mono s1
    refine⟨.ref a,ha,O0,YF ρ,kd,r1.all,e2,fun y H2 s2 rv2=>?_⟩
    have r2:=r1.mono s2
    have hv2:H2 a=some (.dK kvs):=s2 _ _ (s1 _ _ hv')
    cases Zc5 ek rv2
    refine⟨a,_,rfl,Zjv.k hv2 (small (by simpa using hm.2)),?_⟩
    have rd:YJ X.K (mask (O0++O1) H2) d v:=U5 r2.th d v hm.1 (YJ.mono (ZA s2) d v rv1)
    obtain⟨g1,g2⟩:=Zl9 (x:=key) rd (Zr.mono (ZA (Zf.trans s1 s2)) ds _ rs)
    exact q _ _ O1 (r2.write hi ha trivial ⟨_,Yc,g1,by rw[emask hO];exact g2⟩)
   ·exact q.elim
  ·exact q.elim
 ·rename_i ks ds d kd hi e1 e2
  split at q
  ·rename_i key ek
   split at q
   ·rename_i hm
    obtain⟨a,ha,hO,kvs,hv',rfl,rs⟩:=r.owns i _ hi
    refine⟨O0,YF ρ,d,r.all,e1,fun v H1 s1 rv1=>?_⟩
    have r1:=r.mono s1
    refine⟨.ref a,ha,O0,YF ρ,kd,r1.all,e2,fun y H2 s2 rv2=>?_⟩
    have r2:=r1.mono s2
    have hv2:H2 a=some (.dT kvs):=s2 _ _ (s1 _ _ hv')
    cases kd with
    |tup xs =>
     obtain⟨b,vs,rfl,hb,rb⟩:=rv2
     cases Up ek rb
     refine⟨a,_,rfl,Zjv.t hv2 (Zi _ _ hb) (small (by simpa using hm.2)),?_⟩
     have rd:YJ X.K (mask (O0++O1) H2) d v:=U5 r2.th d v hm.1 (YJ.mono (ZA s2) d v rv1)
     obtain⟨g1,g2⟩:=Zl9 (x:=key) rd (Zr.mono (ZA (Zf.trans s1 s2)) ds _ rs)
     exact q _ _ O1 (r2.write hi ha trivial ⟨_,Yc,g1,by rw[emask hO];exact g2⟩)
    |_=>cases ek
   ·exact q.elim
  ·exact q.elim
 ·exact q.elim
end
end L2

namespace M
def S:Nat->(Nat->Int)->Int
 |0,_=>0
 |n+1,f=>S n f+f n
structure Net(n:Nat)(L:Nat->Nat->Int):Prop where
 sym:∀i j,i<n->j<n->L i j=L j i
 nn:∀i j,0<=L i j
 diag:∀i,L i i=0
section
variable{n:Nat}{L:Nat->Nat->Int}
def outOf(n:Nat)(L:Nat->Nat->Int)(A:Nat->Bool)(i:Nat):Int:=S n fun j=>if A j=true then 0 else L i j
def Z1h(n:Nat)(q:Nat)(d:Nat->Int):Prop:=∀i,i<n->i≠q->0<=d i
structure Settled(n:Nat)(L:Nat->Nat->Int)(q:Nat)(d:Nat->Int):Prop where
 nodebt:Z1h n q d
 sets:∀A:Nat->Bool,A q=false->(∃i,i<n/\A i=true)->∃i,i<n/\A i=true/\d i<outOf n L A i
end
end M

namespace M
theorem length_le_of_nodup:∀(n:Nat) (l:List Nat),l.Nodup->(∀x∈l,x<n)->l.length<=n
 |0,l,_,h=>by
  cases l with
  |nil=>exact Qg _
  |cons x r=>exact absurd (h x Qf) (by omega)
 |n+1,l,nd,h=>by
  by_cases hn:n∈l
  ·have h1:=length_le_of_nodup n (l.erase n) (nd.erase n) fun x hx=>by
    have h2:=h x (List.mem_of_mem_erase hx)
    have h3:x≠n:=fun z=>by subst z;exact(List.Nodup.not_mem_erase nd) hx
    omega
   have:=List.length_erase_of_mem hn
   have:0<l.length:=List.length_pos_of_mem hn
   omega
  ·have h1:=length_le_of_nodup n l nd fun x hx=>by
    have h2:=h x hx
    have h3:x≠n:=fun z=>by subst z;exact hn hx
    omega
   omega
def sumL(L:Nat->Nat->Int)(i:Nat)(bs:List Nat):Int:=(bs.map (L i)).sum
def Zxx(L:Nat->Nat->Int)(d:Nat->Int)(bs:List Nat)(y:Nat):List Nat:=if y∉bs/\d y<sumL L y bs then bs++[y] else bs
def Zap(n q:Nat):List Nat:=(List.range n).filter fun y=>decide (y≠q)
theorem UL{n q y:Nat}:y∈Zap n q↔y<n/\y≠q:=by unfold Zap;simp
structure BI(n:Nat)(L:Nat->Nat->Int)(d:Nat->Int)(q:Nat)(bs:List Nat):Prop where
 head:bs[0]?=some q
 nd:bs.Nodup
 lt:∀x∈bs,x<n
 fewer:∀(k y:Nat),bs[k]?=some y->0<k->d y<sumL L y (bs.take k)
section
variable{n:Nat}{L:Nat->Nat->Int}{d:Nat->Int}{q:Nat}
theorem BI.start(hq:q<n):BI n L d q [q]:=⟨rfl,by simp,fun x hx=>by simp at hx;omega,fun k y e hk=>by
 cases k with
 |zero=>omega
 |succ k=>simp at e⟩
theorem BI.len{bs:List Nat}(b:BI n L d q bs):bs.length<=n:=length_le_of_nodup n bs b.nd b.lt
theorem BI.step{bs:List Nat}(b:BI n L d q bs){y:Nat}(hy:y<n):BI n L d q (Zxx L d bs y):=by
 unfold Zxx
 split
 ·rename_i h
  have h0:0<bs.length:=by
   cases e:bs with
   |nil=>have:=b.head;rw[e]at this;cases this
   |cons x r=>simp
  refine⟨by rw[QH h0];exact b.head,?_,fun x hx=>?_,fun k z e hk=>?_⟩
  ·rw[List.nodup_append]
   exact⟨b.nd,by simp,fun a ha c hc=>by simp at hc;subst hc;exact fun z=>h.1 (z▸ha)⟩
  ·rcases QE.mp hx with z|z
   ·exact b.lt x z
   ·simp at z;omega
  ·by_cases hl:k<bs.length
   ·rw[QH hl]at e
    rw[List.take_append_of_le_length (Nat.le_of_lt hl)]
    exact b.fewer k z e hk
   ·have hk':k<(bs++[y]).length:=(Qj.mp e).1
    have ek:k=bs.length:=by simp at hk';omega
    subst ek
    have:z=y:=by simpa using e.symm
    subst this
    rw[List.take_left]
    exact h.2
 ·exact b
theorem full_mem:∀(n:Nat) (l:List Nat),l.Nodup->(∀x∈l,x<n)->l.length=n->∀y,y<n->y∈l
 |n,l,nd,h,hl,y,hy=>by
  by_cases m:y∈l
  ·exact m
  ·have:=length_le_of_nodup n (y::l) (List.nodup_cons.mpr ⟨m,nd⟩) fun x hx=>by
    rcases Ql.mp hx with z|z
    ·omega
    ·exact h x z
   simp at this
   omega
end
end M

namespace L2
open PySem PySem.W PyProof.Rows
def Zhf{α:Type}(f:Nat->Nat->Bool)(N:Nat)(P:α->Prop):KasT α->Prop
 |.ret a=>P a
 |.ask i j k=>i<N/\j<N/\Zhf f N P (k (f i j))
theorem Vd{α β:Type}{f:Nat->Nat->Bool}{N:Nat}{P:β->Prop}{g:α->KasT β}:∀(t:KasT α),Zhf f N (fun a=>Zhf f N P (g a)) t->Zhf f N P (t.bind g)
 |.ret _,h=>h
 |.ask i j k,h=>⟨h.1,h.2.1,Vd (k (f i j)) h.2.2⟩
theorem X8{α:Type}{f:Nat->Nat->Bool}{N:Nat}{P P':α->Prop}(hp:∀a,P a->P' a):∀(t:KasT α),Zhf f N P t->Zhf f N P' t
 |.ret a,h=>hp a h
 |.ask i j k,h=>⟨h.1,h.2.1,X8 hp (k (f i j)) h.2.2⟩
theorem Zrx{α:Type}{f:Nat->Nat->Bool}{N:Nat}{P:α->Prop}{cmp:Nat->Nat->(Bool->Shared->Prop)->Shared->Prop}{J:Shared->Prop}{Q:α->Shared->Prop}
  (hc:∀i j C s,i<N->j<N->J s->(∀s',J s'->C (f i j) s')->cmp i j C s) (hq:∀a s,P a->J s->Q a s):∀(t:KasT α) (s:Shared),J s->Zhf f N P t->t.kasWp cmp Q s
 |.ret a,s,hj,h=>hq a s h hj
 |.ask i j k,s,hj,h=>hc i j _ s h.1 h.2.1 hj fun s' hj'=>Zrx hc hq (k (f i j)) s' hj' h.2.2
structure Zbl(f:Nat->Nat->Bool)(N:Nat):Prop where
 tr:∀a b c,a<N->b<N->c<N->f a b=true->f b c=true->f a c=true
 as:∀a b,a<N->b<N->f a b=true->f b a=false
 tot:∀a b,a<N->b<N->a≠b->f a b=true\/f b a=true
section
variable{f:Nat->Nat->Bool}{N:Nat}
def ka(p:Array Nat)(i:Nat):Nat:=p.getD i 0
structure KP(N:Nat)(p:Array Nat):Prop where
 size:p.size=N
 lt:∀i,i<N->ka p i<N
 inj:∀i j,i<N->j<N->ka p i=ka p j->i=j
def Zjt(f:Nat->Nat->Bool)(p:Array Nat)(k:Nat):Prop:=∀i j,i<j->j<k->f (ka p i) (ka p j)=true
def Z1j(f:Nat->Nat->Bool)(p:Array Nat)(k:Nat):Prop:=∀i j,i<j->j<k->f (ka p j) (ka p i)=true
theorem Zc6{p q:Array Nat}{i j:Nat}(h:p[i]?=q[j]?):ka p i=ka q j:=by
 unfold ka;rw[Jf,Jf,h]
theorem Zjt.step(o:Zbl f N){p:Array Nat}(hp:KP N p){k:Nat}(hk:k<N)(h1:1<=k)(h:Zjt f p k)(hl:f (ka p (k-1)) (ka p k)=true):Zjt f p (k+1):=fun i j hij hj=>by
 by_cases e:j=k
 ·subst e
  by_cases e2:i=j-1
  ·rw[e2];exact hl
  ·exact o.tr _ _ _ (hp.lt i (by omega)) (hp.lt (j-1) (by omega)) (hp.lt j hk) (h i (j-1) (by omega) (by omega)) hl
 ·exact h i j hij (by omega)
theorem Z1j.step(o:Zbl f N){p:Array Nat}(hp:KP N p){k:Nat}(hk:k<N)(h1:1<=k)(h:Z1j f p k)(hl:f (ka p k) (ka p (k-1))=true):Z1j f p (k+1):=fun i j hij hj=>by
 by_cases e:j=k
 ·subst e
  by_cases e2:i=j-1
  ·rw[e2];exact hl
  ·exact o.tr _ _ _ (hp.lt j hk) (hp.lt (j-1) (by omega)) (hp.lt i (by omega)) hl (h i (j-1) (by omega) (by omega))
 ·exact h i j hij (by omega)
theorem Zlr(o:Zbl f N){p:Array Nat}(hp:KP N p):∀(t n:Nat),1<=n->n+t<=N->Zjt f p n->Zhf f N (fun m=>n<=m/\m<=n+t/\Zjt f p m/\(m<n+t->f (ka p m) (ka p (m-1))=true)) (kas_asc p t n)
 |0,n,h1,h2,h=>⟨Qg _,Qg _,h,fun z=>absurd z (by omega)⟩
 |t+1,n,h1,h2,h=>by
  refine⟨hp.lt n (by omega),hp.lt (n-1) (by omega),?_⟩
  cases e:f (p.getD n 0) (p.getD (n-1) 0) with
  |true=>exact⟨Qg _,by omega,h,fun _=>e⟩
  |false =>
   have hl:f (ka p (n-1)) (ka p n)=true:=by
    rcases o.tot (ka p (n-1)) (ka p n) (hp.lt _ (by omega)) (hp.lt _ (by omega)) (fun z=>by have:=hp.inj _ _ (by omega) (by omega) z;omega) with z|z
    ·exact z
    ·exact absurd (e.symm.trans z) (by decide)
   show Zhf f N _ (kas_asc p t (n+1))
   exact X8 (fun m ⟨a,b,c,d⟩=>⟨by omega,by omega,c,fun z=>d (by omega)⟩) _ (Zlr o hp t (n+1) (by omega) (by omega) (h.step o hp (by omega) h1 hl))
theorem Zm3(o:Zbl f N){p:Array Nat}(hp:KP N p):∀(t n:Nat),1<=n->n+t<=N->Z1j f p n->Zhf f N (fun r=>r.1=p/\r.2.2=0/\n<=r.2.1/\r.2.1<=n+t/\Z1j f p r.2.1) (kas_desc t p n 0)
 |0,n,h1,h2,h=>⟨rfl,rfl,Qg _,Qg _,h⟩
 |t+1,n,h1,h2,h=>by
  refine⟨hp.lt n (by omega),hp.lt (n-1) (by omega),?_⟩
  cases e:f (p.getD n 0) (p.getD (n-1) 0) with
  |true =>
   show Zhf f N _ (kas_desc t p (n+1) 0)
   exact X8 (fun m ⟨a,b,c,d,g⟩=>⟨a,b,by omega,by omega,g⟩) _ (Zm3 o hp t (n+1) (by omega) (by omega) (h.step o hp (by omega) h1 e))
  |false =>
   have hl:f (p.getD (n-1) 0) (p.getD n 0)=true:=by
    rcases o.tot (ka p (n-1)) (ka p n) (hp.lt _ (by omega)) (hp.lt _ (by omega)) (fun z=>by have:=hp.inj _ _ (by omega) (by omega) z;omega) with z|z
    ·exact z
    ·exact absurd (e.symm.trans z) (by decide)
   refine⟨hp.lt (n-1) (by omega),hp.lt n (by omega),?_⟩
   rw[hl]
   exact⟨rfl,rfl,Qg _,(by show n<=n+(t+1);omega),h⟩
theorem Zcl{p:Array Nat}{n:Nat}(hn:n<=p.size)(k:Nat):ka (kas_rev p 0 n) k=if k<n then ka p (n-1-k) else ka p k:=by
 have e:=getElem?_mirror_all (xs:=p) (i:=0) hn k
 unfold kas_rev
 by_cases h:k<n
 ·rw[if_pos h]
  rw[if_pos ⟨Q1 _,h⟩]at e
  exact Zc6 (by rw[e];congr 1;omega)
 ·rw[if_neg h]
  rw[if_neg (fun z=>h z.2)]at e
  exact Zc6 e
theorem Zqn{p:Array Nat}(hp:KP N p){n:Nat}(hn:n<=N):KP N (kas_rev p 0 n):=by
 have hs:n<=p.size:=by rw[hp.size];exact hn
 refine⟨by unfold kas_rev;rw[mirror_size,hp.size],fun i hi=>?_,fun i j hi hj=>?_⟩
 ·rw[Zcl hs];split<;>exact hp.lt _ (by omega)
 ·rw[Zcl hs,Zcl hs]
  intro e
  split at e<;>split at e
  all_goals
   have:=hp.inj _ _ (by omega) (by omega) e
   omega
theorem Zuo{p:Array Nat}(hp:KP N p){n:Nat}(hn:n<=N)(h:Z1j f p n):Zjt f (kas_rev p 0 n) n:=fun i j hij hj=>by
 have hs:n<=p.size:=by rw[hp.size];exact hn
 rw[Zcl hs,Zcl hs,if_pos (by omega),if_pos hj]
 exact h _ _ (by omega) (by omega)
theorem Zpy(o:Zbl f N){p:Array Nat}(hp:KP N p){n:Nat}(h1:1<=n)(hn:n<=N)(h:Z1j f p n):Zhf f N (fun r=>1<=r.1/\r.1<=N/\KP N r.2/\Zjt f r.2 r.1) (kas_tail3 n N p):=by
 unfold kas_tail3
 refine Vd _ (X8 (fun m ⟨a,b,c,_⟩=>?_) _ (Zlr o (Zqn hp hn) (N-n) n h1 (by omega) (Zuo hp hn h)))
 exact⟨by omega,by omega,Zqn hp hn,c⟩
theorem Ztf(o:Zbl f N){p:Array Nat}(hp:KP N p)(h1:1<=N):Zhf f N (fun r=>1<=r.1/\r.1<=N/\KP N r.2/\Zjt f r.2 r.1) (kas_count N p):=by
 unfold kas_count
 refine Vd _ (X8 (fun m ⟨a,b,c,d⟩=>?_) _ (Zlr o hp (N-1) 1 (Qg _) (by omega) (fun i j hij hj=>by omega)))
 by_cases e:m=N
 ·rw[if_pos (by simpa using e)]
  exact⟨by omega,by omega,hp,c⟩
 ·rw[if_neg (by simpa using e)]
  have d':=d (by omega)
  by_cases e1:m>1
  ·rw[if_pos e1]
   refine⟨hp.lt 0 (by omega),hp.lt (m-1) (by omega),?_⟩
   have:f (p.getD 0 0) (p.getD (m-1) 0)=true:=c 0 (m-1) (by omega) (by omega)
   rw[this]
   exact⟨by omega,(by show m<=N;omega),hp,c⟩
  ·rw[if_neg e1]
   have em:m=1:=by omega
   subst em
   unfold kas_descPart
   refine Vd _ (X8 (fun r ⟨a1,a2,a3,a4,a5⟩=>?_) _ (Zm3 o hp (N-2) 2 (by omega) (by omega) ?_))
   ·intro i j hij hj
    have ei:i=0:=by omega
    have ej:j=1:=by omega
    subst ei;subst ej
    exact d'
   ·rw[if_neg (by omega),a1]
    exact Zpy o hp (by omega) (by omega) a5
theorem Zcr{p:Array Nat}(o:Zbl f N)(hp:KP N p){k:Nat}(hk:k<N)(hr:Zjt f p k):∀(t l r:Nat),r-l<=t->l<=r->r<=k->(∀i,i<l->f (ka p i) (ka p k)=true)->(∀i,r<=i->i<k->f (ka p k) (ka p i)=true) ->
  Zhf f N (fun m=>m<=k/\(∀i,i<m->f (ka p i) (ka p k)=true)/\(∀i,m<=i->i<k->f (ka p k) (ka p i)=true)) (kas_place p k t l r)
 |0,l,r,h0,h1,h2,h3,h4=>⟨by omega,h3,fun i hi hk=>h4 i (by omega) hk⟩
 |t+1,l,r,h0,h1,h2,h3,h4=>by
  unfold kas_place
  by_cases e:l≥r
  ·rw[if_pos e];exact⟨by omega,h3,fun i hi hk=>h4 i (by omega) hk⟩
  ·rw[if_neg e]
   refine⟨hp.lt k hk,hp.lt _ (by omega),?_⟩
   cases c:f (p.getD k 0) (p.getD ((l+r)/2) 0) with
   |true =>
    show Zhf f N _ (kas_place p k t l ((l+r)/2))
    refine Zcr o hp hk hr t l _ (by omega) (by omega) (by omega) h3 fun i hi hik=>?_
    by_cases ei:i=(l+r)/2
    ·rw[ei];exact c
    ·exact o.tr _ _ _ (hp.lt k hk) (hp.lt ((l+r)/2) (by omega)) (hp.lt i (by omega)) c (hr _ _ (by omega) hik)
   |false =>
    show Zhf f N _ (kas_place p k t ((l+r)/2+1) r)
    have hl:f (ka p ((l+r)/2)) (ka p k)=true:=by
     rcases o.tot (ka p ((l+r)/2)) (ka p k) (hp.lt _ (by omega)) (hp.lt _ (by omega)) (fun z=>by have:=hp.inj _ _ (by omega) (by omega) z;omega) with z|z
     ·exact z
     ·exact absurd (c.symm.trans z) (by decide)
    refine Zcr o hp hk hr t _ r (by omega) (by omega) (by omega) (fun i hi=>?_) h4
    by_cases ei:i=(l+r)/2
    ·rw[ei];exact hl
    ·exact o.tr _ _ _ (hp.lt i (by omega)) (hp.lt ((l+r)/2) (by omega)) (hp.lt k (by omega)) (hr _ _ (by omega) (by omega)) hl
theorem Zdu{p:Array Nat}{k m:Nat}(hk:k<p.size)(hm:m<=k)(i:Nat):ka (bubble p k (k-m)) i=if i=m then ka p k else if m<i/\i<=k then ka p (i-1) else ka p i:=by
 have e:=getElem?_bubble hk (k-m) (by omega) i
 have em:k-(k-m)=m:=by omega
 rw[em]at e
 split at e
 ·rename_i h;rw[if_pos h];exact Zc6 e
 ·rename_i h
  rw[if_neg h]
  split at e
  ·rename_i h2;rw[if_pos h2];exact Zc6 e
  ·rename_i h2;rw[if_neg h2];exact Zc6 e
theorem Ztl(o:Zbl f N):∀(t:Nat) (p:Array Nat) (k:Nat),KP N p->k+t=N->Zjt f p k->Zhf f N (fun q=>KP N q/\Zjt f q N) (kas_bin t p k)
 |0,p,k,hp,hk,h=>by
  have:k=N:=by omega
  subst this
  exact⟨hp,h⟩
 |t+1,p,k,hp,hk,h=>by
  unfold kas_bin
  refine Vd _ (X8 (fun m ⟨a,b,c⟩=>?_) _ (Zcr o hp (by omega) h k 0 k (by omega) (Q1 _) (Qg _) (fun i hi=>absurd hi (by omega)) (fun i hi hk=>absurd hk (by omega))))
  have hs:k<p.size:=by rw[hp.size];omega
  refine Ztl o t _ (k+1) ⟨by rw[bubble_size,hp.size],fun i hi=>?_,fun i j hi hj e=>?_⟩ (by omega) fun i j hij hj=>?_
  ·rw[Zdu hs a]
   split
   ·exact hp.lt _ (by omega)
   ·split<;>exact hp.lt _ (by omega)
  ·rw[Zdu hs a,Zdu hs a]at e
   repeat' split at e
   all_goals
    have:=hp.inj _ _ (by omega) (by omega) e
    omega
  ·rw[Zdu hs a,Zdu hs a]
   by_cases hi1:i=m
   ·rw[if_pos hi1,if_neg (by omega),if_pos (by omega)]
    exact c _ (by omega) (by omega)
   ·rw[if_neg hi1]
    by_cases hj1:j=m
    ·rw[if_neg (by omega),if_pos hj1]
     exact b _ (by omega)
    ·rw[if_neg hj1]
     by_cases hi2:m<i/\i<=k
     ·rw[if_pos hi2,if_pos (by omega)]
      exact h _ _ (by omega) (by omega)
     ·rw[if_neg hi2]
      by_cases hj2:m<j/\j<=k
      ·rw[if_pos hj2];exact h _ _ (by omega) (by omega)
      ·rw[if_neg hj2];exact h _ _ (by omega) (by omega)
theorem Va(N i:Nat):ka (List.toArray (List.range N)) i=if i<N then i else 0:=by
 unfold ka
 rw[Jf]
 by_cases h:i<N
 ·rw[if_pos h];simp[h]
 ·rw[if_neg h];simp[h]
theorem Zit(o:Zbl f N)(h1:1<=N):Zhf f N (fun q=>KP N q/\Zjt f q N) (kas_sort N):=by
 unfold kas_sort
 have hp:KP N (List.toArray (List.range N)):=⟨by simp,fun i hi=>by rw[Va,if_pos hi];exact hi,fun i j hi hj e=>by rw[Va,Va,if_pos hi,if_pos hj]at e;exact e⟩
 refine Vd _ (X8 (fun r ⟨a,b,c,d⟩=>?_) _ (Ztf o hp h1))
 by_cases e:r.1<N
 ·rw[if_pos e]
  have em:max r.1 1=r.1:=by omega
  rw[em]
  exact Ztl o _ _ _ c (by omega) d
 ·rw[if_neg e]
  have:r.1=N:=by omega
  rw[this]at d
  exact⟨c,d⟩
end
end L2

namespace L2
open PySem PySem.W PySem.Spec PyProof.Rows HT
theorem U3{α:Type}(l:List α)(d:α):(List.range l.length).map (fun i=>l.getD i d)=l:=by
 apply List.ext_getElem?
 intro i
 rw[QC]
 by_cases h:i<l.length
 ·rw[List.getElem?_range h];simp[h]
 ·rw[QG (by simpa using h),QG (by omega)];rfl
theorem Zrw(N:Nat):KP N (List.toArray (List.range N)):=⟨by simp,fun i hi=>by rw[Va,if_pos hi];exact hi,fun i j hi hj e=>by rw[Va,Va,if_pos hi,if_pos hj]at e;exact e⟩
section
variable{prog:Program}{w:World}{A:Around}{E:Value->Shared->Prop}{s:Shared}
def Ztx(prog:Program)(w:World)(A:Around)(s:Shared)(vs:List Value)(lt:Nat->Nat->Bool):Prop:=∃κ,(∀Q:SortKind->Shared->Prop,Q κ s->wpAny (model prog w) A (keyKind' vs.toArray) Q (fun _ _=>False) s) /\
 ∀i j (C:Bool->Shared->Prop),i<vs.length->j<vs.length->C (lt i j) s->kas_ask prog w A κ vs i j C s
theorem Zaa{a:Addr}{vs:List Value}{n:Nat}{P:PySem.Fin->Shared->Prop}{lt:Nat->Nat->Bool}(ho:s.heap.get? a=some (seqObj "list" vs.toArray n))(h64:vs.length<64)(o:Zbl lt vs.length)
  (hk:2<=vs.length->∀h':Heap,(∀b o,b≠a->s.heap.get? b=some o->h'.get? b=some o)->Ztx prog w A { s with heap:=h' } vs lt)
  (h:∀p:Array Nat,KP vs.length p->Zjt lt p vs.length->P (.done (.ret .none)) { s with heap:=sortedHeap s.heap a vs (List.toArray (p.toList.map fun i=>vs.getD i Value.none)) }) :
  wpAny (model prog w) A (Builtin.«list.sort» ⟨[.ref a],[]⟩) P E s:=by
 rw[list_sort_plain]
 have ha:a<s.heap.objs.size:=Qk ho
 refine Qa (listItems_at ho rfl ?_)
 refine Qa (listUpdate_at ho rfl ?_ (by rw[Qi,QK];omega) (Q1 _))
 obtain⟨e1,ho1⟩:∃e1,(s.heap.update a (Obj.mapSeq fun _=>(#[]:Array Value))).get? a=some (seqObj "list" #[] e1):=⟨_,get?_update_seq ho fun _=>#[]⟩
 refine Qa (seqEpoch_at ho1 rfl ?_)
 refine Qa (wpAny_newTuple ?_ (by show vs.length<=_;rw[QK];omega))
 refine Qa (wpAny_newList ?_ (Q1 _))
 refine QV ?_
 have ho6:(((s.heap.update a (Obj.mapSeq fun _=>(#[]:Array Value))).push (seqObj "tuple" vs.toArray 0)).push (seqObj "list" #[] 0)).get? a=some (seqObj "list" #[] e1):=by
  rw[Heap.get?_push_ne _ _ _ (by rw[size_push',Heap.size_update];exact Qo (QZ ha)),Heap.get?_push_ne _ _ _ (by rw[Heap.size_update];exact Qo ha)]
  exact ho1
 have keep:∀b o,b≠a->s.heap.get? b=some o->(((s.heap.update a (Obj.mapSeq fun _=>(#[]:Array Value))).push (seqObj "tuple" vs.toArray 0)).push (seqObj "list" #[] 0)).get? b=some o:=fun b o hb e =>
  Qb _ (Qb _ (((Q6 s.heap a (Obj.mapSeq fun _=>(#[]:Array Value))).2 b hb).trans e))
 show wpAny (model prog w) A _ P E { s with heap:=((s.heap.update a (Obj.mapSeq fun _=>(#[]:Array Value))).push (seqObj "tuple" vs.toArray 0)).push (seqObj "list" #[] 0) }
 dsimp only
 by_cases h2:vs.toArray.size<2
 ·rw[if_pos h2,if_pos h2]
  refine Qa (Qc ?_)
  rw[StateT.run_pure]
  refine Qa (Qc ?_)
  dsimp only
  have es:(arrOf (SortSt.mk' general' (vs.toArray.zip vs.toArray) #[] 7 none)).map (·.2)=List.toArray ((List.toArray (List.range vs.length)).toList.map fun i=>vs.getD i Value.none):=by
   show(pairsOf vs).map (·.2)=_
   apply JY.mp
   rw[Array.toList_map,pairsOf_toList]
   show(vs.zip vs).map Prod.snd=(List.range vs.length).map fun i=>vs.getD i Value.none
   rw[List.map_snd_zip (Qg _),U3]
  rw[es]
  refine Qa (seqEpoch_at ho6 rfl ?_)
  refine Qa (listUpdate_at ho6 rfl ?_ (Q1 _) (by rw[Qi,Qd];simp[QK];omega))
  simp only[bne_self_eq_false,Qr,if_false]
  refine Qc (h _ (Zrw _) fun i j hij hj=>?_)
  rw[Qi]at h2;omega
 ·rw[if_neg h2,if_neg h2]
  rw[Qi]at h2
  obtain⟨κ,hkk,hask⟩:=hk (by omega) _ keep
  refine Qa (Q5 (hkk (fun k s'=>k=κ/\s'=_) ⟨rfl,rfl⟩) (fun κ' s0 hk=>?_) fun _ _ x=>x.elim)
  obtain⟨rfl,rfl⟩:=hk
  refine Qa (Q5 (kat_run (Q:=fun st' s'=>s'={ s with heap:=((s.heap.update a (Obj.mapSeq fun _=>(#[]:Array Value))).push (seqObj "tuple" vs.toArray 0)).push (seqObj "list" #[] 0) }/\∃p:Array Nat,arrOf st'=p.map (kas_item (vs.toArray.zip vs.toArray))/\failedOf st'=none/\KP vs.length p/\Zjt lt p vs.length)
   (G:=fun p s'=>s'={ s with heap:=((s.heap.update a (Obj.mapSeq fun _=>(#[]:Array Value))).push (seqObj "tuple" vs.toArray 0)).push (seqObj "list" #[] 0) }/\KP vs.length p/\Zjt lt p vs.length)
   rfl (by omega) h64 (fun p' st' s' a1 a2 a3 a4=>⟨a4.1,p',a2,a3,a4.2⟩)
   (Zrx (J:=fun s'=>s'=_) (fun i j C s' hi hj hs hC=>by subst hs;exact hask i j C hi hj (hC _ rfl)) (fun p s' hp hs=>⟨hs,hp⟩) _ _ rfl (Zit o (by omega)))) ?_ fun _ _ e=>e)
  rintro⟨⟨⟩,st'⟩ s' ⟨rfl,p,har,hf,hp,hr⟩
  dsimp only
  have hout:=kat_snds rfl har
  rw[hout]
  refine Qa (seqEpoch_at ho6 rfl ?_)
  refine Qa (listUpdate_at ho6 rfl ?_ (Q1 _) (by rw[Qi,Qd,Qx,hp.size,QK];omega))
  rw[hf]
  simp only[bne_self_eq_false,Qr,if_false]
  exact Qc (h p hp hr)
theorem Znm{l:Addr}{vs:List Value}{Q:Value->Shared->Prop}{lt:Nat->Nat->Bool}(hl:s.heap.IsList l vs.toArray)(h64:vs.length<64)(o:Zbl lt vs.length)
  (hk:2<=vs.length->∀h':Heap,(∀b o,s.heap.get? b=some o->h'.get? b=some o)->Ztx prog w A.in1.in1 { s with heap:=h' } vs lt)
  (h:∀p:Array Nat,KP vs.length p->Zjt lt p vs.length->Q (.ref (s.heap.objs.size+1)) { s with heap:=sortedAll s.heap vs (List.toArray (p.toList.map fun i=>vs.getD i Value.none)) }) :
  wpAny (model prog w) A (call (.builtin "sorted") [.ref l]) Q E s:=by
 refine Calls.call_function_entry kind_sorted plain_sorted entry_sorted (args_sorted1 _) ?_
 unfold Builtin.«sorted»
 refine Qa (m:=checkCount "sorted" 1 1 _) (Qc ?_)
 refine Qa (collect_list hl ?_ (by rw[QK];omega))
 refine Qa (wpAny_newList ?_ (by rw[QK];omega))
 have hsz:((s.heap.push (seqObj "list" #[] 0)).update s.heap.objs.size (Obj.mapSeq (·++vs.toArray))).objs.size=s.heap.objs.size+1:=by
  rw[Heap.size_update,size_push']
 have hoL:(((s.heap.push (seqObj "list" #[] 0)).update s.heap.objs.size (Obj.mapSeq (·++vs.toArray))).push (seqObj "list" vs.toArray 0)).get? (s.heap.objs.size+1)=some (seqObj "list" vs.toArray 0):=by
  rw[<- hsz];exact Qm _ rfl
 have keep:∀b o,s.heap.get? b=some o->(((s.heap.push (seqObj "list" #[] 0)).update s.heap.objs.size (Obj.mapSeq (·++vs.toArray))).push (seqObj "list" vs.toArray 0)).get? b=some o:=fun b o q=>by
  have hlt:b<s.heap.objs.size:=Qk q
  rw[Heap.get?_push_ne _ _ _ (by rw[hsz];exact Qo (QZ hlt)),Heap.get?_update_ne _ _ _ _ (Qo hlt),Heap.get?_push_ne _ _ _ (Qo hlt)]
  exact q
 show wpAny _ _ _ _ _ { s with heap:=((s.heap.push (seqObj "list" #[] 0)).update s.heap.objs.size (Obj.mapSeq (·++vs.toArray))).push (seqObj "list" vs.toArray 0) }
 rw[hsz]
 refine Qa (QV (Q0 slot_list_sort ⟨_,hoL,rfl⟩ entry_list_sort (Zaa (s:={ s with heap:=((s.heap.push (seqObj "list" #[] 0)).update s.heap.objs.size (Obj.mapSeq (·++vs.toArray))).push (seqObj "list" vs.toArray 0) }) hoL h64 o (fun h2 h' hk'=>hk h2 h' fun b o e=>hk' b o (Qo (QZ (Qk e))) (keep b o e)) fun p hp hr=>⟨_,rfl,?_⟩) (args_list_sort _)))
 exact Qc ⟨_,rfl,h p hp hr⟩
theorem Zip{b:Bool}{Q:Bool->Shared->Prop}:∀{xs ys:List Value} {as bs:List Int} (i:Nat),IntsAre xs as->IntsAre ys bs->Q (HT.lexLt as bs) s->KatLex prog w A b (decide (xs.length<ys.length)) Q (xs.zip ys) i s
 |[],[],_,_,i,.nil,.nil,h=>h
 |[],_::ys,_,_,i,.nil,.cons n t _,h=>by rw[show decide (([]:List Value).length<(Value.int n t::ys).length)=true by simp];exact h
 |_::xs,[],_,_,i,.cons n t _,.nil,h=>by rw[show decide ((Value.int n t::xs).length<([]:List Value).length)=false by simp];exact h
 |_::xs,_::ys,_,_,i,.cons m t hx,.cons n u hy,h=>by
  rw[Jt]
  refine kat_cons (wpAny_eqBool_int ?_)
  have el:decide ((Value.int m t::xs).length<(Value.int n u::ys).length)=decide (xs.length<ys.length):=by simp
  rw[el]
  rw[XY]at h
  by_cases e:m=n
  ·rw[show(m == n)=true by simpa using e]
   rw[if_pos e]at h
   exact kat_yes (Zip (i+1) hx hy h)
  ·rw[show(m == n)=false by simpa using e]
   rw[if_neg e]at h
   refine kat_no ?_
   cases hb:(b&&i == 0) with
   |true=>exact oneLt_int h
   |false=>exact kat_one _ _ (lt_int h)
end
theorem Zas:∀a:List Int,HT.lexLt a a=false
 |[]=>rfl
 |x::a=>by rw[XY,if_pos rfl];exact Zas a
theorem WM:∀a b c:List Int,HT.lexLt a b=true->HT.lexLt b c=true->HT.lexLt a c=true
 |[],[],_,h,_=>by cases h
 |[],_::_,[],_,h=>by cases h
 |[],_::_,_::_,_,_=>rfl
 |_::_,[],_,h,_=>by cases h
 |_::_,_::_,[],_,h=>by cases h
 |x::a,y::b,z::c,h1,h2=>by
  rw[XY]at h1 h2 ⊢
  by_cases e1:x=y
  ·rw[if_pos e1]at h1
   by_cases e2:y=z
   ·rw[if_pos e2]at h2
    rw[if_pos (e1.trans e2)];exact WM a b c h1 h2
   ·rw[if_neg e2]at h2
    subst e1
    rw[if_neg e2];exact h2
  ·rw[if_neg e1]at h1
   have h1':=of_decide_eq_true h1
   by_cases e2:y=z
   ·subst e2
    rw[if_neg e1];exact h1
   ·rw[if_neg e2]at h2
    have h2':=of_decide_eq_true h2
    rw[if_neg (by omega)];exact decide_eq_true (by omega)
theorem V2{a b:List Int}(h:HT.lexLt a b=true):HT.lexLt b a=false:=by
 cases e:HT.lexLt b a with
 |false=>rfl
 |true=>have:=WM a b a h e;rw[Zas]at this;cases this
theorem X7:∀a b:List Int,a≠b->HT.lexLt a b=true\/HT.lexLt b a=true
 |[],[],h=>absurd rfl h
 |[],_::_,_=>.inl rfl
 |_::_,[],_=>.inr rfl
 |x::a,y::b,h=>by
  rw[XY,XY]
  by_cases e:x=y
  ·subst e
   rw[if_pos rfl,if_pos rfl]
   exact X7 a b fun z=>h (by rw[z])
  ·rw[if_neg e,if_neg (fun z=>e z.symm)]
   by_cases l:x<y
   ·exact .inl (decide_eq_true l)
   ·exact .inr (decide_eq_true (by omega))
def VG(a b:List Int):Bool:=!HT.lexLt b a
theorem Za5(a b c:List Int)(h1:VG a b=true)(h2:VG b c=true):VG a c=true:=by
 unfold VG at *
 simp only[JR,Bool.not_eq_true]at *
 cases e:HT.lexLt c a with
 |false=>rfl
 |true =>
  by_cases e2:b=c
  ·subst e2;rw[e]at h1;cases h1
  ·rcases X7 b c e2 with z|z
   ·have:=WM b c a z e;rw[this]at h1;cases h1
   ·rw[z]at h2;cases h2
theorem Za6(a b:List Int):(VG a b||VG b a)=true:=by
 unfold VG
 cases e:HT.lexLt b a with
 |false=>rfl
 |true=>rw[V2 e];rfl
def Xv(ks:List (List Int)):List (List Int):=ks.mergeSort VG
def Zmv(is:List Int):List Int:=is.mergeSort fun a b=>decide (a<=b)
theorem Zgk{a b:List Int}(hp:a.Perm b)(hs:a.Pairwise (·<=·)):a=Zmv b:=by
 refine List.Perm.eq_of_pairwise (le:=fun x y=>x<=y) (fun x y _ _ h1 h2=>Int.le_antisymm h1 h2) hs ?_ (hp.trans (JX b _).symm)
 exact(List.pairwise_mergeSort (le:=fun a b=>decide (a<=b)) (fun x y z h1 h2=>decide_eq_true (Int.le_trans (of_decide_eq_true h1) (of_decide_eq_true h2))) (fun x y=>by simp;omega) b).imp fun h=>of_decide_eq_true h
theorem Vm{a b:List (List Int)}(hp:a.Perm b)(hs:a.Pairwise (fun x y=>HT.lexLt x y=true)):a=Xv b:=by
 refine List.Perm.eq_of_pairwise (le:=fun x y=>VG x y=true) (fun x y _ _ h1 h2=>?_) (hs.imp fun h=>?_) (List.pairwise_mergeSort Za5 Za6 b) (hp.trans (JX b _).symm)
 ·apply Classical.byContradiction
  intro hne
  unfold VG at h1 h2
  rcases X7 x y hne with z|z
  ·rw[z]at h2;cases h2
  ·rw[z]at h1;cases h1
 ·unfold VG;rw[V2 h];rfl
def Zfr:D->Option (List Int)
 |.tup ds=>XM ds
 |_=>none
def UG:List D->Option (List (List Int))
 |[]=>some []
 |d::ds=>(Zfr d).bind fun k=>(UG ds).bind fun ks=>some (k::ks)
def kT(k:List Int):D:=.tup (k.map D.int)
theorem Zfq{d:D}{k:List Int}(h:Zfr d=some k):d=kT k:=by
 cases d with
 |tup ds=>rw[show ds=k.map D.int from Xw h];rfl
 |_=>cases h
theorem WI:∀{ds:List D} {ks:List (List Int)},UG ds=some ks->ds=ks.map kT
 |[],_,h=>by cases h;rfl
 |d::ds,_,h=>by
  obtain⟨k,e1,h⟩:=bind_some h
  obtain⟨ks,e2,h⟩:=bind_some h
  cases h
  rw[Zfq e1,WI e2];rfl
theorem Zj9(k:List Int):Zfr (kT k)=some k:=Zda k
theorem UF:∀ks:List (List Int),UG (ks.map kT)=some ks
 |[]=>rfl
 |k::ks=>by rw[Qh];unfold UG;rw[Zj9,UF ks];rfl
def Vp:List D->Option D
 |[.lst ds]=>(match XM ds with
  |some is=>if is.length<64 then some (.lst ((Zmv is).map .int)) else none
  |none=>(match UG ds with
   |some ks=>if ks.length<64/\ks.Nodup/\(∀k∈ks,k≠[]) then some (.lst ((Xv ks).map kT)) else none
   |none=>none))
 |_=>none
theorem Ze2{ks:List (List Int)}(nd:ks.Nodup):Zbl (fun i j=>HT.lexLt (ks.getD i []) (ks.getD j [])) ks.length :=
 ⟨fun a b c _ _ _ h1 h2=>WM _ _ _ h1 h2,fun a b _ _ h=>V2 h,fun a b ha hb hne=>X7 _ _ fun z=>hne (by
  have e1:ks.getD a []=ks[a]:=by simp[ha]
  have e2:ks.getD b []=ks[b]:=by simp[hb]
  rw[e1,e2]at z
  exact(List.getElem_inj nd).mp z)⟩
theorem Zbw{N:Nat}{p:Array Nat}(h:KP N p):p.toList.Perm (List.range N):=by
 have hl:p.toList.length=N:=by rw[Qx];exact h.size
 have hk:∀i (hi:i<p.toList.length),p.toList[i]=ka p i:=fun i hi=>by
  unfold ka
  rw[Jf,QS (by rw[h.size];omega)]
  simp
 have nd:p.toList.Nodup:=by
  rw[List.nodup_iff_pairwise_ne,List.pairwise_iff_getElem]
  intro i j hi hj hij e
  rw[hk,hk]at e
  have:=h.inj i j (by omega) (by omega) e
  omega
 have lt:∀x∈p.toList,x<N:=fun x hx=>by
  obtain⟨i,hi,e⟩:=List.getElem_of_mem hx
  rw[<- e,hk];exact h.lt i (by omega)
 exact(List.perm_ext_iff_of_nodup nd List.nodup_range).mpr fun a=>⟨fun ha=>QJ.mpr (lt a ha),fun ha=>M.full_mem N _ nd lt hl a (QJ.mp ha)⟩
theorem Ze1{ks:List (List Int)}{p:Array Nat}(h:KP ks.length p)(hr:Zjt (fun i j=>HT.lexLt (ks.getD i []) (ks.getD j [])) p ks.length):p.toList.map (fun i=>ks.getD i [])=Xv ks:=by
 refine Vm ?_ ?_
 ·have:=(Zbw h).map (fun i=>ks.getD i [])
  rwa[U3]at this
 ·rw[List.pairwise_map,List.pairwise_iff_getElem]
  intro i j hi hj hij
  have hl:p.toList.length=ks.length:=by rw[Qx];exact h.size
  have hk:∀i (hi:i<p.toList.length),p.toList[i]=ka p i:=fun i hi=>by
   unfold ka
   rw[Jf,QS (by rw[h.size];omega)]
   simp
  rw[hk,hk]
  exact hr i j hij (by omega)
section
variable{X:Cx}{pins:List (Addr×Obj)}{σ:St}{H:Hp}{s:Shared}
def X1(h:Heap):List (List Int)->List Value->Prop
 |[],us=>us=[]
 |k::ks,us=>∃a its r,us=.ref a::r/\IntsAre its k/\IsTup h a its.toArray/\X1 h ks r
theorem Zbo(I:Zq X pins σ H s):∀{ks:List (List Int)} {vs:List V} {us:List Value},Zr X.K H (ks.map kT) vs->ZB vs us->X1 s.heap ks us
 |[],_,_,r,rv=>by
  have:_=[]:=r
  subst this
  cases rv;rfl
 |k::ks,_,_,⟨v,vr,e,⟨a,xs,ev,ha,rx⟩,t⟩,rv=>by
  subst e;subst ev
  cases rv with
  |cons r1 Z0 =>
   cases r1
   cases rx.ints
   obtain⟨its,r2,pl,_⟩:=I.tuple (Wq.of ha)
   exact⟨a,its,_,rfl,XZ r2,pl,Zbo I t Z0⟩
theorem X1.keep{h h':Heap}(k:∀b o,h.get? b=some o->h'.get? b=some o):∀{ks:List (List Int)} {us:List Value},X1 h ks us->X1 h' ks us
 |[],_,e=>e
 |_::_,_,⟨a,its,r,e,i,t,q⟩=>⟨a,its,r,e,i,t.keeps k,q.keep k⟩
theorem X1.len{h:Heap}:∀{ks:List (List Int)} {us:List Value},X1 h ks us->us.length=ks.length
 |[],_,e=>by rw[show _=_ from e];rfl
 |_::_,_,⟨a,its,r,e,i,t,q⟩=>by rw[e,Qp,Qp,q.len]
theorem X1.get{h:Heap}:∀{ks:List (List Int)} {us:List Value} {i:Nat},X1 h ks us->i<ks.length->∃a its,us.getD i Value.none=.ref a/\IntsAre its (ks.getD i [])/\IsTup h a its.toArray
 |_::_,_,0,⟨a,its,r,e,i,t,q⟩,_=>⟨a,its,by rw[e];rfl,by simpa using i,t⟩
 |_::ks,_,j+1,⟨a,its,r,e,i,t,q⟩,hj=>by
  obtain⟨a',its',h1,h2,h3⟩:=q.get (i:=j) (by simpa using hj)
  exact⟨a',its',by rw[e];simpa using h1,by simpa using h2,h3⟩
theorem X1.tups{h:Heap}:∀{ks:List (List Int)} {us:List Value},X1 h ks us->(∀k∈ks,k≠[])->∃fs,KatTups h us fs/\fs.length=ks.length/\∀f∈fs,∃n t,f=Value.int n t
 |[],_,e,_=>by rw[show _=_ from e];exact⟨[],trivial,rfl,fun f hf=>by cases hf⟩
 |k::ks,_,⟨a,its,r,e,i,⟨o,ho,hc,n,hd⟩,q⟩,hne=>by
  obtain⟨fs,h1,h2,h3⟩:=q.tups fun k hk=>hne k (Qe _ hk)
  cases i with
  |nil=>exact absurd rfl (hne [] Qf)
  |cons m t hx =>
   refine⟨.int m t::fs,by rw[e];exact KatTups.cons ho hc hd (by simp) h1,by simp[h2],fun f hf=>?_⟩
   rcases Ql.mp hf with z|z
   ·exact⟨m,t,z⟩
   ·exact h3 f z
theorem Ztq{prog:Program}{w:World}{A:Around}{ks:List (List Int)}{us:List Value}(h:X1 s.heap ks us)(hne:∀k∈ks,k≠[])(h2:2<=us.length):Ztx prog w A s us (fun i j=>HT.lexLt (ks.getD i []) (ks.getD j [])):=by
 have hl:=h.len
 obtain⟨fs,h3,h4,h5⟩:=h.tups hne
 refine⟨_,fun Q hq=>kat_kind (T:=Value.type "int") h3 (by omega) (fun v hv=>?_) (by decide) hq,fun i j C hi hj hc=>?_⟩
 ·obtain⟨n,t,rfl⟩:=h5 v hv
  exact .now
 ·obtain⟨a,its,e1,i1,⟨o1,ho1,_,n1,hd1⟩⟩:=h.get (i:=i) (by omega)
  obtain⟨b,jts,e2,i2,⟨o2,ho2,_,n2,hd2⟩⟩:=h.get (i:=j) (by omega)
  unfold kas_ask
  rw[e1,e2]
  refine kat_lt ho1 hd1 ho2 hd2 ?_
  have:=Zip (prog:=prog) (w:=w) (A:=A) (b:=(Value.type "int" != Value.type "tuple")) (s:=s) (Q:=C) 0 i1 i2 hc
  simpa using this
theorem Zex{K:PySem.W.Frag}{ds:List D}{vs:List V}(r:Zr K H ds vs):∀(l:List Nat),(∀i∈l,i<ds.length)->Zr K H (l.map fun i=>ds.getD i .non) (l.map fun i=>vs.getD i .non)
 |[],_=>rfl
 |i::l,h=>by
  have hi:=h i Qf
  obtain⟨v,e1,e2⟩:=r.get (Qn hi)
  refine⟨vs.getD i .non,_,rfl,?_,Zex r l fun j hj=>h j (Qe _ hj)⟩
  show YJ K H (ds.getD i .non) _
  rw[QO,QO,e1,Qn hi]
  exact e2
theorem Zep{vs:List V}{us:List Value}(r:ZB vs us):∀(l:List Nat),(∀i∈l,i<vs.length)->ZB (l.map fun i=>vs.getD i .non) (l.map fun i=>us.getD i Value.none)
 |[],_=>.nil
 |i::l,h=>by
  refine .cons ?_ (Zep r l fun j hj=>h j (Qe _ hj))
  have hi:=h i Qf
  clear h
  induction r generalizing i with
  |nil=>simp at hi
  |cons a b ih =>
   cases i with
   |zero=>simpa using a
   |succ i=>simpa using ih i (by simpa using hi)
theorem UY:∀{us:List Value} {ns:List Int},IntsAre us ns->ZB (ns.map V.int) us
 |_,_,.nil=>.nil
 |_,_,.cons n t h=>.cons ⟨t,rfl⟩ (UY h)
theorem Zo2(hc:X.calm=true)(hu:X.A.units+64<cLine):YY X (.builtin "sorted") Vp:=by
 intro pins s σ H xs us Q I rs h
 obtain⟨O,ds,d,th,rp,e,q⟩:=h
 unfold Vp at e
 split at e
 ·rename_i es
  obtain⟨v,rfl,p,vs,rfl,hp,r2⟩:=Zcn rp
  obtain⟨u,rfl,ru⟩:=Xp rs
  cases ru
  obtain⟨its,rv,pl,_⟩:=I.list (WH.of (Zi _ _ hp))
  split at e
  ·rename_i is ei
   split at e
   ·rename_i h64
    cases e
    cases Xw ei
    cases r2.ints
    have hi:=XZ rv
    have hl:its.length=is.length:=hi.length
    refine sorted_ints pl.isList hi (by omega) fun out ns' a1 a2 a3=>?_
    obtain⟨ep,he⟩:=sortedAll_at s.heap its out
    cases Zgk a2 a3
    refine⟨.ref (s.heap.objs.size+1),_,I.laid (o:=.lst ((Zmv is).map V.int)) (fun _ _=>sortedAll_old) (Jr _) ⟨?_,out.toList,ep,UY a1,he⟩,rfl,q _ _ (Zf.new (I.hok.fresh (Jr _))) (Yj th (I.hok.fresh (Jr _)) (Um _))⟩
    rw[Qd,a2.length_eq,QK];omega
   ·cases e
  ·split at e
   ·rename_i ks ek
    split at e
    ·rename_i h64
     cases e
     cases WI ek
     obtain⟨h64,nd,hne⟩:=h64
     have rm:=Zr.mono Zi _ _ r2
     have ta:=Zbo I rm rv
     have hl:=ta.len
     have hvl:=r2.length
     rw[Qd]at hvl
     have ko:=Ze2 nd
     rw[<- hl]at ko
     refine Znm pl.isList (by omega) ko (fun h2 h' hk=>Ztq (s:={ s with heap:=h' }) (ta.keep hk) hne h2) fun pm hkp hr=>?_
     rw[hl]at hkp hr
     obtain⟨ep,he⟩:=sortedAll_at s.heap its (List.toArray (pm.toList.map fun i=>its.getD i Value.none))
     have lt:∀i∈pm.toList,i<ks.length:=fun i hi=>QJ.mp ((Zbw hkp).mem_iff.mp hi)
     have r3:=Zex r2 pm.toList (fun i hi=>by rw[Qd];exact lt i hi)
     have ed:(pm.toList.map fun i=>(ks.map kT).getD i .non)=(Xv ks).map kT:=by
      rw[<- Ze1 hkp hr,Qy]
      refine QW fun i hi=>?_
      have:=lt i hi
      simp[QO,this]
     rw[ed]at r3
     have v3:=Zep rv pm.toList (fun i hi=>by rw[hvl];exact lt i hi)
     refine⟨.ref (s.heap.objs.size+1),_,I.laid (o:=.lst (pm.toList.map fun i=>vs.getD i .non)) (fun _ _=>sortedAll_old) (Jr _) ⟨?_,_,ep,v3,he⟩,rfl,q _ _ (Zf.new (I.hok.fresh (Jr _))) (Yj th (I.hok.fresh (Jr _)) r3)⟩
     rw[Qd,Qx,hkp.size,QK];omega
    ·cases e
   ·cases e
 ·cases e
end
end L2

namespace L2
open PySem PySem.Spec PyProof.Rows
section
variable{X:Cx}{tg:Expr}
def Zxh:D->Option (List D)
 |.lst ds=>some ds
 |_=>none
end
theorem ZL{P:Program}{w:World}{K:PySem.W.Frag}{mg:Str->Option Value}{base:Heap}{x qual:Str}{st:Stmt}{f:Addr}{fd:FuncData}{N ps:List Str}{k n m:Nat}{F:FS}{G:List D->Option D}(Fu:W3 K x qual st f fd)(S:ZK N ps (Zn st))(hn:ps.length=n)(hm:N.length=m)(hG:G=YZ n m F)
  (h:∀(cdv:Value) (A:Around) (outer:List Env) (s:Shared) (H:Hp) (E:XK),XD k (A.deeper (envOfC qual (Zn st) s.heap.objs.size f cdv))->Zpb (Zef Zpf P w K mg base N qual (Zn st) f cdv A outer s H E).nox (XQ st) F) :
  Vj P w K mg base Zpf (k+1) f fd ps (spD K G):=by
 subst hn hm hG
 exact Zv4 Fu S h
section
variable{K:PySem.W.Frag}{B H H':Hp}{O0 O1:List Addr}{ρ:XR}{σ:St}
theorem Zno{news:List Addr}(hn:∀a∈news,H a=none)(s:Zf H H'):Zf (mask (O0++O1) H) (mask (O0++(news++O1)) H'):=fun b u q=>by
 have hb:b∉O0++O1:=fun m=>by rw[Yy m]at q;cases q
 rw[ZF hb]at q
 have hbn:b∉news:=fun m=>by rw[hn b m]at q;cases q
 refine(ZF fun m=>?_).trans (s b u q)
 rcases QE.mp m with z|z
 ·exact hb (Q3 _ z)
 ·rcases QE.mp z with z|z
  ·exact hbn z
  ·exact hb (Qt _ z)
theorem RS.grow(r:RS K B O0 O1 H ρ σ){news:List Addr}(hn:∀a∈news,H a=none)(s:Zf H H')(hm:∀a∈news,∃o,H' a=some o/\Ziy o):RS K B O0 (news++O1) H' ρ σ:=by
 have sm:=Zno (O0:=O0) (O1:=O1) hn s
 refine⟨r.len,Zf.trans r.same s,r.thB,fun a ha=>?_,fun a ha=>?_,fun i d e=>let⟨v,h1,h2⟩:=r.vals i d e;⟨v,h1,YJ.mono sm d v h2⟩,fun i d e=>?_,r.apart⟩
 ·rcases QE.mp ha with z|z
  ·cases q:B a with
   |none=>rfl
   |some u=>have:=r.same a u q;rw[hn a z]at this;cases this
  ·exact r.new a z
 ·rcases QE.mp ha with z|z
  ·exact hm a z
  ·obtain⟨o,e,m⟩:=r.th a z
   exact⟨o,s _ _ e,m⟩
 ·obtain⟨a,h1,h2,h3⟩:=r.owns i d e
  exact⟨a,h1,Qt _ h2,h3.mono sm fun o q=>s _ _ q⟩
theorem RS.slot(r:RS K B O0 O1 H ρ σ){i:Nat}{v:V}(hi:∀c,ρ[i]?≠some (some c)):RS K B O0 O1 H ρ (σ.set i (some v)):=by
 have other:∀{j:Nat} {c:Cl},ρ[j]?=some (some c)->(σ.set i (some v))[j]?=σ[j]?:=fun{j c} e=>QD fun z=>by subst z;exact hi c e
 refine⟨by rw[List.length_set];exact r.len,r.same,r.thB,r.new,r.th,fun j d e=>?_,fun j d e=>?_,fun j k d1 d2 a q1 q2 q3 q4=>?_⟩
 ·rw[other e];exact r.vals j d e
 ·rw[other e];exact r.owns j d e
 ·rw[other q1]at q3;rw[other q2]at q4;exact r.apart j k d1 d2 a q1 q2 q3 q4
end
def Tb(O1:List Addr)(i:Nat)(M:List (List Int))(σ:St)(H:Hp):Prop:=∃(t:Addr) (bs:List Addr),σ[i]?=some (some (.ref t))/\t∈O1/\(∀b∈bs,b∈O1)/\t∉bs/\bs.Nodup/\H t=some (.lst (bs.map V.ref))/\bs.length=M.length /\
 ∀(k:Nat) (b:Addr) (row:List Int),bs[k]?=some b->M[k]?=some row->H b=some (.lst (row.map V.int))
section
variable{X:Cx}
end
section
variable{X:Cx}
theorem Tb.mono{O1:List Addr}{i:Nat}{M:List (List Int)}{σ:St}{H H':Hp}(T:Tb O1 i M σ H)(s:Zf H H'):Tb O1 i M σ H':=by
 obtain⟨t,bs,h1,h2,h3,h4,h5,h6,h7,h8⟩:=T
 exact⟨t,bs,h1,h2,h3,h4,h5,s _ _ h6,h7,fun k b r hb hr=>s _ _ (h8 k b r hb hr)⟩
def blank(ρ:XR)(i:Nat):Bool:=match ρ[i]? with|some none=>true|_=>false
theorem Tb.slots{O1:List Addr}{i:Nat}{M:List (List Int)}{σ σ':St}{H:Hp}(T:Tb O1 i M σ H)(e:σ'[i]?=σ[i]?):Tb O1 i M σ' H:=by
 obtain⟨t,bs,h1,h2⟩:=T
 exact⟨t,bs,by rw[e];exact h1,h2⟩
end
section
variable{X:Cx}
theorem ZG{k m:Nat}{y:Str}{f:Addr}{fd:FuncData}{ps:List Str}{G:List D->Option D}{p pos:Pos}{e:Expr}{es:List Expr}{fa:FA}(o:Xe X.prog X.w X.K X.mg X.base y k ps G f fd)(hr:XD m X.A)(ha:AV X (e::es) fa)(hle:k<=m:=by decide)
  (hg:Gl X y:=by rfl) (hdb:(y == ("__debug__":Str))=false:=by decide) (he:starEach (e::es) X.env=(false,eval e X.env)::starEach es X.env:=by rfl) (hpl:(backTo pos (starEach es X.env)).any (·.1)=false:=by rfl) :
  EV X (.Call (.Name y p) (e::es) [] pos) (fL G fa):=Zv6 o.ok (hr.mono hle) o.mg o.kp o.bi ha hg hdb he hpl
end
def FH(K:PySem.W.Frag)(x:Str)(st:Stmt):Prop:=∃f fd,PySem.W.nsIn K mainGlobals x=some (some (.ref f))/\W3 K x x st f fd
theorem fh{K:PySem.W.Frag}{x:Str}{st:Stmt}{f:Addr}{oc:Value}{od an:Option Addr}{osl:Array (Option Value)}{kV doc pm cdv ct:Value}(a:PySem.W.nsIn K mainGlobals x=some (some (.ref f)))
  (l:K.lookup f=some ⟨oc,od,.func (PySem.W.fnOf x x (Vy st) (XQ st) (Zn st) .none kV doc pm an cdv ct),osl⟩) (c:PySem.W.codeIn K cdv x=true) (k:PySem.W.keepIn K (.ref f)=true):FH K x st:=⟨f,_,a,Zsq l c k⟩
section
variable{X:Cx}
end
section
variable{X:Cx}
end
section
variable{X:Cx}
end
end L2

namespace ZI
open PySem PyProof.Rows ZD
section
variable{prog:Program}{w:World}{A:Around}{E:Value->Shared->Prop}{s:Shared}{d it v:Addr}{es:Array DictEntry}{ep i:Nat}{k0 v0:Value}
end
end ZI

namespace L2
open PySem PySem.Spec PyProof.Rows
structure DOb(o:Obj)(es:Array DictEntry)(ep:Nat):Prop where
 ex:o.ExactDict
 da:o.data=.dict es ep
section
variable{X:Cx}{pins:List (Addr×Obj)}{σ:St}{H:Hp}{s:Shared}{a:Addr}{o:Obj}{kvs:List (List YQ×V)}{es:Array DictEntry}{ep:Nat}
theorem Zq.frz(I:Zq X pins σ H s)(h:H a=some (.frz o (.dT kvs))):(a == sysModules)=false/\∃es ep,DOb o es ep/\ZD.DictR s.heap a es ep:=by
 obtain⟨g,_,hS,ys,_,o',es,ep,h1,h2,h3,_⟩:=(show Yr X.prog X.w H s.heap a (.frz o (.dT kvs)) from I.hok a _ h)
 rw[g]at h1
 cases h1
 exact⟨hS,es,ep,⟨h2,h3⟩,o,g,h2,h3⟩
end
section
variable{X:Cx}{tg:Expr}
end
section
variable{X:Cx}{pins:List (Addr×Obj)}{σ:St}{H:Hp}{s:Shared}{a:Addr}{kvs:List (List YQ×V)}
end
section
variable{X:Cx}{k v:Expr}{pos:Pos}{tk tv:TE}
end
section
variable{X:Cx}
def mulTD:D->D->Option D
 |.tup [a],.int k=>if -65536<=k/\k<=65536 then some (.tup (List.replicate k.toNat a)) else none
 |_,_=>none
theorem Zpw(l b:Addr)(items2:Array Value)(n n2:Nat)(dd dd2:Option Addr)(sl sl2:Array (Option Value)) :
  Meets (Builtin.«tuple.__add__» ⟨[.ref l,.ref b],[]⟩) (fun _ R s=>s.heap.get? l=some { cls:=.type "tuple",dict:=dd,data:=.seq #[] n,slots:=sl } /\
   s.heap.get? b=some { cls:=.type "tuple",dict:=dd2,data:=.seq items2 n2,slots:=sl2 }/\R (.ok (.ret (.ref b))) s) :=
 .of_wp fun prog w A R s h=>by obtain⟨hp,g,d,tk,os⟩:=s;obtain⟨hl,hb,h⟩:=h;have f2:=AutoSeq1.sub_tuple_tuple;wp_walk using AutoSeq1.wpAny_loadPart' hl,AutoSeq1.wpAny_loadPart' hb;exact⟨_,rfl,h⟩
theorem Zvb:W6 X (binaryOp .Add) (fun x y H Q=>∃a b ys,x=.ref a/\y=.ref b/\H a=some (.tup [])/\H b=some (.tup ys)/\Q (.ref b) H):=by
 intro pins s σ H x y v u Q I rx ry h
 obtain⟨a,b,ys,rfl,rfl,ha,hb,q⟩:=h
 cases rx
 cases ry
 obtain⟨_,its,r1,p1⟩:=(show Yr X.prog X.w H s.heap a (.tup []) from I.hok a _ ha)
 obtain⟨_,its2,r2,p2⟩:=(show Yr X.prog X.w H s.heap b (.tup ys) from I.hok b _ hb)
 cases r1
 obtain⟨⟨cls,dd,data,sl⟩,ho,hc,n,hd⟩:=id p1
 obtain⟨⟨cls2,dd2,data2,sl2⟩,ho2,hc2,n2,hd2⟩:=id p2
 simp only at hc hd hc2 hd2
 subst hc hd hc2 hd2
 exact concat_meets ⟨_,ho,rfl⟩ ⟨_,ho2,rfl⟩ noFill_tuple_add seq_tuple_add PySem.F.slot_tuple_add PySem.F.entry_tuple_add (PySem.F.args_tuple_add_2 _ _) (Zpw a b its2.toArray n n2 dd dd2 sl sl2) ⟨ho,ho2,.ref b,H,I,rfl,q⟩
def Zdy:D->D->Option D
 |.tup a,.tup b=>if a.length+b.length<=ZN then some (.tup (a++b)) else none
 |_,_=>none
theorem Zrb:VC X (binaryOp .Add) Zdy:=VC.of (W6.or Zml Zvb) fun x y H Q h=>by
 obtain⟨O,dx,dy,d,th,rx,ry,e,q⟩:=h
 unfold Zdy at e
 split at e
 ·rename_i a b
  split at e
  ·rename_i hl
   cases e
   obtain⟨p,vs,rfl,hp,rp⟩:=rx
   obtain⟨p2,us,rfl,hp2,rp2⟩:=ry
   have l1:=rp.length
   have l2:=rp2.length
   cases a with
   |nil =>
    have:vs=[]:=rp
    subst this
    exact .inr ⟨p,p2,us,rfl,rfl,Zi _ _ hp,Zi _ _ hp2,q _ H (Zf.refl _) ⟨p2,us,rfl,hp2,rp2⟩⟩
   |cons a0 a =>
    refine .inl ⟨p,p2,vs,us,rfl,rfl,Wq.of (Zi _ _ hp),Wq.of (Zi _ _ hp2),fun z=>?_,?_,fun z=>?_,fun _ r hr=>?_⟩
    ·rw[z]at l1;cases l1
    ·have:=Z5 hl;omega
    ·subst z
     have:b=[]:=List.eq_nil_of_length_eq_zero (by rw[<- l2];rfl)
     subst this
     rw[Q9]at q
     exact q _ H (Zf.refl _) ⟨p,vs,rfl,hp,rp⟩
    ·exact q _ _ (Zf.new hr) (Xg th hr (rp.append rp2))
  ·cases e
 ·cases e
end
section
variable{X:Cx}
end
section
variable{X:Cx}{scope:Scope}{elt tg iter:Expr}{ifs:List Expr}{pos:Pos}{fi:FA}{t:FG}{gt:FT}{fe:FE}
end
section
variable{X:Cx}{pos:Pos}
def Zmn(d:D):Bool:=(Ya d).canLay0&&decide ((Ya d).depth<=60)
theorem Zkq{d:D}(h:Zmn d=true):(Ya d).canLay0=true/\(Ya d).depth<=60:=by
 unfold Zmn at h
 simpa using h
noncomputable def eqP(s:Shared)(px:PyData)(w:Value):Bool:=@decide (∃dd as,Reads s.heap w dd as/\dd.canLay0=true/\PyData.eqv dd px=true) (Classical.propDecidable _)
theorem Zs4{s:Shared}{px dd:PyData}{w:Value}{as:List Addr}(h:Reads s.heap w dd as)(hc:dd.canLay0=true):eqP s px w=PyData.eqv dd px:=by
 unfold eqP
 cases e:PyData.eqv dd px with
 |true=>exact @decide_eq_true _ (Classical.propDecidable _) ⟨dd,as,h,hc,e⟩
 |false =>
  refine @decide_eq_false _ (Classical.propDecidable _) fun z=>?_
  obtain⟨d2,as2,h2,hc2,e2⟩:=z
  rw[PySem.SeqAt.Reads.unique dd d2 w as as2 hc h h2,e2]at e
  cases e
theorem Zh6{pins:List (Addr×Obj)}{s:Shared}{σ:St}{H:Hp}(I:Zq X pins σ H s)(px:PyData):∀(ds:List D) (vs:List V) (us:List Value),ds.all Zmn=true->Zr X.K H ds vs->ZB vs us ->
  (∀w∈us,∃d as,Zmn d=true/\Reads s.heap w (Ya d) as)/\us.any (eqP s px)=ds.any fun d=>PyData.eqv (Ya d) px:=by
 intro ds
 induction ds with
 |nil =>
  intro vs us _ r t
  have:vs=[]:=r
  subst this
  cases t
  exact⟨fun w hw=>(by cases hw),rfl⟩
 |cons d ds ih =>
  intro vs us f r t
  obtain⟨v,vr,rfl,h,r'⟩:=r
  cases t with
  | @cons _ u _ us r0 r1 =>
   rw[Jp,Qq]at f
   obtain⟨g1,g2⟩:=ih vr us f.2 r' r1
   obtain⟨c1,c2⟩:=Zkq f.1
   obtain⟨as,q⟩:=Wu I d v u c1 h r0
   refine⟨fun w hw=>?_,?_⟩
   ·rcases Ql.mp hw with rfl|hw
    ·exact⟨d,as,f.1,q⟩
    ·exact g1 w hw
   ·rw[JN,JN,g2,Zs4 q c1]
end
structure Fly(P:Program)(w:World)(base:Heap)(outer:List Env)(H:Hp)(s:Shared)(H':Hp)(a:Addr)(cls a0:Value)(B:Heap)(s':Shared):Prop where
 fl:Heap.FlyingW B outer a cls a0 s'.heap
 bB:base.StaysIn B
 os:s'.os=s.os
 bare:AllBare s'.gens
 cov:∀b o,s.heap.get? b=some o->H b=none->b∉Vg outer->B.get? b=some o
 slot:∀b o,s.heap.get? b=some o->b∈Vg outer->∃sl,s'.heap.get? b=some { o with slots:=sl }
 free:∀b o,s.heap.get? b=some o->H b=none->H' b=none
 trk:∀b o,s.heap.get? b=some o->b∉Vg outer->∃o',B.get? b=some o'
 tups:∀b xs,H b=some (.tup xs)->H' b=some (.tup xs)
 frzs:∀b o u,H b=some (.frz o u)->H' b=some (.frz o u)
 tbls:∀b ps,H b=some (.tbl ps)->∃more,H' b=some (.tbl (ps++more))
 hok:Ua P w H' B
theorem Fly.un{P:Program}{w:World}{base:Heap}{outer:List Env}{H H':Hp}{s s':Shared}{a:Addr}{cls a0:Value}{B:Heap}(f:Fly P w base outer H s H' a cls a0 B s'):Un (Vg outer) [] H H' s.heap s'.heap where
 keep:=fun b o e n hb _=>f.fl.1 b o (f.cov b o e n hb)
 slot:=fun b o e _ hb _=>f.slot b o e hb
 free:=fun b o e n _=>f.free b o e n
 there:=fun b o e _=>by
  by_cases hb:b∈Vg outer
  ·obtain⟨sl,e'⟩:=f.slot b o e hb
   exact⟨_,e'⟩
  ·obtain⟨o',e'⟩:=f.trk b o e hb
   exact⟨o',f.fl.1 b o' e'⟩
 tups:=f.tups
 frzs:=f.frzs
 tbls:=f.tbls
def Zpd(P:Program)(w:World)(base:Heap):Zm8:=fun outer H s E e s'=>∃a cls a0 B H',e=.ref a/\Fly P w base outer H s H' a cls a0 B s'/\E cls none H'
structure XL(X:Cx)(E:XK):Prop where
 xe:X.xe=fun e s'=>wpAny (model X.prog X.w) X.A (leaving X.env e) (fun _ s''=>Zpd X.prog X.w X.base X.outer X.H₀ X.s₀ E e s'') (fun e' s''=>Zpd X.prog X.w X.base X.outer X.H₀ X.s₀ E e' s'') s'
 stk:X.stack=X.env::X.outer
 fr:X.env.frame=some X.env.locals
 ex:X.ex=[]
section
variable{X:Cx}{E:XK}{pins:List (Addr×Obj)}{σ:St}{H:Hp}{s:Shared}
theorem Vt{env:Env}{l:List Env}{b:Addr}(h:env∈l)(hf:env.frame=some b):b∈Vg l:=Jm.mpr ⟨env,h,hf⟩
theorem Zk1(x:XL X E)(I:Zq X pins σ H s){h1:Heap}{e:Addr}{cls:Value}{args:List Value}(hx:Heap.MadeExcOf s.heap h1 e cls args)(hE:E cls none H):X.xe (.ref e) { s with heap:=h1 }:=by
 rw[x.xe]
 have st:=I.stack
 have noL:∀b∈Vg X.outer,b∈Vg X.stack:=fun b hb=>by
  obtain⟨env,he,hf⟩:=Jm.mp hb
  rw[x.stk]
  exact Vt (Qe _ he) hf
 have Zi0:∀b∈Vg X.stack,b=X.env.locals\/b∈Vg X.outer:=fun b hb=>Ql.mp (I.stkSub b hb)
 have loS:∀b o,X.s₀.heap.get? b=some o->b≠X.env.locals:=fun b o e z=>by
  have h1:=Qk e
  rw[z]at h1
  exact absurd (Qw h1 I.ok.above) (Ji _)
 have hm:∀b:Addr,b∈X.ex->False:=fun b h=>by rw[x.ex]at h;cases h
 refine wpAny_leaves_madeW (base:=PySem.W.hideAll s.heap (Vg X.stack)) (h:=s.heap) (L:=X.env.locals) (by rw[I.ok.frames,x.stk]) x.fr (fun b o q=>PySem.W.of_hideAll _ q) ?_ hx fun h' t x1 x2 x3 x4=>?_
 ·rw[x.stk]at st ⊢
  exact PySem.W.funFrames_hide st fun env he a hf=>Vt he hf
 ·have B1:∀b o,s.heap.get? b=some o->b∉Vg X.stack->(PySem.W.hideAll s.heap (Vg X.stack)).get? b=some o:=fun b o e n=>PySem.W.hideAll_get _ e n
  refine⟨e,cls,.ref t,PySem.W.hideAll s.heap (Vg X.stack),H,rfl,⟨x1,fun b o q=>B1 b o (I.bk b o q) fun hb=>?_,I.os,I.bare,fun b o q n hb=>?_,fun b o q hb=>?_,fun b o q n=>?_,fun b o q hb=>?_,I.base.tups,I.base.frzs,I.base.tbls,fun b u q=>?_⟩,hE⟩
  ·rw[(st.mem hb).1]at q;cases q
  ·refine B1 b o (I.base.keep b o q n hb fun z=>hm b z) fun z=>?_
   rcases Zi0 b z with z|z
   ·exact loS b o q z
   ·exact hb z
  ·obtain⟨sl,q1⟩:=I.base.slot b o q (I.ok.frf b hb) hb fun z=>hm b z
   obtain⟨_,o2,q2,nd⟩:=st.mem (noL b hb)
   rw[q1]at q2
   cases q2
   obtain⟨sl2,q3⟩:=x4 b _ (hx.keeps b _ q1) nd
   exact⟨sl2,q3⟩
  ·exact I.base.free b o q n fun z=>hm b z
  ·obtain⟨o',q1⟩:=I.base.there b o q fun z=>hm b z
   exact⟨o',B1 b o' q1 fun z=>by
    rcases Zi0 b z with z|z
    ·exact loS b o q z
    ·exact hb z⟩
  ·refine(I.hok b u q).stay (fun c v hc r=>B1 c v r fun z=>?_) (fun _ r=>r) fun _ _ r=>r
   have:=I.stkFree c z
   rcases hc with rfl|hc
   ·rw[this]at q;cases q
   ·rw[this]at hc;cases hc
theorem Zk0(x:XL X E)(I:Zq X pins σ H s){e:Value}{s':Shared}(h:Zpd X.prog X.w X.base X.stack H s E e s'):X.xe e s':=by
 rw[x.xe]
 obtain⟨a,cls,a0,B,H',rfl,f,hE⟩:=h
 have st:=I.stack
 have noL:∀b∈Vg X.outer,b∈Vg X.stack:=fun b hb=>by
  obtain⟨env,he,hf⟩:=Jm.mp hb
  rw[x.stk]
  exact Vt (Qe _ he) hf
 have Zi0:∀b∈Vg X.stack,b=X.env.locals\/b∈Vg X.outer:=fun b hb=>Ql.mp (I.stkSub b hb)
 have loS:∀b o,X.s₀.heap.get? b=some o->b≠X.env.locals:=fun b o e z=>by
  have h1:=Qk e
  rw[z]at h1
  exact absurd (Qw h1 I.ok.above) (Ji _)
 have hm:∀b:Addr,b∈X.ex->False:=fun b h=>by rw[x.ex]at h;cases h
 have fl:=f.fl
 rw[x.stk]at fl
 refine wpAny_leaves_onW (L:=X.env.locals) (by rw[I.ok.frames,x.stk]) x.fr fl fun h' x1 x4=>?_
 refine⟨a,cls,a0,B,H',rfl,⟨x1,f.bB,f.os.trans I.os,f.bare,fun b o q n hb=>?_,fun b o q hb=>?_,fun b o q n=>?_,fun b o q hb=>?_,fun b xs q=>f.tups b xs (I.base.tups b xs q),fun b o u q=>f.frzs b o u (I.base.frzs b o u q),fun b ps q=>?_,f.hok⟩,hE⟩
 ·refine f.cov b o (I.base.keep b o q n hb fun z=>hm b z) (I.base.free b o q n fun z=>hm b z) fun z=>?_
  rcases Zi0 b z with z|z
  ·exact loS b o q z
  ·exact hb z
 ·obtain⟨sl,q1⟩:=I.base.slot b o q (I.ok.frf b hb) hb fun z=>hm b z
  obtain⟨sl1,q2⟩:=f.slot b _ q1 (noL b hb)
  obtain⟨_,o2,q3,nd⟩:=st.mem (noL b hb)
  rw[q1]at q3
  cases q3
  obtain⟨sl2,q4⟩:=x4 b _ q2 nd
  exact⟨sl2,q4⟩
 ·exact f.free b _ (I.base.there b o q fun z=>hm b z).choose_spec (I.base.free b o q n fun z=>hm b z)
 ·obtain⟨o',q1⟩:=I.base.there b o q fun z=>hm b z
  exact f.trk b o' q1 fun z=>by
   rcases Zi0 b z with z|z
   ·exact loS b o q z
   ·exact hb z
 ·obtain⟨m1,e1⟩:=I.base.tbls b ps q
  obtain⟨m2,e2⟩:=f.tbls b _ e1
  exact⟨m1++m2,by rw[e2,Array.append_assoc]⟩
theorem Zu8(x:XL X E):V8 (Zpd X.prog X.w X.base) X E:=fun _ _ _ _ _ _ I h=>Zk0 x I h
end
abbrev Zwg:List Value:=[.type "ValueError",.type "Exception",.type "BaseException",.type "object"]
def Zet(K:PySem.W.Frag)(C:Addr)(v:Value):Bool:=match K.lookup C with
 |some ⟨_,_,.cls cd,_⟩=>cd.mro.contains v
 |_=>false
structure OX(K:PySem.W.Frag)(mg:Str->Option Value)(x:Str)(C:Addr):Prop where
 mg:mg x=some (.ref C)
 exc:PySem.W.excIn K C Zwg "ValueError.__new__"=true
theorem OX.obj{K:PySem.W.Frag}{mg:Str->Option Value}{x:Str}{C:Addr}(o:OX K mg x C){h:Heap}(X:K.In h) :
  ∃bm N nm q bs hdct sn sub ab col dd k0 k1 k2 k3 k5 mN,h.get? C=some (excClassObj nm q C N bs bm hdct sn sub ab col dd k0 k1 k2 k3 k5 "ValueError.__new__")/\h.Ns N mN/\mN "__init__"=none/\OwnTail h Zwg bm/\∀v,Zet K C v=(Value.ref C::bm).contains v:=by
 have q:=o.exc
 unfold PySem.W.excIn at q
 split at q
 ·rename_i dd cd sl ho
  split at q
  ·rename_i C' bm k0 k1 k2 k3 n k5 hm hs
   simp only[Qq,beq_iff_eq,JR]at q
   obtain⟨⟨⟨⟨⟨rfl,rfl⟩,hdel⟩,ht⟩,hok⟩,hni⟩:=q
   have hsub:∀v,Zet K C' v=(Value.ref C'::bm).contains v:=fun v=>by
    unfold Zet;rw[ho];simp only[hm]
   obtain⟨nm,bs,mro,ns,qn,hd,sn,sub,ab,col,del⟩:=cd
   dsimp only at hm hdel hok hni
   subst hm hdel
   have hsl:sl=#[k0,k1,k2,k3,some (.builtin "ValueError.__new__"),k5]:=by
    obtain⟨l⟩:=sl
    simp only at hs
    rw[hs]
   subst hsl
   exact⟨bm,ns,nm,qn,bs,hd,sn,sub,ab,col,dd,k0,k1,k2,k3,k5,_,X _ _ ho,.of_isNs (PySem.W.isNs_of_in X hok),PySem.W.nsMap_none_of_in X hok hni,PySem.W.tail_of_in X ht,hsub⟩
  ·cases q
 ·cases q
abbrev FX:=XR->Option Str
abbrev Zd3:=Xl->Option Str
def tX(K:PySem.W.Frag)(ad:Str->Addr)(E:XK)(F:FX):TS:=fun _ σ H=>∃B O0 O1 ρ c,RS K B O0 O1 H ρ σ/\F ρ=some c/\∀H',Zf B H'->E (.ref (ad c)) none H'
def tXE(K:PySem.W.Frag)(ad:Str->Addr)(E:XK)(F:Zd3):TE:=fun σ H _=>∃O ρ c,RV K O H ρ σ/\F ρ=some c/\∀H',Zf H H'->E (.ref (ad c)) none H'
def XS(X:Cx)(ad:Str->Addr)(E:XK)(st:Stmt)(F:FX):Prop:=PS X st (tX X.K ad E F)
def Zt0(X:Cx)(ad:Str->Addr)(E:XK)(st:List Stmt)(F:FX):Prop:=Zbd X st (tX X.K ad E F)
def XE(X:Cx)(ad:Str->Addr)(E:XK)(e:Expr)(F:Zd3):Prop:=PE X e (tXE X.K ad E F)
def Zah(c:Str):FX:=fun _=>some c
def Zhd(g:FT)(F G:FX):FX:=fun ρ=>match g (YF ρ) with|some true=>F ρ|some false=>G ρ|none=>none
def Znb:FX:=fun _=>none
def Y9(S:FS)(F:FX):FX:=fun ρ=>match S ρ with|.nx ρ'=>F ρ'|_=>none
def WR(F:Zd3):FX:=fun ρ=>F (YF ρ)
def xL(G:List D->Option Str)(fa:FA):Zd3:=fun ρ=>(fa ρ).bind G
def Wh(n N:Nat)(F:FX):List D->Option Str:=fun ds=>if ds.length=n then F (YB n N ds) else none
def Zd7(F G:FX):FX:=fun ρ=>match F ρ with|some c=>some c|none=>G ρ
section
variable{X:Cx}{ad:Str->Addr}{E:XK}{st:Stmt}{Z0:List Stmt}{pos:Pos}{F G:FX}
theorem UW{y:Str}{np cpos p:Pos}{z:Str}{j:Nat}(x:XL X E)(o:OX X.K X.mg y (ad y))(hc:X.calm=true:=by rfl)(hg:Gl X y:=by rfl)(hd:(y == ("__debug__":Str))=false:=by decide)
  (he:starEach [Expr.Constant (.str z) j p] X.env=(false,eval (.Constant (.str z) j p) X.env)::starEach [] X.env:=by rfl) :
  XS X ad E (.Raise (some (.Call (.Name y np) [.Constant (.str z) j p] [] cpos)) none pos) (Zah y):=by
 intro pins s σ H D I h
 obtain⟨B,O0,O1,ρ,c,r,e,hE⟩:=h
 cases e
 obtain⟨bm,N,nm,q,bs,hdct,sn,sub,ab,col,dd,k0,k1,k2,k3,k5,mN,hC,hN,hni,hT,_⟩:=o.obj I.mod.kin
 refine wpAny_Raise_call_subT (F:=PySem.F.excBase_ValueError) (C:=ad y) (nm:=nm) (q:=q) (N:=N) (bs:=bs) (bm:=bm) (hdct:=hdct) (sn:=sn) (sub:=sub) (ab:=ab) (col:=col) (dd:=dd) (k0:=k0) (k1:=k1) (k2:=k2) (k3:=k3) (k5:=k5) (mN:=mN) (hT.hasType (by decide)) (I.ok.hd hc) (by rw[he];rfl) hni (Uo I hg o.mg ⟨rfl,?_⟩ hd)
 have hp:=Ym (X:=X) (Zq1 (X:=X) (x:=z) (j:=j) (pos:=p)) (Xh (X:=X)) he cpos pins s σ H (fun vs H1=>vs.length=1/\H1=H) I ⟨rfl,rfl⟩
 rw[he]at hp ⊢
 refine Calls.evalArgs_plain (YA hp fun us s1 k=>?_)
 obtain⟨vs,H1,I1,rv,el,eq⟩:=k
 subst eq
 refine⟨rfl,?_,I1.bk _ _ hC,hN.keeps I1.bk,hT.keeps I1.bk,fun h' e hm=>Zk1 x I1 hm (hE _ r.same)⟩
 show us.length<=sizeLine
 rw[<- rv.length,el,show sizeLine=16777216 from QK]
 decide
theorem Zhk{c:Expr}{a b:List Stmt}{g:FT}(hc:TV X c g)(ha:Zt0 X ad E a F)(hb:Zt0 X ad E b G):XS X ad E (.If c a b pos) (Zhd g F G):=PS.imp (Zxa hc ha hb) fun D σ H h=>by
 obtain⟨B,O0,O1,ρ,c,r,e,hE⟩:=h
 unfold Zhd at e
 cases eg:g (YF ρ) with
 |none=>rw[eg]at e;cases e
 |some k =>
  rw[eg]at e
  refine⟨O0,YF ρ,k,r.all,eg,fun H' s=>?_⟩
  cases k with
  |true=>rw[if_pos rfl];exact⟨B,O0,O1,ρ,c,r.mono s,e,hE⟩
  |false=>rw[if_neg Qv];exact⟨B,O0,O1,ρ,c,r.mono s,e,hE⟩
theorem Zb6:Zt0 X ad E Z0 Znb:=Zbd.imp Zal fun D σ H h=>by
 obtain⟨B,O0,O1,ρ,c,r,e,hE⟩:=h
 cases e
theorem Y2(h:XS X ad E st F):Zt0 X ad E (st::Z0) F:=Zbd.imp (Zcq h (Zal (sts:=Z0))) fun D σ H h=>h
theorem UV{S:FS}(h:SV X st S)(t:Zt0 X ad E Z0 F):Zt0 X ad E (st::Z0) (Y9 S F):=Zbd.imp (Zcq h t) fun D σ H h=>by
 obtain⟨B,O0,O1,ρ,c,r,e,hE⟩:=h
 unfold Y9 at e
 refine⟨B,O0,O1,ρ,r,?_⟩
 cases eS:S ρ with
 |nx ρ'=>rw[eS]at e;exact fun σ' H' O1' r'=>⟨B,O0,O1',ρ',c,r',e,hE⟩
 |_=>rw[eS]at e;cases e
theorem Zb5{S:FS}(h:XS X ad E st F)(h':SV X st S)(t:Zt0 X ad E Z0 G):Zt0 X ad E (st::Z0) (Zd7 F (Y9 S G)):=by
 intro pins s σ H D I hw
 obtain⟨B,O0,O1,ρ,c,r,e,hE⟩:=hw
 unfold Zd7 at e
 cases eF:F ρ with
 |some c' =>
  rw[eF]at e
  cases e
  exact Y2 h pins s σ H D I ⟨B,O0,O1,ρ,_,r,eF,hE⟩
 |none =>
  rw[eF]at e
  exact UV h' t pins s σ H D I ⟨B,O0,O1,ρ,_,r,e,hE⟩
theorem Zfl{e:Expr}{f:Zd3}(h:XE X ad E e f):XS X ad E (.Return (some e) pos) (WR f):=PS.imp (Zqs h) fun D σ H h=>by
 obtain⟨B,O0,O1,ρ,c,r,e,hE⟩:=h
 exact⟨O0,YF ρ,c,r.all,e,fun H' s=>hE H' (Zf.trans r.same s)⟩
def spX(K:PySem.W.Frag)(ad:Str->Addr)(G:List D->Option Str):Sp:=fun vs H _ E=>∃O ds c,YG O H/\Zr K (mask O H) ds vs/\G ds=some c/\∀H',Zf H H'->E (.ref (ad c)) none H'
structure VM(P:Program)(w:World)(K:PySem.W.Frag)(mg:Str->Option Value)(base:Heap)(ad:Str->Addr)(x:Str)(k:Nat)(ps:List Str)(G:List D->Option Str)(f:Addr)(fd:FuncData):Prop where
 ok:Vj P w K mg base (Zpd P w base) k f fd ps (spX K ad G)
 mg:mg x=some (.ref f)
 kp:PySem.W.keepIn K (.ref f)=true
 bi:Zbe K fd ps []
theorem Za2{k m:Nat}{y:Str}{f:Addr}{fd:FuncData}{ps:List Str}{G:List D->Option Str}{p pos:Pos}{e:Expr}{es:List Expr}{fa:FA}(x:XL X E)(o:VM X.prog X.w X.K X.mg X.base ad y k ps G f fd)(hr:XD m X.A)(ha:AV X (e::es) fa)(hle:k<=m:=by decide)
  (hg:Gl X y:=by rfl) (hdb:(y == ("__debug__":Str))=false:=by decide) (he:starEach (e::es) X.env=(false,eval e X.env)::starEach es X.env:=by rfl) (hpl:(backTo pos (starEach es X.env)).any (·.1)=false:=by rfl) :
  XE X ad E (.Call (.Name y p) (e::es) [] pos) (xL G fa):=PE.imp (Zf5 (dvs:=[]) (E:=E) o.ok (hr.mono hle) hg o.mg o.kp o.bi .nil (Zu8 x) ha hdb he hpl) fun σ H Q h=>by
 obtain⟨O,ρ,c,rv,e1,hE⟩:=h
 obtain⟨ds,e2,e3⟩:=bind_some e1
 refine⟨O,ρ,ds,rv,e2,fun vs H1 s1 r1=>?_⟩
 refine⟨O,ds,c,rv.th.mono s1,?_,e3,fun H' s'=>hE H' (Zf.trans s1 s')⟩
 rw[Q9];exact r1
end
theorem Zql{K:PySem.W.Frag}{H:Hp}{O:List Addr}{N ps:List Str}{ds:List D}{vs:List V}(hpl:ps.length<=N.length)(hl:ds.length=ps.length)(th:YG O H)(rs:Zr K (mask O H) ds vs):RS K H O [] H (YB ps.length N.length ds) (start N vs):=by
 have hvl:vs.length=ps.length:=by rw[rs.length];exact hl
 have hno:∀(i:Nat) (d':D),(YB ps.length N.length ds)[i]?≠some (some (.own d')):=by
  intro i d' z
  unfold YB at z
  by_cases hi:i<ds.length
  ·rw[QH (by simpa using hi)]at z
   obtain⟨e',g1,g2⟩:=map_get z
   cases g2
  ·rw[Jb (by simpa using hi),Ja]at z
   split at z<;>cases z
 refine⟨?_,(Zf.refl _),th,fun a m=>(by cases m),fun a m=>(by cases m),fun i d' q'=>?_,fun i d' q'=>(hno _ _ q').elim,fun i j d1 d2 a q1=>(hno _ _ q1).elim⟩
 ·unfold YB start;simp[hl,hvl]
 ·unfold YB at q'
  by_cases hi:i<ds.length
  ·rw[QH (by simpa using hi)]at q'
   obtain⟨e',g1,g2⟩:=map_get q'
   cases g2
   obtain⟨v,g3,g4⟩:=rs.get g1
   refine⟨v,?_,by rw[Q9];exact g4⟩
   unfold start
   rw[QH (by rw[Qd,rs.length];exact hi),QC,g3];rfl
  ·rw[Jb (by simpa using hi),Ja]at q'
   split at q'<;>cases q'
theorem Vh{P:Program}{w:World}{K:PySem.W.Frag}{mg:Str->Option Value}{base:Heap}{ad:Str->Addr}{x qual:Str}{st:Stmt}{f:Addr}{fd:FuncData}{N ps:List Str}{k n m:Nat}{F:FX}{G:List D->Option Str}(Fu:W3 K x qual st f fd)(S:ZK N ps (Zn st))(hn:ps.length=n)(hm:N.length=m)(hG:G=Wh n m F)
  (h:∀(cdv:Value) (A:Around) (outer:List Env) (s:Shared) (H:Hp) (E:XK),XD k (A.deeper (envOfC qual (Zn st) s.heap.objs.size f cdv))->XL (Zef (Zpd P w base) P w K mg base N qual (Zn st) f cdv A outer s H E) E ->
   Zt0 (Zef (Zpd P w base) P w K mg base N qual (Zn st) f cdv A outer s H E) ad E (XQ st) F) :
  Vj P w K mg base (Zpd P w base) (k+1) f fd ps (spX K ad G):=by
 subst hn hm hG
 have hpl:ps.length<=N.length:=by have:=congrArg List.length S.pre;rw[QL]at this;omega
 obtain⟨oc,od,kV,doc,pm,an,cdv,ct,osl,rfl,lk,hcd⟩:=Fu.ex
 have hlen:∀{ds:List D} {c:Str},Wh ps.length N.length F ds=some c->ds.length=ps.length/\F (YB ps.length N.length ds)=some c:=fun{ds c} e=>by
  unfold Wh at e
  split at e
  ·rename_i hl;exact⟨hl,e⟩
  ·cases e
 refine Zxq lk hcd S (fun vs H Q E hs=>?_) fun A outer s H vs Q E hr hs=>?_
 ·obtain⟨O,ds,c,th,rs,e,_⟩:=hs
  rw[rs.length];exact(hlen e).1
 ·obtain⟨O,ds,c,th,rs,e,q⟩:=hs
  refine⟨_,h cdv A outer s H E hr ⟨rfl,rfl,rfl,rfl⟩,?_⟩
  exact⟨H,O,[],YB ps.length N.length ds,c,Zql hpl (hlen e).1 th rs,(hlen e).2,fun H' s'=>q H' s'⟩
section
variable{X:Cx}{pos:Pos}
def Z0a:D->D->Option D
 |x,.lst ds=>if(Zmn x&&ds.all Zmn)=true then some (.bl (ds.any fun d=>PyData.eqv (Ya d) (Ya x))) else none
 |_,_=>none
theorem Zmk(hu:X.A.units+64<cLine):VC X (compareOp .In) Z0a:=by
 intro pins s σ H x y v u Q I rx ry h
 obtain⟨O,dx,dy,d,th,r1,r2,e,q⟩:=h
 have ee:∃ds,dy=.lst ds:=by cases dy<;>first|exact⟨_,rfl⟩|(cases e;done)
 obtain⟨ds,rfl⟩:=ee
 have e:(if(Zmn dx&&ds.all Zmn)=true then some (D.bl (ds.any fun d=>PyData.eqv (Ya d) (Ya dx))) else none)=some d:=e
 split at e
 ·rename_i hk
  cases e
  obtain⟨k1,k2⟩:=Bool.and_eq_true_iff.mp hk
  obtain⟨a1,b1⟩:=Zkq k1
  obtain⟨p,vs,rfl,hp,rp⟩:=r2
  cases ry
  obtain⟨as,q1⟩:=Wu I dx x v a1 (YJ.mono Zi dx x r1) rx
  obtain⟨its,rv,pl,hz⟩:=I.list (WH.of (Zi _ _ hp))
  obtain⟨g1,g2⟩:=Zh6 I (Ya dx) ds vs its k2 (Zr.mono Zi ds vs rp) rv
  refine SeqAt.in_listAt (eqP s (Ya dx)) pl.isList (fun w hw=>?_) ⟨.bl _,H,I,rfl,?_⟩
  ·obtain⟨d,as',o1,rd⟩:=g1 w (by simpa using hw)
   obtain⟨c1,c2⟩:=Zkq o1
   rw[Zs4 rd c1]
   refine SeqAt.eqAt_reads (Ya d) (Ya dx) X.A.in1 s w v as' as rd q1 c1 a1 ?_
   show X.A.units+1+min (Ya d).depth (Ya dx).depth<cLine
   omega
  ·rw[show its.toArray.any (eqP s (Ya dx))=its.any (eqP s (Ya dx)) by simp,g2]
   exact q _ H (Zf.refl _) rfl
 ·cases e
end
section
variable{X:Cx}{pos:Pos}
theorem Zjz{ad:Str->Addr}{E:XK}{i:Nat}{x:Str}{e:Expr}{f:Zd3}{pos':Pos}(hN:X.N.Nodup)(h:XE X ad E e f)(hi:X.N[i]?=some x:=by rfl)(hx:Zpc X.env.scope x:=by first|exact Or.inl rfl|exact Or.inr rfl)(hs:swapsWith e (some (.Name x pos')) pos.line X.env=pure false:=by rfl)
  (hf:X.fn x=true\/X.env.scope.names.lookup x=some .local:=by first|exact .inl rfl|exact .inr rfl):XS X ad E (.Assign [.Name x pos'] e pos) (WR f):=PS.imp (Zam hN hi hx h hs hf) fun D σ H h=>by
 obtain⟨B,O0,O1,ρ,c,r,e,hE⟩:=h
 exact⟨O0,YF ρ,c,r.all,e,fun H' s=>hE H' (Zf.trans r.same s)⟩
end
end L2

namespace M
def noCol(p:Nat)(rows:List (List Int)):List (List Int):=rows.map fun r=>r.take p++r.drop (p+1)
def Zt1(p:Nat)(rows:List (List Int))(col:List Int):List (List Int):=(rows.zip col).map fun x=>x.1.take p++[x.2]++x.1.drop (p+1)
mutual
def detN:Nat->List (List Int)->Int
 |0,_=>1
 |_+1,[]=>1
 |k+1,r::rs=>Ztc k rs r 0 1
def Ztc:Nat->List (List Int)->List Int->Nat->Int->Int
 |_,_,[],_,_=>0
 |k,rs,x::r,p,sg=>sg*x*detN k (noCol p rs)+Ztc k rs r (p+1) (-sg)
end
def det(rows:List (List Int)):Int:=detN rows.length rows
mutual
def T(L:Nat->Nat->Int):Nat->List Nat->(Nat->Int)->Int
 |0,_,_=>1
 |m+1,vs,s=>Trow L m [] vs s
def Trow(L:Nat->Nat->Int):Nat->List Nat->List Nat->(Nat->Int)->Int
 |_,_,[],_=>0
 |m,pre,v::post,s=>s v*T L m (pre++post) (fun i=>(if i∈pre then 0 else s i)+L v i)+Trow L m (pre++[v]) post s
end
section
variable{L:Nat->Nat->Int}(nn:∀i j,0<=L i j)
include nn
def Cut(L:Nat->Nat->Int)(vs:List Nat)(s:Nat->Int):Prop:=∀A:Nat->Bool,(∃i,i∈vs/\A i=true)->∃i,i∈vs/\A i=true/\(0<s i\/∃j,j∈vs/\A j=false/\0<L i j)
end
end M

namespace M
def ent(n:Nat)(L:Nat->Nat->Int)(i j:Nat):Int:=if j=i then S n (L i) else-L i j
def Zqm(n:Nat)(L:Nat->Nat->Int)(vs:List Nat):List (List Int):=vs.map fun i=>vs.map fun j=>ent n L i j
def part(n:Nat)(L:Nat->Nat->Int)(vs:List Nat)(col:Nat->Int)(k:Nat):Int:=det (Zt1 k (Zqm n L vs) (vs.map col))
structure Good(n:Nat)(L:Nat->Nat->Int)(q:Nat)(vs:List Nat):Prop where
 net:Net n L
 le4:∀i j,L i j<=4
 hq:q<n
 nd:vs.Nodup
 qn:q∉vs
 lt:∀i∈vs,i<n
 sp:∀f:Nat->Int,S n f=f q+(vs.map f).sum
section
variable{n:Nat}{L:Nat->Nat->Int}{q:Nat}
end
end M

namespace M
structure Gd(n:Nat)(L:Nat->Nat->Int):Prop where
 net:Net n L
 le4:∀i j,L i j<=4
 pos:1<=n
 le5:n<=5
 par:∀y,1<=y->y<n->∃x,x<y/\0<L x y
theorem Zxj{P:Nat->Prop}:∀(n:Nat),P n->∃m,m<=n/\P m/\∀k,k<m->¬P k
 |n,h=>by
  induction n using Nat.strongRecOn with
  |_ n ih =>
   by_cases e:∃k,k<n/\P k
   ·obtain⟨k,hk,pk⟩:=e
    obtain⟨m,hm,h1,h2⟩:=ih k hk pk
    exact⟨m,by omega,h1,h2⟩
   ·exact⟨n,Qg _,h,fun k hk pk=>e ⟨k,hk,pk⟩⟩
section
variable{n:Nat}{L:Nat->Nat->Int}{q:Nat}
theorem Gd.cross(g:Gd n L)(A:Nat->Bool)(h1:∃i,i<n/\A i=true)(h2:∃i,i<n/\A i=false):∃i j,i<n/\j<n/\A i=true/\A j=false/\0<L i j:=by
 cases a0:A 0 with
 |false =>
  obtain⟨i,hi,ai⟩:=h1
  obtain⟨m,hm,am,hl⟩:=Zxj (P:=fun y=>A y=true) i ai
  have m1:1<=m:=by
   cases m with
   |zero=>rw[a0]at am;cases am
   |succ m=>omega
  obtain⟨x,hx,lx⟩:=g.par m m1 (by omega)
  have ax:A x=false:=by simpa using hl x hx
  exact⟨m,x,by omega,by omega,am,ax,by rw[g.net.sym m x (by omega) (by omega)];exact lx⟩
 |true =>
  obtain⟨i,hi,ai⟩:=h2
  obtain⟨m,hm,am,hl⟩:=Zxj (P:=fun y=>A y=false) i ai
  have m1:1<=m:=by
   cases m with
   |zero=>rw[a0]at am;cases am
   |succ m=>omega
  obtain⟨x,hx,lx⟩:=g.par m m1 (by omega)
  have ax:A x=true:=by simpa using hl x hx
  exact⟨x,m,by omega,by omega,ax,am,lx⟩
theorem Gd.cut(g:Gd n L)(hq:q<n):Cut L (Zap n q) (fun i=>L i q):=by
 intro A ⟨x,hx,ax⟩
 have mx:=UL.mp hx
 obtain⟨i,j,hi,hj,ai,aj,lt⟩:=g.cross (fun y=>A y&&decide (y≠q)) ⟨x,mx.1,by simp[ax,mx.2]⟩ ⟨q,hq,by simp⟩
 simp only[Qq,decide_eq_true_eq]at ai
 refine⟨i,UL.mpr ⟨hi,ai.2⟩,ai.1,?_⟩
 by_cases e:j=q
 ·subst e;exact .inl lt
 ·exact .inr ⟨j,UL.mpr ⟨hj,e⟩,by simpa [e] using aj,lt⟩
def VO(n:Nat)(L:Nat->Nat->Int)(q:Nat):Int:=det (Zqm n L (Zap n q))
def num(n:Nat)(L:Nat->Nat->Int)(q:Nat)(col:Nat->Int)(i:Nat):Int:=match(Zap n q).idxOf? i with
 |some k=>part n L (Zap n q) col k
 |none=>0
end
end M

namespace M
section
variable{n:Nat}{L:Nat->Nat->Int}{q:Nat}{d:Nat->Int}
end
end M

namespace P
open PySem L2
noncomputable def Ue:FS :=
 (ZX (Zos (f1 (Zgl "int") (fV 0)) (Z0r (f1 (Zgl "bool") (fV 0)))))
noncomputable def YW:List D->Option D:=YZ 1 1 Ue
noncomputable def Xu(YW:List D->Option D):FS :=
 (ZX (Zos (fL YW (Za (fV 0) fN)) (V4 (Z1 fun i j=>.bl (decide (i<=j))) (Z1 fun i j=>.bl (decide (i<=j))) (fV 1) (fV 0) (fV 2))))
noncomputable def Zs:List D->Option D:=YZ 3 3 (Xu YW)
noncomputable def Ug(Zs:List D->Option D):FS :=
 (Zp (XB (WZ (WG (WY (f1 (Zgl "tuple") (fV 1)))) (gB (f2 XU (fL Zc2 (Za (fV 1) fN)) (fC (.int 3))))) (ZX (fC (.bl false))) XF)
 (Zp (XB (WG (WY (fL Zs (Za (f2 YC (fV 1) (fC (.int 0))) (Za (fC (.int 0)) (Za (f2 (Z1 fun i j=>.int (i-j)) (fV 0) (fC (.int 1))) fN)))))) (ZX (fC (.bl false))) XF)
 (ZX (Zos (fL Zs (Za (f2 YC (fV 1) (fC (.int 1))) (Za (f2 ZT (f2 YC (fV 1) (fC (.int 0))) (fC (.int 1))) (Za (f2 (Z1 fun i j=>.int (i-j)) (fV 0) (fC (.int 1))) fN)))) (fL Zs (Za (f2 YC (fV 1) (fC (.int 2))) (Za (fC (.int 1)) (Za (fC (.int 4)) fN))))))))
noncomputable def YO:List D->Option D:=YZ 2 2 (Ug Zs)
noncomputable def Uf:FS :=
 (Zp (Zqi 2 0 true)
 (Zp (Uw (fR Zak (Za (fV 0) fN)) (gN 3) (VJ (ZE (fV 1)) (gT [4,5,6]) (XB (WZ (gB (f2 UP (fV 4) (fV 2))) (gB (f2 UP (fV 5) (fV 2)))) (Zp (Xa 2 (fV 4) (fC (.bl true)))
 (Xa 2 (fV 5) (fC (.bl true)))) XF)))
 (ZX (f2 YE (fL Zms (Za (fV 2) fN)) (fV 0)))))
noncomputable def YX:List D->Option D:=YZ 2 7 Uf
noncomputable def Zaz:FS :=
 (ZX (fL Zbj (Za (Z7 2 [] (Z0q (fV 0) (Zgr (fV 0) (pS (fC (.int 1))) pN)) (gT [0,1]) Y5 (f2 WU (Zgr (fV 0) pN (pS (fC (.int 2)))) (Zgr (fV 1) pN (pS (fC (.int 2)))))) fN)))
noncomputable def Xy:List D->Option D:=YZ 1 1 Zaz
noncomputable def Wb(Zs YO YX Xy:List D->Option D):FS :=
 (Zp (XB (WZ (WG (WY (f1 (Zgl "tuple") (fV 0)))) (gB (f2 XU (fL Zc2 (Za (fV 0) fN)) (fC (.int 2))))) (ZX (fC (.bl false))) XF)
 (Zp (Zz 1 (f2 YC (fV 0) (fC (.int 0))))
 (Zp (Zz 2 (f2 YC (fV 0) (fC (.int 1))))
 (Zp (XB (WZ (WG (WY (fL Zs (Za (fV 1) (Za (fC (.int 1)) (Za (fC (.int 5)) fN)))))) (WG (WY (f1 (Zgl "tuple") (fV 2))))) (ZX (fC (.bl false))) XF)
 (Zp (XB (WG (WY (fL Zbj (Za (Z7 1 [1] (ZE (fV 2)) (gN 0) Y5 (fL YO (Za (fV 1) (Za (fV 0) fN)))) fN)))) (ZX (fC (.bl false))) XF)
 (ZX (Zos (fL Xy (Za (fV 2) fN)) (fL YX (Za (fV 1) (Za (fV 2) fN))))))))))
noncomputable def Zt:List D->Option D:=YZ 1 3 (Wb Zs YO YX Xy)
noncomputable def Za0(Zt:List D->Option D):FS :=
 (Zp (XB (WG (WY (fL Zt (Za (fV 0) fN)))) Zaj XF)
 (ZX (fV 0)))
noncomputable def Xz:List D->Option D:=YZ 1 1 (Za0 Zt)
noncomputable def WE:FS :=
 (Zp (XB (gB (f2 WU (fV 1) (fL Zc2 (Za (fV 0) fN)))) (ZX (f2 YC (fV 0) (fV 1))) XF)
 (Zp (XB (gB (f2 YE (fV 0) (fL XH fN))) (ZX (fC (.int 0))) XF)
 (ZX (f2 ZT (f2 XV (f2 YC (fV 0) (f2 XW (fV 1) (fL Zc2 (Za (fV 0) fN)))) (fC (.int 31))) (fV 1)))))
noncomputable def Ys:List D->Option D:=YZ 2 2 WE
noncomputable def VD(Ys:List D->Option D):FS :=
 (Zp (Zz 3 (f2 XW (f2 XV (f2 ZT (f2 ZT (fL Ys (Za (fV 0) (Za (fV 1) fN))) (f2 XV (fC (.int 7919)) (fV 1))) (fC (.int 1))) (fC (.int 48271))) (fC (.int 2147483647))))
 (ZX (f2 XW (f2 XW (f2 ZT (f2 ZT (f2 XV (fV 3) (fV 3)) (f2 XV (fC (.int 7)) (fV 3))) (fV 1)) (fC (.int 2147483629))) (fV 2))))
noncomputable def Zk:List D->Option D:=YZ 3 4 (VD Ys)
noncomputable def W5(Zk:List D->Option D):FS :=
 (Zp (Zz 3 (f2 ZT (fC (.int 1)) (fL Zk (Za (fV 0) (Za (fV 1) (Za (fV 2) fN))))))
 (Zp (Zqh 4)
 (Zp (Uw (fR Zkh (Za (fC (.int 1)) (Za (fV 3) fN))) (gN 5) (Xa 4 (fL Y4 (Za (fL Zk (Za (fV 0) (Za (f2 ZT (fV 1) (fV 5)) (Za (fV 5) fN)))) (Za (fV 5) fN))) (f2 ZT (fC (.int 1)) (f2 VH (fL Zk (Za (fV 0) (Za (f2 ZT (f2 ZT (fV 1) (fC (.int 5))) (fV 5)) (Za (fC (.int 5)) fN)))) (fC (.int 3))))))
 (Zp (Uw (fR Zak (Za (f2 XV (fL Zk (Za (fV 0) (Za (f2 ZT (fV 1) (fC (.int 10))) (Za (fC (.int 4)) fN)))) (fL Zau (Za (f2 (Z1 fun i j=>.bl (decide (j<i))) (fV 3) (fC (.int 1))) fN))) fN)) (gN 6) (Zp (Zz 7 (fL Zk (Za (fV 0) (Za (f2 ZT (f2 ZT (fV 1) (fC (.int 11))) (f2 XV (fC (.int 2)) (fV 6))) (Za (fV 3) fN)))))
 (Zp (Zz 8 (f2 XW (f2 ZT (f2 ZT (fV 7) (fC (.int 1))) (fL Zk (Za (fV 0) (Za (f2 ZT (f2 ZT (fV 1) (fC (.int 12))) (f2 XV (fC (.int 2)) (fV 6))) (Za (f2 (Z1 fun i j=>.int (i-j)) (fV 3) (fC (.int 1))) fN))))) (fV 3)))
 (Zp (Zz 9 (fL Y4 (Za (fL Zim (Za (fV 7) (Za (fV 8) fN))) (Za (fL Zin (Za (fV 7) (Za (fV 8) fN))) fN))))
 (Xa 4 (fV 9) (f2 ZT (f2 XW (Zor (fV 4) (fV 9) (fC (.int 0))) (fC (.int 4))) (fC (.int 1))))))))
 (ZX (fL Y4 (Za (fV 3) (Za (fL VQ (Za (Z7 1 [4] (ZE (fL Vp (Za (fL Zgg (Za (fV 4) fN)) fN))) (gN 0) Y5 (f2 ZT (fV 0) (fL Y4 (Za (f2 Z02 (fV 1) (fV 0)) fN)))) fN)) fN))))))))
noncomputable def Yb:List D->Option D:=YZ 3 10 (W5 Zk)
noncomputable def Ui(Zk:List D->Option D):FS :=
 (ZX (fL VQ (Za (Z7 1 [0,1,3] (fR Zak (Za (fV 2) fN)) (gN 0) Y5 (f2 (Z1 fun i j=>.int (i-j)) (fL Zk (Za (fV 1) (Za (f2 ZT (fV 2) (fV 0)) (Za (f2 ZT (f2 XV (fC (.int 2)) (fV 3)) (fC (.int 1))) fN)))) (fV 3))) fN)))
noncomputable def Yk:List D->Option D:=YZ 4 4 (Ui Zk)
end P

namespace L2
open PySem HT
theorem Zay{α:Type}{xs:List α}{i:Int}{x:α}(h0:0<=i)(h:xs[i.toNat]?=some x):VI xs i=some x:=by
 have hl:i.toNat<xs.length:=(Qj.mp h).1
 unfold VI Zr6
 rw[if_pos h0,if_pos (by omega)]
 exact h
mutual
def dk:D->Bool
 |.non=>true
 |.int _=>true
 |.str x=>PyData.strOk x
 |.tup ds=>Zlj ds
 |.lst ds=>Zlj ds
 |_=>false
def Zlj:List D->Bool
 |[]=>true
 |d::ds=>dk d&&Zlj ds
end
mutual
def UD:D->Nat
 |.tup ds=>V6 ds+1
 |.lst ds=>V6 ds+1
 |_=>0
def V6:List D->Nat
 |[]=>0
 |d::ds=>max (UD d) (V6 ds)
end
mutual
theorem Zlk:∀d:D,dk d=true->(Ya d).canLay0=true/\(Ya d).depth=UD d
 |.non,_=>by simp[Ya,PyData.canLay0,PyData.depth,UD]
 |.int _,_=>by simp[Ya,PyData.canLay0,PyData.depth,UD]
 |.str x,h=>by simp[dk]at h;simp[Ya,PyData.canLay0,PyData.depth,UD,h]
 |.tup ds,h=>by
  have:=Zgw ds (by simpa [dk] using h)
  simp[Ya,PyData.canLay0,PyData.depth,UD,this.1,this.2]
 |.lst ds,h=>by
  have:=Zgw ds (by simpa [dk] using h)
  simp[Ya,PyData.canLay0,PyData.depth,UD,this.1,this.2]
 |.bl _,h=>by simp[dk]at h
 |.scr _,h=>by simp[dk]at h
 |.dcK _ _,h=>by simp[dk]at h
 |.dcT _ _,h=>by simp[dk]at h
 |.dcF _ _,h=>by simp[dk]at h
theorem Zgw:∀ds:List D,Zlj ds=true->PyData.canLayAll0 (XT ds)=true/\PyData.depthAll (XT ds)=V6 ds
 |[],_=>by simp[XT,PyData.canLayAll0,PyData.depthAll,V6]
 |d::ds,h=>by
  simp[Zlj]at h
  have a:=Zlk d h.1
  have b:=Zgw ds h.2
  simp[XT,PyData.canLayAll0,PyData.depthAll,V6,a.1,a.2,b.1,b.2]
end
mutual
theorem Zll:∀(d e:D),dk d=true->dk e=true->(PyData.eqv (Ya d) (Ya e)=true↔d=e)
 |.non,e,_,he=>by cases e<;>simp_all[Ya,PyData.eqv,dk]
 |.int _,e,_,he=>by cases e<;>simp_all[Ya,PyData.eqv,dk]
 |.str _,e,_,he=>by cases e<;>simp_all[Ya,PyData.eqv,dk]
 |.tup ds,e,hd,he=>by
  cases e with
  |tup es =>
   have:=Zgx ds es (by simpa [dk] using hd) (by simpa [dk] using he)
   simp only[Ya,PyData.eqv,this,D.tup.injEq]
  |_=>simp_all[Ya,PyData.eqv,dk]
 |.lst ds,e,hd,he=>by
  cases e with
  |lst es =>
   have:=Zgx ds es (by simpa [dk] using hd) (by simpa [dk] using he)
   simp only[Ya,PyData.eqv,this,D.lst.injEq]
  |_=>simp_all[Ya,PyData.eqv,dk]
 |.bl _,_,h,_=>by simp[dk]at h
 |.scr _,_,h,_=>by simp[dk]at h
 |.dcK _ _,_,h,_=>by simp[dk]at h
 |.dcT _ _,_,h,_=>by simp[dk]at h
 |.dcF _ _,_,h,_=>by simp[dk]at h
theorem Zgx:∀(ds es:List D),Zlj ds=true->Zlj es=true->(PyData.eqvAll (XT ds) (XT es)=true↔ds=es)
 |[],es,_,_=>by cases es<;>simp[XT,PyData.eqvAll]
 |d::ds,es,hd,he=>by
  cases es with
  |nil=>simp[XT,PyData.eqvAll]
  |cons e es =>
   simp[Zlj]at hd he
   have a:=Zll d e hd.1 he.1
   have b:=Zgx ds es hd.2 he.2
   simp only[XT,PyData.eqvAll,Qq,a,b,Jx]
end
theorem Zga{d:D}(h:dk d=true)(h2:UD d<=64):Zvd d=true:=by
 unfold Zvd
 have:=Zlk d h
 rw[this.1,this.2]
 simpa using h2
open Classical in
theorem Ur{d e:D}(hd:dk d=true)(he:dk e=true)(d2:UD d<=64)(e2:UD e<=64):YE d e=some (.bl (decide (d=e))):=by
 unfold YE
 rw[Zga hd d2,Zga he e2]
 have:=Zll d e hd he
 simp only[Bool.and_self,if_true]
 congr 2
 by_cases h:d=e
 ·rw[this.mpr h];simp[h]
 ·have h':PyData.eqv (Ya d) (Ya e)=false:=by
   cases q:PyData.eqv (Ya d) (Ya e) with
   |false=>rfl
   |true=>exact absurd (this.mp q) h
  rw[h'];simp[h]
open Classical in
theorem Zgc{d e:D}(hd:dk d=true)(he:dk e=true)(d2:UD d<=64)(e2:UD e<=64):XU d e=some (.bl (decide (d≠e))):=by
 have:=Ur hd he d2 e2
 unfold YE at this
 unfold XU
 rw[Zga hd d2,Zga he e2]at this ⊢
 simp only[Bool.and_self,if_true,Option.some.injEq,D.bl.injEq]at this ⊢
 rw[this]
 by_cases h:d=e<;>simp[h]
theorem YD(i j:Int):YE (.int i) (.int j)=some (.bl (decide (i=j))):=by
 rw[Ur rfl rfl (Q1 _) (Q1 _)]
 by_cases h:i=j<;>simp[h]
theorem Wv(i j:Int):XU (.int i) (.int j)=some (.bl (decide (i≠j))):=by
 rw[Zgc rfl rfl (Q1 _) (Q1 _)]
 by_cases h:i=j<;>simp[h]
theorem Vi:∀is:List Int,Zlj (is.map D.int)=true
 |[]=>rfl
 |i::is=>by simp[Zlj,dk,Vi is]
theorem Wp:∀is:List Int,V6 (is.map D.int)=0
 |[]=>rfl
 |i::is=>by simp[V6,UD,Wp is]
theorem V1{a b:List Int}:a.map D.int=b.map D.int↔a=b:=by
 constructor
 ·intro h
  induction a generalizing b with
  |nil=>cases b with
   |nil=>rfl
   |cons x b=>cases h
  |cons x a ih=>cases b with
   |nil=>cases h
   |cons y b =>
    simp only[Qh,Jx,D.int.injEq]at h
    rw[h.1,ih h.2]
 ·intro h;rw[h]
theorem Zov(a b:List Int):YE (.tup (a.map .int)) (.tup (b.map .int))=some (.bl (decide (a=b))):=by
 rw[Ur (by simp[dk,Vi]) (by simp[dk,Vi]) (by simp[UD,Wp]) (by simp[UD,Wp])]
 by_cases h:a=b<;>simp[h,V1]
theorem Zow(a b:List Int):YE (.lst (a.map .int)) (.lst (b.map .int))=some (.bl (decide (a=b))):=by
 rw[Ur (by simp[dk,Vi]) (by simp[dk,Vi]) (by simp[UD,Wp]) (by simp[UD,Wp])]
 by_cases h:a=b<;>simp[h,V1]
theorem Zs6(ns:List Int):YE (.scr ns) (.lst [])=some (.bl (decide (ns=[]))):=by
 have e:∀ns:List Int,XT (ns.map D.int)=ns.map PyData.int:=by
  intro ns
  induction ns with
  |nil=>rfl
  |cons n ns ih=>simp[XT,Ya,ih]
 have h:=Zow ns []
 have e2:Ya (.scr ns)=Ya (.lst (ns.map .int)):=by simp[Ya,e]
 unfold YE Zvd at h ⊢
 rw[e2]
 exact h
theorem Zzt(ds:List D):Zc2 [.tup ds]=some (.int ds.length):=rfl
theorem Zru(ds:List D):Zc2 [.lst ds]=some (.int ds.length):=rfl
theorem Zzu(ds:List Int):Zc2 [.scr ds]=some (.int ds.length):=rfl
theorem ixD_t(ds:List D)(i:Int):YC (.tup ds) (.int i)=VI ds i:=rfl
theorem Zix(ds:List D)(i:Int):YC (.lst ds) (.int i)=VI ds i:=rfl
theorem ixD_s(ds:List Int)(i:Int):YC (.scr ds) (.int i)=(VI ds i).map D.int:=rfl
theorem Zm7(i j:Int):ZT (.int i) (.int j)=some (.int (i+j)):=rfl
theorem Yl(F G:FS)(ρ:XR):Zp F G ρ=Zn0 (F ρ) G:=rfl
theorem ZW(ρ:XR)(G:FS):Zn0 (.nx ρ) G=G ρ:=rfl
theorem Zvf(d:D)(G:FS):Zn0 (.rt d) G=.rt d:=rfl
theorem Zjg{α:Type}{t:FG}{gt:FT}{fe:FE}{ρ:Xl}(Zhg:α->D)(p:α->Bool)(g:α->D):∀xs:List α,(∀x∈xs,∃ws,t (Zhg x)=some ws/\gt (WF ρ ws)=some (p x)/\(p x=true->fe (WF ρ ws)=some (g x))) ->
  Zae t gt fe ρ (xs.map Zhg)=some ((xs.filter p).map g)
 |[],_=>rfl
 |x::xs,h=>by
  obtain⟨ws,h1,h2,h3⟩:=h x Qf
  have ih:=Zjg Zhg p g xs fun y hy=>h y (Qe _ hy)
  rw[Qh]
  unfold Zae
  rw[h1]
  simp only[QB]
  rw[h2]
  simp only[QB]
  cases hp:p x with
  |true=>rw[if_pos rfl,h3 hp,ih];simp[hp]
  |false=>rw[if_neg (by decide),ih];simp[hp]
theorem Zs1{α:Type}{n:Nat}{ix:List Nat}{fi:FA}{t:FG}{gt:FT}{fe:FE}{ρ:Xl}(Zhg:α->D)(p:α->Bool)(g:α->D)(xs:List α)(h:fi ρ=some (xs.map Zhg))(hl:xs.length<=65536)
  (h2:∀x∈xs,∃ws,t (Zhg x)=some ws/\gt (WF (env0 n ix ρ) ws)=some (p x)/\(p x=true->fe (WF (env0 n ix ρ) ws)=some (g x))):Z7 n ix fi t gt fe ρ=some (.lst ((xs.filter p).map g)):=by
 unfold Z7
 rw[h]
 simp only[QB]
 rw[if_pos (by rw[Qd];exact hl),Zjg Zhg p g xs h2]
 rfl
theorem Yv{α:Type}{n:Nat}{ix:List Nat}{fi:FA}{t:FG}{fe:FE}{ρ:Xl}(Zhg:α->D)(g:α->D)(xs:List α)(h:fi ρ=some (xs.map Zhg))(hl:xs.length<=65536)
  (h2:∀x∈xs,∃ws,t (Zhg x)=some ws/\fe (WF (env0 n ix ρ) ws)=some (g x)):Z7 n ix fi t Y5 fe ρ=some (.lst (xs.map g)):=by
 rw[Zs1 Zhg (fun _=>true) g xs h hl fun x hx=>let⟨ws,a,b⟩:=h2 x hx;⟨ws,a,rfl,fun _=>b⟩]
 rw[List.filter_eq_self.mpr fun _ _=>rfl]
theorem U4{n:Nat}(h:n<=65536):Zak [.int (n:Int)]=some ((List.range n).map fun k=>D.int (k:Nat)):=by
 unfold Zak
 dsimp only
 rw[if_pos (by constructor<;>omega)]
 unfold VS
 rw[QF]
 congr 1
 exact QW fun k _=>by rw[Int.zero_add]
theorem Zl5{j:Int}(h0:0<=j)(h:j<=65536):Zak [.int j]=some ((List.range j.toNat).map fun k=>D.int (k:Nat)):=by
 have:=U4 (n:=j.toNat) (by omega)
 rwa[show((j.toNat:Nat):Int)=j by omega]at this
theorem Zun{i j:Int}(h0:0<=i)(h1:i<=65536)(h2:0<=j)(h:j<=65536):Zkh [.int i,.int j]=some ((List.range (j-i).toNat).map fun(k:Nat)=>D.int (i+(k:Int))):=by
 unfold Zkh
 dsimp only
 rw[if_pos (by refine⟨⟨?_,?_⟩,?_,?_⟩<;>omega)]
 rfl
theorem Zde{t:FG}{F:FS}(P:Nat->XR->Prop):∀(ds:List D) (k:Nat) (ρ:XR),(∀(i:Nat) (d:D) (ρ:XR),ds[i]?=some d->P (k+i) ρ->∃ws ρ',t d=some ws/\F (Zbf ρ ws)=.nx ρ'/\P (k+i+1) ρ')->P k ρ ->
  ∃ρ',Wj t F ds ρ=.nx ρ'/\P (k+ds.length) ρ'
 |[],k,ρ,_,h=>⟨ρ,rfl,h⟩
 |d::ds,k,ρ,step,h=>by
  obtain⟨ws,ρ',h1,h2,h3⟩:=step 0 d ρ rfl h
  obtain⟨ρ2,h4,h5⟩:=Zde P ds (k+1) ρ' (fun i e ρ he hp=>by
   have:=step (i+1) e ρ (by simpa using he) (by rw[show k+(i+1)=k+1+i by omega];exact hp)
   rw[show k+1+i+1=k+(i+1)+1 by omega];exact this) h3
  refine⟨ρ2,?_,by rw[Qp,show k+(ds.length+1)=k+1+ds.length by omega];exact h5⟩
  unfold Wj
  rw[h1]
  dsimp only
  rw[h2]
  exact h4
theorem Zdx(is:List Bool):Zbj [.lst (is.map .bl)]=some (.bl (is.all id)):=by
 simp only[Zbj,Zpa,QB]
end L2

namespace L2
open PySem PySem.Spec PyProof.Rows
structure BU(mg:Str->Option Value):Prop where
 str_:mg "str"=none
 abs_:mg "abs"=none
theorem Wy:bootBuiltins ("str":Str)=some (Value.type "str"):=by decide+kernel
theorem Zir{K:PySem.W.Frag}:Zju K "str":=Zbx (by kernel_rfl) (by kernel_rfl) (by kernel_rfl) (by kernel_rfl) (by kernel_rfl) (by kernel_rfl) (by kernel_rfl)
section
variable{X:Cx}{pos:Pos}
theorem Zgt{x z:Str}(hm:∃t,X.mg x=some (.str z t))(hg:Gl X x:=by rfl)(hd:(x == ("__debug__":Str))=false:=by decide):EV X (.Name x pos) (fC (.str z)):=by
 obtain⟨t,hm⟩:=hm
 exact PE.imp (Zmf (v:=.str z) hg hm ⟨t,rfl⟩ hd) fun σ H Q h=>by obtain⟨O,ρ,d,r,e,k⟩:=h;cases e;exact k _ H (Zf.refl _) rfl
def addS:D->D->Option D
 |.str a,.str b=>if a.length+b.length<=ZN then some (.str (a++b)) else none
 |_,_=>none
theorem Xi:VC X (binaryOp .Add) addS:=VC.of Zkp fun x y H Q h=>by
 obtain⟨O,dx,dy,d,th,rx,ry,e,q⟩:=h
 unfold addS at e
 split at e
 ·split at e
  ·rename_i hl
   cases e
   exact⟨_,_,rx,ry,Z5 hl,q _ H (Zf.refl _) rfl⟩
  ·cases e
 ·cases e
def Zvv:D->D->Option D
 |.str z,.int i=>if z.length<=ZN then(VI z.cps.toList i).bind fun c=>some (.str ⟨#[c]⟩) else none
 |_,_=>none
theorem Zlh{a b:Expr}{fa fb:FE}(ha:EV X a fa)(hb:EV X b fb)(hs:Zhb b:=by exact fun _ _=>rfl):EV X (.Subscript a b pos) (f2 Zvv fa fb):=PE.imp (Zxd Zz3 ha hb hs) fun σ H Q h=>Zcd (fun x y H Q h=>by
 obtain⟨O,dx,dy,d,th,rx,ry,e,q⟩:=h
 unfold Zvv at e
 split at e
 ·split at e
  ·rename_i hl
   obtain⟨c,e1,e⟩:=bind_some e
   cases e
   exact⟨_,_,c,rx,ry,Z5 hl,e1,q _ H (Zf.refl _) rfl⟩
  ·cases e
 ·cases e) h
def Zc1:List D->Option D
 |[.str z]=>if z.length<=ZN then some (.int z.length) else none
 |_=>none
theorem Zaf:YY X (.builtin "len") Zc1:=YY.of Zg4 fun xs H Q h=>by
 obtain⟨O,ds,d,th,rs,e,q⟩:=h
 unfold Zc1 at e
 split at e
 ·split at e
  ·rename_i hl
   cases e
   obtain⟨v,rfl,r⟩:=Zcn rs
   have:v=_:=r
   subst this
   exact⟨_,rfl,Z5 hl,q _ H (Zf.refl _) rfl⟩
  ·cases e
 ·cases e
def Zi0:D->D->Option D
 |.str i,.str j=>some (.bl (!(Builtin.Str.occurrences j i 0 j.length 1).isEmpty))
 |_,_=>none
theorem Zf6:VC X (compareOp .In) Zi0:=VC.of Znx fun x y H Q h=>by
 obtain⟨O,dx,dy,d,th,rx,ry,e,q⟩:=h
 unfold Zi0 at e
 split at e
 ·cases e
  exact⟨_,_,rx,ry,q _ H (Zf.refl _) rfl⟩
 ·cases e
def Vo:List D->Option D
 |[.int i]=>if i.natAbs.log2<1920 then some (.str (toString i)) else none
 |_=>none
theorem Wk:YY X (.type "str") Vo:=YY.of Zg2 fun xs H Q h=>by
 obtain⟨O,ds,d,th,rs,e,q⟩:=h
 unfold Vo at e
 split at e
 ·split at e
  ·rename_i hl
   cases e
   obtain⟨v,rfl,r⟩:=Zcn rs
   have:v=_:=r
   subst this
   exact⟨_,rfl,hl,q _ H (Zf.refl _) rfl⟩
  ·cases e
 ·cases e
def UH:List D->Option (List Str)
 |[]=>some []
 |.str x::ds=>(UH ds).bind fun r=>some (x::r)
 |_=>none
theorem Zhz{K:PySem.W.Frag}{H:Hp}:∀{ds:List D} {xs:List Str} {vs:List V},UH ds=some xs->Zr K H ds vs->vs=xs.map V.str:=by
 intro ds
 induction ds with
 |nil=>intro xs vs e r;cases e;exact r
 |cons d ds ih =>
  intro xs vs e r
  cases d with
  |str x =>
   obtain⟨r',e1,e⟩:=bind_some e
   cases e
   obtain⟨v,vr,rfl,h,t⟩:=r
   have:v=.str x:=h
   subst this
   rw[ih e1 t];rfl
  |_=>cases e
theorem Zew{K:PySem.W.Frag}{H:Hp}:∀xs:List Str,Zr K H (xs.map D.str) (xs.map V.str):=by
 intro xs
 induction xs with
 |nil=>rfl
 |cons x xs ih=>exact⟨_,_,rfl,rfl,ih⟩
theorem Znf:∀{xs:List Str} {us:List Value},ZB (xs.map V.str) us->∃l:List (Str×Tok),us=strValues l/\l.map (·.1)=xs:=by
 intro xs
 induction xs with
 |nil=>intro us r;cases r;exact⟨[],rfl,rfl⟩
 |cons x xs ih =>
  intro us r
  cases r with
  |cons r0 r1 =>
   obtain⟨t,rfl⟩:=r0
   obtain⟨l,rfl,rfl⟩:=ih r1
   exact⟨(x,t)::l,rfl,rfl⟩
theorem Znk:∀l:List (Str×Tok),ZB ((l.map (·.1)).map V.str) (strValues l):=by
 intro l
 induction l with
 |nil=>exact .nil
 |cons p l ih=>exact .cons ⟨p.2,rfl⟩ ih
theorem Zvi:Ztu X "str.join" (fun x xs H Q=>∃z l ts,x=.str z/\xs=[.ref l]/\H l=some (.lst (ts.map V.str))/\JoinOk z ts=true/\Q (.str (Txt.join z ts)) H):=by
 intro pins s σ H x xs v us Q I rx rs h
 obtain⟨z,l,ts,rfl,rfl,hH,ok,q⟩:=h
 obtain⟨t,rfl⟩:=rx
 obtain⟨u,rfl,ru⟩:=Xp rs
 cases ru
 obtain⟨its,rv,pl,hz⟩:=I.list (WH.of hH)
 obtain⟨lt,rfl,et⟩:=Znf rv
 exact SC.join pl.isList et ok fun t' k=>⟨.str _,H,I.tok k,⟨t',rfl⟩,q⟩
def Ve:D->D->Option D
 |.str z,.lst ds=>(UH ds).bind fun ts=>if JoinOk z ts=true then some (.str (Txt.join z ts)) else none
 |_,_=>none
theorem Zb4{o e:Expr}{fo fe:FE}{apos cpos:Pos}(ho:EV X o fo)(he:EV X e fe)(hbase:attributeBase o "join" X.env (eval o X.env)=eval o X.env:=by rfl)
  (hfew:((backTo cpos (starEach [e] X.env)).all (fun x=>!x.1)&&(backToKw cpos (keywordEach [] X.env)).all (fun x=>x.1.isSome)
   && decide (([e]:List Expr).length+([]:List Keyword).length+(if([]:List Keyword).isEmpty then 0 else 1)<30))=true:=by rfl)
  (hline:(apos.endLine == cpos.line)=true:=by rfl) (hs:starEach [e] X.env=(false,eval e X.env)::starEach [] X.env:=by rfl) :
  EV X (.Call (.Attribute o "join" apos) [e] [] cpos) (f2 Ve fo fe) :=
 PE.imp (Zcs JC PySem.F.slot_str_join PySem.F.type_str_join Zvi ho (Ym he Xh hs) hbase hfew hline hs) fun σ H Q h=>by
  obtain⟨O,ρ,d,rv,e,q⟩:=h
  obtain⟨x,e1,e⟩:=bind_some e
  obtain⟨y,e2,e⟩:=bind_some e
  have ee:∃z ds,x=.str z/\y=.lst ds:=by
   cases x<;>first|(cases e;done)|(cases y<;>first|(cases e;done)|exact⟨_,_,rfl,rfl⟩)
  obtain⟨z,ds,rfl,rfl⟩:=ee
  obtain⟨ts,e3,e⟩:=bind_some e
  split at e
  ·rename_i ok
   cases e
   refine⟨O,ρ,_,rv,e1,fun v H1 s1 r1=>?_⟩
   have:v=.str z:=r1
   subst this
   refine⟨rfl,O,ρ,_,rv.mono s1,e2,fun u H2 s2 r2=>?_⟩
   obtain⟨a,vs,rfl,ha,rs⟩:=r2
   cases Zhz e3 rs
   exact⟨z,a,ts,rfl,rfl,Zi _ _ ha,ok,q _ H2 (Zf.trans s1 s2) rfl⟩
  ·cases e
end
section
variable{prog:Program}{w:World}{A:Around}{E:Value->Shared->Prop}{s:Shared}{x y:Str}{t u:Tok}{Q:Value->Shared->Prop}
open Builtin Builtin.Str
theorem Znl(hy:(y.length == 0)=false)(hq:∀(l:List (Str×Tok)) (k:Nat),l.map (·.1)=Txt.split x y->Q (.ref s.heap.objs.size) { s with heap:=s.heap.push { cls:=.type "list",data:=.seq (strValues l).toArray },toks:=k })
  (hsz:x.length<=sizeLine) (hsz2:(partsBetween x (occurrences x y 0 x.length (x.length+1)) y.length).length<=sizeLine):wpAny (model prog w) A (call (.builtin "str.split") [.str x t,.str y u]) Q E s:=by
 cases h1:(decide (x.length<y.length)||decide (strKind x<strKind y))
 ·cases hf:(occurrences x y 0 x.length (x.length+1)).isEmpty
  ·refine call_meets F.slot_str_split (typeIs_str _ _ _) F.entry_str_split (F.args_str_split_2 _ _) (meets_str_split_sep x y t u h1 hy hf hsz hsz2) ?_
   show wants Q E _ { s with toks:=_,heap:=s.heap.push { cls:=.type "list",data:=.seq (strsFrom s.toks (partsBetween x (occurrences x y 0 x.length (x.length+1)) y.length)).toArray } }
   rw[strsFrom_eq]
   exact hq (numbered s.toks _) _ ((numbered_texts _ _).trans ((if_neg (ne_true_of_eq_false h1)).trans (if_neg (ne_true_of_eq_false hf))).symm)
  ·exact call_meets F.slot_str_split (typeIs_str _ _ _) F.entry_str_split (F.args_str_split_2 _ _) (meets_str_split_not_found x y t u h1 hy hf)
    (hq [(x,t)] s.toks ((if_neg (ne_true_of_eq_false h1)).trans (if_pos hf)).symm)
 ·exact call_meets F.slot_str_split (typeIs_str _ _ _) F.entry_str_split (F.args_str_split_2 _ _) (meets_str_split_cannot_occur x y t u h1)
   (hq [(x,t)] s.toks (if_pos h1).symm)
end
section
variable{X:Cx}{pos:Pos}
open Builtin Builtin.Str
theorem Zij:Ztu X "str.split" (fun x xs H Q=>∃z y,x=.str z/\xs=[.str y]/\(y.length == 0)=false/\z.length<=sizeLine/\(partsBetween z (occurrences z y 0 z.length (z.length+1)) y.length).length<=sizeLine/\(Txt.split z y).length<=sizeLine /\
  ∀p,H p=none->Q (.ref p) (Y1 H p (.lst ((Txt.split z y).map V.str)))):=by
 intro pins s σ H x xs v us Q I rx rs h
 obtain⟨z,y,rfl,rfl,hy,h1,h2,h3,q⟩:=h
 obtain⟨t,rfl⟩:=rx
 obtain⟨u,rfl,t',rfl⟩:=Xp rs
 refine Znl hy (fun l k el=>?_) h1 h2
 refine⟨.ref s.heap.objs.size,_,I.laid (t':=k) (o:=.lst ((Txt.split z y).map V.str)) (fun b ob q=>Qb _ q) (Qg _) ?_,rfl,q _ (I.hok.fresh (Qg _))⟩
 rw[<- el]
 exact⟨by rw[Qd,el];exact h3,strValues l,0,Znk l,Qm _ rfl⟩
def Wt:D->D->Option D
 |.str z,.str y=>if(y.length == 0)=false/\z.length<=ZN/\(partsBetween z (occurrences z y 0 z.length (z.length+1)) y.length).length<=ZN/\(Txt.split z y).length<=ZN then some (.lst ((Txt.split z y).map .str)) else none
 |_,_=>none
theorem Zdh{o e:Expr}{fo fe:FE}{apos cpos:Pos}(ho:EV X o fo)(he:EV X e fe)(hbase:attributeBase o "split" X.env (eval o X.env)=eval o X.env:=by rfl)
  (hfew:((backTo cpos (starEach [e] X.env)).all (fun x=>!x.1)&&(backToKw cpos (keywordEach [] X.env)).all (fun x=>x.1.isSome)
   && decide (([e]:List Expr).length+([]:List Keyword).length+(if([]:List Keyword).isEmpty then 0 else 1)<30))=true:=by rfl)
  (hline:(apos.endLine == cpos.line)=true:=by rfl) (hs:starEach [e] X.env=(false,eval e X.env)::starEach [] X.env:=by rfl) :
  EV X (.Call (.Attribute o "split" apos) [e] [] cpos) (f2 Wt fo fe) :=
 PE.imp (Zcs JC PySem.F.slot_str_split PySem.F.type_str_split Zij ho (Ym he Xh hs) hbase hfew hline hs) fun σ H Q h=>by
  obtain⟨O,ρ,d,rv,e,q⟩:=h
  obtain⟨x,e1,e⟩:=bind_some e
  obtain⟨y,e2,e⟩:=bind_some e
  unfold Wt at e
  split at e
  ·split at e
   ·rename_i hk
    cases e
    refine⟨O,ρ,_,rv,e1,fun v H1 s1 r1=>?_⟩
    have:=(show v=V.str _ from r1)
    subst this
    refine⟨rfl,O,ρ,_,rv.mono s1,e2,fun u H2 s2 r2=>?_⟩
    have:=(show u=V.str _ from r2)
    subst this
    refine⟨_,_,rfl,rfl,hk.1,Z5 hk.2.1,Z5 hk.2.2.1,Z5 hk.2.2.2,fun p hp=>q _ _ (Zf.trans (Zf.trans s1 s2) (Zf.new hp)) (Yj (rv.th.mono (Zf.trans s1 s2)) hp (Zew _))⟩
   ·cases e
  ·cases e
theorem Zvh:Ztu X "str.partition" (fun x xs H Q=>∃z y,x=.str z/\xs=[.str y]/\(y.length == 0)=false/\z.length<=sizeLine /\
  ∀p,H p=none->Q (.ref p) (Y1 H p (.tup (match occurrences z y 0 z.length 1 with|i::_=>[.str (strSub z 0 i),.str y,.str (strSub z (i+y.length) z.length)]|[]=>[.str z,.str Str.empty,.str Str.empty])))):=by
 intro pins s σ H x xs v us Q I rx rs h
 obtain⟨z,y,rfl,rfl,hy,h1,q⟩:=h
 obtain⟨t,rfl⟩:=rx
 obtain⟨u,rfl,t',rfl⟩:=Xp rs
 refine call_meets F.slot_str_partition (typeIs_str _ _ _) F.entry_str_partition (F.args_str_partition_2 _ _) (meets_str_partition z y t t' hy h1) ?_
 have q':=q _ (I.hok.fresh (Qg s.heap.objs.size))
 have h3:3<=sizeLine:=by rw[show sizeLine=16777216 from QK];decide
 cases ho:occurrences z y 0 z.length 1 with
 |nil =>
  rw[ho]at q'
  exact⟨.ref s.heap.objs.size,_,I.laid (t':=s.toks+1) (o:=.tup [.str z,.str Str.empty,.str Str.empty]) (fun b ob q=>Qb _ q) (Qg _) ⟨h3,[.str z t,.str Str.empty s.toks,.str Str.empty s.toks],.cons ⟨_,rfl⟩ (.cons ⟨_,rfl⟩ (.cons ⟨_,rfl⟩ .nil)),IsTup.new _ _⟩,rfl,q'⟩
 |cons i r =>
  rw[ho]at q'
  exact⟨.ref s.heap.objs.size,_,I.laid (t':=s.toks+1+1) (o:=.tup [.str (strSub z 0 i),.str y,.str (strSub z (i+y.length) z.length)]) (fun b ob q=>Qb _ q) (Qg _) ⟨h3,[.str (strSub z 0 i) s.toks,.str y t',.str (strSub z (i+y.length) z.length) (s.toks+1)],.cons ⟨_,rfl⟩ (.cons ⟨_,rfl⟩ (.cons ⟨_,rfl⟩ .nil)),IsTup.new _ _⟩,rfl,q'⟩
def Wg:D->D->Option D
 |.str z,.str y=>if(y.length == 0)=false/\z.length<=ZN then some (.tup (match occurrences z y 0 z.length 1 with|i::_=>[.str (strSub z 0 i),.str y,.str (strSub z (i+y.length) z.length)]|[]=>[.str z,.str Str.empty,.str Str.empty])) else none
 |_,_=>none
theorem Zb3{o e:Expr}{fo fe:FE}{apos cpos:Pos}(ho:EV X o fo)(he:EV X e fe)(hbase:attributeBase o "partition" X.env (eval o X.env)=eval o X.env:=by rfl)
  (hfew:((backTo cpos (starEach [e] X.env)).all (fun x=>!x.1)&&(backToKw cpos (keywordEach [] X.env)).all (fun x=>x.1.isSome)
   && decide (([e]:List Expr).length+([]:List Keyword).length+(if([]:List Keyword).isEmpty then 0 else 1)<30))=true:=by rfl)
  (hline:(apos.endLine == cpos.line)=true:=by rfl) (hs:starEach [e] X.env=(false,eval e X.env)::starEach [] X.env:=by rfl) :
  EV X (.Call (.Attribute o "partition" apos) [e] [] cpos) (f2 Wg fo fe) :=
 PE.imp (Zcs JC PySem.F.slot_str_partition PySem.F.type_str_partition Zvh ho (Ym he Xh hs) hbase hfew hline hs) fun σ H Q h=>by
  obtain⟨O,ρ,d,rv,e,q⟩:=h
  obtain⟨x,e1,e⟩:=bind_some e
  obtain⟨y,e2,e⟩:=bind_some e
  have ee:∃z y',x=.str z/\y=.str y':=by
   cases x<;>first|(cases e;done)|(cases y<;>first|(cases e;done)|exact⟨_,_,rfl,rfl⟩)
  obtain⟨z,y',rfl,rfl⟩:=ee
  unfold Wg at e
  dsimp only at e
  by_cases hk:(y'.length == 0)=false/\z.length<=ZN
  ·rw[if_pos hk]at e
   cases e
   refine⟨O,ρ,_,rv,e1,fun v H1 s1 r1=>?_⟩
   have:=(show v=V.str _ from r1)
   subst this
   refine⟨rfl,O,ρ,_,rv.mono s1,e2,fun u H2 s2 r2=>?_⟩
   have:=(show u=V.str _ from r2)
   subst this
   refine⟨z,y',rfl,rfl,hk.1,Z5 hk.2,fun p hp=>q _ _ (Zf.trans (Zf.trans s1 s2) (Zf.new hp)) (Xg (rv.th.mono (Zf.trans s1 s2)) hp ?_)⟩
   cases occurrences z y' 0 z.length 1 with
   |nil=>exact⟨_,_,rfl,rfl,_,_,rfl,rfl,_,_,rfl,rfl,rfl⟩
   |cons i r=>exact⟨_,_,rfl,rfl,_,_,rfl,rfl,_,_,rfl,rfl,rfl⟩
  ·rw[if_neg hk]at e;cases e
theorem Zn4:Ztu X "str.startswith" (fun x xs H Q=>∃z y,x=.str z/\xs=[.str y]/\Q (.bl (Txt.startswith z y)) H):=by
 intro pins s σ H x xs v us Q I rx rs h
 obtain⟨z,y,rfl,rfl,q⟩:=h
 obtain⟨t,rfl⟩:=rx
 obtain⟨u,rfl,t',rfl⟩:=Xp rs
 exact SC.startswith ⟨.bl _,H,I,rfl,q⟩
def UI:D->D->Option D
 |.str z,.str y=>some (.bl (Txt.startswith z y))
 |_,_=>none
theorem Zfb{o e:Expr}{fo fe:FE}{apos cpos:Pos}(ho:EV X o fo)(he:EV X e fe)(hbase:attributeBase o "startswith" X.env (eval o X.env)=eval o X.env:=by rfl)
  (hfew:((backTo cpos (starEach [e] X.env)).all (fun x=>!x.1)&&(backToKw cpos (keywordEach [] X.env)).all (fun x=>x.1.isSome)
   && decide (([e]:List Expr).length+([]:List Keyword).length+(if([]:List Keyword).isEmpty then 0 else 1)<30))=true:=by rfl)
  (hline:(apos.endLine == cpos.line)=true:=by rfl) (hs:starEach [e] X.env=(false,eval e X.env)::starEach [] X.env:=by rfl) :
  EV X (.Call (.Attribute o "startswith" apos) [e] [] cpos) (f2 UI fo fe) :=
 PE.imp (Zcs JC PySem.F.slot_str_startswith PySem.F.type_str_startswith Zn4 ho (Ym he Xh hs) hbase hfew hline hs) fun σ H Q h=>by
  obtain⟨O,ρ,d,rv,e,q⟩:=h
  obtain⟨x,e1,e⟩:=bind_some e
  obtain⟨y,e2,e⟩:=bind_some e
  unfold UI at e
  split at e
  ·cases e
   refine⟨O,ρ,_,rv,e1,fun v H1 s1 r1=>?_⟩
   have:=(show v=V.str _ from r1)
   subst this
   refine⟨rfl,O,ρ,_,rv.mono s1,e2,fun u H2 s2 r2=>?_⟩
   have:=(show u=V.str _ from r2)
   subst this
   exact⟨_,_,rfl,rfl,q _ H2 (Zf.trans s1 s2) rfl⟩
  ·cases e
def Zyc:D->Option Bool
 |.str y=>if y.length<=ZN then some ((y.length:Int) != 0) else none
 |_=>none
def Zso(a:FE):FT:=fun ρ=>(a ρ).bind Zyc
theorem Zj5{a:Expr}{fa:FE}(ha:EV X a fa)(he:∀VO,isTrue a X.env VO=(do let v <- VO;standAt a.pos;holding [v] (truthy v)):=by intro _;rfl):TV X a (Zso fa):=PT.imp (Zia ha he) fun σ H Q h=>by
 obtain⟨O,ρ,k,rv,e,q⟩:=h
 obtain⟨x,e1,e⟩:=bind_some e
 refine⟨O,ρ,x,rv,e1,fun v H1 s1 r1=>⟨k,?_,q H1 s1⟩⟩
 unfold Zyc at e
 split at e
 ·split at e
  ·rename_i hl
   cases e
   rw[show v=V.str _ from r1]
   exact⟨Z5 hl,rfl⟩
  ·cases e
 ·cases e
def Itc(x:Str):It:=⟨fun i _=>∃c,x.cps[i]?=some c,fun i H v H'=>H'=H/\∃c,x.cps[i]?=some c/\v=.str ⟨#[c]⟩,fun i _=>x.cps[i]?=none⟩
theorem Zj8{P:Program}{w:World}{K:PySem.W.Frag}{tg:Expr}(x:Str)(t:Tok)(it:Addr):Zjs P w K tg (Itc x) [it] it (fun i h=>h.IsStrIter it "str_ascii_iterator" x t i) where
 mem:=by simp
 obj:=fun i h st b hb=>by
  have e:b=it:=by simpa using hb
  subst e
  obtain⟨o,e,c,d⟩:=st
  exact⟨o,e,fun v z=>by rw[d]at z;cases z⟩
 keep:=fun i h h' st k=>by obtain⟨o,e,r⟩:=st;exact⟨o,k it (by simp) o e,r⟩
 item:=by
  intro X hP hw hK hc i pins s σ H E I hf st hg
  subst hP hw hK
  obtain⟨c,hx⟩:=hg
  obtain⟨f0,f1,f2,f3,f4,f5⟩:=hf it (by simp)
  refine wpAny_pyNext_ascii_item st hx fun h' st' sb=>?_
  have I1:Zq X pins σ H { s with heap:=h',toks:=s.toks+1 }:=I.turned (t':=s.toks+1) (fun b o hb e=>(sb.2 b hb).trans e) f0 f1 f3 f4 f5
  obtain⟨o,e,cl,d⟩:=id st'
  exact⟨_,rfl,Zmx (s:={ s with heap:=h',toks:=s.toks+1 }) e cl d (by decide) ⟨.str ⟨#[c]⟩,H,I1,⟨_,rfl⟩,⟨rfl,c,hx,rfl⟩,st',fun b hb=>(hf b hb).1⟩⟩
 done:=by
  intro X hP hw hK hc i pins s σ H E I hf st hg
  subst hP hw hK
  obtain⟨f0,f1,f2,f3,f4,f5⟩:=hf it (by simp)
  exact wpAny_pyNext_ascii_end (I.ok.hd hc) st hg fun h' eb=>⟨rfl,I.turned (t':=s.toks) (fun b o hb e=>eb b o hb e) f0 f1 f3 f4 f5⟩
 self:=fun _ _ _ _ _ st h=>wpAny_pyIter_striter_ascii st h
def Z0c(t:TE):TI:=fun σ H R=>t σ H fun v H1=>∃x,v=.str x/\x.cps.all (·<128)=true/\R (Itc x) H1
theorem Zqz{tg l:Expr}{tl:TE}(hl:PE X l tl):PI X tg l (Z0c tl):=by
 intro pins s σ H R I h
 refine YA (hl pins s σ H _ I h) fun v s1 ⟨x,H1,I1,r1,q1⟩=>?_
 obtain⟨z,e,ha,q⟩:=q1
 subst e
 obtain⟨t,rfl⟩:=r1
 refine wpAny_pyIter_ascii ha ?_
 refine⟨s1.heap.objs.size,[s1.heap.objs.size],_,_,H1,rfl,I1.kept (t':=s1.toks) fun b o e=>Qb _ e,Zj8 z t _,⟨_,Qm _ rfl,rfl,rfl⟩,fun b hb=>?_,q⟩
 have e:b=s1.heap.objs.size:=by simpa using hb
 subst e
 exact I1.fpOk (Qg _) (I1.hok.fresh (Qg _))
def Zln:D->Option (List D)
 |.str x=>if x.cps.all (·<128)=true then some (x.cps.toList.map fun c=>.str ⟨#[c]⟩) else none
 |_=>none
def Wc(a:FE):FA:=fun ρ=>(a ρ).bind Zln
theorem Zab{tg e:Expr}{fa:FE}(h:EV X e fa):IV X tg e (Wc fa):=PI.imp (Zqz (tg:=tg) h) fun σ H R hh=>by
 obtain⟨O,ρ,ds,rv,e,q⟩:=hh
 obtain⟨x,e1,e2⟩:=bind_some e
 unfold Zln at e2
 split at e2
 ·rename_i z
  split at e2
  ·rename_i ha
   cases e2
   refine⟨O,ρ,_,rv,e1,fun v H1 s1 r1=>⟨z,r1,ha,q _ H1 s1 ?_⟩⟩
   intro H3 O' s3 th i
   refine⟨fun d hd=>?_,fun hle=>?_⟩
   ·rw[QC]at hd
    cases hc:z.cps.toList[i]? with
    |none=>rw[hc]at hd;cases hd
    |some c =>
     rw[hc]at hd
     cases hd
     have hc':z.cps[i]?=some c:=by rw[<- QQ];exact hc
     refine⟨⟨c,hc'⟩,fun v H4 ⟨eh,c2,h2,ev⟩=>?_⟩
     subst eh
     rw[hc']at h2
     cases h2
     exact⟨Zf.refl _,ev⟩
   ·show z.cps[i]?=none
    rw[<- QQ]
    exact QG (by simpa using hle)
  ·cases e2
 ·cases e2
end
section
variable{X:Cx}{pos:Pos}
open Builtin Builtin.Str
def Zdl(x:Str)(lo hi:Option Int):Str :=
 if(strSliceIndices lo hi 1 x.length).length == x.length then x else⟨((strSliceIndices lo hi 1 x.length).filterMap (x.cps[·]?)).toArray⟩
theorem Zmi{v:Value}{lo:Option Int}(h:IsPart v lo):∃l:Option (Int×Tok),v=partValue l/\l.map (·.1)=lo:=by
 cases h with
 |none=>exact⟨none,rfl,rfl⟩
 |int i t=>exact⟨some (i,t),rfl,rfl⟩
theorem Zyo:Zwq X (fun x lo hi H Q=>∃z,x=.str z/\(Zdl z lo hi).length<=sizeLine/\Q (.str (Zdl z lo hi)) H):=by
 intro pins s σ H x v vl vu lo hi sl Q I rx hs pl pu h
 obtain⟨z,rfl,hz,q⟩:=h
 obtain⟨t,rfl⟩:=rx
 obtain⟨l,rfl,el⟩:=Zmi pl
 obtain⟨u,rfl,eu⟩:=Zmi pu
 refine⟨"str",_,F.slot_str_getitem.lookup,typeIs_str _ _ _,?_⟩
 refine wpAny_getItem_str_slice (l:=l) (u:=u) (st:=none) hs rfl ?_
 have ep:slicePicked z l u none=strSliceIndices lo hi 1 z.length:=by
  unfold slicePicked
  rw[el,eu];rfl
 unfold sliceMade
 rw[ep]
 unfold Zdl at hz q
 by_cases hc:((strSliceIndices lo hi 1 z.length).length == z.length)=true
 ·rw[if_pos (by rw[hc];rfl)]
  rw[if_pos hc]at hz q
  exact⟨.str z,H,I,⟨t,rfl⟩,q⟩
 ·rw[if_neg (by intro h;exact hc (by simpa using h))]
  rw[if_neg hc]at hz q
  exact⟨hz,.str _,H,I.tok _,⟨_,rfl⟩,q⟩
def Zpe:D->Option Int->Option Int->Option D
 |.str z,lo,hi=>if(Zdl z lo hi).length<=ZN then some (.str (Zdl z lo hi)) else none
 |_,_,_=>none
def Xk(f:FE)(lo hi:FP):FE:=fun ρ=>(f ρ).bind fun d=>(lo ρ).bind fun l=>(hi ρ).bind fun u=>Zpe d l u
theorem YK{e:Expr}{lo hi:Option Expr}{f:FE}{pl ph:FP}{pos p2:Pos}(he:EV X e f)(hl:PD X lo pl)(hu:PD X hi ph):EV X (.Subscript e (.Slice lo hi none p2) pos) (Xk f pl ph) :=
 PE.imp (Zid Zyo he hl hu) fun σ H Q h=>by
  obtain⟨O,ρ,d,rv,e,q⟩:=h
  obtain⟨x,e1,e⟩:=bind_some e
  obtain⟨l,e2,e⟩:=bind_some e
  obtain⟨u,e3,e⟩:=bind_some e
  refine⟨O,ρ,x,rv,e1,fun v H1 s1 r1=>⟨O,ρ,l,rv.mono s1,e2,fun H2 s2=>⟨O,ρ,u,rv.mono (Zf.trans s1 s2),e3,fun H3 s3=>?_⟩⟩⟩
  unfold Zpe at e
  split at e
  ·split at e
   ·rename_i hl
    cases e
    exact⟨_,r1,Z5 hl,q _ H3 (Zf.trans s1 (Zf.trans s2 s3)) rfl⟩
   ·cases e
  ·cases e
theorem Zo8:Xd X (.type "int") (fun xs H Q=>∃x n,xs=[.str x]/\x.length<=640/\intText? x=some n/\Q (.int n) H):=by
 intro pins s σ H xs us Q I r h
 obtain⟨x,n,rfl,hl,hn,q⟩:=h
 obtain⟨u,rfl,t,rfl⟩:=Xp r
 exact PySem.W.KIN.call_text hn hl ⟨.int n,H,I.tok _,⟨_,rfl⟩,q⟩
def Zr9:List D->Option D
 |[.str x]=>if x.length<=640 then(intText? x).bind fun n=>some (.int n) else none
 |_=>none
theorem Zwd:YY X (.type "int") Zr9:=YY.of Zo8 fun xs H Q h=>by
 obtain⟨O,ds,d,th,rs,e,q⟩:=h
 unfold Zr9 at e
 split at e
 ·split at e
  ·rename_i hl
   obtain⟨n,hn,e⟩:=bind_some e
   cases e
   obtain⟨v,rfl,r⟩:=Zcn rs
   have:v=_:=r
   subst this
   exact⟨_,n,rfl,hl,hn,q _ H (Zf.refl _) rfl⟩
  ·cases e
 ·cases e
def Zle:D->Option D
 |.int i=>if i.natAbs.log2<1920 then some (.str (toString i)) else none
 |_=>none
theorem Zdi{e:Expr}{f:FE}(h:EV X e f):EV X (.FormattedValue e (-1) none pos) (f1 Zle f):=by
 intro pins s σ H Q I hw
 obtain⟨O,ρ,d,rv,e,q⟩:=hw
 obtain⟨x,e1,e⟩:=bind_some e
 unfold Zle at e
 split at e
 ·split at e
  ·rename_i i hl
   cases e
   refine wpAny_FormattedValue_plain (YA (h pins s σ H (fun v H1=>∃s1:Zf H H1,v=.int i) I ⟨O,ρ,_,rv,e1,fun v H1 s1 r1=>⟨s1,r1⟩⟩) fun v s1 k=>?_)
   obtain⟨x,H1,I1,r1,sm,ex⟩:=k
   subst ex
   obtain⟨t,rfl⟩:=r1
   exact wpAny_formatField_int hl ⟨.str _,H1,I1.tok _,⟨_,rfl⟩,q _ H1 sm rfl⟩
  ·cases e
 ·cases e
abbrev FJ:=Xl->Option (List Str)
def jN:FJ:=fun _=>some []
def strOf:D->Option Str
 |.str z=>some z
 |_=>none
def jC(f:FE)(g:FJ):FJ:=fun ρ=>(f ρ).bind fun d=>(strOf d).bind fun z=>(g ρ).bind fun r=>some (z::r)
def Ztj(acc:Str)(zs:List Str):Str:=zs.foldl (·++·) acc
theorem Zti:∀(zs:List Str) (acc:Str),acc.length<=(Ztj acc zs).length:=by
 intro zs
 induction zs with
 |nil=>intro acc;exact Qg _
 |cons z zs ih=>intro acc;exact Jw (by rw[strLen_append];omega) (ih (acc++z))
def JV(X:Cx)(es:List Expr)(g:FJ):Prop:=∀(pins:List (Addr×Obj)) (s:Shared) (σ:St) (H:Hp) (acc:Str) (O:List Addr) (ρ:Xl) (zs:List Str) (R:Str->Shared->Prop),Zq X pins σ H s->RV X.K O H ρ σ->g ρ=some zs ->
 (Ztj acc zs).length<=sizeLine->(∀s' H',Zq X pins σ H' s'->Zf H H'->R (Ztj acc zs) s')->Joins (model X.prog X.w) X.A X.xe (evalEach es X.env) acc R s
theorem Zr0:JV X [] jN:=by
 intro pins s σ H acc O ρ zs R I rv e hl k
 cases e
 exact k s H I (Zf.refl _)
theorem WN{e:Expr}{es:List Expr}{f:FE}{g:FJ}(h:EV X e f)(t:JV X es g):JV X (e::es) (jC f g):=by
 intro pins s σ H acc O ρ zs R I rv e hl k
 obtain⟨x,e1,e⟩:=bind_some e
 obtain⟨z,e2,e⟩:=bind_some e
 obtain⟨r,e3,e⟩:=bind_some e
 cases e
 have ex:x=.str z:=by
  cases x<;>first|(cases e2;done)|(cases e2;rfl)
 subst ex
 show wpAny _ _ (eval _ _) _ _ _
 refine YA (h pins s σ H (fun v H1=>∃s1:Zf H H1,v=.str z) I ⟨O,ρ,_,rv,e1,fun v H1 s1 r1=>⟨s1,r1⟩⟩) fun v s1 k1=>?_
 obtain⟨x,H1,I1,r1,sm,ex⟩:=k1
 subst ex
 obtain⟨tk,rfl⟩:=r1
 exact⟨z,tk,rfl,Jw (Zti r (acc++z)) hl,t pins s1 σ H1 (acc++z) O ρ r R I1 (rv.mono sm) e3 hl fun s' H' I' s2=>k s' H' I' (Zf.trans sm s2)⟩
def Zs0(g:FJ):FE:=fun ρ=>(g ρ).bind fun zs=>if(Ztj Str.empty zs).length<=ZN then some (.str (Ztj Str.empty zs)) else none
theorem Zm0{v1 v2:Expr}{vs:List Expr}{g:FJ}(h:JV X (v1::v2::vs) g):EV X (.JoinedStr (v1::v2::vs) pos) (Zs0 g):=by
 intro pins s σ H Q I hw
 obtain⟨O,ρ,d,rv,e,q⟩:=hw
 obtain⟨zs,e1,e⟩:=bind_some e
 split at e
 ·rename_i hl
  cases e
  refine wpAny_JoinedStr (h pins s σ H Str.empty O ρ zs _ I rv e1 (Z5 hl) fun s' H' I' sm=>⟨Z5 hl,.str _,H',I'.tok _,⟨_,rfl⟩,q _ H' sm rfl⟩)
 ·cases e
theorem Zce{a b c:Expr}{fa fb fc:FE}{op op':CmpOp}{o o':D->D->Option D}(ho:VC X (compareOp op) o)(ho':VC X (compareOp op') o')(ha:EV X a fa)(hb:EV X b fb)(hc:EV X c fc)
  (hm:lastMarks [op,op'] [b,c]=false:=by with_unfolding_all rfl) :
  TV X (.Compare a [op,op'] [b,c] pos) (gB (V4 o o' fa fb fc)) :=
 PT.imp (Zqr ho ho' ha hb hc hm) fun σ H Q h=>by
  obtain⟨O,ρ,kk,rv,e,q⟩:=h
  obtain⟨d,e0,e5⟩:=bind_some e
  have hd:d=.bl kk:=by cases d<;>first|(cases e5;rfl)|(cases e5;done)
  subst hd
  obtain⟨x,e1,e⟩:=bind_some e0
  obtain⟨y,e2,e⟩:=bind_some e
  obtain⟨r,e3,e⟩:=bind_some e
  refine⟨O,ρ,x,rv,e1,fun v H1 s1 r1=>?_⟩
  have rv1:=rv.mono s1
  refine⟨O,ρ,y,rv1,e2,fun u H2 s2 r2=>?_⟩
  have rv2:=rv1.mono s2
  refine⟨O,x,y,r,rv2.th,YJ.mono (ZA s2) x v r1,r2,e3,fun w H3 s3 r3=>?_⟩
  cases r with
  |bl k =>
   have:w=.bl k:=r3
   subst this
   refine⟨k,rfl,?_⟩
   cases k with
   |true =>
    rw[if_pos rfl]
    obtain⟨z,e4,e⟩:=bind_some e
    have rv3:=rv2.mono s3
    refine⟨O,ρ,z,rv3,e4,fun w' H4 s4 r4=>⟨O,y,z,.bl kk,rv3.th.mono s4,YJ.mono (ZA (Zf.trans s3 s4)) y u r2,r4,e,fun w2 H5 s5 r5=>⟨kk,r5,q H5 (Zf.trans (Zf.trans (Zf.trans (Zf.trans s1 s2) s3) s4) s5)⟩⟩⟩
   |false =>
    rw[if_neg Qv]
    cases e
    exact⟨false,rfl,q H3 (Zf.trans (Zf.trans s1 s2) s3)⟩
  |_=>cases e
end
section
variable{M:Model}{A:Around}{E:Value->Shared->Prop}
variable{nm q nm' q':Str}{C N C' N':Addr}{bs bm bs' bm':List Value}{hdct hdct':Bool}{sn sn':List Str}{sub sub':List Value}{ab ab':Bool}{col col':Option Bool}{dd dd':Option Addr}{k0 k1 k2 k3 k5 k0' k1' k2' k3' k5':Option Value}{newId newId':String}
theorem V5{h:Heap}{g:Array GenState}{d:Drawn}{t:Nat}{os:OsState}{e:Addr}{oe:Obj}{Q:Bool->Shared->Prop}
  (hC:h.get? C=some (excClassObj nm q C N bs bm hdct sn sub ab col dd k0 k1 k2 k3 k5 newId)) (hC':h.get? C'=some (excClassObj nm' q' C' N' bs' bm' hdct' sn' sub' ab' col' dd' k0' k1' k2' k3' k5' newId'))
  (he:h.get? e=some oe) (hcls:oe.cls=.ref C) (hbase:bm'.contains (.type "BaseException")=true)
  (hq:Q ((Value.ref C::bm).contains (.ref C')) ⟨h,g,d,t,os⟩):wpAny M A (excMatches (.ref e) (.ref C')) Q E ⟨h,g,d,t,os⟩:=by
 have hcB:(Value.ref C'::bm').contains (.type "BaseException")=true:=by rw[List.contains_cons,hbase,Bool.or_true]
 have f:=tc_notTuple
 unfold excMatches
 repeat (first|(with_reducible refine wpAny_loadPart_at he ?_;rw[hcls])|with_reducible refine wpAny_loadPart_at hC' ?_|(with_reducible refine wpAny_isSubtype_exc hC' ?_;rw[hcB])|(with_reducible refine wpAny_isSubtype_exc hC ?_)|wp_step)
 cases hb:(Value.ref C::bm).contains (.ref C')<;>(rw[hb]at hq;wp_walk;exact hq)
end
def hits(c h:Str):Bool:=c == h||h == "YardError"
structure EX(K:PySem.W.Frag)(mg:Str->Option Value)(ad:Str->Addr)(L HL:List Str):Prop where
 ox:∀c∈L,OX K mg c (ad c)
 hx:∀h∈HL,OX K mg h (ad h)
 sub:∀c∈L,∀h∈HL,Zet K (ad c) (.ref (ad h))=hits c h
def Jn(X:Cx)(pins:List (Addr×Obj))(σ:St)(H:Hp)(B:Heap)(s:Shared):Prop:=∀h' t',B.StaysIn h'->s.heap.UpToSlots h'->Zq X pins σ H { s with heap:=h',toks:=t' }
theorem Jn.on{X:Cx}{pins:List (Addr×Obj)}{σ:St}{H:Hp}{B:Heap}{s:Shared}(j:Jn X pins σ H B s){h1:Heap}{t1:Nat}(up:s.heap.UpToSlots h1):Jn X pins σ H B { s with heap:=h1,toks:=t1 }:=fun h' t' st up'=>j h' t' st (up.trans up')
theorem Zlo{X:Cx}{pins:List (Addr×Obj)}{σ:St}{H H':Hp}{s s':Shared}{a:Addr}{cls a0:Value}{B:Heap}(I:Zq X pins σ H s)(f:Fly X.prog X.w X.base X.stack H s H' a cls a0 B s'):Jn X pins σ H' B s':=by
 intro h' t' st up
 have un:Un (Vg X.stack) [] H H' s.heap h':={
  keep:=fun b o e n hb _=>st b o (f.cov b o e n hb)
  slot:=fun b o e n hb _=>by
   obtain⟨sl,e1⟩:=f.slot b o e hb
   obtain⟨_,o2,e2,nd⟩:=I.stack.mem hb
   rw[e]at e2
   cases e2
   obtain⟨sl2,e3⟩:=up b _ e1 nd
   exact⟨sl2,e3⟩
  free:=fun b o e n _=>f.free b o e n
  there:=fun b o e _=>by
   by_cases hb:b∈Vg X.stack
   ·obtain⟨sl,e1⟩:=f.slot b o e hb
    obtain⟨_,o2,e2,nd⟩:=I.stack.mem hb
    rw[e]at e2
    cases e2
    obtain⟨sl2,e3⟩:=up b _ e1 nd
    exact⟨_,e3⟩
   ·obtain⟨o',e'⟩:=f.trk b o e hb
    exact⟨o',st b o' e'⟩
  tups:=f.tups
  frzs:=f.frzs
  tbls:=f.tbls }
 obtain⟨hh,g,d,t,os⟩:=s'
 obtain rfl:os=s.os:=f.os
 have k:=Zq.call (s:=s) (h':=h') (g':=g) (d':=d) (t':=t') (ch:=[]) I un (f.hok.kept st) f.bare (fun b z=>absurd z (by simp))
 exact k
abbrev Cx.mk'(X:Cx)(e:Addr):Cx:={ X with A:=X.A.mark (some (.ref e)),calm:=false,xe:=fun _ _=>False }
theorem Cx.Ok.mk'{X:Cx}(ok:X.Ok)(e:Addr):(Cx.mk' X e).Ok :=
 ⟨ok.mod,ok.kind,ok.glob,ok.blt,ok.above,ok.inj,ok.has,ok.cab,fun h=>(by cases h),ok.frames,ok.stk,ok.exf,ok.bs,ok.bsz,ok.noex,ok.exfs,ok.funs,ok.frf⟩
section
variable{X:Cx}{pins:List (Addr×Obj)}{σ:St}{H:Hp}{s:Shared}{e:Addr}
theorem Zq.mk'(I:Zq X pins σ H s)(e:Addr):Zq (Cx.mk' X e) pins σ H s:=⟨I.ok.mk' e,I.os,I.bare,I.base,I.loc,I.cell,I.free,I.freeC,I.pin,I.hok,I.len⟩
theorem Zq.unmk(ok:X.Ok)(I:Zq (Cx.mk' X e) pins σ H s):Zq X pins σ H s:=⟨ok,I.os,I.bare,I.base,I.loc,I.cell,I.free,I.freeC,I.pin,I.hok,I.len⟩
theorem SP.unmk{D:Zd4}{f:Flow}(ok:X.Ok)(h:SP (Cx.mk' X e) pins D f s):SP X pins D f s:=by
 cases f with
 |next=>obtain⟨σ',H',I,q⟩:=h;exact⟨σ',H',I.unmk ok,q⟩
 |brk=>obtain⟨σ',H',I,q⟩:=h;exact⟨σ',H',I.unmk ok,q⟩
 |cont=>obtain⟨σ',H',I,q⟩:=h;exact⟨σ',H',I.unmk ok,q⟩
 |ret u=>obtain⟨v,σ',H',I,r,q⟩:=h;exact⟨v,σ',H',I.unmk ok,r,q⟩
end
def HV(X:Cx)(ad:Str->Addr)(L:List Str)(hs:List ExceptHandler)(Hs:Str->FS):Prop:=∀(pins:List (Addr×Obj)) (s:Shared) (σ:St) (H:Hp) (D:Zd4) (e:Addr) (c:Str) (a0:Value) (B:Heap),c∈L->H e=none ->
 Heap.FlyingW B X.stack e (.ref (ad c)) a0 s.heap->Jn X pins σ H B s->tS X.K (Hs c) D σ H->wpAny (model X.prog X.w) X.A (handleBy (.ref e) X.env hs) (SP X pins D) X.xe s
section
variable{X:Cx}{ad:Str->Addr}{L HL:List Str}{pos hpos:Pos}
theorem Zsd:HV X ad L [] (fun _ _=>.bad):=fun pins s σ H D e c a0 B hc hn fl j h=>by
 obtain⟨B,O0,O1,ρ,r,q⟩:=h
 exact q.elim
theorem Z0d{x:Str}{np:Pos}{b₀:Stmt}{suite:List Stmt}{Z0:List ExceptHandler}{S:FS}{Hs:Str->FS}(ex:EX X.K X.mg ad L HL)(hS:∀e,Zpb (Cx.mk' X e) (b₀::suite) S)(hr:HV X ad L Z0 Hs)(hx:x∈HL:=by simp)
  (hg:Gl X x:=by rfl) (hd:(x == ("__debug__":Str))=false:=by decide):HV X ad L (.ExceptHandler (some (.Name x np)) none (b₀::suite) hpos::Z0) (fun c ρ=>if hits c x=true then S ρ else Hs c ρ):=by
 intro pins s σ H D e c a0 B hc hn fl j h
 have I:Zq X pins σ H s:=j s.heap s.toks fl.1 (Heap.UpToSlots.refl _)
 have ox:=ex.hx x hx
 refine wpAny_handleBy_cons (codeAny_handlers_test (Uo (X:=Cx.mk' X e) (I.mk' e) hg ox.mg ?_ hd)) (by intro q;cases q)
 obtain⟨bm',N',nm',q',bs',hdct',sn',sub',ab',col',dd',k0',k1',k2',k3',k5',mN',hC',hN',hni',hT',_⟩:=ox.obj I.kIn
 obtain⟨bm,N,nm,q,bs,hdct,sn,sub,ab,col,dd,k0,k1,k2,k3,k5,mN,hC,hN,hni,hT,hsub⟩:=(ex.ox c hc).obj I.kIn
 obtain⟨oe,he,hcls⟩:=fl.there
 have hb:=ex.sub c hc x hx
 rw[hsub]at hb
 obtain⟨hp,g,d,tk,os⟩:=s
 refine V5 hC hC' he hcls (hT'.hasType (by decide)) ?_
 rw[hb]
 cases hh:hits c x with
 |false =>
  have e2:(fun ρ=>if hits c x=true then S ρ else Hs c ρ)=Hs c:=by funext ρ;simp[hh]
  dsimp only at h
  rw[e2]at h
  exact hr pins _ σ H D e c a0 B hc hn fl j h
 |true =>
  have e2:(fun ρ=>if hits c x=true then S ρ else Hs c ρ)=S:=by funext ρ;simp[hh]
  dsimp only at h
  rw[e2]at h
  refine codeAny_handlers_suite (lands_againW fl fun h6 fl6 up6=>?_)
  have I6:Zq X pins σ H ⟨h6,g,d,tk,os⟩:=j h6 tk fl6.1 up6
  exact Q5 (hS e pins _ σ H D (I6.mk' e) h) (fun f s2 q=>q.unmk I6.ok) fun _ _ z=>False.elim z
end
theorem Yr.there{P:Program}{w:World}{H:Hp}{h:Heap}{a:Addr}{o:HO}(x:Yr P w H h a o):∃ob,h.get? a=some ob:=by
 cases o with
 |lst xs=>obtain⟨_,_,_,_,e⟩:=x;exact⟨_,e⟩
 |tup xs=>obtain⟨_,_,_,ob,e,_⟩:=x;exact⟨_,e⟩
 |dK kvs=>obtain⟨_,_,_,_,o,_,_,e,_⟩:=x;exact⟨_,e⟩
 |dT kvs=>obtain⟨_,_,_,_,o,_,_,e,_⟩:=x;exact⟨_,e⟩
 |set S n=>obtain⟨o,_,_,_,e,_⟩:=x;exact⟨_,e⟩
 |ins C dx fs=>obtain⟨_,_,_,e,_⟩:=x;exact⟨_,e⟩
 |own y=>obtain⟨_,e⟩:=x;exact⟨_,e⟩
 |xd fs=>obtain⟨_,⟨_,_,_,e,_⟩,_⟩:=x;exact⟨_,e⟩
 |rng lo hi=>obtain⟨_,_,_,e⟩:=x;exact⟨_,e⟩
 |frz ob u=>obtain⟨e,_⟩:=x;exact⟨_,e⟩
 |tbl ps=>exact⟨_,(show h.get? a=some _ from x)⟩
 |met f y=>exact⟨_,(show h.get? a=some _ from x)⟩
 |ext φ=>obtain⟨_,⟨_,e⟩,_⟩:=x;exact⟨_,e⟩
theorem Zwm{K:PySem.W.Frag}{e C:Addr}(k:PySem.W.kitCls K (.ref C) (.type "ValueError")=some true):Answers (fun s=>K.In s.heap/\∃oe,s.heap.get? e=some oe/\oe.cls=.ref C) (.ref e) (.type "ValueError") true:=by
 intro UD tk prog w A R s hs
 obtain⟨h0,g,d,tt,os⟩:=s
 obtain⟨⟨X,oe,he,hc⟩,hq⟩:=hs
 have LT:PySem.W.Looks (model prog w) h0 (typeOf (.ref e)) (.ref C):=hc▸(PySem.W.Looks.ld he).andThen .now
 unfold Builtin.«isinstance.nested»
 refine Qa (LT.at ?_)
 rw[if_neg (by simp)]
 obtain⟨hty,his,hsub⟩:=PySem.W.kit_cls (M:=model prog w) X k
 have LI:PySem.W.Looks (model prog w) h0 (isInstance (.ref e) (.type "ValueError")) true:=LT.andThen hsub
 refine Qa (hty.at ?_)
 rw[if_pos (by decide)]
 k_delta "plainIsInstance"
 refine Qa (Qa (his.at ?_))
 simp only[JW,Qr,if_false]
 refine Qa (LI.at ?_)
 first
  |exact Qc (Qc (hq tt))
  |(simp only[if_true];first|exact Qc (Qc (hq tt))|exact Qc (hq tt)|exact Qa (Qc (Qc (hq tt))))
theorem Zk7{K:PySem.W.Frag}{prog:Program}{w:World}{A:Around}{E:Value->Shared->Prop}{s:Shared}{Q:Value->Shared->Prop}{e C:Addr}{oe:Obj}(X:K.In s.heap)(he:s.heap.get? e=some oe)(hc:oe.cls=.ref C)(k:PySem.W.kitCls K (.ref C) (.type "ValueError")=some true)(h:∀tk,Q (.bool true) { s with toks:=tk }) :
  wpAny (model prog w) A (call (.builtin "isinstance") [.ref e,.type "ValueError"]) Q E s :=
 call_isinstance (S:=fun _ R s=>(K.In s.heap/\∃oe,s.heap.get? e=some oe/\oe.cls=.ref C)/\∀tk,R (.ok (.ret (.bool true))) { s with toks:=tk })
  (fun prog w A R s hs=>isinstance_outer (Zwm k 0 _ prog w A R s hs) (by intro z;cases z)) ⟨⟨X,oe,he,hc⟩,h⟩
abbrev Cx.mkp(X:Cx)(e:Addr)(oe:Obj):Cx:={ X with A:=X.A.mark (some (.ref e)),calm:=false,xe:=fun _ _=>False,pn:=(e,oe)::X.pn }
theorem Cx.Ok.mkp{X:Cx}(ok:X.Ok)(e:Addr)(oe:Obj):(Cx.mkp X e oe).Ok :=
 ⟨ok.mod,ok.kind,ok.glob,ok.blt,ok.above,ok.inj,ok.has,ok.cab,fun h=>(by cases h),ok.frames,ok.stk,ok.exf,ok.bs,ok.bsz,ok.noex,ok.exfs,ok.funs,ok.frf⟩
section
variable{X:Cx}{pins:List (Addr×Obj)}{σ:St}{H:Hp}{s:Shared}{e:Addr}{oe:Obj}
theorem Zq.mkp(I:Zq X pins σ H s)(h1:s.heap.get? e=some oe)(h2:H e=none)(h3:e≠X.env.locals)(h4:e∉X.fs)(h5:∀v,oe.data≠.cell v):Zq (Cx.mkp X e oe) pins σ H s :=
 ⟨I.ok.mkp e oe,I.os,I.bare,I.base,I.loc,I.cell,I.free,I.freeC,fun p hp=>by
  rcases Ql.mp (show p∈(e,oe)::(X.pn++pins) from hp) with rfl|hp
  ·exact⟨h1,h2,h3,h4,h5⟩
  ·exact I.pin p hp,I.hok,I.len⟩
theorem Zq.unmkp(ok:X.Ok)(I:Zq (Cx.mkp X e oe) pins σ H s):Zq X pins σ H s:=⟨ok,I.os,I.bare,I.base,I.loc,I.cell,I.free,I.freeC,fun p hp=>I.pin p (Qe _ hp),I.hok,I.len⟩
theorem Zq.exc(I:Zq (Cx.mkp X e oe) pins σ H s):s.heap.get? e=some oe:=(I.pin (e,oe) (by simp)).1
theorem Zlq{C:Addr}(hc:oe.cls=.ref C)(k:PySem.W.kitCls X.K (.ref C) (.type "ValueError")=some true):Xd (Cx.mkp X e oe) (.builtin "isinstance") (fun xs H Q=>xs=[.ref e,.ty "ValueError"]/\Q (.bl true) H):=by
 intro pins s σ H xs us Q I r h
 obtain⟨rfl,q⟩:=h
 obtain⟨u,us,rfl,r1,r2⟩:=(show ∃u us',us=u::us'/\ZU (.ref e) u/\ZB [.ty "ValueError"] us' by cases r with|cons a b=>exact⟨_,_,rfl,a,b⟩)
 obtain⟨u2,rfl,r3⟩:=Xp r2
 cases r1
 cases r3
 exact Zk7 I.kIn I.exc hc k fun tk=>⟨.bl true,H,I.tok tk,rfl,q⟩
end
section
variable{X:Cx}{pins:List (Addr×Obj)}{σ:St}{H:Hp}{s:Shared}
theorem Uk{M:Model}{A:Around}{E:Value->Shared->Prop}{i:Nat}{n:Str}{pos:Pos}{Q:Unit->Shared->Prop}(I:Zq X pins σ H s)(hN:X.N.Nodup)(hi:X.N[i]?=some n)(hk:X.env.kindOf n=some .local)
  (h:∀s',Zq X pins (σ.set i none) H s'->Q () s'):wpAny M A (do bindName X.env n .none;unbindBehindTheSuite X.env n pos) Q E s:=by
 obtain⟨m,hn,hl⟩:=id I.loc
 have hcls:(X.env.scope.kind == .class||(X.env.scope.kind == .module&&X.env.locals != X.env.globals))=false:=by rw[I.ok.kind];rfl
 have hiσ:i<σ.length:=by rw[I.len];exact(Qj.mp hi).1
 have cne:=I.cne
 refine wpAny_nameGoes_keeps hk hn hcls fun h' v hn' hs=>?_
 obtain⟨oL,_,_,hoL,_⟩:=id hn
 have tracked:Ua X.prog X.w H h':=fun b ob e=>by
  refine(I.hok b ob e).stay (fun c w' hc q=>(hs.2 c ?_).trans q) (fun _ q=>q) fun _ _ q=>q
  rintro rfl
  rcases hc with rfl|hc
  ·rw[I.free]at e;cases e
  ·rw[I.free]at hc;cases hc
 refine h _ ⟨I.ok,I.os,I.bare,⟨fun b o e n hb hx=>?_,fun b o e n hb hx=>?_,I.base.free,fun b o e hx=>?_,I.base.tups,I.base.frzs,I.base.tbls⟩,⟨_,hn',fun j y v' e1 e2 e3=>?_⟩,fun y c e=>?_,I.free,I.freeC,fun p hp=>?_,tracked,by simpa using I.len⟩
 ·exact(hs.2 b (Qo (Qw (Qk e) I.ok.above))).trans (I.base.keep b o e n hb hx)
 ·obtain⟨sl,e1⟩:=I.base.slot b o e n hb hx
  exact⟨sl,(hs.2 b (Qo (Qw (Qk e) I.ok.above))).trans e1⟩
 ·obtain⟨o',e1⟩:=I.base.there b o e hx
  exact⟨o',(hs.2 b (Qo (Qw (Qk e) I.ok.above))).trans e1⟩
 ·by_cases hj:j=i
  ·subst hj
   rw[Q4 hiσ]at e2
   cases e2
  ·rw[QD (JO hj)]at e2
   obtain⟨u',r',q⟩:=hl j y v' e1 e2 e3
   refine⟨u',r',?_⟩
   rcases q with⟨k,e⟩|⟨k,c,e,z⟩
   ·refine .inl ⟨k,?_⟩
    have:y≠n:=fun e=>hj (Zcv hN e1 (e▸hi))
    simp[this,e]
   ·exact .inr ⟨k,c,e,z.sameBut hs (cne y c e)⟩
 ·obtain⟨w',z⟩:=I.cell y c e
  exact⟨w',z.sameBut hs (cne y c e)⟩
 ·obtain⟨e,n,ne,nf,d⟩:=I.pin p hp
  exact⟨(hs.2 p.1 ne).trans e,n,ne,nf,d⟩
end
theorem RS.forget{K:PySem.W.Frag}{B H:Hp}{O0 O1:List Addr}{ρ:XR}{σ:St}(r:RS K B O0 O1 H ρ σ)(i:Nat)(w:Option V):RS K B O0 O1 H (ρ.set i none) (σ.set i w):=by
 have key:∀{j:Nat} {c:Cl},(ρ.set i none)[j]?=some (some c)->j≠i/\ρ[j]?=some (some c):=fun{j c} h=>by
  by_cases hj:j=i
  ·subst hj
   by_cases hl:j<ρ.length
   ·rw[Q4 hl]at h;cases h
   ·rw[QG (by simpa using Nat.le_of_not_lt hl)]at h;cases h
  ·rw[QD (JO hj)]at h
   exact⟨hj,h⟩
 refine⟨by simpa using r.len,r.same,r.thB,r.new,r.th,fun j d h=>?_,fun j d h=>?_,fun j k d e a h1 h2 h3 h4=>?_⟩
 ·obtain⟨hj,h⟩:=key h
  rw[QD (JO hj)]
  exact r.vals j d h
 ·obtain⟨hj,h⟩:=key h
  rw[QD (JO hj)]
  exact r.owns j d h
 ·obtain⟨hj,h1⟩:=key h1
  obtain⟨hk,h2⟩:=key h2
  rw[QD (JO hj)]at h3
  rw[QD (JO hk)]at h4
  exact r.apart j k d e a h1 h2 h3 h4
section
variable{X:Cx}{ad:Str->Addr}{L HL:List Str}{pos hpos:Pos}
theorem hv_as{x n:Str}{i:Nat}{np:Pos}{b₀:Stmt}{suite:List Stmt}{Z0:List ExceptHandler}{S:FS}{Hs:Str->FS}{T:Addr->TS}(ex:EX X.K X.mg ad L HL)(hN:X.N.Nodup)
  (hS:∀(c:Str) (e:Addr) (oe:Obj),c∈L->oe.cls=.ref (ad c)->Zbd (Cx.mkp X e oe) (b₀::suite) (T e))
  (hT:∀(e:Addr) (D:Zd4) (σ:St) (H:Hp),i<σ.length->tS X.K S D σ H->T e ⟨fun σ' H'=>D.nx (σ'.set i none) H',D.rt,fun σ' H'=>D.bk (σ'.set i none) H',fun σ' H'=>D.ct (σ'.set i none) H'⟩ (σ.set i (some (.ref e))) H)
  (hr:HV X ad L Z0 Hs) (hx:x∈HL:=by simp) (hi:X.N[i]?=some n:=by rfl) (hk:X.env.kindOf n=some .local:=by rfl)
  (hg:Gl X x:=by rfl) (hd:(x == ("__debug__":Str))=false:=by decide) :
  HV X ad L (.ExceptHandler (some (.Name x np)) (some n) (b₀::suite) hpos::Z0) (fun c ρ=>if hits c x=true then S ρ else Hs c ρ):=by
 intro pins s σ H D e c a0 B hc hn fl j h
 have I:Zq X pins σ H s:=j s.heap s.toks fl.1 (Heap.UpToSlots.refl _)
 have ox:=ex.hx x hx
 refine wpAny_handleBy_cons (codeAny_handlers_test (Uo (X:=Cx.mk' X e) (I.mk' e) hg ox.mg ?_ hd)) (by intro q;cases q)
 obtain⟨bm',N',nm',q',bs',hdct',sn',sub',ab',col',dd',k0',k1',k2',k3',k5',mN',hC',hN',hni',hT',_⟩:=ox.obj I.kIn
 obtain⟨bm,N,nm,q,bs,hdct,sn,sub,ab,col,dd,k0,k1,k2,k3,k5,mN,hC,hNN,hni,hTT,hsub⟩:=(ex.ox c hc).obj I.kIn
 obtain⟨oe,he,hcls⟩:=fl.there
 have hb:=ex.sub c hc x hx
 rw[hsub]at hb
 obtain⟨hp,g,d,tk,os⟩:=s
 refine V5 hC hC' he hcls (hT'.hasType (by decide)) ?_
 rw[hb]
 cases hh:hits c x with
 |false =>
  have e2:(fun ρ=>if hits c x=true then S ρ else Hs c ρ)=Hs c:=by funext ρ;simp[hh]
  dsimp only at h
  rw[e2]at h
  exact hr pins _ σ H D e c a0 B hc hn fl j h
 |true =>
  have e2:(fun ρ=>if hits c x=true then S ρ else Hs c ρ)=S:=by funext ρ;simp[hh]
  dsimp only at h
  rw[e2]at h
  refine codeAny_handlers_suite_as (lands_againW fl fun h6 fl6 up6=>?_)
  have I6:Zq X pins σ H ⟨h6,g,d,tk,os⟩:=j h6 tk fl6.1 up6
  obtain⟨_,_,ff,oe6,vs6,T6,oT6,ts6,he6,⟨hc6,_⟩,hd6,_⟩:=id fl6
  have hnf:e∉Vg X.stack:=fun hb=>by
   obtain⟨_,o2,e3,nd⟩:=ff.mem hb
   rw[he6]at e3
   cases e3
   exact nd _ hd6
  have stk:=I6.ok.stk
  have hnl:e≠X.env.locals:=fun z=>by
   obtain⟨m,⟨o,es,ep,ho,hod,_⟩,_⟩:=I6.loc
   rw[<- z,he6]at ho
   cases ho
   rw[hd6]at hod
   cases hod
  have hnfs:e∉X.fs:=fun hb=>hnf (by
   rcases stk with z|⟨z,_⟩
   ·rw[z];exact hb
   ·rw[z]
    obtain⟨env,h1,h2⟩:=Jm.mp hb
    exact Vt (Qe _ h1) h2)
  have J:Zq (Cx.mkp X e oe6) pins σ H ⟨h6,g,d,tk,os⟩:=I6.mkp he6 hn hnl hnfs (fun v z=>by rw[hd6]at z;cases z)
  have hil:i<σ.length:=by rw[I6.len];exact(Qj.mp hi).1
  refine Zch (X:=Cx.mkp X e oe6) (v:=.ref e) J hN hi (.inl hk) rfl (fun s7 J7=>?_) (.inr hk)
  refine Q5 (hS c e oe6 hc hc6 pins s7 _ H _ J7 (hT e D σ H hil h)) (fun f s8 q8=>?_) fun _ _ z=>False.elim z
  have ok:=I6.ok
  cases f with
  |next=>obtain⟨σ',H',K1,q⟩:=q8;exact Uk (K1.unmkp ok) hN hi hk fun s9 K2=>⟨_,H',K2,q⟩
  |brk=>obtain⟨σ',H',K1,q⟩:=q8;exact Uk (K1.unmkp ok) hN hi hk fun s9 K2=>⟨_,H',K2,q⟩
  |cont=>obtain⟨σ',H',K1,q⟩:=q8;exact Uk (K1.unmkp ok) hN hi hk fun s9 K2=>⟨_,H',K2,q⟩
  |ret u=>obtain⟨v,σ',H',K1,r,q⟩:=q8;exact Uk (K1.unmkp ok) hN hi hk fun s9 K2=>⟨v,_,H',K2,r,q⟩
theorem Zq3{i:Nat}{n:Str}{e:Addr}{oe:Obj}{C:Addr}{p1 p2 p3 p4:Pos}(hc:oe.cls=.ref C)(k:PySem.W.kitCls X.K (.ref C) (.type "ValueError")=some true)(m1:X.mg "isinstance"=none)(m2:X.mg "ValueError"=none)
  (hi:X.N[i]?=some n) (hv:Zwp X.env.scope n) (hd:(n == ("__debug__":Str))=false) (hcd:(n == ("__classdict__":Str))=false) (g1:Gl X "isinstance") (g2:Gl X "ValueError")
  (h1:starEach [Expr.Name n p2,Expr.Name "ValueError" p3] X.env=(false,eval (.Name n p2) X.env)::starEach [.Name "ValueError" p3] X.env) (h2:starEach [Expr.Name "ValueError" p3] X.env=(false,eval (.Name "ValueError" p3) X.env)::starEach [] X.env)
  (hpl:(backTo p4 (starEach [Expr.Name "ValueError" p3] X.env)).any (·.1)=false) :
  PE (Cx.mkp X e oe) (.Call (.Name "isinstance" p1) [.Name n p2,.Name "ValueError" p3] [] p4) (fun σ H Q=>σ[i]?=some (some (.ref e))/\Q (.bl true) H) :=
 PE.imp (VU (X:=Cx.mkp X e oe) (Zlq hc k) g1 m1 boot_isinstance (Ym (Zao hi hv hd hcd) (Ym (Zmh (v:=.ty "ValueError") g2 m2 PyProof.Rows.Boot.«ValueError» rfl) Xh h2) h1) (by decide) (by decide) h1 hpl) fun σ H Q h=>by
  obtain⟨h1,q⟩:=h
  exact⟨.ref e,h1,rfl,q⟩
end
section
variable{X:Cx}{ad:Str->Addr}{L HL:List Str}{pos hpos:Pos}
def VE(K:PySem.W.Frag)(ad:Str->Addr)(L:List Str):Prop:=∀c∈L,PySem.W.kitCls K (.ref (ad c)) (.type "ValueError")=some true
def Zqj(i j:Nat):FS:=fun ρ=>match ρ[j]? with|some (some (.val (.int k)))=>.nx ((ρ.set i none).set j (some (.val (.int (k+1)))))|_=>.bad
theorem Z0e{x n y:Str}{i j:Nat}{np p1 p2 p3 p4 p5 p6 p7 p8 p9 p10:Pos}{Z0:List ExceptHandler}{Hs:Str->FS}(ex:EX X.K X.mg ad L HL)(ve:VE X.K ad L)(hN:X.N.Nodup)(m1:X.mg "isinstance"=none)(m2:X.mg "ValueError"=none)(m3:X.mg "int"=none)
  (hr:HV X ad L Z0 Hs) (hij:i≠j:=by decide) (hx:x∈HL:=by simp) (hi:X.N[i]?=some n:=by rfl) (hj:X.N[j]?=some y:=by rfl) (hk:X.env.kindOf n=some .local:=by rfl) (hky:X.env.kindOf y=some .local:=by rfl)
  (hg:Gl X x:=by rfl) (hd:(x == ("__debug__":Str))=false:=by decide) (hdn:(n == ("__debug__":Str))=false:=by decide) (hcd:(n == ("__classdict__":Str))=false:=by decide)
  (hdy:(y == ("__debug__":Str))=false:=by decide) (hcy:(y == ("__classdict__":Str))=false:=by decide) (g1:Gl X "isinstance":=by rfl) (g2:Gl X "ValueError":=by rfl) (g3:Gl X "int":=by rfl)
  (h1:starEach [Expr.Name n p2,Expr.Name "ValueError" p3] X.env=(false,eval (.Name n p2) X.env)::starEach [.Name "ValueError" p3] X.env:=by rfl) (h2:starEach [Expr.Name "ValueError" p3] X.env=(false,eval (.Name "ValueError" p3) X.env)::starEach [] X.env:=by rfl)
  (hpl:(backTo p4 (starEach [Expr.Name "ValueError" p3] X.env)).any (·.1)=false:=by rfl)
  (h3:starEach [Expr.Call (.Name "isinstance" p1) [.Name n p2,.Name "ValueError" p3] [] p4] X.env=(false,eval (.Call (.Name "isinstance" p1) [.Name n p2,.Name "ValueError" p3] [] p4) X.env)::starEach [] X.env:=by rfl)
  (hs:swapsWith (Expr.BinOp (.Name y p7) .Add (.Call (.Name "int" p5) [.Call (.Name "isinstance" p1) [.Name n p2,.Name "ValueError" p3] [] p4] [] p6) p8) (some (.Name y p9)) p10.line X.env=pure false:=by rfl) :
  HV X ad L (.ExceptHandler (some (.Name x np)) (some n) [.Assign [.Name y p9] (.BinOp (.Name y p7) .Add (.Call (.Name "int" p5) [.Call (.Name "isinstance" p1) [.Name n p2,.Name "ValueError" p3] [] p4] [] p6) p8) p10] hpos::Z0) (fun c ρ=>if hits c x=true then Zqj i j ρ else Hs c ρ) :=
 hv_as (i:=i) (S:=Zqj i j) (T:=fun e D σ H=>σ[i]?=some (some (.ref e))/\∃k:Int,σ[j]?=some (some (.int k))/\D.nx (σ.set j (some (.int (k+1)))) H) ex hN
  (fun c e oe hc hcl=>Zbd.imp (Zmc (Zam (X:=Cx.mkp X e oe) hN hj (.inl hky) (Zxc Zrc (Zao hj (.inl hky) hdy hcy) (Vc (X:=Cx.mkp X e oe) Zff g3 m3 UR (Ym (Zq3 hcl (ve c hc) m1 m2 hi (.inl hk) hdn hcd g1 g2 h1 h2 hpl) Xh h3) (by decide) (by decide) h3 rfl)) hs (.inr hky))) fun D σ H h=>by
   obtain⟨a1,k,a2,q⟩:=h
   refine⟨.int k,a2,a1,.inr ⟨true,rfl,?_⟩⟩
   exact⟨k,1,rfl,rfl,q⟩)
  (fun e D σ H hl h=>by
   obtain⟨B,O0,O1,ρ,r,q⟩:=h
   refine⟨Q4 hl,?_⟩
   unfold Zqj at q
   split at q
   ·rename_i k hk
    obtain⟨v,hv,rv⟩:=r.vals j _ hk
    have:v=.int k:=rv
    subst this
    refine⟨k,by rw[QD hij];exact hv,?_⟩
    show D.nx _ H
    have e1:((σ.set i (some (.ref e))).set j (some (.int (k+1)))).set i none=(σ.set i none).set j (some (.int (k+1))):=by
     rw[List.set_comm _ _ hij,List.set_set,List.set_comm _ _ hij.symm]
    rw[e1]
    exact q _ H O1 ((r.forget i none).set rfl)
   ·exact q.elim) hr hx hi hk hg hd
def Zqg(L:List Str)(F:Zd3)(Hs:Str->FS):FS:=fun ρ=>match F (YF ρ) with|some c=>if c∈L then Hs c ρ else .bad|none=>.bad
theorem Zp6{k m:Nat}{y:Str}{f:Addr}{fd:FuncData}{ps:List Str}{G:List D->Option Str}{p cp ep:Pos}{e:Expr}{es:List Expr}{fa:FA}{h₀:ExceptHandler}{hs:List ExceptHandler}{Hs:Str->FS}
  (o:VM X.prog X.w X.K X.mg X.base ad y k ps G f fd) (hr:XD m X.A) (ha:∀E,AV (X.wish E) (e::es) fa) (hh:HV X ad L (h₀::hs) Hs) (hle:k<=m:=by decide)
  (hg:Gl X y:=by rfl) (hdb:(y == ("__debug__":Str))=false:=by decide) (he:starEach (e::es) X.env=(false,eval e X.env)::starEach es X.env:=by rfl) (hpl:(backTo cp (starEach es X.env)).any (·.1)=false:=by rfl)
  (hsw:swapsWith (Expr.Call (.Name y p) (e::es) [] cp) none ep.line X.env=pure false:=by rfl) (hst:X.stack=X.env::X.outer:=by rfl) (hfr:X.env.frame=some X.env.locals:=by rfl) :
  SV X (.Try [.Expr (.Call (.Name y p) (e::es) [] cp) ep] (h₀::hs) [] [] pos) (Zqg L (xL G fa) Hs):=by
 intro pins s σ H D I h
 obtain⟨B0,O0,O1,ρ,r,q⟩:=h
 unfold Zqg at q
 cases eF:xL G fa (YF ρ) with
 |none=>rw[eF]at q;exact q.elim
 |some c =>
 rw[eF]at q
 dsimp only at q
 by_cases hc:c∈L
 case neg=>rw[if_neg hc]at q;exact q.elim
 rw[if_pos hc]at q
 obtain⟨ds,e2,e3⟩:=bind_some eF
 refine wpAny_Try_except (wpAny_execs_cons (wpAny_Expr_any (wpAny_Call_Name_kw (Uo I hg o.mg ?_ hdb)) I.quiet hsw))
 have J:Zq (X.wish fun e s₁=>wpAny (model X.prog X.w) X.A (noteFrame e X.env) (fun _ s₂=>wpAny (model X.prog X.w) X.A (setFlight e none) (fun _ s₃=>wpAny (model X.prog X.w) X.A (handleBy e X.env (h₀::hs)) (SP X pins D) X.xe s₃) X.xe s₂) X.xe s₁) pins σ H s:=I.wish _
 refine PySem.W.callWith_K (h₀:=X.base) I.ok.mod.kin o.kp (YA (ha _ cp pins s σ H (fun vs H1=>YG O0 H1/\Zr X.K (mask O0 H1) ds vs/\Zf H H1) J ⟨O0,YF ρ,ds,r.all,e2,fun vs H1 s1 r1=>⟨r.all.th.mono s1,r1,s1⟩⟩) fun us s1 hq=>?_) he hpl
 obtain⟨vs,H1,J1,rv,th1,rp1,sm1⟩:=hq
 have I1:Zq X pins σ H1 s1:=J1.unwish
 refine⟨I1.kIn,?_⟩
 have hl:us.length=ps.length:=by
  rw[<- rv.length]
  exact o.ok.len vs H1 (fun _ _=>False) (fun _ _ _=>True) ⟨O0,ds,c,th1,rp1,e3,fun _ _=>trivial⟩
 refine wpAny_call (J8 (o.ok.run X.A X.stack s1 H1 ⟨us,[]⟩ us vs (fun _ _=>False) (fun cls _ H'=>cls=.ref (ad c)/\Zf H1 H') (hr.mono hle) I1.env0 (by have:=o.bi s1 us I1.kIn (by rw[Q9];exact hl);rwa[Q9]at this) rv ⟨O0,ds,c,th1,rp1,e3,fun H' s'=>⟨rfl,s'⟩⟩) fun rr s2 hq2=>?_)
 cases rr with
 |ok fl =>
  cases fl with
  |ret u=>obtain⟨_,_,_,_,_,_,_,z⟩:=hq2;exact z.elim
  |next=>exact False.elim hq2
  |brk=>exact False.elim hq2
  |cont=>exact False.elim hq2
 |error ex =>
  obtain⟨a,cls,a0,B,H',rfl,fly,rfl,sm2⟩:=hq2
  have jn:=Zlo I1 fly
  have hn:H' a=none:=by
   cases hz:H' a with
   |none=>rfl
   |some u =>
    obtain⟨ob,hob⟩:=(fly.hok a u hz).there
    rw[fly.fl.2.1]at hob
    cases hob
  have sm:Zf H H':=Zf.trans sm1 sm2
  have fl:=fly.fl
  rw[hst]at fl
  refine wpAny_looks_onW (L:=X.env.locals) (by rw[I1.ok.frames,hst]) hfr fl fun h4 held up4=>wpAny_landsW held fun h5 fl5 up5=>?_
  rw[<- hst]at fl5
  exact hh pins { s2 with heap:=h5 } σ H' D a c a0 B hc hn fl5 (jn.on (t1:=s2.toks) (up4.trans up5)) ⟨B0,O0,O1,ρ,r.mono sm,q⟩
end
section
variable{prog:Program}{w:World}{A:Around}{E:Value->Shared->Prop}{s:Shared}
abbrev TK(prog:Program)(w:World)(h:Heap)(ks:List Int)(a:Addr):Prop:=IsTupleKey (intKind prog w) h ks a
def Zsg(es:Array (Int×Value))(i:Nat):Int:=(es[i]?.map (·.1)).getD 0
theorem items_int{ks:List Int}{vs:List Value}(h:PySem.ItemsAre (intKind prog w) ks vs):∀v∈vs,∃n t,v=Value.int n t:=by
 induction h with
 |nil=>intro v hv;cases hv
 |cons h1 _ ih =>
  intro v hv
  rcases Ql.mp hv with rfl|hv
  ·cases v with
   |int n t=>exact⟨n,t,rfl⟩
   |_=>exact absurd h1 (by intro z;cases z)
  ·exact ih v hv
theorem Zb8{ks:List Int}{c:Addr}{Q:Bool->Shared->Prop}(hk:TK prog w s.heap ks c)(h:∀b,Q b s):wpAny (model prog w) A (hashByValue 8 (.ref c)) Q E s:=by
 have hT:=hk.typeIs
 obtain⟨o,items,n,ho,_,hd,hi⟩:=hk
 unfold hashByValue
 refine Qa (wpAny_specialOf hT F.slot_tuple_hash.lookup ?_)
 show wpAny _ _ (seqItems? (.ref c) >>= _) _ _ s
 refine Qa (Js ho hd ?_)
 refine Qa ?_
 show wpAny _ _ (forIn items _ _) _ _ s
 rw[<- Array.forIn_toList]
 refine wpAny_forIn_list _ (fun Z0 r s'=>s'=s/\∀v∈Z0,∃n t,v=Value.int n t) _ ?_ ?_ _ _ ⟨rfl,items_int hi⟩
 ·rintro v Z0 r s' ⟨rfl,hall⟩
  obtain⟨n,t,rfl⟩:=hall v Qf
  rw[show hashByValue 7 (Value.int n t)=pure true from rfl]
  refine Qa (Qc ?_)
  simp only[JW,Qr,if_false]
  exact Qc ⟨rfl,fun u hu=>hall u (Qe _ hu)⟩
 ·rintro⟨r1,r2⟩ s' ⟨rfl,_⟩
  cases r1 with
  |none=>exact Qc (h _)
  |some r=>exact Qc (h _)
theorem Uu{a:Addr}{x:Value}{h:Int}{o:Obj}{es:Array (Int×Value)}{ep:Nat}{t:SetTable}{j:Nat}{Q:SetFound->Shared->Prop}(ho:s.heap.get? a=some o)(hd:o.data=.set es ep t)(hf:t.fits es.size=true)(hg:t.gaveWay=false)
  (hp:t.probe (Zsg es) h (t.probeStart h)=some (.empty j none)) (hQ:Q (.free j false) s):wpAny (model prog w) A (setSearch a x h true) Q E s:=by
 unfold setSearch
 rw[show(100000:Nat)=99999+1 from rfl]
 unfold setSearchFrom
 refine Qa (QT ho hd hf ?_)
 dsimp only
 rw[hg]
 simp only[Qr,↓reduceIte]
 generalize hm:SetTable.probe t _ h _=met
 have e:met=some (.empty j none):=by rw[<- hm];exact hp
 rw[e]
 exact Qc hQ
theorem Zhp{ks:List Int}{c:Addr}{Q:Bool->Shared->Prop}(hk:TK prog w s.heap ks c)(h:Q false s):wpAny (model prog w) A (ofAClassStatement 8 (.ref c)) Q E s:=by
 have hT:=hk.typeIs
 obtain⟨o,items,n,ho,_,hd,hi⟩:=hk
 unfold ofAClassStatement
 refine Qa (wpAny_typeOf hT ?_)
 dsimp only
 rw[if_pos (by decide)]
 refine Qa (Qc ?_)
 simp only[JW,Qr,if_false]
 refine Qa (Js ho hd ?_)
 dsimp only
 refine Qa ?_
 rw[<- Array.forIn_toList]
 refine wpAny_forIn_list _ (fun Z0 r s'=>r.1=none/\s'=s/\∀v∈Z0,∃n t,v=Value.int n t) _ ?_ ?_ _ _ ⟨rfl,rfl,items_int hi⟩
 ·rintro v Z0 r s' ⟨_,rfl,hall⟩
  obtain⟨n,t,rfl⟩:=hall v Qf
  rw[show ofAClassStatement 7 (Value.int n t)=pure false from rfl]
  refine Qa (Qc ?_)
  simp only[Qr,if_false]
  exact Qc ⟨rfl,rfl,fun u hu=>hall u (Qe _ hu)⟩
 ·rintro⟨r1,r2⟩ s' ⟨hr,rfl,_⟩
  simp only at hr
  subst hr
  exact Qc h
theorem Znc{c:Addr}{kc:List Int}(hc:TK prog w s.heap kc c){ys:List Value}(hy:∀y∈ys,∃b ks,y=.ref b/\TK prog w s.heap ks b){Q:Bool->Shared->Prop}(h:Q false s):wpAny (model prog w) A (searchCouldBeSeen (.ref c) ys) Q E s:=by
 unfold searchCouldBeSeen
 refine Qa ?_
 refine wpAny_forIn_list _ (fun Z0 r s'=>r.1=none/\s'=s/\∀y∈Z0,∃b ks,y=.ref b/\TK prog w s.heap ks b) _ ?_ ?_ _ _ ⟨rfl,rfl,hy⟩
 ·rintro y Z0 r s' ⟨_,rfl,hall⟩
  obtain⟨b,ks,rfl,kb⟩:=hall y Qf
  have rs:∀y∈Z0,∃b ks,y=.ref b/\TK prog w s'.heap ks b:=fun u hu=>hall u (Qe _ hu)
  dsimp only
  split
  ·exact Qc ⟨rfl,rfl,rs⟩
  ·refine Qa (wpAny_eqIsQuiet_tuple hc ?_)
   simp only[JW,Qr,if_false]
   refine Qa (wpAny_eqIsQuiet_tuple kb ?_)
   simp only[JW,Qr,if_false]
   refine Qa (Zhp hc ?_)
   simp only[Qr,if_false]
   refine Qa (Zhp kb ?_)
   simp only[Qr,if_false]
   exact Qc ⟨rfl,rfl,rs⟩
 ·rintro⟨r1,r2⟩ s' ⟨hr,rfl,_⟩
  simp only at hr
  subst hr
  exact Qc h
theorem Zd8{a c b:Addr}{h:Int}{ks:List Int}{o:Obj}{es:Array (Int×Value)}{ep:Nat}{t:SetTable}{j i:Nat}{nx:SetTable.Probe}{Q:SetFound->Shared->Prop}(hu:A.units<cLine)(ho:s.heap.get? a=some o)(hd:o.data=.set es ep t)(hf:t.fits es.size=true)(hg:t.gaveWay=false)
  (hp:t.probe (Zsg es) h (t.probeStart h)=some (.candidate j i nx)) (hi:es[i]?=some (h,.ref b)) (kb:TK prog w s.heap ks b) (kc:TK prog w s.heap ks c) (hall:∀e∈es.toList,∃b ks,e.2=.ref b/\TK prog w s.heap ks b)
  (hQ:Q (.there none) s):wpAny (model prog w) A (setSearch a (.ref c) h true) Q E s:=by
 unfold setSearch
 rw[show(100000:Nat)=99999+1 from rfl]
 unfold setSearchFrom
 refine Qa (QT ho hd hf ?_)
 dsimp only
 rw[hg]
 simp only[Qr,↓reduceIte]
 generalize hm:SetTable.probe t _ h _=met
 have e:met=some (.candidate j i nx):=by rw[<- hm];exact hp
 rw[e]
 dsimp only
 have unl:∀{Q:Bool->Shared->Prop},Q false s->wpAny (model prog w) A (searchCouldBeSeen (.ref c) ((es.filter (·.1 == h)).toList.map (·.2))) Q E s:=fun hq=>Znc kc (fun y hy=>by
  obtain⟨e,he,rfl⟩:=QA.mp hy
  refine hall e ?_
  rw[Array.toList_filter]at he
  exact(List.mem_filter.mp he).1) hq
 split
 ·refine Qa (unl ?_)
  simp only[Qr,if_false]
  rw[hi]
  dsimp only
  refine Qa (QV (wpAny_eqBool_tuple hu kb kc ?_))
  refine Qa (QT ho hd hf ?_)
  rw[decide_eq_true rfl]
  simp only[Bool.and_self,if_true]
  exact Qc hQ
 ·rw[hi]
  dsimp only
  refine Qa (QV (wpAny_eqBool_tuple hu kb kc ?_))
  refine Qa (QT ho hd hf ?_)
  rw[decide_eq_true rfl]
  simp only[Bool.and_self,if_true]
  exact Qc hQ
theorem Zb9{a c b:Addr}{ks:List Int}{o:Obj}{es:Array (Int×Value)}{ep:Nat}{t:SetTable}{j i:Nat}{nx:SetTable.Probe}{Q:Bool->Shared->Prop}(hu:A.units<cLine)(ho:s.heap.get? a=some o)(hd:o.data=.set es ep t)(hf:t.fits es.size=true)(hg:t.gaveWay=false)
  (hp:t.probe (Zsg es) (tupleKeyHash (intKind prog w) ks) (t.probeStart (tupleKeyHash (intKind prog w) ks))=some (.candidate j i nx)) (hi:es[i]?=some (tupleKeyHash (intKind prog w) ks,.ref b)) (kb:TK prog w s.heap ks b) (kc:TK prog w s.heap ks c)
  (hall:∀e∈es.toList,∃b ks,e.2=.ref b/\TK prog w s.heap ks b) (hQ:Q false { s with toks:=s.toks+(ks.length+1) }):wpAny (model prog w) A (setAdd a (.ref c)) Q E s:=by
 unfold setAdd
 refine QV (Qa (wpAny_pyHash_tuple hu kc ?_))
 unfold setAddHashed
 refine QV ?_
 rw[show(100000:Nat)=99999+1 from rfl]
 unfold setAddHashedIn
 refine Qa (QT (s:={ s with toks:=s.toks+(ks.length+1) }) ho hd hf ?_)
 dsimp only
 rw[show byScan (.ref c) es=false from rfl]
 simp only[Qr,↓reduceIte]
 refine Qa (Zd8 (s:={ s with toks:=s.toks+(ks.length+1) }) hu ho hd hf hg hp hi kb kc hall ?_)
 exact Qc hQ
theorem Zj2{a c:Addr}{ks:List Int}{o:Obj}{es:Array (Int×Value)}{ep:Nat}{t:SetTable}{j:Nat}{Q:Bool->Shared->Prop}(hu:A.units<cLine)(ho:s.heap.get? a=some o)(hd:o.data=.set es ep t)(hf:t.fits es.size=true)(hg:t.gaveWay=false)(hb:es.size<1000)
  (hp:t.probe (Zsg es) (tupleKeyHash (intKind prog w) ks) (t.probeStart (tupleKeyHash (intKind prog w) ks))=some (.empty j none)) (kc:TK prog w s.heap ks c) (hfull:(t.put j).1.tooFull=false)
  (hQ:∀pl:Bool,Q true { s with heap:=s.heap.update a (Obj.putSet (SetTable.insertAt es (t.put j).2 (tupleKeyHash (intKind prog w) ks,.ref c)) { (t.put j).1 with plain:=pl }),toks:=s.toks+(ks.length+1) }):wpAny (model prog w) A (setAdd a (.ref c)) Q E s:=by
 unfold setAdd
 refine QV (Qa (wpAny_pyHash_tuple hu kc ?_))
 unfold setAddHashed
 refine QV ?_
 rw[show(100000:Nat)=99999+1 from rfl]
 unfold setAddHashedIn
 refine Qa (QT (s:={ s with toks:=s.toks+(ks.length+1) }) ho hd hf ?_)
 dsimp only
 rw[show byScan (.ref c) es=false from rfl]
 simp only[Qr,↓reduceIte]
 refine Qa (Uu (s:={ s with toks:=s.toks+(ks.length+1) }) ho hd hf hg hp ?_)
 dsimp only
 refine Qa (QT (s:={ s with toks:=s.toks+(ks.length+1) }) ho hd hf ?_)
 dsimp only
 have fin:∀pl:Bool,wpAny (model prog w) A (do
   storeSet a (SetTable.insertAt es (t.put j).2 (tupleKeyHash (intKind prog w) ks,.ref c)) { (t.put j).1 with plain:=pl }
   if(!false&&({ (t.put j).1 with plain:=pl }:SetTable).tooFull)=true then do
    setRelay a (SetTable.grown (es.size+1))
    pure true
   else pure true) Q E { s with toks:=s.toks+(ks.length+1) }:=fun pl=>by
  refine Qa (wpAny_storeSet_of (s:={ s with toks:=s.toks+(ks.length+1) }) ho hd ?_ ?_)
  ·rw[show({ (t.put j).1 with plain:=pl }:SetTable).tooFull=(t.put j).1.tooFull from rfl,hfull]
   simp only[Bool.and_false,Qr,if_false]
   exact Qc (hQ pl)
  ·have:(SetTable.insertAt es (t.put j).2 (tupleKeyHash (intKind prog w) ks,Value.ref c)).size<=2*es.size+1:=by
    unfold SetTable.insertAt
    simp only[Array.size_append,Array.size_push,Array.size_extract]
    omega
   rw[show sizeLine=16777216 from QK];omega
 split
 ·refine Qa (Zb8 (s:={ s with toks:=s.toks+(ks.length+1) }) kc fun b=>?_)
  rename_i hpl
  cases b with
  |true =>
   have:=fin true
   rw[show({ (t.put j).1 with plain:=true }:SetTable)=(t.put j).1 by
    generalize (t.put j).1=u at hpl
    cases u;cases hpl;rfl]at this
   exact this
  |false=>exact fin false
 ·refine Qa (Qc ?_)
  rename_i hpl
  have:=fin false
  rw[show({ (t.put j).1 with plain:=false }:SetTable)=(t.put j).1 by
   generalize (t.put j).1=u at hpl
   cases u;simp only[Bool.not_eq_true]at hpl;cases hpl;rfl]at this
  exact this
end
def Zb0(k:List Int):Int:=reduceHash (Builtin.Tuple.tupleHashOf (k.map hashInt))
def Zp5(pl:Array Nat):SetTable:={ mask:=7,place:=pl,dummies:=#[],finger:=0,led:=true,moves:=0,plain:=true }
def Zxn(σ:List (List Int))(i:Nat):Int:=(σ[i]?.map Zb0).getD 0
def stS(st:List (List Int)×Array Nat)(k:List Int):Option (List (List Int)×Array Nat) :=
 match(Zp5 st.2).probe (Zxn st.1) (Zb0 k) ((Zp5 st.2).probeStart (Zb0 k)) with
 |some (.candidate _ i _)=>if st.1[i]?=some k then some st else none
 |some (.empty j none) =>
  if((Zp5 st.2).put j).1.tooFull=false/\((Zp5 st.2).put j).1.fits (st.1.length+1)=true/\((Zp5 st.2).put j).2<=st.1.length then some (st.1.take ((Zp5 st.2).put j).2++[k]++st.1.drop ((Zp5 st.2).put j).2,((Zp5 st.2).put j).1.place) else none
 |_=>none
def runS:List (List Int)->List (List Int)×Array Nat->Option (List (List Int)×Array Nat)
 |[],st=>some st
 |k::ks,st=>(stS st k).bind (runS ks)
theorem tkz{α β:Type}(a:List α)(b:List β)(n:Nat):(a.zip b).take n=(a.take n).zip (b.take n):=by
 rw[List.zip_eq_zipWith,List.take_zipWith,<- List.zip_eq_zipWith]
theorem dpz{α β:Type}(a:List α)(b:List β)(n:Nat):(a.zip b).drop n=(a.drop n).zip (b.drop n):=by
 rw[List.zip_eq_zipWith,List.drop_zipWith,<- List.zip_eq_zipWith]
theorem Ziz{α:Type}(xs:Array α)(p:Nat)(x:α):(SetTable.insertAt xs p x).toList=xs.toList.take p++[x]++xs.toList.drop p:=by
 obtain⟨l⟩:=xs
 unfold SetTable.insertAt
 rw[Array.toList_append,Array.toList_push,Array.toList_extract,Array.toList_extract]
 simp only[List.extract_eq_take_drop,List.drop_zero,Nat.sub_zero,Qi]
 rw[J3 (l:=l.drop p) (by simp)]
section
variable{prog:Program}{w:World}
theorem Zse(k:List Int):tupleKeyHash (intKind prog w) k=Zb0 k:=rfl
structure Zhh(t u:SetTable):Prop where
 m:t.mask=u.mask
 p:t.place=u.place
 d:t.dummies=u.dummies
theorem Zhh.slot{t u:SetTable}(e:Zhh t u)(j:Nat):t.slot j=u.slot j:=by unfold SetTable.slot;rw[e.p,e.d]
theorem Zhh.adv{t u:SetTable}(e:Zhh t u)(p:SetTable.Probe):t.advance p=u.advance p:=by unfold SetTable.advance;rw[e.m]
theorem Zhh.start{t u:SetTable}(e:Zhh t u)(h:Int):t.probeStart h=u.probeStart h:=by unfold SetTable.probeStart;rw[e.m]
theorem Zhh.go{t u:SetTable}(e:Zhh t u)(f:Nat->Int)(h:Int):∀(n:Nat) (p:SetTable.Probe),SetTable.probe.go t f h n p=SetTable.probe.go u f h n p:=by
 intro n
 induction n with
 |zero=>intro p;rfl
 |succ n ih =>
  intro p
  unfold SetTable.probe.go
  rw[e.slot]
  cases u.slot p.j with
  |empty=>rfl
  |dummy=>dsimp only;rw[e.adv,ih]
  |live i=>dsimp only;rw[e.adv,ih]
theorem Zhh.probe{t u:SetTable}(e:Zhh t u)(f:Nat->Int)(h:Int)(p:SetTable.Probe):t.probe f h p=u.probe f h p:=by
 unfold SetTable.probe;rw[e.m];exact e.go f h _ p
theorem Zhh.put{t u:SetTable}(e:Zhh t u)(j:Nat):(t.put j).2=(u.put j).2/\Zhh (t.put j).1 (u.put j).1:=by
 unfold SetTable.put
 dsimp only
 rw[e.p,e.d]
 exact⟨rfl,⟨e.m,rfl,rfl⟩⟩
theorem Zhh.fill{t u:SetTable}(e:Zhh t u):t.tooFull=u.tooFull/\(∀n,t.fits n=u.fits n)/\t.gaveWay=u.gaveWay:=by
 refine⟨?_,fun n=>?_,?_⟩
 ·unfold SetTable.tooFull SetTable.fill;rw[e.m,e.p,e.d]
 ·unfold SetTable.fits SetTable.fill;rw[e.m,e.p,e.d]
 ·unfold SetTable.gaveWay;rw[e.m]
structure TupS(prog:Program)(w:World)(no:List Addr)(h:Heap)(S:Addr)(st:List (List Int)×Array Nat):Prop where
 ex:∃(o:Obj) (es:Array (Int×Value)) (ep:Nat) (t:SetTable) (bs:List Addr),h.get? S=some o/\o.ExactSet/\o.data=.set es ep t/\Zhh t (Zp5 st.2)/\t.fits es.size=true /\
  es.toList=(st.1.zip bs).map (fun p=>(Zb0 p.1,Value.ref p.2))/\bs.length=st.1.length/\∀p∈st.1.zip bs,TK prog w h p.1 p.2/\p.2∉no
theorem TupS.len{no:List Addr}{h:Heap}{S:Addr}{st:List (List Int)×Array Nat}(x:TupS prog w no h S st):∃(o:Obj) (es:Array (Int×Value)) (ep:Nat) (t:SetTable),h.get? S=some o/\o.ExactSet/\o.data=.set es ep t/\t.fits es.size=true/\es.size=st.1.length:=by
 obtain⟨o,es,ep,t,bs,a,b,c,_,d,e,f,_⟩:=x.ex
 refine⟨o,es,ep,t,a,b,c,d,?_⟩
 rw[<- Qx,e,Qd,QM];omega
theorem TK.keep{h h':Heap}{k:List Int}{b S:Addr}{o:Obj}{es:Array (Int×Value)}{ep:Nat}{t:SetTable}(x:TK prog w h k b)(ho:h.get? S=some o)(hd:o.data=.set es ep t)(hs:Heap.SameBut S h h'):TK prog w h' k b:=by
 obtain⟨ob,its,n,hb,hc,hdb,hi⟩:=x
 have:b≠S:=fun e=>by subst e;rw[hb]at ho;cases ho;rw[hd]at hdb;cases hdb
 exact⟨ob,its,n,by rw[hs.2 b this];exact hb,hc,hdb,hi⟩
variable{A:Around}{E:Value->Shared->Prop}{s:Shared}
theorem Zhq{no:List Addr}{S c:Addr}{k:List Int}{st st':List (List Int)×Array Nat}{Q:Bool->Shared->Prop}(hu:A.units<cLine)(x:TupS prog w no s.heap S st)(hk:TK prog w s.heap k c)(hno:c∉no)(hst:stS st k=some st')(h1000:st.1.length<1000)
  (h:∀(b:Bool) (h':Heap),Heap.SameBut S s.heap h'->TupS prog w no h' S st'->Q b { s with heap:=h',toks:=s.toks+(k.length+1) }):wpAny (model prog w) A (setAdd S (.ref c)) Q E s:=by
 obtain⟨o,es,ep,t,bs,ho,hex,hd,te,hf,hes,hbl,hkeys⟩:=x.ex
 have esz:es.size=st.1.length:=by rw[<- Qx,hes,Qd,QM];omega
 have hat:Zsg es=Zxn st.1:=by
  funext i
  unfold Zsg Zxn
  rw[<- QQ,hes,QC]
  by_cases hi:i<st.1.length
  ·rw[Qn (by rw[QM];omega),Qn hi,JZ];rfl
  ·rw[QG (by rw[QM];omega),QG (by omega)];rfl
 have hgw:t.gaveWay=false:=by rw[te.fill.2.2];show((7:Nat)%2 == 0)=false;decide
 have hpr:t.probe (Zsg es) (tupleKeyHash (intKind prog w) k) (t.probeStart (tupleKeyHash (intKind prog w) k))=(Zp5 st.2).probe (Zxn st.1) (Zb0 k) ((Zp5 st.2).probeStart (Zb0 k)):=by rw[Zse,hat,te.start,te.probe]
 have hall:∀e∈es.toList,∃b ks,e.2=Value.ref b/\TK prog w s.heap ks b:=fun e he=>by
  rw[hes]at he
  obtain⟨p,hp,rfl⟩:=QA.mp he
  exact⟨p.2,p.1,rfl,(hkeys p hp).1⟩
 unfold stS at hst
 split at hst
 ·rename_i j i nx hm
  split at hst
  ·rename_i hik
   cases hst
   have hil:=(Qj.mp hik).1
   have hb:bs[i]?=some bs[i]:=Qn (by omega)
   have hei:es[i]?=some (tupleKeyHash (intKind prog w) k,Value.ref bs[i]):=by
    rw[<- QQ,hes,QC,Qn (by rw[QM];omega),JZ,(Qj.mp hik).2];rfl
   have hz:(k,bs[i])∈st.1.zip bs:=by
    refine List.mem_iff_getElem.mpr ⟨i,by rw[QM];omega,?_⟩
    rw[JZ,(Qj.mp hik).2]
   refine Zb9 hu ho hd hf hgw (by rw[hpr,hm]) hei (hkeys _ hz).1 hk hall ?_
   have:=h false s.heap (Heap.SameBut.refl S s.heap) x
   exact this
  ·cases hst
 ·rename_i j hm
  split at hst
  ·rename_i hc
   obtain⟨c1,c2,c3⟩:=hc
   cases hst
   obtain⟨p2,p1⟩:=te.put j
   refine Zj2 hu ho hd hf hgw (by omega) (by rw[hpr,hm]) hk (by rw[p1.fill.1];exact c1) fun pl=>?_
   have hsb:=Q6 s.heap S (Obj.putSet (SetTable.insertAt es (t.put j).2 (tupleKeyHash (intKind prog w) k,Value.ref c)) { (t.put j).1 with plain:=pl })
   have hg:(s.heap.update S (Obj.putSet (SetTable.insertAt es (t.put j).2 (tupleKeyHash (intKind prog w) k,Value.ref c)) { (t.put j).1 with plain:=pl })).get? S=some { o with data:=.set (SetTable.insertAt es (t.put j).2 (tupleKeyHash (intKind prog w) k,Value.ref c)) (ep+1) { (t.put j).1 with plain:=pl } }:=by
    have:=QR (Obj.putSet (SetTable.insertAt es (t.put j).2 (tupleKeyHash (intKind prog w) k,Value.ref c)) { (t.put j).1 with plain:=pl }) ho (by rw[putSet_of _ _ hd];rfl)
    rw[putSet_of _ _ hd]at this;exact this
   have il:=Ziz es (t.put j).2 (tupleKeyHash (intKind prog w) k,Value.ref c)
   have zl:(st.1.take (t.put j).2++[k]++st.1.drop (t.put j).2).zip (bs.take (t.put j).2++[c]++bs.drop (t.put j).2)=(st.1.zip bs).take (t.put j).2++[(k,c)]++(st.1.zip bs).drop (t.put j).2:=by
    rw[List.zip_append (by simp;omega),List.zip_append (by simp;omega),tkz,dpz];rfl
   refine h true _ hsb ⟨_,_,_,_,bs.take (t.put j).2++[c]++bs.drop (t.put j).2,hg,hex,rfl,⟨p1.m,p1.p,p1.d⟩,?_,?_,?_,?_⟩
   ·have sz:(SetTable.insertAt es (t.put j).2 (tupleKeyHash (intKind prog w) k,Value.ref c)).size=st.1.length+1:=by
     rw[<- Qx,il]
     simp only[QI,QL,QX,List.length_singleton,Qx]
     omega
    rw[sz]
    have:=p1.fill.2.1 (st.1.length+1)
    rw[c2]at this
    exact this
   ·rw[il,<- p2,zl,hes]
    simp only[List.map_append,List.map_take,List.map_drop,Qh,JK]
    rfl
   ·rw[<- p2];simp;omega
   ·rw[<- p2,zl]
    intro p hp
    rcases QE.mp hp with hp|hp
    ·rcases QE.mp hp with hp|hp
     ·exact⟨(hkeys p (Jy hp)).1.keep ho hd hsb,(hkeys p (Jy hp)).2⟩
     ·rw[Q8.mp hp];exact⟨hk.keep ho hd hsb,hno⟩
    ·exact⟨(hkeys p (Jz hp)).1.keep ho hd hsb,(hkeys p (Jz hp)).2⟩
  ·cases hst
 ·cases hst
end
section
variable{prog:Program}{w:World}
theorem TupS.moved{no:List Addr}{h h':Heap}{S:Addr}{st:List (List Int)×Array Nat}(x:TupS prog w no h S st)(hS:S∉no)(k:∀b o,b∉no->h.get? b=some o->h'.get? b=some o):TupS prog w no h' S st:=by
 obtain⟨o,es,ep,t,bs,ho,hex,hd,te,hf,hes,hbl,hk⟩:=x.ex
 refine⟨o,es,ep,t,bs,k _ _ hS ho,hex,hd,te,hf,hes,hbl,fun p hp=>?_⟩
 obtain⟨⟨ob,its,n,hb,r⟩,hn⟩:=hk p hp
 exact⟨⟨ob,its,n,k _ _ hn hb,r⟩,hn⟩
variable{A:Around}{R:Result->Shared->Prop}{I:Addr}{fp wr:List Addr}{G:Array GenState->Array GenState->Prop}{n:Nat}{P:Nat->Value->Prop}{St:Nat->Shared->Prop}
theorem Zh3:∀(ks:List (List Int)) (st st':List (List Int)×Array Nat),runS ks st=some st'->st'.1.length<=st.1.length+ks.length:=by
 intro ks
 induction ks with
 |nil=>intro st st' h;cases h;exact Qg _
 |cons k ks ih =>
  intro st st' h
  obtain⟨u,e1,e2⟩:=bind_some h
  have:=ih u st' e2
  have:u.1.length<=st.1.length+1:=by
   unfold stS at e1
   split at e1
   ·split at e1
    ·cases e1;omega
    ·cases e1
   ·split at e1
    ·cases e1;simp;omega
    ·cases e1
   ·cases e1
  simp only[Qp];omega
theorem loop_set(W:WalksS prog w A.in1 I fp wr G n P St)(S:Addr)(hSf:S∉fp){h0:Heap}{ks:List (List Int)}(hn:ks.length=n)(h500:n<=500)(hval:∀i v,P i v->∃c k,ks[i]?=some k/\v=.ref c/\TK prog w h0 k c/\c≠S/\c∉wr)(hu:A.in1.units<cLine) :
  ∀(r i:Nat) (s:Shared) (st stn:List (List Int)×Array Nat),n-i=r->i<=n->st.1.length<=i->St i s->(∀b o,b≠S->b∉wr->h0.get? b=some o->s.heap.get? b=some o)->TupS prog w wr s.heap S st->runS (ks.drop i) st=some stn ->
   (∀s',Moved (S::wr) G s s'->TupS prog w wr s'.heap S stn->R (.ok (.ret .none)) s')->codeAny (model prog w) A (.builtin "set.update.loop" ⟨[.ref S,.ref I],[]⟩) R s:=by
 have hSw:S∉wr:=fun h=>hSf (W.sub _ h)
 have hsub:∀b∈wr,b∈S::wr:=fun b hb=>Qe _ hb
 intro r
 induction r with
 |zero =>
  intro i s st stn hr hi hl hst h0k hS hrun hR
  obtain rfl:i=n:=by omega
  rw[<- hn,List.drop_length]at hrun
  cases hrun
  refine JL F.entry_set_update_loop ?_
  rw[Jv JE _]
  show wpAny _ A.in1 (pyNext (.ref I) >>= _) _ _ s
  refine Qa (W.done s _ _ hst fun s' hm=>?_)
  show wpAny _ A.in1 (ret Value.none) _ _ s'
  exact Qc (hR s' (hm.mono hsub) (hS.moved hSw fun b o hb e=>hm.heap b o hb e))
 |succ r ih =>
  intro i s st stn hr hi hl hst h0k hS hrun hR
  have hlt:i<n:=by omega
  refine JL F.entry_set_update_loop ?_
  rw[Jv JE _]
  show wpAny _ A.in1 (pyNext (.ref I) >>= _) _ _ s
  refine Qa (W.item i s _ _ hlt hst fun v s' hP hst' hm=>?_)
  obtain⟨c,k,hk,rfl,hc,hcS,hcw⟩:=hval i v hP
  have hdrop:ks.drop i=k::ks.drop (i+1):=by
   obtain⟨h1,h2⟩:=Qj.mp hk
   rw[Jk h1,h2]
  rw[hdrop]at hrun
  obtain⟨u,e1,e2⟩:=bind_some hrun
  have hS':=hS.moved hSw fun b o hb e=>hm.heap b o hb e
  have hc':TK prog w s'.heap k c:=by
   obtain⟨ob,its,m,hb,Z0⟩:=hc
   exact⟨ob,its,m,hm.heap _ _ hcw (h0k _ _ hcS hcw hb),Z0⟩
  show wpAny _ A.in1 (holding [Value.ref c] (setAdd S (.ref c)) >>= _) _ _ s'
  refine Qa (QV ?_)
  refine Zhq hu hS' hc' hcw e1 (by omega) fun b h' hsb hS2=>?_
  have ul:u.1.length<=i+1:=by
   have:=Zh3 [k] st u (by show(stS st k).bind (runS [])=_;rw[e1];rfl)
   simp at this;omega
  refine Qc ⟨plainId_quiet JE _,ih (i+1) _ u stn (by omega) hlt ul (W.frame _ s' _ _ hst' (by omega) fun b hb o e=>?_) (fun b o hbS hbw e=>?_) hS2 e2 fun s'' hm'' hS''=>?_⟩
  ·rw[hsb.2 b (fun h:b=S=>hSf (by rw[<- h];exact hb))];exact e
  ·show h'.get? b=some o
   rw[hsb.2 b hbS];exact hm.heap _ _ hbw (h0k b o hbS hbw e)
  ·refine hR s'' (Moved.trans W.gtrans ((hm.mono hsub).then_heap (by omega) fun b o hb e=>?_) hm'') hS''
   rw[hsb.2 b (fun h:b=S=>hb (by rw[h];exact Qf))];exact e
end
end L2

namespace PySem
open PySem.Spec PyProof.Rows
section
variable{prog:Program}{w:World}{A:Around}{E:Value->Shared->Prop}{s:Shared}
set_option maxHeartbeats 8000000 in
theorem Zej{l:Addr}{items:Array Value}{ks:List (List Int)}{stn:List (List Int)×Array Nat}{Q:Value->Shared->Prop}(hh:A.handled=none)(hu:A.units+60<cLine)(hl:s.heap.IsList l items)(hn:ks.length=items.size)(h500:items.size<=500)
  (hk:∀(i:Nat) (v:Value),items[i]?=some v->∃(c:Addr) (k:List Int),ks[i]?=some k/\v=Value.ref c/\L2.TK prog w s.heap k c) (hrun:L2.runS ks ([],#[])=some stn)
  (h:∀(h':Heap) (tk:Nat),(∃no,L2.TupS prog w no h' s.heap.objs.size stn)->(∀b o,b<s.heap.objs.size->s.heap.get? b=some o->h'.get? b=some o)->s.toks<=tk->Q (.ref s.heap.objs.size) { s with heap:=h',toks:=tk }) :
  wpAny (model prog w) A (call (.type "set") [.ref l]) Q E s:=by
 obtain⟨c,tl,hmro⟩:=Jg.mro
 have hmade:=Jg.made
 have hsub:=Jg.sub
 refine wpAny_call (codeAny_of_tree ?_)
 show wpAny _ _ (callAny (.type "set") _) _ _ _
 refine Qc ⟨Code.quiet_builtin _ (by decide+kernel),JL F.entry_type_call ?_⟩
 rw[Around.under_plain (weight_type_call_type "set" [.ref l] []) rfl]
 have h1:=Jg.notType
 have h2:=Jg.canCreate
 have hct:=F.typeCall_set_1 (.ref l)
 repeat (any_goals (first|assumption|wp_step))
 refine J8 (code_set_new_1 (.ref l) (E:=E) (Q₁:=fun obj s₁=>∃led:Bool,obj=.ref s.heap.objs.size/\s₁={ s with heap:=s.heap.push { cls:=.type "set",dict:=none,data:=.set #[] 0 (.fresh 0 0 led) } }) fun led=>⟨led,rfl,rfl⟩) fun r s₁ hr=>?_
 cases r with
 |error e=>exact hr
 |ok fl =>
  cases fl with
  |ret obj =>
   obtain⟨led,rfl,rfl⟩:=hr
   have hS:(s.heap.push { cls:=.type "set",dict:=none,data:=.set #[] 0 (.fresh 0 0 led) }).get? s.heap.objs.size=some { cls:=.type "set",dict:=none,data:=.set #[] 0 (.fresh 0 0 led) }:=Qm _ rfl
   have hT:Shared.TypeIs { s with heap:=s.heap.push { cls:=.type "set",dict:=none,data:=.set #[] 0 (.fresh 0 0 led) } } (.ref s.heap.objs.size) "set":=⟨_,hS,rfl⟩
   have hli:=Jg.init.lookup
   have hbi:=Jg.init.bind (.ref s.heap.objs.size)
   repeat (any_goals (first|assumption|wp_step))
   refine J8 (codeAny_call_builtin (R:=wants (fun r s₂=>r=.none/\∃h' tk,s₂={ s with heap:=h',toks:=tk }/\(∃no,L2.TupS prog w no h' s.heap.objs.size stn) /\
     (∀b o,b<s.heap.objs.size->s.heap.get? b=some o->h'.get? b=some o)/\s.toks<=tk) E) Jg.init.plain F.entry_set_init (check_set_init_1 hT ?_)) fun r₂ s₂ hr₂=>?_
   ·obtain⟨ol,hol,hcl,nl,hdl⟩:=hl
    obtain⟨ocls,odict,odata,oslots⟩:=ol
    simp only at hcl hdl
    subst hcl;subst hdl
    have hol':(s.heap.push { cls:=.type "set",dict:=none,data:=.set #[] 0 (.fresh 0 0 led) }).get? l=some { cls:=.type "list",dict:=odict,data:=.seq items nl,slots:=oslots }:=Qb _ hol
    have hsls:=F.sub_list_set
    have hslf:=F.sub_list_frozenset
    have hne:(Value.type "list" == Value.type "dict")=false:=by decide
    have hl1:(s.heap.push { cls:=.type "set",dict:=none,data:=.set #[] 0 (.fresh 0 0 led) }).IsList l items:=⟨_,hol',rfl,nl,rfl⟩
    unfold Builtin.«set.__init__» noKeywords Builtin.Frozenset.updateFrom
    generalize hPI:pyIter=PI
    wp_walk
    subst hPI
    refine wpAny_pyIter_list hl1 ?_
    refine Qa (wpAny_runValue ?_)
    have hlS:l<s.heap.objs.size:=Qk hol
    have hh3:A.in1.in1.in1.handled=none:=by simp[hh]
    have hneI:l≠(s.heap.push { cls:=.type "set",dict:=none,data:=.set #[] 0 (.fresh 0 0 led) }).objs.size:=by
     rw[QN];exact Qo (QZ hlS)
    have hSf:s.heap.objs.size∉[(s.heap.push { cls:=.type "set",dict:=none,data:=.set #[] 0 (.fresh 0 0 led) }).objs.size,l]:=by
     rw[QN];simp only[Ql,Q8,Jd,or_false,not_or]
     exact⟨Qo (Ju _),JM hlS⟩
    have hval:∀(i:Nat) (v:Value),items[i]?=some v->∃(c:Addr) (k:List Int),ks[i]?=some k/\v=Value.ref c/\L2.TK prog w s.heap k c/\c≠s.heap.objs.size/\c∉[(s.heap.push { cls:=.type "set",dict:=none,data:=.set #[] 0 (.fresh 0 0 led) }).objs.size]:=fun i v hv=>by
     obtain⟨c,k,e1,e2,e3⟩:=hk i v hv
     obtain⟨ob,its,m,hb,Z0⟩:=e3
     have lt:=Qk hb
     refine⟨c,k,e1,e2,⟨ob,its,m,hb,Z0⟩,Qo lt,?_⟩
     rw[QN,Q8]
     exact Qo (QZ lt)
    refine L2.loop_set ((Walks.list hh3 _ l hneI items).toS) s.heap.objs.size hSf (h0:=s.heap) (ks:=ks) hn h500 hval (by simp only[Around.in1_units];omega) (items.size-0) 0 _ ([],#[]) stn (by omega) (Q1 _) (Qg _)
     ⟨⟨_,Qm _ rfl,rfl,rfl⟩,(hl1.push _)⟩ (fun b o _ _ e=>Qb _ (Qb _ e)) ?hS0 (by rw[List.drop_zero];exact hrun) ?hR
    case hS0 =>
     refine⟨_,#[],0,_,[],Qb _ hS,⟨rfl,rfl,rfl⟩,rfl,⟨rfl,rfl,rfl⟩,rfl,rfl,rfl,fun p hp=>(by cases hp)⟩
    case hR =>
     intro s' hm hS'
     obtain⟨h',g',d',tk',os'⟩:=s'
     have eg:g'=s.gens:=hm.gens
     have ed:d'=s.drawn:=hm.drawn
     have eo:os'=s.os:=hm.os
     subst eg;subst ed;subst eo
     show wpAny _ _ _ _ _ _
     refine Qc ?_
     show wpAny _ _ (ret Value.none) _ _ _
     refine Qc ⟨rfl,h',tk',rfl,⟨_,hS'⟩,fun b o hb e=>?_,hm.toks⟩
     have hb1:b≠s.heap.objs.size:=Qo hb
     have hb2:b≠(s.heap.push { cls:=.type "set",dict:=none,data:=.set #[] 0 (.fresh 0 0 led) }).objs.size:=by
      rw[QN];exact Qo (QZ hb)
     exact hm.heap b o (by simp only[Ql,Q8,Jd,or_false,not_or];exact⟨hb1,hb2⟩) (Qb _ (Qb _ e))
   ·cases r₂ with
    |error e=>exact hr₂
    |ok fl₂ =>
     cases fl₂ with
     |ret r =>
      obtain⟨rfl,h',tk,rfl,hS',hk',htk⟩:=hr₂
      repeat (any_goals (first|assumption|wp_step))
      exact h _ _ hS' hk' htk
     |_=>exact hr₂.elim
  |_=>exact hr.elim
end
end PySem

namespace L2
open PySem PySem.Spec PyProof.Rows
theorem Ztm:bootBuiltins ("set":Str)=some (Value.type "set"):=by decide+kernel
def Uv(σ:List Int)(k:Int):List Int:=if σ.any (· == k) then σ else σ++[k]
def Uy:D->Option D
 |.lst ds=>match XM ds with
  |some ns=>if ns.length<=4000 then some (.int ((ns.foldl Uv []).length:Nat)) else none
  |none=>match UG ds with
   |some ks=>if ks.length<=500 then(runS ks ([],#[])).bind fun st=>some (.int (st.1.length:Nat)) else none
   |none=>none
 |_=>none
section
variable{X:Cx}{pos:Pos}
def Zkf(p:Addr)(N:Nat)(h:Heap):Prop:=∃(o:Obj) (es:Array (Int×Value)) (ep:Nat) (t:SetTable),h.get? p=some o/\o.ExactSet/\o.data=.set es ep t/\t.fits es.size=true/\es.size=N
theorem Zl3{P:Program}{w:World}{H:Hp}{h:Heap}{p:Addr}{N:Nat}(x:Zkf p N h):Yr P w H h p (.ext (Zkf p N)):=by
 refine⟨x,let⟨o,_,_,_,ho,_⟩:=x;⟨o,ho⟩,fun h1 h2 ⟨o,es,ep,t,ho,r⟩ k=>⟨o,es,ep,t,k o ho,r⟩⟩
theorem Za8{prog:Program}{w:World}:∀{vs:List Value} {ns:List Int},IntsAre vs ns->PySem.ItemsAre (intKind prog w) ns vs
 |_,_,.nil=>.nil
 |_,_,.cons n t hr=>.cons (by show Value.isInt n (Value.int n t)=true;simp[Value.isInt]) (Za8 hr)
theorem Zpx{prog:Program}{w:World}{h:Heap}{a:Addr}{its:List Value}{k:List Int}(hi:IntsAre its k)(ht:IsTup h a its.toArray):TK prog w h k a:=by
 obtain⟨o,ho,hc,n,hd⟩:=ht
 exact⟨o,its.toArray,n,ho,hc,hd,by simpa using Za8 hi⟩
theorem Zee(ns:List Int):(firstMet (fun i=>ns.getD i 0) ns.length)=ns.foldl Uv []:=by
 unfold firstMet
 rw[show(List.range ns.length).map (fun i=>ns.getD i 0)=ns from U3 ns 0]
 rfl
def rSet(K:PySem.W.Frag)(xs:List V)(H:Hp)(Q:VK):Prop:=∃(O:List Addr) (d:D) (v:V) (n:Int),xs=[v]/\YJ K (mask O H) d v/\Uy d=some (.int n)/\∀p,H p=none->∃N:Nat,n=N/\Q (.ref p) (Y1 H p (.ext (Zkf p N)))
theorem Ztk(hc:X.calm=true)(hu:X.A.units+64<cLine):Xd X (.type "set") (rSet X.K):=by
 intro pins s σ H xs us Q I rs h
 obtain⟨O,d,v,n,rfl,rp,e,q⟩:=h
 unfold Uy at e
 split at e
 ·rename_i ds
  obtain⟨p,vs,rfl,hp,r2⟩:=rp
  obtain⟨u,rfl,ru⟩:=Xp rs
  cases ru
  obtain⟨its,rv,pl,_⟩:=I.list (WH.of (Zi _ _ hp))
  split at e
  ·rename_i ns ei
   split at e
   ·rename_i h4
    cases e
    cases Xw ei
    cases r2.ints
    have hi:=XZ rv
    have hl:its.length=ns.length:=hi.length
    refine call_set_list (items:=its.toArray) (ns:=ns) (I.ok.hd hc) pl.isList (by simpa using hi) (by rw[Qi];unfold scanBound;omega) fun h' tk hS hk=>?_
    have sz:its.toArray.size=ns.length:=by rw[Qi];exact hl
    rw[sz,Zee]at hS
    obtain⟨N,e1,q⟩:=q s.heap.objs.size (I.hok.fresh (Qg _))
    refine⟨.ref s.heap.objs.size,_,I.laid (t':=tk) (o:=.ext (Zkf s.heap.objs.size N)) (fun b o e=>hk b o (Qk e) e) (Qg _) (Zl3 ?_),rfl,q⟩
    obtain⟨o,es,ep,t,ho,hex,hd,_,_,_,hf,hz⟩:=hS
    exact⟨o,es,ep,t,ho,hex,hd,hf,by omega⟩
   ·cases e
  ·split at e
   ·rename_i ks ek
    split at e
    ·rename_i h5
     obtain⟨st,e1,e2⟩:=bind_some e
     cases e2
     cases WI ek
     have rm:=Zr.mono Zi _ _ r2
     have ta:=Zbo I rm rv
     have hl:=ta.len
     refine Zej (items:=its.toArray) (ks:=ks) (stn:=st) (I.ok.hd hc) (by omega) pl.isList (by rw[Qi];omega) (by rw[Qi];omega) (fun i v hv=>?_) e1 fun h' tk hS hk htk=>?_
     ·rw[<- QQ]at hv
      have hv:its[i]?=some v:=hv
      have hil:=(Qj.mp hv).1
      obtain⟨a,its',g1,g2,g3⟩:=ta.get (i:=i) (by omega)
      refine⟨a,ks.getD i [],?_,?_,Zpx g2 g3⟩
      ·rw[QO,Qn (by omega)];rfl
      ·rw[<- g1,QO,hv];rfl
     ·obtain⟨N,e3,q⟩:=q s.heap.objs.size (I.hok.fresh (Qg _))
      refine⟨.ref s.heap.objs.size,_,I.laid (t':=tk) (o:=.ext (Zkf s.heap.objs.size N)) (fun b o e=>hk b o (Qk e) e) (Qg _) (Zl3 ?_),rfl,q⟩
      obtain⟨no,x⟩:=hS
      obtain⟨o,es,ep,t,a1,a2,a3,a4,a5⟩:=x.len
      exact⟨o,es,ep,t,a1,a2,a3,a4,by omega⟩
    ·cases e
   ·cases e
 ·cases e
theorem Zo6(hc:X.calm=true):Xd X (.builtin "len") (fun xs H Q=>∃(p:Addr) (N:Nat),xs=[.ref p]/\H p=some (.ext (Zkf p N))/\N<=100000/\Q (.int (N:Int)) H):=by
 intro pins s σ H xs us Q I rs h
 obtain⟨p,N,rfl,hp,hN,q⟩:=h
 obtain⟨u,rfl,ru⟩:=Xp rs
 cases ru
 obtain⟨⟨o,es,ep,t,ho,hex,hd,hf,hz⟩,_⟩:=(show Yr X.prog X.w H s.heap p (.ext (Zkf p N)) from I.hok p _ hp)
 refine call_len_set ho hex hd hf (by omega) ?_
 refine⟨.int (N:Int),H,?_,⟨_,by rw[hz]⟩,q⟩
 exact I.kept (fun _ _ e=>e)
theorem Zrr{d:D}{y:D}(h:Uy d=some y):∃N:Nat,y=.int (N:Int)/\N<=100000:=by
 unfold Uy at h
 split at h
 ·split at h
  ·split at h
   ·rename_i ns _ h4
    cases h
    refine⟨_,rfl,?_⟩
    have:∀(ns:List Int) (σ:List Int),(ns.foldl Uv σ).length<=σ.length+ns.length:=by
     intro ns
     induction ns with
     |nil=>intro σ;exact Qg _
     |cons n ns ih =>
      intro σ
      have:=ih (Uv σ n)
      have:(Uv σ n).length<=σ.length+1:=by unfold Uv;split<;>simp
      simp only[List.foldl_cons,Qp];omega
    have:=this ns []
    simp only[QY]at this
    omega
   ·cases h
  ·split at h
   ·split at h
    ·rename_i ks _ h5
     obtain⟨st,e1,e2⟩:=bind_some h
     cases e2
     have:=Zh3 ks _ st e1
     simp only[QY]at this
     exact⟨_,rfl,by omega⟩
    ·cases h
   ·cases h
 ·cases h
theorem Zou{a:Expr}{fa:FE}{p1 p2 p3:Pos}(ha:EV X a fa)(hc:X.calm=true)(hu:X.A.units+64<cLine)(m1:X.mg "len"=none)(m2:X.mg "set"=none)(g1:Gl X "len":=by rfl)(g2:Gl X "set":=by rfl)
  (h1:starEach [a] X.env=(false,eval a X.env)::starEach [] X.env:=by rfl) (h2:starEach [Expr.Call (.Name "set" p2) [a] [] p3] X.env=(false,eval (.Call (.Name "set" p2) [a] [] p3) X.env)::starEach [] X.env:=by rfl)
  (hp:(backTo p3 (starEach [] X.env)).any (·.1)=false:=by rfl) (hp2:(backTo pos (starEach [] X.env)).any (·.1)=false:=by rfl) :
  EV X (.Call (.Name "len" p1) [.Call (.Name "set" p2) [a] [] p3] [] pos) (f1 Uy fa) :=
 PE.imp (VU (Zo6 hc) g1 m1 We (Ym (Vc (Ztk hc hu) g2 m2 Ztm (Ym ha Xh h1) (by decide) (by decide) h1 hp) Xh h2) (by decide) (by decide) h2 hp2) fun σ H Q h=>by
  obtain⟨O,ρ,d,rv,e,q⟩:=h
  obtain⟨x,e1,e⟩:=bind_some e
  obtain⟨N,rfl,hN⟩:=Zrr e
  refine⟨O,ρ,x,rv,e1,fun v H1 s1 r1=>?_⟩
  refine⟨O,x,v,N,rfl,r1,e,fun p hp=>⟨N,rfl,?_⟩⟩
  refine⟨p,N,rfl,Yc,hN,?_⟩
  exact q _ _ (Zf.trans s1 (Zf.new hp)) rfl
end
section
variable{prog:Program}{w:World}{A:Around}{E:Value->Shared->Prop}{s:Shared}
theorem Zho{ks:List Int}{c:Addr}{Q:Bool->Shared->Prop}(hk:TK prog w s.heap ks c)(h:Q true s):wpAny (model prog w) A (hashByValue 8 (.ref c)) Q E s:=by
 have hT:=hk.typeIs
 obtain⟨o,items,n,ho,_,hd,hi⟩:=hk
 unfold hashByValue
 refine Qa (wpAny_specialOf hT F.slot_tuple_hash.lookup ?_)
 show wpAny _ _ (seqItems? (.ref c) >>= _) _ _ s
 refine Qa (Js ho hd ?_)
 refine Qa ?_
 show wpAny _ _ (forIn items _ _) _ _ s
 rw[<- Array.forIn_toList]
 refine wpAny_forIn_list _ (fun Z0 r s'=>r.1=none/\s'=s/\∀v∈Z0,∃n t,v=Value.int n t) _ ?_ ?_ _ _ ⟨rfl,rfl,items_int hi⟩
 ·rintro v Z0 r s' ⟨_,rfl,hall⟩
  obtain⟨n,t,rfl⟩:=hall v Qf
  rw[show hashByValue 7 (Value.int n t)=pure true from rfl]
  refine Qa (Qc ?_)
  simp only[JW,Qr,if_false]
  exact Qc ⟨rfl,rfl,fun u hu=>hall u (Qe _ hu)⟩
 ·rintro⟨r1,r2⟩ s' ⟨hr,rfl,_⟩
  simp only at hr
  subst hr
  exact Qc h
theorem Zpm{a:Addr}{o:Obj}{es:Array (Int×Value)}{ep:Nat}{t t2:SetTable}{order:Array Nat}{wanted:Nat}{Q:Unit->Shared->Prop}(ho:s.heap.get? a=some o)(hd:o.data=.set es ep t)(hf:t.fits es.size=true)(hw:SetTable.sizeAbove wanted<=sizeLine)
  (hr:t.relaid (es.map (·.1)) wanted=some (t2,order)) (hz:(order.filterMap (es[·]?)).size=es.size) (hb:es.size<=1000)
  (h:Q () { s with heap:=s.heap.update a (Obj.putSet (order.filterMap (es[·]?)) t2) }):wpAny (model prog w) A (setRelay a wanted) Q E s:=by
 unfold setRelay
 refine Qa (QT ho hd hf ?_)
 dsimp only
 rw[if_neg (Nat.not_lt.mpr hw)]
 rw[hr]
 have hc:((order.filterMap (es[·]?)).size != es.size)=false:=by rw[hz];simp
 refine Qa ?_
 show wpAny (model prog w) A (if((order.filterMap (es[·]?)).size != es.size)=true then _ else pure (order.filterMap (es[·]?),t2)) _ E s
 rw[hc,if_neg (by decide)]
 refine Qc ?_
 exact wpAny_storeSet_of ho hd h (by rw[hz,show sizeLine=16777216 from QK];omega)
theorem Zhr{a c:Addr}{ks:List Int}{o:Obj}{es:Array (Int×Value)}{ep:Nat}{t:SetTable}{j:Nat}{Q:Bool->Shared->Prop}(hu:A.units<cLine)(ho:s.heap.get? a=some o)(hd:o.data=.set es ep t)(hf:t.fits es.size=true)(hg:t.gaveWay=false)(hb:es.size<400)
  (hp:t.probe (Zsg es) (tupleKeyHash (intKind prog w) ks) (t.probeStart (tupleKeyHash (intKind prog w) ks))=some (.empty j none)) (kc:TK prog w s.heap ks c)
  (hQ1:(t.put j).1.tooFull=false->Q true { s with heap:=s.heap.update a (Obj.putSet (SetTable.insertAt es (t.put j).2 (tupleKeyHash (intKind prog w) ks,.ref c)) (t.put j).1),toks:=s.toks+(ks.length+1) })
  (hQ2:(t.put j).1.tooFull=true->(t.put j).1.fits (SetTable.insertAt es (t.put j).2 (tupleKeyHash (intKind prog w) ks,Value.ref c)).size=true/\∃t2 order,SetTable.sizeAbove (SetTable.grown (es.size+1))<=sizeLine/\(t.put j).1.relaid ((SetTable.insertAt es (t.put j).2 (tupleKeyHash (intKind prog w) ks,Value.ref c)).map (·.1)) (SetTable.grown (es.size+1))=some (t2,order) /\
   (order.filterMap ((SetTable.insertAt es (t.put j).2 (tupleKeyHash (intKind prog w) ks,Value.ref c))[·]?)).size=(SetTable.insertAt es (t.put j).2 (tupleKeyHash (intKind prog w) ks,Value.ref c)).size /\
   Q true { s with heap:=(s.heap.update a (Obj.putSet (SetTable.insertAt es (t.put j).2 (tupleKeyHash (intKind prog w) ks,.ref c)) (t.put j).1)).update a (Obj.putSet (order.filterMap ((SetTable.insertAt es (t.put j).2 (tupleKeyHash (intKind prog w) ks,Value.ref c))[·]?)) t2),toks:=s.toks+(ks.length+1) }) :
  wpAny (model prog w) A (setAdd a (.ref c)) Q E s:=by
 unfold setAdd
 refine QV (Qa (wpAny_pyHash_tuple hu kc ?_))
 unfold setAddHashed
 refine QV ?_
 rw[show(100000:Nat)=99999+1 from rfl]
 unfold setAddHashedIn
 refine Qa (QT (s:={ s with toks:=s.toks+(ks.length+1) }) ho hd hf ?_)
 dsimp only
 rw[show byScan (.ref c) es=false from rfl]
 simp only[Qr,↓reduceIte]
 refine Qa (Uu (s:={ s with toks:=s.toks+(ks.length+1) }) ho hd hf hg hp ?_)
 dsimp only
 refine Qa (QT (s:={ s with toks:=s.toks+(ks.length+1) }) ho hd hf ?_)
 dsimp only
 have hsz:(SetTable.insertAt es (t.put j).2 (tupleKeyHash (intKind prog w) ks,Value.ref c)).size<=2*es.size+1:=by
  unfold SetTable.insertAt
  simp only[Array.size_append,Array.size_push,Array.size_extract]
  omega
 have fin:wpAny (model prog w) A (do
   storeSet a (SetTable.insertAt es (t.put j).2 (tupleKeyHash (intKind prog w) ks,.ref c)) (t.put j).1
   if(!false&&(t.put j).1.tooFull)=true then do
    setRelay a (SetTable.grown (es.size+1))
    pure true
   else pure true) Q E { s with toks:=s.toks+(ks.length+1) }:=by
  refine Qa (wpAny_storeSet_of (s:={ s with toks:=s.toks+(ks.length+1) }) ho hd ?_ (by rw[show sizeLine=16777216 from QK];omega))
  cases hfull:(t.put j).1.tooFull with
  |false =>
   simp only[Bool.and_false,Qr,if_false]
   exact Qc (hQ1 hfull)
  |true =>
   obtain⟨hf2,t2,order,hw,hr,hz,hq⟩:=hQ2 hfull
   simp only[Bool.not_false,Bool.and_self,if_true]
   have hg2:(s.heap.update a (Obj.putSet (SetTable.insertAt es (t.put j).2 (tupleKeyHash (intKind prog w) ks,Value.ref c)) (t.put j).1)).get? a=some { o with data:=.set (SetTable.insertAt es (t.put j).2 (tupleKeyHash (intKind prog w) ks,Value.ref c)) (ep+1) (t.put j).1 }:=by
    have:=QR (Obj.putSet (SetTable.insertAt es (t.put j).2 (tupleKeyHash (intKind prog w) ks,Value.ref c)) (t.put j).1) ho (by rw[putSet_of _ _ hd];rfl)
    rw[putSet_of _ _ hd]at this;exact this
   refine Qa (Zpm (s:={ s with heap:=s.heap.update a (Obj.putSet (SetTable.insertAt es (t.put j).2 (tupleKeyHash (intKind prog w) ks,.ref c)) (t.put j).1),toks:=s.toks+(ks.length+1) }) hg2 rfl hf2 hw hr hz (by omega) ?_)
   exact Qc hq
 split
 ·refine Qa (Zho (s:={ s with toks:=s.toks+(ks.length+1) }) kc ?_)
  exact fin
 ·refine Qa (Qc ?_)
  exact fin
end
def Zhe(mask:Nat)(pl:Array Nat):SetTable:={ mask:=mask,place:=pl,dummies:=#[],finger:=0,led:=true,moves:=0,plain:=true }
abbrev SG:=List (List Int)×Nat×Array Nat
def Zw5(st:SG)(k:List Int):Option SG :=
 if st.2.1%2=1 then
 match(Zhe st.2.1 st.2.2).probe (Zxn st.1) (Zb0 k) ((Zhe st.2.1 st.2.2).probeStart (Zb0 k)) with
 |some (.candidate _ i _)=>if st.1[i]?=some k then some st else none
 |some (.empty j none) =>
  if((Zhe st.2.1 st.2.2).put j).1.fits (st.1.length+1)=true/\((Zhe st.2.1 st.2.2).put j).2<=st.1.length then
   if((Zhe st.2.1 st.2.2).put j).1.tooFull=false then some (st.1.take ((Zhe st.2.1 st.2.2).put j).2++[k]++st.1.drop ((Zhe st.2.1 st.2.2).put j).2,st.2.1,((Zhe st.2.1 st.2.2).put j).1.place)
   else match((Zhe st.2.1 st.2.2).put j).1.relaid ((st.1.take ((Zhe st.2.1 st.2.2).put j).2++[k]++st.1.drop ((Zhe st.2.1 st.2.2).put j).2).map Zb0).toArray (SetTable.grown (st.1.length+1)) with
    |some (t2,order) =>
     if SetTable.sizeAbove (SetTable.grown (st.1.length+1))<=65536/\(order.toList.filterMap ((st.1.take ((Zhe st.2.1 st.2.2).put j).2++[k]++st.1.drop ((Zhe st.2.1 st.2.2).put j).2)[·]?)).length=st.1.length+1/\t2.fits (st.1.length+1)=true/\t2.dummies=#[] then
      some (order.toList.filterMap ((st.1.take ((Zhe st.2.1 st.2.2).put j).2++[k]++st.1.drop ((Zhe st.2.1 st.2.2).put j).2)[·]?),t2.mask,t2.place) else none
    |none=>none
  else none
 |_=>none
 else none
def runG:List (List Int)->SG->Option SG
 |[],st=>some st
 |k::ks,st=>(Zw5 st k).bind (runG ks)
theorem Zsr{α β:Type}(a:List α)(b:List β)(h:b.length=a.length):∀order:List Nat,order.filterMap ((a.zip b)[·]?)=(order.filterMap (a[·]?)).zip (order.filterMap (b[·]?)):=by
 intro order
 induction order with
 |nil=>rfl
 |cons i order ih =>
  by_cases hi:i<a.length
  ·have e1:(a.zip b)[i]?=some (a[i],b[i]):=by rw[Qn (by rw[QM];omega),JZ]
   rw[JT e1,JT (Qn hi),JT (Qn (by omega:i<b.length)),ih];rfl
  ·rw[JU (QG (by rw[QM];omega)),JU (QG (by omega)),JU (QG (by omega)),ih]
theorem Zlf{α β:Type}(a:List α)(b:List β)(h:b.length=a.length):∀order:List Nat,(order.filterMap (b[·]?)).length=(order.filterMap (a[·]?)).length:=by
 intro order
 induction order with
 |nil=>rfl
 |cons i order ih =>
  by_cases hi:i<a.length
  ·rw[JT (Qn hi),JT (Qn (by omega:i<b.length)),Qp,Qp,ih]
  ·rw[JU (QG (by omega)),JU (QG (by omega)),ih]
theorem Z0l{α:Type}(a:List α)(order:List Nat):∀x∈order.filterMap (a[·]?),x∈a:=fun x hx=>by
 obtain⟨i,_,e⟩:=Jm.mp hx
 exact List.mem_of_getElem? e
theorem Znq{t u:SetTable}{h:Array Int}{wanted:Nat}{t2:SetTable}{order:Array Nat}(e:u.relaid h wanted=some (t2,order)):∃t3,t.relaid h wanted=some (t3,order)/\Zhh t3 t2/\t3.led=t.led/\t3.plain=t.plain:=by
 unfold SetTable.relaid SetTable.laid at e ⊢
 cases hc:SetTable.layClean (SetTable.sizeAbove wanted-1) h with
 |none=>rw[hc]at e;cases e
 |some owner =>
  rw[hc]at e
  simp only[Option.bind_eq_bind,QB,Option.pure_def,Option.some.injEq,Prod.mk.injEq]at e ⊢
  obtain⟨e1,e2⟩:=e
  refine⟨_,⟨rfl,e2⟩,?_,rfl,rfl⟩
  subst e1
  exact⟨rfl,rfl,rfl⟩
section
variable{prog:Program}{w:World}
structure TupG(prog:Program)(w:World)(ld:Bool)(N:List Int×Addr->Prop)(h:Heap)(S:Addr)(st:SG):Prop where
 ex:∃(o:Obj) (es:Array (Int×Value)) (ep:Nat) (t:SetTable) (bs:List Addr),h.get? S=some o/\o.ExactSet/\o.data=.set es ep t/\Zhh t (Zhe st.2.1 st.2.2)/\t.fits es.size=true /\
  es.toList=(st.1.zip bs).map (fun p=>(Zb0 p.1,Value.ref p.2))/\bs.length=st.1.length/\(∀p∈st.1.zip bs,TK prog w h p.1 p.2/\N p)/\t.led=ld/\t.plain=true
variable{A:Around}{E:Value->Shared->Prop}{s:Shared}
theorem Zfo{ld:Bool}{N:List Int×Addr->Prop}{S c:Addr}{k:List Int}{st st':SG}{Q:Bool->Shared->Prop}(hu:A.units<cLine)(x:TupG prog w ld N s.heap S st)(hk:TK prog w s.heap k c)(hno:N (k,c))(hst:Zw5 st k=some st')(h400:st.1.length<400)
  (h:∀(b:Bool) (h':Heap),Heap.SameBut S s.heap h'->TupG prog w ld N h' S st'->Q b { s with heap:=h',toks:=s.toks+(k.length+1) }):wpAny (model prog w) A (setAdd S (.ref c)) Q E s:=by
 obtain⟨o,es,ep,t,bs,ho,hex,hd,te,hf,hes,hbl,hkeys,hled,hplain⟩:=x.ex
 have esz:es.size=st.1.length:=by rw[<- Qx,hes,Qd,QM];omega
 have hat:Zsg es=Zxn st.1:=by
  funext i
  unfold Zsg Zxn
  rw[<- QQ,hes,QC]
  by_cases hi:i<st.1.length
  ·rw[Qn (by rw[QM];omega),Qn hi,JZ];rfl
  ·rw[QG (by rw[QM];omega),QG (by omega)];rfl
 unfold Zw5 at hst
 split at hst
 ·rename_i hodd
  have hgw:t.gaveWay=false:=by rw[te.fill.2.2];show(st.2.1%2 == 0)=false;rw[hodd];rfl
  have hpr:t.probe (Zsg es) (tupleKeyHash (intKind prog w) k) (t.probeStart (tupleKeyHash (intKind prog w) k))=(Zhe st.2.1 st.2.2).probe (Zxn st.1) (Zb0 k) ((Zhe st.2.1 st.2.2).probeStart (Zb0 k)):=by rw[Zse,hat,te.start,te.probe]
  have hall:∀e∈es.toList,∃b ks,e.2=Value.ref b/\TK prog w s.heap ks b:=fun e he=>by
   rw[hes]at he
   obtain⟨p,hp,rfl⟩:=QA.mp he
   exact⟨p.2,p.1,rfl,(hkeys p hp).1⟩
  split at hst
  ·rename_i j i nx hm
   split at hst
   ·rename_i hik
    cases hst
    have hil:=(Qj.mp hik).1
    have hei:es[i]?=some (tupleKeyHash (intKind prog w) k,Value.ref bs[i]):=by
     rw[<- QQ,hes,QC,Qn (by rw[QM];omega),JZ,(Qj.mp hik).2];rfl
    have hz:(k,bs[i])∈st.1.zip bs:=by
     refine List.mem_iff_getElem.mpr ⟨i,by rw[QM];omega,?_⟩
     rw[JZ,(Qj.mp hik).2]
    refine Zb9 hu ho hd hf hgw (by rw[hpr,hm]) hei (hkeys _ hz).1 hk hall ?_
    exact h false s.heap (Heap.SameBut.refl S s.heap) x
   ·cases hst
  ·rename_i j hm
   split at hst
   ·rename_i hc
    obtain⟨c2,c3⟩:=hc
    obtain⟨p2,p1⟩:=te.put j
    have il:=Ziz es (t.put j).2 (tupleKeyHash (intKind prog w) k,Value.ref c)
    have zl:(st.1.take (t.put j).2++[k]++st.1.drop (t.put j).2).zip (bs.take (t.put j).2++[c]++bs.drop (t.put j).2)=(st.1.zip bs).take (t.put j).2++[(k,c)]++(st.1.zip bs).drop (t.put j).2:=by
     rw[List.zip_append (by simp;omega),List.zip_append (by simp;omega),tkz,dpz];rfl
    have e1:(SetTable.insertAt es (t.put j).2 (tupleKeyHash (intKind prog w) k,Value.ref c)).toList=((st.1.take (t.put j).2++[k]++st.1.drop (t.put j).2).zip (bs.take (t.put j).2++[c]++bs.drop (t.put j).2)).map (fun p=>(Zb0 p.1,Value.ref p.2)):=by
     rw[il,zl,hes]
     simp only[List.map_append,List.map_take,List.map_drop,Qh,JK]
     rfl
    have bl1:(bs.take (t.put j).2++[c]++bs.drop (t.put j).2).length=(st.1.take (t.put j).2++[k]++st.1.drop (t.put j).2).length:=by simp;omega
    have s1l:(st.1.take (t.put j).2++[k]++st.1.drop (t.put j).2).length=st.1.length+1:=by rw[p2];simp;omega
    have sz:(SetTable.insertAt es (t.put j).2 (tupleKeyHash (intKind prog w) k,Value.ref c)).size=st.1.length+1:=by
     rw[<- Qx,e1,Qd,QM,bl1,s1l];omega
    have pled:(t.put j).1.led=ld:=hled
    have ppl:(t.put j).1.plain=true:=hplain
    have mk:∀h',Heap.SameBut S s.heap h'->∀p∈(st.1.take (t.put j).2++[k]++st.1.drop (t.put j).2).zip (bs.take (t.put j).2++[c]++bs.drop (t.put j).2),TK prog w h' p.1 p.2/\N p:=by
     intro h' hsb p hp
     rw[zl]at hp
     rcases QE.mp hp with hp|hp
     ·rcases QE.mp hp with hp|hp
      ·exact⟨(hkeys p (Jy hp)).1.keep ho hd hsb,(hkeys p (Jy hp)).2⟩
      ·rw[Q8.mp hp];exact⟨hk.keep ho hd hsb,hno⟩
     ·exact⟨(hkeys p (Jz hp)).1.keep ho hd hsb,(hkeys p (Jz hp)).2⟩
    have hg1:(s.heap.update S (Obj.putSet (SetTable.insertAt es (t.put j).2 (tupleKeyHash (intKind prog w) k,Value.ref c)) (t.put j).1)).get? S=some { o with data:=.set (SetTable.insertAt es (t.put j).2 (tupleKeyHash (intKind prog w) k,Value.ref c)) (ep+1) (t.put j).1 }:=by
     have:=QR (Obj.putSet (SetTable.insertAt es (t.put j).2 (tupleKeyHash (intKind prog w) k,Value.ref c)) (t.put j).1) ho (by rw[putSet_of _ _ hd];rfl)
     rw[putSet_of _ _ hd]at this;exact this
    have fit1:(t.put j).1.fits (SetTable.insertAt es (t.put j).2 (tupleKeyHash (intKind prog w) k,Value.ref c)).size=true:=by
     rw[sz]
     have:=p1.fill.2.1 (st.1.length+1)
     rw[c2]at this
     exact this
    have hsb1:=Q6 s.heap S (Obj.putSet (SetTable.insertAt es (t.put j).2 (tupleKeyHash (intKind prog w) k,Value.ref c)) (t.put j).1)
    refine Zhr hu ho hd hf hgw (by omega) (by rw[hpr,hm]) hk (fun hfull=>?_) (fun hfull=>?_)
    ·rw[p1.fill.1]at hfull
     rw[if_pos hfull]at hst
     cases hst
     refine h true _ hsb1 ⟨_,_,_,_,bs.take (t.put j).2++[c]++bs.drop (t.put j).2,hg1,hex,rfl,⟨p1.m.trans te.m.symm |>.trans te.m,p1.p,p1.d⟩,fit1,?_,?_,?_,pled,ppl⟩
     ·rw[<- p2];exact e1
     ·rw[<- p2];exact bl1
     ·rw[<- p2];exact mk _ hsb1
    ·have hfull':=hfull
     rw[p1.fill.1]at hfull'
     rw[if_neg (by rw[hfull'];decide)]at hst
     split at hst
     ·rename_i t2 order hr
      split at hst
      ·rename_i hc2
       obtain⟨d1,d2,d3,d4⟩:=hc2
       cases hst
       rw[<- p2]at hr d2
       have hh:(SetTable.insertAt es (t.put j).2 (tupleKeyHash (intKind prog w) k,Value.ref c)).map (·.1)=((st.1.take (t.put j).2++[k]++st.1.drop (t.put j).2).map Zb0).toArray:=by
        apply Array.ext'
        rw[Array.toList_map,e1,Qy]
        have e5:((st.1.take (t.put j).2++[k]++st.1.drop (t.put j).2).zip (bs.take (t.put j).2++[c]++bs.drop (t.put j).2)).map (fun p=>Zb0 p.1)=(((st.1.take (t.put j).2++[k]++st.1.drop (t.put j).2).zip (bs.take (t.put j).2++[c]++bs.drop (t.put j).2)).map Prod.fst).map Zb0:=by rw[Qy];rfl
        rw[List.map_fst_zip (by omega)]at e5
        exact e5
       obtain⟨t3,hr3,te3,led3,pl3⟩:=Znq (t:=(t.put j).1) hr
       have ol:(order.filterMap ((SetTable.insertAt es (t.put j).2 (tupleKeyHash (intKind prog w) k,Value.ref c))[·]?)).toList=((order.toList.filterMap ((st.1.take (t.put j).2++[k]++st.1.drop (t.put j).2)[·]?)).zip (order.toList.filterMap ((bs.take (t.put j).2++[c]++bs.drop (t.put j).2)[·]?))).map (fun p=>(Zb0 p.1,Value.ref p.2)):=by
        rw[<- Zsr _ _ bl1,Array.toList_filterMap,List.map_filterMap]
        congr 1
        funext i
        rw[<- QQ,e1,QC]
       refine⟨fit1,t3,order,?_,by rw[hh,esz];exact hr3,?_,?_⟩
       ·rw[esz,show sizeLine=16777216 from QK];omega
       ·rw[<- Qx,ol,Qd,QM,Zlf _ _ bl1,Nat.min_self,d2,sz]
       ·have hg2:((s.heap.update S (Obj.putSet (SetTable.insertAt es (t.put j).2 (tupleKeyHash (intKind prog w) k,Value.ref c)) (t.put j).1)).update S (Obj.putSet (order.filterMap ((SetTable.insertAt es (t.put j).2 (tupleKeyHash (intKind prog w) k,Value.ref c))[·]?)) t3)).get? S=some { o with data:=.set (order.filterMap ((SetTable.insertAt es (t.put j).2 (tupleKeyHash (intKind prog w) k,Value.ref c))[·]?)) (ep+1+1) t3 }:=by
         have:=QR (Obj.putSet (order.filterMap ((SetTable.insertAt es (t.put j).2 (tupleKeyHash (intKind prog w) k,Value.ref c))[·]?)) t3) hg1 (by rw[putSet_of _ _ rfl];rfl)
         rw[putSet_of _ _ rfl]at this;exact this
        have hsb2:=hsb1.trans (Q6 _ S (Obj.putSet (order.filterMap ((SetTable.insertAt es (t.put j).2 (tupleKeyHash (intKind prog w) k,Value.ref c))[·]?)) t3))
        refine h true _ hsb2 ⟨_,_,_,_,order.toList.filterMap ((bs.take (t.put j).2++[c]++bs.drop (t.put j).2)[·]?),hg2,hex,rfl,⟨te3.m,te3.p,te3.d.trans d4⟩,?_,?_,?_,?_,led3.trans pled,pl3.trans ppl⟩
        ·rw[<- Qx,ol,Qd,QM,Zlf _ _ bl1,Nat.min_self,d2,te3.fill.2.1]
         exact d3
        ·rw[<- p2];exact ol
        ·rw[<- p2];exact Zlf _ _ bl1 order.toList
        ·rw[<- p2]
         intro p hp
         rw[<- Zsr _ _ bl1]at hp
         exact mk _ hsb2 p (Z0l _ _ p hp)
      ·cases hst
     ·cases hst
   ·cases hst
  ·cases hst
 ·cases hst
end
section
variable{prog:Program}{w:World}
theorem TupG.moved{ld:Bool}{N:List Int×Addr->Prop}{wr:List Addr}{h h':Heap}{S:Addr}{st:SG}(x:TupG prog w ld N h S st)(hN:∀p,N p->p.2∉wr)(hS:S∉wr)(k:∀b o,b∉wr->h.get? b=some o->h'.get? b=some o):TupG prog w ld N h' S st:=by
 obtain⟨o,es,ep,t,bs,ho,hex,hd,te,hf,hes,hbl,hk,hl,hpl⟩:=x.ex
 refine⟨o,es,ep,t,bs,k _ _ hS ho,hex,hd,te,hf,hes,hbl,fun p hp=>?_,hl,hpl⟩
 obtain⟨⟨ob,its,n,hb,r⟩,hn⟩:=hk p hp
 exact⟨⟨ob,its,n,k _ _ (hN p hn) hb,r⟩,hn⟩
variable{A:Around}{R:Result->Shared->Prop}{I:Addr}{fp wr:List Addr}{G:Array GenState->Array GenState->Prop}{n:Nat}{P:Nat->Value->Prop}{St:Nat->Shared->Prop}
theorem Zuf{st st':SG}{k:List Int}(e1:Zw5 st k=some st'):st'.1.length<=st.1.length+1:=by
 unfold Zw5 at e1
 split at e1
 ·split at e1
  ·split at e1
   ·cases e1;omega
   ·cases e1
  ·split at e1
   ·rename_i hc
    split at e1
    ·cases e1;simp;omega
    ·split at e1
     ·split at e1
      ·rename_i hc2
       cases e1
       have:=hc2.2.1
       simp only at this ⊢
       omega
      ·cases e1
     ·cases e1
   ·cases e1
  ·cases e1
 ·cases e1
theorem loop_setG{ld:Bool}{N:List Int×Addr->Prop}(hN:∀p,N p->p.2∉wr)(W:WalksS prog w A.in1 I fp wr G n P St)(S:Addr)(hSf:S∉fp){h0:Heap}{ks:List (List Int)}(hn:ks.length=n)(h500:n<=390)(hval:∀i v,P i v->∃c k,ks[i]?=some k/\v=.ref c/\TK prog w h0 k c/\c≠S/\N (k,c))(hu:A.in1.units<cLine) :
  ∀(r i:Nat) (s:Shared) (st stn:SG),n-i=r->i<=n->st.1.length<=i->St i s->(∀b o,b≠S->b∉wr->h0.get? b=some o->s.heap.get? b=some o)->TupG prog w ld N s.heap S st->runG (ks.drop i) st=some stn ->
   (∀s',Moved (S::wr) G s s'->TupG prog w ld N s'.heap S stn->R (.ok (.ret .none)) s')->codeAny (model prog w) A (.builtin "set.update.loop" ⟨[.ref S,.ref I],[]⟩) R s:=by
 have hSw:S∉wr:=fun h=>hSf (W.sub _ h)
 have hsub:∀b∈wr,b∈S::wr:=fun b hb=>Qe _ hb
 intro r
 induction r with
 |zero =>
  intro i s st stn hr hi hl hst h0k hS hrun hR
  obtain rfl:i=n:=by omega
  rw[<- hn,List.drop_length]at hrun
  cases hrun
  refine JL F.entry_set_update_loop ?_
  rw[Jv JE _]
  show wpAny _ A.in1 (pyNext (.ref I) >>= _) _ _ s
  refine Qa (W.done s _ _ hst fun s' hm=>?_)
  show wpAny _ A.in1 (ret Value.none) _ _ s'
  exact Qc (hR s' (hm.mono hsub) (hS.moved hN hSw fun b o hb e=>hm.heap b o hb e))
 |succ r ih =>
  intro i s st stn hr hi hl hst h0k hS hrun hR
  have hlt:i<n:=by omega
  refine JL F.entry_set_update_loop ?_
  rw[Jv JE _]
  show wpAny _ A.in1 (pyNext (.ref I) >>= _) _ _ s
  refine Qa (W.item i s _ _ hlt hst fun v s' hP hst' hm=>?_)
  obtain⟨c,k,hk,rfl,hc,hcS,hcN⟩:=hval i v hP
  have hcw:=hN _ hcN
  have hdrop:ks.drop i=k::ks.drop (i+1):=by
   obtain⟨h1,h2⟩:=Qj.mp hk
   rw[Jk h1,h2]
  rw[hdrop]at hrun
  obtain⟨u,e1,e2⟩:=bind_some hrun
  have hS':=hS.moved hN hSw fun b o hb e=>hm.heap b o hb e
  have hc':TK prog w s'.heap k c:=by
   obtain⟨ob,its,m,hb,Z0⟩:=hc
   exact⟨ob,its,m,hm.heap _ _ hcw (h0k _ _ hcS hcw hb),Z0⟩
  show wpAny _ A.in1 (holding [Value.ref c] (setAdd S (.ref c)) >>= _) _ _ s'
  refine Qa (QV ?_)
  refine Zfo hu hS' hc' hcN e1 (by omega) fun b h' hsb hS2=>?_
  have ul:u.1.length<=i+1:=by
   have:=Zuf e1
   omega
  refine Qc ⟨plainId_quiet JE _,ih (i+1) _ u stn (by omega) hlt ul (W.frame _ s' _ _ hst' (by omega) fun b hb o e=>?_) (fun b o hbS hbw e=>?_) hS2 e2 fun s'' hm'' hS''=>?_⟩
  ·rw[hsb.2 b (fun h:b=S=>hSf (by rw[<- h];exact hb))];exact e
  ·show h'.get? b=some o
   rw[hsb.2 b hbS];exact hm.heap _ _ hbw (h0k b o hbS hbw e)
  ·refine hR s'' (Moved.trans W.gtrans ((hm.mono hsub).then_heap (by omega) fun b o hb e=>?_) hm'') hS''
   rw[hsb.2 b (fun h:b=S=>hb (by rw[h];exact Qf))];exact e
end
theorem TupG.weak{prog:Program}{w:World}{ld:Bool}{N:List Int×Addr->Prop}{A:List Int×Addr->Prop}{h:Heap}{S:Addr}{st:SG}(x:TupG prog w ld (fun p=>A p/\N p) h S st):TupG prog w ld N h S st:=by
 obtain⟨o,es,ep,t,bs,ho,hex,hd,te,hf,hes,hbl,hk,r⟩:=x.ex
 exact⟨o,es,ep,t,bs,ho,hex,hd,te,hf,hes,hbl,fun p hp=>⟨(hk p hp).1,(hk p hp).2.2⟩,r⟩
end L2
namespace PySem
open PySem.Spec PyProof.Rows
section
variable{prog:Program}{w:World}{A:Around}{E:Value->Shared->Prop}{s:Shared}
theorem Zeh(a:Value){Q₁:Value->Shared->Prop}
  (h:Q₁ (.ref s.heap.objs.size) { s with heap:=s.heap.push { cls:=.type "set",dict:=none,data:=.set #[] 0 (.fresh 0 0 (!w.params.followText "set-order")) } }) :
  codeAny (model prog w) A (.call (.builtin "set.__new__") ⟨[.type "set",a],[]⟩) (wants Q₁ E) s:=by
 refine codeAny_of_tree ?_
 show wpAny _ A.in1 (do checkBuiltinCall "set.__new__" ⟨[.type "set",a],[]⟩;again (.builtin "set.__new__" ⟨[.type "set",a],[]⟩)) _ _ s
 refine Qa (wpAny_of_eq (F.newCall_set_1 a) (Qc ⟨plainId_quiet F.plain_set_new _,JL F.entry_set_new ?_⟩))
 rw[Jv F.plain_set_new _]
 unfold Builtin.«set.__new__» Builtin.Frozenset.newClass
 have hsub:=sub_set_self
 obtain⟨hp,g,d,tk,os⟩:=s
 dsimp only
 wp_walk
 refine JP (Qc ?_)
 dsimp only
 simp only[newObj]
 refine Qa (wpAny_alloc (Qc ?_))
 exact Qc h
set_option maxHeartbeats 8000000 in
theorem Zdt{l:Addr}{items:Array Value}{ks:List (List Int)}{stn:L2.SG}{Q:Value->Shared->Prop}(hh:A.handled=none)(hu:A.units+60<cLine)(hl:s.heap.IsList l items)(hn:ks.length=items.size)(h500:items.size<=390)
  (hk:∀(i:Nat) (v:Value),items[i]?=some v->∃(c:Addr) (k:List Int),ks[i]?=some k/\v=Value.ref c/\L2.TK prog w s.heap k c) (hrun:L2.runG ks ([],7,#[])=some stn)
  (h:∀(h':Heap) (tk:Nat),L2.TupG prog w (!w.params.followText "set-order") (fun p=>∃i:Nat,ks[i]?=some p.1/\items[i]?=some (Value.ref p.2)) h' s.heap.objs.size stn->(∀b o,b<s.heap.objs.size->s.heap.get? b=some o->h'.get? b=some o)->s.toks<=tk->Q (.ref s.heap.objs.size) { s with heap:=h',toks:=tk }) :
  wpAny (model prog w) A (call (.type "set") [.ref l]) Q E s:=by
 obtain⟨c,tl,hmro⟩:=Jg.mro
 have hmade:=Jg.made
 have hsub:=Jg.sub
 refine wpAny_call (codeAny_of_tree ?_)
 show wpAny _ _ (callAny (.type "set") _) _ _ _
 refine Qc ⟨Code.quiet_builtin _ (by decide+kernel),JL F.entry_type_call ?_⟩
 rw[Around.under_plain (weight_type_call_type "set" [.ref l] []) rfl]
 have h1:=Jg.notType
 have h2:=Jg.canCreate
 have hct:=F.typeCall_set_1 (.ref l)
 repeat (any_goals (first|assumption|wp_step))
 refine J8 (Zeh (.ref l) (E:=E) (Q₁:=fun obj s₁=>obj=.ref s.heap.objs.size/\s₁={ s with heap:=s.heap.push { cls:=.type "set",dict:=none,data:=.set #[] 0 (.fresh 0 0 (!w.params.followText "set-order")) } }) ⟨rfl,rfl⟩) fun r s₁ hr=>?_
 cases r with
 |error e=>exact hr
 |ok fl =>
  cases fl with
  |ret obj =>
   obtain⟨rfl,rfl⟩:=hr
   generalize hled:(!w.params.followText "set-order")=led at *
   have hS:(s.heap.push { cls:=.type "set",dict:=none,data:=.set #[] 0 (.fresh 0 0 led) }).get? s.heap.objs.size=some { cls:=.type "set",dict:=none,data:=.set #[] 0 (.fresh 0 0 led) }:=Qm _ rfl
   have hT:Shared.TypeIs { s with heap:=s.heap.push { cls:=.type "set",dict:=none,data:=.set #[] 0 (.fresh 0 0 led) } } (.ref s.heap.objs.size) "set":=⟨_,hS,rfl⟩
   have hli:=Jg.init.lookup
   have hbi:=Jg.init.bind (.ref s.heap.objs.size)
   repeat (any_goals (first|assumption|wp_step))
   refine J8 (codeAny_call_builtin (R:=wants (fun r s₂=>r=.none/\∃h' tk,s₂={ s with heap:=h',toks:=tk }/\L2.TupG prog w (!w.params.followText "set-order") (fun p=>∃i:Nat,ks[i]?=some p.1/\items[i]?=some (Value.ref p.2)) h' s.heap.objs.size stn /\
     (∀b o,b<s.heap.objs.size->s.heap.get? b=some o->h'.get? b=some o)/\s.toks<=tk) E) Jg.init.plain F.entry_set_init (check_set_init_1 hT ?_)) fun r₂ s₂ hr₂=>?_
   ·obtain⟨ol,hol,hcl,nl,hdl⟩:=hl
    obtain⟨ocls,odict,odata,oslots⟩:=ol
    simp only at hcl hdl
    subst hcl;subst hdl
    have hol':(s.heap.push { cls:=.type "set",dict:=none,data:=.set #[] 0 (.fresh 0 0 led) }).get? l=some { cls:=.type "list",dict:=odict,data:=.seq items nl,slots:=oslots }:=Qb _ hol
    have hsls:=F.sub_list_set
    have hslf:=F.sub_list_frozenset
    have hne:(Value.type "list" == Value.type "dict")=false:=by decide
    have hl1:(s.heap.push { cls:=.type "set",dict:=none,data:=.set #[] 0 (.fresh 0 0 led) }).IsList l items:=⟨_,hol',rfl,nl,rfl⟩
    unfold Builtin.«set.__init__» noKeywords Builtin.Frozenset.updateFrom
    generalize hPI:pyIter=PI
    wp_walk
    subst hPI
    refine wpAny_pyIter_list hl1 ?_
    refine Qa (wpAny_runValue ?_)
    have hlS:l<s.heap.objs.size:=Qk hol
    have hh3:A.in1.in1.in1.handled=none:=by simp[hh]
    have hneI:l≠(s.heap.push { cls:=.type "set",dict:=none,data:=.set #[] 0 (.fresh 0 0 led) }).objs.size:=by
     rw[QN];exact Qo (QZ hlS)
    have hSf:s.heap.objs.size∉[(s.heap.push { cls:=.type "set",dict:=none,data:=.set #[] 0 (.fresh 0 0 led) }).objs.size,l]:=by
     rw[QN];simp only[Ql,Q8,Jd,or_false,not_or]
     exact⟨Qo (Ju _),JM hlS⟩
    have hval:∀(i:Nat) (v:Value),items[i]?=some v->∃(c:Addr) (k:List Int),ks[i]?=some k/\v=Value.ref c/\L2.TK prog w s.heap k c/\c≠s.heap.objs.size/\(c∉[(s.heap.push { cls:=.type "set",dict:=none,data:=.set #[] 0 (.fresh 0 0 led) }).objs.size]/\∃i:Nat,ks[i]?=some k/\items[i]?=some (Value.ref c)):=fun i v hv=>by
     obtain⟨c,k,e1,e2,e3⟩:=hk i v hv
     obtain⟨ob,its,m,hb,Z0⟩:=e3
     have lt:=Qk hb
     refine⟨c,k,e1,e2,⟨ob,its,m,hb,Z0⟩,Qo lt,?_,i,e1,by rw[<- e2];exact hv⟩
     rw[QN,Q8]
     exact Qo (QZ lt)
    refine L2.loop_setG (ld:=led) (N:=fun p=>p.2∉[(s.heap.push { cls:=.type "set",dict:=none,data:=.set #[] 0 (.fresh 0 0 led) }).objs.size]/\∃i:Nat,ks[i]?=some p.1/\items[i]?=some (Value.ref p.2)) (fun p hp=>hp.1) ((Walks.list hh3 _ l hneI items).toS) s.heap.objs.size hSf (h0:=s.heap) (ks:=ks) hn h500 hval (by simp only[Around.in1_units];omega) (items.size-0) 0 _ ([],7,#[]) stn (by omega) (Q1 _) (Qg _)
     ⟨⟨_,Qm _ rfl,rfl,rfl⟩,(hl1.push _)⟩ (fun b o _ _ e=>Qb _ (Qb _ e)) ?hS0 (by rw[List.drop_zero];exact hrun) ?hR
    case hS0 =>
     refine⟨_,#[],0,_,[],Qb _ hS,⟨rfl,rfl,rfl⟩,rfl,⟨rfl,rfl,rfl⟩,rfl,rfl,rfl,fun p hp=>(by cases hp),rfl,rfl⟩
    case hR =>
     intro s' hm hS'
     obtain⟨h',g',d',tk',os'⟩:=s'
     have eg:g'=s.gens:=hm.gens
     have ed:d'=s.drawn:=hm.drawn
     have eo:os'=s.os:=hm.os
     subst eg;subst ed;subst eo
     show wpAny _ _ _ _ _ _
     refine Qc ?_
     show wpAny _ _ (ret Value.none) _ _ _
     refine Qc ⟨rfl,h',tk',rfl,(by rw[hled];exact L2.TupG.weak hS'),fun b o hb e=>?_,hm.toks⟩
     have hb1:b≠s.heap.objs.size:=Qo hb
     have hb2:b≠(s.heap.push { cls:=.type "set",dict:=none,data:=.set #[] 0 (.fresh 0 0 led) }).objs.size:=by
      rw[QN];exact Qo (QZ hb)
     exact hm.heap b o (by simp only[Ql,Q8,Jd,or_false,not_or];exact⟨hb1,hb2⟩) (Qb _ (Qb _ e))
   ·cases r₂ with
    |error e=>exact hr₂
    |ok fl₂ =>
     cases fl₂ with
     |ret r =>
      obtain⟨rfl,h',tk,rfl,hS',hk',htk⟩:=hr₂
      repeat (any_goals (first|assumption|wp_step))
      exact h _ _ (by rw[hled]at hS';exact hS') hk' htk
     |_=>exact hr₂.elim
  |_=>exact hr.elim
end
end PySem

namespace L2
open PySem PySem.Spec PyProof.Rows
namespace SI
theorem slot_next:Slot "set_iterator" "__next__" "set_iterator.__next__" :=
 .of (owner:="set_iterator") (n:="__next__") (by rw[typeLookup_type,builtinLookup_eq_fast];kernel_rfl) (by decide+kernel) (by decide+kernel) (by decide+kernel)
  (by first|exact .inl (by decide+kernel)|exact .inr (by decide+kernel)) (by rw[isSubtype_type];kernel_rfl)
theorem entry_next:entryFor table "set_iterator.__next__"=some Builtin.«set_iterator.__next__»:=entryFor_of_tree (by kernel_rfl)
theorem owner_si:Manifest.owners.lookup (String.ofList ['r','o','t','a','r','e','t','i','_','t','e','s'].reverse)=some Manifest.sig_set_iterator:=by kernel_rfl
theorem args_next(a:Value):argsOk "set_iterator.__next__" ⟨[a],[]⟩:=by
 unfold argsOk;rw[signature?_of (id:="set_iterator.__next__") (n:=['_','_','t','x','e','n','_','_']) (o:=['r','o','t','a','r','e','t','i','_','t','e','s']) (by kernel_rfl) owner_si];kernel_rfl
end SI
section
variable{prog:Program}{w:World}{A:Around}{E:Value->Shared->Prop}{s:Shared}
def Zd2(h:Heap)(it S:Addr)(p i n ep:Nat):Prop:=∃o,h.get? it=some o/\o.cls=.type "set_iterator"/\o.data=.fields #[rawInt p,rawInt i,.ref S,rawInt n,rawInt ep]
theorem Zd2.typeIs{it S:Addr}{p i n ep:Nat}(x:Zd2 s.heap it S p i n ep):s.TypeIs (.ref it) "set_iterator":=let⟨o,ho,hc,_⟩:=x;⟨o,ho,hc⟩
def Zjm(w:World):Bool:=w.params.followText "set-order"
def VP(w:World)(S ep:Nat)(es:Array (Int×Value)):Array (Int×Value):=if Zjm w=true then pickOrder (w.params.setOrder S ep) es else es
def X6(w:World)(t:SetTable)(i:Nat):Nat:=if Zjm w=true then 0 else if i=0 then 0 else t.place.getD (i-1) 0+1
theorem Zn2{S:Addr}{o:Obj}{es:Array (Int×Value)}{ep i:Nat}{t:SetTable}{e:Int×Value}{Q:Option (Value×Nat)->Shared->Prop}(ho:s.heap.get? S=some o)(hd:o.data=.set es ep t)(hf:t.fits es.size=true)(hpl:t.plain=true)(hled:t.led=!Zjm w)
  (hw:Zjm w=false->SetTable.below t.place (X6 w t i)=i) (he:(VP w S ep es)[i]?=some e) (hi:i<es.size) (h:Q (some (e.2,X6 w t (i+1))) s):wpAny (model prog w) A (setNext S (X6 w t i) i ep) Q E s:=by
 unfold setNext
 refine Qa (QT ho hd hf ?_)
 dsimp only
 unfold setsByText
 refine Qa (Qa (JP (Qc ?_)))
 show wpAny (model prog w) A (if Zjm w=true then _ else _) Q E s
 by_cases hb:Zjm w=true
 ·rw[if_pos hb,if_neg (by simp)]
  unfold setWalk
  refine Qa (Qa (QT ho hd hf ?_))
  dsimp only
  unfold setsByText
  refine Qa (Qa (JP (Qc ?_)))
  show wpAny (model prog w) A (if Zjm w=true then _ else _) _ E s
  rw[if_pos hb]
  refine Qa (JP (Qc ?_))
  refine Qc ?_
  unfold VP at he
  rw[if_pos hb]at he
  have e0:X6 w t (i+1)=X6 w t i:=by unfold X6;rw[if_pos hb,if_pos hb]
  rw[e0]at h
  show Q (Option.map (fun e=>(e.2,X6 w t i)) (pickOrder (w.params.setOrder S ep) es)[i]?) s
  rw[he];exact h
 ·rw[if_neg hb]
  have hb':Zjm w=false:=by simpa using hb
  rw[if_neg (by show ¬((!t.plain&&decide (es.size>1))=true);rw[hpl];simp)]
  have hl:t.led=true:=by rw[hled,hb'];rfl
  refine Qa ?_
  show wpAny _ _ (if(!t.led && !es.isEmpty)=true then _ else pure ()) _ _ s
  rw[if_neg (by rw[hl];simp)]
  refine Qc (Qc ?_)
  unfold VP at he
  rw[if_neg hb]at he
  rw[hw hb',he]
  have hp:t.place.size=es.size:=by
   simp only[SetTable.fits,Qq,beq_iff_eq]at hf
   exact hf.1
  have e1:t.place[i]?=some (t.place.getD i 0):=by
   rw[Jf,QS (by omega)];rfl
  rw[e1]
  have e2:X6 w t (i+1)=t.place.getD i 0+1:=by unfold X6;rw[if_neg hb,if_neg (by omega)];rfl
  rw[e2]at h
  exact h
theorem Zn3{S:Addr}{o:Obj}{es:Array (Int×Value)}{ep:Nat}{t:SetTable}{Q:Option (Value×Nat)->Shared->Prop}(ho:s.heap.get? S=some o)(hd:o.data=.set es ep t)(hf:t.fits es.size=true)(hpl:t.plain=true)(hled:t.led=!Zjm w)
  (hw:Zjm w=false->SetTable.below t.place (X6 w t es.size)=es.size) (hz:(VP w S ep es).size=es.size) (h:Q none s):wpAny (model prog w) A (setNext S (X6 w t es.size) es.size ep) Q E s:=by
 unfold setNext
 refine Qa (QT ho hd hf ?_)
 dsimp only
 unfold setsByText
 refine Qa (Qa (JP (Qc ?_)))
 show wpAny (model prog w) A (if Zjm w=true then _ else _) Q E s
 by_cases hb:Zjm w=true
 ·rw[if_pos hb,if_neg (by simp)]
  unfold setWalk
  refine Qa (Qa (QT ho hd hf ?_))
  dsimp only
  unfold setsByText
  refine Qa (Qa (JP (Qc ?_)))
  show wpAny (model prog w) A (if Zjm w=true then _ else _) _ E s
  rw[if_pos hb]
  refine Qa (JP (Qc ?_))
  refine Qc ?_
  unfold VP at hz
  rw[if_pos hb]at hz
  show Q (Option.map (fun e=>(e.2,X6 w t es.size)) (pickOrder (w.params.setOrder S ep) es)[es.size]?) s
  rw[Array.getElem?_eq_none (by omega)];exact h
 ·rw[if_neg hb]
  have hb':Zjm w=false:=by simpa using hb
  rw[if_neg (by show ¬((!t.plain&&decide (es.size>1))=true);rw[hpl];simp)]
  have hl:t.led=true:=by rw[hled,hb'];rfl
  refine Qa ?_
  show wpAny _ _ (if(!t.led && !es.isEmpty)=true then _ else pure ()) _ _ s
  rw[if_neg (by rw[hl];simp)]
  refine Qc (Qc ?_)
  rw[hw hb',Array.getElem?_eq_none (Qg _)]
  exact h
end
section
variable{prog:Program}{w:World}{A:Around}{E:Value->Shared->Prop}{s:Shared}
structure Zdz(w:World)(h:Heap)(S:Addr)(es:Array (Int×Value))(ep:Nat)(t:SetTable):Prop where
 at':∃o,h.get? S=some o/\o.ExactSet/\o.data=.set es ep t
 fit:t.fits es.size=true
 pln:t.plain=true
 led:t.led=!Zjm w
 low:Zjm w=false->∀i,i<=es.size->SetTable.below t.place (X6 w t i)=i
theorem Zdz.keep{h h':Heap}{S:Addr}{es:Array (Int×Value)}{ep:Nat}{t:SetTable}(x:Zdz w h S es ep t)(k:∀o,h.get? S=some o->h'.get? S=some o):Zdz w h' S es ep t :=
 ⟨let⟨o,ho,r⟩:=x.at';⟨o,k o ho,r⟩,x.fit,x.pln,x.led,x.low⟩
theorem Zkl{it S:Addr}{es:Array (Int×Value)}{ep i:Nat}{t:SetTable}{e:Int×Value}{Q:Option Value->Shared->Prop}(hit:Zd2 s.heap it S (X6 w t i) i es.size ep)(x:Zdz w s.heap S es ep t)(hne:it≠S)(he:(VP w S ep es)[i]?=some e)(hi:i<es.size)
  (hQ:∀h',Zd2 h' it S (X6 w t (i+1)) (i+1) es.size ep->Heap.SameBut it s.heap h'->Q (some e.2) { s with heap:=h' }):wpAny (model prog w) A (pyNext (.ref it)) Q E s:=by
 obtain⟨o,ho,hc,hd⟩:=id hit
 obtain⟨oS,hoS,hex,hdS⟩:=x.at'
 unfold pyNext
 refine Qa (wpAny_attempt (Q2 (name:=Str.ofString "__next__") hit.typeIs SI.slot_next (Q0 SI.slot_next hit.typeIs SI.entry_next ?_ (SI.args_next _))))
 unfold Builtin.«set_iterator.__next__»
 refine Qa (Qc ?_)
 refine Qa (wpAny_fieldsOf ho hd ?_)
 show wpAny _ A.in1 (setEntries S >>= _) _ _ s
 refine Qa (wpAny_setEntries_of hoS hdS x.fit ?_)
 rw[if_neg (by simp)]
 show wpAny _ A.in1 (setNext S (((X6 w t i:Nat):Int)).toNat (((i:Nat):Int)).toNat (((ep:Nat):Int)).toNat >>= _) _ _ s
 rw[QF,QF,QF]
 refine Qa (Zn2 hoS hdS x.fit x.pln x.led (fun hb=>x.low hb i (by omega)) he hi ?_)
 show wpAny _ A.in1 (setField (.ref it) 0 (rawInt ((X6 w t (i+1):Nat):Int)) >>= _) _ _ s
 refine Qa (JQ ho hd (by simp) ?_)
 have ho1:=QR (Obj.mapFields (·.setIfInBounds 0 (rawInt ((X6 w t (i+1):Nat):Int)))) ho (Obj.isFreed_of_fields (Jh hd _))
 have hd1:=Jh hd (·.setIfInBounds 0 (rawInt ((X6 w t (i+1):Nat):Int)))
 show wpAny _ A.in1 (setField (.ref it) 1 (rawInt (((i:Nat):Int)+1)) >>= _) _ _ _
 refine Qa (JQ (s:={ s with heap:=s.heap.update it (Obj.mapFields (·.setIfInBounds 0 (rawInt ((X6 w t (i+1):Nat):Int)))) }) ho1 hd1 (by simp) ?_)
 have ho2:=QR (Obj.mapFields (·.setIfInBounds 1 (rawInt (((i:Nat):Int)+1)))) ho1 (Obj.isFreed_of_fields (Jh hd1 _))
 refine Qc ⟨_,rfl,Qc (hQ _ ⟨_,ho2,?_,?_⟩ ((Q6 ..).trans (Q6 ..)))⟩
 ·rw[Obj.cls_mapFields,Obj.cls_mapFields];exact hc
 ·rw[Jh hd1];simp[rawInt]
theorem Zcp{it S:Addr}{es:Array (Int×Value)}{ep:Nat}{t:SetTable}{Q:Option Value->Shared->Prop}(hh:A.handled=none)(hit:Zd2 s.heap it S (X6 w t es.size) es.size es.size ep)(x:Zdz w s.heap S es ep t)(hz:(VP w S ep es).size=es.size)
  (hQ:∀h',Heap.ExtBut it s.heap h'->Q none { s with heap:=h' }):wpAny (model prog w) A (pyNext (.ref it)) Q E s:=by
 obtain⟨o,ho,hc,hd⟩:=id hit
 obtain⟨oS,hoS,hex,hdS⟩:=x.at'
 unfold pyNext
 refine Qa (wpAny_attempt (Q2 (name:=Str.ofString "__next__") hit.typeIs SI.slot_next (Q0 SI.slot_next hit.typeIs SI.entry_next ?_ (SI.args_next _))))
 unfold Builtin.«set_iterator.__next__»
 refine Qa (Qc ?_)
 refine Qa (wpAny_fieldsOf ho hd ?_)
 show wpAny _ A.in1 (setEntries S >>= _) _ _ s
 refine Qa (wpAny_setEntries_of hoS hdS x.fit ?_)
 rw[if_neg (by simp)]
 show wpAny _ A.in1 (setNext S (((X6 w t es.size:Nat):Int)).toNat (((es.size:Nat):Int)).toNat (((ep:Nat):Int)).toNat >>= _) _ _ s
 rw[QF,QF,QF]
 refine Qa (Zn3 hoS hdS x.fit x.pln x.led (fun hb=>x.low hb es.size (Qg _)) hz ?_)
 show wpAny _ A.in1 (setField (.ref it) 2 .none >>= _) _ _ s
 refine Qa (JQ ho hd (by simp) ?_)
 show wpAny _ _ (newExc (.type "StopIteration") [] >>= _) _ _ _
 refine Qa ?_
 simp only[newExc,newTuple]
 refine Qa (QU ?_ (by size_fits))
 refine Qa (m:=firstArgMember _ _) (wpAny_of_eq (a:=Value.none) (by first|rfl|(simp only[firstArgMember];rfl)) ?_)
 refine QU ?_ (by size_fits)
 simp only[raiseNew]
 refine Qa (wpAny_handled ?_)
 rw[show A.in1.handled=none from hh]
 refine Qa (Qc (wpAny_throw ?_))
 refine Qa (wpAny_isInstance (T:="StopIteration") (b:=true) ⟨_,Qm _ rfl,rfl⟩ isSubtype_stop ?_)
 exact Qc (hQ _ (((Q6 ..).extBut.push _).push _))
end
theorem SI.entry_iter:entryFor table "set.__iter__"=some Builtin.«frozenset.__iter__» :=
 entryFor_alias (id':="frozenset.__iter__") (by kernel_rfl) rfl (by decide+kernel) (by kernel_rfl)
theorem SI.slot_iter:Slot "set_iterator" "__iter__" "set_iterator.__iter__" :=
 .of (owner:="set_iterator") (n:="__iter__") (by rw[typeLookup_type,builtinLookup_eq_fast];kernel_rfl) (by decide+kernel) (by decide+kernel) (by decide+kernel)
  (by first|exact .inl (by decide+kernel)|exact .inr (by decide+kernel)) (by rw[isSubtype_type];kernel_rfl)
theorem SI.entry_iter':entryFor table "set_iterator.__iter__"=some Builtin.«dict_keyiterator.__iter__» :=
 entryFor_alias (id':="dict_keyiterator.__iter__") (by kernel_rfl) rfl (by decide+kernel) (by kernel_rfl)
theorem SI.args_iter(a:Value):argsOk "set_iterator.__iter__" ⟨[a],[]⟩:=by
 unfold argsOk;rw[signature?_of (id:="set_iterator.__iter__") (n:=['_','_','r','e','t','i','_','_']) (o:=['r','o','t','a','r','e','t','i','_','t','e','s']) (by kernel_rfl) SI.owner_si];kernel_rfl
section
variable{prog:Program}{w:World}{A:Around}{E:Value->Shared->Prop}{s:Shared}
theorem Zkm{S:Addr}{es:Array (Int×Value)}{ep:Nat}{t:SetTable}{Q:Value->Shared->Prop}(x:Zdz w s.heap S es ep t)
  (hQ:Q (.ref s.heap.objs.size) { s with heap:=s.heap.push { cls:=.type "set_iterator",data:=.fields #[rawInt 0,rawInt 0,.ref S,rawInt es.size,rawInt ep] } }):wpAny (model prog w) A (pyIter (.ref S)) Q E s:=by
 obtain⟨oS,hoS,hex,hdS⟩:=x.at'
 have hT:s.TypeIs (.ref S) "set":=⟨_,hoS,hex.1⟩
 refine wpAny_pyIter_slot hT F.slot_set_iter (Q0 F.slot_set_iter hT SI.entry_iter ?_ (F.args_set_iter_1 _))
 unfold Builtin.«frozenset.__iter__» Builtin.Frozenset.slot0 slotArgs
 simp only[List.isEmpty_nil,JW,Qr,↓reduceIte,bind_assoc,QY,bne_self_eq_false]
 unfold Builtin.Frozenset.addrOf Builtin.Frozenset.sizeOf
 refine Qa (Qc ?_)
 try dsimp only
 refine Qa (Qc ?_)
 refine Qa (Qa (wpAny_setEntries_of hoS hdS x.fit (Qc ?_)))
 unfold setDrawn
 refine Qa (Qa (QT hoS hdS x.fit ?_))
 dsimp only
 unfold setsByText
 refine Qa (Qa (JP (Qc ?_)))
 refine Qc ?_
 show wpAny _ _ (if(!Zjm w&&(!t.plain&&decide (es.size>1)))=true then _ else _) _ _ s
 rw[if_neg (by rw[x.pln];simp)]
 refine Qa (Qc ?_)
 refine Qa (wpAny_setEpoch_of hoS hdS x.fit ?_)
 refine Qa (QU (Qc ⟨_,rfl,"set_iterator",_,⟨_,Qm _ rfl,rfl⟩,SI.slot_next.lookup,?_⟩))
 exact hQ
theorem Zh8{it S:Addr}{p i n ep:Nat}{Q:Value->Shared->Prop}(hit:Zd2 s.heap it S p i n ep)(h:Q (.ref it) s):wpAny (model prog w) A (pyIter (.ref it)) Q E s:=by
 refine wpAny_pyIter_slot hit.typeIs SI.slot_iter (Q0 SI.slot_iter hit.typeIs SI.entry_iter' ?_ (SI.args_iter _))
 show wpAny _ _ (ret (.ref it)) _ _ s
 exact Qc ⟨_,rfl,"set_iterator",_,hit.typeIs,SI.slot_next.lookup,h⟩
theorem Zne(hh:A.handled=none)(I S:Addr)(hne:S≠I)(es:Array (Int×Value))(ep:Nat)(t:SetTable)(hz:(VP w S ep es).size=es.size) :
  Walks prog w A I [I,S] [I] es.size (fun i v=>∃e,(VP w S ep es)[i]?=some e/\v=e.2) (fun i h=>Zd2 h I S (X6 w t i) i es.size ep/\Zdz w h S es ep t) where
 sub:=fun b hb=>by simp at hb;simp[hb]
 frame:=fun _ _ _ st hk=>⟨let⟨o,ho,r⟩:=st.1;⟨o,hk I (by simp) o ho,r⟩,st.2.keep fun o e=>hk S (by simp) o e⟩
 item:=fun i s Q E hi st hQ=>by
  obtain⟨e,he⟩:∃e,(VP w S ep es)[i]?=some e:=⟨(VP w S ep es)[i],by rw[QS]⟩
  refine Zkl st.1 st.2 (JO hne) he hi fun h' hit' hs'=>?_
  exact hQ _ h' s.toks ⟨e,he,rfl⟩ ⟨hit',st.2.keep fun o q=>by rw[hs'.2 S hne];exact q⟩ fun b o hb q=>hs'.extBut b o (fun h=>hb (by simp[h])) q
 done:=fun s Q E st hQ=>Zcp hh st.1 st.2 hz fun h' he'=>hQ h' s.toks fun b o hb q=>he' b o (fun h=>hb (by simp[h])) q
 self:=fun i s Q E st hQ=>Zh8 st.1 hQ
theorem Zjh{S:Addr}{es:Array (Int×Value)}{ep:Nat}{t:SetTable}{Q:List Value->Shared->Prop}(hh:A.handled=none)(hu:A.units+20<cLine)(x:Zdz w s.heap S es ep t)(hz:(VP w S ep es).size=es.size)(hn:es.size<=1000)
  (hQ:∀(h':Heap) (tk:Nat) (acc:Array Value),(∀b o,s.heap.get? b=some o->h'.get? b=some o)->s.heap.objs.size<h'.objs.size->s.toks<=tk->acc.toList=(VP w S ep es).toList.map (·.2)->Q acc.toList { s with heap:=h',toks:=tk }):wpAny (model prog w) A (collect (.ref S)) Q E s:=by
 obtain⟨oS,hoS,hex,hdS⟩:=x.at'
 have hT:s.TypeIs (.ref S) "set":=⟨_,hoS,hex.1⟩
 have hSlt:=Qk hoS
 unfold collect
 refine Qa (wpAny_runValue (JL F.entry_proto_collect ?_))
 rw[Jv F.plain_proto_collect _]
 show wpAny _ A.in1 (newList [] >>= fun l=>again (.builtin "list.__iadd__" ⟨[l,.ref S],[]⟩)) _ _ s
 refine Qa (QU ?_)
 refine Qc ⟨plainId_quiet F.plain_list_iadd _,JL F.entry_list_iadd ?_⟩
 rw[Jv F.plain_list_iadd _]
 show wpAny _ A.in1 (Builtin.List.listExtendWith (.ref s.heap.objs.size) (.ref S) (.ref s.heap.objs.size)) _ _ _
 unfold Builtin.List.listExtendWith
 have hT1:Shared.TypeIs { s with heap:=s.heap.push { cls:=.type "list",data:=.seq ([]:List Value).toArray } } (.ref S) "set":=⟨_,Qb _ hoS,hex.1⟩
 refine Qa (wpAny_typeOf hT1 ?_)
 have h1:Builtin.List.listSameRef (.ref s.heap.objs.size) (.ref S)=false:=by simp[Builtin.List.listSameRef];exact JM hSlt
 have h2:(Value.type "set" == Value.type "list")=false:=by decide
 have h3:(Value.type "set" == Value.type "tuple")=false:=by decide
 simp only[h1,h2,h3,Bool.or_false,Qr,if_false]
 have x1:Zdz w (s.heap.push { cls:=.type "list",data:=.seq ([]:List Value).toArray }) S es ep t:=x.keep fun o e=>Qb _ e
 refine Qa (Zkm x1 ?_)
 refine Qa (QV ?_)
 unfold Builtin.List.listLengthHint
 generalize hI:({ s with heap:=s.heap.push { cls:=.type "list",data:=.seq ([]:List Value).toArray } }:Shared).heap.objs.size=I
 have hIv:I=s.heap.objs.size+1:=by rw[<- hI];exact QN ..
 have hoS2:((s.heap.push { cls:=.type "list",data:=.seq ([]:List Value).toArray }).push { cls:=.type "set_iterator",data:=.fields #[rawInt 0,rawInt 0,.ref S,rawInt es.size,rawInt ep] }).get? S=some oS:=Qb _ (Qb _ hoS)
 have hT2:Shared.TypeIs { s with heap:=(s.heap.push { cls:=.type "list",data:=.seq ([]:List Value).toArray }).push { cls:=.type "set_iterator",data:=.fields #[rawInt 0,rawInt 0,.ref S,rawInt es.size,rawInt ep] } } (.ref S) "set":=⟨_,hoS2,hex.1⟩
 refine Qa (wpAny_specialOf hT2 F.slot_set_len.lookup ?_)
 show wpAny _ A.in1 (isInstance (.ref S) (.type "set") >>= _) _ _ _
 refine Qa (wpAny_isInstance hT2 sub_set_self ?_)
 show wpAny _ A.in1 (typeOf (.ref S) >>= _) _ _ _
 refine Qa (wpAny_typeOf hT2 ?_)
 refine Qc ?_
 show wpAny _ A.in1 (rule "list.extend.makes-room" >>= fun _=>Builtin.List.listTouch (.ref s.heap.objs.size) >>= fun _ =>
  again (.builtin "list.extend.loop" ⟨[.ref s.heap.objs.size,.ref I,.ref s.heap.objs.size],[]⟩)) _ _ _
 refine Qa (wpAny_rule ?_)
 have hS₁:((s.heap.push { cls:=.type "list",data:=.seq ([]:List Value).toArray }).push { cls:=.type "set_iterator",data:=.fields #[rawInt 0,rawInt 0,.ref S,rawInt es.size,rawInt ep] }).get? s.heap.objs.size=some { cls:=.type "list",data:=.seq ([]:List Value).toArray }:=Qb _ (Qm _ rfl)
 refine Qa ?_
 show wpAny _ A.in1 (updateSeq s.heap.objs.size (·.push .none) >>= fun _=>updateSeq s.heap.objs.size (·.pop)) _ _ _
 refine Qa (wpAny_updateSeq hS₁ rfl ?_)
 have hS₂:=QR (Obj.mapSeq (·.push Value.none)) hS₁ rfl
 refine wpAny_updateSeq hS₂ rfl ?_
 have hS₃:=QR (Obj.mapSeq (·.pop)) hS₂ rfl
 have oth:∀b o,b≠s.heap.objs.size->((s.heap.push { cls:=.type "list",data:=.seq ([]:List Value).toArray }).push { cls:=.type "set_iterator",data:=.fields #[rawInt 0,rawInt 0,.ref S,rawInt es.size,rawInt ep] }).get? b=some o ->
   ((((s.heap.push { cls:=.type "list",data:=.seq ([]:List Value).toArray }).push { cls:=.type "set_iterator",data:=.fields #[rawInt 0,rawInt 0,.ref S,rawInt es.size,rawInt ep] }).update s.heap.objs.size (Obj.mapSeq (·.push Value.none))).update s.heap.objs.size (Obj.mapSeq (·.pop))).get? b=some o :=
  fun b o hb e=>(JI _ _ (JO hb)).trans ((JI _ _ (JO hb)).trans e)
 have hIne:S≠I:=by rw[hIv];exact Qo (QZ hSlt)
 have hSf:s.heap.objs.size∉[I,S]:=by
  simp only[Ql,Jd,or_false,not_or]
  exact⟨by rw[hIv];exact Qo (Ju _),JM hSlt⟩
 have p0:X6 w t 0=0:=by unfold X6;split<;>rfl
 have hit0:((s.heap.push { cls:=.type "list",data:=.seq ([]:List Value).toArray }).push { cls:=.type "set_iterator",data:=.fields #[rawInt 0,rawInt 0,.ref S,rawInt es.size,rawInt ep] }).get? I=some { cls:=.type "set_iterator",data:=.fields #[rawInt 0,rawInt 0,.ref S,rawInt es.size,rawInt ep] }:=by
  rw[<- hI];exact Qm _ rfl
 refine Qc ⟨plainId_quiet F.plain_extend_loop _,codeAny_extend_loopS ((Zne (A:=A.in1) hh I S hIne es ep t hz).toS) (by rw[show sizeLine=16777216 from QK];omega) _ hSf _ es.size 0 _ _ _ rfl (Q1 _) ?st hS₃ (ItemsOf.nil _) fun s' acc' c' hm hS' hacc=>?_⟩
 case st =>
  refine⟨⟨_,oth _ _ (by rw[hIv];exact JM (Ju _)) hit0,rfl,by rw[p0];rfl⟩,x1.keep fun o e=>oth _ _ (Qo hSlt) (Qb _ e)⟩
 show wpAny _ A (load s.heap.objs.size >>= _) _ _ s'
 refine Qa (wpAny_load hS' ?_)
 obtain⟨h',g',d',tk',os'⟩:=s'
 have eg:g'=s.gens:=hm.gens
 have ed:d'=s.drawn:=hm.drawn
 have eo:os'=s.os:=hm.os
 subst eg;subst ed;subst eo
 refine Qc (hQ h' tk' acc' (fun b o e=>?_) (Qk hS') hm.toks ?_)
 ·have hlt:=Qk e
  have hb1:b≠s.heap.objs.size:=Qo hlt
  refine hm.heap b o (by simp only[Ql,Jd,or_false,not_or];exact⟨hb1,by rw[hIv];exact Qo (QZ hlt)⟩) (oth b o hb1 (Qb _ (Qb _ e)))
 ·obtain⟨hsz,hP⟩:=hacc
  refine List.ext_getElem (by rw[Qx,Qd,Qx,hsz,hz]) fun i h1 h2=>?_
  have hi:i<acc'.size:=by rw[Qx]at h1;exact h1
  obtain⟨e,he,hv⟩:=hP i acc'[i] (QS hi)
  rw[Array.getElem_toList,List.getElem_map,Array.getElem_toList,hv]
  have:(VP w S ep es)[i]=e:=by
   rw[QS (by omega)]at he
   exact Q7 he
  rw[this]
end
theorem Zv7{α:Type}:∀(l:List α) (i:Nat) (h:i<l.length),(l[i]::l.eraseIdx i).Perm l:=by
 intro l
 induction l with
 |nil=>intro i h;simp at h
 |cons a l ih =>
  intro i h
  cases i with
  |zero=>simp
  |succ i =>
   have:=ih i (by simpa using h)
   rw[List.getElem_cons_succ,List.eraseIdx_cons_succ]
   exact(List.Perm.swap a _ _).trans (this.cons a)
theorem Z0w{α β:Type}(f:α->β):∀(l:List α) (i:Nat),(l.map f).eraseIdx i=(l.eraseIdx i).map f:=by
 intro l
 induction l with
 |nil=>intro i;simp
 |cons a l ih =>
  intro i
  cases i with
  |zero=>simp
  |succ i=>rw[Qh,List.eraseIdx_cons_succ,ih,List.eraseIdx_cons_succ,Qh]
theorem Zv1{α:Type}(next:Nat->Nat):∀(fuel k:Nat) (left:List α) (out:Array α),left.length<=fuel->(pickOrder.go next fuel k left out).toList.Perm (out.toList++left):=by
 intro fuel
 induction fuel with
 |zero =>
  intro k left out h
  have:left=[]:=List.length_eq_zero_iff.mp (by omega)
  subst this
  unfold pickOrder.go
  rw[Q9]
 |succ fuel ih =>
  intro k left out h
  unfold pickOrder.go
  cases left with
  |nil=>simp
  |cons a l =>
   have hi:next k%(a::l).length<(a::l).length:=Nat.mod_lt _ (by simp)
   rw[Qn hi]
   dsimp only
   have ln:=List.length_eraseIdx_of_lt hi
   refine(ih (k+1) _ _ (by rw[ln];omega)).trans ?_
   rw[Array.toList_push,List.append_assoc]
   refine List.Perm.append_left _ ?_
   exact Zv7 _ _ hi
theorem Z0f{α β:Type}(f:α->β)(next:Nat->Nat):∀(fuel k:Nat) (left:List α) (out:Array α),pickOrder.go next fuel k (left.map f) (out.map f)=(pickOrder.go next fuel k left out).map f:=by
 intro fuel
 induction fuel with
 |zero=>intro k left out;rfl
 |succ fuel ih =>
  intro k left out
  unfold pickOrder.go
  rw[Qd,QC]
  cases left[next k%left.length]? with
  |none=>rfl
  |some x =>
   dsimp only[Option.map]
   rw[<- ih,Z0w,Array.map_push]
theorem Zpq{w:World}{S ep:Nat}{es:Array (Int×Value)}{zl:List (List Int×Addr)}(h:es.toList=zl.map (fun p=>(Zb0 p.1,Value.ref p.2))):∃zl':List (List Int×Addr),zl'.Perm zl/\(VP w S ep es).toList=zl'.map (fun p=>(Zb0 p.1,Value.ref p.2)):=by
 unfold VP
 split
 ·have e:es=zl.toArray.map (fun p=>(Zb0 p.1,Value.ref p.2)):=Array.ext' (by rw[h,Array.toList_map])
  refine⟨(pickOrder (w.params.setOrder S ep) zl.toArray).toList,?_,?_⟩
  ·have:=Zv1 (w.params.setOrder S ep) zl.toArray.size 0 zl #[] (by rw[Qi];exact Qg _)
   simpa [pickOrder] using this
  ·rw[e]
   unfold pickOrder
   rw[Array.size_map,Array.toList_map]
   have:=Z0f (fun p:List Int×Addr=>(Zb0 p.1,Value.ref p.2)) (w.params.setOrder S ep) zl.toArray.size 0 zl.toArray.toList #[]
   rw[Array.map_empty]at this
   rw[this,Array.toList_map]
 ·exact⟨zl,List.Perm.refl _,h⟩
end L2

namespace L2
open PySem PySem.W PySem.Spec PyProof.Rows HT
section
variable{prog:Program}{w:World}{A:Around}{E:Value->Shared->Prop}{s:Shared}
theorem Zed{prog:Program}{w:World}:∀{ns:List Int} {vs:List Value},PySem.ItemsAre (intKind prog w) ns vs->IntsAre vs ns:=by
 intro ns vs h
 induction h with
 |nil=>exact .nil
 |cons h1 _ ih =>
  obtain⟨t,rfl⟩:=Value.isInt_shape h1
  exact .cons _ t ih
theorem Zeq{h:Heap}:∀{zl:List (List Int×Addr)},(∀p∈zl,TK prog w h p.1 p.2)->X1 h (zl.map (·.1)) (zl.map fun p=>Value.ref p.2)
 |[],_=>rfl
 |p::zl,hk=>by
  obtain⟨o,items,n,ho,hc,hd,hi⟩:=hk p Qf
  refine⟨p.2,items.toList,_,rfl,Zed hi,⟨o,ho,hc,n,by simpa using hd⟩,Zeq fun q hq=>hk q (Qe _ hq)⟩
theorem Zkd{S:Addr}{es:Array (Int×Value)}{ep:Nat}{t:SetTable}{zl:List (List Int×Addr)}{Q:Value->Shared->Prop}(hh:A.handled=none)(hu:A.units+40<cLine)(x:Zdz w s.heap S es ep t)(hes:es.toList=zl.map (fun p=>(Zb0 p.1,Value.ref p.2)))(h64:zl.length<64)
  (nd:(zl.map (·.1)).Nodup) (hne:∀k∈zl.map (·.1),k≠[]) (hk:∀p∈zl,TK prog w s.heap p.1 p.2)
  (hQ:∀(h':Heap) (tk:Nat) (a:Addr) (e:Nat) (zs:List (List Int×Addr)),(∀b o,s.heap.get? b=some o->h'.get? b=some o)->s.heap.objs.size<=a->zs.Perm zl->zs.map (·.1)=Xv (zl.map (·.1))->h'.get? a=some (seqObj "list" (List.toArray (zs.map fun p=>Value.ref p.2)) e)->Q (.ref a) { s with heap:=h',toks:=tk }) :
  wpAny (model prog w) A (call (.builtin "sorted") [.ref S]) Q E s:=by
 obtain⟨zo,pm,ew⟩:=Zpq (w:=w) (S:=S) (ep:=ep) hes
 have esz:es.size=zl.length:=by rw[<- Qx,hes,Qd]
 have hz:(VP w S ep es).size=es.size:=by rw[<- Qx,ew,Qd,pm.length_eq,esz]
 refine Calls.call_function_entry kind_sorted plain_sorted entry_sorted (args_sorted1 _) ?_
 unfold Builtin.«sorted»
 refine Qa (m:=checkCount "sorted" 1 1 _) (Qc ?_)
 refine Qa (Zjh (A:=A.in1) hh (by simp only[Around.in1_units];omega) x hz (by omega) fun h1 tk acc hkeep hgrow htk hacc=>?_)
 have hacc':acc.toList=zo.map fun p=>Value.ref p.2:=by rw[hacc,ew,Qy];rfl
 rw[hacc']
 have zlen:zo.length=zl.length:=pm.length_eq
 refine Qa (wpAny_newList ?_ (by rw[Qd,QK];omega))
 have hoL:(h1.push { cls:=.type "list",data:=.seq (zo.map fun p=>Value.ref p.2).toArray }).get? h1.objs.size=some (seqObj "list" (zo.map fun p=>Value.ref p.2).toArray 0):=Qm _ rfl
 have ndo:(zo.map (·.1)).Nodup:=((pm.map _).nodup_iff).mpr nd
 have ko:=Ze2 ndo
 have hko:∀p∈zo,TK prog w (h1.push { cls:=.type "list",data:=.seq (zo.map fun p=>Value.ref p.2).toArray }) p.1 p.2:=fun p hp=>by
  obtain⟨o,items,n,ho,r⟩:=hk p (pm.mem_iff.mp hp)
  exact⟨o,items,n,Qb _ (hkeep _ _ ho),r⟩
 have ll:(zo.map fun p=>Value.ref p.2).length=(zo.map (·.1)).length:=by rw[Qd,Qd]
 rw[<- ll]at ko
 refine Qa (QV (Q0 slot_list_sort ⟨_,hoL,rfl⟩ entry_list_sort (Zaa (s:={ s with heap:=h1.push { cls:=.type "list",data:=.seq (zo.map fun p=>Value.ref p.2).toArray },toks:=tk }) hoL (by rw[Qd];omega) ko (fun h2 h' hk'=>?_) fun p hp hr=>⟨_,rfl,?_⟩) (args_list_sort _)))
 ·refine Ztq (s:={ s with heap:=h',toks:=tk }) (Zeq (prog:=prog) (w:=w) fun p hp=>?_) (fun k hk2=>hne k ((pm.map _).mem_iff.mp hk2)) h2
  obtain⟨o,items,n,ho,r⟩:=hk p (pm.mem_iff.mp hp)
  have hlt:p.2<h1.objs.size:=Qk (hkeep _ _ ho)
  exact⟨o,items,n,hk' _ _ (Qo hlt) (Qb _ (hkeep _ _ ho)),r⟩
 ·rw[ll]at hp hr
  obtain⟨e,he⟩:=sortedHeap_at (out:=List.toArray (p.toList.map fun i=>(zo.map fun p=>Value.ref p.2).getD i Value.none)) hoL
  have lt:∀i∈p.toList,i<zo.length:=fun i hi=>by
   have:=QJ.mp ((Zbw hp).mem_iff.mp hi)
   rw[Qd]at this;exact this
  have ez:(p.toList.map fun i=>(zo.map fun p=>Value.ref p.2).getD i Value.none)=(p.toList.map fun i=>zo.getD i ([],0)).map fun p=>Value.ref p.2:=by
   rw[Qy]
   refine QW fun i hi=>?_
   have:=lt i hi
   simp[QO,this]
  have ek:(p.toList.map fun i=>zo.getD i ([],0)).map (·.1)=Xv (zl.map (·.1)):=by
   have e1:=Ze1 hp hr
   have e2:Xv (zo.map (·.1))=Xv (zl.map (·.1)):=Vm ((JX _ _).trans (pm.map _)) (by
    rw[<- e1,List.pairwise_map,List.pairwise_iff_getElem]
    intro i j hi hj hij
    have hl:p.toList.length=(zo.map (·.1)).length:=by rw[Qx];exact hp.size
    have hka:∀i (hi:i<p.toList.length),p.toList[i]=ka p i:=fun i hi=>by
     unfold ka
     rw[Jf,QS (by rw[hp.size];omega)]
     simp
    rw[hka,hka]
    exact hr i j hij (by omega))
   rw[<- e2,<- e1,Qy]
   refine QW fun i hi=>?_
   have:=lt i hi
   simp[QO,this]
  have pz:(p.toList.map fun i=>zo.getD i ([],0)).Perm zl:=by
   have:=(Zbw hp).map (fun i=>zo.getD i ([],0))
   rw[Qd,U3]at this
   exact this.trans pm
  rw[ez]at he
  refine Qc ⟨_,rfl,hQ _ tk _ e _ (fun b o eb=>?_) ?_ pz ek (by rw[<- ez]at he ⊢;exact he)⟩
  ·have hlt:b<h1.objs.size:=Qk (hkeep _ _ eb)
   rw[sortedHeap_old (Qo hlt) (by rw[QN];exact QZ hlt)]
   exact Qb _ (hkeep _ _ eb)
  ·exact Nat.le_of_lt hgrow
end
def okW(st:SG):Bool:=(List.range (st.1.length+1)).all fun i=>SetTable.below st.2.2 (if i=0 then 0 else st.2.2.getD (i-1) 0+1) == i
def Zev:D->Option D
 |.lst ds=>(UG ds).bind fun ks=>if ks.length<=390 then(runG ks ([],7,#[])).bind fun st=>if st.1.length<64/\st.1.Nodup/\(∀k∈st.1,k≠[])/\okW st=true then some (.lst ((Xv st.1).map kT)) else none else none
 |_=>none
section
variable{X:Cx}{pos:Pos}
def Zke(w:World)(p:Addr)(zl:List (List Int×Addr))(h:Heap):Prop:=∃(es:Array (Int×Value)) (ep:Nat) (t:SetTable),Zdz w h p es ep t/\es.toList=zl.map (fun q=>(Zb0 q.1,Value.ref q.2))
theorem Zuk{P:Program}{w:World}{H:Hp}{h:Heap}{p:Addr}{zl:List (List Int×Addr)}(x:Zke w p zl h):Yr P w H h p (.ext (Zke w p zl)):=by
 refine⟨x,?_,fun h1 h2 ⟨es,ep,t,a,b⟩ k=>⟨es,ep,t,a.keep k,b⟩⟩
 obtain⟨_,_,_,a,_⟩:=x
 obtain⟨o,ho,_⟩:=a.at'
 exact⟨o,ho⟩
def rSetG(K:PySem.W.Frag)(w:World)(xs:List V)(H:Hp)(Q:VK):Prop:=∃(O:List Addr) (ks:List (List Int)) (v:V) (st:SG),xs=[v]/\YJ K (mask O H) (.lst (ks.map kT)) v/\ks.length<=390/\runG ks ([],7,#[])=some st/\okW st=true /\
 ∀(p:Addr) (zl:List (List Int×Addr)),H p=none->zl.map (·.1)=st.1->(∀q∈zl,YJ K (mask O H) (kT q.1) (.ref q.2))->Q (.ref p) (Y1 H p (.ext (Zke w p zl)))
theorem Zup{K:PySem.W.Frag}{H:Hp}{ds:List D}{vs:List V}(r:Zr K H ds vs){i:Nat}{d:D}{v:V}(h1:ds[i]?=some d)(h2:vs[i]?=some v):YJ K H d v:=by
 induction ds generalizing vs i with
 |nil=>simp at h1
 |cons a ds ih =>
  obtain⟨u,us,rfl,ra,rr⟩:=r
  cases i with
  |zero=>simp at h1 h2;subst h1;subst h2;exact ra
  |succ i=>exact ih rr (by simpa using h1) (by simpa using h2)
theorem Zt3{vs:List V}{us:List Value}(r:ZB vs us){i:Nat}{u:Value}(h:us[i]?=some u):∃v,vs[i]?=some v/\ZU v u:=by
 induction r generalizing i with
 |nil=>simp at h
 |cons h1 _ ih =>
  cases i with
  |zero=>simp at h;subst h;exact⟨_,rfl,h1⟩
  |succ i=>exact ih (by simpa using h)
theorem Zo3(hc:X.calm=true)(hu:X.A.units+64<cLine):Xd X (.type "set") (rSetG X.K X.w):=by
 intro pins s σ H xs us Q I rs h
 obtain⟨O,ks,v,st,rfl,rp,hl390,hrun,hok,q⟩:=h
 obtain⟨p,vs,rfl,hp,r2⟩:=rp
 obtain⟨u,rfl,ru⟩:=Xp rs
 cases ru
 obtain⟨its,rv,pl,_⟩:=I.list (WH.of (Zi _ _ hp))
 have rm:=Zr.mono Zi _ _ r2
 have ta:=Zbo I rm rv
 have hl:=ta.len
 refine Zdt (items:=its.toArray) (ks:=ks) (stn:=st) (I.ok.hd hc) (by omega) pl.isList (by rw[Qi];omega) (by rw[Qi];omega) (fun i v hv=>?_) hrun fun h' tk hS hk htk=>?_
 ·rw[<- QQ]at hv
  have hv:its[i]?=some v:=hv
  have hil:=(Qj.mp hv).1
  obtain⟨a,its',g1,g2,g3⟩:=ta.get (i:=i) (by omega)
  refine⟨a,ks.getD i [],?_,?_,Zpx g2 g3⟩
  ·rw[QO,Qn (by omega)];rfl
  ·rw[<- g1,QO,hv];rfl
 ·obtain⟨o,es,ep,t,bs,ho,hex,hd,te,hf,hes,hbl,hkeys,hled,hplain⟩:=hS.ex
  have hfst:(st.1.zip bs).map (·.1)=st.1:=List.map_fst_zip (by omega)
  have esz:es.size=st.1.length:=by rw[<- Qx,hes,Qd,QM];omega
  refine⟨.ref s.heap.objs.size,_,I.laid (t':=tk) (o:=.ext (Zke X.w s.heap.objs.size (st.1.zip bs))) (fun b o e=>hk b o (Qk e) e) (Qg _) (Zuk ⟨es,ep,t,⟨⟨o,ho,hex,hd⟩,hf,hplain,hled,fun hb i hi=>?_⟩,hes⟩),rfl,q _ _ (I.hok.fresh (Qg _)) hfst (fun z hz=>?_)⟩
  ·have:=Qs.mp hok i (QJ.mpr (by omega))
   have e:=eq_of_beq this
   unfold X6
   rw[te.p,hb,if_neg (by decide)]
   exact e
  ·obtain⟨_,i,e1,e2⟩:=hkeys z hz
   rw[<- QQ]at e2
   obtain⟨v,ev,rl⟩:=Zt3 rv (show its[i]?=some (Value.ref z.2) from e2)
   have hd1:(ks.map kT)[i]?=some (kT z.1):=by rw[QC,e1];rfl
   have rr:=Zup r2 hd1 ev
   obtain⟨a,ws,rfl,ha,rw'⟩:=rr
   cases rl
   exact⟨z.2,ws,rfl,ha,rw'⟩
theorem Zlp(hc:X.calm=true)(hu:X.A.units+64<cLine):Xd X (.builtin "sorted") (fun xs H Q=>∃(p:Addr) (zl:List (List Int×Addr)),xs=[.ref p]/\H p=some (.ext (Zke X.w p zl))/\zl.length<64/\(zl.map (·.1)).Nodup/\(∀k∈zl.map (·.1),k≠[])/\(∀z∈zl,YJ X.K H (kT z.1) (.ref z.2)) /\
  ∀(p':Addr) (zs:List (List Int×Addr)),H p'=none->zs.Perm zl->zs.map (·.1)=Xv (zl.map (·.1))->Q (.ref p') (Y1 H p' (.lst (zs.map fun z=>V.ref z.2)))):=by
 intro pins s σ H xs us Q I rs h
 obtain⟨p,zl,rfl,hp,h64,nd,hne,hrep,q⟩:=h
 obtain⟨u,rfl,ru⟩:=Xp rs
 cases ru
 obtain⟨⟨es,ep,t,x,hes⟩,_⟩:=(show Yr X.prog X.w H s.heap p (.ext (Zke X.w p zl)) from I.hok p _ hp)
 refine Zkd (I.ok.hd hc) (by omega) x hes h64 nd hne (fun z hz=>?_) fun h' tk a e zs hk hsz pm ek he=>?_
 ·obtain⟨b,ws,eb,hb,rr⟩:=hrep z hz
  cases eb
  cases rr.ints
  obtain⟨its,r2,pl,_⟩:=I.tuple (Wq.of hb)
  exact Zpx (XZ r2) pl
 ·refine⟨.ref a,_,I.laid (t':=tk) (o:=.lst (zs.map fun z=>V.ref z.2)) hk hsz ⟨?_,zs.map (fun z=>Value.ref z.2),e,?_,he⟩,rfl,q _ _ (I.hok.fresh hsz) pm ek⟩
  ·rw[Qd,pm.length_eq,QK];omega
  ·have:∀zs:List (List Int×Addr),ZB (zs.map fun z=>V.ref z.2) (zs.map fun z=>Value.ref z.2):=by
    intro zs
    induction zs with
    |nil=>exact .nil
    |cons z zs ih=>exact .cons rfl ih
   exact this zs
theorem Zl6{K:PySem.W.Frag}{H:Hp}:∀{zs:List (List Int×Addr)},(∀z∈zs,YJ K H (kT z.1) (.ref z.2))->Zr K H ((zs.map (·.1)).map kT) (zs.map fun z=>V.ref z.2)
 |[],_=>rfl
 |z::zs,h=>⟨_,_,rfl,h z Qf,Zl6 fun y hy=>h y (Qe _ hy)⟩
theorem Zlg{a:Expr}{fa:FE}{p1 p2 p3:Pos}(ha:EV X a fa)(hc:X.calm=true)(hu:X.A.units+64<cLine)(m1:X.mg "sorted"=none)(m2:X.mg "set"=none)(g1:Gl X "sorted":=by rfl)(g2:Gl X "set":=by rfl)
  (h1:starEach [a] X.env=(false,eval a X.env)::starEach [] X.env:=by rfl) (h2:starEach [Expr.Call (.Name "set" p2) [a] [] p3] X.env=(false,eval (.Call (.Name "set" p2) [a] [] p3) X.env)::starEach [] X.env:=by rfl)
  (hp:(backTo p3 (starEach [] X.env)).any (·.1)=false:=by rfl) (hp2:(backTo pos (starEach [] X.env)).any (·.1)=false:=by rfl) :
  EV X (.Call (.Name "sorted" p1) [.Call (.Name "set" p2) [a] [] p3] [] pos) (f1 Zev fa) :=
 PE.imp (VU (Zlp hc hu) g1 m1 Zfk (Ym (Vc (Zo3 hc hu) g2 m2 Ztm (Ym ha Xh h1) (by decide) (by decide) h1 hp) Xh h2) (by decide) (by decide) h2 hp2) fun σ H Q h=>by
  obtain⟨O,ρ,d,rv,e,q⟩:=h
  obtain⟨x,e1,e⟩:=bind_some e
  unfold Zev at e
  split at e
  ·rename_i ds
   obtain⟨ks,ek,e⟩:=bind_some e
   split at e
   ·rename_i hl
    obtain⟨st,er,e⟩:=bind_some e
    split at e
    ·rename_i hc2
     cases e
     obtain⟨c1,c2,c3,c4⟩:=hc2
     cases WI ek
     refine⟨O,ρ,_,rv,e1,fun v H1 s1 r1=>?_⟩
     refine⟨O,ks,v,st,rfl,r1,hl,er,c4,fun p zl hpn hz hrep=>?_⟩
     have s2:Zf H1 (Y1 H1 p (.ext (Zke X.w p zl))):=Zf.new hpn
     have hm:=ZA s2 (O:=O)
     refine⟨p,zl,rfl,Yc,by rw[<- Qd (f:=(·.1)),hz];exact c1,by rw[hz];exact c2,by rw[hz];exact c3,fun z hzm=>YJ.mono (fun _ _=>id) _ _ (YJ.mono Zi _ _ (YJ.mono hm _ _ (hrep z hzm))),fun p' zs hp' pm ezs=>?_⟩
     have s3:=Zf.trans s1 (Zf.trans s2 (Zf.new (o:=.lst (zs.map fun z=>V.ref z.2)) hp'))
     refine q _ _ s3 ?_
     rw[hz]at ezs
     rw[<- ezs]
     refine Yj (rv.th.mono (Zf.trans s1 s2)) hp' (Zl6 fun z hzm=>YJ.mono hm _ _ (hrep z (pm.mem_iff.mp hzm)))
    ·cases e
   ·cases e
  ·cases e
end
end L2

namespace L2
open PySem PySem.Spec PyProof.Rows
section
variable{X:Cx}{pos:Pos}
open Builtin Builtin.Str
theorem Zvj:Ztu X "str.find" (fun x xs H Q=>∃z y,x=.str z/\xs=[.str y]/\Q (.int (Txt.find z y)) H):=by
 intro pins s σ H x xs v us Q I rx rs h
 obtain⟨z,y,rfl,rfl,q⟩:=h
 obtain⟨t,rfl⟩:=rx
 obtain⟨u,rfl,t',rfl⟩:=Xp rs
 exact SC.find ⟨.int _,H,I.tok _,⟨_,rfl⟩,q⟩
def WO:D->D->Option D
 |.str z,.str y=>some (.int (Txt.find z y))
 |_,_=>none
theorem Zgu{o e:Expr}{fo fe:FE}{apos cpos:Pos}(ho:EV X o fo)(he:EV X e fe)(hbase:attributeBase o "find" X.env (eval o X.env)=eval o X.env:=by rfl)
  (hfew:((backTo cpos (starEach [e] X.env)).all (fun x=>!x.1)&&(backToKw cpos (keywordEach [] X.env)).all (fun x=>x.1.isSome)
   && decide (([e]:List Expr).length+([]:List Keyword).length+(if([]:List Keyword).isEmpty then 0 else 1)<30))=true:=by rfl)
  (hline:(apos.endLine == cpos.line)=true:=by rfl) (hs:starEach [e] X.env=(false,eval e X.env)::starEach [] X.env:=by rfl) :
  EV X (.Call (.Attribute o "find" apos) [e] [] cpos) (f2 WO fo fe) :=
 PE.imp (Zcs JC PySem.F.slot_str_find PySem.F.type_str_find Zvj ho (Ym he Xh hs) hbase hfew hline hs) fun σ H Q h=>by
  obtain⟨O,ρ,d,rv,e,q⟩:=h
  obtain⟨x,e1,e⟩:=bind_some e
  obtain⟨y,e2,e⟩:=bind_some e
  unfold WO at e
  split at e
  ·cases e
   refine⟨O,ρ,_,rv,e1,fun v H1 s1 r1=>?_⟩
   have:=(show v=V.str _ from r1)
   subst this
   refine⟨rfl,O,ρ,_,rv.mono s1,e2,fun u H2 s2 r2=>?_⟩
   have:=(show u=V.str _ from r2)
   subst this
   exact⟨_,_,rfl,rfl,q _ H2 (Zf.trans s1 s2) rfl⟩
  ·cases e
def Zi6(fo fe:FE):FA:=fun ρ=>(f2 Wt fo fe ρ).bind Zxh
theorem Zot{o e:Expr}{fo fe:FE}{apos cpos:Pos}(ho:EV X o fo)(he:EV X e fe)(hbase:attributeBase o "split" X.env (eval o X.env)=eval o X.env:=by rfl)
  (hfew:((backTo cpos (starEach [e] X.env)).all (fun x=>!x.1)&&(backToKw cpos (keywordEach [] X.env)).all (fun x=>x.1.isSome)
   && decide (([e]:List Expr).length+([]:List Keyword).length+(if([]:List Keyword).isEmpty then 0 else 1)<30))=true:=by rfl)
  (hline:(apos.endLine == cpos.line)=true:=by rfl) (hs:starEach [e] X.env=(false,eval e X.env)::starEach [] X.env:=by rfl) :
  EVF X (.Call (.Attribute o "split" apos) [e] [] cpos) (Zi6 fo fe) :=
 PE.imp (Zcs JC PySem.F.slot_str_split PySem.F.type_str_split Zij ho (Ym he Xh hs) hbase hfew hline hs) fun σ H Q h=>by
  obtain⟨O,ρ,ds,rv,e,q⟩:=h
  obtain⟨d,e,el⟩:=bind_some e
  obtain⟨x,e1,e⟩:=bind_some e
  obtain⟨y,e2,e⟩:=bind_some e
  unfold Wt at e
  split at e
  ·split at e
   ·rename_i hk
    cases e
    cases el
    refine⟨O,ρ,_,rv,e1,fun v H1 s1 r1=>?_⟩
    have:=(show v=V.str _ from r1)
    subst this
    refine⟨rfl,O,ρ,_,rv.mono s1,e2,fun u H2 s2 r2=>?_⟩
    have:=(show u=V.str _ from r2)
    subst this
    exact⟨_,_,rfl,rfl,hk.1,Z5 hk.2.1,Z5 hk.2.2.1,Z5 hk.2.2.2,fun p hp=>q p _ H2 (Zf.trans s1 s2) hp (Zew _)⟩
   ·cases e
  ·cases e
end
def tXA(K:PySem.W.Frag)(ad:Str->Addr)(E:XK)(F:Zd3):TA:=fun σ H _=>∃O ρ c,RV K O H ρ σ/\F ρ=some c/\∀H',Zf H H'->E (.ref (ad c)) none H'
def XA(X:Cx)(ad:Str->Addr)(E:XK)(es:List Expr)(F:Zd3):Prop:=PA X es (tXA X.K ad E F)
def WQ(F G:Zd3):Zd3:=fun ρ=>match F ρ with|some c=>some c|none=>G ρ
def Wr(f:FE)(F:Zd3):Zd3:=fun ρ=>(f ρ).bind fun _=>F ρ
def Zm9(g:FT)(F:Zd3):Zd3:=fun ρ=>match g ρ with|some true=>F ρ|_=>none
section
variable{X:Cx}{ad:Str->Addr}{E:XK}{e:Expr}{es:List Expr}{F G:Zd3}{pos:Pos}
theorem PE.or{t t':TE}(h:PE X e t)(h':PE X e t'):PE X e (fun σ H Q=>t σ H Q\/t' σ H Q):=fun pins s σ H Q I hw=>hw.elim (h pins s σ H Q I) (h' pins s σ H Q I)
theorem PA.or{t t':TA}(h:PA X es t)(h':PA X es t'):PA X es (fun σ H Q=>t σ H Q\/t' σ H Q):=fun pos pins s σ H Q I hw=>hw.elim (h pos pins s σ H Q I) (h' pos pins s σ H Q I)
theorem Zie:PE X e (fun _ _ _=>False):=fun _ _ _ _ _ _ h=>h.elim
theorem Zq9:PA X es (fun _ _ _=>False):=fun _ _ _ _ _ _ _ h=>h.elim
theorem Zem{ρ:Xl}{c:Str}(h:WQ F G ρ=some c):F ρ=some c\/G ρ=some c:=by
 unfold WQ at h
 cases eF:F ρ with
 |some c'=>rw[eF]at h;exact .inl h
 |none=>rw[eF]at h;exact .inr h
theorem xe_or(h:XE X ad E e F)(h':XE X ad E e G):XE X ad E e (WQ F G):=PE.imp (PE.or h h') fun σ H Q ⟨O,ρ,c,rv,e,hE⟩ =>
 (Zem e).elim (fun q=>.inl ⟨O,ρ,c,rv,q,hE⟩) fun q=>.inr ⟨O,ρ,c,rv,q,hE⟩
theorem Zwv(h:XA X ad E es F)(h':XA X ad E es G):XA X ad E es (WQ F G):=PA.imp (PA.or h h') fun σ H Q ⟨O,ρ,c,rv,e,hE⟩ =>
 (Zem e).elim (fun q=>.inl ⟨O,ρ,c,rv,q,hE⟩) fun q=>.inr ⟨O,ρ,c,rv,q,hE⟩
theorem Uj(h:XE X ad E e F)(hs:starEach (e::es) X.env=(false,eval e X.env)::starEach es X.env:=by rfl):XA X ad E (e::es) F:=PA.imp (Ym h (Zq9 (es:=es)) hs) fun σ H Q h=>h
theorem Zl0{f:FE}(h:EV X e f)(t:XA X ad E es F)(hs:starEach (e::es) X.env=(false,eval e X.env)::starEach es X.env:=by rfl):XA X ad E (e::es) (Wr f F):=PA.imp (Ym h t hs) fun σ H Q ⟨O,ρ,c,rv,e,hE⟩=>by
 obtain⟨d,e1,e2⟩:=bind_some e
 exact⟨O,ρ,d,rv,e1,fun v H1 s1 r1=>⟨O,ρ,c,rv.mono s1,e2,fun H' s'=>hE H' (Zf.trans s1 s')⟩⟩
theorem Zpi{x1}(h:XA X ad E es F):XE X ad E (.Tuple es x1 pos) F:=PE.imp (Zq0 h) fun σ H Q h=>h
theorem Zwu{T:String}{x:Str}{p:Pos}(hm:X.mg x=none)(hv:bootBuiltins x=some (.type T))(ha:XA X ad E (e::es) F)
  (hg:Gl X x:=by rfl) (hn:x≠"__name__":=by decide) (hdb:(x == ("__debug__":Str))=false:=by decide)
  (he:starEach (e::es) X.env=(false,eval e X.env)::starEach es X.env:=by rfl) (hpl:(backTo pos (starEach es X.env)).any (·.1)=false:=by rfl):XE X ad E (.Call (.Name x p) (e::es) [] pos) F :=
 PE.imp (Vc (r:=fun _ _ _=>False) (fun _ _ _ _ _ _ _ _ _ h=>h.elim) hg hm hv ha hn hdb he hpl) fun σ H Q h=>h
theorem xe_if{c a b:Expr}{g:FT}(hc:TV X c g)(ha:XE X ad E a F):XE X ad E (.IfExp c a b pos) (Zm9 g F):=PE.imp (Zif hc ha (Zie (e:=b))) fun σ H Q ⟨O,ρ,c,rv,e,hE⟩=>by
 unfold Zm9 at e
 cases eg:g ρ with
 |none=>rw[eg]at e;cases e
 |some k =>
  rw[eg]at e
  refine⟨O,ρ,k,rv,eg,fun H1 s1=>?_⟩
  cases k with
  |true=>rw[if_pos rfl];exact⟨O,ρ,c,rv.mono s1,e,fun H' s'=>hE H' (Zf.trans s1 s')⟩
  |false=>cases e
theorem Zpk{k m:Nat}{y:Str}{f:Addr}{fd:FuncData}{ps:List Str}{G:List D->Option Str}{p:Pos}{fa:FA}(hx:V8 (Zpd X.prog X.w X.base) X E)(o:VM X.prog X.w X.K X.mg X.base ad y k ps G f fd)(hr:XD m X.A)(ha:AV X (e::es) fa)(hle:k<=m:=by decide)
  (hg:Gl X y:=by rfl) (hdb:(y == ("__debug__":Str))=false:=by decide) (he:starEach (e::es) X.env=(false,eval e X.env)::starEach es X.env:=by rfl) (hpl:(backTo pos (starEach es X.env)).any (·.1)=false:=by rfl) :
  XE X ad E (.Call (.Name y p) (e::es) [] pos) (xL G fa):=PE.imp (Zf5 (dvs:=[]) (E:=E) o.ok (hr.mono hle) hg o.mg o.kp o.bi .nil hx ha hdb he hpl) fun σ H Q h=>by
 obtain⟨O,ρ,c,rv,e1,hE⟩:=h
 obtain⟨ds,e2,e3⟩:=bind_some e1
 refine⟨O,ρ,ds,rv,e2,fun vs H1 s1 r1=>?_⟩
 refine⟨O,ds,c,rv.th.mono s1,?_,e3,fun H' s'=>hE H' (Zf.trans s1 s')⟩
 rw[Q9];exact r1
end
section
variable{M:Model}{A:Around}{E:Value->Shared->Prop}{s:Shared}
theorem U2{base:Heap}{l:List Env}{e:Addr}{cls a0 fl:Value}{fr:Option Addr}{Q:Unit->Shared->Prop}(hkb:base.StaysIn s.heap)(hl:s.heap.FunFrames base l)(ht:s.heap.TracedAtW base e cls a0 fl)
  (h:∀h',base.StaysIn h'->h'.FunFrames base l->h'.TracedAtW base e cls a0 (fr.elim .none fun f=>rawInt f)->(∀b o,s.heap.get? b=some o->(∀vs,o.data≠.fields vs)->h'.get? b=some o)->Q () { s with heap:=h' }) :
  wpAny M A (setFlight (.ref e) fr) Q E s:=by
 obtain⟨oe,vs,T,oT,ts,he,hc,hd,h1,hnT,hTe,hT,hdT,h3⟩:=ht
 have hz:3<ts.size:=(Array.getElem?_eq_some_iff.mp h3).1
 have oth:∀b,b≠T->(s.heap.update T (Obj.mapFields (·.setIfInBounds 3 (fr.elim .none fun f=>rawInt f)))).get? b=s.heap.get? b:=fun b hb=>JI _ _ (JO hb)
 have nT:∀b o,s.heap.get? b=some o->(∀vs,o.data≠.fields vs)->b≠T:=fun b o hb hn q=>by
  rw[q,hT]at hb;cases hb;exact hn ts hdT
 unfold setFlight
 refine Qa (Jc he hd h1 ?_)
 rw[if_pos (show(Value.ref T != Value.none)=true from by simp)]
 refine JQ hT hdT hz (h _ (fun b o q=>(oth b fun z=>by rw[z,hnT]at q;cases q).trans (hkb b o q)) (hl.of_keeps fun b o hb hn=>⟨o,(oth b (nT b o hb hn)).trans hb,rfl⟩) ?_ fun b o hb hn=>(oth b (nT b o hb hn)).trans hb)
 exact⟨oe,vs,T,_,_,(oth e (JO hTe)).trans he,hc,hd,h1,hnT,hTe,QR _ hT (Obj.isFreed_of_fields (Jh hdT _)),Jh hdT _,by simp[hz]⟩
theorem Zgb{base:Heap}{env:Env}{outer:List Env}{L e:Addr}{cls a0:Value}{fr:Option Addr}{Q:Unit->Shared->Prop}(hfr:A.frames=some (env::outer))(hf:env.frame=some L)(hkb:base.StaysIn s.heap)(hen:base.get? e=none)
  (hl:s.heap.FunFrames base (env::outer)) (ht:s.heap.TracedAtW base e cls a0 (fr.elim .none fun f=>rawInt f))
  (h:∀h',base.StaysIn h'->h'.FunFrames base (env::outer)->h'.TracedAtW base e cls a0 (rawInt L)->s.heap.UpToSlots h'->Q () { s with heap:=h' }):wpAny M A (noteFrame (.ref e) env) Q E s:=by
 by_cases z:fr=some L
 ·subst z
  exact wpAny_noteFrame_againW hf ht (h s.heap hkb hl ht fun b o q _=>⟨o.slots,q⟩)
 ·have hne:((fr.elim Value.none fun f=>rawInt f) == rawInt L)=false:=by
   cases fr with
   |none=>simp[rawInt]
   |some f =>
    have:f≠L:=fun q=>z (by rw[q])
    have this':¬((f:Int)=(L:Int)):=fun q=>this (Int.ofNat.inj q)
    simp[rawInt]
    exact this'
  obtain⟨oe,vs,T,oT,ts,he,⟨hc,h0⟩,hd,h1,hnT,hTe,hT,hdT,h3⟩:=ht
  subst hc
  unfold noteFrame
  simp only[hf]
  refine Qa (Jc he hd h1 ?_)
  rw[if_pos (show(Value.ref T != Value.none)=true from by simp)]
  refine Qa (Jc hT hdT h3 ?_)
  rw[if_neg (by rw[hne];exact Qv)]
  refine Qa (JQ hT hdT (Array.getElem?_eq_some_iff.mp h3).1 ?_)
  have oth:∀b,b≠T->(s.heap.update T (Obj.mapFields (·.setIfInBounds 3 Value.none))).get? b=s.heap.get? b:=fun b hb=>JI _ _ (JO hb)
  have nT:∀b o,s.heap.get? b=some o->(∀vs,o.data≠.fields vs)->b≠T:=fun b o hb hn q=>by
   rw[q,hT]at hb;cases hb;exact hn ts hdT
  refine wpAny_entryW hfr (hl.of_keeps fun b o hb hn=>⟨o,(oth b (nT b o hb hn)).trans hb,rfl⟩) hf ((oth e (JO hTe)).trans he)
   (fun b o q=>(oth b fun z=>by rw[z,hnT]at q;cases q).trans (hkb b o q)) hen hd (Array.getElem?_eq_some_iff.mp h1).1 h0
   fun h' ⟨x1,x2,x3,x4⟩=>h h' x1 x2 x3 fun b o hb hn=>x4 b o ((oth b (nT b o hb hn)).trans hb) hn
theorem UA{base h h':Heap}:∀{l:List Env},h.FunFrames base l->(∀b∈Vg l,h'.get? b=h.get? b)->h'.FunFrames base l
 |[],_,_=>trivial
 |env::l,⟨hk,⟨L,o,hf,hn,ho,hd⟩,hr⟩,k=>⟨hk,⟨L,o,hf,hn,(k L (Vt (Qf) hf)).trans ho,hd⟩,UA hr fun b hb=>k b (by
   obtain⟨env',he,hf'⟩:=Jm.mp hb
   exact Vt (Qe _ he) hf')⟩
end
section
variable{X:Cx}{E:XK}{pins:List (Addr×Obj)}{σ:St}{H:Hp}{s:Shared}
def xeC(X:Cx)(E:XK)(pins:List (Addr×Obj))(σ:St)(C:Addr):Value->Shared->Prop:=fun e s'=>∃H1 s1,Zq X pins σ H1 s1/\H1 C=none/\C∉Vg X.stack/\X.s₀.heap.objs.size<=C/\(∃m,s1.heap.Ns C m)/\Zpd X.prog X.w X.base X.stack H1 s1 E e s'
theorem Zk2(x:XL X E){C:Addr}{acc:Value}{R:Value->Shared->Prop}{env':Env}(hfr:env'.frame=X.env.frame)(e:Value)(s':Shared)(h:xeC X E pins σ C e s') :
  notedBy (model X.prog X.w) X.A env' (fun y s''=>compPost (model X.prog X.w) X.A X.xe none R acc C (.error y) s'') e s':=by
 obtain⟨H1,s1,I,hC,hCf,hCs,⟨m,oC,esC,epC,hoC,hdC,hkC⟩,a,cls,a0,B,H',rfl,f,hE⟩:=h
 have BC:B.get? C=some oC:=f.cov C oC hoC hC hCf
 have fl:=f.fl
 rw[x.stk]at fl
 unfold notedBy
 have en:noteFrame (.ref a) env'=noteFrame (.ref a) X.env:=by unfold noteFrame PySem.frameOf;rw[hfr]
 rw[en]
 have hframes:X.A.frames=some (X.env::X.outer):=by rw[I.ok.frames,x.stk]
 refine wpAny_looks_onW (L:=X.env.locals) hframes x.fr fl fun h2 held up=>?_
 refine⟨m,⟨oC,esC,epC,held.1 _ _ BC,hdC,hkC⟩,fun h3 sb cenv _=>?_⟩
 have neC:∀b,B.get? b=none->b≠C:=fun b q z=>by rw[z,BC]at q;cases q
 have get3:∀b,b≠C->h3.get? b=h2.get? b:=fun b hb=>sb.2 b hb
 have B3:∀b o,(PySem.W.hideAll B [C]).get? b=some o->B.get? b=some o:=fun b o q=>PySem.W.of_hideAll _ q
 have B3n:∀b o,(PySem.W.hideAll B [C]).get? b=some o->b≠C:=fun b o q z=>by rw[z,PySem.W.hideAll_none _ (by simp)]at q;cases q
 have B3g:∀b o,B.get? b=some o->b≠C->(PySem.W.hideAll B [C]).get? b=some o:=fun b o q z=>PySem.W.hideAll_get _ q (by simpa using z)
 obtain⟨k1,k2,k3,oe,vs,T,oT,ts,he,hc,hd,h1,hnT,hTe,hT,hdT,hfl⟩:=PySem.W.heldW_base (base:=PySem.W.hideAll B [C]) B3 held
 have aC:a≠C:=neC a f.fl.2.1
 have TC:T≠C:=fun z=>by
  obtain⟨_,_,_,oe',vs',T',_,_,he',_,hd',h1',hn',_⟩:=held
  rw[he]at he';cases he'
  rw[hd]at hd';cases hd'
  rw[h1]at h1';cases h1'
  exact neC T hn' z
 have frC:∀b∈Vg (X.env::X.outer),b≠C:=fun b hb z=>hCf (by rw[x.stk];rw[<- z];exact hb)
 have st3:(PySem.W.hideAll B [C]).StaysIn h3:=fun b o q=>(get3 b (B3n b o q)).trans (k1 b o q)
 have ff3:h3.FunFrames (PySem.W.hideAll B [C]) (X.env::X.outer):=UA k3 fun b hb=>get3 b (frC b hb)
 have tr3:h3.TracedAtW (PySem.W.hideAll B [C]) a cls a0 (rawInt X.env.locals):=⟨oe,vs,T,oT,ts,(get3 a aC).trans he,hc,hd,h1,hnT,hTe,(get3 T TC).trans hT,hdT,hfl⟩
 have fin:∀h4,(PySem.W.hideAll B [C]).StaysIn h4->h4.FunFrames (PySem.W.hideAll B [C]) (X.env::X.outer)->h4.TracedAtW (PySem.W.hideAll B [C]) a cls a0 (cenv.frame.elim .none fun f=>rawInt f)->(∀b o,h3.get? b=some o->(∀vs,o.data≠.fields vs)->h4.get? b=some o)->X.xe (.ref a) { s' with heap:=h4 }:=by
  intro h4 st4 ff4 tr4 keep4
  rw[x.xe]
  unfold leaving
  refine Qa (Zgb (s:={ s' with heap:=h4 }) (fr:=cenv.frame) hframes x.fr st4 k2 ff4 tr4 fun h5 st5 ff5 tr5 up5=>?_)
  refine wpAny_landsW (s:={ s' with heap:=h5 }) ⟨st5,k2,ff5,tr5⟩ fun h6 fl6 up6=>?_
  obtain⟨g1,g2,⟨_,_,g3⟩,g4⟩:=fl6
  have st:=I.stack
  have noL:∀b∈Vg X.outer,b∈Vg X.stack:=fun b hb=>by
   obtain⟨env,he,hf⟩:=Jm.mp hb
   rw[x.stk]
   exact Vt (Qe _ he) hf
  have Zi0:∀b∈Vg X.stack,b=X.env.locals\/b∈Vg X.outer:=fun b hb=>Ql.mp (I.stkSub b hb)
  have loS:∀b o,X.s₀.heap.get? b=some o->b≠X.env.locals:=fun b o e z=>by
   have h1:=Qk e
   rw[z]at h1
   exact absurd (Qw h1 I.ok.above) (Ji _)
  have loC:∀b o,X.s₀.heap.get? b=some o->b≠C:=fun b o e z=>by
   have h1:=Qk e
   rw[z]at h1
   exact absurd (Qw h1 hCs) (Ji _)
  have hm:∀b:Addr,b∈X.ex->False:=fun b h=>by rw[x.ex]at h;cases h
  have H'C:H' C=none:=f.free C oC hoC hC
  refine⟨a,cls,a0,PySem.W.hideAll B [C],H',rfl,⟨⟨g1,g2,g3,g4⟩,fun b o q=>B3g b o (f.bB b o q) (loC b o (I.ok.bs b o q).1),f.os.trans I.os,f.bare,fun b o q n hb=>?_,fun b o q hb=>?_,fun b o q n=>?_,fun b o q hb=>?_,fun b xs q=>f.tups b xs (I.base.tups b xs q),fun b o u q=>f.frzs b o u (I.base.frzs b o u q),fun b ps q=>?_,fun b u q=>?_⟩,hE⟩
  ·refine B3g b o (f.cov b o (I.base.keep b o q n hb fun z=>hm b z) (I.base.free b o q n fun z=>hm b z) fun z=>?_) (loC b o q)
   rcases Zi0 b z with z|z
   ·exact loS b o q z
   ·exact hb z
  ·obtain⟨sl,q1⟩:=I.base.slot b o q (I.ok.frf b hb) hb fun z=>hm b z
   obtain⟨sl1,q2⟩:=f.slot b _ q1 (noL b hb)
   obtain⟨_,o2,q3,nd⟩:=st.mem (noL b hb)
   rw[q1]at q3
   cases q3
   obtain⟨sl2,q4⟩:=up b _ q2 nd
   have q6:=keep4 b _ ((get3 b (loC b o q)).trans q4) nd
   obtain⟨sl3,q7⟩:=up5 b _ q6 nd
   obtain⟨sl4,q8⟩:=up6 b _ q7 nd
   exact⟨sl4,q8⟩
  ·exact f.free b _ (I.base.there b o q fun z=>hm b z).choose_spec (I.base.free b o q n fun z=>hm b z)
  ·obtain⟨o',q1⟩:=I.base.there b o q fun z=>hm b z
   obtain⟨o2,q2⟩:=f.trk b o' q1 fun z=>by
    rcases Zi0 b z with z|z
    ·exact loS b o q z
    ·exact hb z
   exact⟨o2,B3g b o2 q2 (loC b o q)⟩
  ·obtain⟨m1,e1⟩:=I.base.tbls b ps q
   obtain⟨m2,e2⟩:=f.tbls b _ e1
   exact⟨m1++m2,by rw[e2,Array.append_assoc]⟩
  ·refine(f.hok b u q).stay (fun c v hc r=>B3g c v r fun z=>?_) (fun _ r=>r) fun _ _ r=>r
   rcases hc with rfl|hc
   ·rw[z,H'C]at q;cases q
   ·rw[z,H'C]at hc;cases hc
 show wpAny _ _ (PySem.passOn _ (.ref a) cenv) _ _ _
 unfold PySem.passOn
 refine Qa (Jc (s:={ s' with heap:=h3 }) ((get3 a aC).trans he) hd h1 ?_)
 rw[if_neg (show ¬((Value.ref T == Value.none)=true) from by simp)]
 first
  |exact Qa (Qc (Qa (U2 (s:={ s' with heap:=h3 }) st3 ff3 tr3 fun h4 a1 a2 a3 a4=>wpAny_throw (fin h4 a1 a2 a3 a4))))
  |exact Qa (U2 (s:={ s' with heap:=h3 }) st3 ff3 tr3 fun h4 a1 a2 a3 a4=>wpAny_throw (fin h4 a1 a2 a3 a4))
end
def Z9(X:Cx)(N:List Str)(scope:Scope)(cl:List (Str×Addr))(C:Addr)(s:Shared)(H:Hp)(fp:List Addr)(xe:Value->Shared->Prop):Cx:={ ZR X N scope cl C s H fp with xe:=xe }
section
variable{X:Cx}{pins:List (Addr×Obj)}{σ:St}{H:Hp}{s:Shared}{N:List Str}{scope:Scope}{cl:List (Str×Addr)}{C:Addr}{fp:List Addr}{xe:Value->Shared->Prop}
theorem Cx.Ok.cE(ok:(ZR X N scope cl C s H fp).Ok):(Z9 X N scope cl C s H fp xe).Ok :=
 ⟨ok.mod,ok.kind,ok.glob,ok.blt,ok.above,ok.inj,ok.has,ok.cab,ok.hd,ok.frames,ok.stk,ok.exf,ok.bs,ok.bsz,ok.noex,ok.exfs,ok.funs,ok.frf⟩
theorem Zq.cE{pins':List (Addr×Obj)}{σ':St}{H':Hp}{s':Shared}(I:Zq (ZR X N scope cl C s H fp) pins' σ' H' s'):Zq (Z9 X N scope cl C s H fp xe) pins' σ' H' s':=⟨I.ok.cE,I.os,I.bare,I.base,I.loc,I.cell,I.free,I.freeC,I.pin,I.hok,I.len⟩
theorem Zq.unE{pins':List (Addr×Obj)}{σ':St}{H':Hp}{s':Shared}(I:Zq (Z9 X N scope cl C s H fp xe) pins' σ' H' s'):Zq (ZR X N scope cl C s H fp) pins' σ' H' s' :=
 ⟨⟨I.ok.mod,I.ok.kind,I.ok.glob,I.ok.blt,I.ok.above,I.ok.inj,I.ok.has,I.ok.cab,I.ok.hd,I.ok.frames,I.ok.stk,I.ok.exf,I.ok.bs,I.ok.bsz,I.ok.noex,I.ok.exfs,I.ok.funs,I.ok.frf⟩,I.os,I.bare,I.base,I.loc,I.cell,I.free,I.freeC,I.pin,I.hok,I.len⟩
theorem Zeg{prog:Program}{w:World}{A:Around}{R:Result->Shared->Prop}{elt tg iter:Expr}{ifs:List Expr}{scope:Scope}{pos:Pos}{it acc:Value}{env:Env}{s:Shared}(E1:Value->Shared->Prop)
  (hE:∀e s,E1 e s->notedBy (model prog w) A env (fun x s'=>R (.error x) s') e s) (J:Nat->Shared->Prop)
  (turn:∀n s,J n s->wpAny (model prog w) A (pyNext it) (fun r s1=>match r with
   |none=>R (.ok .next) s1
   |some v=>wpAny (model prog w) A (letOwnedTupleGo tg it v) (fun _ s2=>wpAny (model prog w) A (assign tg env v) (fun _ s3 =>
     wpAny (model prog w) A (forIn ifs true fun c r=>if r=true then do let ok <- isTrue c env (eval c env);pure (ForInStep.yield ok) else pure (ForInStep.yield r)) (fun ok s4 =>
      if ok=true then wpAny (model prog w) A (eval elt env) (fun x s5=>wpAny (model prog w) A (call (.builtin "list.append") [acc,x]) (fun _ s6=>∃m,m<n/\J m s6) E1 s5) E1 s4
      else ∃m,m<n/\J m s4) E1 s3) E1 s2) E1 s1) E1 s)
  (n:Nat) (h:J n s):codeAny (model prog w) A (.compLoop (.ListComp elt [⟨tg,iter,ifs,0⟩] scope pos) 0 it acc env) R s:=by
 refine codeAny_loop rfl J (fun k t hJ=>?_) n h
 show wpAny _ A ((compTurn (.ListComp elt [⟨tg,iter,ifs,0⟩] scope pos) 0 it acc env).onRaise _) _ _ t
 refine wpAny_noted ?_
 rw[compTurn_list]
 refine Qa (wpAny_standAt (Qa (Q5 (turn k t hJ) (fun r s1 h1=>?_) hE)))
 cases r with
 |none=>exact Qc h1
 |some v =>
  refine Qa (Q5 h1 (fun _ s2 h2=>?_) hE)
  refine Qa (Q5 h2 (fun _ s3 h3=>?_) hE)
  refine Qa (Q5 h3 (fun ok s4 h4=>?_) hE)
  cases ok with
  |false=>exact Qc ⟨rfl,h4⟩
  |true =>
   refine Qa (Qa (Q5 h4 (fun x s5 h5=>?_) hE))
   exact Qa (Q5 h5 (fun _ s6 h6=>Qc (Qc ⟨rfl,h6⟩)) hE)
theorem Zjd{it acc:Addr}{tn:Nat->Heap->Prop}{J:It}{elt tg iter:Expr}{ifs:List Expr}{pos:Pos}{g:TG}{tt:TT}{te:TE}{R:Result->Shared->Prop}{s4:Shared}(hc:X.calm=true)
  (I:Zq X pins σ H s) (T:Zjs X.prog X.w X.K tg J fp it tn) (hf:∀b∈fp,US X pins H b) (ho:∀b∈fp,∃o,s.heap.get? b=some o) (hacc:acc=s.heap.objs.size) (hC:C=s.heap.objs.size+1)
  (hE:∀e s,xe e s->notedBy (model X.prog X.w) X.A (compEnvC scope cl C X.env) (fun x s'=>R (.error x) s') e s)
  (hg:PG (Z9 X N scope cl C s H fp xe) tg g) (ht:Zx2 (Z9 X N scope cl C s H fp xe) ifs tt) (he:PE (Z9 X N scope cl C s H fp xe) elt te)
  (W:Nat->Nat->List V->St->Hp->Prop) (hW:∀i m ys σ' H',W i m ys σ' H' ->
   (J.stop i H'/\ys.length<=sizeLine/\∀l,H' l=none->False) \/
   (J.go i H'/\ys.length<sizeLine/\∀x H2,J.yld i H' x H2->g x σ' H2 fun σ2 H3=>tt σ2 H3 fun b H4 =>
    if b=true then te σ2 H4 fun y H5=>∃m',m'<m/\W (i+1) m' (ys++[y]) σ2 H5 else ∃m',m'<m/\W (i+1) m' ys σ2 H4))
  (m:Nat) (h0:∃σ0,Zq (Z9 X N scope cl C s H fp xe) [(acc,WW [] 0)] σ0 H s4/\W 0 m [] σ0 H) (st:tn 0 s4.heap) :
  codeAny (model X.prog X.w) X.A (.compLoop (.ListComp elt [⟨tg,iter,ifs,0⟩] scope pos) 0 (.ref it) (.ref acc) (compEnvC scope cl C X.env)) R s4:=by
 obtain⟨σ0,I0,w0⟩:=h0
 have accle:s.heap.objs.size<=acc:=by rw[hacc];exact Qg _
 have accfp:acc∉fp:=fun hb=>by
  obtain⟨o,e⟩:=ho acc hb
  exact absurd (Qw (Qk e) accle) (Ji _)
 have xfp:∀{its:List Value} {k:Nat} {H':Hp},(∀b∈fp,H' b=none)->∀b∈fp,US (Z9 X N scope cl C s H fp xe) [(acc,WW its k)] H' b:=fun{its k H'} hn b hb =>
  ⟨hn b hb,(I0.ok.exf b hb).1,I0.ok.exfs b hb,.inl hb,(I0.ok.exf b hb).2,fun p hm=>by
   have hm':p=(acc,WW its k):=by simpa [Z9,ZR] using hm
   subst hm'
   intro z
   exact accfp (by rw[show acc=b from z];exact hb)⟩
 refine Zeg xe hE (fun n s'=>∃i ys its k σ' H',Zq (Z9 X N scope cl C s H fp xe) [(acc,WW its k)] σ' H' s'/\tn i s'.heap/\(∀b∈fp,H' b=none)/\ZB ys its/\W i n ys σ' H') ?_ m
  ⟨0,[],[],0,σ0,H,I0,st,fun b hb=>(hf b hb).1,.nil,w0⟩
 rintro n s5 ⟨i,ys,its,k,σ5,H5,I5,st5,fr5,rv,w5⟩
 rcases hW i n ys σ5 H5 w5 with⟨stop,hl,q⟩|⟨go,hl,step⟩
 ·refine YA (T.done (Z9 X N scope cl C s H fp xe) rfl rfl rfl hc i _ s5 σ5 H5 _ I5 (xfp fr5) st5 stop) fun r s6 ⟨hr,I6⟩=>?_
  obtain⟨n6,J6⟩:=Zjc I I6.unE hf hacc rv hl
  exact(q acc n6).elim
 ·refine YA (T.item (Z9 X N scope cl C s H fp xe) rfl rfl rfl hc i _ s5 σ5 H5 _ I5 (xfp fr5) st5 go) fun r s6 ⟨u,hr,h6⟩=>?_
  subst hr
  refine YA h6 fun _ s7 ⟨x,H7,I7,r7,y7,st7,fr7⟩=>?_
  have I7':=I7.pinned (xfp fr7) (T.obj _ _ st7)
  refine YA (hg _ s7 σ5 H7 x u _ I7' r7 (step x H7 y7)) fun _ s8 ⟨σ8,H8,I8,q8⟩=>?_
  refine YA (ht _ s8 σ8 H8 _ I8 q8) fun ok s9 ⟨H9,I9,q9⟩=>?_
  have back:∀{H':Hp} {s':Shared},Zq (Z9 X N scope cl C s H fp xe) ([(acc,WW its k)]++Zan fp s7.heap) σ8 H' s'->tn (i+1) s'.heap/\∀b∈fp,H' b=none:=fun{H' s'} I' =>
   ⟨T.keep _ _ _ st7 fun b hb o e=>(I'.pin (b,o) (Qt _ (Qt _ (XX hb e)))).1,fun b hb=>by
    obtain⟨o,e,d⟩:=T.obj _ _ st7 b hb
    exact(I'.pin (b,o) (Qt _ (Qt _ (XX hb e)))).2.1⟩
  cases ok with
  |false =>
   rw[if_neg Qv]at q9
   rw[if_neg Qv]
   obtain⟨m',hm,w'⟩:=q9
   exact⟨m',hm,i+1,ys,its,k,σ8,H9,I9.unpinned,(back I9).1,(back I9).2,rv,w'⟩
  |true =>
   rw[if_pos rfl]at q9
   rw[if_pos rfl]
   refine YA (he _ s9 σ8 H9 _ I9 q9) fun y Zkg ⟨v,H10,I10,r10,q10⟩=>?_
   obtain⟨m',hm,w'⟩:=q10
   obtain⟨b1,b2⟩:=back I10
   have J10:=I10.unpinned
   obtain⟨ea,na,nL,nF,nD⟩:=J10.pin (acc,WW its k) (Qt _ (by simp))
   have hsz:its.toArray.size<=sizeLine:=by
    have:=rv.length
    simp only[Qi];omega
   refine wpAny_list_append_plain (hsz:=hsz) ⟨k,ea⟩ fun h' ⟨k',e'⟩ sb=>?_
   have hpu:its.toArray.push y=(its++[y]).toArray:=by simp
   rw[hpu]at e'
   refine⟨m',hm,i+1,ys++[v],its++[y],k',σ8,H10,?_,T.keep _ _ _ b1 fun b hb o e=>(sb.2 b (fun z=>accfp (z▸hb))).trans e,b2,rv.append (.cons r10 .nil),w'⟩
   have J11:Zq (Z9 X N scope cl C s H fp xe) [] σ8 H10 Zkg:=J10.pins_of fun p hp=>absurd hp (by simp)
   have J12:Zq (Z9 X N scope cl C s H fp xe) [] σ8 H10 { Zkg with heap:=h' }:=J11.turned (t':=Zkg.toks) (it:=acc) (fun b o hb e=>(sb.2 b hb).trans e) na nL
    (.inr accle) (fun x c e z=>by
     obtain⟨w1,oc,hoc,hd⟩:=J10.cell x c e
     have:Zkg.heap.get? acc=some oc:=by rw[<- z];exact hoc
     rw[ea]at this;cases this;cases hd) (fun p hp=>absurd (show p∈([]:List (Addr×Obj))++[] from hp) (by simp))
   refine J12.pins_of fun p hp=>?_
   have:p=(acc,WW (its++[y]) k'):=by simpa using hp
   subst this
   exact⟨e',na,nL,nF,fun v z=>by cases z⟩
theorem Zoz{E:XK}{elt tg iter:Expr}{ifs:List Expr}{pos p2:Pos}{n:Nat}{ix:List Nat}{wi:TI}{g:TG}{tt:TT}{te:TE}{R:Value->Shared->Prop}(x:XL X E)
  (hc:X.calm=true) (hi:PI X tg iter wi)
  (hg:∀cl C s H fp xe,PG (Z9 X N scope cl C s H fp xe) tg g) (ht:∀cl C s H fp xe,Zx2 (Z9 X N scope cl C s H fp xe) ifs tt)
  (he:∀cl C s H fp xe,V8 (Zpd X.prog X.w X.base) (Z9 X N scope cl C s H fp xe) E->PE (Z9 X N scope cl C s H fp xe) elt te)
  (hk:scope.kind=.function) (hcell:(scope.names.all fun y=>!(y.2 == .cell))=true) (hnames:(scope.names.all fun y=>!(y.2 == .local)||(scope.names.lookup y.1 == some .local))=true)
  (hNl:N.length=n+ix.length) (hout:Ux X.N N n scope X.env ix=true) (hfree:W0 scope X.env.cells=true) (hs:∀x,foldedSetIterable iter X.env x=pure x)
  (I:Zq X pins σ H s) (h:Zes n ix wi g tt te σ H (fun _ _=>False)) :
  wpAny (model X.prog X.w) X.A (comprehension (.ListComp elt [⟨tg,iter,ifs,0⟩] scope pos) scope X.env p2 (newList []) false (eval iter X.env) none) R X.xe s:=by
 have hcell':∀y∈scope.names,y.2≠.cell:=fun y hy z=>by
  have:=Qs.mp hcell y hy
  rw[z]at this;cases this
 have hnames':∀y∈scope.names,y.2=.local->scope.names.lookup y.1=some .local:=fun y hy z=>by
  have:=Qs.mp hnames y hy
  rw[z]at this
  simpa using this
 refine wpAny_comprehension_free (use:=none) rfl hs (UE hfree) hk hnames' (YA (hi pins s σ H _ I h) fun v s1 h1=>YA h1 fun itv s2 h2=>?_)
 obtain⟨it,fp,tn,J,H2,e,I2,T,st2,f2,W,⟨m,w0⟩,hW⟩:=h2
 subst e
 have ho:∀b∈fp,∃o,s2.heap.get? b=some o:=fun b hb=>let⟨o,e,_⟩:=T.obj _ _ st2 b hb;⟨o,e⟩
 refine QU (wpAny_newFunctionEnv hcell' (by intro y hy;simp at hy) (fun h1 hns hsb=>?_) hk)
 dsimp only at hns hsb ⊢
 generalize hG:s2.heap.push { cls:=.type "list",dict:=none,data:=.seq ([]:List Value).toArray }=G at hns hsb ⊢
 have hCs:G.objs.size=s2.heap.objs.size+1:=by rw[<- hG,QN]
 have keep:∀b o,s2.heap.get? b=some o->h1.get? b=some o:=fun b o e=>hsb.extBut b o (Qo (by rw[hCs];exact QZ (Qk e))) (Qb _ (hG▸Qb _ e))
 have hac:h1.get? s2.heap.objs.size=some (WW [] 0):=hsb.extBut _ _ (Qo (by rw[hCs];exact Ju _)) (Qb _ (hG▸Qm _ rfl))
 have sub:=sub_of X.env.cells scope.names
 have has:∀x,(x,NameKind.free)∈scope.names->∃c,(Xt X.env.cells scope.names []).lookup x=some c:=fun x hx=>Option.isSome_iff_exists.mp (UQ scope.names [] hx hfree)
 have ok:(ZR X N scope (Xt X.env.cells scope.names []) G.objs.size s2 H2 fp).Ok:=Zfe I2 hk (by rw[hCs];exact Jr _) f2 ho sub fun x hx=>has x (Wi hcell' (by
  rcases hx with z|z<;>(have z':=z;unfold relabel at z';simp only at z';rw[z'];rfl)))
 have I4:=Zdm (t1:=s2.toks+([]:List (Str×Value)).length) I2 ok sub has hcell' hNl hout rfl hCs keep hac hns
 have st4:tn 0 h1:=T.keep _ _ _ st2 fun b hb o e=>keep b o e
 have nF:G.objs.size∉Vg X.stack:=fun hb=>by
  rcases Ql.mp (I2.stkSub _ hb) with z|z
  ·have:=I2.lt
   rw[<- z,hCs]at this
   exact absurd this (Nat.not_lt.mpr (Jr _))
  ·exact I2.nofs (by rw[hCs];exact Jr _) z
 have nS:X.s₀.heap.objs.size<=G.objs.size:=by rw[hCs];exact Nat.le_succ_of_le I2.sz
 have ps:V8 (Zpd X.prog X.w X.base) (Z9 X N scope (Xt X.env.cells scope.names []) G.objs.size s2 H2 fp (xeC X E pins σ G.objs.size)) E:=fun pins' σ' H' s' e s'' J' hx=>by
  refine⟨H',s',I2.call' (ch:=fp) J'.os J'.base J'.hok J'.bare fun b hb=>?_,J'.free,nF,nS,?_,hx⟩
  ·obtain⟨f0,f1,f2',f3,f4,f5⟩:=f2 b hb
   exact⟨f3,f1,f4,f5⟩
  ·obtain⟨m',hm',_⟩:=J'.loc
   exact⟨m',hm'⟩
 have loop:=Zjd (xe:=xeC X E pins σ G.objs.size) (pos:=pos) (iter:=iter) (R:=compPost (model X.prog X.w) X.A X.xe none R (.ref s2.heap.objs.size) G.objs.size) (s4:={ s2 with heap:=h1,toks:=s2.toks+([]:List (Str×Value)).length }) hc I2 T f2 ho rfl hCs
  (fun e s' h=>Zk2 x rfl e s' h) (hg _ _ _ _ _ _) (ht _ _ _ _ _ _) (he _ _ _ _ _ _ ps) W hW m ⟨_,I4.cE,w0⟩ st4
 exact codeAny_compStart_list loop (T.self _ 0 _ _ _ st4 loop)
end
def Zen(t:FG)(fe:FE)(F:Zd3)(ρ:Xl):List D->Option Str
 |[]=>none
 |d::ds=>(t d).bind fun ws=>match F (WF ρ ws) with|some c=>some c|none=>(fe (WF ρ ws)).bind fun _=>Zen t fe F ρ ds
def VF(n:Nat)(ix:List Nat)(fi:FA)(t:FG)(fe:FE)(F:Zd3):Zd3:=fun ρ=>(fi ρ).bind fun ds=>if ds.length<=ZN then Zen t fe F (env0 n ix ρ) ds else none
section
variable{X:Cx}{ad:Str->Addr}{E:XK}
theorem Zjf{n:Nat}{ix:List Nat}{fi:FA}{t:FG}{fe:FE}{F:Zd3}(hok:Zlu n t){σ:St}{H:Hp}
  (h:∃O ρ c,RV X.K O H ρ σ/\VF n ix fi t fe F ρ=some c/\∀H',Zf H H'->E (.ref (ad c)) none H') :
  Zes n ix (tI X.K fi) (tG X.K t) (tT X.K Y5) (fun σ H Q=>tD X.K fe σ H Q\/tXE X.K ad E F σ H Q) σ H (fun _ _=>False):=by
 obtain⟨O,ρ,c,rv,e,hE⟩:=h
 obtain⟨ds,e1,e⟩:=bind_some e
 split at e
 ·rename_i hlim
  refine⟨O,ρ,ds,rv,e1,fun J H1 s1 wk=>?_⟩
  refine⟨fun i m us σ' H'=>m=ds.length-i/\i<=ds.length/\us.length<=i/\Zf H1 H'/\σ'.length=n+ix.length/\RV X.K O H' (env0 n ix ρ) σ'/\Zen t fe F (env0 n ix ρ) (ds.drop i)=some c,
   ⟨ds.length,by simp,Q1 _,Qg _,(Zf.refl _),Zfy n ix σ,Zm2 (rv.mono s1),by simpa using e⟩,?_⟩
  rintro i m us σ' H' ⟨rfl,hi,hu,s2,hσ,rv',ec⟩
  have wk':=wk H' O (ZA s2) rv'.th i
  by_cases hlt:i<ds.length
  ·have hd:ds.drop i=ds[i]::ds.drop (i+1):=Jk hlt
   have hg:ds[i]?=some ds[i]:=Qn hlt
   obtain⟨go,yl⟩:=wk'.1 _ hg
   refine .inr ⟨go,?_,fun x H2 hy=>?_⟩
   ·have:=Z5 hlim;omega
   ·obtain⟨s3,rx⟩:=yl x H2 hy
    have rv3:=rv'.mono s3
    rw[hd]at ec
    unfold Zen at ec
    obtain⟨ws,et,ec⟩:=bind_some ec
    refine⟨O,_,ws,rv3.th,rx,et,fun vs rs=>?_⟩
    have hl0:(env0 n ix ρ).length=σ'.length:=by rw[hσ];simp[env0]
    obtain⟨rv4,hl4⟩:=RV.sets ws vs rv3 hl0 rs
    have hσ4:(Zeb σ' ws vs).length=n+ix.length:=by
     rw[<- hl4]
     have:∀(ws:List (Nat×D)) (r:Xl),(WF r ws).length=r.length:=by
      intro ws
      induction ws with
      |nil=>intro r;rfl
      |cons w ws ih=>intro r;unfold WF;rw[ih];simp
     rw[this,hl0,hσ]
    have back:∀{H5:Hp},Zf H2 H5->RV X.K O H5 (env0 n ix ρ) (Zeb σ' ws vs):=fun{H5} s5=>(rv4.mono s5).weak fun j d ej=>by
     by_cases hj:n<=j
     ·rw[Zck ws (hok _ ws et) j hj];exact ej
     ·exfalso
      unfold env0 at ej
      rw[QH (by simpa using hj),Ja]at ej
      split at ej<;>cases ej
    refine⟨O,_,true,rv4,rfl,fun H4 s4=>?_⟩
    dsimp only
    rw[if_pos rfl]
    cases eF:F (WF (env0 n ix ρ) ws) with
    |some c' =>
     rw[eF]at ec
     cases ec
     exact .inr ⟨O,_,_,rv4.mono s4,eF,fun H5 s5=>hE H5 (Zf.trans s1 (Zf.trans s2 (Zf.trans s3 (Zf.trans s4 s5))))⟩
    |none =>
     rw[eF]at ec
     obtain⟨y,ef,ec⟩:=bind_some ec
     refine .inl ⟨O,_,y,rv4.mono s4,ef,fun v H5 s5 r5=>?_⟩
     refine⟨_,by omega,rfl,hlt,?_,Zf.trans s2 (Zf.trans s3 (Zf.trans s4 s5)),hσ4,back (Zf.trans s4 s5),ec⟩
     simp;omega
  ·have ei:i=ds.length:=by omega
   subst ei
   rw[List.drop_length]at ec
   cases ec
 ·cases e
variable{scope:Scope}{elt tg iter:Expr}{pos:Pos}{fi:FA}{t:FG}{fe:FE}{F:Zd3}
theorem Zlz(x:XL X E)(N:List Str)(n:Nat)(ix:List Nat)(hok:Zlu n t)(hc:X.calm=true)(hi:IV X tg iter fi)
  (hg:∀cl C s H fp xe,GV (Z9 X N scope cl C s H fp xe) tg t) (he:∀cl C s H fp xe,EV (Z9 X N scope cl C s H fp xe) elt fe)
  (hx:∀cl C s H fp xe,V8 (Zpd X.prog X.w X.base) (Z9 X N scope cl C s H fp xe) E->XE (Z9 X N scope cl C s H fp xe) ad E elt F)
  (hk:scope.kind=.function:=by rfl) (hcell:(scope.names.all fun y=>!(y.2 == .cell))=true:=by rfl) (hnames:(scope.names.all fun y=>!(y.2 == .local)||(scope.names.lookup y.1 == some .local))=true:=by rfl)
  (hNl:N.length=n+ix.length:=by rfl) (hout:Ux X.N N n scope X.env ix=true:=by rfl) (hfree:W0 scope X.env.cells=true:=by rfl) (hs:∀x,foldedSetIterable iter X.env x=pure x:=by intro _;rfl) :
  XE X ad E (.ListComp elt [⟨tg,iter,[],0⟩] scope pos) (VF n ix fi t fe F):=by
 intro pins s σ H Q I h
 rw[eval_ListComp]
 exact Zoz (g:=tG X.K t) (tt:=tT X.K Y5) (te:=fun σ H Q=>tD X.K fe σ H Q\/tXE X.K ad E F σ H Q) x hc hi hg (fun _ _ _ _ _ _=>YH) (fun cl C s H fp xe hp=>PE.or (he cl C s H fp xe) (hx cl C s H fp xe hp)) hk hcell hnames hNl hout hfree hs I (Zjf hok h)
theorem Zqy(h:XE X ad E iter F):PI X tg iter (fun σ H _=>tXE X.K ad E F σ H (fun _ _=>False)):=fun pins s σ H R I hw=>YA (h pins s σ H (fun _ _=>False) I hw) fun v s1 ⟨_,_,_,_,z⟩=>z.elim
theorem Zpj(N:List Str)(n:Nat)(ix:List Nat)(hc:X.calm=true)(h:XE X ad E iter F)
  (hk:scope.kind=.function:=by rfl) (hcell:(scope.names.all fun y=>!(y.2 == .cell))=true:=by rfl) (hnames:(scope.names.all fun y=>!(y.2 == .local)||(scope.names.lookup y.1 == some .local))=true:=by rfl)
  (hNl:N.length=n+ix.length:=by rfl) (hout:Ux X.N N n scope X.env ix=true:=by rfl) (hfree:W0 scope X.env.cells=true:=by rfl) (hs:∀x,foldedSetIterable iter X.env x=pure x:=by intro _;rfl) :
  XE X ad E (.ListComp elt [⟨tg,iter,[],0⟩] scope pos) F :=
 PE.imp (Zmg (g:=fun _ _ _ _=>False) (tt:=tYes) (te:=fun _ _ _=>False) N n ix hc (Zqy h) (fun _ _ _ _ _=>fun _ _ _ _ _ _ _ _ _ z=>z.elim) (fun _ _ _ _ _=>Zma) (fun _ _ _ _ _=>Zie) hk hcell hnames hNl hout hfree hs) fun σ H Q h=>h
end
end L2

namespace P
open PySem L2
noncomputable def UT:FS :=
 (Zp (XB (WG (WY (f1 (Zgl "str") (fV 0)))) Zaj XF)
 (ZX (f2 Wt (fV 0) (fC (.str " ")))))
noncomputable def Zo:List D->Option D:=YZ 1 1 UT
noncomputable def Ud:FS :=
 (Zp (Zz 1 (Zxr (WY (f2 UI (fV 0) (fC (.str "-")))) (Xk (fV 0) (pS (fC (.int 1))) pN) (fV 0)))
 (Zp (XB (WZ (WG (gB (V4 (Z1 fun i j=>.bl (decide (i<=j))) (Z1 fun i j=>.bl (decide (i<=j))) (fC (.int 1)) (fL Zc1 (Za (fV 1) fN)) (fC (.int 30))))) (WG (WY (fL Zbj (Za (Z7 1 [] (Wc (fV 1)) (gN 0) Y5 (f2 Zi0 (fV 0) (fC (.str "0123456789")))) fN))))) Zaj XF)
 (Zp (XB (Zgq (gB (f2 YE (f2 Zvv (fV 1) (fC (.int 0))) (fC (.str "0")))) (gB (f2 XU (fV 0) (fC (.str "0"))))) Zaj XF)
 (ZX (fL Zr9 (Za (fV 0) fN))))))
noncomputable def Zh:List D->Option D:=YZ 1 2 Ud
noncomputable def Uh(Zh:List D->Option D):FS :=
 (Zp (Zz 1 (f2 Wg (fV 0) (fC (.str "x"))))
 (Zp (Zz 2 (f2 Wg (f2 YC (fV 1) (fC (.int 0))) (fC (.str "-"))))
 (Zp (Zz 3 (Zxr (Zso (f2 YC (fV 1) (fC (.int 1)))) (fL Zh (Za (f2 YC (fV 1) (fC (.int 2))) fN)) (fC (.int 1))))
 (ZX (fL Y4 (Za (fL Zh (Za (f2 YC (fV 2) (fC (.int 0))) fN)) (Za (fL Zh (Za (f2 YC (fV 2) (fC (.int 2))) fN)) (Za (fV 3) fN))))))))
noncomputable def Zx:List D->Option D:=YZ 1 4 (Uh Zh)
noncomputable def Ub:FS :=
 (ZX (Zxr (gB (f2 YE (fV 2) (fC (.int 1)))) (Zs0 (jC (f1 Zle (fV 0)) (jC (fC (.str "-")) (jC (f1 Zle (fV 1)) jN)))) (Zs0 (jC (f1 Zle (fV 0)) (jC (fC (.str "-")) (jC (f1 Zle (fV 1)) (jC (fC (.str "x")) (jC (f1 Zle (fV 2)) jN))))))))
noncomputable def Yg:List D->Option D:=YZ 3 3 Ub
noncomputable def Zhc(Xz Yg:List D->Option D):FS :=
 (Zp (Zul (fL Xz (Za (fV 0) fN)))
 (ZX (f2 Ve (fC (.str " ")) (f2 ZT (fL XH (Za (fL Vo (Za (f2 YC (fV 0) (fC (.int 0))) fN)) fN)) (Z7 3 [] (ZE (f2 YC (fV 0) (fC (.int 1)))) (gT [0,1,2]) Y5 (fL Yg (Za (fV 0) (Za (fV 1) (Za (fV 2) fN)))))))))
noncomputable def YN:List D->Option D:=YZ 1 1 (Zhc Xz Yg)
noncomputable def WP:FX :=
 (Zhd (WG (WY (f1 (Zgl "str") (fV 0)))) (Zah "NoText") Znb)
noncomputable def ZJ:List D->Option Str:=Wh 1 1 WP
noncomputable def Vz:FX :=
 (Y9 (Zz 1 (Zxr (WY (f2 UI (fV 0) (fC (.str "-")))) (Xk (fV 0) (pS (fC (.int 1))) pN) (fV 0))) (Zd7 (Zhd (WZ (WG (gB (V4 (Z1 fun i j=>.bl (decide (i<=j))) (Z1 fun i j=>.bl (decide (i<=j))) (fC (.int 1)) (fL Zc1 (Za (fV 1) fN)) (fC (.int 30))))) (WG (WY (fL Zbj (Za (Z7 1 [] (Wc (fV 1)) (gN 0) Y5 (f2 Zi0 (fV 0) (fC (.str "0123456789")))) fN))))) (Zah "NoText") Znb) (Y9 (XB (WZ (WG (gB (V4 (Z1 fun i j=>.bl (decide (i<=j))) (Z1 fun i j=>.bl (decide (i<=j))) (fC (.int 1)) (fL Zc1 (Za (fV 1) fN)) (fC (.int 30))))) (WG (WY (fL Zbj (Za (Z7 1 [] (Wc (fV 1)) (gN 0) Y5 (f2 Zi0 (fV 0) (fC (.str "0123456789")))) fN))))) Zaj XF) (Zhd (Zgq (gB (f2 YE (f2 Zvv (fV 1) (fC (.int 0))) (fC (.str "0")))) (gB (f2 XU (fV 0) (fC (.str "0"))))) (Zah "NoText") Znb))))
noncomputable def Zm:List D->Option Str:=Wh 1 2 Vz
noncomputable def VA(Zh:List D->Option D)(Zm:List D->Option Str):FX :=
 (Y9 (Zz 1 (f2 Wg (fV 0) (fC (.str "x")))) (Y9 (Zz 2 (f2 Wg (f2 YC (fV 1) (fC (.int 0))) (fC (.str "-")))) (Zd7 (WR (Zm9 (Zso (f2 YC (fV 1) (fC (.int 1)))) (xL Zm (Za (f2 YC (fV 1) (fC (.int 2))) fN)))) (Y9 (Zz 3 (Zxr (Zso (f2 YC (fV 1) (fC (.int 1)))) (fL Zh (Za (f2 YC (fV 1) (fC (.int 2))) fN)) (fC (.int 1)))) (WR (WQ (xL Zm (Za (f2 YC (fV 2) (fC (.int 0))) fN)) (Wr (fL Zh (Za (f2 YC (fV 2) (fC (.int 0))) fN)) (xL Zm (Za (f2 YC (fV 2) (fC (.int 2))) fN)))))))))
noncomputable def Z8:List D->Option Str:=Wh 1 4 (VA Zh Zm)
noncomputable def Zg9(Zo Zh Zx YN Zt:List D->Option D)(ZJ Zm Z8:List D->Option Str):FX :=
 (Zd7 (WR (xL ZJ (Za (fV 0) fN))) (Y9 (Zz 1 (fL Zo (Za (fV 0) fN))) (Zd7 (WR (WQ (xL Zm (Za (f2 YC (fV 1) (fC (.int 0))) fN)) (Wr (fL Zh (Za (f2 YC (fV 1) (fC (.int 0))) fN)) (VF 1 [] (ZE (Zgr (fV 1) (pS (fC (.int 1))) pN)) (gN 0) (fL Zx (Za (fV 0) fN)) (xL Z8 (Za (fV 0) fN)))))) (Y9 (Zz 2 (fL Y4 (Za (fL Zh (Za (f2 YC (fV 1) (fC (.int 0))) fN)) (Za (fL VQ (Za (Z7 1 [] (ZE (Zgr (fV 1) (pS (fC (.int 1))) pN)) (gN 0) Y5 (fL Zx (Za (fV 0) fN))) fN)) fN)))) (Zhd (WZ (WG (WY (fL Zt (Za (fV 2) fN)))) (gB (f2 XU (fL YN (Za (fV 2) fN)) (fV 0)))) (Zah "NoText") Znb)))))
noncomputable def Wz:List D->Option Str:=Wh 1 3 (Zg9 Zo Zh Zx YN Zt ZJ Zm Z8)
noncomputable def Wl(Zo Zh:List D->Option D)(Zm ZJ:List D->Option Str):FX :=
 (WR (WQ (xL ZJ (Za (fV 0) fN)) (VF 1 [] (ZE (fL Zo (Za (fV 0) fN))) (gN 0) (fL Zh (Za (fV 0) fN)) (xL Zm (Za (fV 0) fN)))))
noncomputable def Yq:List D->Option Str:=Wh 1 1 (Wl Zo Zh Zm ZJ)
noncomputable def W1(Wz Yq:List D->Option Str):FX :=
 (Zd7 (Zhd (gB (f2 YE (fV 1) (fC (.int 0)))) (WR (xL Wz (Za (fV 0) fN))) Znb) (Y9 (XB (gB (f2 YE (fV 1) (fC (.int 0)))) Zaj XF) (WR (xL Yq (Za (fV 0) fN)))))
noncomputable def Yo:List D->Option Str:=Wh 2 2 (W1 Wz Yq)
noncomputable def WB(Yo:List D->Option Str):FS :=
 (Zp (Zz 2 (fC (.int 0)))
 (Zp (Zqg ["NoText"] (xL Yo (Za (fV 0) (Za (fV 1) fN))) (fun c ρ=>if hits c "NoText"=true then(Zz 2 (f2 ZT (fV 2) (fC (.int 1)))) ρ else(fun _ _=>.bad) c ρ))
 (Zp (Zqg ["NoText"] (xL Yo (Za (fV 0) (Za (fV 1) fN))) (fun c ρ=>if hits c "YardError"=true then Zqj 3 2 ρ else(fun _ _=>.bad) c ρ))
 (ZX (f2 YE (fV 2) (fC (.int 2)))))))
noncomputable def Z2:List D->Option D:=YZ 2 4 (WB Yo)
noncomputable def WA:FS :=
 (Zp (Zf1 1 (fR few (Za (fL Vo (Za (f2 YC (fV 0) (fC (.int 0))) fN)) fN)))
 (Zp (VJ (ZE (f2 YC (fV 0) (fC (.int 1)))) (gT [2,3,4]) (Znp 1 (f2 addS (f2 addS (f2 addS (fL Vo (Za (fV 2) fN)) (fC (.str "-"))) (fL Vo (Za (fV 3) fN))) (f2 YC (fL XH (Za (fC (.str "")) (Za (f2 addS (fC (.str "x")) (fL Vo (Za (fV 4) fN))) fN))) (fL Zau (Za (f2 (Z1 fun i j=>.bl (decide (j<i))) (fV 4) (fC (.int 1))) fN))))))
 (ZX (f2 Ve (fC (.str " ")) (fV 1)))))
noncomputable def Yh:List D->Option D:=YZ 1 5 WA
noncomputable def W4:FS :=
 (Zp (Zz 3 (f2 XW (fV 2) (f2 ZT (fL Zc1 (Za (fV 0) fN)) (fC (.int 1)))))
 (Zp (XB (gB (f2 WU (fV 1) (fC (.int 2)))) (ZX (f2 addS (f2 addS (Xk (fV 0) pN (pS (fV 3))) (f2 YC (fL XH (Za (fC (.str " ")) (Za (fC (.str "-")) (Za (fC (.str "x")) (Za (fC (.str "0")) (Za (fC (.str "1")) (Za (fC (.str "5")) (Za (fC (.str "a")) (Za (fC (.str "+")) (Za (fC (.str "_")) (Za (fC (.str "\n")) fN))))))))))) (f2 XW (f2 VH (fV 2) (fC (.int 7))) (fC (.int 10))))) (Xk (fV 0) (pS (fV 3)) pN))) XF)
 (Zp (XB (gB (f2 WU (fV 1) (fC (.int 4)))) (ZX (f2 addS (Xk (fV 0) pN (pS (fV 3))) (Xk (fV 0) (pS (f2 ZT (fV 3) (fC (.int 1)))) pN))) XF)
 (Zp (Zf1 4 (Zi6 (fV 0) (fC (.str " "))))
 (Zp (Zz 5 (fL XH (Za (fC (.str "0-1x1")) (Za (fC (.str "0-1x5")) (Za (fC (.str "0-0")) (Za (fC (.str "1-0")) (Za (fC (.str "00-1")) (Za (fC (.str "0-1x")) (Za (fC (.str "-0")) (Za (fC (.str "--1")) (Za (fC (.str "")) (Za (fC (.str "0-1x4")) (Za (fC (.str "0-1")) (Za (fC (.str "2")) fN))))))))))))))
 (Zp (Zai 4 (f2 XW (f2 VH (fV 2) (fC (.int 13))) (fL Zc2 (Za (fV 4) fN))) (f2 YC (fV 5) (f2 XW (fV 2) (fC (.int 12)))))
 (ZX (f2 Ve (fC (.str " ")) (fV 4)))))))))
noncomputable def Yp:List D->Option D:=YZ 3 6 W4
noncomputable def X2:FS :=
 (Zp (XB (WZ (gB (f2 YE (fV 0) (fC (.str "")))) (WZ (gB (f2 (Z1 fun i j=>.bl (decide (j<i))) (fL Zc1 (Za (fV 0) fN)) (fC (.int 30)))) (Zgq (gB (f2 YE (f2 Zvv (fV 0) (fC (.int 0))) (fC (.str "0")))) (gB (f2 XU (fV 0) (fC (.str "0"))))))) (ZX (fC .non)) XF)
 (Zp (Zz 1 (fC (.int 0)))
 (Zp (VJ (Wc (fV 0)) (gN 2) (Zp (Zz 3 (f2 WO (fC (.str "0123456789")) (fV 2)))
 (Zp (XB (gB (f2 WU (fV 3) (fC (.int 0)))) (ZX (fC .non)) XF)
 (Zz 1 (f2 ZT (f2 XV (fC (.int 10)) (fV 1)) (fV 3))))))
 (ZX (fV 1)))))
noncomputable def Zj:List D->Option D:=YZ 1 4 X2
noncomputable def WD(Zj:List D->Option D):FS :=
 (Zp (Zz 2 (f2 WO (fV 0) (fC (.str "-"))))
 (Zp (Zz 3 (f2 WO (fV 0) (fC (.str "x"))))
 (Zp (Zz 4 (fC (.int 1)))
 (Zp (XB (gB (f2 (Z1 fun i j=>.bl (decide (j<=i))) (fV 3) (fC (.int 0)))) (Zp (Zz 4 (fL Zj (Za (Xk (fV 0) (pS (f2 ZT (fV 3) (fC (.int 1)))) pN) fN)))
 (Zz 0 (Xk (fV 0) pN (pS (fV 3))))) XF)
 (Zp (XB (WZ (gB (f2 WU (fV 2) (fC (.int 0)))) (WZ (gB (f2 Vu (fV 4) (fC .non))) (WZ (Zgq (gB (f2 YE (fV 4) (fC (.int 1)))) (gB (f2 (Z1 fun i j=>.bl (decide (j<=i))) (fV 3) (fC (.int 0))))) (WZ (gB (f2 WU (fV 4) (fC (.int 1)))) (gB (f2 (Z1 fun i j=>.bl (decide (j<i))) (fV 4) (fC (.int 4)))))))) (ZX (fC .non)) XF)
 (Zp (Zz 5 (fL Y4 (Za (fL Zj (Za (Xk (fV 0) pN (pS (fV 2))) fN)) (Za (fL Zj (Za (Xk (fV 0) (pS (f2 ZT (fV 2) (fC (.int 1)))) pN) fN)) fN))))
 (Zp (XB (WZ (gB (f2 Vu (f2 YC (fV 5) (fC (.int 0))) (fC .non))) (WZ (gB (f2 Vu (f2 YC (fV 5) (fC (.int 1))) (fC .non))) (WZ (gB (f2 (Z1 fun i j=>.bl (decide (j<=i))) (f2 YC (fV 5) (fC (.int 0))) (f2 YC (fV 5) (fC (.int 1))))) (gB (f2 (Z1 fun i j=>.bl (decide (j<=i))) (f2 YC (fV 5) (fC (.int 1))) (fV 1)))))) (ZX (fC .non)) XF)
 (ZX (f2 Zdy (fV 5) (fL Y4 (Za (fV 4) fN)))))))))))
noncomputable def Z4:List D->Option D:=YZ 2 6 (WD Zj)
noncomputable def X3(Zj Z4:List D->Option D):FS :=
 (Zp (Zz 1 (f2 Wt (fV 0) (fC (.str " "))))
 (Zp (Zz 2 (fL Zj (Za (f2 YC (fV 1) (fC (.int 0))) fN)))
 (Zp (XB (WZ (gB (f2 Vu (fV 2) (fC .non))) (WZ (gB (f2 WU (fV 2) (fC (.int 1)))) (gB (f2 (Z1 fun i j=>.bl (decide (j<i))) (fV 2) (fC (.int 5)))))) (ZX (fC .non)) XF)
 (Zp (Zz 3 (Z7 1 [2] (ZE (Zgr (fV 1) (pS (fC (.int 1))) pN)) (gN 0) Y5 (fL Z4 (Za (fV 0) (Za (fV 1) fN)))))
 (Zp (XB (gB (f2 Z0a (fC .non) (fV 3))) (ZX (fC .non)) XF)
 (Zp (Zz 4 (Z7 1 [] (ZE (fV 3)) (gN 0) Y5 (Zgr (fV 0) pN (pS (fC (.int 2))))))
 (Zp (Zz 5 (Z7 1 [] (fR Zak (Za (fV 2) fN)) (gN 0) Y5 (fV 0)))
 (Zp (VJ (ZE (fV 4)) (gT [6,7]) (Zz 5 (Z7 1 [5,6,7] (ZE (fV 5)) (gN 0) Y5 (f2 YC (fL XH (Za (fV 0) (Za (f2 YC (fV 1) (fV 2)) fN))) (fL Zau (Za (f2 YE (fV 0) (f2 YC (fV 1) (fV 3))) fN))))))
 (Zp (XB (WZ (gB (f2 XU (fV 4) (f1 Zev (fV 4)))) (gB (f2 XU (f1 Uy (fV 5)) (fC (.int 1))))) (ZX (fC .non)) XF)
 (ZX (fL Y4 (Za (fV 2) (Za (fL VQ (Za (fV 3) fN)) fN)))))))))))))
noncomputable def Zw:List D->Option D:=YZ 1 8 (X3 Zj Z4)
noncomputable def Wf(Zj:List D->Option D):FS :=
 (Zp (XB (gB (f2 XU (Xk (fV 0) pN (pS (fC (.int 1)))) (fC (.str "-")))) (ZX (fL Zj (Za (fV 0) fN))) XF)
 (Zp (Zz 1 (fL Zj (Za (Xk (fV 0) (pS (fC (.int 1))) pN) fN)))
 (Zp (XB (WZ (gB (f2 Vu (fV 1) (fC .non))) (gB (f2 YE (fV 1) (fC (.int 0))))) (ZX (fC .non)) XF)
 (ZX (f1 Zzp (fV 1))))))
noncomputable def Z6:List D->Option D:=YZ 1 2 (Wf Zj)
noncomputable def WC(Z6:List D->Option D):FS :=
 (Zp (Zz 1 (Z7 1 [] (ZE (f2 Wt (fV 0) (fC (.str " ")))) (gN 0) Y5 (fL Z6 (Za (fV 0) fN))))
 (Zp (XB (gB (f2 Z0a (fC .non) (fV 1))) (ZX (fC .non)) XF)
 (ZX (fL VQ (Za (fV 1) fN)))))
noncomputable def Z3:List D->Option D:=YZ 1 2 (WC Z6)
noncomputable def Zlv(Zo Zx Zh YN Zt:List D->Option D):FS :=
 (Zp (Zz 1 (fL Zo (Za (fV 0) fN)))
 (Zp (Zz 2 (fL Y4 (Za (fL Zh (Za (f2 YC (fV 1) (fC (.int 0))) fN)) (Za (fL VQ (Za (Z7 1 [] (ZE (Zgr (fV 1) (pS (fC (.int 1))) pN)) (gN 0) Y5 (fL Zx (Za (fV 0) fN))) fN)) fN))))
 (Zp (XB (WZ (WG (WY (fL Zt (Za (fV 2) fN)))) (gB (f2 XU (fL YN (Za (fV 2) fN)) (fV 0)))) Zaj XF)
 (ZX (fV 2)))))
noncomputable def W2:List D->Option D:=YZ 1 3 (Zlv Zo Zx Zh YN Zt)
noncomputable def Uc(Zo Zh:List D->Option D):FS :=
 (ZX (fL VQ (Za (Z7 1 [] (ZE (fL Zo (Za (fV 0) fN))) (gN 0) Y5 (fL Zh (Za (fV 0) fN))) fN)))
noncomputable def Yz:List D->Option D:=YZ 1 1 (Uc Zo Zh)
noncomputable def Wm(W2 Yz:List D->Option D):FS :=
 (Zp (XB (gB (f2 YE (fV 1) (fC (.int 0)))) (ZX (fL W2 (Za (fV 0) fN))) XF)
 (ZX (fL Yz (Za (fV 0) fN))))
noncomputable def Yi:List D->Option D:=YZ 2 2 (Wm W2 Yz)
noncomputable def Ztw(Zk Yb Z2 Yh Yk Yp Zw Z3 Yi:List D->Option D):FS :=
 (Zp (Zz 1 (fL Zk (Za (fV 0) (Za (fC (.int 30)) (Za (fC (.int 7)) fN)))))
 (Zp (Zz 2 (fL Zk (Za (fV 0) (Za (fC (.int 31)) (Za (f2 Zqv (fC (.int 10)) (fC (.int 6))) fN)))))
 (Zp (Zz 3 (fL Zk (Za (fV 0) (Za (fC (.int 32)) (Za (fC (.int 2)) fN)))))
 (Zp (Zz 4 (fL Yb (Za (fV 0) (Za (fC (.int 0)) (Za (fC (.int 5)) fN)))))
 (Zp (XB (gB (f2 YE (fV 1) (fC (.int 6)))) (ZX (fL Z2 (Za (f2 YC (fL XH (Za (fC .non) (Za (fC (.int 1)) (Za (fL XH (Za (fC (.str "1")) fN)) (Za (fL Y4 (Za (fC (.int 1)) (Za (fL Y4 fN) fN))) (Za (fC (.bl true)) fN)))))) (f2 XW (fV 2) (fC (.int 5)))) (Za (fV 3) fN)))) XF)
 (Zp (Zz 5 (fL Yh (Za (fV 4) fN)))
 (Zp (XB (gB (f2 YE (fV 3) (fC (.int 1)))) (Zz 5 (f2 Ve (fC (.str " ")) (Z7 1 [] (ZE (fL Yk (Za (fV 0) (Za (fC (.int 20)) (Za (f2 YC (fV 4) (fC (.int 0))) (Za (fC (.int 9)) fN)))))) (gN 0) Y5 (fL Vo (Za (fV 0) fN))))) XF)
 (Zp (Zz 5 (fL Yp (Za (fV 5) (Za (fV 1) (Za (fV 2) fN)))))
 (Zp (Zz 6 (fL Zw (Za (fV 5) fN)))
 (Zp (XB (gB (f2 YE (fV 3) (fC (.int 1)))) (Zz 6 (fL Z3 (Za (fV 5) fN))) XF)
 (Zp (XB (gB (f2 Vu (fV 6) (fC .non))) (ZX (fL Z2 (Za (fV 5) (Za (fV 3) fN)))) XF)
 (ZX (f2 YE (fL Yi (Za (fV 5) (Za (fV 3) fN))) (fV 6))))))))))))))
noncomputable def Ztv:List D->Option D:=YZ 1 7 (Ztw Zk Yb Z2 Yh Yk Yp Zw Z3 Yi)
end P

namespace P
open PySem L2 HT
local macro_rules | `(tactic| simp! only [$ts,*]) => `(tactic| simp only [YZ, YB, Yl, ZW, Zvf, WU, XF, Zz, sSetI, ZX, XB, Zul, Zf1, Zaj, fV, fC, f1, f2, fN, Za, fL, Zxr, Zos, fOr, Z0r, gB, Zgq, WZ, WG, WY, V4, ZE, fR, fFr, Zgr, pN, pS, YF, Ws, WF, Zbf, gN, gT, env0, Qh, JK, Qp, QY, List.replicate, Tc, J9, JA, J0, List.getElem?_nil, Tf, Tg, Ta, Te, QB, Option.bind_none, Td, Nat.reduceAdd, Nat.reduceSub, Nat.reduceEqDiff, if_true, if_false, reduceIte, Qr, Zzt, Zru, Zzu, Z1, Zm7, XW, ixD_t, Zix, ixD_s, Y4, XH, few, Zyd, Zzp, decide_true, decide_false, JW, Bool.not_false, decide_not, ne_eq, not_true_eq_false, not_false_eq_true, Int.reduceEq, Th, Int.natCast_add, Int.reduceAdd, Th, $ts,*])
def cell(ns:List Int)(k:Int):Int:=if k<ns.length then(ns[k.toNat]?).getD 0 else if ns=[] then 0 else(ns[(k%ns.length).toNat]?).getD 0*31+k
theorem Zmy{ns:List Int}{i:Int}(h0:0<=i)(h:i<ns.length):(VI ns i).map D.int=some (.int ((ns[i.toNat]?).getD 0)):=by
 have hl:i.toNat<ns.length:=by omega
 rw[Zay (x:=ns[i.toNat]) h0 (Qn hl),Qn hl]
 rfl
theorem Xq{i:Int}(h0:-(2^64)<i)(h:i<2^64):Ul i=true:=@decide_eq_true _ (Classical.propDecidable _) ⟨h0,h⟩
theorem VY{i j:Int}(h:Ul i=true):XV (.int i) (.int j)=some (.int (i*j)):=by simp[XV,h]
theorem Zrm{i j:Int}(h:Ul j=true):XV (.int i) (.int j)=some (.int (i*j)):=by simp[XV,h]
theorem Z0k(ns:List Int){k:Int}(hk:0<=k):Ys [.scr ns,.int k]=some (.int (cell ns k)):=by
 unfold Ys WE cell
 simp! only[]
 by_cases h:k<ns.length
 ·simp! only[h]
  rw[Zmy hk h]
  rfl
 ·simp! only[h,QY,Q1,Zs6]
  by_cases e:ns=[]
  ·simp! only[e]
  ·have hp:0<ns.length:=List.length_pos_iff.mpr e
   have h1:(0:Int)<(ns.length:Int):=by omega
   simp! only[e,h1]
   rw[Zmy (JD _ (by omega)) (Jo _ h1)]
   simp! only[Zrm (Xq (i:=31) (by decide) (by decide))]
def drawn(ns:List Int)(k:Int):Int:=(cell ns k+7919*k+1)*48271%2147483647
def V0(ns:List Int)(k m:Int):Int:=(drawn ns k*drawn ns k+7*drawn ns k+k)%2147483629%m
theorem Vs{ns:List Int}{k m:Int}(hm:0<m):0<=V0 ns k m:=JD _ (by omega)
theorem VZ{ns:List Int}{k m:Int}(hm:0<m):V0 ns k m<m:=Jo _ hm
theorem XO(ns:List Int){k m:Int}(hk:0<=k)(hm:0<m):Zk [.scr ns,.int k,.int m]=some (.int (V0 ns k m)):=by
 have d0:0<=drawn ns k:=JD _ (by decide)
 have d1:drawn ns k<2147483647:=Jo _ (by decide)
 have p1:(0:Int)<2147483647:=by decide
 have p2:(0:Int)<2147483629:=by decide
 unfold Zk VD
 simp! only[Z0k ns hk,VY (Xq (i:=7919) (by decide) (by decide)),Zrm (Xq (i:=48271) (by decide) (by decide)),p1]
 rw[show(cell ns k+7919*k+1)*48271%2147483647=drawn ns k from rfl]
 simp! only[VY (Xq (i:=drawn ns k) (by omega) (by omega)),VY (Xq (i:=7) (by decide) (by decide)),p2,hm]
 rfl
def Zpz(n:Nat)(f:Nat->Int):List Int:=(List.range n).map f
theorem Zft(n:Nat)(f:Nat->Int):(Zpz n f).length=n:=by simp[Zpz]
def tD(n:Nat)(f:Nat->Int):D:=.tup ((Zpz n f).map .int)
theorem tD_eq(n:Nat)(f:Nat->Int):D.tup ((List.range n).map (fun i=>D.int (f i)))=tD n f:=by
 unfold tD Zpz
 rw[Qy]
 rfl
theorem Znr{n:Nat}(h:n<=1000):(List.range n).length<=65536:=by rw[List.length_range];omega
theorem Z0j(ns:List Int){k:Int}{n:Nat}{m:Int}(hk:0<=k)(hm:0<=m)(hn:n<=1000):Yk [.scr ns,.int k,.int n,.int m]=some (tD n fun i=>V0 ns (k+i) (2*m+1)-m):=by
 unfold Yk Ui
 simp! only[]
 rw[Yv (fun(i:Nat)=>D.int (i:Int)) (fun i=>D.int (V0 ns (k+i) (2*m+1)-m)) (List.range n) (by simp! only[U4 (show n<=65536 by omega)]) (Znr hn)]
 ·simp! only[VQ,tD_eq]
 ·intro x hx
  refine⟨_,rfl,?_⟩
  simp! only[VY (Xq (i:=2) (by decide) (by decide)),XO ns (k:=k+x) (m:=2*m+1) (by omega) (by omega)]
abbrev Bd:=Int×Int×Int
structure Gr where
 n:Nat
 bs:List Bd
def bD(b:Bd):D:=.tup [.int b.1,.int b.2.1,.int b.2.2]
def gD(g:Gr):D:=.tup [.int g.n,.tup (g.bs.map bD)]
structure GOk(g:Gr):Prop where
 n1:1<=g.n
 n5:g.n<=5
 rg:∀b∈g.bs,0<=b.1/\b.1<b.2.1/\b.2.1<g.n/\1<=b.2.2/\b.2.2<=4
 rise:g.bs.Pairwise (fun x y=>HT.lexLt [x.1,x.2.1] [y.1,y.2.1]=true)
 par:∀y:Nat,1<=y->y<g.n->∃b∈g.bs,b.2.1=y
 few:g.bs.length<=10
theorem Zoj(i:Int):Zgl "int" (.int i)=some (.bl true):=by simp[Zgl,Zxm,Za7]
theorem Zk9(i:Int):Zgl "bool" (.int i)=some (.bl false):=by simp[Zgl,Zxm,Za7]
theorem Wo(ds:List D):Zgl "tuple" (.tup ds)=some (.bl true):=by simp[Zgl,Zxm,Za7]
theorem Zi2(i:Int):YW [.int i]=some (.bl true):=by
 unfold YW Ue
 simp! only[Zoj,Zk9]
theorem Vf(i lo hi:Int):Zs [.int i,.int lo,.int hi]=some (.bl (decide (lo<=i/\i<=hi))):=by
 unfold Zs Xu
 simp! only[Zi2]
 by_cases h:lo<=i
 ·simp! only[h,true_and]
 ·simp! only[h,false_and]
theorem Ztp(b:Bd):VI [D.int b.1,.int b.2.1,.int b.2.2] 0=some (.int b.1):=rfl
theorem Zto(b:Bd):VI [D.int b.1,.int b.2.1,.int b.2.2] 1=some (.int b.2.1):=rfl
theorem Ztn(b:Bd):VI [D.int b.1,.int b.2.1,.int b.2.2] 2=some (.int b.2.2):=rfl
theorem Ztd(ds:List D)(k:Nat):Zbi ds none (some (k:Int))=ds.take k:=by
 unfold Zbi
 rw[Zh2,Zl4]
 simp
theorem Zja(ds:List D)(k:Nat):Zbi ds (some (k:Int)) none=ds.drop k:=by
 unfold Zbi
 rw[Zh2,Zl4]
 by_cases h:k<=ds.length
 ·rw[Nat.min_eq_left h,J3 (by rw[QX];omega)]
 ·rw[Nat.min_eq_right (by omega),Jj (by omega),Jj (by omega)];simp
def Zd6:List Bd->List (Bd×Bd)
 |a::b::r=>(a,b)::Zd6 (b::r)
 |_=>[]
theorem Zph:∀bs:List Bd,W7 (bs.map bD) ((bs.map bD).drop 1)=(Zd6 bs).map fun p=>.tup [bD p.1,bD p.2]
 |[]=>rfl
 |[_]=>rfl
 |a::b::r=>by
  have:=Zph (b::r)
  simp only[Qh,List.drop_succ_cons,List.drop_zero,W7,Zd6]at this ⊢
  rw[this]
theorem Zhj:∀bs:List Bd,(Zd6 bs).length<=bs.length
 |[]=>Qg _
 |[_]=>Q1 _
 |a::b::r=>by
  have:=Zhj (b::r)
  simp only[Zd6,Qp]at this ⊢
  omega
theorem Zhx(b:Bd):Zbi [D.int b.1,.int b.2.1,.int b.2.2] none (some 2)=[D.int b.1,.int b.2.1]:=Ztd _ 2
theorem lt_bD(a b:Bd):WU (.tup [D.int a.1,.int a.2.1]) (.tup [D.int b.1,.int b.2.1])=some (.bl (HT.lexLt [a.1,a.2.1] [b.1,b.2.1])):=rfl
def kN(l:List Nat):List YQ:=l.map fun(i:Nat)=>Sum.inl (i:Int)
def tN(l:List Nat):List D:=l.map fun _=>.bl true
def VT(l:List Nat)(i:Nat):List Nat:=if i∈l then l else l++[i]
theorem Zgi{l:List Nat}{i:Nat}:(Sum.inl (i:Int):YQ)∈kN l↔i∈l:=by
 unfold kN
 constructor
 ·intro h
  obtain⟨j,hj,e⟩:=QA.mp h
  have:(j:Int)=(i:Int):=Sum.inl.inj e
  rw[show i=j by omega];exact hj
 ·intro h;exact QA.mpr ⟨i,h,rfl⟩
theorem Zrt:∀(l:List Nat) (i:Nat),(Zjx (kN l) (tN l) (Sum.inl (i:Int):YQ)).isSome=decide (i∈l)
 |[],i=>by simp[kN,tN,Zjx]
 |j::l,i=>by
  have ih:=Zrt l i
  unfold kN tN at ih ⊢
  simp only[Qh,Zjx]
  by_cases e:j=i
  ·subst e;simp
  ·have:¬((Sum.inl (j:Int):YQ)=Sum.inl (i:Int)):=fun z=>e (by have:=Sum.inl.inj z;omega)
   rw[if_neg this,ih]
   have:i≠j:=fun z=>e z.symm
   simp[this]
theorem Zqp(l:List Nat)(i:Nat):Za3 (kN l) (Sum.inl (i:Int):YQ)=kN (VT l i):=by
 unfold Za3 VT
 by_cases h:i∈l
 ·rw[if_pos (Zgi.mpr h),if_pos h]
 ·rw[if_neg (fun z=>h (Zgi.mp z)),if_neg h];simp[kN]
theorem Zpg:∀(l:List Nat) (x:YQ),((kN l).zip (tN l)).map (fun p=>if p.1=x then(.bl true:D) else p.2)=tN l
 |[],_=>rfl
 |j::l,x=>by
  have ih:=Zpg l x
  unfold kN tN at ih ⊢
  simp only[Qh,Jt,ih]
  split<;>rfl
theorem Zqq(l:List Nat)(i:Nat):Za4 (kN l) (tN l) (Sum.inl (i:Int):YQ) (.bl true)=tN (VT l i):=by
 unfold Za4 VT
 by_cases h:i∈l
 ·rw[if_pos (Zgi.mpr h),if_pos h,Zpg]
 ·rw[if_neg (fun z=>h (Zgi.mp z)),if_neg h];simp[tN]
theorem Zro{l:List Nat}{i j:Nat}:j∈VT l i↔j∈l\/j=i:=by
 unfold VT
 by_cases h:i∈l
 ·rw[if_pos h]
  constructor
  ·exact .inl
  ·rintro(z|z)
   ·exact z
   ·subst z;exact h
 ·rw[if_neg h];simp
theorem Zkn{l:List Nat}{i:Nat}(h:l.Nodup):(VT l i).Nodup:=by
 unfold VT
 by_cases e:i∈l
 ·rw[if_pos e];exact h
 ·rw[if_neg e,List.nodup_append]
  exact⟨h,by simp,fun a ha b hb=>by simp at hb;subst hb;exact fun z=>e (z▸ha)⟩
structure Ztt(n:Nat)(l:List Nat):Prop where
 nd:l.Nodup
 lt:∀i∈l,i<n
theorem Ztt.put{n:Nat}{l:List Nat}{i:Nat}(h:Ztt n l)(hi:i<n):Ztt n (VT l i):=⟨Zkn h.nd,fun j hj=>by
 rcases Zro.mp hj with z|z
 ·exact h.lt j z
 ·omega⟩
theorem Ztt.len{n:Nat}{l:List Nat}(h:Ztt n l):l.length<=n:=M.length_le_of_nodup n l h.nd h.lt
def XJ(g:Gr)(l:List Nat)(x:List (Option Cl)):XR:=some (.val (.int g.n))::some (.val (.tup (g.bs.map bD)))::some (.own (.dcK (kN l) (tN l)))::x
theorem Zr1{g:Gr}{l:List Nat}{a b c:Option Cl}{i:Nat}(k:Nat)(hl:l.length<=5){x:List (Option Cl)}(hx:(YF (XJ g l x))[k]?=some (some (.int (i:Int)))) :
  Xa 2 (fV k) (fC (.bl true)) (XJ g l x)=.nx (XJ g (VT l i) x):=by
 have e1:fV k (YF (XJ g l x))=some (.int (i:Int)):=by unfold fV;rw[hx];rfl
 have e2:fC (.bl true) (YF (XJ g l x))=some (.bl true):=rfl
 have e3:(XJ g l x)[2]?=some (some (.own (.dcK (kN l) (tN l)))):=rfl
 unfold Xa
 rw[e1,e2,e3]
 dsimp only[Zk3]
 rw[if_pos ⟨rfl,by unfold kN ZN;rw[Qd];omega⟩,Zqp,Zqq]
 rfl
theorem jturn{g:Gr}{l:List Nat}{x3:Option Cl}{a b:Nat}{k:Int}(hl:l.length<=4\/l.length<=5)(hl5:(VT l a).length<=5) :
  XB (WZ (gB (f2 UP (fV 4) (fV 2))) (gB (f2 UP (fV 5) (fV 2)))) (Zp (Xa 2 (fV 4) (fC (.bl true))) (Xa 2 (fV 5) (fC (.bl true)))) XF (XJ g l [x3,some (.val (.int a)),some (.val (.int b)),some (.val (.int k))]) =
   .nx (XJ g (if a∈l\/b∈l then VT (VT l a) b else l) [x3,some (.val (.int a)),some (.val (.int b)),some (.val (.int k))]):=by
 have e4:gB (f2 UP (fV 4) (fV 2)) (YF (XJ g l [x3,some (.val (.int a)),some (.val (.int b)),some (.val (.int k))]))=some (decide (a∈l)):=by
  unfold XJ
  simp! only[UP,Zad,Zk3,Zrt]
 have e5:gB (f2 UP (fV 5) (fV 2)) (YF (XJ g l [x3,some (.val (.int a)),some (.val (.int b)),some (.val (.int k))]))=some (decide (b∈l)):=by
  unfold XJ
  simp! only[UP,Zad,Zk3,Zrt]
 have put:Zp (Xa 2 (fV 4) (fC (.bl true))) (Xa 2 (fV 5) (fC (.bl true))) (XJ g l [x3,some (.val (.int a)),some (.val (.int b)),some (.val (.int k))])=.nx (XJ g (VT (VT l a) b) [x3,some (.val (.int a)),some (.val (.int b)),some (.val (.int k))]):=by
  rw[Yl,Zr1 (a:=none) (b:=none) (c:=none) (i:=a) 4 (by omega) rfl,ZW,Zr1 (a:=none) (b:=none) (c:=none) (i:=b) 5 hl5 rfl]
 unfold XB WZ
 rw[e4,e5]
 by_cases ha:a∈l
 ·simp only[ha,decide_true,QB,if_true,true_or];exact put
 ·by_cases hb:b∈l
  ·simp only[ha,hb,decide_true,decide_false,QB,Qr,if_false,if_true,or_true];exact put
  ·simp only[ha,hb,decide_false,QB,Qr,if_false,or_self];rfl
theorem Zsp(g:Gr):YC (gD g) (.int 0)=some (.int g.n):=rfl
def ln(bs:List Bd)(i j:Nat):Int:=(bs.map fun b=>if b.1=((min i j:Nat):Int)/\b.2.1=((max i j:Nat):Int) then b.2.2 else 0).sum
theorem Zrn(i j:Nat):Zim [.int i,.int j]=some (.int (min i j:Nat)):=by
 unfold Zim
 dsimp only
 by_cases h:(j:Int)<i
 ·rw[if_pos h,Nat.min_eq_right (by omega)]
 ·rw[if_neg h,Nat.min_eq_left (by omega)]
theorem Zrp(i j:Nat):Zin [.int i,.int j]=some (.int (max i j:Nat)):=by
 unfold Zin
 dsimp only
 by_cases h:(j:Int)>i
 ·rw[if_pos h,Nat.max_eq_right (by omega)]
 ·rw[if_neg h,Nat.max_eq_left (by omega)]
def fl(c:Nat->Int)(k:Nat)(b:Bd):Int:=(if b.1=(k:Int) then b.2.2*(c b.1.toNat-c b.2.1.toNat) else 0)-(if b.2.1=(k:Int) then b.2.2*(c b.1.toNat-c b.2.1.toNat) else 0)
def hits(i j:Nat)(b:Bd):Bool:=decide (b.1=((min i j:Nat):Int)/\b.2.1=((max i j:Nat):Int))
abbrev Jn:=(Nat×Nat)×Int
def jk(p:Nat×Nat):List YQ:=[Sum.inl (p.1:Int),Sum.inl (p.2:Int)]
def ki(p:Nat×Nat):List Int:=[(p.1:Int),(p.2:Int)]
def kJ(js:List Jn):List (List YQ):=js.map fun j=>jk j.1
def dJ(js:List Jn):List D:=js.map fun j=>.int j.2
def UK(js:List Jn)(p:Nat×Nat)(v:Int):List Jn:=if p∈js.map (·.1) then js.map (fun j=>if j.1=p then(p,v) else j) else js++[(p,v)]
theorem Zk5{p q:Nat×Nat}:jk p=jk q↔p=q:=by
 constructor
 ·intro h
  unfold jk at h
  simp only[Jx,Sum.inl.injEq,and_true]at h
  exact Prod.ext (by omega) (by omega)
 ·intro h;rw[h]
theorem Zgj{js:List Jn}{p:Nat×Nat}:jk p∈kJ js↔p∈js.map (·.1):=by
 unfold kJ
 simp only[QA]
 constructor
 ·rintro⟨j,hj,e⟩;exact⟨j,hj,Zk5.mp e⟩
 ·rintro⟨j,hj,e⟩;exact⟨j,hj,by rw[e]⟩
theorem Zut(js:List Jn)(p:Nat×Nat)(v:Int):Za3 (kJ js) (jk p)=kJ (UK js p v):=by
 unfold Za3 UK
 by_cases h:p∈js.map (·.1)
 ·rw[if_pos (Zgj.mpr h),if_pos h]
  unfold kJ
  rw[Qy]
  refine QW fun j _=>?_
  show jk j.1=jk (if j.1=p then(p,v) else j).1
  split
  ·rename_i e;rw[e]
  ·rfl
 ·rw[if_neg (fun z=>h (Zgj.mp z)),if_neg h];simp[kJ]
theorem Zws:∀(js:List Jn) (p:Nat×Nat) (v:Int),((kJ js).zip (dJ js)).map (fun q=>if q.1=jk p then(.int v:D) else q.2)=dJ (js.map fun j=>if j.1=p then(p,v) else j)
 |[],_,_=>rfl
 |j::js,p,v=>by
  have ih:=Zws js p v
  unfold kJ dJ at ih ⊢
  simp only[Qh,Jt,ih]
  congr 1
  by_cases e:j.1=p
  ·rw[if_pos (by rw[e]),if_pos e]
  ·rw[if_neg (fun z=>e (Zk5.mp z)),if_neg e]
theorem Zuu(js:List Jn)(p:Nat×Nat)(v:Int):Za4 (kJ js) (dJ js) (jk p) (.int v)=dJ (UK js p v):=by
 unfold Za4 UK
 by_cases h:p∈js.map (·.1)
 ·rw[if_pos (Zgj.mpr h),if_pos h,Zws]
 ·rw[if_neg (fun z=>h (Zgj.mp z)),if_neg h];simp[dJ]
def Zmq(js:List Jn)(p:Nat×Nat):Option Int:=(js.find? fun j=>decide (j.1=p)).map (·.2)
theorem Zzr:∀(js:List Jn) (p:Nat×Nat),Zjx (kJ js) (dJ js) (jk p)=(Zmq js p).map .int
 |[],p=>rfl
 |j::js,p=>by
  have ih:=Zzr js p
  unfold kJ dJ at ih ⊢
  unfold Zmq at ih ⊢
  simp only[Qh,Zjx,JB]
  by_cases e:j.1=p
  ·rw[if_pos (by rw[e])];simp[e]
  ·rw[if_neg (fun z=>e (Zk5.mp z)),ih];simp[e]
structure Zwr(n m:Nat)(js:List Jn):Prop where
 nd:(js.map (·.1)).Nodup
 rg:∀j∈js,j.1.1<j.1.2/\j.1.2<n/\1<=j.2/\j.2<=4
 par:∀y,1<=y->y<m->∃j∈js,j.1.2=y
theorem Zey{js:List Jn}{p:Nat×Nat}{v:Int}:(UK js p v).map (·.1)=if p∈js.map (·.1) then js.map (·.1) else js.map (·.1)++[p]:=by
 unfold UK
 by_cases h:p∈js.map (·.1)
 ·rw[if_pos h,if_pos h,Qy]
  refine QW fun j _=>?_
  show(if j.1=p then(p,v) else j).1=j.1
  split
  ·rename_i e;exact e.symm
  ·rfl
 ·rw[if_neg h,if_neg h];simp
theorem Zh9{js:List Jn}{p:Nat×Nat}{v:Int}:(UK js p v).length<=js.length+1:=by
 have:=congrArg List.length (Zey (js:=js) (p:=p) (v:=v))
 rw[Qd]at this
 rw[this]
 split<;>simp
theorem Zwr.put{n m m':Nat}{js:List Jn}(h:Zwr n m js){p:Nat×Nat}{v:Int}(h1:p.1<p.2)(h2:p.2<n)(h3:1<=v)(h4:v<=4)(hm:m'<=m\/(m'=m+1/\p.2=m)):Zwr n m' (UK js p v):=by
 have keys:=Zey (js:=js) (p:=p) (v:=v)
 refine⟨?_,fun j hj=>?_,fun y y1 ym=>?_⟩
 ·rw[keys]
  split
  ·exact h.nd
  ·rename_i hn
   rw[List.nodup_append]
   exact⟨h.nd,by simp,fun a ha b hb=>by simp at hb;subst hb;exact fun z=>hn (z▸ha)⟩
 ·unfold UK at hj
  split at hj
  ·obtain⟨i,hi,e⟩:=QA.mp hj
   split at e
   ·subst e;exact⟨h1,h2,h3,h4⟩
   ·subst e;exact h.rg i hi
  ·rcases QE.mp hj with z|z
   ·exact h.rg j z
   ·simp at z;subst z;exact⟨h1,h2,h3,h4⟩
 ·have mem:∀{q:Nat×Nat},q∈(UK js p v).map (·.1)->∃j∈UK js p v,j.1=q:=fun{q} hq=>by
   obtain⟨j,hj,e⟩:=QA.mp hq;exact⟨j,hj,e⟩
  by_cases e:y<m
  ·obtain⟨j,hj,ej⟩:=h.par y y1 e
   have:j.1∈(UK js p v).map (·.1):=by
    rw[keys]
    have hj':j.1∈js.map (·.1):=QA.mpr ⟨j,hj,rfl⟩
    split
    ·exact hj'
    ·exact Q3 _ hj'
   obtain⟨i,hi,ei⟩:=mem this
   exact⟨i,hi,by rw[ei];exact ej⟩
  ·have ey:y=p.2:=by omega
   have:p∈(UK js p v).map (·.1):=by
    rw[keys]
    split
    ·rename_i z;exact z
    ·simp
   obtain⟨i,hi,ei⟩:=mem this
   exact⟨i,hi,by rw[ei];exact ey.symm⟩
theorem Zzs{n m:Nat}{js:List Jn}(h:Zwr n m js){p:Nat×Nat}{v:Int}(e:Zmq js p=some v):1<=v/\v<=4:=by
 unfold Zmq at e
 cases q:js.find? fun j=>decide (j.1=p) with
 |none=>rw[q]at e;cases e
 |some j =>
  rw[q]at e;cases e
  exact(h.rg j (List.mem_of_find?_eq_some q)).2.2
theorem Zio{js:List Jn}{p:Nat×Nat}(h:p∈js.map (·.1)):∃v,Zmq js p=some v:=by
 obtain⟨j,hj,e⟩:=QA.mp h
 unfold Zmq
 cases q:js.find? fun j=>decide (j.1=p) with
 |none =>
  have:=List.find?_eq_none.mp q j hj
  simp[e]at this
 |some i=>exact⟨i.2,rfl⟩
def Xj(ns:List Int)(a t:Int)(n:Nat)(js:List Jn)(x:List (Option Cl)):XR:=some (.val (.scr ns))::some (.val (.int a))::some (.val (.int t))::some (.val (.int n))::some (.own (.dcT (kJ js) (dJ js)))::x
theorem Zgh(p:Nat×Nat):Zvo (.tup [.int p.1,.int p.2])=some (jk p):=rfl
theorem gput{ns:List Int}{a t:Int}{n:Nat}{js:List Jn}{x:List (Option Cl)}{fk fv:FE}{p:Nat×Nat}{v:Int}(hk:fk (YF (Xj ns a t n js x))=some (.tup [.int p.1,.int p.2]))(hv:fv (YF (Xj ns a t n js x))=some (.int v))(hl:js.length<60000) :
  Xa 4 fk fv (Xj ns a t n js x)=.nx (Xj ns a t n (UK js p v) x):=by
 have e3:(Xj ns a t n js x)[4]?=some (some (.own (.dcT (kJ js) (dJ js)))):=rfl
 unfold Xa
 rw[hk,hv,e3]
 dsimp only
 rw[Zgh]
 dsimp only
 rw[if_pos ⟨rfl,by unfold kJ ZN;rw[Qd];omega⟩,Zut js p v,Zuu]
 rfl
theorem Zsw{i j:Int}(h0:0<j)(h:j<1073741824):VH (.int i) (.int j)=some (.int (i/j)):=@if_pos _ (Classical.propDecidable _) ⟨h0,h⟩ _ _ _
theorem Zfz{ks:List (List Int)}(hl:ks.length<64)(nd:ks.Nodup)(hne:∀k∈ks,k≠[]):Vp [.lst (ks.map kT)]=some (.lst ((Xv ks).map kT)):=by
 cases ks with
 |nil=>simp[Vp,XM,Zmv,Xv]
 |cons k ks =>
  have hi:XM ((k::ks).map kT)=none:=rfl
  unfold Vp
  dsimp only
  rw[hi]
  dsimp only
  rw[UF]
  dsimp only
  rw[if_pos ⟨hl,nd,hne⟩]
theorem W8{ks:List (List Int)}{k:List Int}:k∈Xv ks↔k∈ks:=(JX ks _).mem_iff
theorem Zer{ks:List (List Int)}:(Xv ks).length=ks.length:=(JX ks _).length_eq
theorem Zcf{ks:List (List Int)}(nd:ks.Nodup):(Xv ks).Pairwise (fun a b=>HT.lexLt a b=true):=by
 have h1:=List.pairwise_mergeSort Za5 Za6 ks
 have h2:(Xv ks).Nodup:=(JX ks _).nodup_iff.mpr nd
 have h3:=h1.and (List.nodup_iff_pairwise_ne.mp h2)
 refine h3.imp fun{a b} ⟨l,ne⟩=>?_
 rcases X7 a b ne with z|z
 ·exact z
 ·unfold VG at l;rw[z]at l;cases l
def Zg6(js:List Jn):List Bd:=(Xv (js.map fun j=>ki j.1)).map fun k=>(k.getD 0 0,k.getD 1 0,(Zmq js ((k.getD 0 0).toNat,(k.getD 1 0).toNat)).getD 0)
theorem Zzv{p q:Nat×Nat}(h:ki p=ki q):p=q:=by
 unfold ki at h
 simp only[Jx,and_true]at h
 exact Prod.ext (by omega) (by omega)
theorem Zis{js:List Jn}(h:(js.map (·.1)).Nodup):(js.map fun j=>ki j.1).Nodup:=by
 rw[show(js.map fun j=>ki j.1)=(js.map (·.1)).map ki by rw[Qy];rfl]
 rw[List.nodup_iff_pairwise_ne]at h ⊢
 rw[List.pairwise_map]
 exact h.imp fun ne z=>ne (Zzv z)
theorem Zvp{n:Nat}{js:List Jn}(h:Zwr n n js)(h1:1<=n)(h5:n<=5)(hl:js.length<=10):GOk ⟨n,Zg6 js⟩:=by
 have key:∀b∈Zg6 js,∃j∈js,b.1=(j.1.1:Int)/\b.2.1=(j.1.2:Int)/\1<=b.2.2/\b.2.2<=4:=fun b hb=>by
  unfold Zg6 at hb
  obtain⟨k,hk,e⟩:=QA.mp hb
  obtain⟨j,hj,ek⟩:=QA.mp (W8.mp hk)
  subst e;subst ek
  obtain⟨v,hv⟩:=Zio (js:=js) (p:=j.1) (QA.mpr ⟨j,hj,rfl⟩)
  have rv:=Zzs h hv
  refine⟨j,hj,rfl,rfl,?_⟩
  show 1<=(Zmq js (((j.1.1:Int)).toNat,((j.1.2:Int)).toNat)).getD 0/\(Zmq js (((j.1.1:Int)).toNat,((j.1.2:Int)).toNat)).getD 0<=4
  rw[QF,QF,show((j.1.1,j.1.2):Nat×Nat)=j.1 from rfl,hv]
  exact rv
 refine⟨h1,h5,fun b hb=>?_,?_,fun y y1 yn=>?_,by show(Zg6 js).length<=10;unfold Zg6;rw[Qd,Zer,Qd];exact hl⟩
 ·obtain⟨j,hj,e1,e2,e3,e4⟩:=key b hb
  have:=h.rg j hj
  show 0<=b.1/\b.1<b.2.1/\b.2.1<(n:Int)/\_
  omega
 ·show(Zg6 js).Pairwise _
  unfold Zg6
  rw[List.pairwise_map]
  have hr:=Zcf (Zis h.nd)
  refine List.Pairwise.imp_of_mem (fun{a b} ha hb hab=>?_) hr
  obtain⟨i,_,rfl⟩:=QA.mp (W8.mp ha)
  obtain⟨j,_,rfl⟩:=QA.mp (W8.mp hb)
  exact hab
 ·obtain⟨j,hj,e⟩:=h.par y y1 yn
  refine⟨_,QA.mpr ⟨ki j.1,W8.mpr (QA.mpr ⟨j,hj,rfl⟩),rfl⟩,?_⟩
  show((j.1.2:Nat):Int)=y
  omega
theorem Zsk(ns:List Int){a:Int}{t:Nat}(ha:0<=a)(ht:1<=t)(h5:t<=5):∃g,GOk g/\g.n<=t/\Yb [.scr ns,.int a,.int t]=some (gD g):=by
 have tp:(0:Int)<(t:Int):=by omega
 obtain⟨n,hn⟩:∃n:Nat,1+V0 ns a t=(n:Int):=⟨(1+V0 ns a t).toNat,by have:=Vs (ns:=ns) (k:=a) tp;omega⟩
 have m0:=Vs (ns:=ns) (k:=a) tp
 have m1:=VZ (ns:=ns) (k:=a) tp
 have n1:1<=n:=by omega
 have nt:n<=t:=by omega
 have es:YB 3 10 [D.scr ns,.int a,.int t]=[some (.val (.scr ns)),some (.val (.int a)),some (.val (.int t)),none,none,none,none,none,none,none]:=rfl
 have e1:Zz 3 (f2 ZT (fC (.int 1)) (fL Zk (Za (fV 0) (Za (fV 1) (Za (fV 2) fN))))) [some (.val (.scr ns)),some (.val (.int a)),some (.val (.int t)),none,none,none,none,none,none,none] =
   .nx [some (.val (.scr ns)),some (.val (.int a)),some (.val (.int t)),some (.val (.int n)),none,none,none,none,none,none]:=by
  simp! only[XO ns ha tp,hn]
 have e2:Zqh 4 [some (.val (.scr ns)),some (.val (.int a)),some (.val (.int t)),some (.val (.int n)),none,none,none,none,none,none]=.nx (Xj ns a t n [] [none,none,none,none,none]):=rfl
 have loop1:∃js x,Uw (fR Zkh (Za (fC (.int 1)) (Za (fV 3) fN))) (gN 5) (Xa 4 (fL Y4 (Za (fL Zk (Za (fV 0) (Za (f2 ZT (fV 1) (fV 5)) (Za (fV 5) fN)))) (Za (fV 5) fN))) (f2 ZT (fC (.int 1)) (f2 VH (fL Zk (Za (fV 0) (Za (f2 ZT (f2 ZT (fV 1) (fC (.int 5))) (fV 5)) (Za (fC (.int 5)) fN)))) (fC (.int 3)))))
   (Xj ns a t n [] [none,none,none,none,none])=.nx (Xj ns a t n js [x,none,none,none,none])/\Zwr n n js/\js.length<=4:=by
  have hr:fR Zkh (Za (fC (.int 1)) (Za (fV 3) fN)) (YF (Xj ns a t n [] [none,none,none,none,none]))=some ((List.range (n-1)).map fun(k:Nat)=>D.int (1+(k:Int))):=by
   unfold Xj
   simp! only[Zun (i:=1) (j:=n) (by omega) (by omega) (by omega) (by omega)]
   rw[show((n:Int)-1).toNat=n-1 by omega]
  unfold Uw
  rw[hr]
  dsimp only
  obtain⟨ρ',e,⟨js,x,rfl,h1,h2⟩⟩:=Zde (t:=gN 5) (F:=Xa 4 (fL Y4 (Za (fL Zk (Za (fV 0) (Za (f2 ZT (fV 1) (fV 5)) (Za (fV 5) fN)))) (Za (fV 5) fN))) (f2 ZT (fC (.int 1)) (f2 VH (fL Zk (Za (fV 0) (Za (f2 ZT (f2 ZT (fV 1) (fC (.int 5))) (fV 5)) (Za (fC (.int 5)) fN)))) (fC (.int 3)))))
   (fun m ρ=>∃js x,ρ=Xj ns a t n js [x,none,none,none,none]/\Zwr n (m+1) js/\js.length<=m) ((List.range (n-1)).map fun(k:Nat)=>D.int (1+(k:Int))) 0 (Xj ns a t n [] [none,none,none,none,none]) (fun m e ρ he hP=>by
    obtain⟨js,x,rfl,h1,h2⟩:=hP
    rw[QC]at he
    have hm:m<n-1:=by
     cases q:(List.range (n-1))[m]? with
     |none=>rw[q]at he;cases he
     |some z=>have:=(Qj.mp q).1;simpa using this
    rw[List.getElem?_range hm]at he
    cases he
    have y0:(0:Int)<1+(m:Int):=by omega
    have k0:=Vs (ns:=ns) (k:=a+(1+(m:Int))) y0
    have k1:=VZ (ns:=ns) (k:=a+(1+(m:Int))) y0
    have v0:=Vs (ns:=ns) (k:=a+5+(1+(m:Int))) (show(0:Int)<5 by decide)
    have v1:=VZ (ns:=ns) (k:=a+5+(1+(m:Int))) (show(0:Int)<5 by decide)
    refine⟨_,_,rfl,gput (js:=js) (p:=((V0 ns (a+(1+(m:Int))) (1+(m:Int))).toNat,m+1)) (v:=1+V0 ns (a+5+(1+(m:Int))) 5/3) (x:=[some (.val (.int (1+(m:Int)))),none,none,none,none]) ?_ ?_ (by omega),_,some (.val (.int (1+(m:Int)))),rfl,?_,?_⟩
    ·unfold Xj
     simp! only[XO ns (show 0<=a+(1+(m:Int)) by omega) y0,ZN,Nat.reduceLeDiff]
     rw[show(((V0 ns (a+(1+(m:Int))) (1+(m:Int))).toNat:Nat):Int)=V0 ns (a+(1+(m:Int))) (1+(m:Int)) by omega,Int.add_comm (m:Int) 1]
    ·unfold Xj
     simp! only[XO ns (show 0<=a+5+(1+(m:Int)) by omega) (show(0:Int)<5 by decide),Zsw (show(0:Int)<3 by decide) (show(3:Int)<1073741824 by decide)]
    ·exact h1.put (by show _<m+1;omega) (by show m+1<n;omega) (by omega) (by omega) (.inr ⟨by omega,by show m+1=0+m+1;omega⟩)
    ·have:=Zh9 (js:=js) (p:=((V0 ns (a+(1+(m:Int))) (1+(m:Int))).toNat,m+1)) (v:=1+V0 ns (a+5+(1+(m:Int))) 5/3)
     omega) ⟨[],none,rfl,⟨by simp,fun j hj=>(by cases hj),fun y y1 ym=>(by omega)⟩,Qg _⟩
  refine⟨js,x,e,?_,?_⟩
  ·rw[Qd,List.length_range,show 0+(n-1)+1=n by omega]at h1;exact h1
  ·rw[Qd,List.length_range]at h2;omega
 obtain⟨js1,x1,l1,ok1,len1⟩:=loop1
 have loop2:∃js x,Uw (fR Zak (Za (f2 XV (fL Zk (Za (fV 0) (Za (f2 ZT (fV 1) (fC (.int 10))) (Za (fC (.int 4)) fN)))) (fL Zau (Za (f2 (Z1 fun i j=>.bl (decide (j<i))) (fV 3) (fC (.int 1))) fN))) fN)) (gN 6) (Zp (Zz 7 (fL Zk (Za (fV 0) (Za (f2 ZT (f2 ZT (fV 1) (fC (.int 11))) (f2 XV (fC (.int 2)) (fV 6))) (Za (fV 3) fN)))))
 (Zp (Zz 8 (f2 XW (f2 ZT (f2 ZT (fV 7) (fC (.int 1))) (fL Zk (Za (fV 0) (Za (f2 ZT (f2 ZT (fV 1) (fC (.int 12))) (f2 XV (fC (.int 2)) (fV 6))) (Za (f2 (Z1 fun i j=>.int (i-j)) (fV 3) (fC (.int 1))) fN))))) (fV 3)))
 (Zp (Zz 9 (fL Y4 (Za (fL Zim (Za (fV 7) (Za (fV 8) fN))) (Za (fL Zin (Za (fV 7) (Za (fV 8) fN))) fN))))
 (Xa 4 (fV 9) (f2 ZT (f2 XW (Zor (fV 4) (fV 9) (fC (.int 0))) (fC (.int 4))) (fC (.int 1)))))))
   (Xj ns a t n js1 [x1,none,none,none,none])=.nx (Xj ns a t n js x)/\Zwr n n js/\js.length<=8:=by
  have q0:=Vs (ns:=ns) (k:=a+10) (show(0:Int)<4 by decide)
  have q1:=VZ (ns:=ns) (k:=a+10) (show(0:Int)<4 by decide)
  obtain⟨r,hr4,hrn,hr⟩:∃r:Nat,r<=4/\(0<r->1<n)/\fR Zak (Za (f2 XV (fL Zk (Za (fV 0) (Za (f2 ZT (fV 1) (fC (.int 10))) (Za (fC (.int 4)) fN)))) (fL Zau (Za (f2 (Z1 fun i j=>.bl (decide (j<i))) (fV 3) (fC (.int 1))) fN))) fN) (YF (Xj ns a t n js1 [x1,none,none,none,none]))=some ((List.range r).map fun k=>D.int (k:Nat)):=by
   have sm:∀z,XV (.int (V0 ns (a+10) 4)) (.int z)=some (.int (V0 ns (a+10) 4*z)):=fun z=>VY (Xq (by omega) (by omega))
   by_cases hn1:(1:Int)<n
   ·refine⟨(V0 ns (a+10) 4).toNat,by omega,fun _=>by omega,?_⟩
    unfold Xj
    simp! only[XO ns (show 0<=a+10 by omega) (show(0:Int)<4 by decide),hn1,Zau,sm,Int.mul_one,Zl5 q0 (show V0 ns (a+10) 4<=65536 by omega)]
   ·refine⟨0,by omega,fun z=>absurd z (by omega),?_⟩
    unfold Xj
    simp! only[XO ns (show 0<=a+10 by omega) (show(0:Int)<4 by decide),hn1,Zau,sm,Int.mul_zero,Zl5 (j:=0) (by decide) (by decide)]
    rfl
  unfold Uw
  rw[hr]
  dsimp only
  obtain⟨ρ',e,⟨js,x5,x6,x7,x8,x9,rfl,h1,h2⟩⟩:=Zde (t:=gN 6) (F:=Zp (Zz 7 (fL Zk (Za (fV 0) (Za (f2 ZT (f2 ZT (fV 1) (fC (.int 11))) (f2 XV (fC (.int 2)) (fV 6))) (Za (fV 3) fN)))))
 (Zp (Zz 8 (f2 XW (f2 ZT (f2 ZT (fV 7) (fC (.int 1))) (fL Zk (Za (fV 0) (Za (f2 ZT (f2 ZT (fV 1) (fC (.int 12))) (f2 XV (fC (.int 2)) (fV 6))) (Za (f2 (Z1 fun i j=>.int (i-j)) (fV 3) (fC (.int 1))) fN))))) (fV 3)))
 (Zp (Zz 9 (fL Y4 (Za (fL Zim (Za (fV 7) (Za (fV 8) fN))) (Za (fL Zin (Za (fV 7) (Za (fV 8) fN))) fN))))
 (Xa 4 (fV 9) (f2 ZT (f2 XW (Zor (fV 4) (fV 9) (fC (.int 0))) (fC (.int 4))) (fC (.int 1)))))))
   (fun m ρ=>∃js x5 x6 x7 x8 x9,ρ=Xj ns a t n js [x5,x6,x7,x8,x9]/\Zwr n n js/\js.length<=m+4) ((List.range r).map fun k=>D.int (k:Nat)) 0 (Xj ns a t n js1 [x1,none,none,none,none]) (fun m e ρ he hP=>by
    obtain⟨js,x5,x6,x7,x8,x9,rfl,h1,h2⟩:=hP
    rw[QC]at he
    have hm:m<r:=by
     cases q:(List.range r)[m]? with
     |none=>rw[q]at he;cases he
     |some z=>have:=(Qj.mp q).1;simpa using this
    rw[List.getElem?_range hm]at he
    cases he
    have n2:=hrn (by omega)
    have np:(0:Int)<(n:Int):=by omega
    have np1:(0:Int)<(n:Int)-1:=by omega
    obtain⟨i,hi⟩:∃i:Nat,V0 ns (a+11+2*(m:Int)) n=(i:Int):=⟨(V0 ns (a+11+2*(m:Int)) n).toNat,by have:=Vs (ns:=ns) (k:=a+11+2*(m:Int)) np;omega⟩
    have iN:i<n:=by have:=VZ (ns:=ns) (k:=a+11+2*(m:Int)) np;omega
    have u0:=Vs (ns:=ns) (k:=a+12+2*(m:Int)) np1
    have u1:=VZ (ns:=ns) (k:=a+12+2*(m:Int)) np1
    obtain⟨j,hj⟩:∃j:Nat,((i:Int)+1+V0 ns (a+12+2*(m:Int)) ((n:Int)-1))%(n:Int)=(j:Int):=⟨(((i:Int)+1+V0 ns (a+12+2*(m:Int)) ((n:Int)-1))%(n:Int)).toNat,by have:=JD ((i:Int)+1+V0 ns (a+12+2*(m:Int)) ((n:Int)-1)) (show(n:Int)≠0 by omega);omega⟩
    have jN:j<n:=by have:=Jo ((i:Int)+1+V0 ns (a+12+2*(m:Int)) ((n:Int)-1)) np;omega
    have ij:i≠j:=fun z=>by
     subst z
     by_cases w:(i:Int)+1+V0 ns (a+12+2*(m:Int)) ((n:Int)-1)<n
     ·rw[Int.emod_eq_of_lt (by omega) w]at hj;omega
     ·have:((i:Int)+1+V0 ns (a+12+2*(m:Int)) ((n:Int)-1))%(n:Int)=(i:Int)+1+V0 ns (a+12+2*(m:Int)) ((n:Int)-1)-n:=by
       rw[<- Int.sub_emod_right,Int.emod_eq_of_lt (by omega) (by omega)]
      omega
    have s7:Zz 7 (fL Zk (Za (fV 0) (Za (f2 ZT (f2 ZT (fV 1) (fC (.int 11))) (f2 XV (fC (.int 2)) (fV 6))) (Za (fV 3) fN)))) (Xj ns a t n js [x5,some (.val (.int (m:Int))),x7,x8,x9])=.nx (Xj ns a t n js [x5,some (.val (.int (m:Int))),some (.val (.int i)),x8,x9]):=by
     unfold Xj
     simp! only[VY (Xq (i:=2) (by decide) (by decide)),XO ns (show 0<=a+11+2*(m:Int) by omega) np,hi]
    have s8:Zz 8 (f2 XW (f2 ZT (f2 ZT (fV 7) (fC (.int 1))) (fL Zk (Za (fV 0) (Za (f2 ZT (f2 ZT (fV 1) (fC (.int 12))) (f2 XV (fC (.int 2)) (fV 6))) (Za (f2 (Z1 fun i j=>.int (i-j)) (fV 3) (fC (.int 1))) fN))))) (fV 3)) (Xj ns a t n js [x5,some (.val (.int (m:Int))),some (.val (.int i)),x8,x9])=.nx (Xj ns a t n js [x5,some (.val (.int (m:Int))),some (.val (.int i)),some (.val (.int j)),x9]):=by
     unfold Xj
     simp! only[VY (Xq (i:=2) (by decide) (by decide)),XO ns (show 0<=a+12+2*(m:Int) by omega) np1,np,hj]
    have s9:Zz 9 (fL Y4 (Za (fL Zim (Za (fV 7) (Za (fV 8) fN))) (Za (fL Zin (Za (fV 7) (Za (fV 8) fN))) fN))) (Xj ns a t n js [x5,some (.val (.int (m:Int))),some (.val (.int i)),some (.val (.int j)),x9])=.nx (Xj ns a t n js [x5,some (.val (.int (m:Int))),some (.val (.int i)),some (.val (.int j)),some (.val (.tup [.int (min i j:Nat),.int (max i j:Nat)]))]):=by
     unfold Xj
     simp! only[Zrn,Zrp,ZN,Nat.reduceLeDiff]
    obtain⟨v,hv⟩:∃v:Int,(match Zmq js (min i j,max i j) with|some v=>v|none=>0)=v:=⟨_,rfl⟩
    have sv:(f2 ZT (f2 XW (Zor (fV 4) (fV 9) (fC (.int 0))) (fC (.int 4))) (fC (.int 1))) (YF (Xj ns a t n js [x5,some (.val (.int (m:Int))),some (.val (.int i)),some (.val (.int j)),some (.val (.tup [.int (min i j:Nat),.int (max i j:Nat)]))]))=some (.int (v%4+1)):=by
     unfold Xj
     have p4:(0:Int)<4:=by decide
     have kt:=Zgh (min i j,max i j)
     dsimp only at kt
     simp! only[Zor,Zad,kt,Zzr]
     cases w:Zmq js (min i j,max i j) with
     |none =>
      rw[w]at hv
      dsimp only at hv
      subst hv
      simp! only[Option.map_none,p4]
     |some u =>
      rw[w]at hv
      dsimp only at hv
      subst hv
      simp! only[p4]
    refine⟨_,Xj ns a t n (UK js (min i j,max i j) (v%4+1)) [x5,some (.val (.int (m:Int))),some (.val (.int i)),some (.val (.int j)),some (.val (.tup [.int (min i j:Nat),.int (max i j:Nat)]))],rfl,?_,_,_,_,_,_,_,rfl,?_,?_⟩
    ·show Zn0 (Zz 7 _ (Xj ns a t n js [x5,some (.val (.int (m:Int))),x7,x8,x9])) _=_
     rw[s7,ZW,Yl,s8,ZW,Yl,s9,ZW]
     exact gput (p:=(min i j,max i j)) rfl sv (by omega)
    ·have:0<=v%4:=JD _ (by decide)
     have:v%4<4:=Jo _ (by decide)
     exact h1.put (by show min i j<max i j;omega) (by show max i j<n;omega) (by omega) (by omega) (.inl (Qg _))
    ·have:=Zh9 (js:=js) (p:=(min i j,max i j)) (v:=v%4+1)
     omega) ⟨js1,x1,none,none,none,none,rfl,ok1,by omega⟩
  refine⟨js,_,e,h1,?_⟩
  rw[Qd,List.length_range]at h2
  omega
 obtain⟨js,x,l2,ok2,len2⟩:=loop2
 refine⟨⟨n,Zg6 js⟩,Zvp ok2 n1 (by omega) (by omega),nt,?_⟩
 unfold Yb W5 YZ
 rw[if_pos (show([D.scr ns,.int a,.int t]:List D).length=3 from rfl),es,Yl,e1,ZW,Yl,e2,ZW,Yl,l1,ZW,Yl,l2,ZW]
 have hs:Vp [.lst ((kJ js).map fun k=>.tup (k.map kD))]=some (.lst ((Xv (js.map fun j=>ki j.1)).map kT)):=by
  have:((kJ js).map fun k=>D.tup (k.map kD))=(js.map fun j=>ki j.1).map kT:=by
   unfold kJ
   rw[Qy,Qy]
   rfl
  rw[this]
  refine Zfz (by rw[Qd];omega) (Zis ok2.nd) fun k hk=>?_
  obtain⟨j,_,rfl⟩:=QA.mp hk
  unfold ki;simp
 unfold Xj
 simp! only[]
 rw[Yv kT (fun k=>bD (k.getD 0 0,k.getD 1 0,(Zmq js ((k.getD 0 0).toNat,(k.getD 1 0).toNat)).getD 0)) (Xv (js.map fun j=>ki j.1)) (by simp! only[Zgg,hs,UO]) (by rw[Zer,Qd];omega)]
 ·simp! only[VQ,ZN,Nat.reduceLeDiff]
  unfold gD Zg6
  rw[Qy]
  rfl
 ·intro k hk
  refine⟨_,rfl,?_⟩
  obtain⟨j,hj,rfl⟩:=QA.mp (W8.mp hk)
  obtain⟨v,hv⟩:=Zio (js:=js) (p:=j.1) (QA.mpr ⟨j,hj,rfl⟩)
  have kt:=Zgh j.1
  have ek:kT (ki j.1)=.tup [.int j.1.1,.int j.1.2]:=rfl
  have e0:(Zmq js (((ki j.1).getD 0 0).toNat,((ki j.1).getD 1 0).toNat)).getD 0=v:=by
   show(Zmq js (((j.1.1:Nat):Int).toNat,((j.1.2:Nat):Int).toNat)).getD 0=v
   rw[QF,QF,show((j.1.1,j.1.2):Nat×Nat)=j.1 from rfl,hv];rfl
  rw[e0]
  simp! only[ek,Z02,Zad,kt,Zzr,hv,ZN,Nat.reduceLeDiff]
  rfl
def nL(bs:List Nat):D:=.lst (bs.map fun i=>D.int ((i:Nat):Int))
theorem Zwo{a b:List D}(hl:a.length+b.length<=65536):ZT (.lst a) (.lst b)=some (.lst (a++b)):=by
 unfold ZT
 dsimp only
 rw[if_pos (show a.length+b.length<=ZN from hl)]
def rD(r:List Int):D:=.lst (r.map .int)
def ssD(S:List (List Nat)):D:=.lst (S.map nL)
theorem addS{a b:List (List Nat)}(h:a.length+b.length<=65536):ZT (ssD a) (ssD b)=some (ssD (a++b)):=by
 unfold ssD
 rw[Zwo (by rw[Qd,Qd];exact h),List.map_append]
theorem Zrs(ns:List Int)(k m:Int)(hm:0<=m)(i:Nat):-m<=V0 ns (k+i) (2*m+1)-m/\V0 ns (k+i) (2*m+1)-m<=m:=by
 have a:=Vs (ns:=ns) (k:=k+i) (show(0:Int)<2*m+1 by omega)
 have b:=VZ (ns:=ns) (k:=k+i) (show(0:Int)<2*m+1 by omega)
 omega
theorem Zsi(ns:List Int){k:Int}{n:Nat}{m:Int}(hk:0<=k)(hm:0<=m)(hn:n<=1000):∃d:Nat->Int,(∀i,-m<=d i/\d i<=m)/\Yk [.scr ns,.int k,.int n,.int m]=some (tD n d) :=
 ⟨_,fun i=>Zrs ns k m hm i,Z0j ns hk hm hn⟩
theorem Zs5(a b:Str)(ha:PyData.strOk a=true)(hb:PyData.strOk b=true):YE (.str a) (.str b)=some (.bl (decide (a=b))):=by
 rw[Ur (by simpa [dk] using ha) (by simpa [dk] using hb) (by simp[UD]) (by simp[UD])]
 congr 2
 exact decide_eq_decide.mpr ⟨fun e=>(by injection e),fun e=>(by rw[e])⟩
theorem Zii(a b:Str)(ha:PyData.strOk a=true)(hb:PyData.strOk b=true):XU (.str a) (.str b)=some (.bl (decide (a≠b))):=by
 rw[Zgc (by simpa [dk] using ha) (by simpa [dk] using hb) (by simp[UD]) (by simp[UD])]
 congr 2
 exact decide_eq_decide.mpr ⟨fun e h=>e (by rw[h]),fun e h=>e (by injection h)⟩
theorem lim2:(2<=ZN)=True:=by unfold ZN;simp
theorem lim3:(3<=ZN)=True:=by unfold ZN;simp
theorem Zn8(ns:List Int)(h:ns.length<=4000):Uy (.lst (ns.map .int))=some (.int ((ns.foldl Uv []).length:Nat)):=by
 unfold Uy
 dsimp only
 rw[Zda]
 dsimp only
 rw[if_pos h]
def Zt5:List (Nat×Nat):=[(0,1),(0,2),(0,3),(0,4),(1,2),(1,3),(1,4),(2,3),(2,4),(3,4)]
def U0{α:Type}:List α->List (List α)
 |[]=>[[]]
 |x::xs=>U0 xs++(U0 xs).map (x::·)
theorem Ze0{α:Type}{S L:List α}(h:S.Sublist L):S∈U0 L:=by
 induction h with
 |slnil=>simp[U0]
 |cons a _ ih=>unfold U0;exact QE.mpr (.inl ih)
 |cons_cons a _ ih=>unfold U0;exact QE.mpr (.inr (QA.mpr ⟨_,ih,rfl⟩))
def k2(p:Nat×Nat):List Int:=[(p.1:Int),(p.2:Int)]
def Zn7(x y:Nat×Nat):Bool:=decide (x.1<y.1)||(Nat.beq x.1 y.1&&decide (x.2<y.2))
def Y3:List (Nat×Nat)->Bool
 |x::y::r=>Zn7 x y&&Y3 (y::r)
 |_=>true
def Zwb(l:List (Nat×Nat)):Bool:=match runG (l.map k2) ([],7,#[]) with
 |none=>false
 |some st=>decide (st.1.length<64)&&decide (st.1.Nodup)&&(st.1.all fun k=>!k.isEmpty)&&okW st&&(!Y3 l||st.1.isPerm (l.map k2))
theorem Yf{α:Type}{l:List α}{p:α->Bool}(n:Nat)(h1:(l.take n).all p=true)(h2:(l.drop n).all p=true):l.all p=true:=by
 rw[<- List.take_append_drop n l,List.all_append,h1,h2];rfl
def Zqa(l:List Nat)(p:Nat×Nat):List Nat:=if p.1∈l\/p.2∈l then VT (VT l p.1) p.2 else l
def jn(n:Nat)(ps:List (Nat×Nat)):Bool:=decide (((List.range n).foldl (fun l _=>ps.foldl Zqa l) [0]).length=n)
def Zkb(ν:List Int)(p:Nat×Nat):List Int:=ν.map fun x=>if x=ν.getD p.2 0 then ν.getD p.1 0 else x
def Zze(n:Nat)(ps:List (Nat×Nat)):Bool:=decide (((ps.foldl Zkb ((List.range n).map fun(i:Nat)=>(i:Int))).foldl Uv []).length=1)
def agr(n:Nat):Bool:=(U0 Zt5).all fun S=>!(S.all fun p=>decide (p.2<n))||jn n S == Zze n S
theorem agr_1:agr 1=true:=by decide+kernel
theorem agr_2:agr 2=true:=by decide+kernel
theorem agr_3:agr 3=true:=by decide+kernel
theorem agr_4:agr 4=true:=by decide+kernel
theorem agr_5:agr 5=true:=by decide+kernel
theorem Zfs{p:Nat×Nat}(h:p.1<p.2/\p.2<=4):p∈Zt5:=by
 obtain⟨a,b⟩:=p
 simp only at h
 have:(a=0/\b=1)\/(a=0/\b=2)\/(a=0/\b=3)\/(a=0/\b=4)\/(a=1/\b=2)\/(a=1/\b=3)\/(a=1/\b=4)\/(a=2/\b=3)\/(a=2/\b=4)\/(a=3/\b=4):=by omega
 rcases this with⟨rfl,rfl⟩|⟨rfl,rfl⟩|⟨rfl,rfl⟩|⟨rfl,rfl⟩|⟨rfl,rfl⟩|⟨rfl,rfl⟩|⟨rfl,rfl⟩|⟨rfl,rfl⟩|⟨rfl,rfl⟩|⟨rfl,rfl⟩<;>decide
theorem WL{x y:Nat×Nat}:Zn7 x y=true↔x.1<y.1\/(x.1=y.1/\x.2<y.2):=by
 unfold Zn7;simp
theorem Vq:∀{l:List (Nat×Nat)},Y3 l=true->l.Pairwise fun x y=>Zn7 x y=true
 |[],_=>.nil
 |[x],_=>by simp
 |x::y::r,h=>by
  have h:(Zn7 x y&&Y3 (y::r))=true:=h
  rw[Qq]at h
  have ih:=Vq h.2
  refine List.pairwise_cons.mpr ⟨fun z hz=>?_,ih⟩
  rcases Ql.mp hz with rfl|hz
  ·exact h.1
  ·have a:=WL.mp h.1
   have b:=WL.mp ((List.pairwise_cons.mp ih).1 z hz)
   exact WL.mpr (by omega)
theorem sub_of{L S:List (Nat×Nat)}(hL:L.Pairwise fun x y=>Zn7 x y=true)(hS:S.Pairwise fun x y=>Zn7 x y=true)(h:∀x∈S,x∈L):S.Sublist L:=by
 induction L generalizing S with
 |nil =>
  cases S with
  |nil=>exact .slnil
  |cons x S=>have:=h x Qf;cases this
 |cons x L ih =>
  obtain⟨hx,hL'⟩:=List.pairwise_cons.mp hL
  have irr:∀y,Zn7 y y=true->False:=fun y hy=>by have:=WL.mp hy;omega
  cases S with
  |nil=>exact List.nil_sublist _
  |cons y S =>
   obtain⟨hy,hS'⟩:=List.pairwise_cons.mp hS
   by_cases e:y=x
   ·subst e
    refine .cons_cons _ (ih hL' hS' fun z hz=>?_)
    rcases Ql.mp (h z (Qe _ hz)) with rfl|q
    ·exact(irr _ (hy _ hz)).elim
    ·exact q
   ·refine .cons _ (ih hL' hS fun z hz=>?_)
    rcases Ql.mp (h z hz) with rfl|q
    ·have yL:y∈L:=by
      rcases Ql.mp (h y Qf) with q|q
      ·exact absurd q e
      ·exact q
     rcases Ql.mp hz with q|q
     ·exact absurd q.symm e
     ·have a:=WL.mp (hx y yL)
      have b:=WL.mp (hy z q)
      omega
    ·exact q
theorem Zvy{S:List (Nat×Nat)}(h:∀p∈S,p.1<p.2/\p.2<=4)(r:Y3 S=true):S∈U0 Zt5 :=
 Ze0 (sub_of (Vq (by decide)) (Vq r) fun p hp=>Zfs (h p hp))
theorem jn_nm{n:Nat}(h1:1<=n)(h5:n<=5){S:List (Nat×Nat)}(h:∀p∈S,p.1<p.2/\p.2<n)(r:Y3 S=true):jn n S=Zze n S:=by
 have hm:=Zvy (fun p hp=>by have:=h p hp;omega) r
 have ha:agr n=true:=by
  have:n=1\/n=2\/n=3\/n=4\/n=5:=by omega
  rcases this with rfl|rfl|rfl|rfl|rfl
  ·exact agr_1
  ·exact agr_2
  ·exact agr_3
  ·exact agr_4
  ·exact agr_5
 have:=Qs.mp ha S hm
 have e:(S.all fun p=>decide (p.2<n))=true:=Qs.mpr fun p hp=>decide_eq_true (h p hp).2
 rw[e]at this
 simpa using this
theorem Zbv(x y:Nat×Nat):HT.lexLt (k2 x) (k2 y)=Zn7 x y:=by
 obtain⟨a,b⟩:=x
 obtain⟨c,d⟩:=y
 have e:Zn7 (a,b) (c,d)=decide (a<c\/(a=c/\b<d)):=by
  by_cases h:a<c\/(a=c/\b<d)
  ·rw[decide_eq_true h];exact WL.mpr h
  ·rw[decide_eq_false h]
   cases q:Zn7 (a,b) (c,d) with
   |false=>rfl
   |true=>exact absurd (WL.mp q) h
 rw[e]
 unfold k2
 simp only[HT.lexLt]
 by_cases h:a<c
 ·have:¬((a:Int)=c):=by omega
  simp[h,this]
 ·by_cases e:a=c
  ·subst e
   by_cases h2:b<d
   ·have:¬((b:Int)=d):=by omega
    simp[h2,this]
   ·simp[h2]
  ·have:¬((a:Int)=c):=by omega
   simp[h,e,this]
theorem Zl8:∀{l:List (Nat×Nat)},(l.map k2).Pairwise (fun a b=>HT.lexLt a b=true)->Y3 l=true
 |[],_=>rfl
 |[x],_=>rfl
 |x::y::r,h=>by
  obtain⟨h1,h2⟩:=List.pairwise_cons.mp h
  show(Zn7 x y&&Y3 (y::r))=true
  rw[Qq]
  exact⟨by rw[<- Zbv];exact h1 _ Qf,Zl8 h2⟩
theorem Ztg{l:List (Nat×Nat)}(h:Zwb l=true)(hl:l.length<=390):∃ks:List (List Int),Zev (.lst ((l.map k2).map kT))=some (.lst (ks.map kT))/\(ks=l.map k2↔Y3 l=true):=by
 unfold Zwb at h
 split at h
 ·cases h
 ·rename_i st e
  simp only[Qq,decide_eq_true_eq,Qs]at h
  obtain⟨⟨⟨⟨h1,h2⟩,h3⟩,h4⟩,h5⟩:=h
  refine⟨Xv st.1,?_,fun z=>?_,fun z=>?_⟩
  ·unfold Zev
   dsimp only
   rw[UF,QB,if_pos (by rw[Qd];exact hl),e,QB,if_pos ⟨h1,h2,fun k hk z=>(by have:=h3 k hk;rw[z]at this;cases this),h4⟩]
  ·have:=Zcf h2
   rw[z]at this
   exact Zl8 this
  ·rw[z]at h5
   have e5:st.1.Perm (l.map k2):=List.isPerm_iff.mp (by simpa using h5)
   refine(Vm e5.symm ?_).symm
   rw[List.pairwise_map]
   exact(Vq z).imp fun{a b} q=>by rw[Zbv];exact q
def pr(b:Bd):Nat×Nat:=(b.1.toNat,b.2.1.toNat)
def VB(m:Nat)(b:Bd):Prop:=0<=b.1/\b.1<b.2.1/\b.2.1<m/\1<=b.2.2/\b.2.2<=4
instance (m:Nat) (b:Bd):Decidable (VB m b):=by unfold VB;infer_instance
theorem Zh4:∀{bs:List Bd},(∀b∈bs,0<=b.1/\0<=b.2.1)->((Zd6 bs).all fun p=>HT.lexLt [p.1.1,p.1.2.1] [p.2.1,p.2.2.1])=Y3 (bs.map pr)
 |[],_=>rfl
 |[_],_=>rfl
 |x::y::r,h=>by
  have ih:=Zh4 (bs:=y::r) fun b hb=>h b (Qe _ hb)
  have hx:=h x Qf
  have hy:=h y (by simp)
  show(HT.lexLt [x.1,x.2.1] [y.1,y.2.1]&&(Zd6 (y::r)).all _)=(Zn7 (pr x) (pr y)&&Y3 ((y::r).map pr))
  rw[ih,<- Zbv]
  unfold k2 pr
  simp only[Jl hx.1,Jl hx.2,Jl hy.1,Jl hy.2]
theorem Z0i{bs:List Bd}(hl:bs.length<=100)(h:∀b∈bs,0<=b.1/\0<=b.2.1):Xy [.tup (bs.map bD)]=some (.bl (Y3 (bs.map pr))):=by
 rw[<- Zh4 h]
 unfold Xy Zaz
 simp! only[]
 rw[Yv (fun p:Bd×Bd=>.tup [bD p.1,bD p.2]) (fun p=>.bl (HT.lexLt [p.1.1,p.1.2.1] [p.2.1,p.2.2.1])) (Zd6 bs) (by simp! only[Z0q,slD,UO,Zja (bs.map bD) 1,show(some (1:Int))=some ((1:Nat):Int) from rfl,Zph]) (by have:=Zhj bs;omega)]
 ·simp! only[]
  rw[show((Zd6 bs).map fun p=>D.bl (HT.lexLt [p.1.1,p.1.2.1] [p.2.1,p.2.2.1]))=((Zd6 bs).map fun p=>HT.lexLt [p.1.1,p.1.2.1] [p.2.1,p.2.2.1]).map .bl by rw[Qy];rfl,Zdx,List.all_map]
  rfl
 ·intro p hp
  refine⟨_,rfl,?_⟩
  unfold bD
  simp! only[Jt,List.zip_nil_left,slD,Zhx,XM,lt_bD]
theorem Zue{n:Nat}{l:List Nat}{p:Nat×Nat}(h:Ztt n l)(h1:p.1<n)(h2:p.2<n):Ztt n (Zqa l p):=by
 unfold Zqa
 split
 ·exact(h.put h1).put h2
 ·exact h
theorem Zsj{m:Nat}{bs:List Bd}(m1:1<=m)(m5:m<=5)(hv:∀b∈bs,VB m b):YX [.int m,.tup (bs.map bD)]=some (.bl (jn m (bs.map pr))):=by
 have inner:∀(cs:List Bd) (l:List Nat) (x3 x4 x5 x6:Option Cl),(∀b∈cs,VB m b)->Ztt m l ->
   ∃x4' x5' x6',Wj (gT [4,5,6]) (XB (WZ (gB (f2 UP (fV 4) (fV 2))) (gB (f2 UP (fV 5) (fV 2)))) (Zp (Xa 2 (fV 4) (fC (.bl true))) (Xa 2 (fV 5) (fC (.bl true)))) XF) (cs.map bD) (XJ ⟨m,bs⟩ l [x3,x4,x5,x6])=.nx (XJ ⟨m,bs⟩ ((cs.map pr).foldl Zqa l) [x3,x4',x5',x6'])/\Ztt m ((cs.map pr).foldl Zqa l):=by
  intro cs
  induction cs with
  |nil=>intro l x3 x4 x5 x6 _ hR;exact⟨x4,x5,x6,rfl,hR⟩
  |cons b cs ih =>
   intro l x3 x4 x5 x6 hc hR
   obtain⟨r0,r1,r2,_,_⟩:=hc b Qf
   have ea:b.1=((b.1.toNat:Nat):Int):=by omega
   have eb:b.2.1=((b.2.1.toNat:Nat):Int):=by omega
   have ra:=hR.put (i:=b.1.toNat) (by omega)
   have hs:=Zue (p:=pr b) hR (by unfold pr;dsimp only;omega) (by unfold pr;dsimp only;omega)
   obtain⟨y4,y5,y6,e,h2⟩:=ih (Zqa l (pr b)) x3 (some (.val (.int b.1.toNat))) (some (.val (.int b.2.1.toNat))) (some (.val (.int b.2.2))) (fun c h=>hc c (Qe _ h)) hs
   refine⟨y4,y5,y6,?_,h2⟩
   rw[Qh]
   unfold Wj
   have tt:gT [4,5,6] (bD b)=some [(4,.int b.1),(5,.int b.2.1),(6,.int b.2.2)]:=rfl
   rw[tt]
   dsimp only
   have:=jturn (g:=⟨m,bs⟩) (l:=l) (x3:=x3) (a:=b.1.toNat) (b:=b.2.1.toNat) (k:=b.2.2) (.inr (by have:=hR.len;omega)) (by have:=ra.len;omega)
   have es:Zbf (XJ ⟨m,bs⟩ l [x3,x4,x5,x6]) [(4,.int b.1),(5,.int b.2.1),(6,.int b.2.2)]=XJ ⟨m,bs⟩ l [x3,some (.val (.int b.1.toNat)),some (.val (.int b.2.1.toNat)),some (.val (.int b.2.2))]:=by
    rw[<- ea,<- eb];rfl
   rw[es,this]
   exact e
 have outer:∀(ds:List D) (l:List Nat) (y3 y4 y5 y6:Option Cl),Ztt m l->∃z3 z4 z5 z6,Wj (gN 3) (VJ (ZE (fV 1)) (gT [4,5,6]) (XB (WZ (gB (f2 UP (fV 4) (fV 2))) (gB (f2 UP (fV 5) (fV 2)))) (Zp (Xa 2 (fV 4) (fC (.bl true))) (Xa 2 (fV 5) (fC (.bl true)))) XF)) ds (XJ ⟨m,bs⟩ l [y3,y4,y5,y6]) =
   .nx (XJ ⟨m,bs⟩ (ds.foldl (fun l _=>(bs.map pr).foldl Zqa l) l) [z3,z4,z5,z6])/\Ztt m (ds.foldl (fun l _=>(bs.map pr).foldl Zqa l) l):=by
  intro ds
  induction ds with
  |nil=>intro l y3 y4 y5 y6 hR;exact⟨y3,y4,y5,y6,rfl,hR⟩
  |cons d ds ih =>
   intro l y3 y4 y5 y6 hR
   obtain⟨u4,u5,u6,e,h2⟩:=inner bs l (some (.val d)) y4 y5 y6 hv hR
   obtain⟨z3,z4,z5,z6,e2,h3⟩:=ih _ (some (.val d)) u4 u5 u6 h2
   refine⟨z3,z4,z5,z6,?_,h3⟩
   unfold Wj
   have tt:gN 3 d=some [(3,d)]:=rfl
   rw[tt]
   dsimp only
   have es:Zbf (XJ ⟨m,bs⟩ l [y3,y4,y5,y6]) [(3,d)]=XJ ⟨m,bs⟩ l [some (.val d),y4,y5,y6]:=rfl
   have hf:ZE (fV 1) (Ws (XJ ⟨m,bs⟩ l [some (.val d),y4,y5,y6]))=some (bs.map bD):=rfl
   have ef:VJ (ZE (fV 1)) (gT [4,5,6]) (XB (WZ (gB (f2 UP (fV 4) (fV 2))) (gB (f2 UP (fV 5) (fV 2)))) (Zp (Xa 2 (fV 4) (fC (.bl true))) (Xa 2 (fV 5) (fC (.bl true)))) XF) (XJ ⟨m,bs⟩ l [some (.val d),y4,y5,y6])=.nx (XJ ⟨m,bs⟩ ((bs.map pr).foldl Zqa l) [some (.val d),u4,u5,u6]):=by
    unfold VJ
    rw[hf]
    exact e
   rw[es,ef]
   exact e2
 unfold YX Uf
 have es:YB 2 7 [D.int m,.tup (bs.map bD)]=[some (.val (.int m)),some (.val (.tup (bs.map bD))),none,none,none,none,none]:=rfl
 unfold YZ
 rw[if_pos (show([D.int m,.tup (bs.map bD)]:List D).length=2 from rfl),es]
 have e1:Zqi 2 0 true [some (.val (.int m)),some (.val (.tup (bs.map bD))),none,none,none,none,none]=.nx (XJ ⟨m,bs⟩ [0] [none,none,none,none]):=rfl
 rw[Yl,e1,ZW,Yl]
 have hf:∀x,fR Zak (Za (fV 0) fN) (YF (XJ ⟨m,bs⟩ [0] x))=some ((List.range m).map fun k=>D.int (k:Nat)):=fun x=>by
  unfold XJ
  simp! only[U4 (show m<=65536 by omega)]
 unfold Uw
 rw[hf]
 dsimp only
 obtain⟨z3,z4,z5,z6,e,h⟩:=outer ((List.range m).map fun k=>D.int (k:Nat)) [0] none none none none ⟨by simp,fun i hi=>by simp at hi;omega⟩
 rw[e,ZW]
 have ej:decide (((((List.range m).map fun k=>D.int (k:Nat)).foldl (fun l _=>(bs.map pr).foldl Zqa l) [0]).length:Int)=(m:Int))=jn m (bs.map pr):=by
  unfold jn
  rw[List.foldl_map]
  by_cases q:((List.range m).foldl (fun l _=>(bs.map pr).foldl Zqa l) [0]).length=m
  ·rw[decide_eq_true q];exact decide_eq_true (by omega)
  ·rw[decide_eq_false q];exact decide_eq_false (by omega)
 unfold XJ
 simp! only[Zms,YD]
 unfold kN
 rw[Qd,ej]
theorem Zsl(m:Nat)(b:Bd):YO [.int m,bD b]=some (.bl (decide (VB m b))):=by
 unfold YO Ug bD
 by_cases h1:0<=b.1/\b.1<=(m:Int)-1
 ·by_cases h2:b.1+1<=b.2.1/\b.2.1<=(m:Int)-1
  ·have e:decide (VB m b)=decide (1<=b.2.2/\b.2.2<=4):=by
    by_cases h3:1<=b.2.2/\b.2.2<=4
    ·rw[decide_eq_true h3];exact decide_eq_true (by unfold VB;omega)
    ·rw[decide_eq_false h3];exact decide_eq_false (by unfold VB;omega)
   simp! only[Wo,Wv,Ztp,Zto,Ztn,Vf,h1,h2,and_self,e]
  ·have e:decide (VB m b)=false:=decide_eq_false (by unfold VB;omega)
   simp! only[Wo,Wv,Ztp,Zto,Ztn,Vf,h1,h2,and_self,e]
 ·have e:decide (VB m b)=false:=decide_eq_false (by unfold VB;omega)
  simp! only[Wo,Wv,Ztp,Zto,Ztn,Vf,h1,and_self,e]
def sE(a b:SG):Bool:=a.1 == b.1&&Nat.beq a.2.1 b.2.1&&a.2.2.toList == b.2.2.toList
theorem Zqk{a b:SG}(h:sE a b=true):a=b:=by
 unfold sE at h
 simp only[Qq,beq_iff_eq,Nat.beq_eq]at h
 obtain⟨a1,a2,a3⟩:=a
 obtain⟨b1,b2,b3⟩:=b
 obtain⟨⟨h1,h2⟩,h3⟩:=h
 dsimp only at h1 h2 h3
 rw[h1,h2,JY.mp h3]
def tK:List (List Int):=Zt5.map k2
def Zbh(c:Nat):SG:=(((List.range 8).filterMap fun j=>if c/11^j%11=0 then none else tK[c/11^j%11-1]?),7,((List.range 8).filter fun j=>!Nat.beq (c/11^j%11) 0).toArray)
def Zhg(st:SG):Nat:=(st.1.zip st.2.2.toList).foldl (fun a p=>a+(tK.findIdx (· == p.1)+1)*11^p.2) 0
def Z0n(st:SG):Bool:=decide (st.1.length<64)&&decide (st.1.Nodup)&&(st.1.all fun k=>!k.isEmpty)&&okW st
def Xr(nx:SG->Bool)(st:SG):Bool:=Z0n st&&Zt5.all fun p=>match Zw5 st (k2 p) with|none=>false|some st'=>if st.1.contains (k2 p)=true then sE st' st else nx st'&&st'.1.isPerm (k2 p::st.1)
def Zsa(L:List Nat)(st:SG):Bool:=L.contains (Zhg st)&&sE (Zbh (Zhg st)) st
def o32:List ((Nat×Nat)×Nat):=[((0,1),0),((2,4),2),((1,2),3),((0,4),4),((3,4),5),((0,3),11),((1,4),14),((2,3),16),((0,2),18),((1,3),28)]
def bg(S:List ((Nat×Nat)×Nat)):SG:=(S.map fun p=>k2 p.1,31,(S.map (·.2)).toArray)
def Zjy:List (List ((Nat×Nat)×Nat)):=(U0 o32).filter fun S=>decide (5<=S.length)
def Zd5(st:SG):Bool:=sE (bg (o32.filter fun p=>st.1.contains (k2 p.1))) st&&decide (5<=(o32.filter fun p=>st.1.contains (k2 p.1)).length)
def C0:List Nat:=[0]
def C1:List Nat:=[1,8,242,1089,3993,6655,58564,87846,1610510,12400927]
def C2:List Nat:=[243,250,1090,1097,3994,4001,4235,4598,5082,6656,6663,6897,7744,58565,58572,58630,58806,59653,62557,65219,87847,87854,88088,88935,91839,94501,117129,1449701,1610511,1610518,1610752,1611599,1614503,1617165,1669074,1698356,12400928,12400935,12401169,12402016,12404920,12407582,12459491,12488773,14011437,19487179,38975431,58468168,78036530]
def C3:List Nat:=[4236,4240,4243,4599,4606,5083,5087,5090,6898,6905,7745,7752,58631,58638,58807,58814,58872,59654,59661,59719,62558,62565,62623,62799,63162,63646,65220,65227,65285,65461,66308,69213,88089,88096,88936,88943,91840,91847,92081,92444,92928,94502,94509,94743,95590,98495,117195,117371,118218,121122,123784,1449702,1449709,1453694,1454057,1456356,1508265,1537547,1610753,1610760,1611600,1611607,1614504,1614511,1614745,1615108,1615592,1617166,1617173,1617407,1618254,1669075,1669082,1669140,1669316,1670163,1673067,1675729,1698357,1698364,1698598,1699445,1702349,1705011,1727639,12401170,12401177,12402017,12402024,12404921,12404928,12405162,12405525,12406009,12407583,12407590,12407824,12408671,12459492,12459499,12459557,12459733,12460580,12463484,12466146,12488774,12488781,12489015,12489862,12492766,12495428,12518056,13850628,14011438,14011445,14011679,14012526,14015430,14018092,14070001,14099283,19165311,19487421,19488268,19491172,19493834,19545743,19575025,21097689,31888106,38975432,38975439,38978940,38979424,38982086,39033995,39063277,40585941,51376358,58468169,58468176,58468410,58469257,58526732,58556014,60078678,70869095,78036531,78036538,78036772,78037619,78040523,78043185,78065813,79647040,90437457,176995291]
def C4:List Nat:=[4291,4298,5138,5145,58873,58880,59720,59727,62624,62631,62800,62804,62807,62865,63163,63170,63228,63526,63647,63651,63654,63712,65286,65293,65462,65469,65527,66188,66309,66316,66374,69279,69455,69818,70302,92082,92086,92089,92445,92452,92808,92929,92933,92936,94744,94751,95470,95591,95598,98737,99100,99584,117437,118284,121188,121364,121368,121727,122211,122215,123850,124026,124873,1453695,1453699,1453702,1454058,1454065,1456357,1456364,1508266,1508273,1508331,1512258,1512621,1514920,1537548,1537555,1541540,1541903,1544202,1566830,1614746,1614750,1614753,1615109,1615116,1615593,1615597,1615600,1617408,1617415,1618255,1618262,1669141,1669148,1669317,1669324,1669382,1670164,1670171,1670229,1673068,1673075,1673133,1673309,1673672,1674156,1675730,1675737,1675795,1675971,1676818,1679723,1698599,1698606,1699446,1699453,1702350,1702357,1702591,1702954,1703438,1705012,1705019,1705253,1706100,1709005,1727705,1727881,1728728,1731632,1734294,12405163,12405167,12405170,12405526,12405533,12406010,12406014,12406017,12407825,12407832,12408672,12408679,12459558,12459565,12459734,12459741,12459799,12460581,12460588,12460646,12463485,12463492,12463550,12463726,12464089,12464573,12466147,12466154,12466212,12466388,12467235,12470140,12489016,12489023,12489863,12489870,12492767,12492774,12493008,12493371,12493855,12495429,12495436,12495670,12496517,12499422,12518122,12518298,12519145,12522049,12524711,13850629,13850636,13850738,13854621,13854984,13857283,13909192,13938474,14011680,14011687,14012527,14012534,14015431,14015438,14015672,14016035,14016519,14018093,14018100,14018334,14019181,14070002,14070009,14070067,14070243,14071090,14073994,14076656,14099284,14099291,14099525,14100372,14103276,14105938,14128566,19165312,19165319,19169304,19169667,19171966,19174628,19223875,19253157,19488290,19491411,19491414,19491777,19492258,19492261,19494076,19494197,19494923,19545809,19545985,19546832,19549736,19552398,19575267,19576114,19579018,19581680,20936880,21097931,21098778,21101682,21104344,21156253,21185535,26661269,31888348,31889195,31892099,31894761,31946670,31975952,33498616,38975450,38978941,38978948,38979425,38979429,38979432,38982087,38982094,39033996,39034003,39034061,39037504,39037988,39040650,39063278,39063285,39066786,39067270,39069932,39092560,40428399,40585942,40585949,40589450,40589934,40592596,40644505,40673787,44296769,46149521,51376359,51376366,51379867,51380351,51383013,51434922,51464204,52986868,58468187,58468411,58468418,58469258,58469265,58469279,58526733,58526740,58526798,58526974,58527821,58530726,58556015,58556022,58556256,58557103,58560008,58585297,59917869,60078679,60078686,60078920,60079767,60137242,60166524,65642258,70869096,70869103,70869337,70870184,70927659,70956941,72479605,78036549,78036773,78036780,78037620,78037627,78037641,78040524,78040531,78040765,78041128,78041612,78043186,78043193,78043427,78043548,78044274,78047179,78065879,78066055,78066902,78069806,78072468,79486231,79647041,79647048,79647282,79648129,79651033,79653695,79676323,90437458,90437465,90437699,90438546,90441450,90444112,90466740,92047967,176995292,176995299,176999284,176999647,177001946,177053855,177083137,189396218]
theorem qc0:C0.all (fun c=>Xr (Zsa C1) (Zbh c))=true:=by decide+kernel
theorem qc1:C1.all (fun c=>Xr (Zsa C2) (Zbh c))=true:=by decide+kernel
theorem qc2_0:((C2.drop 0).take 49).all (fun c=>Xr (Zsa C3) (Zbh c))=true:=by decide+kernel
theorem qc2:C2.all (fun c=>Xr (Zsa C3) (Zbh c))=true:=by
 refine Yf 49 (by rw[show C2=C2.drop 0 from rfl];exact qc2_0) ?_
 rw[Jj (by decide+kernel)];rfl
theorem qc3_0:((C3.drop 0).take 40).all (fun c=>Xr (Zsa C4) (Zbh c))=true:=by decide+kernel
theorem qc3_1:((C3.drop 40).take 40).all (fun c=>Xr (Zsa C4) (Zbh c))=true:=by decide+kernel
theorem qc3_2:((C3.drop 80).take 40).all (fun c=>Xr (Zsa C4) (Zbh c))=true:=by decide+kernel
theorem qc3_3:((C3.drop 120).take 40).all (fun c=>Xr (Zsa C4) (Zbh c))=true:=by decide+kernel
theorem qc3:C3.all (fun c=>Xr (Zsa C4) (Zbh c))=true:=by
 refine Yf 40 (by rw[show C3=C3.drop 0 from rfl];exact qc3_0) ?_
 refine Yf 40 qc3_1 ?_
 rw[QP]
 refine Yf 40 qc3_2 ?_
 rw[QP]
 refine Yf 40 qc3_3 ?_
 rw[QP]
 rw[Jj (by decide+kernel)];rfl
theorem qc4_0:((C4.drop 0).take 48).all (fun c=>Xr Zd5 (Zbh c))=true:=by decide+kernel
theorem qc4_1:((C4.drop 48).take 48).all (fun c=>Xr Zd5 (Zbh c))=true:=by decide+kernel
theorem qc4_2:((C4.drop 96).take 48).all (fun c=>Xr Zd5 (Zbh c))=true:=by decide+kernel
theorem qc4_3:((C4.drop 144).take 48).all (fun c=>Xr Zd5 (Zbh c))=true:=by decide+kernel
theorem qc4_4:((C4.drop 192).take 48).all (fun c=>Xr Zd5 (Zbh c))=true:=by decide+kernel
theorem qc4_5:((C4.drop 240).take 48).all (fun c=>Xr Zd5 (Zbh c))=true:=by decide+kernel
theorem qc4_6:((C4.drop 288).take 48).all (fun c=>Xr Zd5 (Zbh c))=true:=by decide+kernel
theorem qc4_7:((C4.drop 336).take 48).all (fun c=>Xr Zd5 (Zbh c))=true:=by decide+kernel
theorem qc4:C4.all (fun c=>Xr Zd5 (Zbh c))=true:=by
 refine Yf 48 (by rw[show C4=C4.drop 0 from rfl];exact qc4_0) ?_
 refine Yf 48 qc4_1 ?_
 rw[QP]
 refine Yf 48 qc4_2 ?_
 rw[QP]
 refine Yf 48 qc4_3 ?_
 rw[QP]
 refine Yf 48 qc4_4 ?_
 rw[QP]
 refine Yf 48 qc4_5 ?_
 rw[QP]
 refine Yf 48 qc4_6 ?_
 rw[QP]
 refine Yf 48 qc4_7 ?_
 rw[QP]
 rw[Jj (by decide+kernel)];rfl
theorem qb_0:((Zjy.drop 0).take 64).all (fun S=>Xr Zd5 (bg S))=true:=by decide+kernel
theorem qb_1:((Zjy.drop 64).take 64).all (fun S=>Xr Zd5 (bg S))=true:=by decide+kernel
theorem qb_2:((Zjy.drop 128).take 64).all (fun S=>Xr Zd5 (bg S))=true:=by decide+kernel
theorem qb_3:((Zjy.drop 192).take 64).all (fun S=>Xr Zd5 (bg S))=true:=by decide+kernel
theorem qb_4:((Zjy.drop 256).take 64).all (fun S=>Xr Zd5 (bg S))=true:=by decide+kernel
theorem qb_5:((Zjy.drop 320).take 64).all (fun S=>Xr Zd5 (bg S))=true:=by decide+kernel
theorem qb_6:((Zjy.drop 384).take 64).all (fun S=>Xr Zd5 (bg S))=true:=by decide+kernel
theorem qb_7:((Zjy.drop 448).take 64).all (fun S=>Xr Zd5 (bg S))=true:=by decide+kernel
theorem qb_8:((Zjy.drop 512).take 64).all (fun S=>Xr Zd5 (bg S))=true:=by decide+kernel
theorem qb_9:((Zjy.drop 576).take 64).all (fun S=>Xr Zd5 (bg S))=true:=by decide+kernel
theorem qb:Zjy.all (fun S=>Xr Zd5 (bg S))=true:=by
 refine Yf 64 (by rw[show Zjy=Zjy.drop 0 from rfl];exact qb_0) ?_
 refine Yf 64 qb_1 ?_
 rw[QP]
 refine Yf 64 qb_2 ?_
 rw[QP]
 refine Yf 64 qb_3 ?_
 rw[QP]
 refine Yf 64 qb_4 ?_
 rw[QP]
 refine Yf 64 qb_5 ?_
 rw[QP]
 refine Yf 64 qb_6 ?_
 rw[QP]
 refine Yf 64 qb_7 ?_
 rw[QP]
 refine Yf 64 qb_8 ?_
 rw[QP]
 refine Yf 64 qb_9 ?_
 rw[QP]
 rw[Jj (by decide+kernel)];rfl
def Gd(st:SG):Prop:=(∃c∈C0,st=Zbh c)\/(∃c∈C1,st=Zbh c)\/(∃c∈C2,st=Zbh c)\/(∃c∈C3,st=Zbh c)\/(∃c∈C4,st=Zbh c)\/∃S∈Zjy,st=bg S
theorem Zgn{L:List Nat}{st:SG}(h:Zsa L st=true):∃c∈L,st=Zbh c:=by
 unfold Zsa at h
 rw[Qq]at h
 exact⟨Zhg st,List.contains_iff_mem.mp h.1,(Zqk h.2).symm⟩
theorem Zvk{S:List ((Nat×Nat)×Nat)}(h:S.Sublist o32)(h5:5<=S.length):S∈Zjy:=List.mem_filter.mpr ⟨Ze0 h,decide_eq_true h5⟩
theorem Zsb{st:SG}(h:Zd5 st=true):∃S∈Zjy,st=bg S:=by
 unfold Zd5 at h
 rw[Qq]at h
 exact⟨_,Zvk List.filter_sublist (of_decide_eq_true h.2),(Zqk h.1).symm⟩
theorem Zmz{st:SG}(h:Gd st):∃nx:SG->Bool,Xr nx st=true/\∀st',nx st'=true->Gd st':=by
 rcases h with⟨c,hc,rfl⟩|⟨c,hc,rfl⟩|⟨c,hc,rfl⟩|⟨c,hc,rfl⟩|⟨c,hc,rfl⟩|⟨S,hS,rfl⟩
 ·exact⟨_,Qs.mp qc0 c hc,fun st' q=>.inr (.inl (Zgn q))⟩
 ·exact⟨_,Qs.mp qc1 c hc,fun st' q=>.inr (.inr (.inl (Zgn q)))⟩
 ·exact⟨_,Qs.mp qc2 c hc,fun st' q=>.inr (.inr (.inr (.inl (Zgn q))))⟩
 ·exact⟨_,Qs.mp qc3 c hc,fun st' q=>.inr (.inr (.inr (.inr (.inl (Zgn q)))))⟩
 ·exact⟨_,Qs.mp qc4 c hc,fun st' q=>.inr (.inr (.inr (.inr (.inr (Zsb q)))))⟩
 ·exact⟨_,Qs.mp qb S hS,fun st' q=>.inr (.inr (.inr (.inr (.inr (Zsb q)))))⟩
theorem Z0h{st:SG}(h:Gd st):Z0n st=true:=by
 obtain⟨nx,hg,_⟩:=Zmz h
 unfold Xr at hg
 rw[Qq]at hg
 exact hg.1
theorem Zv2{st:SG}(h:Gd st){p:Nat×Nat}(hp:p∈Zt5):∃st',Zw5 st (k2 p)=some st'/\Gd st'/\∀x,x∈st'.1↔x=k2 p\/x∈st.1:=by
 obtain⟨nx,hg,hn⟩:=Zmz h
 unfold Xr at hg
 rw[Qq]at hg
 have:=Qs.mp hg.2 p hp
 split at this
 ·cases this
 ·rename_i st' e
  refine⟨st',e,?_⟩
  split at this
  ·rename_i hc
   cases Zqk this
   refine⟨h,fun x=>⟨fun z=>.inr z,fun z=>?_⟩⟩
   rcases z with rfl|z
   ·exact List.contains_iff_mem.mp hc
   ·exact z
  ·rw[Qq]at this
   refine⟨hn st' this.1,fun x=>?_⟩
   rw[(List.isPerm_iff.mp this.2).mem_iff,Ql]
theorem Z0g:∀(l:List (Nat×Nat)) {st:SG},Gd st->(∀p∈l,p∈Zt5)->∃st',runG (l.map k2) st=some st'/\Gd st'/\∀x,x∈st'.1↔x∈l.map k2\/x∈st.1:=by
 intro l
 induction l with
 |nil=>intro st h _;exact⟨st,rfl,h,fun x=>by simp⟩
 |cons p l ih =>
  intro st h hl
  obtain⟨st1,e1,g1,m1⟩:=Zv2 h (hl p Qf)
  obtain⟨st2,e2,g2,m2⟩:=ih g1 fun q hq=>hl q (Qe _ hq)
  refine⟨st2,?_,g2,fun x=>?_⟩
  ·rw[Qh]
   show(Zw5 st (k2 p)).bind _=_
   rw[e1];exact e2
  ·rw[m2,m1,Qh,Ql]
   constructor
   ·rintro(z|z|z)
    ·exact .inl (.inr z)
    ·exact .inl (.inl z)
    ·exact .inr z
   ·rintro((z|z)|z)
    ·exact .inr (.inl z)
    ·exact .inl z
    ·exact .inr (.inr z)
theorem Zu4{α:Type} [DecidableEq α]:∀{a b:List α},a.Nodup->b.Nodup->(∀x,x∈a↔x∈b)->a.Perm b:=by
 intro a
 induction a with
 |nil =>
  intro b _ _ h
  have:b=[]:=List.eq_nil_iff_forall_not_mem.mpr fun x hx=>by have:=(h x).mpr hx;cases this
  rw[this]
 |cons x a ih =>
  intro b ha hb h
  obtain⟨hx,ha⟩:=List.nodup_cons.mp ha
  have xb:x∈b:=(h x).mp Qf
  refine(List.Perm.cons x (ih ha (hb.erase x) fun y=>?_)).trans (List.perm_cons_erase xb).symm
  rw[hb.mem_erase_iff]
  constructor
  ·intro hy
   exact⟨fun z=>hx (z▸hy),(h y).mp (Qe _ hy)⟩
  ·rintro⟨hy,hm⟩
   rcases Ql.mp ((h y).mpr hm) with z|z
   ·exact absurd z hy
   ·exact z
theorem Zwa{l:List (Nat×Nat)}(h:∀p∈l,p.1<p.2/\p.2<=4):Zwb l=true:=by
 obtain⟨st,e,g,m⟩:=Z0g l (st:=([],7,#[])) (.inl ⟨0,by decide,by decide+kernel⟩) fun p hp=>Zfs (h p hp)
 have f:=Z0h g
 unfold Z0n at f
 unfold Zwb
 rw[e]
 dsimp only
 rw[f,Bool.true_and]
 cases hr:Y3 l with
 |false=>rfl
 |true =>
  simp only[JW,Bool.false_or]
  refine List.isPerm_iff.mpr (Zu4 ?_ ?_ fun x=>by rw[m];simp)
  ·simp only[Qq,decide_eq_true_eq]at f
   exact f.1.1.2
  ·have:(l.map k2).Pairwise fun a b=>HT.lexLt a b=true:=by
    rw[List.pairwise_map]
    exact(Vq hr).imp fun{a b} q=>by rw[Zbv];exact q
   refine this.imp fun{a b} q z=>?_
   rw[z,Zas]at q;cases q
def num(i:Int):Str:=Str.ofString (toString i)
def isI(o:Option D)(i:Int):Bool:=match o with|some (.int j)=>j == i|_=>false
def isS(o:Option D)(z:Str):Bool:=match o with|some (.str y)=>y == z|_=>false
theorem Zr8{o:Option D}{z:Str}(h:isS o z=true):o=some (.str z):=by
 unfold isS at h
 split at h
 ·rw[eq_of_beq h]
 ·cases h
def Z1c:List Int:=((List.range 19).map fun(k:Nat)=>(k:Int)-9)++((List.range 19).map fun(k:Nat)=>((k:Int)-9)*10^18+((k:Int)-9))
def VN(z:Str):Bool:=z.cps.toList.all (fun c=>decide (c<128)&&c != 32)&&decide (z.length<=30)
theorem Zcu:∀i∈Z1c,VN (num i)=true:=fun i hi =>
 Qs.mp (show(Z1c.all fun i=>VN (num i))=true by decide+kernel) i hi
theorem Zvg:∀i∈Z1c,i.natAbs.log2<1920:=fun i hi =>
 of_decide_eq_true (Qs.mp (show(Z1c.all fun i=>decide (i.natAbs.log2<1920))=true by decide+kernel) i hi)
theorem Zfx{i:Int}(h:i∈Z1c):Vo [.int i]=some (.str (num i)):=by
 show(if i.natAbs.log2<1920 then some (D.str (num i)) else none)=_
 rw[if_pos (Zvg i h)]
theorem Wn{i:Int}(h0:-9<=i)(h1:i<=9):i∈Z1c:=by
 unfold Z1c
 refine Q3 _ (QA.mpr ⟨(i+9).toNat,QJ.mpr (by omega),by omega⟩)
def wB(b:Bd):Str:=if b.2.2=1 then num b.1++"-"++num b.2.1 else num b.1++"-"++num b.2.1++"x"++num b.2.2
def Za1:List Bd:=(List.range 5).flatMap fun(a:Nat)=>(List.range 5).flatMap fun(b:Nat)=>(List.range 4).map fun(n:Nat)=>(((a:Int),((b:Int),((n:Int)+1))):Bd)
theorem b100{b:Bd}(h0:0<=b.1)(h1:b.1<5)(h2:0<=b.2.1)(h3:b.2.1<5)(h4:1<=b.2.2)(h5:b.2.2<=4):b∈Za1:=by
 unfold Za1
 refine List.mem_flatMap.mpr ⟨b.1.toNat,QJ.mpr (by omega),List.mem_flatMap.mpr ⟨b.2.1.toNat,QJ.mpr (by omega),QA.mpr ⟨(b.2.2-1).toNat,QJ.mpr (by omega),?_⟩⟩⟩
 obtain⟨x,y,z⟩:=b
 simp only at *
 ext<;>simp only<;>omega
theorem Zjn:∀b∈Za1,VN (wB b)=true:=fun b hb =>
 Qs.mp (show(Za1.all fun b=>VN (wB b))=true by decide+kernel) b hb
theorem Zo9:∀b∈Za1,Yg [.int b.1,.int b.2.1,.int b.2.2]=some (.str (wB b)):=fun b hb =>
 Zr8 (Qs.mp (show(Za1.all fun b=>isS (Yg [.int b.1,.int b.2.1,.int b.2.2]) (wB b))=true by decide+kernel) b hb)
theorem Zl2:(" ":Str)=⟨#[32]⟩:=by decide+kernel
theorem Zwl{c:Nat}:∀{a b u v:List Nat},c∉a->c∉b->a++c::u=b++c::v->a=b/\u=v:=by
 intro a
 induction a with
 |nil =>
  intro b u v _ hb e
  cases b with
  |nil=>simp only[J9,Jx,true_and]at e;exact⟨rfl,e⟩
  |cons x b=>simp only[J9,Tc,Jx]at e;exact absurd (by rw[e.1];exact Qf) hb
 |cons x a ih =>
  intro b u v ha hb e
  cases b with
  |nil=>simp only[J9,Tc,Jx]at e;exact absurd (by rw[e.1];exact Qf) ha
  |cons y b =>
   simp only[Tc,Jx]at e
   obtain⟨e1,e2⟩:=ih (fun h=>ha (Qe _ h)) (fun h=>hb (Qe _ h)) e.2
   exact⟨by rw[e.1,e1],e2⟩
theorem Y0(c:Nat)(x y:Str)(r:List Str):(Str.join ⟨#[c]⟩ (x::y::r)).cps.toList=x.cps.toList++c::(Str.join ⟨#[c]⟩ (y::r)).cps.toList:=by
 show(x++⟨#[c]⟩++Str.join ⟨#[c]⟩ (y::r)).cps.toList=_
 simp only[Str.cps_append,Array.toList_append,List.append_assoc,Tc,J9]
theorem Zr3{c:Nat}:∀{ps qs:List Str},ps≠[]->qs≠[]->(∀p∈ps,c∉p.cps.toList)->(∀q∈qs,c∉q.cps.toList)->Str.join ⟨#[c]⟩ ps=Str.join ⟨#[c]⟩ qs->ps=qs:=by
 have mem:∀(a b v:List Nat),c∉a->a=b++c::v->False:=fun a b v h e=>h (by rw[e];simp)
 intro ps
 induction ps with
 |nil=>intro qs h;exact absurd rfl h
 |cons p ps ih =>
  intro qs _ hq fp fq e
  have fp0:=fp p Qf
  cases qs with
  |nil=>exact absurd rfl hq
  |cons q qs =>
   have fq0:=fq q Qf
   cases ps with
   |nil =>
    cases qs with
    |nil=>have:p=q:=e;rw[this]
    |cons q2 qs=>exact(mem _ _ _ fp0 (by rw[<- Y0];exact congrArg (fun s:Str=>s.cps.toList) e)).elim
   |cons p2 ps =>
    cases qs with
    |nil=>exact(mem _ _ _ fq0 (by rw[<- Y0];exact congrArg (fun s:Str=>s.cps.toList) e.symm)).elim
    |cons q2 qs =>
     have e2:=congrArg (fun s:Str=>s.cps.toList) e
     simp only[Y0]at e2
     obtain⟨e3,e4⟩:=Zwl fp0 fq0 e2
     have ep:p=q:=Str.ext' (JY.mp e3)
     have er:Str.join ⟨#[c]⟩ (p2::ps)=Str.join ⟨#[c]⟩ (q2::qs):=Str.ext' (JY.mp e4)
     rw[ep,ih (by simp) (by simp) (fun x hx=>fp x (Qe _ hx)) (fun x hx=>fq x (Qe _ hx)) er]
theorem Zh0(x y:Str):Txt.split x y≠[]:=by
 unfold Txt.split
 split
 ·simp
 ·split
  ·simp
  ·rw[StrLaws.partsBetween_eq]
   obtain⟨p,r,e⟩:=StrLaws.partsFrom_ne x y.length 0 (Builtin.Str.occurrences x y 0 x.length (x.length+1))
   rw[e];simp
theorem Zkc{c:Nat}{ps:List Str}(hn:ps≠[])(h:∀p∈ps,c∉p.cps.toList):Txt.split (Str.join ⟨#[c]⟩ ps) ⟨#[c]⟩=ps :=
 Zr3 (Zh0 _ _) hn (StrLaws.split_free _ _) h (StrLaws.join_split _ _)
theorem Zo1{s sub:Str}{hi f:Nat}(h1:1<=sub.length):∀{cuts:List Nat} {a:Nat},a<=hi->StrLaws.ChainTo s sub hi a cuts f->cuts.length+a<=hi:=by
 intro cuts
 induction cuts with
 |nil=>intro a ha _;simpa using ha
 |cons c r ih =>
  intro a ha h
  have:=ih (a:=c+sub.length) h.2.1.1 h.2.2
  have:=h.1
  simp only[Qp]
  omega
theorem Znw(z:Str):(Builtin.Str.partsBetween z (Builtin.Str.occurrences z ⟨#[32]⟩ 0 z.length (z.length+1)) (⟨#[32]⟩:Str).length).length<=z.length+1:=by
 obtain⟨f,h⟩:=StrLaws.occ_chain z ⟨#[32]⟩ (z.length+1)
 have:=Zo1 (by decide) (Q1 _) h
 unfold Builtin.Str.partsBetween
 simp only[Qd,QM,Qp,QI,QY]
 omega
theorem Znd{z:Str}(h:VN z=true):32∉z.cps.toList:=by
 unfold VN at h
 simp only[Qq,Qs]at h
 intro m
 have:=(h.1 32 m).2
 simp at this
theorem Zpn{z:Str}(h:VN z=true):z.length<=30:=by
 unfold VN at h
 simp only[Qq,decide_eq_true_eq]at h
 exact h.2
theorem Zca{z:Str}(h:VN z=true):∀c∈z.cps.toList,c<128:=by
 unfold VN at h
 simp only[Qq,Qs]at h
 intro c m
 simpa using (h.1 c m).1
theorem Znj:∀{ws:List Str},(∀w∈ws,VN w=true)->(ws.map (·.length)).sum<=30*ws.length:=by
 intro ws
 induction ws with
 |nil=>intro _;simp
 |cons w ws ih =>
  intro h
  have:=ih fun x hx=>h x (Qe _ hx)
  have:=Zpn (h w Qf)
  simp only[Qh,List.sum_cons,Qp]
  omega
def tx(ws:List Str):Str:=Txt.join " " ws
theorem Vl(ws:List Str):tx ws=Str.join ⟨#[32]⟩ ws:=by unfold tx Txt.join;rw[Zl2,StrLaws.glued_eq_join]
theorem Zx8:∀{ws:List Str},(∀w∈ws,VN w=true)->∀c∈(tx ws).cps.toList,c<128:=by
 intro ws
 induction ws with
 |nil=>intro _ c m;rw[Vl]at m;exact absurd m (by simp[Str.join,Str.empty])
 |cons w ws ih =>
  intro h c m
  rw[Vl]at m
  cases ws with
  |nil=>exact Zca (h w Qf) c m
  |cons w2 ws =>
   rw[Y0]at m
   simp only[QE,Ql]at m
   rcases m with m|m|m
   ·exact Zca (h w Qf) c m
   ·omega
   ·exact ih (fun x hx=>h x (Qe _ hx)) c (by rw[Vl];exact m)
theorem Zf8{z:Str}(h:∀c∈z.cps.toList,c<128):PyData.strOk z=true:=by
 unfold PyData.strOk
 rw[<- Array.all_toList,Qs]
 intro c m
 have:=h c m
 simp only[decide_eq_true_eq]
 omega
theorem Zwz{ws:List Str}(h:∀w∈ws,VN w=true):PyData.strOk (tx ws)=true:=Zf8 (Zx8 h)
theorem Zvq{ws:List Str}(h:∀w∈ws,VN w=true)(hl:ws.length<=20):JoinOk " " ws=true:=by
 unfold JoinOk
 rw[Zl2,StrLaws.joinTotal]
 have b:=Znj h
 have e:(⟨#[32]⟩:Str).length=1:=rfl
 rw[e]
 unfold Builtin.Str.tooLong
 have:sizeLine=16777216:=QK
 simp only[JR,decide_eq_false_iff_not]
 omega
theorem Zcg(ws:List Str):UH (ws.map D.str)=some ws:=by
 induction ws with
 |nil=>rfl
 |cons w ws ih=>show(UH (ws.map D.str)).bind _=_;rw[ih];rfl
theorem Ziw{ws:List Str}(h:∀w∈ws,VN w=true)(hl:ws.length<=20):Ve (.str " ") (.lst (ws.map .str))=some (.str (tx ws)):=by
 show(UH (ws.map D.str)).bind _=_
 rw[Zcg]
 show(if JoinOk " " ws=true then some (D.str (Txt.join " " ws)) else none)=_
 rw[if_pos (Zvq h hl)];rfl
def dg(c:Nat):Bool:=decide (48<=c)&&decide (c<=57)
theorem Vx{c:Nat}:dg c=true↔48<=c/\c<=57:=by unfold dg;simp
def Zhu(a:Nat)(cs:List Nat):Nat:=cs.foldl (fun a c=>a*10+(c-48)) a
theorem Zl1:∀(cs:List Nat) (a:Nat),a<=Zhu a cs:=by
 intro cs
 induction cs with
 |nil=>intro a;exact Qg _
 |cons c cs ih=>intro a;have:=ih (a*10+(c-48));unfold Zhu at this ⊢;rw[List.foldl_cons];omega
def val(cs:List Nat):Nat:=Zhu 0 cs
def Zax(cs:List Nat):Bool:=decide (cs=[])||decide (30<cs.length)||(decide (cs.head?=some 48) && !decide (cs=[48]))
def Xb(cs:List Nat):Option Nat:=if Zax cs=true then none else if cs.all dg=true then some (val cs) else none
def YV(cs:List Nat):Option Int:=if cs.head?=some 45 then(Xb cs.tail).bind fun n=>if n=0 then none else some (-(n:Int)) else(Xb cs).map fun n=>(n:Int)
theorem Zkr{cs:List Nat}{n:Nat}(h:Xb cs=some n):Zax cs=false/\cs.all dg=true/\n=val cs:=by
 unfold Xb at h
 cases hb:Zax cs with
 |true=>rw[hb]at h;cases h
 |false =>
  rw[hb]at h
  simp only[Qr,if_false]at h
  split at h
  ·rename_i h2;cases h;exact⟨rfl,h2,rfl⟩
  ·cases h
theorem Zwj{cs:List Nat}(h:Zax cs=false):cs≠[]/\cs.length<=30/\(cs.head?=some 48->cs=[48]):=by
 unfold Zax at h
 simp only[Bool.or_eq_false_iff,Bool.and_eq_false_iff,decide_eq_false_iff_not,Bool.not_eq_false',decide_eq_true_eq]at h
 refine⟨h.1.1,by omega,fun e=>?_⟩
 rcases h.2 with z|z
 ·exact absurd e z
 ·exact z
theorem WK{cs:List Nat}{n:Nat}(h:Xb cs=some n)(h9:n<=9):cs=[48+n]:=by
 obtain⟨hb,hd,hv⟩:=Zkr h
 obtain⟨h1,h2,h3⟩:=Zwj hb
 cases cs with
 |nil=>exact absurd rfl h1
 |cons c r =>
  rw[Jp,Qq]at hd
  have hc:=Vx.mp hd.1
  cases r with
  |nil =>
   have:n=c-48:=by rw[hv];unfold val Zhu;simp
   rw[this];congr 1;omega
  |cons c2 r =>
   exfalso
   have hne:c≠48:=fun z=>by have:=h3 (by rw[z];rfl);simp at this
   have e:val (c::c2::r)=Zhu ((c-48)*10+(c2-48)) r:=by unfold val Zhu;simp
   have:=Zl1 r ((c-48)*10+(c2-48))
   omega
theorem Zn1{n:Nat}(h:n<=9):Xb [48+n]=some n:=by
 have:n=0\/n=1\/n=2\/n=3\/n=4\/n=5\/n=6\/n=7\/n=8\/n=9:=by omega
 rcases this with rfl|rfl|rfl|rfl|rfl|rfl|rfl|rfl|rfl|rfl<;>decide
section
open NumText
theorem Zud{p:Array Nat×Bool}{c:Nat}(h:dg c=true):NumText.step 10 p c=some (p.1.push (c-48),true):=by
 have hc:=Vx.mp h
 unfold NumText.step digit?
 have e1:(c == 95)=false:=by simp;omega
 have e2:(decide (48<=c)&&decide (c<=57))=true:=h
 rw[e1,if_neg (by decide),if_pos e2]
 dsimp only
 rw[if_pos (by omega)]
theorem Zv3:∀(cs:List Nat) (p:Array Nat×Bool),cs.all dg=true->cs≠[]->cs.foldlM (NumText.step 10) p=some (p.1++(cs.map (·-48)).toArray,true):=by
 intro cs
 induction cs with
 |nil=>intro p _ h;exact absurd rfl h
 |cons c cs ih =>
  intro p h _
  rw[Jp,Qq]at h
  rw[List.foldlM_cons,Zud h.1]
  show cs.foldlM (NumText.step 10) (p.1.push (c-48),true)=_
  cases cs with
  |nil=>rw[List.foldlM_nil];simp
  |cons c2 cs =>
   rw[ih _ h.2 (by simp)]
   refine congrArg some (Prod.ext ?_ rfl)
   apply JY.mp
   simp
theorem Zfd{cs:List Nat}(h:cs.all dg=true)(hn:cs≠[]):digits? 10 cs=some (cs.map (·-48)).toArray:=by
 unfold digits?
 rw[Zv3 cs _ h hn]
 simp
theorem Zdj{p:Nat->Bool}{c:Nat}{r:List Nat}(h:p c=false):(c::r).dropWhile p=c::r:=by rw[List.dropWhile_cons,h];rfl
theorem Zjq{c:Nat}(h:dg c=true):NumText.blank c=false:=by
 have:=Vx.mp h
 unfold NumText.blank
 have e1:(c == 32)=false:=by simp;omega
 rw[e1]
 have:¬c<=13:=by omega
 simp[this]
theorem rdw{cs:List Nat}(h:cs.all dg=true):(cs.reverse.dropWhile NumText.blank).reverse=cs:=by
 cases hr:cs.reverse with
 |nil=>rw[List.reverse_eq_nil_iff]at hr;rw[hr];rfl
 |cons c r =>
  have:c∈cs:=by rw[<- List.mem_reverse,hr];exact Qf
  rw[Zdj (Zjq (Qs.mp h c this)),<- hr,List.reverse_reverse]
theorem Ztb(cs:List Nat):(cs.map (·-48)).toArray.foldl (fun acc d=>acc*10+d) 0=val cs:=by
 rw[<- Array.foldl_toList]
 show(cs.map (·-48)).foldl _ 0=_
 rw[List.foldl_map];rfl
theorem Zx9{p:Nat->Bool}:∀{l:List Nat},l.all p=true->l.takeWhile p=l:=by
 intro l
 induction l with
 |nil=>intro _;rfl
 |cons a l ih=>intro h;rw[Jp,Qq]at h;rw[List.takeWhile_cons,h.1];simp[ih h.2]
theorem Zh1{cs:List Nat}(h:∀c∈cs,c<128/\c≠0):numTextOf ⟨cs.toArray⟩=cs/\numSeenOf ⟨cs.toArray⟩=cs:=by
 have e1:numTextOf ⟨cs.toArray⟩=cs:=by
  show(if(cs.toArray.all (·<128))=true then cs.toArray.toList else _)=_
  rw[if_pos]
  rw[<- Array.all_toList,Qs]
  intro c hc
  exact decide_eq_true (h c hc).1
 refine⟨e1,?_⟩
 show(numTextOf ⟨cs.toArray⟩).takeWhile (· != 0)=cs
 rw[e1]
 exact Zx9 (Qs.mpr fun c hc=>by simpa using (h c hc).2)
theorem Zz8{cs:List Nat}(hn:cs≠[])(h:cs.all dg=true)(hl:cs.length<=4300):intText? ⟨cs.toArray⟩=some (val cs:Int):=by
 have hs:=Zh1 (cs:=cs) fun c hc=>by have:=Vx.mp (Qs.mp h c hc);omega
 unfold intText?
 rw[hs.1,hs.2,if_pos (by simp)]
 cases cs with
 |nil=>exact absurd rfl hn
 |cons c r =>
  have hc:=Qs.mp h c Qf
  have hc':=Vx.mp hc
  have e1:(c::r).dropWhile NumText.blank=c::r:=Zdj (Zjq hc)
  have e2:sign (c::r)=(false,c::r):=by
   unfold sign
   split
   ·rename_i h;simp at h;omega
   ·rename_i h;simp at h;omega
   ·rfl
  have e3:core (c::r)=c::r:=by unfold core;rw[e1,e2];exact rdw h
  rw[e3,Zfd h hn]
  dsimp only
  rw[if_pos (by simpa using hl),e1,e2]
  unfold worth
  rw[Ztb];rfl
theorem Zvx{cs:List Nat}(hn:cs≠[])(h:cs.all dg=true)(hl:cs.length<=4300):intText? ⟨(45::cs).toArray⟩=some (-(val cs:Int)):=by
 have hs:=Zh1 (cs:=45::cs) fun c hc=>by
  rcases Ql.mp hc with rfl|hc
  ·decide
  ·have:=Vx.mp (Qs.mp h c hc);omega
 unfold intText?
 rw[hs.1,hs.2,if_pos (by simp)]
 have e1:(45::cs).dropWhile NumText.blank=45::cs:=Zdj rfl
 have e2:sign (45::cs)=(true,cs):=rfl
 have e3:core (45::cs)=cs:=by unfold core;rw[e1,e2];exact rdw h
 rw[e3,Zfd h hn]
 dsimp only
 rw[if_pos (by simpa using hl),e1,e2]
 unfold worth
 rw[Ztb];rfl
end
def Yw(c:Nat):List Nat->Option Nat
 |[]=>none
 |x::r=>if x=c then some 0 else(Yw c r).map (·+1)
theorem Vb{c:Nat}:∀{l:List Nat} {i:Nat},Yw c l=some i->l[i]?=some c/\∀k,k<i->l[k]?≠some c:=by
 intro l
 induction l with
 |nil=>intro i h;cases h
 |cons x r ih =>
  intro i h
  unfold Yw at h
  split at h
  ·rename_i hx;cases h;exact⟨by rw[hx];rfl,fun k hk=>absurd hk (Nat.not_lt_zero _)⟩
  ·rename_i hx
   cases hp:Yw c r with
   |none=>rw[hp]at h;cases h
   |some j =>
    rw[hp]at h;cases h
    obtain⟨a,b⟩:=ih hp
    refine⟨by simpa using a,fun k hk=>?_⟩
    cases k with
    |zero=>simpa using hx
    |succ k=>simpa using b k (by have:k+1<j+1:=hk;omega)
theorem Znt{c:Nat}:∀{l:List Nat},Yw c l=none->c∉l:=by
 intro l
 induction l with
 |nil=>intro _ h;cases h
 |cons x r ih =>
  intro h
  unfold Yw at h
  split at h
  ·cases h
  ·rename_i hx
   have:Yw c r=none:=by simpa using h
   intro m
   rcases Ql.mp m with z|z
   ·exact hx z.symm
   ·exact ih this z
theorem Zu0{c:Nat}{l:List Nat}{i:Nat}(h:l[i]?=some c)(h2:∀k,k<i->l[k]?≠some c):Yw c l=some i:=by
 cases hp:Yw c l with
 |none=>exact absurd (List.mem_of_getElem? h) (Znt hp)
 |some j =>
  obtain⟨a,b⟩:=Vb hp
  by_cases z:i<j
  ·exact absurd h (b i z)
  ·by_cases z2:j<i
   ·exact absurd a (h2 j z2)
   ·congr 1;omega
theorem Zic{c:Nat}{l:List Nat}{i:Nat}(h:Yw c l=some i):i<l.length/\l=l.take i++c::l.drop (i+1):=by
 obtain⟨a,_⟩:=Vb h
 obtain⟨hi,e⟩:=Qj.mp a
 refine⟨hi,?_⟩
 rw[<- e,<- Jk hi,List.take_append_drop]
theorem Zmo(x:Str)(c:Nat):(Yw c x.cps.toList=none/\Builtin.Str.occurrences x ⟨#[c]⟩ 0 x.length 1=[])\/∃i r,Yw c x.cps.toList=some i/\Builtin.Str.occurrences x ⟨#[c]⟩ 0 x.length 1=i::r:=by
 rcases StrLaws.occ_head x ⟨#[c]⟩ 1 (Qg _) with⟨h1,h2⟩|⟨i,r,h1,h2,h3⟩
 ·refine .inl ⟨?_,h1⟩
  cases hp:Yw c x.cps.toList with
  |none=>rfl
  |some i=>exact absurd ((StrLaws.subAt_one x c i).mpr (Vb hp).1) (h2 i)
 ·exact .inr ⟨i,r,Zu0 ((StrLaws.subAt_one x c i).mp h2) (fun k hk z=>h3 k hk ((StrLaws.subAt_one x c k).mpr z)),h1⟩
theorem Zss(x:Str)(c:Nat):Txt.find x ⟨#[c]⟩=match Yw c x.cps.toList with|some i=>(i:Int)|none=>-1:=by
 unfold Txt.find
 rcases Zmo x c with⟨a,b⟩|⟨i,r,a,b⟩<;>rw[a,b]
theorem Zhy(x:Str)(i j:Nat):Builtin.Str.strSub x i j=⟨((x.cps.toList.drop i).take (j-i)).toArray⟩:=by
 apply Str.ext'
 apply JY.mp
 rw[StrLaws.strSub_toList]
theorem Zuh(x:Str)(i:Nat):StrLaws.sliceText x none (some (i:Int))=⟨(x.cps.toList.take i).toArray⟩:=by
 have hlen:x.length=x.cps.toList.length:=by simp[Str.length]
 by_cases h:i<=x.cps.toList.length
 ·rw[StrLaws.sliceText_to ⟨by omega,by omega⟩];simp
 ·have e:StrLaws.sliceText x none (some (i:Int))=StrLaws.sliceText x none (some (x.length:Int)):=by
   have q:Builtin.Str.strSliceIndices none (some (i:Int)) 1 x.length=Builtin.Str.strSliceIndices none (some (x.length:Int)) 1 x.length:=by
    have h1:¬((i:Int)<0):=by omega
    have h2:¬((x.length:Int)<0):=by omega
    have h3:min (i:Int) (x.length:Int)=min (x.length:Int) (x.length:Int):=by omega
    simp only[Builtin.Str.strSliceIndices,h1,h2,if_false,h3,show((1:Int)>0)=True from by simp,if_true]
   unfold StrLaws.sliceText
   rw[q]
  rw[e,hlen,StrLaws.sliceText_to ⟨by omega,by omega⟩,J3 (by omega:x.cps.toList.length<=i)]
  rw[List.drop_zero,Int.sub_zero,QF,List.take_length]
theorem Zuj(x:Str)(i:Nat):StrLaws.sliceText x (some (i:Int)) none=⟨(x.cps.toList.drop i).toArray⟩:=by
 have hlen:x.length=x.cps.toList.length:=by simp[Str.length]
 by_cases h:i<=x.cps.toList.length
 ·rw[StrLaws.sliceText_from ⟨by omega,by omega⟩]
  congr 2
  rw[QF,J3]
  rw[QX];omega
 ·have e:StrLaws.sliceText x (some (i:Int)) none=StrLaws.sliceText x (some (x.length:Int)) none:=by
   have q:Builtin.Str.strSliceIndices (some (i:Int)) none 1 x.length=Builtin.Str.strSliceIndices (some (x.length:Int)) none 1 x.length:=by
    have h1:¬((i:Int)<0):=by omega
    have h2:¬((x.length:Int)<0):=by omega
    have h3:min (i:Int) (x.length:Int)=min (x.length:Int) (x.length:Int):=by omega
    simp only[Builtin.Str.strSliceIndices,h1,h2,if_false,h3,show((1:Int)>0)=True from by simp,if_true]
   unfold StrLaws.sliceText
   rw[q]
  rw[e,hlen,StrLaws.sliceText_from ⟨by omega,by omega⟩,Jj (by omega:x.cps.toList.length<=i)]
  simp
def joL(cs:List Nat):Option Nat:=match Yw 120 cs with|none=>some 1|some c=>Xb (cs.drop (c+1))
def Zmt(cs:List Nat):List Nat:=match Yw 120 cs with|none=>cs|some c=>cs.take c
def jo(cs:List Nat)(n:Nat):Option (Nat×Nat×Nat):=(Yw 45 cs).bind fun a=>(joL cs).bind fun L =>
 if(L=1/\(Yw 120 cs).isSome=true)\/L<1\/4<L then none else(Xb ((Zmt cs).take a)).bind fun p=>(Xb ((Zmt cs).drop (a+1))).bind fun q=>if q<=p\/n<=q then none else some (p,q,L)
def wd(p q L:Nat):List Nat:=if L=1 then [48+p,45,48+q] else [48+p,45,48+q,120,48+L]
theorem ob{α β:Type}{o:Option α}{f:α->Option β}{b:β}(h:o.bind f=some b):∃a,o=some a/\f a=some b:=by
 cases o with
 |none=>cases h
 |some a=>exact⟨a,rfl,h⟩
theorem Zvr{cs:List Nat}{n p q L:Nat}(h:jo cs n=some (p,q,L))(hn:n<=5):p<q/\q<n/\1<=L/\L<=4/\cs=wd p q L:=by
 unfold jo at h
 obtain⟨a,ha,h⟩:=ob h
 obtain⟨L',hL,h⟩:=ob h
 split at h
 ·cases h
 ·rename_i hb
  obtain⟨p',hp,h⟩:=ob h
  obtain⟨q',hq,h⟩:=ob h
  split at h
  ·cases h
  ·rename_i hr
   cases h
   have hpq:p<q:=by omega
   have hqn:q<n:=by omega
   have hL1:1<=L:=by omega
   have hL4:L<=4:=by omega
   have ep:=WK hp (by omega)
   have eq:=WK hq (by omega)
   obtain⟨ca,cut⟩:=Zic ha
   refine⟨hpq,hqn,hL1,hL4,?_⟩
   unfold joL at hL
   unfold Zmt at ep eq
   cases hx:Yw 120 cs with
   |none =>
    rw[hx]at hL ep eq
    dsimp only at hL ep eq
    cases hL
    rw[ep,eq]at cut
    rw[cut];rfl
   |some c =>
    rw[hx]at hL ep eq hb
    dsimp only at hL ep eq hb
    have eL:=WK hL (by omega)
    obtain⟨cc,cutx⟩:=Zic hx
    have hne:L≠1:=fun z=>hb (.inl ⟨z,rfl⟩)
    have hac:a<c:=by
     by_cases z:a<c
     ·exact z
     ·exfalso
      rw[Jj (by rw[QL];omega)]at eq
      cases eq
    have hb2:cs.take c=(cs.take c).take a++45::(cs.take c).drop (a+1):=by
     have hal:a<(cs.take c).length:=by rw[QL];omega
     have e45:(cs.take c)[a]=45:=by
      rw[List.getElem_take]
      exact(Qj.mp (Vb ha).1).2
     have e3:45::(cs.take c).drop (a+1)=(cs.take c).drop a:=by rw[Jk hal,e45]
     rw[e3,List.take_append_drop]
    rw[ep,eq]at hb2
    rw[eL,hb2]at cutx
    rw[cutx]
    unfold wd
    rw[if_neg hne];rfl
theorem jo_wd:∀n∈List.range 6,∀q∈List.range n,∀p∈List.range q,∀L∈[1,2,3,4],jo (wd p q L) n=some (p,q,L):=by decide+kernel
theorem jo_of{n p q L:Nat}(hn:n<=5)(h1:p<q)(h2:q<n)(h3:1<=L)(h4:L<=4):jo (wd p q L) n=some (p,q,L) :=
 jo_wd n (QJ.mpr (by omega)) q (QJ.mpr h2) p (QJ.mpr h1) L (by simp;omega)
def Sg(cs:List Nat):Str:=⟨cs.toArray⟩
theorem Zha(z:Str):Sg z.cps.toList=z:=Str.ext' (by simp[Sg])
theorem YS(cs:List Nat):(Sg cs).cps.toList=cs:=by simp[Sg]
theorem YR(cs:List Nat):(Sg cs).length=cs.length:=by simp[Sg,Str.length]
theorem Zts{a b:List Nat}(h:Sg a=Sg b):a=b:=by
 have:=congrArg (fun z:Str=>z.cps.toList) h
 simpa [Sg] using this
def VL(cs:List Nat):Prop:=∀c∈cs,c<128
theorem Zge{cs:List Nat}(h:VL cs):PyData.strOk (Sg cs)=true:=Zf8 (by rw[YS];exact h)
theorem U8{cs:List Nat}(h:VL cs)(i:Nat):VL (cs.take i):=fun c hc=>h c (Jy hc)
theorem U9{cs:List Nat}(h:VL cs)(i:Nat):VL (cs.drop i):=fun c hc=>h c (Jz hc)
def Zi4:List Nat:=[48,49,50,51,52,53,54,55,56,57]
theorem Zxt:("":Str)=Sg []:=by decide+kernel
theorem e_0:("0":Str)=Sg [48]:=by decide+kernel
theorem e_m:("-":Str)=Sg [45]:=by decide+kernel
theorem e_x:("x":Str)=Sg [120]:=by decide+kernel
theorem e_f:("0123456789":Str)=Sg Zi4:=by decide+kernel
theorem Zky{c:Nat}(h:c<128):VL [c]:=fun x hx=>by rw[Q8.mp hx];exact h
theorem Zvl:VL []:=fun x hx=>by cases hx
theorem Zm1{a b:List Nat}(ha:VL a)(hb:VL b):YE (.str (Sg a)) (.str (Sg b))=some (.bl (decide (a=b))):=by
 rw[Zs5 _ _ (Zge ha) (Zge hb)]
 congr 2
 exact decide_eq_decide.mpr ⟨Zts,fun e=>by rw[e]⟩
theorem Zrl{a b:List Nat}(ha:VL a)(hb:VL b):XU (.str (Sg a)) (.str (Sg b))=some (.bl (!decide (a=b))):=by
 rw[Zii _ _ (Zge ha) (Zge hb)]
 congr 2
 rw[<- decide_not]
 exact decide_eq_decide.mpr ⟨fun e z=>e (by rw[z]),fun e z=>e (Zts z)⟩
theorem Zkz{cs:List Nat}(h:cs.length<=1000):Zc1 [.str (Sg cs)]=some (.int cs.length):=by
 show(if(Sg cs).length<=ZN then some (D.int (Sg cs).length) else none)=_
 rw[YR,if_pos (by unfold ZN;omega)]
theorem Zxk{c:Nat}{r:List Nat}(h:(c::r).length<=1000):Zvv (.str (Sg (c::r))) (.int 0)=some (.str (Sg [c])):=by
 show(if(Sg (c::r)).length<=ZN then(VI (Sg (c::r)).cps.toList 0).bind _ else none)=_
 rw[YR,if_pos (by unfold ZN;omega),YS,Zay (x:=c) (by decide) rfl];rfl
theorem Zjj{cs:List Nat}(h:VL cs):Zln (.str (Sg cs))=some (cs.map fun c=>.str (Sg [c])):=by
 show(if(Sg cs).cps.all (·<128)=true then some ((Sg cs).cps.toList.map fun c=>D.str ⟨#[c]⟩) else none)=_
 rw[if_pos,YS]
 ·rfl
 ·rw[<- Array.all_toList,YS,Qs]
  exact fun c hc=>decide_eq_true (h c hc)
theorem Zte(x:Str)(lo hi:Option Int):Zdl x lo hi=StrLaws.sliceText x lo hi:=by
 unfold Zdl StrLaws.sliceText
 simp
theorem Zbp{cs:List Nat}(h:cs.length<=1000)(i:Nat):Zpe (.str (Sg cs)) none (some (i:Int))=some (.str (Sg (cs.take i))):=by
 show(if(Zdl (Sg cs) none (some (i:Int))).length<=ZN then some (D.str (Zdl (Sg cs) none (some (i:Int)))) else none)=_
 rw[Zte,Zuh,YS]
 have:(Sg (cs.take i)).length<=ZN:=by rw[YR,QL];unfold ZN;omega
 exact if_pos this
theorem Us{cs:List Nat}(h:cs.length<=1000)(i:Nat):Zpe (.str (Sg cs)) (some (i:Int)) none=some (.str (Sg (cs.drop i))):=by
 show(if(Zdl (Sg cs) (some (i:Int)) none).length<=ZN then some (D.str (Zdl (Sg cs) (some (i:Int)) none)) else none)=_
 rw[Zte,Zuj,YS]
 have:(Sg (cs.drop i)).length<=ZN:=by rw[YR,QX];unfold ZN;omega
 exact if_pos this
theorem Zp9(cs:List Nat):UI (.str (Sg cs)) (.str (Sg [45]))=some (.bl (decide (cs.head?=some 45))):=by
 show some (D.bl (Txt.startswith (Sg cs) (Sg [45])))=_
 congr 2
 unfold Txt.startswith
 cases cs with
 |nil=>rfl
 |cons c r =>
  rw[StrLaws.subAt_eq,YS,YS,YR,YR]
  by_cases h:c=45<;>simp[h]
theorem Zb2(cs:List Nat)(c:Nat):WO (.str (Sg cs)) (.str (Sg [c]))=some (.int (match Yw c cs with|some i=>(i:Int)|none=>-1)):=by
 show some (D.int (Txt.find (Sg cs) ⟨#[c]⟩))=_
 rw[Zss,YS]
 all_goals (cases Yw c cs<;>rfl)
theorem Zcx{c:Nat}:c∈Zi4↔dg c=true:=by
 rw[Vx];unfold Zi4
 simp only[Ql,List.mem_nil_iff,or_false]
 omega
theorem Zib(c:Nat):Yw c Zi4=if dg c=true then some (c-48) else none:=by
 cases h:dg c with
 |true =>
  rw[if_pos rfl]
  have:=Vx.mp h
  have:c=48\/c=49\/c=50\/c=51\/c=52\/c=53\/c=54\/c=55\/c=56\/c=57:=by omega
  rcases this with rfl|rfl|rfl|rfl|rfl|rfl|rfl|rfl|rfl|rfl<;>rfl
 |false =>
  rw[if_neg (by decide)]
  cases hp:Yw c Zi4 with
  |none=>rfl
  |some i =>
   have:=Zcx.mp (List.mem_of_getElem? (Vb hp).1)
   rw[h]at this;cases this
theorem in_Sg(c:Nat):Zi0 (.str (Sg [c])) (.str (Sg Zi4))=some (.bl (dg c)):=by
 show some (D.bl (!(Builtin.Str.occurrences (Sg Zi4) ⟨#[c]⟩ 0 (Sg Zi4).length 1).isEmpty))=_
 rw[StrLaws.found_one,YS]
 congr 2
 cases h:dg c with
 |true=>exact decide_eq_true (Zcx.mpr h)
 |false=>exact decide_eq_false fun z=>by rw[Zcx.mp z]at h;cases h
def oN:Option Nat->D
 |none=>.non
 |some n=>.int n
def oI:Option Int->D
 |none=>.non
 |some n=>.int n
noncomputable def V7:FS:=(Zp (Zz 3 (f2 WO (fC (.str "0123456789")) (fV 2)))
 (Zp (XB (gB (f2 WU (fV 3) (fC (.int 0)))) (ZX (fC .non)) XF)
 (Zz 1 (f2 ZT (f2 XV (fC (.int 10)) (fV 1)) (fV 3)))))
theorem Zwf{c:Nat}(h:dg c=true)(a:Nat)(W:D)(x:Option Cl):V7 [some (.val W),some (.val (.int a)),some (.val (.str (Sg [c]))),x]=.nx [some (.val W),some (.val (.int (a*10+(c-48):Nat))),some (.val (.str (Sg [c]))),some (.val (.int (c-48:Nat)))]:=by
 have hf:WO (.str "0123456789") (.str (Sg [c]))=some (.int (c-48:Nat)):=by rw[e_f,Zb2,Zib,if_pos h]
 have h1:¬(((c-48:Nat):Int)<0):=by omega
 have h2:(10:Int)*(a:Int)+((c-48:Nat):Int)=((a*10+(c-48):Nat):Int):=by omega
 unfold V7
 simp! only[hf,h1,VY (Xq (i:=10) (by decide) (by decide)),h2]
theorem Zwe{c:Nat}(h:dg c=false)(a:Nat)(W:D)(x:Option Cl):V7 [some (.val W),some (.val (.int a)),some (.val (.str (Sg [c]))),x]=.rt .non:=by
 have hf:WO (.str "0123456789") (.str (Sg [c]))=some (.int (-1)):=by rw[e_f,Zb2,Zib,if_neg (by rw[h];decide)]
 have h1:((-1:Int)<0)=True:=by simp
 unfold V7
 simp! only[hf,h1]
theorem loopN:∀(cs:List Nat) (a:Nat) (W:D) (x2 x3:Option Cl),
  (cs.all dg=true->∃y2 y3,Wj (gN 2) V7 (cs.map fun c=>.str (Sg [c])) [some (.val W),some (.val (.int a)),x2,x3]=.nx [some (.val W),some (.val (.int (Zhu a cs))),y2,y3]) /\
  (cs.all dg=false->Wj (gN 2) V7 (cs.map fun c=>.str (Sg [c])) [some (.val W),some (.val (.int a)),x2,x3]=.rt .non):=by
 intro cs
 induction cs with
 |nil=>intro a W x2 x3;exact⟨fun _=>⟨x2,x3,rfl⟩,fun h=>by cases h⟩
 |cons c cs ih =>
  intro a W x2 x3
  rw[Qh]
  unfold Wj
  have tt:gN 2 (.str (Sg [c]))=some [(2,.str (Sg [c]))]:=rfl
  have es:Zbf [some (.val W),some (.val (.int a)),x2,x3] [(2,.str (Sg [c]))]=[some (.val W),some (.val (.int a)),some (.val (.str (Sg [c]))),x3]:=rfl
  rw[tt]
  dsimp only
  rw[es]
  cases h:dg c with
  |true =>
   rw[Zwf h,Jp,h,Bool.true_and]
   dsimp only
   exact ih _ W _ _
  |false =>
   rw[Zwe h,Jp,h,Bool.false_and]
   exact⟨fun z=>(by cases z),fun _=>rfl⟩
theorem Xx{cs:List Nat}(hl:VL cs)(h:cs.length<=1000):Zj [.str (Sg cs)]=some (oN (Xb cs)):=by
 unfold Zj X2
 cases cs with
 |nil =>
  have q1:YE (.str (Sg [])) (.str "")=some (.bl true):=by rw[Zxt,Zm1 Zvl Zvl];rfl
  simp! only[q1];rfl
 |cons c r =>
  have hc:c<128:=hl c Qf
  have q1:YE (.str (Sg (c::r))) (.str "")=some (.bl false):=by rw[Zxt,Zm1 hl Zvl];rfl
  have q2:=Zkz h
  by_cases h30:30<(c::r).length
  ·have z:((30:Int)<(r.length:Int)+1)=True:=by simp only[eq_iff_iff,iff_true];rw[Qp]at h30;omega
   have zb:Zax (c::r)=true:=by unfold Zax;rw[decide_eq_true h30];simp
   unfold Xb
   rw[if_pos zb]
   simp! only[q1,q2,z]
   rfl
  ·have z:((30:Int)<(r.length:Int)+1)=False:=by simp only[eq_iff_iff,iff_false];rw[Qp]at h30;omega
   have q3:=Zxk h
   have q4:YE (.str (Sg [c])) (.str "0")=some (.bl (decide (c=48))):=by
    rw[e_0,Zm1 (Zky hc) (Zky (by decide))]
    congr 2
    exact decide_eq_decide.mpr (by simp)
   have q5:XU (.str (Sg (c::r))) (.str "0")=some (.bl (!decide (c::r=[48]))):=by rw[e_0,Zrl hl (Zky (by decide))]
   have q6:=Zjj hl
   have ch:Wc (fV 0) (Ws [some (.val (.str (Sg (c::r)))),some (.val (.int 0)),none,none])=some ((c::r).map fun c=>.str (Sg [c])):=q6
   have lp:(VJ (Wc (fV 0)) (gN 2) V7) [some (.val (.str (Sg (c::r)))),some (.val (.int 0)),none,none]=Wj (gN 2) V7 ((c::r).map fun c=>.str (Sg [c])) [some (.val (.str (Sg (c::r)))),some (.val (.int 0)),none,none]:=by
    unfold VJ;rw[ch]
   have fold:(Zp (Zz 3 (f2 WO (fC (.str "0123456789")) (fV 2)))
 (Zp (XB (gB (f2 WU (fV 3) (fC (.int 0)))) (ZX (fC .non)) XF)
 (Zz 1 (f2 ZT (f2 XV (fC (.int 10)) (fV 1)) (fV 3)))))=V7:=rfl
   rw[fold]
   by_cases hz:c=48/\c::r≠[48]
   ·have zb:Zax (c::r)=true:=by
     unfold Zax
     rw[decide_eq_false hz.2,decide_eq_true (show(c::r).head?=some 48 by rw[hz.1];rfl)];simp
    unfold Xb
    rw[if_pos zb]
    have d1:decide (c=48)=true:=decide_eq_true hz.1
    have d2:decide (c::r=[48])=false:=decide_eq_false hz.2
    simp! only[q1,q2,z,q3,q4,q5,d1,d2]
    rfl
   ·have zb:Zax (c::r)=false:=by
     unfold Zax
     rw[decide_eq_false (by simp),decide_eq_false h30]
     by_cases e:c=48
     ·have:c::r=[48]:=by
       by_cases q:c::r=[48]
       ·exact q
       ·exact absurd ⟨e,q⟩ hz
      rw[decide_eq_true this];simp
     ·rw[decide_eq_false (show(c::r).head?≠some 48 from fun q=>e (by simpa using q))];simp
    have fin:∀o,Wj (gN 2) V7 ((c::r).map fun c=>.str (Sg [c])) [some (.val (.str (Sg (c::r)))),some (.val (.int 0)),none,none]=o->YZ 1 4 (Zp (XB (WZ (gB (f2 YE (fV 0) (fC (.str "")))) (WZ (gB (f2 (Z1 fun i j=>.bl (decide (j<i))) (fL Zc1 (Za (fV 0) fN)) (fC (.int 30)))) (Zgq (gB (f2 YE (f2 Zvv (fV 0) (fC (.int 0))) (fC (.str "0")))) (gB (f2 XU (fV 0) (fC (.str "0"))))))) (ZX (fC .non)) XF)
 (Zp (Zz 1 (fC (.int 0))) (Zp (VJ (Wc (fV 0)) (gN 2) V7) (ZX (fV 1))))) [.str (Sg (c::r))]=(match Zn0 o (ZX (fV 1)) with|.rt d=>some d|.nx _=>some .non|_=>none):=by
     intro o ho
     rw[Qh]at ho
     cases d1:decide (c=48) with
     |true =>
      have d2:decide (c::r=[48])=true:=by
       cases q:decide (c::r=[48]) with
       |true=>rfl
       |false=>exact absurd ⟨of_decide_eq_true d1,of_decide_eq_false q⟩ hz
      simp! only[q1,q2,z,q3,q4,q5,d1,d2,VJ,Wc,q6]
      rw[ho]
      all_goals (cases o<;>rfl)
     |false =>
      simp! only[q1,q2,z,q3,q4,d1,VJ,Wc,q6]
      rw[ho]
      all_goals (cases o<;>rfl)
    obtain⟨l1,l2⟩:=loopN (c::r) 0 (.str (Sg (c::r))) none none
    unfold Xb
    rw[zb,if_neg Qv]
    cases ha:(c::r).all dg with
    |true =>
     obtain⟨y2,y3,e⟩:=l1 ha
     refine(fin _ e).trans ?_
     rfl
    |false =>
     refine(fin _ (l2 ha)).trans ?_
     rfl
def fg(cs:List Nat):List Nat:=if cs.head?=some 45 then cs.tail else cs
def Ztz(fs:List Nat):Bool:=decide (1<=fs.length)&&decide (fs.length<=30)&&fs.all dg
theorem Zji(cs:List Nat):YV cs=if Ztz (fg cs)=true then(if(fg cs).head?=some 48/\cs≠[48] then none else some (if cs.head?=some 45 then -(val (fg cs):Int) else(val (fg cs):Int))) else none:=by
 unfold YV fg
 by_cases h:cs.head?=some 45
 ·rw[if_pos h,if_pos h]
  simp only[h,if_true]
  have hne:cs≠[48]:=fun z=>by rw[z]at h;simp at h
  generalize cs.tail=fs
  unfold Xb Ztz Zax
  cases fs with
  |nil=>rfl
  |cons c r =>
   have e1:decide (c::r=[])=false:=rfl
   have e2:decide (1<=(c::r).length)=true:=decide_eq_true (by simp)
   rw[e1,e2]
   by_cases h30:(c::r).length<=30
   ·have e3:decide (30<(c::r).length)=false:=decide_eq_false (by omega)
    have e4:decide ((c::r).length<=30)=true:=decide_eq_true h30
    rw[e3,e4]
    by_cases hc:c=48
    ·subst hc
     by_cases hr:r=[]
     ·subst hr
      simp[hne]
      decide
     ·have:¬(48::r=[48]):=fun z=>hr (by simpa using z)
      simp[hne,hr]
    ·have hh:¬((c::r).head?=some 48):=fun z=>hc (by simpa using z)
     simp only[hh,false_and,if_false,decide_false,Bool.false_and,Bool.or_self,Qr,Bool.true_and]
     by_cases ha:(c::r).all dg=true
     ·rw[if_pos ha,if_pos ha]
      have hv:val (c::r)≠0:=by
       have hd:=Vx.mp (Qs.mp ha c Qf)
       have:=Zl1 r (0*10+(c-48))
       have e:val (c::r)=Zhu (0*10+(c-48)) r:=rfl
       omega
      simp[hv]
     ·rw[if_neg ha,if_neg ha];rfl
   ·have e3:decide (30<(c::r).length)=true:=decide_eq_true (by omega)
    have e4:decide ((c::r).length<=30)=false:=decide_eq_false h30
    rw[e3,e4];simp
 ·rw[if_neg h,if_neg h]
  simp only[h,if_false]
  unfold Xb Ztz Zax
  cases cs with
  |nil=>rfl
  |cons c r =>
   have e1:decide (c::r=[])=false:=rfl
   have e2:decide (1<=(c::r).length)=true:=decide_eq_true (by simp)
   rw[e1,e2]
   by_cases h30:(c::r).length<=30
   ·have e3:decide (30<(c::r).length)=false:=decide_eq_false (by omega)
    have e4:decide ((c::r).length<=30)=true:=decide_eq_true h30
    rw[e3,e4]
    by_cases hz:(c::r).head?=some 48/\c::r≠[48]
    ·rw[if_pos hz,decide_eq_true hz.1,decide_eq_false hz.2]
     simp
    ·rw[if_neg hz]
     have:(decide ((c::r).head?=some 48) && !decide (c::r=[48]))=false:=by
      cases q:(decide ((c::r).head?=some 48) && !decide (c::r=[48])) with
      |false=>rfl
      |true =>
       rw[Qq,JR,decide_eq_true_eq,decide_eq_false_iff_not]at q
       exact absurd q hz
     rw[this]
     by_cases ha:(c::r).all dg=true
     ·rw[ha];rfl
     ·rw[show(c::r).all dg=false by simpa using ha];rfl
   ·have e3:decide (30<(c::r).length)=true:=decide_eq_true (by omega)
    have e4:decide ((c::r).length<=30)=false:=decide_eq_false h30
    rw[e3,e4];simp
theorem Zst{cs:List Nat}(h:VL cs):VL (fg cs):=by
 unfold fg
 split
 ·exact fun c hc=>h c (List.mem_of_mem_tail hc)
 ·exact h
theorem Zsu(cs:List Nat):(fg cs).length<=cs.length:=by
 unfold fg
 split
 ·rw[List.length_tail];omega
 ·exact Qg _
def aN:FE:=Zxr (WY (f2 UI (fV 0) (fC (.str "-")))) (Xk (fV 0) (pS (fC (.int 1))) pN) (fV 0)
def tN1:FT:=WZ (WG (gB (V4 (Z1 fun i j=>.bl (decide (i<=j))) (Z1 fun i j=>.bl (decide (i<=j))) (fC (.int 1)) (fL Zc1 (Za (fV 1) fN)) (fC (.int 30))))) (WG (WY (fL Zbj (Za (Z7 1 [] (Wc (fV 1)) (gN 0) Y5 (f2 Zi0 (fV 0) (fC (.str "0123456789")))) fN))))
def tN2:FT:=Zgq (gB (f2 YE (f2 Zvv (fV 1) (fC (.int 0))) (fC (.str "0")))) (gB (f2 XU (fV 0) (fC (.str "0"))))
theorem Zsy:Ud=Zp (Zz 1 aN) (Zp (XB tN1 Zaj XF) (Zp (XB tN2 Zaj XF) (ZX (fL Zr9 (Za (fV 0) fN))))):=rfl
theorem Zpl:Vz=Y9 (Zz 1 aN) (Zd7 (Zhd tN1 (Zah "NoText") Znb) (Y9 (XB tN1 Zaj XF) (Zhd tN2 (Zah "NoText") Znb))):=rfl
theorem Zxz{cs:List Nat}(h:cs.length<=1000):aN [some (.str (Sg cs)),none]=some (.str (Sg (fg cs))):=by
 have q1:UI (.str (Sg cs)) (.str "-")=some (.bl (decide (cs.head?=some 45))):=by rw[e_m,Zp9]
 have q2:Zpe (.str (Sg cs)) (some 1) none=some (.str (Sg (cs.drop 1))):=Us h 1
 unfold fg aN
 by_cases hh:cs.head?=some 45
 ·have d:decide (cs.head?=some 45)=true:=decide_eq_true hh
  rw[if_pos hh]
  simp! only[q1,d,Xk,q2,List.drop_one]
 ·have d:decide (cs.head?=some 45)=false:=decide_eq_false hh
  rw[if_neg hh]
  simp! only[q1,d]
theorem Zp1{cs:List Nat}(hl:VL cs)(h:cs.length<=1000):tN1 [some (.str (Sg cs)),some (.str (Sg (fg cs)))]=some (!Ztz (fg cs)):=by
 have hfl:=Zsu cs
 have q2:=Zkz (cs:=fg cs) (by omega)
 have hc:Z7 1 [] (Wc (fV 1)) (gN 0) Y5 (f2 Zi0 (fV 0) (fC (.str "0123456789"))) [some (.str (Sg cs)),some (.str (Sg (fg cs)))]=some (.lst (((fg cs).map dg).map .bl)):=by
  rw[Yv (fun c=>D.str (Sg [c])) (fun c=>D.bl (dg c)) (fg cs) (Zjj (Zst hl)) (by omega) fun c _=>⟨_,rfl,?_⟩,Qy]
  ·rfl
  ·simp! only[e_f,in_Sg]
 have ha:Zbj [.lst (((fg cs).map dg).map .bl)]=some (.bl ((fg cs).all dg)):=by rw[Zdx,List.all_map];rfl
 unfold tN1 Ztz
 by_cases h1:1<=(fg cs).length
 ·have i1:((1:Int)<=((fg cs).length:Int))=True:=by simp only[eq_iff_iff,iff_true];omega
  by_cases h2:(fg cs).length<=30
  ·have i2:(((fg cs).length:Int)<=30)=True:=by simp only[eq_iff_iff,iff_true];omega
   rw[decide_eq_true h1,decide_eq_true h2]
   simp! only[q2,i1,i2,hc,ha]
   cases (fg cs).all dg<;>rfl
  ·have i2:(((fg cs).length:Int)<=30)=False:=by simp only[eq_iff_iff,iff_false];omega
   rw[decide_eq_false h2]
   simp! only[q2,i1,i2]
   simp
 ·have i1:((1:Int)<=((fg cs).length:Int))=False:=by simp only[eq_iff_iff,iff_false];omega
  rw[decide_eq_false h1]
  simp! only[q2,i1]
  simp
theorem Zz4{fs:List Nat}(hl:VL fs)(h:fs.length<=1000)(h1:1<=fs.length):∃d,Zvv (.str (Sg fs)) (.int 0)=some d/\YE d (.str "0")=some (.bl (decide (fs.head?=some 48))):=by
 cases fs with
 |nil=>simp at h1
 |cons c r =>
  refine⟨_,Zxk h,?_⟩
  rw[e_0,Zm1 (Zky (hl c Qf)) (Zky (by decide))]
  congr 2
  exact decide_eq_decide.mpr (by simp)
theorem Zz9{cs:List Nat}(h:Ztz (fg cs)=true):Zr9 [.str (Sg cs)]=some (.int (if cs.head?=some 45 then -(val (fg cs):Int) else(val (fg cs):Int))):=by
 unfold Ztz at h
 simp only[Qq,decide_eq_true_eq]at h
 obtain⟨⟨h1,h2⟩,h3⟩:=h
 have hn:fg cs≠[]:=fun z=>by rw[z]at h1;simp at h1
 have hl:cs.length<=640:=by
  unfold fg at h2
  split at h2
  ·rw[List.length_tail]at h2;omega
  ·omega
 show(if(Sg cs).length<=640 then(intText? (Sg cs)).bind _ else none)=_
 rw[YR,if_pos hl]
 by_cases hh:cs.head?=some 45
 ·rw[if_pos hh]
  have e:cs=45::fg cs:=by
   unfold fg
   rw[if_pos hh]
   cases cs with
   |nil=>cases hh
   |cons c r=>simp at hh;rw[hh];rfl
  have:=Zvx hn h3 (by omega)
  rw[<- e]at this
  rw[show intText? (Sg cs)=_ from this];rfl
 ·rw[if_neg hh]
  have e:fg cs=cs:=by unfold fg;rw[if_neg hh]
  rw[e]at hn h3 h2 ⊢
  rw[show intText? (Sg cs)=_ from Zz8 hn h3 (by omega)];rfl
theorem Zp0{cs:List Nat}(hl:VL cs)(h:cs.length<=1000)(h1:1<=(fg cs).length):tN2 [some (.str (Sg cs)),some (.str (Sg (fg cs)))]=some (decide ((fg cs).head?=some 48) && !decide (cs=[48])):=by
 obtain⟨d,x1,x2⟩:=Zz4 (Zst hl) (by have:=Zsu cs;omega) h1
 have q4:XU (.str (Sg cs)) (.str "0")=some (.bl (!decide (cs=[48]))):=by rw[e_0,Zrl hl (Zky (by decide))]
 unfold tN2
 simp! only[x1,x2,q4]
 cases decide ((fg cs).head?=some 48)<;>rfl
theorem Zmm{fs:List Nat}(h:Ztz fs=true):1<=fs.length:=by
 unfold Ztz at h
 simp only[Qq,decide_eq_true_eq]at h
 exact h.1.1
theorem YM{cs:List Nat}(hl:VL cs)(h:cs.length<=1000){i:Int}(hi:YV cs=some i):Zh [.str (Sg cs)]=some (.int i):=by
 rw[Zji]at hi
 split at hi
 ·rename_i ho
  split at hi
  ·cases hi
  ·rename_i hz
   cases hi
   have t2:(decide ((fg cs).head?=some 48) && !decide (cs=[48]))=false:=by
    cases q:(decide ((fg cs).head?=some 48) && !decide (cs=[48])) with
    |false=>rfl
    |true =>
     rw[Qq,JR,decide_eq_true_eq,decide_eq_false_iff_not]at q
     exact absurd q hz
   have hA:=Zxz h
   have hT:=Zp1 hl h
   have hT2:=Zp0 hl h (Zmm ho)
   rw[ho]at hT
   rw[t2]at hT2
   unfold Zh
   rw[Zsy]
   simp! only[hA,hT,hT2,Zz9 ho]
 ·cases hi
theorem X5{cs:List Nat}(hl:VL cs)(h:cs.length<=1000):Zm [.str (Sg cs)]=if YV cs=none then some ("NoText":Str) else none:=by
 have hA:=Zxz h
 have hT:=Zp1 hl h
 unfold Zm
 rw[Zpl,Zji]
 cases ho:Ztz (fg cs) with
 |false =>
  rw[ho]at hT
  simp! only[Wh,Y9,Zd7,Zhd,Zah,hA,hT]
 |true =>
  have hT2:=Zp0 hl h (Zmm ho)
  rw[ho]at hT
  by_cases hz:(fg cs).head?=some 48/\cs≠[48]
  ·rw[decide_eq_true hz.1,decide_eq_false hz.2]at hT2
   rw[if_pos rfl,if_pos hz]
   simp! only[Wh,Y9,Zd7,Zhd,Zah,Znb,hA,hT,hT2]
   rfl
  ·have t2:(decide ((fg cs).head?=some 48) && !decide (cs=[48]))=false:=by
    cases q:(decide ((fg cs).head?=some 48) && !decide (cs=[48])) with
    |false=>rfl
    |true =>
     rw[Qq,JR,decide_eq_true_eq,decide_eq_false_iff_not]at q
     exact absurd q hz
   rw[t2]at hT2
   rw[if_pos rfl,if_neg hz]
   simp! only[Wh,Y9,Zd7,Zhd,Zah,Znb,hA,hT,hT2]
   rfl
theorem Zlc{cs:List Nat}(hl:VL cs)(h:cs.length<=1000):Z6 [.str (Sg cs)]=some (oI (YV cs)):=by
 have q1:Zpe (.str (Sg cs)) none (some 1)=some (.str (Sg (cs.take 1))):=Zbp h 1
 have q2:Zpe (.str (Sg cs)) (some 1) none=some (.str (Sg (cs.drop 1))):=Us h 1
 have q3:XU (.str (Sg (cs.take 1))) (.str "-")=some (.bl (!decide (cs.head?=some 45))):=by
  rw[e_m,Zrl (U8 hl 1) (Zky (by decide))]
  congr 3
  cases cs with
  |nil=>rfl
  |cons c r=>exact decide_eq_decide.mpr (by simp)
 unfold Z6 Wf YV
 by_cases hh:cs.head?=some 45
 ·rw[decide_eq_true hh]at q3
  rw[if_pos hh]
  have q4:=Xx (U9 hl 1) (by rw[QX];omega)
  rw[List.drop_one]at q4
  rw[List.drop_one]at q2
  cases hn:Xb cs.tail with
  |none =>
   rw[hn]at q4
   have q4:Zj [.str (Sg cs.tail)]=some .non:=q4
   have i1:Vu .non .non=some (.bl true):=rfl
   simp! only[Xk,q1,q2,q3,q4,i1];rfl
  |some n =>
   rw[hn]at q4
   have q4:Zj [.str (Sg cs.tail)]=some (.int n):=q4
   have i1:Vu (.int n) .non=some (.bl false):=rfl
   have i2:YE (.int (n:Int)) (.int 0)=some (.bl (decide (n=0))):=by
    rw[YD];congr 2;exact decide_eq_decide.mpr (by omega)
   by_cases hz:n=0
   ·have d:decide (n=0)=true:=decide_eq_true hz
    simp! only[Xk,q1,q2,q3,q4,i1,i2,d,hz];rfl
   ·have d:decide (n=0)=false:=decide_eq_false hz
    simp! only[Xk,q1,q2,q3,q4,i1,i2,d,hz];rfl
 ·rw[decide_eq_false hh]at q3
  rw[if_neg hh]
  have q4:=Xx hl h
  simp! only[Xk,q1,q3,q4]
  cases Xb cs<;>rfl
def pt(c:Nat)(cs:List Nat):List Nat×List Nat×List Nat:=match Yw c cs with
 |some i=>(cs.take i,[c],cs.drop (i+1))
 |none=>(cs,[],[])
theorem Zbr{cs:List Nat}(c:Nat)(h:cs.length<=1000):Wg (.str (Sg cs)) (.str (Sg [c]))=some (.tup [.str (Sg (pt c cs).1),.str (Sg (pt c cs).2.1),.str (Sg (pt c cs).2.2)]):=by
 have hp:Wg (.str (Sg cs)) (.str (Sg [c]))=if((Sg [c]).length == 0)=false/\(Sg cs).length<=ZN then some (.tup (match Builtin.Str.occurrences (Sg cs) (Sg [c]) 0 (Sg cs).length 1 with|i::_=>[.str (Builtin.Str.strSub (Sg cs) 0 i),.str (Sg [c]),.str (Builtin.Str.strSub (Sg cs) (i+(Sg [c]).length) (Sg cs).length)]|[]=>[.str (Sg cs),.str Str.empty,.str Str.empty])) else none:=rfl
 rw[hp,if_pos ⟨rfl,by rw[YR];unfold ZN;omega⟩]
 unfold pt
 have ho:=Zmo (Sg cs) c
 rw[YS]at ho
 rcases ho with⟨a,b⟩|⟨i,r,a,b⟩
 ·rw[show Builtin.Str.occurrences (Sg cs) (Sg [c]) 0 (Sg cs).length 1=[] from b,a];rfl
 ·rw[show Builtin.Str.occurrences (Sg cs) (Sg [c]) 0 (Sg cs).length 1=i::r from b,a]
  dsimp only
  rw[Zhy,Zhy,YS,YR,YR,List.drop_zero,Nat.sub_zero,List.length_singleton,J3 (l:=cs.drop (i+1)) (by rw[QX];omega)]
  rfl
theorem Zf4(c:Nat)(cs:List Nat):(pt c cs).1.length<=cs.length/\(pt c cs).2.2.length<=cs.length:=by
 unfold pt
 split
 ·rw[QL,QX];omega
 ·simp
theorem Zf3{c:Nat}{cs:List Nat}(h:VL cs):VL (pt c cs).1/\VL (pt c cs).2.2:=by
 unfold pt
 split
 ·exact⟨U8 h _,U9 h _⟩
 ·exact⟨h,Zvl⟩
def Zjo(cs:List Nat):Option Int:=if(pt 120 cs).2.1=[] then some 1 else YV (pt 120 cs).2.2
def Zm5(cs:List Nat):Option Bd:=(Zjo cs).bind fun n=>(YV (pt 45 (pt 120 cs).1).1).bind fun a=>(YV (pt 45 (pt 120 cs).1).2.2).bind fun b=>some (a,b,n)
theorem Zw2(cs:List Nat)(h:cs.length<=1000):Zyc (.str (Sg cs))=some (!decide (cs=[])):=by
 show(if(Sg cs).length<=ZN then some (((Sg cs).length:Int) != 0) else none)=_
 rw[YR,if_pos (by unfold ZN;omega)]
 cases cs with
 |nil=>rfl
 |cons c r=>simp;omega
theorem Zmb(c:Nat)(cs:List Nat):(pt c cs).2.1=[]\/(pt c cs).2.1=[c]:=by
 unfold pt
 split
 ·exact .inr rfl
 ·exact .inl rfl
theorem Zhw(x y z:D):VI [x,y,z] 0=some x:=rfl
theorem Zni(x y z:D):VI [x,y,z] 1=some y:=rfl
theorem Znh(x y z:D):VI [x,y,z] 2=some z:=rfl
theorem Zba{cs:List Nat}(hl:VL cs)(h:cs.length<=1000){b:Bd}(hb:Zm5 cs=some b):Zx [.str (Sg cs)]=some (bD b):=by
 have q1:Wg (.str (Sg cs)) (.str "x")=_:=(congrArg (fun z=>Wg (.str (Sg cs)) (.str z)) e_x).trans (Zbr 120 h)
 have l1:=Zf4 120 cs
 have w1:=Zf3 (c:=120) hl
 have q2:Wg (.str (Sg (pt 120 cs).1)) (.str "-")=_:=(congrArg (fun z=>Wg (.str (Sg (pt 120 cs).1)) (.str z)) e_m).trans (Zbr 45 (by omega))
 have l2:=Zf4 45 (pt 120 cs).1
 have w2:=Zf3 (c:=45) w1.1
 have q3:=Zw2 (pt 120 cs).2.1 (by rcases Zmb 120 cs with z|z<;>rw[z]<;>simp)
 unfold Zm5 at hb
 obtain⟨n,hn,hb⟩:=ob hb
 obtain⟨a,ha,hb⟩:=ob hb
 obtain⟨b',hb',hb⟩:=ob hb
 cases hb
 have q4:=YM w2.1 (by omega) ha
 have q5:=YM w2.2 (by omega) hb'
 unfold Zx Uh
 unfold Zjo at hn
 rcases Zmb 120 cs with z|z
 ·rw[if_pos z]at hn
  cases hn
  rw[z]at q3
  have d:decide (([]:List Nat)=[])=true:=rfl
  rw[z]at q1
  simp! only[q1,q2,q3,d,Zhw,Zni,Znh,Zso,q4,q5,lim3]
  rfl
 ·rw[if_neg (by rw[z];simp)]at hn
  have q6:=YM w1.2 (by omega) hn
  rw[z]at q3
  have d:decide (([120]:List Nat)=[])=false:=rfl
  rw[z]at q1
  simp! only[q1,q2,q3,d,Zhw,Zni,Znh,Zso,q4,q5,q6,lim3]
  rfl
theorem Zhm{cs:List Nat}(hl:VL cs)(h:cs.length<=1000):Z8 [.str (Sg cs)]=if Zm5 cs=none then some ("NoText":Str) else none:=by
 have q1:Wg (.str (Sg cs)) (.str "x")=_:=(congrArg (fun z=>Wg (.str (Sg cs)) (.str z)) e_x).trans (Zbr 120 h)
 have l1:=Zf4 120 cs
 have w1:=Zf3 (c:=120) hl
 have q2:Wg (.str (Sg (pt 120 cs).1)) (.str "-")=_:=(congrArg (fun z=>Wg (.str (Sg (pt 120 cs).1)) (.str z)) e_m).trans (Zbr 45 (by omega))
 have l2:=Zf4 45 (pt 120 cs).1
 have w2:=Zf3 (c:=45) w1.1
 have q3:=Zw2 (pt 120 cs).2.1 (by rcases Zmb 120 cs with z|z<;>rw[z]<;>simp)
 have x4:=X5 w2.1 (by omega)
 have x5:=X5 w2.2 (by omega)
 have x6:=X5 w1.2 (by omega)
 have last:∀k:Int,Zjo cs=some k->WQ (xL Zm (Za (f2 YC (fV 2) (fC (.int 0))) fN)) (Wr (fL Zh (Za (f2 YC (fV 2) (fC (.int 0))) fN)) (xL Zm (Za (f2 YC (fV 2) (fC (.int 2))) fN))) [some (.str (Sg cs)),some (.tup [.str (Sg (pt 120 cs).1),.str (Sg (pt 120 cs).2.1),.str (Sg (pt 120 cs).2.2)]),some (.tup [.str (Sg (pt 45 (pt 120 cs).1).1),.str (Sg (pt 45 (pt 120 cs).1).2.1),.str (Sg (pt 45 (pt 120 cs).1).2.2)]),some (.int k)]=if Zm5 cs=none then some ("NoText":Str) else none:=by
  intro k hk
  unfold Zm5
  rw[hk,QB]
  cases ha:YV (pt 45 (pt 120 cs).1).1 with
  |none =>
   rw[ha,if_pos rfl]at x4
   simp! only[WQ,xL,Zhw,x4]
  |some a =>
   rw[ha,if_neg (by simp)]at x4
   have q4:=YM w2.1 (by omega) ha
   cases hb:YV (pt 45 (pt 120 cs).1).2.2 with
   |none =>
    rw[hb,if_pos rfl]at x5
    simp! only[WQ,Wr,xL,Zhw,Znh,x4,q4,x5]
   |some b =>
    rw[hb,if_neg (by simp)]at x5
    simp! only[WQ,Wr,xL,Zhw,Znh,x4,q4,x5]
    simp
 unfold Z8 VA
 rcases Zmb 120 cs with z|z
 ·have hk:Zjo cs=some 1:=by unfold Zjo;rw[if_pos z]
  rw[z]at q3 q1
  have lk:=last 1 hk
  rw[z]at lk
  have d:decide (([]:List Nat)=[])=true:=rfl
  have g0:Zso (f2 YC (fV 1) (fC (.int 1))) [some (.str (Sg cs)),some (.tup [.str (Sg (pt 120 cs).1),.str (Sg []),.str (Sg (pt 120 cs).2.2)]),some (.tup [.str (Sg (pt 45 (pt 120 cs).1).1),.str (Sg (pt 45 (pt 120 cs).1).2.1),.str (Sg (pt 45 (pt 120 cs).1).2.2)]),none]=some false:=by
   simp! only[Zso,Zni,q3,d]
  generalize WQ (xL Zm (Za (f2 YC (fV 2) (fC (.int 0))) fN)) (Wr (fL Zh (Za (f2 YC (fV 2) (fC (.int 0))) fN)) (xL Zm (Za (f2 YC (fV 2) (fC (.int 2))) fN)))=LX at lk ⊢
  simp! only[Wh,Y9,Zd7,WR,Zm9,q1,q2,q3,d,Zhw,Zni,Zso,lk]
 ·rw[z]at q3 q1
  have d:decide (([120]:List Nat)=[])=false:=rfl
  cases hn:YV (pt 120 cs).2.2 with
  |none =>
   have hk:Zm5 cs=none:=by unfold Zm5 Zjo;rw[if_neg (by rw[z];simp),hn];rfl
   rw[hn,if_pos rfl]at x6
   rw[if_pos hk]
   generalize WQ (xL Zm (Za (f2 YC (fV 2) (fC (.int 0))) fN)) (Wr (fL Zh (Za (f2 YC (fV 2) (fC (.int 0))) fN)) (xL Zm (Za (f2 YC (fV 2) (fC (.int 2))) fN)))=LX
   simp! only[Wh,Y9,Zd7,WR,Zm9,xL,q1,q2,q3,d,Zhw,Zni,Znh,Zso,x6]
  |some n =>
   have hk:Zjo cs=some n:=by unfold Zjo;rw[if_neg (by rw[z];simp),hn]
   have lk:=last n hk
   rw[z]at lk
   rw[hn,if_neg (by simp)]at x6
   have q6:=YM w1.2 (by omega) hn
   generalize WQ (xL Zm (Za (f2 YC (fV 2) (fC (.int 0))) fN)) (Wr (fL Zh (Za (f2 YC (fV 2) (fC (.int 0))) fN)) (xL Zm (Za (f2 YC (fV 2) (fC (.int 2))) fN)))=LX at lk ⊢
   simp! only[Wh,Y9,Zd7,WR,Zm9,xL,q1,q2,q3,d,Zhw,Zni,Znh,Zso,x6,q6,lk]
def oJ:Option (Nat×Nat×Nat)->D
 |none=>.non
 |some x=>.tup [.int x.1,.int x.2.1,.int x.2.2]
def oP:Option Nat->Int
 |none=>-1
 |some i=>i
def Zyi:FT:=WZ (gB (f2 WU (fV 2) (fC (.int 0)))) (WZ (gB (f2 Vu (fV 4) (fC .non))) (WZ (Zgq (gB (f2 YE (fV 4) (fC (.int 1)))) (gB (f2 (Z1 fun i j=>.bl (decide (j<=i))) (fV 3) (fC (.int 0))))) (WZ (gB (f2 WU (fV 4) (fC (.int 1)))) (gB (f2 (Z1 fun i j=>.bl (decide (j<i))) (fV 4) (fC (.int 4)))))))
def Zyh:FT:=WZ (gB (f2 Vu (f2 YC (fV 5) (fC (.int 0))) (fC .non))) (WZ (gB (f2 Vu (f2 YC (fV 5) (fC (.int 1))) (fC .non))) (WZ (gB (f2 (Z1 fun i j=>.bl (decide (j<=i))) (f2 YC (fV 5) (fC (.int 0))) (f2 YC (fV 5) (fC (.int 1))))) (gB (f2 (Z1 fun i j=>.bl (decide (j<=i))) (f2 YC (fV 5) (fC (.int 1))) (fV 1)))))
noncomputable def sJ:FS:=XB (gB (f2 (Z1 fun i j=>.bl (decide (j<=i))) (fV 3) (fC (.int 0)))) (Zp (Zz 4 (fL Zj (Za (Xk (fV 0) (pS (f2 ZT (fV 3) (fC (.int 1)))) pN) fN)))
 (Zz 0 (Xk (fV 0) pN (pS (fV 3))))) XF
noncomputable def aJ:FE:=fL Y4 (Za (fL Zj (Za (Xk (fV 0) pN (pS (fV 2))) fN)) (Za (fL Zj (Za (Xk (fV 0) (pS (f2 ZT (fV 2) (fC (.int 1)))) pN) fN)) fN))
theorem Z0p:WD Zj=Zp (Zz 2 (f2 WO (fV 0) (fC (.str "-")))) (Zp (Zz 3 (f2 WO (fV 0) (fC (.str "x")))) (Zp (Zz 4 (fC (.int 1))) (Zp sJ (Zp (XB Zyi (ZX (fC .non)) XF) (Zp (Zz 5 aJ) (Zp (XB Zyh (ZX (fC .non)) XF) (ZX (f2 Zdy (fV 5) (fL Y4 (Za (fV 4) fN)))))))))):=rfl
theorem sJ_eq{cs:List Nat}(hl:VL cs)(h:cs.length<=1000)(n a:Int):sJ [some (.val (.str (Sg cs))),some (.val (.int n)),some (.val (.int a)),some (.val (.int (oP (Yw 120 cs)))),some (.val (.int 1)),none] =
  .nx [some (.val (.str (Sg (Zmt cs)))),some (.val (.int n)),some (.val (.int a)),some (.val (.int (oP (Yw 120 cs)))),some (.val (oN (joL cs))),none]:=by
 unfold sJ Zmt joL
 cases hp:Yw 120 cs with
 |none =>
  have z:((0:Int)<=-1)=False:=by simp
  simp! only[oP,z,oN]
 |some i =>
  have z:((0:Int)<=(i:Int))=True:=by simp
  have q1:Zpe (.str (Sg cs)) (some ((i:Int)+1)) none=some (.str (Sg (cs.drop (i+1)))):=Us h (i+1)
  have q2:Zpe (.str (Sg cs)) none (some (i:Int))=some (.str (Sg (cs.take i))):=Zbp h i
  have q3:=Xx (U9 hl (i+1)) (by rw[QX];omega)
  simp! only[oP,z,Xk,q1,q2,q3]
theorem Zvs{cs:List Nat}(h:VL cs):VL (Zmt cs):=by
 unfold Zmt
 split
 ·exact h
 ·exact U8 h _
theorem Zvt(cs:List Nat):(Zmt cs).length<=cs.length:=by
 unfold Zmt
 split
 ·exact Qg _
 ·rw[QL];omega
theorem aJ_eq{cs:List Nat}(hl:VL cs)(h:cs.length<=1000)(n c L:D)(i:Nat):aJ [some (.str (Sg cs)),some n,some (.int i),some c,some L,none]=some (.tup [oN (Xb (cs.take i)),oN (Xb (cs.drop (i+1)))]):=by
 have q1:Zpe (.str (Sg cs)) (some ((i:Int)+1)) none=some (.str (Sg (cs.drop (i+1)))):=Us h (i+1)
 have q2:Zpe (.str (Sg cs)) none (some (i:Int))=some (.str (Sg (cs.take i))):=Zbp h i
 have q3:=Xx (U9 hl (i+1)) (by rw[QX];omega)
 have q4:=Xx (U8 hl i) (by rw[QL];omega)
 have lim2:(2<=ZN)=True:=by unfold ZN;simp
 unfold aJ
 simp! only[Xk,q1,q2,q3,q4,lim2]
theorem Zbz(i:Int):Vu (.int i) .non=some (.bl false):=rfl
theorem Zby:Vu .non .non=some (.bl true):=rfl
theorem addTT(a b:List D)(hh:a.length+b.length<=100):Zdy (.tup a) (.tup b)=some (.tup (a++b)):=by
 show(if _ then _ else _)=_
 rw[if_pos (by unfold ZN;omega)]
theorem addT3(x y z:D):Zdy (.tup [x,y]) (.tup [z])=some (.tup [x,y,z]):=addTT [x,y] [z] (by simp)
theorem Zop{cs:List Nat}(hl:VL cs)(h:cs.length<=1000)(n:Nat):Z4 [.str (Sg cs),.int n]=some (oJ (jo cs n)):=by
 have f1:WO (.str (Sg cs)) (.str "-")=some (.int (oP (Yw 45 cs))):=by rw[e_m,Zb2];cases Yw 45 cs<;>rfl
 have f2':WO (.str (Sg cs)) (.str "x")=some (.int (oP (Yw 120 cs))):=by rw[e_x,Zb2];cases Yw 120 cs<;>rfl
 have hj:=sJ_eq hl h n (oP (Yw 45 cs))
 unfold Z4
 rw[Z0p]
 simp! only[f1,f2',hj]
 have lb:=Zvt cs
 have wb:=Zvs hl
 unfold jo
 cases ha:Yw 45 cs with
 |none =>
  have t1:Zyi [some (.str (Sg (Zmt cs))),some (.int n),some (.int (oP none)),some (.int (oP (Yw 120 cs))),some (oN (joL cs)),none]=some true:=by
   have z:((-1:Int)<0)=True:=by simp
   unfold Zyi
   simp! only[oP,z]
  simp! only[t1]
  rfl
 |some a =>
  have za:(((a:Nat):Int)<0)=False:=by simp only[eq_iff_iff,iff_false];omega
  cases hL:joL cs with
  |none =>
   have t1:Zyi [some (.str (Sg (Zmt cs))),some (.int n),some (.int (oP (some a))),some (.int (oP (Yw 120 cs))),some (oN none),none]=some true:=by
    unfold Zyi
    simp! only[oP,za,oN,Zby]
   simp! only[t1]
   rfl
  |some L =>
   simp only[QB]
   have t1:Zyi [some (.str (Sg (Zmt cs))),some (.int n),some (.int (oP (some a))),some (.int (oP (Yw 120 cs))),some (oN (some L)),none]=some (decide ((L=1/\(Yw 120 cs).isSome=true)\/L<1\/4<L)):=by
    have e1:YE (.int (L:Int)) (.int 1)=some (.bl (decide (L=1))):=by rw[YD];congr 2;exact decide_eq_decide.mpr (by omega)
    have e2:decide ((0:Int)<=oP (Yw 120 cs))=(Yw 120 cs).isSome:=by cases Yw 120 cs<;>simp[oP]
    have e3:decide ((L:Int)<1)=decide (L<1):=decide_eq_decide.mpr (by omega)
    have e4:decide ((4:Int)<(L:Int))=decide (4<L):=decide_eq_decide.mpr (by omega)
    unfold Zyi
    simp! only[oN,Zbz,e1,e2,e3,e4]
    simp only[oP,za,decide_false,QB,Qr,if_false]
    cases (Yw 120 cs).isSome<;>by_cases z1:L=1<;>by_cases z2:L<1<;>by_cases z3:4<L<;>simp[z1,z2,z3]<;>omega
   by_cases hb:(L=1/\(Yw 120 cs).isSome=true)\/L<1\/4<L
   ·rw[decide_eq_true hb]at t1
    rw[if_pos hb]
    simp! only[t1]
    rfl
   ·rw[decide_eq_false hb]at t1
    rw[if_neg hb]
    have e5:=aJ_eq wb (by omega) (.int n) (.int (oP (Yw 120 cs))) (oN (some L)) a
    simp! only[t1]
    simp only[oP]at e5 ⊢
    simp! only[e5]
    cases hp:Xb ((Zmt cs).take a) with
    |none =>
     have t2:∀x y z w v,Zyh [x,some (.int n),y,z,w,some (.tup [oN none,v])]=some true:=fun x y z w v=>by
      have:VI [oN none,v] 0=some .non:=rfl
      unfold Zyh
      simp! only[this,Zby]
     simp! only[t2]
     rfl
    |some p =>
     cases hq:Xb ((Zmt cs).drop (a+1)) with
     |none =>
      have t2:∀x y z w,Zyh [x,some (.int n),y,z,w,some (.tup [oN (some p),oN none])]=some true:=fun x y z w=>by
       have a0:VI [oN (some p),oN none] 0=some (.int p):=rfl
       have a1:VI [oN (some p),oN none] 1=some .non:=rfl
       unfold Zyh
       simp! only[a0,a1,Zby,Zbz]
      simp! only[t2]
      rfl
     |some q =>
      have t2:∀x y z w,Zyh [x,some (.int n),y,z,w,some (.tup [oN (some p),oN (some q)])]=some (decide (q<=p\/n<=q)):=fun x y z w=>by
       have a0:VI [oN (some p),oN (some q)] 0=some (.int p):=rfl
       have a1:VI [oN (some p),oN (some q)] 1=some (.int q):=rfl
       have e3:decide ((q:Int)<=(p:Int))=decide (q<=p):=decide_eq_decide.mpr (by omega)
       have e4:decide ((n:Int)<=(q:Int))=decide (n<=q):=decide_eq_decide.mpr (by omega)
       unfold Zyh
       simp! only[a0,a1,Zbz,e3,e4]
       by_cases z1:q<=p<;>by_cases z2:n<=q<;>simp[z1,z2]
      simp only[QB]
      by_cases hr:q<=p\/n<=q
      ·rw[if_pos hr]
       have d:=decide_eq_true hr
       simp! only[t2,d]
       rfl
      ·rw[if_neg hr]
       have d:=decide_eq_false hr
       have lim1:(1<=ZN)=True:=by unfold ZN;simp
       have ea:Zdy (.tup [oN (some p),oN (some q)]) (.tup [oN (some L)])=some (.tup [.int p,.int q,.int L]):=by
        exact addT3 _ _ _
       simp! only[t2,d,lim1,ea]
       rfl
theorem Zr2{c:Nat}:∀{ps:List Str} {w:Str} {x:Nat},w∈ps->x∈w.cps.toList->x∈(Str.join ⟨#[c]⟩ ps).cps.toList:=by
 intro ps
 induction ps with
 |nil=>intro w x h;cases h
 |cons p ps ih =>
  intro w x hw hx
  cases ps with
  |nil=>rw[Q8.mp hw]at hx;exact hx
  |cons p2 ps =>
   rw[Y0]
   rcases Ql.mp hw with e|hw
   ·rw[e]at hx;exact Q3 _ hx
   ·exact Qt _ (Qe _ (ih hw hx))
theorem XI(z:Str):z.length=z.cps.toList.length:=by simp[Str.length]
theorem Zoh{c:Nat}:∀{ps:List Str} {w:Str},w∈ps->w.length<=(Str.join ⟨#[c]⟩ ps).length:=by
 intro ps
 induction ps with
 |nil=>intro w h;cases h
 |cons p ps ih =>
  intro w hw
  cases ps with
  |nil=>rw[Q8.mp hw];exact Qg _
  |cons p2 ps =>
   rw[XI (Str.join _ _),Y0,QI,Qp,<- XI,<- XI]
   rcases Ql.mp hw with e|hw
   ·rw[e];omega
   ·have:=ih hw;omega
theorem Zr4{c:Nat}:∀{ps:List Str},ps.length<=(Str.join ⟨#[c]⟩ ps).length+1:=by
 intro ps
 induction ps with
 |nil=>simp
 |cons p ps ih =>
  cases ps with
  |nil=>simp
  |cons p2 ps =>
   rw[XI (Str.join _ _),Y0]
   have e2:=XI (Str.join ⟨#[c]⟩ (p2::ps))
   simp only[QI,Qp]at ih ⊢
   omega
def wl(z:Str):List (List Nat):=(Txt.split z ⟨#[32]⟩).map fun w=>w.cps.toList
theorem Zfp(z:Str):(wl z).map Sg=Txt.split z ⟨#[32]⟩:=by
 unfold wl
 rw[Qy]
 conv=>rhs;rw[<- List.map_id (Txt.split z ⟨#[32]⟩)]
 exact QW fun w _=>Zha w
theorem Zww(z:Str):tx ((wl z).map Sg)=z:=by rw[Vl,Zfp];exact StrLaws.join_split z _
theorem Zpo(z:Str):wl z≠[]:=fun e=>Zh0 z ⟨#[32]⟩ (List.map_eq_nil_iff.mp e)
theorem Zx5{z:Str}{cs:List Nat}(h:cs∈wl z):(∀c∈cs,c∈z.cps.toList)/\cs.length<=z.length/\32∉cs:=by
 obtain⟨w,hw,rfl⟩:=QA.mp h
 have ej:=StrLaws.join_split z ⟨#[32]⟩
 refine⟨fun c hc=>?_,?_,StrLaws.split_free z 32 w hw⟩
 ·rw[<- ej];exact Zr2 hw hc
 ·have:=Zoh (c:=32) hw
  rw[ej]at this
  rw[<- XI];exact this
theorem Vk(z:Str):(wl z).length<=z.length+1:=by
 unfold wl
 rw[Qd]
 have:=Zr4 (c:=32) (ps:=Txt.split z ⟨#[32]⟩)
 rw[StrLaws.join_split]at this
 exact this
structure Tx(z:Str):Prop where
 low:VL z.cps.toList
 len:z.length<=90
theorem Tx.w{z:Str}(h:Tx z){cs:List Nat}(hc:cs∈wl z):VL cs/\cs.length<=1000:=by
 obtain⟨a,b,_⟩:=Zx5 hc
 exact⟨fun c x=>h.low c (a c x),by have:=h.len;omega⟩
def ZY(cs:List Nat):D:=.str (Sg cs)
theorem U1{z:Str}(h:Tx z):Wt (.str z) (.str " ")=some (.lst ((wl z).map ZY)):=by
 have pl:=Znw z
 have hz:=h.len
 have wc:=Vk z
 have e:(wl z).map ZY=(Txt.split z ⟨#[32]⟩).map .str:=by rw[<- Zfp,Qy];rfl
 show(if _ then some (D.lst ((Txt.split z " ").map .str)) else none)=_
 rw[Zl2,if_pos ⟨rfl,by unfold ZN;omega,by unfold ZN;omega,by rw[<- Zfp,Qd];unfold ZN;omega⟩,e]
theorem Zmw(z:Str):Zgl "str" (.str z)=some (.bl true):=by
 show some (D.bl (Zxm "str" (.str z)))=_
 rfl
theorem Zb1{z:Str}(h:Tx z):Zo [.str z]=some (.lst ((wl z).map ZY)):=by
 unfold Zo UT
 simp! only[Zmw,U1 h]
theorem Zbm(z:Str):ZJ [.str z]=none:=by
 unfold ZJ WP
 simp! only[Wh,Zhd,Znb,Zmw]
theorem Zb7{d:D}(h:Zgl "str" d=some (.bl false)):ZJ [d]=some ("NoText":Str):=by
 unfold ZJ WP
 simp! only[Wh,Zhd,Zah,h]
theorem Zhn{α:Type}{t:FG}{fe:FE}{F:Zd3}{ρ:Xl}(Zhg:α->D)(bad:α->Bool)(e:Str):∀(xs:List α),(∀x∈xs,∃ws,t (Zhg x)=some ws/\F (WF ρ ws)=(if bad x=true then some e else none)/\(bad x=false->∃d,fe (WF ρ ws)=some d))->Zen t fe F ρ (xs.map Zhg)=if xs.any bad=true then some e else none:=by
 intro xs
 induction xs with
 |nil=>intro _;rfl
 |cons x xs ih =>
  intro h
  obtain⟨ws,e1,e2,e3⟩:=h x Qf
  have ih:=ih fun y hy=>h y (Qe _ hy)
  rw[Qh]
  unfold Zen
  rw[e1,QB,e2,JN]
  cases hb:bad x with
  |true=>rfl
  |false =>
   obtain⟨d,e4⟩:=e3 hb
   rw[if_neg (by decide)]
   dsimp only
   rw[e4,QB,ih,Bool.false_or]
def Zbu(cs:List Nat):Bool:=(YV cs).isNone
def Ut(cs:List Nat):Int:=(YV cs).getD 0
theorem VX{cs:List Nat}(h:Zbu cs=false):YV cs=some (Ut cs):=by
 unfold Zbu at h
 unfold Ut
 cases q:YV cs with
 |none=>rw[q]at h;cases h
 |some i=>rfl
theorem Zhl{z:Str}(h:Tx z):Yq [.str z]=if(wl z).any Zbu=true then some ("NoText":Str) else none:=by
 have hw:xL ZJ (Za (fV 0) fN) [some (.str z)]=none:=by simp! only[xL,Zbm]
 have hi:ZE (fL Zo (Za (fV 0) fN)) [some (.str z)]=some ((wl z).map ZY):=by simp! only[Zb1 h];rfl
 have hx:=Zhn (t:=gN 0) (fe:=fL Zh (Za (fV 0) fN)) (F:=xL Zm (Za (fV 0) fN)) (ρ:=env0 1 [] [some (.str z)]) ZY Zbu "NoText" (wl z) fun cs hc=>by
  obtain⟨hl,hn⟩:=h.w hc
  refine⟨_,rfl,?_,fun hb=>⟨.int (Ut cs),?_⟩⟩
  ·have:=X5 hl hn
   unfold ZY
   simp! only[xL,this]
   unfold Zbu
   cases YV cs<;>simp
  ·have:=YM hl hn (VX hb)
   unfold ZY
   simp! only[this]
 have hl:((wl z).map ZY).length<=ZN:=by rw[Qd];have:=Vk z;have:=h.len;unfold ZN;omega
 have hc:VF 1 [] (ZE (fL Zo (Za (fV 0) fN))) (gN 0) (fL Zh (Za (fV 0) fN)) (xL Zm (Za (fV 0) fN)) [some (.str z)]=if(wl z).any Zbu=true then some ("NoText":Str) else none:=by
  unfold VF
  rw[hi,QB,if_pos hl,hx]
 unfold Yq Wl
 have:Wh 1 1 (WR (WQ (xL ZJ (Za (fV 0) fN)) (VF 1 [] (ZE (fL Zo (Za (fV 0) fN))) (gN 0) (fL Zh (Za (fV 0) fN)) (xL Zm (Za (fV 0) fN))))) [.str z]=(WQ (xL ZJ (Za (fV 0) fN)) (VF 1 [] (ZE (fL Zo (Za (fV 0) fN))) (gN 0) (fL Zh (Za (fV 0) fN)) (xL Zm (Za (fV 0) fN)))) [some (.str z)]:=rfl
 rw[this]
 unfold WQ
 rw[hw,hc]
theorem Zi1{z:Str}(h:Tx z)(hb:(wl z).any Zbu=false):Yz [.str z]=some (.tup (((wl z).map Ut).map .int)):=by
 have hi:ZE (fL Zo (Za (fV 0) fN)) [some (.str z)]=some ((wl z).map ZY):=by simp! only[Zb1 h];rfl
 have hc:Z7 1 [] (ZE (fL Zo (Za (fV 0) fN))) (gN 0) Y5 (fL Zh (Za (fV 0) fN)) [some (.str z)]=some (.lst (((wl z).map Ut).map .int)):=by
  rw[Yv ZY (fun cs=>D.int (Ut cs)) (wl z) hi (by have:=Vk z;have:=h.len;omega) fun cs hc=>⟨_,rfl,?_⟩,Qy]
  ·rfl
  ·obtain⟨hl,hn⟩:=h.w hc
   have nb:Zbu cs=false:=by
    cases q:Zbu cs with
    |false=>rfl
    |true =>
     have:=List.any_eq_true.mpr ⟨cs,hc,q⟩
     rw[this]at hb;cases hb
   have:=YM hl hn (VX nb)
   unfold ZY
   simp! only[this]
 unfold Yz Uc
 simp! only[hc,VQ]
def Zc8:D->Bool
 |.non=>true
 |_=>false
theorem Zxw{ds:List D}(h:∀d∈ds,dk d=true/\UD d<=50):Z0a .non (.lst ds)=some (.bl (ds.any Zc8)):=by
 have ok:∀d,dk d=true->UD d<=50->Zmn d=true:=fun d h1 h2=>by
  have:=Zlk d h1
  unfold Zmn
  rw[this.1,this.2,Bool.true_and]
  exact decide_eq_true (by omega)
 have e1:(Zmn .non&&ds.all Zmn)=true:=by
  rw[Qq]
  exact⟨ok _ rfl (by simp[UD]),Qs.mpr fun d hd=>ok d (h d hd).1 (h d hd).2⟩
 show(if(Zmn .non&&ds.all Zmn)=true then some (D.bl (ds.any fun d=>PyData.eqv (Ya d) (Ya .non))) else none)=_
 rw[if_pos e1]
 congr 2
 have:∀ds:List D,(∀d∈ds,dk d=true/\UD d<=50)->(ds.any fun d=>PyData.eqv (Ya d) (Ya .non))=ds.any Zc8:=by
  intro ds
  induction ds with
  |nil=>intro _;rfl
  |cons d ds ih =>
   intro h
   rw[JN,JN,ih fun x hx=>h x (Qe _ hx)]
   congr 1
   have q:=Zll d .non (h d Qf).1 rfl
   cases hd:Zc8 d with
   |true =>
    have:d=.non:=by cases d<;>first|rfl|(cases hd;done)
    exact q.mpr this
   |false =>
    cases z:PyData.eqv (Ya d) (Ya .non) with
    |false=>rfl
    |true=>rw[q.mp z]at hd;cases hd
 exact this ds h
theorem Zoo{z:Str}(h:Tx z):Z3 [.str z]=some (if(wl z).any Zbu=true then .non else .tup (((wl z).map Ut).map .int)):=by
 have hi:ZE (f2 Wt (fV 0) (fC (.str " "))) [some (.str z),none]=some ((wl z).map ZY):=by simp! only[U1 h];rfl
 have hc:Z7 1 [] (ZE (f2 Wt (fV 0) (fC (.str " ")))) (gN 0) Y5 (fL Z6 (Za (fV 0) fN)) [some (.str z),none]=some (.lst ((wl z).map fun cs=>oI (YV cs))):=by
  rw[Yv ZY (fun cs=>oI (YV cs)) (wl z) hi (by have:=Vk z;have:=h.len;omega) fun cs hc=>⟨_,rfl,?_⟩]
  obtain⟨hl,hn⟩:=h.w hc
  have:=Zlc hl hn
  unfold ZY
  simp! only[this]
 have hn:Z0a .non (.lst ((wl z).map fun cs=>oI (YV cs)))=some (.bl ((wl z).any Zbu)):=by
  rw[Zxw fun d hd=>by
   obtain⟨cs,_,rfl⟩:=QA.mp hd
   cases YV cs<;>exact⟨rfl,by simp[oI,UD]⟩]
  congr 2
  rw[List.any_map]
  congr 1
  funext cs
  show Zc8 (oI (YV cs))=Zbu cs
  unfold Zbu
  cases YV cs<;>rfl
 unfold Z3 WC
 cases hb:(wl z).any Zbu with
 |true =>
  rw[hb]at hn
  simp! only[hc,hn]
 |false =>
  rw[hb]at hn
  have ei:((wl z).map fun cs=>oI (YV cs))=((wl z).map Ut).map .int:=by
   rw[Qy]
   refine QW fun cs hcs=>?_
   have nb:Zbu cs=false:=by
    cases q:Zbu cs with
    |false=>rfl
    |true =>
     have:=List.any_eq_true.mpr ⟨cs,hcs,q⟩
     rw[this]at hb;cases hb
   rw[VX nb];rfl
  rw[ei]at hc hn
  simp! only[hc,hn,VQ]
theorem Zmj(x y:D):VI [x,y] 0=some x:=rfl
theorem Zq8(x y:D):VI [x,y] 1=some y:=rfl
theorem Zmr:(2<=ZN)=True:=by unfold ZN;simp
theorem Zxi:(1<=ZN)=True:=by unfold ZN;simp
theorem Z0b{i:Int}{y:D}(h:¬(1<=i/\i<=5)):Zt [.tup [.int i,y]]=some (.bl false):=by
 unfold Zt Wb
 simp! only[Wo,Wv,Zmj,Zq8,Vf,h]
theorem Zv0{m:Nat}{bs:List Bd}(hl:bs.length<=100)(x:Option D) :
  Z7 1 [1] (ZE (fV 2)) (gN 0) Y5 (fL YO (Za (fV 1) (Za (fV 0) fN))) [x,some (.int m),some (.tup (bs.map bD))]=some (.lst ((bs.map fun b=>decide (VB m b)).map .bl)):=by
 rw[Yv bD (fun b=>D.bl (decide (VB m b))) bs rfl (by omega) fun b _=>⟨_,rfl,?_⟩,Qy]
 ·rfl
 ·simp! only[Zsl]
theorem Zsc{m:Nat}{bs:List Bd}(m1:1<=m)(m5:m<=5)(hl:bs.length<=100):Zt [.tup [.int m,.tup (bs.map bD)]]=some (.bl ((bs.all fun b=>decide (VB m b))&&(Y3 (bs.map pr)&&jn m (bs.map pr)))):=by
 have w:1<=(m:Int)/\(m:Int)<=5:=by omega
 have hc:=fun x=>Zv0 (m:=m) hl x
 have ha:Zbj [.lst ((bs.map fun b=>decide (VB m b)).map .bl)]=some (.bl (bs.all fun b=>decide (VB m b))):=by rw[Zdx,List.all_map];rfl
 cases hv:bs.all fun b=>decide (VB m b) with
 |false =>
  rw[hv]at ha
  unfold Zt Wb
  simp! only[Wo,Wv,Zmj,Zq8,Vf,w,and_self,hc,ha,Bool.false_and]
 |true =>
  rw[hv]at ha
  have hv':∀b∈bs,VB m b:=fun b hb=>of_decide_eq_true (Qs.mp hv b hb)
  have hr:=Z0i hl fun b hb=>⟨(hv' b hb).1,by have:=hv' b hb;unfold VB at this;omega⟩
  unfold Zt Wb
  simp! only[Wo,Wv,Zmj,Zq8,Vf,w,and_self,hc,ha,hr,Zsj m1 m5 hv',Bool.true_and]
  cases Y3 (bs.map pr)<;>simp
structure Acc(z:Str)(m:Nat)(bs:List Bd):Prop where
 m1:1<=m
 m5:m<=5
 vb:∀b∈bs,VB m b
 rs:Y3 (bs.map pr)=true
 jn:jn m (bs.map pr)=true
 eq:z=tx (num m::bs.map wB)
theorem Zpr{m:Nat}(m5:m<=5){b:Bd}(h:VB m b):b∈Za1:=by
 unfold VB at h
 exact b100 (by omega) (by omega) (by omega) (by omega) (by omega) (by omega)
theorem fewB{m:Nat}{bs:List Bd}(m5:m<=5)(vb:∀b∈bs,VB m b)(rs:Y3 (bs.map pr)=true):bs.length<=10:=by
 have h1:∀p∈bs.map pr,p.1<p.2/\p.2<=4:=fun p hp=>by
  obtain⟨b,hb,rfl⟩:=QA.mp hp
  have:=vb b hb
  unfold VB at this
  unfold pr
  dsimp only
  omega
 have:=(sub_of (Vq (show Y3 Zt5=true by decide)) (Vq rs) fun p hp=>Zfs (h1 p hp)).length_le
 rw[Qd]at this
 simpa [Zt5] using this
theorem UX{m:Nat}{bs:List Bd}(m1:1<=m)(m5:m<=5)(vb:∀b∈bs,VB m b):∀w∈num m::bs.map wB,VN w=true:=by
 intro w hw
 rcases Ql.mp hw with e|hw
 ·rw[e];exact Zcu _ (Wn (by omega) (by omega))
 ·obtain⟨b,hb,rfl⟩:=QA.mp hw
  exact Zjn _ (Zpr m5 (vb b hb))
theorem Zw8{m:Nat}{bs:List Bd}(m1:1<=m)(m5:m<=5)(vb:∀b∈bs,VB m b)(rs:Y3 (bs.map pr)=true)(hg:Zt [.tup [.int m,.tup (bs.map bD)]]=some (.bl true)) :
  YN [.tup [.int m,.tup (bs.map bD)]]=some (.str (tx (num m::bs.map wB))):=by
 have hf:=fewB m5 vb rs
 have hk:Xz [.tup [.int m,.tup (bs.map bD)]]=some (.tup [.int m,.tup (bs.map bD)]):=by
  unfold Xz Za0
  simp! only[hg]
 have hc:Z7 3 [] (ZE (f2 YC (fV 0) (fC (.int 1)))) (gT [0,1,2]) Y5 (fL Yg (Za (fV 0) (Za (fV 1) (Za (fV 2) fN)))) [some (.tup [.int m,.tup (bs.map bD)])]=some (.lst ((bs.map wB).map .str)):=by
  rw[Qy]
  refine Yv bD (fun b=>.str (wB b)) bs rfl (by omega) fun b hb=>⟨_,rfl,?_⟩
  exact Zo9 b (Zpr m5 (vb b hb))
 have ha:ZT (.lst [.str (num m)]) (.lst ((bs.map wB).map .str))=some (.lst ((num m::bs.map wB).map .str)):=by
  show(if _ then _ else _)=_
  rw[if_pos (by simp only[Qp,QY,Qd];unfold ZN;omega)]
  rfl
 unfold YN Zhc
 simp! only[hk,Zmj,Zfx (Wn (show -9<=(m:Int) by omega) (by omega)),Zxi,hc]
 have hj:=Ziw (UX m1 m5 vb) (by simp only[Qp,Qd];omega)
 rw[ha,QB,hj]
def Zks(cs:List Nat):Bool:=(Zm5 cs).isNone
def Vv(cs:List Nat):Bd:=(Zm5 cs).getD (0,0,0)
theorem Zih{cs:List Nat}(h:Zks cs=false):Zm5 cs=some (Vv cs):=by
 unfold Zks at h
 unfold Vv
 cases q:Zm5 cs with
 |none=>rw[q]at h;cases h
 |some i=>rfl
noncomputable def aR:FE:=fL Y4 (Za (fL Zh (Za (f2 YC (fV 1) (fC (.int 0))) fN)) (Za (fL VQ (Za (Z7 1 [] (ZE (Zgr (fV 1) (pS (fC (.int 1))) pN)) (gN 0) Y5 (fL Zx (Za (fV 0) fN))) fN)) fN))
noncomputable def xR:Zd3:=WQ (xL Zm (Za (f2 YC (fV 1) (fC (.int 0))) fN)) (Wr (fL Zh (Za (f2 YC (fV 1) (fC (.int 0))) fN)) (VF 1 [] (ZE (Zgr (fV 1) (pS (fC (.int 1))) pN)) (gN 0) (fL Zx (Za (fV 0) fN)) (xL Z8 (Za (fV 0) fN))))
noncomputable def tR:FT:=WZ (WG (WY (fL Zt (Za (fV 2) fN)))) (gB (f2 XU (fL YN (Za (fV 2) fN)) (fV 0)))
theorem Z0o:Zlv Zo Zx Zh YN Zt=Zp (Zz 1 (fL Zo (Za (fV 0) fN))) (Zp (Zz 2 aR) (Zp (XB tR Zaj XF) (ZX (fV 2)))):=rfl
theorem Zly:Zg9 Zo Zh Zx YN Zt ZJ Zm Z8=Zd7 (WR (xL ZJ (Za (fV 0) fN))) (Y9 (Zz 1 (fL Zo (Za (fV 0) fN))) (Zd7 (WR xR) (Y9 (Zz 2 aR) (Zhd tR (Zah "NoText") Znb)))):=rfl
theorem Zr5{h0:List Nat}{tl:List (List Nat)}:YC (.lst ((h0::tl).map ZY)) (.int 0)=some (.str (Sg h0)):=by rw[Zix];exact Zay (by decide) rfl
theorem Zw7{h0:List Nat}{tl:List (List Nat)}:slD (.lst ((h0::tl).map ZY)) (some 1) none=some (.lst (tl.map ZY)):=by
 show some (D.lst (Zbi _ (some 1) none))=_
 rw[show(some (1:Int))=some ((1:Nat):Int) from rfl,Zja]
 rfl
theorem Zxl{h0:List Nat}{tl:List (List Nat)}(x y:Option D):ZE (Zgr (fV 1) (pS (fC (.int 1))) pN) [x,some (.lst ((h0::tl).map ZY)),y]=some (tl.map ZY):=by
 have:=Zw7 (h0:=h0) (tl:=tl)
 generalize (h0::tl).map ZY=W at *
 simp! only[this];rfl
theorem xR_eq{z:Str}(h:Tx z){h0:List Nat}{tl:List (List Nat)}(hw:wl z=h0::tl)(x:Option D):xR [x,some (.lst ((h0::tl).map ZY)),none]=if(Zbu h0||tl.any Zks)=true then some ("NoText":Str) else none:=by
 have w0:=h.w (cs:=h0) (by rw[hw];exact Qf)
 have hx:=Zhn (t:=gN 0) (fe:=fL Zx (Za (fV 0) fN)) (F:=xL Z8 (Za (fV 0) fN)) (ρ:=env0 1 [] [x,some (.lst ((h0::tl).map ZY)),none]) ZY Zks "NoText" tl fun cs hc=>by
  obtain⟨hl,hn⟩:=h.w (cs:=cs) (by rw[hw];exact Qe _ hc)
  refine⟨_,rfl,?_,fun hb=>⟨bD (Vv cs),?_⟩⟩
  ·have:=Zhm hl hn
   unfold ZY
   simp! only[xL,this]
   unfold Zks
   cases Zm5 cs<;>simp
  ·have:=Zba hl hn (Zih hb)
   unfold ZY
   simp! only[this]
 have hlen:(tl.map ZY).length<=ZN:=by
  have a:=Vk z;have b:=h.len
  rw[hw,Qp]at a
  rw[Qd];unfold ZN;omega
 have hc:VF 1 [] (ZE (Zgr (fV 1) (pS (fC (.int 1))) pN)) (gN 0) (fL Zx (Za (fV 0) fN)) (xL Z8 (Za (fV 0) fN)) [x,some (.lst ((h0::tl).map ZY)),none]=if tl.any Zks=true then some ("NoText":Str) else none:=by
  unfold VF
  rw[Zxl,QB,if_pos hlen,hx]
 have e0:=Zr5 (h0:=h0) (tl:=tl)
 have x0:=X5 w0.1 w0.2
 unfold xR
 generalize VF 1 [] (ZE (Zgr (fV 1) (pS (fC (.int 1))) pN)) (gN 0) (fL Zx (Za (fV 0) fN)) (xL Z8 (Za (fV 0) fN))=XC at hc ⊢
 generalize (h0::tl).map ZY=W at *
 cases hn:Zbu h0 with
 |true =>
  have:YV h0=none:=by unfold Zbu at hn;simpa using hn
  rw[this,if_pos rfl]at x0
  simp! only[WQ,xL,e0,x0,Bool.true_or]
 |false =>
  have q:=VX hn
  rw[q,if_neg (by simp)]at x0
  have g0:=YM w0.1 w0.2 q
  simp! only[WQ,Wr,xL,e0,x0,g0,hc,Bool.false_or]
theorem Zxy{z:Str}(h:Tx z){h0:List Nat}{tl:List (List Nat)}(hw:wl z=h0::tl)(x:Option D)(hn:Zbu h0=false)(hb:tl.any Zks=false) :
  aR [x,some (.lst ((h0::tl).map ZY)),none]=some (.tup [.int (Ut h0),.tup ((tl.map Vv).map bD)]):=by
 have w0:=h.w (cs:=h0) (by rw[hw];exact Qf)
 have hc:Z7 1 [] (ZE (Zgr (fV 1) (pS (fC (.int 1))) pN)) (gN 0) Y5 (fL Zx (Za (fV 0) fN)) [x,some (.lst ((h0::tl).map ZY)),none]=some (.lst ((tl.map Vv).map bD)):=by
  rw[Yv ZY (fun cs=>bD (Vv cs)) tl (Zxl x none) (by have a:=Vk z;have b:=h.len;rw[hw,Qp]at a;omega) fun cs hc=>⟨_,rfl,?_⟩,Qy]
  ·rfl
  ·obtain⟨hl,hn⟩:=h.w (cs:=cs) (by rw[hw];exact Qe _ hc)
   have nb:Zks cs=false:=by
    cases q:Zks cs with
    |false=>rfl
    |true =>
     have:=List.any_eq_true.mpr ⟨cs,hc,q⟩
     rw[this]at hb;cases hb
   have:=Zba hl hn (Zih nb)
   unfold ZY
   simp! only[this]
 have e0:=Zr5 (h0:=h0) (tl:=tl)
 have g0:=YM w0.1 w0.2 (VX hn)
 have et:VQ [.lst ((tl.map Vv).map bD)]=some (.tup ((tl.map Vv).map bD)):=rfl
 unfold aR
 generalize (tl.map Vv).map bD=BS at *
 generalize (h0::tl).map ZY=W at *
 simp! only[e0,g0,hc,et,Zmr]
theorem Zw3{x W:Option D}{G:D}(h:Zt [G]=some (.bl false)):tR [x,W,some G]=some true:=by
 unfold tR
 simp! only[h]
theorem Zw4{z:Str}{W:Option D}{G:D}{t:Str}(h:Zt [G]=some (.bl true))(hs:YN [G]=some (.str t))(ho:PyData.strOk t=true)(hz:PyData.strOk z=true):tR [some (.str z),W,some G]=some (!decide (t=z)):=by
 have:=Zii t z ho hz
 unfold tR
 simp! only[h,hs,this]
theorem Zna{z:Str}(h:Tx z)(hn:¬∃m bs,Acc z m bs):Wz [.str z]=some ("NoText":Str):=by
 have hz:PyData.strOk z=true:=Zf8 h.low
 cases hw:wl z with
 |nil=>exact absurd hw (Zpo z)
 |cons h0 tl =>
  have hwd:=Zb1 h
  rw[hw]at hwd
  have hx:=xR_eq h hw (some (.str z))
  have wd':xL ZJ (Za (fV 0) fN) [some (.str z),none,none]=none:=by simp! only[xL,Zbm]
  unfold Wz
  rw[Zly]
  cases hc:(Zbu h0||tl.any Zks) with
  |true =>
   rw[hc,if_pos rfl]at hx
   generalize (h0::tl).map ZY=W at *
   simp! only[Wh,Zd7,WR,Y9,xL,Zbm,hwd,hx]
  |false =>
   rw[hc,if_neg (by decide)]at hx
   rw[Bool.or_eq_false_iff]at hc
   have ha:=Zxy h hw (some (.str z)) hc.1 hc.2
   have hlen:(tl.map Vv).length<=100:=by have a:=Vk z;have b:=h.len;rw[hw,Qp]at a;rw[Qd];omega
   have ht:∀W,tR [some (.str z),W,some (.tup [.int (Ut h0),.tup ((tl.map Vv).map bD)])]=some true:=by
    intro W
    by_cases hm:1<=Ut h0/\Ut h0<=5
    ·obtain⟨m,em⟩:∃m:Nat,Ut h0=(m:Int):=⟨(Ut h0).toNat,by omega⟩
     rw[em]at hm ⊢
     have m1:1<=m:=by omega
     have m5:m<=5:=by omega
     have hg:=Zsc m1 m5 hlen
     cases hq:((tl.map Vv).all fun b=>decide (VB m b))&&(Y3 ((tl.map Vv).map pr)&&jn m ((tl.map Vv).map pr)) with
     |false=>rw[hq]at hg;exact Zw3 hg
     |true =>
      rw[hq]at hg
      simp only[Qq]at hq
      have vb:∀b∈tl.map Vv,VB m b:=fun b hb=>of_decide_eq_true (Qs.mp hq.1 b hb)
      have hs:=Zw8 m1 m5 vb hq.2.1 hg
      rw[Zw4 hg hs (Zwz (UX m1 m5 vb)) hz,decide_eq_false fun e=>hn ⟨m,_,⟨m1,m5,vb,hq.2.1,hq.2.2,e.symm⟩⟩]
      rfl
    ·exact Zw3 (Z0b hm)
   generalize (tl.map Vv).map bD=BS at *
   generalize (h0::tl).map ZY=W at *
   simp! only[Wh,Zd7,WR,Y9,Zhd,Zah,xL,Zbm,hwd,hx,ha,ht]
theorem Zrh:∀m∈List.range 6,num (m:Int)=Sg [48+m]:=by decide+kernel
theorem Zo0:∀m∈List.range 6,YV [48+m]=some (m:Int):=by decide+kernel
theorem Z06:∀b∈Za1,Zm5 (wB b).cps.toList=some b:=by decide+kernel
theorem Ztr{z:Str}{m:Nat}{bs:List Bd}(h:Acc z m bs):wl z=[48+m]::bs.map fun b=>(wB b).cps.toList:=by
 have hw:=UX h.m1 h.m5 h.vb
 unfold wl
 rw[h.eq,Vl,Zkc (by simp) fun p hp=>Znd (hw p hp),Qh,Qy,Zrh m (QJ.mpr (by have:=h.m5;omega)),YS]
 rfl
theorem Zlb{z:Str}(h:Tx z){m:Nat}{bs:List Bd}(ha:Acc z m bs):W2 [.str z]=some (gD ⟨m,bs⟩):=by
 have hz:PyData.strOk z=true:=Zf8 h.low
 have hw:=Ztr ha
 have m5:=ha.m5
 have c0:YV [48+m]=some (m:Int):=Zo0 m (QJ.mpr (by omega))
 have cb:∀b∈bs,Zm5 (wB b).cps.toList=some b:=fun b hb=>Z06 b (Zpr ha.m5 (ha.vb b hb))
 have n0:Zbu [48+m]=false:=by unfold Zbu;rw[c0];rfl
 have nb:(bs.map fun b=>(wB b).cps.toList).any Zks=false:=by
  rw[List.any_map,List.any_eq_false]
  intro b hb
  show ¬Zks (wB b).cps.toList=true
  unfold Zks;rw[cb b hb];simp
 have ea:=Zxy h hw (some (.str z)) n0 nb
 have g0:Ut [48+m]=(m:Int):=by unfold Ut;rw[c0];rfl
 have gb:(bs.map fun b=>(wB b).cps.toList).map Vv=bs:=by
  rw[Qy]
  conv=>rhs;rw[<- List.map_id bs]
  refine QW fun b hb=>?_
  show Vv (wB b).cps.toList=b
  unfold Vv;rw[cb b hb];rfl
 rw[g0,gb]at ea
 have hf:=fewB ha.m5 ha.vb ha.rs
 have hg:=Zsc ha.m1 ha.m5 (bs:=bs) (by omega)
 have hv:(bs.all fun b=>decide (VB m b))=true:=Qs.mpr fun b hb=>decide_eq_true (ha.vb b hb)
 rw[hv,ha.rs,ha.jn]at hg
 have hs:=Zw8 ha.m1 ha.m5 ha.vb ha.rs hg
 have ht:∀W,tR [some (.str z),W,some (.tup [.int m,.tup (bs.map bD)])]=some false:=fun W=>by
  rw[Zw4 hg hs (Zwz (UX ha.m1 ha.m5 ha.vb)) hz,decide_eq_true ha.eq.symm];rfl
 have hwd:=Zb1 h
 rw[hw]at hwd
 unfold W2 gD
 rw[Z0o]
 generalize bs.map bD=BS at *
 generalize (([48+m]::bs.map fun b=>(wB b).cps.toList)).map ZY=W at *
 simp! only[hwd,ea,ht]
theorem Zz0{a b:List Int}(h:kT a=kT b):a=b:=by
 unfold kT at h
 exact V1.mp (by simpa using h)
theorem Zli:∀ks:List (List Int),Zlj (ks.map kT)=true
 |[]=>rfl
 |k::ks=>by
  have:=Vi k
  simp only[Qh,Zlj,kT,dk,Zli ks,Bool.and_true]
  exact this
theorem Zgy:∀ks:List (List Int),V6 (ks.map kT)<=1
 |[]=>by simp[V6]
 |k::ks=>by
  have:=Wp k
  have ih:=Zgy ks
  simp only[Qh,V6,kT,UD]
  have e:V6 (k.map fun i=>D.int i)=0:=this
  rw[e];omega
theorem Zkw{a b:List (List Int)}(h:a.map kT=b.map kT):a=b:=by
 induction a generalizing b with
 |nil=>cases b with
  |nil=>rfl
  |cons x b=>cases h
 |cons x a ih=>cases b with
  |nil=>cases h
  |cons y b =>
   simp only[Qh,Jx]at h
   rw[Zz0 h.1,ih h.2]
theorem Zzq(a b:List (List Int)):XU (.lst (a.map kT)) (.lst (b.map kT))=some (.bl (!decide (a=b))):=by
 have ha:=Zgy a
 have hb:=Zgy b
 rw[Zgc (by simp only[dk];exact Zli a) (by simp only[dk];exact Zli b) (by simp only[UD];omega) (by simp only[UD];omega)]
 by_cases h:a=b
 ·subst h;simp
 ·have:¬(D.lst (a.map kT)=D.lst (b.map kT)):=fun z=>h (Zkw (by simpa using z))
  simp[h,this]
def Zw0(x:Nat×Nat×Nat):Bd:=((x.1:Int),(x.2.1:Int),(x.2.2:Int))
def Zjw(n:Nat)(cs:List Nat):Bool:=(jo cs n).isNone
def WX(n:Nat)(cs:List Nat):Bd:=Zw0 ((jo cs n).getD (0,0,0))
def Ziq(n:Nat)(bs:List Bd):Bool:=Y3 (bs.map pr)&&Zze n (bs.map pr)
noncomputable def Zm6:FS:=Zz 5 (Z7 1 [5,6,7] (ZE (fV 5)) (gN 0) Y5 (f2 YC (fL XH (Za (fV 0) (Za (f2 YC (fV 1) (fV 2)) fN))) (fL Zau (Za (f2 YE (fV 0) (f2 YC (fV 1) (fV 3))) fN))))
theorem loopG{A B C E F:D}{m:Nat}(m5:m<=5):∀(ps:List (Nat×Nat)) (ν:List Int) (x3 x4:Option Cl),(∀p∈ps,p.1<m/\p.2<m)->ν.length=m->∃y3 y4,
  Wj (gT [6,7]) Zm6 (ps.map fun p=>kT (k2 p)) [some (.val A),some (.val B),some (.val C),some (.val E),some (.val F),some (.val (.lst (ν.map .int))),x3,x4] =
   .nx [some (.val A),some (.val B),some (.val C),some (.val E),some (.val F),some (.val (.lst ((ps.foldl Zkb ν).map .int))),y3,y4]/\(ps.foldl Zkb ν).length=m:=by
 intro ps
 induction ps with
 |nil=>intro ν x3 x4 _ hl;exact⟨x3,x4,rfl,hl⟩
 |cons p ps ih =>
  intro ν x3 x4 hp hl
  obtain⟨pa,pb⟩:=hp p Qf
  have hl':(Zkb ν p).length=m:=by unfold Zkb;rw[Qd,hl]
  obtain⟨y3,y4,e,h2⟩:=ih (Zkb ν p) (some (.val (.int p.1))) (some (.val (.int p.2))) (fun q hq=>hp q (Qe _ hq)) hl'
  refine⟨y3,y4,?_,h2⟩
  have tt:gT [6,7] (kT (k2 p))=some [(6,.int p.1),(7,.int p.2)]:=rfl
  have at':∀i:Nat,i<m->YC (.lst (ν.map .int)) (.int (i:Int))=some (.int (ν.getD i 0)):=fun i hi=>by
   rw[Zix]
   refine Zay (by omega) ?_
   rw[QF,QC,QO,Qn (by omega)]
   rfl
  have hc:Z7 1 [5,6,7] (ZE (fV 5)) (gN 0) Y5 (f2 YC (fL XH (Za (fV 0) (Za (f2 YC (fV 1) (fV 2)) fN))) (fL Zau (Za (f2 YE (fV 0) (f2 YC (fV 1) (fV 3))) fN))) [some A,some B,some C,some E,some F,some (.lst (ν.map .int)),some (.int p.1),some (.int p.2)]=some (.lst ((Zkb ν p).map .int)):=by
   rw[Yv D.int (fun x=>D.int (if x=ν.getD p.2 0 then ν.getD p.1 0 else x)) ν rfl (by omega) fun x _=>⟨_,rfl,?_⟩]
   ·unfold Zkb;rw[Qy];rfl
   ·have ib:∀b:Bool,Zau [.bl b]=some (.int (if b=true then 1 else 0)):=fun b=>by cases b<;>rfl
    have pk:∀(x y:Int) (b:Bool),YC (.lst [.int x,.int y]) (.int (if b=true then 1 else 0))=some (.int (if b=true then y else x)):=fun x y b=>by cases b<;>rfl
    simp! only[at' p.1 pa,at' p.2 pb,YD,Zmr,ib,pk]
    by_cases e:x=ν.getD p.2 0
    ·rw[if_pos e,if_pos (decide_eq_true e)]
    ·rw[if_neg e,if_neg (by simpa using e)]
  rw[Qh]
  unfold Wj
  rw[tt]
  dsimp only
  have es:Zm6 (Zbf [some (.val A),some (.val B),some (.val C),some (.val E),some (.val F),some (.val (.lst (ν.map .int))),x3,x4] [(6,.int p.1),(7,.int p.2)])=.nx [some (.val A),some (.val B),some (.val C),some (.val E),some (.val F),some (.val (.lst ((Zkb ν p).map .int))),some (.val (.int p.1)),some (.val (.int p.2))]:=by
   unfold Zm6
   simp! only[hc]
  rw[es]
  exact e
noncomputable def tG1:FT:=WZ (gB (f2 Vu (fV 2) (fC .non))) (WZ (gB (f2 WU (fV 2) (fC (.int 1)))) (gB (f2 (Z1 fun i j=>.bl (decide (j<i))) (fV 2) (fC (.int 5)))))
noncomputable def cG:FE:=Z7 1 [2] (ZE (Zgr (fV 1) (pS (fC (.int 1))) pN)) (gN 0) Y5 (fL Z4 (Za (fV 0) (Za (fV 1) fN)))
noncomputable def pG:FE:=Z7 1 [] (ZE (fV 3)) (gN 0) Y5 (Zgr (fV 0) pN (pS (fC (.int 2))))
noncomputable def nG:FE:=Z7 1 [] (fR Zak (Za (fV 2) fN)) (gN 0) Y5 (fV 0)
noncomputable def tG2:FT:=WZ (gB (f2 XU (fV 4) (f1 Zev (fV 4)))) (gB (f2 XU (f1 Uy (fV 5)) (fC (.int 1))))
theorem Zsz:X3 Zj Z4=Zp (Zz 1 (f2 Wt (fV 0) (fC (.str " ")))) (Zp (Zz 2 (fL Zj (Za (f2 YC (fV 1) (fC (.int 0))) fN))) (Zp (XB tG1 (ZX (fC .non)) XF) (Zp (Zz 3 cG) (Zp (XB (gB (f2 Z0a (fC .non) (fV 3))) (ZX (fC .non)) XF) (Zp (Zz 4 pG) (Zp (Zz 5 nG) (Zp (VJ (ZE (fV 4)) (gT [6,7]) Zm6) (Zp (XB tG2 (ZX (fC .non)) XF) (ZX (fL Y4 (Za (fV 2) (Za (fL VQ (Za (fV 3) fN)) fN)))))))))))):=rfl
theorem Zz6{h0:List Nat}{tl:List (List Nat)}(x:Option D)(r:List (Option D)):ZE (Zgr (fV 1) (pS (fC (.int 1))) pN) (x::some (.lst ((h0::tl).map ZY))::r)=some (tl.map ZY):=by
 have:=Zw7 (h0:=h0) (tl:=tl)
 generalize (h0::tl).map ZY=W at *
 simp! only[this];rfl
theorem Zwx:∀p∈List.range 5,∀q∈List.range 5,∀L∈[1,2,3,4],(wB (Zw0 (p,q,L))).cps.toList=wd p q L:=by decide+kernel
theorem Zgp{n:Nat}(n5:n<=5){cs:List Nat}(h:Zjw n cs=false):VB n (WX n cs)/\cs=(wB (WX n cs)).cps.toList/\jo cs n=some ((WX n cs).1.toNat,(WX n cs).2.1.toNat,(WX n cs).2.2.toNat):=by
 unfold Zjw at h
 cases q:jo cs n with
 |none=>rw[q]at h;cases h
 |some x =>
  obtain⟨p,r,L⟩:=x
  obtain⟨h1,h2,h3,h4,h5⟩:=Zvr q n5
  have e:WX n cs=Zw0 (p,r,L):=by unfold WX;rw[q];rfl
  rw[e]
  refine⟨?_,?_,?_⟩
  ·unfold VB Zw0;dsimp only;omega
  ·rw[Zwx p (QJ.mpr (by omega)) r (QJ.mpr (by omega)) L (by simp;omega)];exact h5
  ·unfold Zw0;dsimp only;simp only[QF]
theorem Za9{z:Str}(h:Tx z){h0:List Nat}{tl:List (List Nat)}(hw:wl z=h0::tl):Zw [.str z]=some (match Xb h0 with
  |none=>.non
  |some n=>if n<1\/5<n then .non else if tl.any (Zjw n)=true then .non else if Ziq n (tl.map (WX n))=true then gD ⟨n,tl.map (WX n)⟩ else .non):=by
 have w0:=h.w (cs:=h0) (by rw[hw];exact Qf)
 have hs:=U1 h
 rw[hw]at hs
 have e0:=Zr5 (h0:=h0) (tl:=tl)
 have g0:=Xx w0.1 w0.2
 have hcnt:tl.length<=90:=by have a:=Vk z;have b:=h.len;rw[hw,Qp]at a;omega
 unfold Zw
 rw[Zsz]
 cases hn:Xb h0 with
 |none =>
  rw[hn]at g0
  have t1:∀a b c d e f g,tG1 [a,b,some (oN none),c,d,e,f,g]=some true:=fun a b c d e f g=>by
   unfold tG1
   simp! only[oN,Zby]
  generalize (h0::tl).map ZY=W at *
  simp! only[hs,e0,g0,t1]
 |some n =>
  rw[hn]at g0
  have t1:∀a b c d e f g,tG1 [a,b,some (oN (some n)),c,d,e,f,g]=some (decide (n<1\/5<n)):=fun a b c d e f g=>by
   have e3:decide ((n:Int)<1)=decide (n<1):=decide_eq_decide.mpr (by omega)
   have e4:decide ((5:Int)<(n:Int))=decide (5<n):=decide_eq_decide.mpr (by omega)
   unfold tG1
   simp! only[oN,Zbz,e3,e4]
   by_cases z1:n<1<;>by_cases z2:5<n<;>simp[z1,z2]
  dsimp only
  by_cases hr:n<1\/5<n
  ·rw[if_pos hr]
   have d:=decide_eq_true hr
   generalize (h0::tl).map ZY=W at *
   simp! only[hs,e0,g0,t1,d]
  ·rw[if_neg hr]
   have d:=decide_eq_false hr
   have n1:1<=n:=by omega
   have n5:n<=5:=by omega
   have hc:∀a r,cG (a::some (.lst ((h0::tl).map ZY))::some (oN (some n))::r)=some (.lst (tl.map fun w=>oJ (jo w n))):=fun a r=>by
    unfold cG
    refine Yv ZY (fun w=>oJ (jo w n)) tl (Zz6 _ _) (by omega) fun cs hcs=>⟨_,rfl,?_⟩
    obtain⟨hl,hn'⟩:=h.w (cs:=cs) (by rw[hw];exact Qe _ hcs)
    have:=Zop hl hn' n
    unfold ZY
    simp! only[oN,this]
   have hin:Z0a .non (.lst (tl.map fun w=>oJ (jo w n)))=some (.bl (tl.any (Zjw n))):=by
    rw[Zxw fun d hd=>by
     obtain⟨cs,_,rfl⟩:=QA.mp hd
     cases jo cs n<;>exact⟨rfl,by simp[oJ,UD,V6]⟩]
    congr 2
    rw[List.any_map]
    congr 1
    funext cs
    show Zc8 (oJ (jo cs n))=Zjw n cs
    unfold Zjw
    cases jo cs n<;>rfl
   cases hb:tl.any (Zjw n) with
   |true =>
    rw[hb]at hin
    rw[if_pos rfl]
    generalize (tl.map fun w=>oJ (jo w n))=JS at *
    generalize (h0::tl).map ZY=W at *
    simp! only[hs,e0,g0,t1,d,hc,hin]
   |false =>
    rw[hb]at hin
    rw[if_neg (by decide)]
    have nj:∀cs∈tl,Zjw n cs=false:=fun cs hcs=>by
     cases q:Zjw n cs with
     |false=>rfl
     |true =>
      have:=List.any_eq_true.mpr ⟨cs,hcs,q⟩
      rw[this]at hb;cases hb
    have ej:(tl.map fun w=>oJ (jo w n))=(tl.map (WX n)).map bD:=by
     rw[Qy]
     refine QW fun cs hcs=>?_
     have:=nj cs hcs
     unfold Zjw at this
     show oJ (jo cs n)=bD (Zw0 ((jo cs n).getD (0,0,0)))
     cases q:jo cs n with
     |none=>rw[q]at this;cases this
     |some x=>rfl
    have hv:∀b∈tl.map (WX n),VB n b:=fun b hb=>by
     obtain⟨cs,hcs,rfl⟩:=QA.mp hb
     exact(Zgp n5 (nj cs hcs)).1
    rw[ej]at hc hin
    have hbl:(tl.map (WX n)).length<=90:=by rw[Qd];exact hcnt
    generalize tl.map (WX n)=bs at hc hin hv hbl ⊢
    have hp:∀a b c r,pG (a::b::c::some (.lst (bs.map bD))::r)=some (.lst (((bs.map pr).map k2).map kT)):=fun a b c r=>by
     unfold pG
     rw[Yv bD (fun b=>kT (k2 (pr b))) bs rfl (by omega) fun b hb=>⟨_,rfl,?_⟩]
     ·rw[Qy,Qy];rfl
     ·have v:=hv b hb
      unfold VB at v
      unfold bD
      simp! only[slD,Zhx]
      unfold kT k2 pr
      simp only[Qh,JK,Jl v.1,Jl (show 0<=b.2.1 by omega)]
    have hr':∀a b r,nG (a::b::some (oN (some n))::r)=some (.lst (((List.range n).map fun(i:Nat)=>(i:Int)).map .int)):=fun a b r=>by
     unfold nG
     rw[Yv (fun(i:Nat)=>D.int (i:Int)) (fun(i:Nat)=>D.int (i:Int)) (List.range n) (by simp! only[oN,U4 (show n<=65536 by omega)]) (by rw[List.length_range];omega) fun i _=>⟨_,rfl,rfl⟩,Qy]
     rfl
    have hpr:∀p∈bs.map pr,p.1<p.2/\p.2<n:=fun p hp=>by
     obtain⟨b,hb,rfl⟩:=QA.mp hp
     have v:=hv b hb
     unfold VB at v
     unfold pr
     dsimp only
     omega
    obtain⟨ks,es,ek⟩:=Ztg (Zwa fun p hp=>by have:=hpr p hp;omega) (by rw[Qd];omega:(bs.map pr).length<=390)
    obtain⟨y3,y4,el,hlen⟩:=loopG (A:=.str z) (B:=.lst ((h0::tl).map ZY)) (C:=oN (some n)) (E:=.lst (bs.map bD)) (F:=.lst (((bs.map pr).map k2).map kT)) n5 (bs.map pr) ((List.range n).map fun(i:Nat)=>(i:Int)) none none (fun p hp=>by have:=hpr p hp;omega) (by rw[Qd,List.length_range])
    have eq1:XU (.lst (((bs.map pr).map k2).map kT)) (.lst (ks.map kT))=some (.bl (!Y3 (bs.map pr))):=by
     rw[Zzq]
     congr 3
     cases q:Y3 (bs.map pr) with
     |true=>exact decide_eq_true (ek.mpr q).symm
     |false=>exact decide_eq_false fun z=>by rw[ek.mp z.symm]at q;cases q
    have eq2:Uy (.lst (((bs.map pr).foldl Zkb ((List.range n).map fun(i:Nat)=>(i:Int))).map .int))=_:=Zn8 _ (by rw[hlen];omega)
    have eit:UO (.lst (((bs.map pr).map k2).map kT))=some ((bs.map pr).map fun p=>kT (k2 p)):=by
     show some (((bs.map pr).map k2).map kT)=_
     rw[Qy];rfl
    have ed:decide ((((((bs.map pr).foldl Zkb ((List.range n).map fun(i:Nat)=>(i:Int))).foldl Uv []).length:Nat):Int)≠1)=!Zze n (bs.map pr):=by
     unfold Zze
     by_cases q:(((bs.map pr).foldl Zkb ((List.range n).map fun(i:Nat)=>(i:Int))).foldl Uv []).length=1
     ·rw[decide_eq_true q];exact decide_eq_false (by omega)
     ·rw[decide_eq_false q];exact decide_eq_true (by omega)
    have t2:∀a b c e f g,tG2 [a,b,c,e,some (.lst (((bs.map pr).map k2).map kT)),some (.lst (((bs.map pr).foldl Zkb ((List.range n).map fun(i:Nat)=>(i:Int))).map .int)),f,g]=some (!Ziq n (bs.map fun b=>b)):=fun a b c e f g=>by
     unfold tG2 Ziq
     rw[List.map_id']
     generalize (bs.map pr).foldl Zkb ((List.range n).map fun(i:Nat)=>(i:Int))=ν at *
     generalize ((bs.map pr).map k2).map kT=W' at *
     simp! only[es,eq1,eq2,Wv,ed]
     cases Y3 (bs.map pr)<;>cases Zze n (bs.map pr)<;>rfl
    rw[List.map_id']at t2
    have et:VQ [.lst (bs.map bD)]=some (.tup (bs.map bD)):=rfl
    unfold gD
    generalize (bs.map pr).foldl Zkb ((List.range n).map fun(i:Nat)=>(i:Int))=ν at *
    generalize ((bs.map pr).map k2).map kT=W' at *
    generalize bs.map bD=BS at *
    generalize (h0::tl).map ZY=W at *
    simp! only[hs,e0,g0,t1,d,hc,hin,hp,hr',VJ,eit]
    rw[el]
    cases hg:Ziq n bs with
    |true =>
     rw[hg]at t2
     simp! only[t2,et,Zmr,oN]
    |false =>
     rw[hg]at t2
     simp! only[t2]
theorem Zc3{z:Str}(h:Tx z):(∃m bs,Acc z m bs/\Zw [.str z]=some (gD ⟨m,bs⟩))\/((¬∃m bs,Acc z m bs)/\Zw [.str z]=some .non):=by
 have e1:∀{n:Nat} {bs:List Bd},1<=n->n<=5->(∀b∈bs,VB n b)->Y3 (bs.map pr)=true->jn n (bs.map pr)=Zze n (bs.map pr):=fun{n bs} n1 n5 hv hr=>jn_nm n1 n5 (fun p hp=>by
  obtain⟨b,hb,rfl⟩:=QA.mp hp
  have v:=hv b hb
  unfold VB at v
  unfold pr
  dsimp only
  omega) hr
 by_cases hA:∃m bs,Acc z m bs
 ·obtain⟨m,bs,ha⟩:=hA
  refine .inl ⟨m,bs,ha,?_⟩
  have m1:=ha.m1
  have m5:=ha.m5
  rw[Za9 h (Ztr ha),Zn1 (by omega)]
  dsimp only
  have jb:∀b∈bs,jo (wB b).cps.toList m=some (b.1.toNat,b.2.1.toNat,b.2.2.toNat)/\WX m (wB b).cps.toList=b:=fun b hb=>by
   have v:=ha.vb b hb
   unfold VB at v
   have eb:b=Zw0 (b.1.toNat,b.2.1.toNat,b.2.2.toNat):=by
    obtain⟨x,y,w⟩:=b
    unfold Zw0
    dsimp only at v ⊢
    rw[Jl v.1,Jl (by omega),Jl (by omega)]
   have ew:(wB b).cps.toList=wd b.1.toNat b.2.1.toNat b.2.2.toNat:=by
    conv=>lhs;rw[eb]
    exact Zwx _ (QJ.mpr (by omega)) _ (QJ.mpr (by omega)) _ (by simp;omega)
   have ej:=jo_of (n:=m) (p:=b.1.toNat) (q:=b.2.1.toNat) (L:=b.2.2.toNat) m5 (by omega) (by omega) (by omega) (by omega)
   rw[<- ew]at ej
   refine⟨ej,?_⟩
   unfold WX
   rw[ej]
   exact eb.symm
  have nj:(bs.map fun b=>(wB b).cps.toList).any (Zjw m)=false:=by
   rw[List.any_map,List.any_eq_false]
   intro b hb
   show ¬Zjw m (wB b).cps.toList=true
   unfold Zjw;rw[(jb b hb).1];simp
  have gj:(bs.map fun b=>(wB b).cps.toList).map (WX m)=bs:=by
   rw[Qy]
   conv=>rhs;rw[<- List.map_id bs]
   exact QW fun b hb=>(jb b hb).2
  have hg:Ziq m bs=true:=by
   unfold Ziq
   rw[ha.rs,<- e1 m1 m5 ha.vb ha.rs,ha.jn];rfl
  rw[if_neg (by omega),nj,if_neg (by decide),gj,hg,if_pos rfl]
 ·refine .inr ⟨hA,?_⟩
  cases hw:wl z with
  |nil=>exact absurd hw (Zpo z)
  |cons h0 tl =>
   rw[Za9 h hw]
   cases hn:Xb h0 with
   |none=>rfl
   |some n =>
    dsimp only
    by_cases hr:n<1\/5<n
    ·rw[if_pos hr]
    ·rw[if_neg hr]
     cases hb:tl.any (Zjw n) with
     |true=>rw[if_pos rfl]
     |false =>
      rw[if_neg (by decide)]
      cases hg:Ziq n (tl.map (WX n)) with
      |false=>rw[if_neg (by decide)]
      |true =>
       exfalso
       have n5:n<=5:=by omega
       have n1:1<=n:=by omega
       have nj:∀cs∈tl,Zjw n cs=false:=fun cs hcs=>by
        cases q:Zjw n cs with
        |false=>rfl
        |true =>
         have:=List.any_eq_true.mpr ⟨cs,hcs,q⟩
         rw[this]at hb;cases hb
       have hv:∀b∈tl.map (WX n),VB n b:=fun b hb=>by
        obtain⟨cs,hcs,rfl⟩:=QA.mp hb
        exact(Zgp n5 (nj cs hcs)).1
       unfold Ziq at hg
       rw[Qq]at hg
       refine hA ⟨n,tl.map (WX n),n1,n5,hv,hg.1,(e1 n1 n5 hv hg.1).trans hg.2,?_⟩
       have e0:Sg h0=num n:=by rw[WK hn (by omega)];exact(Zrh n (QJ.mpr (by omega))).symm
       have e2:tl.map Sg=(tl.map (WX n)).map wB:=by
        rw[Qy]
        refine QW fun cs hcs=>?_
        show Sg cs=wB (WX n cs)
        conv=>lhs;rw[(Zgp n5 (nj cs hcs)).2.1]
        exact Zha _
       have:=Zww z
       rw[hw,Qh,e0,e2]at this
       exact this.symm
theorem Zk4{c:Nat}:∀{ps:List Str} {x:Nat},x∈(Str.join ⟨#[c]⟩ ps).cps.toList->x=c\/∃w∈ps,x∈w.cps.toList:=by
 intro ps
 induction ps with
 |nil=>intro x h;exact absurd h (by simp[Str.join,Str.empty])
 |cons p ps ih =>
  intro x h
  cases ps with
  |nil=>exact .inr ⟨p,Qf,h⟩
  |cons p2 ps =>
   rw[Y0]at h
   rcases QE.mp h with h|h
   ·exact .inr ⟨p,Qf,h⟩
   ·rcases Ql.mp h with h|h
    ·exact .inl h
    ·rcases ih h with e|⟨w,hw,hx⟩
     ·exact .inl e
     ·exact .inr ⟨w,Qe _ hw,hx⟩
theorem Ziv{c:Nat}:∀{ps:List Str},ps≠[]->(Str.join ⟨#[c]⟩ ps).length+1=(ps.map (·.length)).sum+ps.length:=by
 intro ps
 induction ps with
 |nil=>intro h;exact absurd rfl h
 |cons p ps ih =>
  intro _
  cases ps with
  |nil=>simp[Str.join]
  |cons p2 ps =>
   have:=ih (by simp)
   rw[XI (Str.join _ _),Y0,QI,Qp,<- XI,<- XI]
   rw[Qh,List.sum_cons,Qp]
   omega
theorem Ze6{ws:List Str}(hs:(ws.map (·.length)).sum+ws.length<=1000):Ve (.str " ") (.lst (ws.map .str))=some (.str (tx ws)):=by
 show(UH (ws.map D.str)).bind _=_
 rw[Zcg]
 show(if JoinOk " " ws=true then some (D.str (Txt.join " " ws)) else none)=_
 rw[if_pos]
 ·rfl
 ·unfold JoinOk
  rw[Zl2,StrLaws.joinTotal]
  have e:(⟨#[32]⟩:Str).length=1:=rfl
  rw[e]
  unfold Builtin.Str.tooLong
  have:sizeLine=16777216:=QK
  simp only[JR,decide_eq_false_iff_not]
  omega
theorem Zps{ws:List Str}(hn:ws≠[])(hw:∀w∈ws,VL w.cps.toList):VL (tx ws).cps.toList/\(tx ws).length+1=(ws.map (·.length)).sum+ws.length:=by
 rw[Vl]
 refine⟨fun x hx=>?_,Ziv hn⟩
 rcases Zk4 hx with e|⟨w,h1,h2⟩
 ·omega
 ·exact hw w h1 x h2
theorem Zub:∀{ws:List Str},(∀w∈ws,w.length<=5)->(ws.map (·.length)).sum<=5*ws.length:=by
 intro ws
 induction ws with
 |nil=>intro _;simp
 |cons w ws ih =>
  intro h
  have:=ih fun x hx=>h x (Qe _ hx)
  have:=h w Qf
  simp only[Qh,List.sum_cons,Qp]
  omega
theorem num_5:∀i∈(List.range 19).map fun(k:Nat)=>(k:Int)-9,(num i).length<=5:=by decide+kernel
theorem wB_5:∀b∈Za1,(wB b).length<=5:=by decide+kernel
theorem Zmp{i:Int}(h0:-9<=i)(h1:i<=9):(num i).length<=5:=num_5 i (QA.mpr ⟨(i+9).toNat,QJ.mpr (by omega),by omega⟩)
structure T66(z:Str):Prop where
 low:VL z.cps.toList
 len:z.length<=66
theorem Zp4{ws:List Str}(hn:ws≠[])(h11:ws.length<=11)(hw:∀w∈ws,VN w=true/\w.length<=5):Ve (.str " ") (.lst (ws.map .str))=some (.str (tx ws))/\T66 (tx ws):=by
 have h5:=Zub fun w h=>(hw w h).2
 obtain⟨a,b⟩:=Zps hn fun w h=>Zca (hw w h).1
 exact⟨Ze6 (by omega),a,by omega⟩
def Z0y:FE:=f2 L2.addS (f2 L2.addS (f2 L2.addS (fL Vo (Za (fV 2) fN)) (fC (.str "-"))) (fL Vo (Za (fV 3) fN))) (f2 YC (fL XH (Za (fC (.str "")) (Za (f2 L2.addS (fC (.str "x")) (fL Vo (Za (fV 4) fN))) fN))) (fL Zau (Za (f2 (Z1 fun i j=>.bl (decide (j<i))) (fV 4) (fC (.int 1))) fN)))
theorem Zoq:WA=Zp (Zf1 1 (fR few (Za (fL Vo (Za (f2 YC (fV 0) (fC (.int 0))) fN)) fN))) (Zp (VJ (ZE (f2 YC (fV 0) (fC (.int 1)))) (gT [2,3,4]) (Znp 1 Z0y)) (ZX (f2 Ve (fC (.str " ")) (fV 1)))):=rfl
theorem el_wB:∀b∈Za1,Z0y [none,none,some (.int b.1),some (.int b.2.1),some (.int b.2.2)]=some (.str (wB b)):=fun b hb =>
 Zr8 (Qs.mp (show(Za1.all fun b=>isS (Z0y [none,none,some (.int b.1),some (.int b.2.1),some (.int b.2.2)]) (wB b))=true by decide+kernel) b hb)
theorem loopW{G:D}:∀(bs:List Bd) (ws:List Str) (x2 x3 x4:Option Cl),(∀b∈bs,b∈Za1)->ws.length+bs.length<=100->∃y2 y3 y4,
  Wj (gT [2,3,4]) (Znp 1 Z0y) (bs.map bD) [some (.val G),some (.own (.lst (ws.map .str))),x2,x3,x4]=.nx [some (.val G),some (.own (.lst ((ws++bs.map wB).map .str))),y2,y3,y4]:=by
 intro bs
 induction bs with
 |nil=>intro ws x2 x3 x4 _ _;exact⟨x2,x3,x4,by rw[JK,JK,Q9];rfl⟩
 |cons b bs ih =>
  intro ws x2 x3 x4 hb hl
  rw[Qp]at hl
  obtain⟨y2,y3,y4,e⟩:=ih (ws++[wB b]) (some (.val (.int b.1))) (some (.val (.int b.2.1))) (some (.val (.int b.2.2))) (fun c hc=>hb c (Qe _ hc)) (by rw[QI];simp only[Qp,QY];omega)
  refine⟨y2,y3,y4,?_⟩
  rw[Qh]
  unfold Wj
  have tt:gT [2,3,4] (bD b)=some [(2,.int b.1),(3,.int b.2.1),(4,.int b.2.2)]:=rfl
  rw[tt]
  dsimp only
  have ee:Z0y [some G,some (.lst (ws.map .str)),some (.int b.1),some (.int b.2.1),some (.int b.2.2)]=some (.str (wB b)):=el_wB b (hb b Qf)
  have es:Znp 1 Z0y (Zbf [some (.val G),some (.own (.lst (ws.map .str))),x2,x3,x4] [(2,.int b.1),(3,.int b.2.1),(4,.int b.2.2)])=.nx [some (.val G),some (.own (.lst ((ws++[wB b]).map .str))),some (.val (.int b.1)),some (.val (.int b.2.1)),some (.val (.int b.2.2))]:=by
   show(match Z0y [some G,some (.lst (ws.map .str)),some (.int b.1),some (.int b.2.1),some (.int b.2.2)]with|some d=>if Zvz d=true/\(ws.map D.str).length<ZN then _ else _|_=>_)=_
   rw[ee]
   dsimp only
   rw[if_pos ⟨rfl,by rw[Qd];unfold ZN;omega⟩,List.map_append]
   rfl
  rw[es]
  dsimp only
  rw[e,List.append_assoc];rfl
theorem Zon{g:Gr}(h:GOk g):∃z,Yh [gD g]=some (.str z)/\T66 z:=by
 have n1:=h.n1
 have n5:=h.n5
 have hf:=h.few
 have hb:∀b∈g.bs,b∈Za1:=fun b hb=>by
  have r:=h.rg b hb
  exact b100 (by omega) (by omega) (by omega) (by omega) (by omega) (by omega)
 have hn:Vo [.int (g.n:Int)]=some (.str (num g.n)):=Zfx (Wn (by omega) (by omega))
 obtain⟨y2,y3,y4,e⟩:=loopW (G:=gD g) g.bs [num g.n] none none none hb (by simp only[Qp,QY];omega)
 obtain⟨j1,j2⟩:=Zp4 (ws:=num g.n::g.bs.map wB) (by simp) (by simp only[Qp,Qd];omega) fun w hw=>by
  rcases Ql.mp hw with e|hw
  ·rw[e];exact⟨Zcu _ (Wn (by omega) (by omega)),Zmp (by omega) (by omega)⟩
  ·obtain⟨b,hb',rfl⟩:=QA.mp hw
   exact⟨Zjn _ (hb b hb'),wB_5 b (hb b hb')⟩
 refine⟨_,?_,j2⟩
 have lim1:(1<=ZN)=True:=by unfold ZN;simp
 have s1:Zf1 1 (fR L2.few (Za (fL Vo (Za (f2 YC (fV 0) (fC (.int 0))) fN)) fN)) [some (.val (gD g)),none,none,none,none]=.nx [some (.val (gD g)),some (.own (.lst ([num g.n].map .str))),none,none,none]:=by
  simp! only[Zsp,hn,lim1]
 have s2:∀F:FS,VJ (ZE (f2 YC (fV 0) (fC (.int 1)))) (gT [2,3,4]) F [some (.val (gD g)),some (.own (.lst ([num g.n].map .str))),none,none,none]=Wj (gT [2,3,4]) F (g.bs.map bD) [some (.val (gD g)),some (.own (.lst ([num g.n].map .str))),none,none,none]:=fun F=>rfl
 unfold Yh YZ
 rw[if_pos (show([gD g]:List D).length=1 from rfl),Zoq,show YB 1 5 [gD g]=[some (.val (gD g)),none,none,none,none] from rfl,Yl,s1,ZW,Yl,s2,e,ZW]
 have ea:[num g.n]++g.bs.map wB=num g.n::g.bs.map wB:=rfl
 rw[ea]
 generalize num g.n::g.bs.map wB=ws at *
 generalize ws.map D.str=W at *
 simp! only[j1]
theorem Zn9{n:Nat}{f:Nat->Int}(n1:1<=n)(n5:n<=5)(h:∀i,-9<=f i/\f i<=9){ρ:Xl}{fi:FA}(hi:fi ρ=some ((Zpz n f).map .int)):∃z,f2 Ve (fC (.str " ")) (Z7 1 [] fi (gN 0) Y5 (fL Vo (Za (fV 0) fN))) ρ=some (.str z)/\T66 z:=by
 have hc:Z7 1 [] fi (gN 0) Y5 (fL Vo (Za (fV 0) fN)) ρ=some (.lst (((Zpz n f).map num).map .str)):=by
  rw[Qy]
  refine Yv D.int (fun x=>.str (num x)) (Zpz n f) hi (by rw[Zft];omega) fun x hx=>⟨_,rfl,?_⟩
  unfold Zpz at hx
  obtain⟨k,_,rfl⟩:=QA.mp hx
  have:=Zfx (Wn (h k).1 (h k).2)
  simp! only[this]
 obtain⟨j1,j2⟩:=Zp4 (ws:=(Zpz n f).map num) (by
  intro e
  have:=congrArg List.length e
  rw[Qd,Zft]at this
  simp at this;omega) (by rw[Qd,Zft];omega) fun w hw=>by
  obtain⟨x,hx,rfl⟩:=QA.mp hw
  unfold Zpz at hx
  obtain⟨k,_,rfl⟩:=QA.mp hx
  exact⟨Zcu _ (Wn (h k).1 (h k).2),Zmp (h k).1 (h k).2⟩
 refine⟨_,?_,j2⟩
 simp only[f2,fC,QB,hc,j1]
theorem Zxb{L:Int}{ws:List (List Nat)}(hl:((ws.map ZY).length:Int)=L)(h0:0<L)(x:Int):∃cs∈ws,YC (.lst (ws.map ZY)) (.int (x%L))=some (ZY cs):=by
 have a:=JD x (show L≠0 by omega)
 have b:=Jo x h0
 have hi:(x%L).toNat<ws.length:=by rw[Qd]at hl;omega
 refine⟨ws[(x%L).toNat],List.getElem_mem hi,?_⟩
 rw[Zix]
 refine Zay a ?_
 rw[QC,Qn hi];rfl
def Zez:List (List Nat):=[[32],[45],[120],[48],[49],[53],[97],[43],[95],[10]]
def U7:List (List Nat):=[[48,45,49,120,49],[48,45,49,120,53],[48,45,48],[49,45,48],[48,48,45,49],[48,45,49,120],[45,48],[45,45,49],[],[48,45,49,120,52],[48,45,49],[50]]
theorem Zre:([.str " ",.str "-",.str "x",.str "0",.str "1",.str "5",.str "a",.str "+",.str "_",.str "\n"]:List D)=Zez.map ZY:=by
 have:([" ","-","x","0","1","5","a","+","_","\n"]:List Str)=Zez.map Sg:=by decide+kernel
 have:=congrArg (List.map D.str) this
 rw[Qy]at this
 exact this
theorem Zrg:([.str "0-1x1",.str "0-1x5",.str "0-0",.str "1-0",.str "00-1",.str "0-1x",.str "-0",.str "--1",.str "",.str "0-1x4",.str "0-1",.str "2"]:List D)=U7.map ZY:=by
 have:(["0-1x1","0-1x5","0-0","1-0","00-1","0-1x","-0","--1","","0-1x4","0-1","2"]:List Str)=U7.map Sg:=by decide+kernel
 have:=congrArg (List.map D.str) this
 rw[Qy]at this
 exact this
theorem Zrd:∀cs∈Zez,cs.length<=5/\∀c∈cs,c<128:=by decide
theorem Zrf:∀cs∈U7,cs.length<=5/\∀c∈cs,c<128:=by decide
theorem Zlt{a b:List Nat}(h:a.length+b.length<=1000):L2.addS (.str (Sg a)) (.str (Sg b))=some (.str (Sg (a++b))):=by
 show(if(Sg a).length+(Sg b).length<=ZN then some (D.str (Sg a++Sg b)) else none)=_
 rw[YR,YR,if_pos (by unfold ZN;omega)]
 congr 2
 apply Str.ext'
 apply JY.mp
 rw[Str.cps_append,Array.toList_append,YS,YS,YS]
theorem lim10:(10<=ZN)=True:=by unfold ZN;simp
theorem lim12:(12<=ZN)=True:=by unfold ZN;simp
theorem Zgd{i j:Int}(h0:0<j)(h1:j<1073741824):XW (.int i) (.int j)=some (.int (i%j)):=by
 unfold XW
 simp[h0,h1]
theorem Zi5{i j:Int}(h0:0<j)(h1:j<1073741824):VH (.int i) (.int j)=some (.int (i/j)):=by
 unfold VH
 simp[h0,h1]
theorem Zua:∀(ws:List (List Nat)) (j:Nat) (cs:List Nat),((ws.set j cs).map (·.length)).sum<=(ws.map (·.length)).sum+cs.length:=by
 intro ws
 induction ws with
 |nil=>intro j cs;simp
 |cons w ws ih =>
  intro j cs
  cases j with
  |zero=>simp only[Tf,Qh,List.sum_cons];omega
  |succ j =>
   have:=ih j cs
   simp only[Tg,Qh,List.sum_cons];omega
def a3:FE:=f2 XW (fV 2) (f2 ZT (fL Zc1 (Za (fV 0) fN)) (fC (.int 1)))
def e10:FE:=fL XH (Za (fC (.str " ")) (Za (fC (.str "-")) (Za (fC (.str "x")) (Za (fC (.str "0")) (Za (fC (.str "1")) (Za (fC (.str "5")) (Za (fC (.str "a")) (Za (fC (.str "+")) (Za (fC (.str "_")) (Za (fC (.str "\n")) fN))))))))))
def e12:FE:=fL XH (Za (fC (.str "0-1x1")) (Za (fC (.str "0-1x5")) (Za (fC (.str "0-0")) (Za (fC (.str "1-0")) (Za (fC (.str "00-1")) (Za (fC (.str "0-1x")) (Za (fC (.str "-0")) (Za (fC (.str "--1")) (Za (fC (.str "")) (Za (fC (.str "0-1x4")) (Za (fC (.str "0-1")) (Za (fC (.str "2")) fN))))))))))))
noncomputable def k10:FE:=f2 XW (f2 VH (fV 2) (fC (.int 7))) (fC (.int 10))
noncomputable def k13:FE:=f2 XW (f2 VH (fV 2) (fC (.int 13))) (fL Zc2 (Za (fV 4) fN))
def k12:FE:=f2 XW (fV 2) (fC (.int 12))
theorem Zsx:W4=Zp (Zz 3 a3) (Zp (XB (gB (f2 WU (fV 1) (fC (.int 2)))) (ZX (f2 L2.addS (f2 L2.addS (Xk (fV 0) pN (pS (fV 3))) (f2 YC e10 k10)) (Xk (fV 0) (pS (fV 3)) pN))) XF)
 (Zp (XB (gB (f2 WU (fV 1) (fC (.int 4)))) (ZX (f2 L2.addS (Xk (fV 0) pN (pS (fV 3))) (Xk (fV 0) (pS (f2 ZT (fV 3) (fC (.int 1)))) pN))) XF)
 (Zp (Zf1 4 (Zi6 (fV 0) (fC (.str " ")))) (Zp (Zz 5 e12) (Zp (Zai 4 k13 (f2 YC (fV 5) k12)) (ZX (f2 Ve (fC (.str " ")) (fV 4)))))))):=rfl
theorem Z00(ρ:Xl):e10 ρ=some (.lst (Zez.map ZY)):=by
 rw[<- Zre]
 unfold e10
 simp only[fL,Za,fC,fN,QB,XH,Qp,QY,Nat.reduceAdd,lim10,if_true]
theorem Z0z(ρ:Xl):e12 ρ=some (.lst (U7.map ZY)):=by
 rw[<- Zrg]
 unfold e12
 simp only[fL,Za,fC,fN,QB,XH,Qp,QY,Nat.reduceAdd,lim12,if_true]
theorem Zsh{z:Str}(h:T66 z){w c:Int}:∃z',Yp [.str z,.int w,.int c]=some (.str z')/\Tx z':=by
 obtain⟨cs,rfl⟩:∃cs,z=Sg cs:=⟨z.cps.toList,(Zha z).symm⟩
 have hlow:VL cs:=by have:=h.low;rw[YS]at this;exact this
 have hlen:cs.length<=66:=by have:=h.len;rw[YR]at this;exact this
 have hl:=Zkz (cs:=cs) (by omega)
 obtain⟨k,hk,ek⟩:∃k:Nat,k<=cs.length/\c%((cs.length:Int)+1)=(k:Int):=by
  have a:=JD c (show((cs.length:Int)+1)≠0 by omega)
  have b:=Jo c (show 0<(cs.length:Int)+1 by omega)
  exact⟨(c%((cs.length:Int)+1)).toNat,by omega,by omega⟩
 have hm:XW (.int c) (.int ((cs.length:Int)+1))=some (.int k):=by rw[Zgd (by omega) (by omega),ek]
 have ha3:∀x,a3 [some (.str (Sg cs)),x,some (.int c),none,none,none]=some (.int k):=fun x=>by
  unfold a3
  simp only[f2,fV,fL,Za,fN,fC,JA,J0,Ta,QB,hl,Zm7,hm]
 have q1:=Zbp (cs:=cs) (by omega) k
 have q2:=Us (cs:=cs) (by omega) k
 have q3:Zpe (.str (Sg cs)) (some ((k:Int)+1)) none=some (.str (Sg (cs.drop (k+1)))):=Us (cs:=cs) (by omega) (k+1)
 have s1:Zz 3 a3 [some (.val (.str (Sg cs))),some (.val (.int w)),some (.val (.int c)),none,none,none]=.nx [some (.val (.str (Sg cs))),some (.val (.int w)),some (.val (.int c)),some (.val (.int k)),none,none]:=by
  simp! only[ha3]
 have st:YB 3 6 [.str (Sg cs),.int w,.int c]=[some (.val (.str (Sg cs))),some (.val (.int w)),some (.val (.int c)),none,none,none]:=rfl
 unfold Yp YZ
 rw[if_pos (show([.str (Sg cs),.int w,.int c]:List D).length=3 from rfl),st,Zsx,Yl,s1,ZW]
 by_cases hw2:w<2
 ·obtain⟨o,ho,eo⟩:=Zxb (L:=10) (ws:=Zez) rfl (by decide) (c/7)
  have hk10:∀x y v u t,k10 [x,y,some (.int c),v,u,t]=some (.int (c/7%10)):=fun x y v u t=>by
   unfold k10
   simp only[f2,fV,fC,JA,J0,Ta,QB,Zi5 (show(0:Int)<7 by decide) (by decide),Zgd (show(0:Int)<10 by decide) (by decide)]
  obtain⟨o5,olow⟩:=Zrd o ho
  have a1:=Zlt (a:=cs.take k) (b:=o) (by rw[QL];omega)
  have a2:=Zlt (a:=cs.take k++o) (b:=cs.drop k) (by rw[QI,QL,QX];omega)
  have eo':VI (Zez.map ZY) (c/7%10)=some (.str (Sg o)):=eo
  refine⟨Sg (cs.take k++o++cs.drop k),?_,?_,?_⟩
  ·simp! only[hw2,Xk,q1,q2,Z00,hk10,eo',a1,a2]
  ·rw[YS]
   intro x hx
   simp only[QE]at hx
   rcases hx with(hx|hx)|hx
   ·exact hlow x (Jy hx)
   ·exact olow x hx
   ·exact hlow x (Jz hx)
  ·rw[YR,QI,QI,QL,QX];omega
 ·by_cases hw4:w<4
  ·have a1:=Zlt (a:=cs.take k) (b:=cs.drop (k+1)) (by rw[QL,QX];omega)
   refine⟨Sg (cs.take k++cs.drop (k+1)),?_,?_,?_⟩
   ·simp! only[hw2,hw4,Xk,q1,q3,a1]
   ·rw[YS]
    intro x hx
    simp only[QE]at hx
    rcases hx with hx|hx
    ·exact hlow x (Jy hx)
    ·exact hlow x (Jz hx)
   ·rw[YR,QI,QL,QX];omega
  ·have tz:Tx (Sg cs):=⟨by rw[YS];exact hlow,by rw[YR];omega⟩
   have hs:=U1 tz
   have hn:=Zpo (Sg cs)
   have hcnt:=Vk (Sg cs)
   rw[YR]at hcnt
   have hpos:0<(wl (Sg cs)).length:=List.length_pos_iff.mpr hn
   obtain⟨o,ho,eo⟩:=Zxb (L:=12) (ws:=U7) rfl (by decide) c
   obtain⟨o5,olow⟩:=Zrf o ho
   obtain⟨j,hj,ej⟩:∃j:Nat,j<(wl (Sg cs)).length/\c/13%((wl (Sg cs)).length:Int)=(j:Int):=by
    have a:=JD (c/13) (show((wl (Sg cs)).length:Int)≠0 by omega)
    have b:=Jo (c/13) (show 0<((wl (Sg cs)).length:Int) by omega)
    exact⟨(c/13%((wl (Sg cs)).length:Int)).toNat,by omega,by omega⟩
   have hk13:∀x y v t,k13 [x,y,some (.int c),v,some (.lst ((wl (Sg cs)).map ZY)),t]=some (.int j):=fun x y v t=>by
    unfold k13
    simp only[f2,fV,fC,fL,Za,fN,JA,J0,Ta,QB,Zru,Qd,Zi5 (show(0:Int)<13 by decide) (by decide),Zgd (show(0:Int)<((wl (Sg cs)).length:Int) by omega) (by omega),ej]
   have hk12:∀x y v u t,k12 [x,y,some (.int c),v,u,t]=some (.int (c%12)):=fun x y v u t=>by
    unfold k12
    simp only[f2,fV,fC,JA,J0,Ta,QB,Zgd (show(0:Int)<12 by decide) (by decide)]
   have hix:Zr6 ((wl (Sg cs)).map ZY).length (j:Int)=some j:=by
    unfold Zr6
    rw[if_pos (by omega),if_pos (by rw[Qd];omega),QF]
   have hset:((wl (Sg cs)).map ZY).set j (ZY o)=(((wl (Sg cs)).set j o).map Sg).map .str:=by
    rw[Qy,List.map_set];rfl
   have esum:(((wl (Sg cs)).map (·.length))).sum+(wl (Sg cs)).length=cs.length+1:=by
    have:=Ziv (c:=32) (ps:=(wl (Sg cs)).map Sg) (by simpa using hn)
    rw[<- Vl,Zww,YR,Qy,Qd]at this
    have e:((fun x:Str=>x.length) ∘ Sg)=fun x:List Nat=>x.length:=by funext x;exact YR x
    rw[e]at this
    exact this.symm
   have esum2:=Zua (wl (Sg cs)) j o
   have elen:((((wl (Sg cs)).set j o).map Sg).map (·.length)).sum=(((wl (Sg cs)).set j o).map (·.length)).sum:=by
    rw[Qy]
    have e:((fun x:Str=>x.length) ∘ Sg)=fun x:List Nat=>x.length:=by funext x;exact YR x
    rw[e]
   have hj1:=Ze6 (ws:=((wl (Sg cs)).set j o).map Sg) (by rw[elen,Qd,List.length_set];omega)
   obtain⟨t1,t2⟩:=Zps (ws:=((wl (Sg cs)).set j o).map Sg) (by
    intro e
    have:=congrArg List.length e
    rw[Qd,List.length_set]at this
    exact hn (List.length_eq_zero_iff.mp this)) fun x hx=>by
     obtain⟨y,hy,rfl⟩:=QA.mp hx
     rw[YS]
     rcases List.mem_or_eq_of_mem_set hy with hy|rfl
     ·exact(tz.w hy).1
     ·exact olow
   rw[elen,Qd,List.length_set]at t2
   refine⟨tx (((wl (Sg cs)).set j o).map Sg),?_,t1,by omega⟩
   have s2:XB (gB (f2 WU (fV 1) (fC (.int 2)))) (ZX (f2 L2.addS (f2 L2.addS (Xk (fV 0) pN (pS (fV 3))) (f2 YC e10 k10)) (Xk (fV 0) (pS (fV 3)) pN))) XF [some (.val (.str (Sg cs))),some (.val (.int w)),some (.val (.int c)),some (.val (.int k)),none,none]=.nx [some (.val (.str (Sg cs))),some (.val (.int w)),some (.val (.int c)),some (.val (.int k)),none,none]:=by simp! only[hw2]
   have s3:XB (gB (f2 WU (fV 1) (fC (.int 4)))) (ZX (f2 L2.addS (Xk (fV 0) pN (pS (fV 3))) (Xk (fV 0) (pS (f2 ZT (fV 3) (fC (.int 1)))) pN))) XF [some (.val (.str (Sg cs))),some (.val (.int w)),some (.val (.int c)),some (.val (.int k)),none,none]=.nx [some (.val (.str (Sg cs))),some (.val (.int w)),some (.val (.int c)),some (.val (.int k)),none,none]:=by simp! only[hw4]
   have s4:Zf1 4 (Zi6 (fV 0) (fC (.str " "))) [some (.val (.str (Sg cs))),some (.val (.int w)),some (.val (.int c)),some (.val (.int k)),none,none]=.nx [some (.val (.str (Sg cs))),some (.val (.int w)),some (.val (.int c)),some (.val (.int k)),some (.own (.lst ((wl (Sg cs)).map ZY))),none]:=by
    simp! only[Zi6,hs,Zxh]
   have s5:Zz 5 e12 [some (.val (.str (Sg cs))),some (.val (.int w)),some (.val (.int c)),some (.val (.int k)),some (.own (.lst ((wl (Sg cs)).map ZY))),none]=.nx [some (.val (.str (Sg cs))),some (.val (.int w)),some (.val (.int c)),some (.val (.int k)),some (.own (.lst ((wl (Sg cs)).map ZY))),some (.val (.lst (U7.map ZY)))]:=by
    simp! only[Z0z]
   have s6:Zai 4 k13 (f2 YC (fV 5) k12) [some (.val (.str (Sg cs))),some (.val (.int w)),some (.val (.int c)),some (.val (.int k)),some (.own (.lst ((wl (Sg cs)).map ZY))),some (.val (.lst (U7.map ZY)))]=.nx [some (.val (.str (Sg cs))),some (.val (.int w)),some (.val (.int c)),some (.val (.int k)),some (.own (.lst ((((wl (Sg cs)).set j o).map Sg).map .str))),some (.val (.lst (U7.map ZY)))]:=by
    have im:Zvz (ZY o)=true:=rfl
    rw[<- hset]
    generalize U7.map ZY=OD at *
    generalize (wl (Sg cs)).map ZY=W at *
    have eo':VI OD (c%12)=some (ZY o):=eo
    generalize ZY o=so at *
    simp! only[Zai,hk13,hk12,eo',im,hix]
   rw[Yl,s2,ZW,Yl,s3,ZW,Yl,s4,ZW,Yl,s5,ZW,Yl,s6,ZW]
   generalize ((wl (Sg cs)).set j o).map Sg=ws at *
   generalize ws.map D.str=W at *
   simp! only[hj1]
theorem pickD{ds:List D}{L:Int}(hl:(ds.length:Int)=L)(h0:0<L)(x:Int):∃d∈ds,YC (.lst ds) (.int (x%L))=some d:=by
 have a:=JD x (show L≠0 by omega)
 have b:=Jo x h0
 have hi:(x%L).toNat<ds.length:=by omega
 exact⟨ds[(x%L).toNat],List.getElem_mem hi,by rw[Zix];exact Zay a (Qn hi)⟩
theorem pow6:Zqv (.int 10) (.int 6)=some (.int 1000000):=by
 show @ite _ _ (Classical.propDecidable _) _ _=_
 rw[if_pos ⟨by decide,by decide,by decide⟩]
 rfl
theorem Zj0{d:D}(h:Zgl "str" d=some (.bl false)):Wz [d]=some ("NoText":Str):=by
 have q:=Zb7 h
 unfold Wz
 rw[Zly]
 simp! only[Wh,Zd7,WR,xL,q]
theorem Zj1{d:D}(h:Zgl "str" d=some (.bl false)):Yq [d]=some ("NoText":Str):=by
 have q:=Zb7 h
 unfold Yq Wl
 simp! only[Wh,WR,WQ,xL,q]
theorem Zfm{d:D}{k:Int}(hk:k=0\/k=1)(h0:k=0->Wz [d]=some ("NoText":Str))(h1:k=1->Yq [d]=some ("NoText":Str)):Yo [d,.int k]=some ("NoText":Str):=by
 unfold Yo W1
 rcases hk with rfl|rfl
 ·have:=h0 rfl
  simp! only[Wh,Zd7,Zhd,WR,xL,YD,this]
 ·have:=h1 rfl
  have z:¬((1:Int)=0):=by decide
  simp! only[Wh,Zd7,Zhd,WR,xL,Y9,Znb,YD,z,this]
theorem Zsn(d:D):Yi [d,.int 0]=W2 [d]:=by
 unfold Yi Wm
 simp! only[YD]
 cases W2 [d]<;>rfl
theorem Zsm(d:D):Yi [d,.int 1]=Yz [d]:=by
 have z:¬((1:Int)=0):=by decide
 unfold Yi Wm
 simp! only[YD,z]
 cases Yz [d]<;>rfl
theorem UJ{d:D}{k:Int}(h:Yo [d,.int k]=some ("NoText":Str)):Z2 [d,.int k]=some (.bl true):=by
 have e1:L2.hits "NoText" "NoText"=true:=by decide+kernel
 have e2:L2.hits "NoText" "YardError"=true:=by decide+kernel
 have m:("NoText":Str)∈(["NoText"]:List Str):=Q8.mpr rfl
 unfold Z2 WB
 simp! only[Zqg,xL,h,m,e1,e2,Zqj,YD]
theorem Z01(l:List Bd):Zlj (l.map bD)=true:=by
 induction l with
 |nil=>rfl
 |cons b l ih=>simp only[Qh,Zlj,ih,Bool.and_true];rfl
theorem Zv9(l:List Bd):V6 (l.map bD)<=1:=by
 induction l with
 |nil=>simp[V6]
 |cons b l ih=>simp only[Qh,V6];exact Nat.max_le.mpr ⟨Qg 1,ih⟩
theorem eq_gD(g:Gr):YE (gD g) (gD g)=some (.bl true):=by
 have h1:dk (gD g)=true:=by
  show(true&&((Zlj (g.bs.map bD))&&true))=true
  rw[Z01];rfl
 have h2:UD (gD g)<=64:=by
  show max 0 (max (V6 (g.bs.map bD)+1) 0)+1<=64
  have:=Zv9 g.bs
  omega
 rw[Ur h1 h1 h2 h2];simp
theorem Zvn{z:Str}(h:Tx z){k:Int}(hk:k=0\/k=1):∃due,(k=0->Zw [.str z]=some due)/\(∃d',Zw [.str z]=some d')/\(k=1->Z3 [.str z]=some due) /\
  ((Vu due .non=some (.bl true)/\Z2 [.str z,.int k]=some (.bl true))\/(Vu due .non=some (.bl false)/\∃r,Yi [.str z,.int k]=some r/\YE r due=some (.bl true))):=by
 rcases hk with rfl|rfl
 ·rcases Zc3 h with⟨m,bs,ha,e⟩|⟨hn,e⟩
  ·refine⟨_,fun _=>e,⟨_,e⟩,fun z=>(by cases z),.inr ⟨rfl,gD ⟨m,bs⟩,?_,eq_gD _⟩⟩
   rw[Zsn];exact Zlb h ha
  ·exact⟨_,fun _=>e,⟨_,e⟩,fun z=>(by cases z),.inl ⟨rfl,UJ (Zfm (.inl rfl) (fun _=>Zna h hn) fun z=>by cases z)⟩⟩
 ·have hg:∃d',Zw [.str z]=some d':=by
   rcases Zc3 h with⟨m,bs,ha,e⟩|⟨hn,e⟩
   ·exact⟨_,e⟩
   ·exact⟨_,e⟩
  refine⟨_,fun z=>(by cases z),hg,fun _=>Zoo h,?_⟩
  have hx:=Zhl h
  cases hb:(wl z).any Zbu with
  |true =>
   rw[hb,if_pos rfl]at hx
   rw[if_pos rfl]
   exact .inl ⟨rfl,UJ (Zfm (.inr rfl) (fun z=>by cases z) fun _=>hx)⟩
  |false =>
   rw[if_neg (by decide)]
   refine .inr ⟨rfl,_,(Zsm _).trans (Zi1 h hb),?_⟩
   rw[Zov];simp
theorem g_law(ns:List Int):Ztv [.scr ns]=some (.bl true):=by
 obtain⟨g,hg,_,eG⟩:=Zsk ns (a:=0) (t:=5) (by decide) (by decide) (by decide)
 have eG':Yb [.scr ns,.int 0,.int 5]=some (gD g):=eG
 have m30:=XO ns (k:=30) (m:=7) (by decide) (by decide)
 have m31:=XO ns (k:=31) (m:=1000000) (by decide) (by decide)
 have m32:=XO ns (k:=32) (m:=2) (by decide) (by decide)
 have hk:V0 ns 32 2=0\/V0 ns 32 2=1:=by
  have a:0<=V0 ns 32 2:=Vs (by decide)
  have b:V0 ns 32 2<2:=VZ (by decide)
  omega
 have n1:=hg.n1
 have n5:=hg.n5
 obtain⟨f,bd,l20⟩:=Zsi ns (k:=20) (n:=g.n) (m:=9) (by decide) (by decide) (by omega)
 obtain⟨z0,ew,t0⟩:=Zon hg
 generalize V0 ns 30 7=w at *
 generalize V0 ns 31 1000000=c at *
 generalize V0 ns 32 2=k at *
 have lim5:(5<=ZN)=True:=by unfold ZN;simp
 have lim0:(0<=ZN)=True:=by simp
 have st:YB 1 7 [D.scr ns]=[some (.val (.scr ns)),none,none,none,none,none,none]:=rfl
 have s1:Zz 1 (fL Zk (Za (fV 0) (Za (fC (.int 30)) (Za (fC (.int 7)) fN)))) [some (.val (.scr ns)),none,none,none,none,none,none]=.nx [some (.val (.scr ns)),some (.val (.int w)),none,none,none,none,none]:=by simp! only[m30]
 have s2:Zz 2 (fL Zk (Za (fV 0) (Za (fC (.int 31)) (Za (f2 Zqv (fC (.int 10)) (fC (.int 6))) fN)))) [some (.val (.scr ns)),some (.val (.int w)),none,none,none,none,none]=.nx [some (.val (.scr ns)),some (.val (.int w)),some (.val (.int c)),none,none,none,none]:=by simp! only[pow6,m31]
 have s3:Zz 3 (fL Zk (Za (fV 0) (Za (fC (.int 32)) (Za (fC (.int 2)) fN)))) [some (.val (.scr ns)),some (.val (.int w)),some (.val (.int c)),none,none,none,none]=.nx [some (.val (.scr ns)),some (.val (.int w)),some (.val (.int c)),some (.val (.int k)),none,none,none]:=by simp! only[m32]
 have s4:Zz 4 (fL Yb (Za (fV 0) (Za (fC (.int 0)) (Za (fC (.int 5)) fN)))) [some (.val (.scr ns)),some (.val (.int w)),some (.val (.int c)),some (.val (.int k)),none,none,none]=.nx [some (.val (.scr ns)),some (.val (.int w)),some (.val (.int c)),some (.val (.int k)),some (.val (gD g)),none,none]:=by simp! only[eG']
 unfold Ztv Ztw YZ
 rw[if_pos (show([D.scr ns]:List D).length=1 from rfl),st,Yl,s1,ZW,Yl,s2,ZW,Yl,s3,ZW,Yl,s4,ZW]
 by_cases h6:w=6
 ·obtain⟨d,hd,ed⟩:=pickD (ds:=[.non,.int 1,.lst [.str "1"],.tup [.int 1,.tup []],.bl true]) (L:=5) rfl (by decide) c
  have hs:Zgl "str" d=some (.bl false):=by
   simp only[Ql,List.mem_nil_iff,or_false]at hd
   rcases hd with rfl|rfl|rfl|rfl|rfl<;>rfl
  have hr:=UJ (Zfm hk (fun _=>Zj0 hs) fun _=>Zj1 hs)
  have h5:((0:Int)<5)=True:=by simp
  simp! only[YD,h6,lim5,Zxi,Zmr,lim0,h5,ed,hr]
 ·have s5:∀F:FS,XB (gB (f2 YE (fV 1) (fC (.int 6)))) F XF [some (.val (.scr ns)),some (.val (.int w)),some (.val (.int c)),some (.val (.int k)),some (.val (gD g)),none,none]=.nx [some (.val (.scr ns)),some (.val (.int w)),some (.val (.int c)),some (.val (.int k)),some (.val (gD g)),none,none]:=fun F=>by simp! only[YD,h6]
  have s6:Zz 5 (fL Yh (Za (fV 4) fN)) [some (.val (.scr ns)),some (.val (.int w)),some (.val (.int c)),some (.val (.int k)),some (.val (gD g)),none,none]=.nx [some (.val (.scr ns)),some (.val (.int w)),some (.val (.int c)),some (.val (.int k)),some (.val (gD g)),some (.val (.str z0)),none]:=by simp! only[ew]
  have hi:ZE (fL Yk (Za (fV 0) (Za (fC (.int 20)) (Za (f2 YC (fV 4) (fC (.int 0))) (Za (fC (.int 9)) fN))))) [some (.scr ns),some (.int w),some (.int c),some (.int k),some (gD g),some (.str z0),none]=some ((Zpz g.n f).map .int):=by
   simp! only[Zsp,l20];rfl
  obtain⟨z1,e1,t1⟩:=Zn9 n1 n5 bd hi
  obtain⟨z2,e2,t2⟩:∃z2,XB (gB (f2 YE (fV 3) (fC (.int 1)))) (Zz 5 (f2 Ve (fC (.str " ")) (Z7 1 [] (ZE (fL Yk (Za (fV 0) (Za (fC (.int 20)) (Za (f2 YC (fV 4) (fC (.int 0))) (Za (fC (.int 9)) fN)))))) (gN 0) Y5 (fL Vo (Za (fV 0) fN))))) XF [some (.val (.scr ns)),some (.val (.int w)),some (.val (.int c)),some (.val (.int k)),some (.val (gD g)),some (.val (.str z0)),none]=.nx [some (.val (.scr ns)),some (.val (.int w)),some (.val (.int c)),some (.val (.int k)),some (.val (gD g)),some (.val (.str z2)),none]/\T66 z2:=by
   generalize (f2 Ve (fC (.str " ")) (Z7 1 [] (ZE (fL Yk (Za (fV 0) (Za (fC (.int 20)) (Za (f2 YC (fV 4) (fC (.int 0))) (Za (fC (.int 9)) fN)))))) (gN 0) Y5 (fL Vo (Za (fV 0) fN))))=JJ at e1 ⊢
   by_cases q:k=1
   ·subst q
    exact⟨z1,by simp! only[YD,e1],t1⟩
   ·exact⟨z0,by simp! only[YD,q],t0⟩
  obtain⟨z3,e3,t3⟩:=Zsh t2 (w:=w) (c:=c)
  obtain⟨due,d0,⟨d',dg'⟩,d1,dd⟩:=Zvn t3 hk
  have s8:Zz 5 (fL Yp (Za (fV 5) (Za (fV 1) (Za (fV 2) fN)))) [some (.val (.scr ns)),some (.val (.int w)),some (.val (.int c)),some (.val (.int k)),some (.val (gD g)),some (.val (.str z2)),none]=.nx [some (.val (.scr ns)),some (.val (.int w)),some (.val (.int c)),some (.val (.int k)),some (.val (gD g)),some (.val (.str z3)),none]:=by simp! only[e3]
  have s9:Zz 6 (fL Zw (Za (fV 5) fN)) [some (.val (.scr ns)),some (.val (.int w)),some (.val (.int c)),some (.val (.int k)),some (.val (gD g)),some (.val (.str z3)),none]=.nx [some (.val (.scr ns)),some (.val (.int w)),some (.val (.int c)),some (.val (.int k)),some (.val (gD g)),some (.val (.str z3)),some (.val d')]:=by simp! only[dg']
  have Zkg:XB (gB (f2 YE (fV 3) (fC (.int 1)))) (Zz 6 (fL Z3 (Za (fV 5) fN))) XF [some (.val (.scr ns)),some (.val (.int w)),some (.val (.int c)),some (.val (.int k)),some (.val (gD g)),some (.val (.str z3)),some (.val d')]=.nx [some (.val (.scr ns)),some (.val (.int w)),some (.val (.int c)),some (.val (.int k)),some (.val (gD g)),some (.val (.str z3)),some (.val due)]:=by
   by_cases q:k=1
   ·have:=d1 q
    simp! only[YD,q,this]
   ·have:=d0 (by omega)
    rw[dg']at this
    cases this
    simp! only[YD,q]
  rw[Yl,s5,ZW,Yl,s6,ZW,Yl,e2,ZW,Yl,s8,ZW,Yl,s9,ZW,Yl,Zkg,ZW]
  rcases dd with⟨i1,r1⟩|⟨i1,r,r1,r2⟩
  ·simp! only[i1,r1]
  ·simp! only[i1,r1,r2]
end P

namespace K18
open PySem L2 P
variable{Pr:Program}{w:World}{K:PySem.W.Frag}{mg:Str->Option Value}{base:Heap}{f:Addr}{fd:FuncData}{ad:Str->Addr}
def Zag(i:Nat):Stmt:=PySem.Challenge.pw_chipyard_k18_texts_refused.main.body.getD i (.Pass ⟨0,0,0,0⟩)
abbrev EL:List Str:=["NoText"]
abbrev Zx4:List Str:=["NoText","YardError"]
abbrev s0:Stmt:=Zag 25
theorem t0:ZK ["_law_script","_law_k"] ["_law_script","_law_k"] (Zn s0):=⟨rfl,rfl,rfl,by decide +kernel,rfl,by decide +kernel,by decide +kernel⟩
abbrev s1:Stmt:=Zag 26
theorem t1:ZK ["_law_script","_law_k","_law_many","_law_drawn"] ["_law_script","_law_k","_law_many"] (Zn s1):=⟨rfl,rfl,rfl,by decide +kernel,rfl,by decide +kernel,by decide +kernel⟩
abbrev s2:Stmt:=Zag 27
theorem t2:ZK ["_law_script","_law_at","_law_most","_law_many","_law_joins","_law_yard","_law_k","_law_one","_law_other","_law_pair"] ["_law_script","_law_at","_law_most"] (Zn s2):=⟨rfl,rfl,rfl,by decide +kernel,rfl,by decide +kernel,by decide +kernel⟩
abbrev s3:Stmt:=Zag 21
theorem t3:ZK ["text"] ["text"] (Zn s3):=⟨rfl,rfl,rfl,by decide +kernel,rfl,by decide +kernel,by decide +kernel⟩
abbrev s4:Stmt:=Zag 23
theorem t4:ZK ["word","figures"] ["word"] (Zn s4):=⟨rfl,rfl,rfl,by decide +kernel,rfl,by decide +kernel,by decide +kernel⟩
abbrev s5:Stmt:=Zag 22
theorem t5:ZK ["word","sides","yards","number"] ["word"] (Zn s5):=⟨rfl,rfl,rfl,by decide +kernel,rfl,by decide +kernel,by decide +kernel⟩
abbrev s6:Stmt:=Zag 8
theorem t6:ZK ["thing"] ["thing"] (Zn s6):=⟨rfl,rfl,rfl,by decide +kernel,rfl,by decide +kernel,by decide +kernel⟩
abbrev s7:Stmt:=Zag 9
theorem t7:ZK ["thing","least","most"] ["thing","least","most"] (Zn s7):=⟨rfl,rfl,rfl,by decide +kernel,rfl,by decide +kernel,by decide +kernel⟩
abbrev s8:Stmt:=Zag 11
theorem t8:ZK ["many","thing"] ["many","thing"] (Zn s8):=⟨rfl,rfl,rfl,by decide +kernel,rfl,by decide +kernel,by decide +kernel⟩
abbrev s9:Stmt:=Zag 13
theorem t9:ZK ["many","bundles","reached","round_number","a","b","number"] ["many","bundles"] (Zn s9):=⟨rfl,rfl,rfl,by decide +kernel,rfl,by decide +kernel,by decide +kernel⟩
abbrev Zkg:Stmt:=Zag 12
theorem t10:ZK ["bundles"] ["bundles"] (Zn Zkg):=⟨rfl,rfl,rfl,by decide +kernel,rfl,by decide +kernel,by decide +kernel⟩
abbrev s11:Stmt:=Zag 10
theorem t11:ZK ["thing","many","bundles"] ["thing"] (Zn s11):=⟨rfl,rfl,rfl,by decide +kernel,rfl,by decide +kernel,by decide +kernel⟩
abbrev s12:Stmt:=Zag 7
theorem t12:ZK ["ground"] ["ground"] (Zn s12):=⟨rfl,rfl,rfl,by decide +kernel,rfl,by decide +kernel,by decide +kernel⟩
abbrev s13:Stmt:=Zag 20
theorem t13:ZK ["a","b","number"] ["a","b","number"] (Zn s13):=⟨rfl,rfl,rfl,by decide +kernel,rfl,by decide +kernel,by decide +kernel⟩
abbrev s14:Stmt:=Zag 17
theorem t14:ZK ["ground"] ["ground"] (Zn s14):=⟨rfl,rfl,rfl,by decide +kernel,rfl,by decide +kernel,by decide +kernel⟩
abbrev s15:Stmt:=Zag 18
theorem t15:ZK ["text","words","ground"] ["text"] (Zn s15):=⟨rfl,rfl,rfl,by decide +kernel,rfl,by decide +kernel,by decide +kernel⟩
abbrev s16:Stmt:=Zag 19
theorem t16:ZK ["text"] ["text"] (Zn s16):=⟨rfl,rfl,rfl,by decide +kernel,rfl,by decide +kernel,by decide +kernel⟩
abbrev s17:Stmt:=Zag 36
theorem t17:ZK ["_law_line","_law_kind"] ["_law_line","_law_kind"] (Zn s17):=⟨rfl,rfl,rfl,by decide +kernel,rfl,by decide +kernel,by decide +kernel⟩
abbrev s18:Stmt:=Zag 37
theorem t18:ZK ["_law_line","_law_kind","_law_refused_here","e"] ["_law_line","_law_kind"] (Zn s18):=⟨rfl,rfl,rfl,by decide +kernel,rfl,by decide +kernel,by decide +kernel⟩
abbrev s19:Stmt:=Zag 34
theorem t19:ZK ["_law_ground_here","_law_words","_law_a","_law_b","_law_number"] ["_law_ground_here"] (Zn s19):=⟨rfl,rfl,rfl,by decide +kernel,rfl,by decide +kernel,by decide +kernel⟩
abbrev s20:Stmt:=Zag 28
theorem t20:ZK ["_law_script","_law_at","_law_many","_law_most"] ["_law_script","_law_at","_law_many","_law_most"] (Zn s20):=⟨rfl,rfl,rfl,by decide +kernel,rfl,by decide +kernel,by decide +kernel⟩
abbrev s21:Stmt:=Zag 35
theorem t21:ZK ["_law_line","_law_way","_law_cell","_law_at","_law_words","_law_odd"] ["_law_line","_law_way","_law_cell"] (Zn s21):=⟨rfl,rfl,rfl,by decide +kernel,rfl,by decide +kernel,by decide +kernel⟩
abbrev s22:Stmt:=Zag 29
theorem t22:ZK ["_law_word","_law_made","_law_sign","_law_at"] ["_law_word"] (Zn s22):=⟨rfl,rfl,rfl,by decide +kernel,rfl,by decide +kernel,by decide +kernel⟩
abbrev s23:Stmt:=Zag 31
theorem t23:ZK ["_law_word","_law_many","_law_at","_law_cut","_law_lines","_law_pair"] ["_law_word","_law_many"] (Zn s23):=⟨rfl,rfl,rfl,by decide +kernel,rfl,by decide +kernel,by decide +kernel⟩
abbrev s24:Stmt:=Zag 32
theorem t24:ZK ["_law_line","_law_words","_law_many","_law_joins","_law_pairs","_law_names","_law_a","_law_b"] ["_law_line"] (Zn s24):=⟨rfl,rfl,rfl,by decide +kernel,rfl,by decide +kernel,by decide +kernel⟩
abbrev s25:Stmt:=Zag 30
theorem t25:ZK ["_law_word","_law_number"] ["_law_word"] (Zn s25):=⟨rfl,rfl,rfl,by decide +kernel,rfl,by decide +kernel,by decide +kernel⟩
abbrev s26:Stmt:=Zag 33
theorem t26:ZK ["_law_line","_law_load_here"] ["_law_line"] (Zn s26):=⟨rfl,rfl,rfl,by decide +kernel,rfl,by decide +kernel,by decide +kernel⟩
abbrev Zum:Stmt:=Zag 38
theorem t27:ZK ["_law_script","_law_way","_law_cell","_law_kind","_law_ground_here","_law_line","_law_due"] ["_law_script"] (Zn Zum):=⟨rfl,rfl,rfl,by decide +kernel,rfl,by decide +kernel,by decide +kernel⟩
theorem d0(Fu:W3 K "_law_cell_at" "_law_cell_at" s0 f fd)(hm:mg "_law_cell_at"=some (.ref f))(Bt:BT mg)(Bu:BU mg) :
  Xe Pr w K mg base "_law_cell_at" 1 ["_law_script","_law_k"] Ys f fd:=by
 have nd:=t0.nd
 refine⟨ZL (k:=0) (F:=WE) Fu t0 rfl rfl rfl fun cdv A outer s H E hr=>?_,hm,Fu.kp,Fu.binds (ps:=["_law_script","_law_k"]) fun _ _ _ _ _ _ us hl=>match us,hl with|[_,_],_=>rfl⟩
 exact(Zg (Yx (ZC (WJ hr.units0) (Zb 1) (Ye Zdq Bt.len_ We (Zc (Zb 0) Zd))) (Zl (Zy (ZZ (Zb 0) (Zb 1)))) ZO)
  (Zg (Yx (ZC (Y7 hr.units) (Zb 0) (Vw Zd)) (Zl (Zy Ze)) ZO)
  (Zl (Zy (Zv ZV (Zv X4 (ZZ (Zb 0) (Zv XG (Zb 1) (Ye Zdq Bt.len_ We (Zc (Zb 0) Zd)))) Ze) (Zb 1))))))
theorem d1(Fu:W3 K "_law_mixed" "_law_mixed" s1 f fd)(hm:mg "_law_mixed"=some (.ref f))(Bt:BT mg)(Bu:BU mg)
  {f0:Addr} {e0:FuncData} (o0:Xe Pr w K mg base "_law_cell_at" 1 ["_law_script","_law_k"] Ys f0 e0) :
  Xe Pr w K mg base "_law_mixed" 2 ["_law_script","_law_k","_law_many"] Zk f fd:=by
 have nd:=t1.nd
 refine⟨ZL (k:=1) (F:=VD Ys) Fu t1 rfl rfl rfl fun cdv A outer s H E hr=>?_,hm,Fu.kp,Fu.binds (ps:=["_law_script","_law_k","_law_many"]) fun _ _ _ _ _ _ us hl=>match us,hl with|[_,_,_],_=>rfl⟩
 exact(Zg (ZH (i:=3) nd (Zv XG (Zv X4 (Zv ZV (Zv ZV (ZG o0 hr (Zc (Zb 0) (Zc (Zb 1) Zd))) (Zv X4 Ze (Zb 1))) Ze) Ze) Ze))
  (Zl (Zy (Zv XG (Zv XG (Zv ZV (Zv ZV (Zv X4 (Zb 3) (Zb 3)) (Zv X4 Ze (Zb 3))) (Zb 1)) Ze) (Zb 2)))))
theorem ng2_1:(["_law_pair","_law_joins"]:List Str).Nodup:=by decide+kernel
theorem d2(Fu:W3 K "_law_ground" "_law_ground" s2 f fd)(hm:mg "_law_ground"=some (.ref f))(Bt:BT mg)(Bu:BU mg)
  {f1:Addr} {e1:FuncData} (o1:Xe Pr w K mg base "_law_mixed" 2 ["_law_script","_law_k","_law_many"] Zk f1 e1) :
  Xe Pr w K mg base "_law_ground" 3 ["_law_script","_law_at","_law_most"] Yb f fd:=by
 have nd:=t2.nd
 refine⟨ZL (k:=2) (F:=W5 Zk) Fu t2 rfl rfl rfl fun cdv A outer s H E hr=>?_,hm,Fu.kp,Fu.binds (ps:=["_law_script","_law_at","_law_most"]) fun _ _ _ _ _ _ us hl=>match us,hl with|[_,_,_],_=>rfl⟩
 exact(Zg (ZH (i:=3) nd (Zv ZV Ze (ZG o1 hr (Zc (Zb 0) (Zc (Zb 1) (Zc (Zb 2) Zd))))))
  (Zg (Zt7 (i:=4) nd)
  (Zg (Zfv J2 rfl (Zoi Bt.range_ (Zc Ze (Zc (Zb 3) Zd))) (Yn (i:=5) nd) (Zl (Zbq (i:=4) hr.units (Wd (Zc (ZG o1 hr (Zc (Zb 0) (Zc (Zv ZV (Zb 1) (Zb 5)) (Zc (Zb 5) Zd)))) (Zc (Zb 5) Zd))) (Zv ZV Ze (Zv Zct (ZG o1 hr (Zc (Zb 0) (Zc (Zv ZV (Zv ZV (Zb 1) Ze) (Zb 5)) (Zc Ze Zd)))) Ze)))))
  (Zg (Zfv J2 rfl (Uq Bt.range_ (Zc (Zv X4 (ZG o1 hr (Zc (Zb 0) (Zc (Zv ZV (Zb 1) Ze) (Zc Ze Zd)))) (ZQ Zg1 Bt.int_ UR (Zc (Ww Zar (Zb 3) Ze) Zd))) Zd)) (Yn (i:=6) nd) (Zg (ZH (i:=7) nd (ZG o1 hr (Zc (Zb 0) (Zc (Zv ZV (Zv ZV (Zb 1) Ze) (Zv X4 Ze (Zb 6))) (Zc (Zb 3) Zd)))))
  (Zg (ZH (i:=8) nd (Zv XG (Zv ZV (Zv ZV (Zb 7) Ze) (ZG o1 hr (Zc (Zb 0) (Zc (Zv ZV (Zv ZV (Zb 1) Ze) (Zv X4 Ze (Zb 6))) (Zc (Zv Zbs (Zb 3) Ze) Zd))))) (Zb 3)))
  (Zg (ZH (i:=9) nd (Wd (Zc (Ye (Z04 rfl) Bt.min_ Z08 (Zc (Zb 7) (Zc (Zb 8) Zd))) (Zc (Ye (Z05 rfl) Bt.max_ Z09 (Zc (Zb 7) (Zc (Zb 8) Zd))) Zd))))
  (Zl (Zbq (i:=4) hr.units (Zb 9) (Zv ZV (Zv XG (Z0v hr.units (Zb 4) (Zb 9) Ze) Ze) Ze)))))))
  (Zl (Zy (Wd (Zc (Zb 3) (Zc (ZQ Wx Bt.tuple_ Y6 (Zc (Xc ["_law_pair","_law_joins"] 1 [4] (X9 (by decide)) rfl (Xo (Ye (Zo2 rfl hr.units) Bt.sorted_ Zfk (Zc (ZQ (Zth rfl) Bt.list_ Zwh (Zc (Zb 4) Zd)) Zd))) (fun _ _ _ _ _=>(Yn (i:=0) ng2_1)) (fun _ _ _ _ _=>YH) (fun _ _ _ _ _=>(Zv ZV (Zb 0) (Wd (Zc (Z0u hr.units (Zb 1) (Zb 0)) Zd))))) Zd)) Zd)))))))))
theorem d3(Fu:W3 K "words_of" "words_of" s3 f fd)(hm:mg "words_of"=some (.ref f))(Bt:BT mg)(Bu:BU mg) :
  Xe Pr w K mg base "words_of" 1 ["text"] Zo f fd:=by
 have nd:=t3.nd
 refine⟨ZL (k:=0) (F:=UT) Fu t3 rfl rfl rfl fun cdv A outer s H E hr=>?_,hm,Fu.kp,Fu.binds (ps:=["text"]) fun _ _ _ _ _ _ us hl=>match us,hl with|[_],_=>rfl⟩
 exact(Zg (Yx (Xf (Xn (X0 Zir (Zb 0) Bt.isinstance Bu.str_ Wy))) Vn ZO)
  (Zl (Zy (Zdh (Zb 0) Zu))))
theorem ng4_1:(["figure"]:List Str).Nodup:=by decide+kernel
theorem d4(Fu:W3 K "number_in" "number_in" s4 f fd)(hm:mg "number_in"=some (.ref f))(Bt:BT mg)(Bu:BU mg)
  (c_FIGURES:∃t,mg "FIGURES"=some (.str "0123456789" t))
  (c_MOST_FIGURES:∃t,mg "MOST_FIGURES"=some (.int 30 t)) :
  Xe Pr w K mg base "number_in" 1 ["word"] Zh f fd:=by
 have nd:=t4.nd
 refine⟨ZL (k:=0) (F:=Ud) Fu t4 rfl rfl rfl fun cdv A outer s H E hr=>?_,hm,Fu.kp,Fu.binds (ps:=["word"]) fun _ _ _ _ _ _ us hl=>match us,hl with|[_],_=>rfl⟩
 exact(Zg (ZH (i:=1) nd (Zi7 (Xn (Zfb (Zb 0) Zu)) (YK (Zb 0) (Yt Ze) Yu) (Zb 0)))
  (Zg (Yx (WV.tv (Xm (Xf (Zce VW VW Ze (Ye Zaf Bt.len_ We (Zc (Zb 1) Zd)) (Zac c_MOST_FIGURES))) (Xs (Xf (Xn (Ye (Zdr rfl) Bt.all_ Zdw (Zc (Xc ["figure"] 1 [] (X9 (by decide)) rfl (Zab (Zb 1)) (fun _ _ _ _ _=>(Yn (i:=0) ng4_1)) (fun _ _ _ _ _=>YH) (fun _ _ _ _ _=>(Ww Zf6 (Zb 0) (Zgt c_FIGURES)))) Zd))))))) Vn ZO)
  (Zg (Yx (WV.tv (Zfn (ZC (Y7 hr.units) (Zlh (Zb 1) Ze) Zu) (Zbn (ZC (WT hr.units) (Zb 0) Zu)))) Vn ZO)
  (Zl (Zy (ZQ Zwd Bt.int_ UR (Zc (Zb 0) Zd)))))))
theorem d5(Fu:W3 K "bundle_in" "bundle_in" s5 f fd)(hm:mg "bundle_in"=some (.ref f))(Bt:BT mg)(Bu:BU mg)
  {f4:Addr} {e4:FuncData} (o4:Xe Pr w K mg base "number_in" 1 ["word"] Zh f4 e4) :
  Xe Pr w K mg base "bundle_in" 2 ["word"] Zx f fd:=by
 have nd:=t5.nd
 refine⟨ZL (k:=1) (F:=Uh Zh) Fu t5 rfl rfl rfl fun cdv A outer s H E hr=>?_,hm,Fu.kp,Fu.binds (ps:=["word"]) fun _ _ _ _ _ _ us hl=>match us,hl with|[_],_=>rfl⟩
 exact(Zg (ZH (i:=1) nd (Zb3 (Zb 0) Zu))
  (Zg (ZH (i:=2) nd (Zb3 (ZZ (Zb 1) Ze) Zu))
  (Zg (ZH (i:=3) nd (Zi7 (Zj5 (ZZ (Zb 1) Ze)) (ZG o4 hr (Zc (ZZ (Zb 1) Ze) Zd)) Ze))
  (Zl (Zy (Wd (Zc (ZG o4 hr (Zc (ZZ (Zb 2) Ze) Zd)) (Zc (ZG o4 hr (Zc (ZZ (Zb 2) Ze) Zd)) (Zc (Zb 3) Zd)))))))))
theorem d6(Fu:W3 K "is_number" "is_number" s6 f fd)(hm:mg "is_number"=some (.ref f))(Bt:BT mg)(Bu:BU mg) :
  Xe Pr w K mg base "is_number" 1 ["thing"] YW f fd:=by
 have nd:=t6.nd
 refine⟨ZL (k:=0) (F:=Ue) Fu t6 rfl rfl rfl fun cdv A outer s H E hr=>?_,hm,Fu.kp,Fu.binds (ps:=["thing"]) fun _ _ _ _ _ _ us hl=>match us,hl with|[_],_=>rfl⟩
 exact(Zl (Zy (Zgv (X0 Zry (Zb 0) Bt.isinstance Bt.int_ UR) (Zgs (Z0s (X0 Zob (Zb 0) Bt.isinstance Bt.bool_ Zwi))))))
theorem d7(Fu:W3 K "is_number_within" "is_number_within" s7 f fd)(hm:mg "is_number_within"=some (.ref f))(Bt:BT mg)(Bu:BU mg)
  {f6:Addr} {e6:FuncData} (o6:Xe Pr w K mg base "is_number" 1 ["thing"] YW f6 e6) :
  Xe Pr w K mg base "is_number_within" 2 ["thing","least","most"] Zs f fd:=by
 have nd:=t7.nd
 refine⟨ZL (k:=1) (F:=Xu YW) Fu t7 rfl rfl rfl fun cdv A outer s H E hr=>?_,hm,Fu.kp,Fu.binds (ps:=["thing","least","most"]) fun _ _ _ _ _ _ us hl=>match us,hl with|[_,_,_],_=>rfl⟩
 exact(Zl (Zy (Zgv (ZG o6 hr (Zc (Zb 0) Zd)) (Zgs (Zs2 VW VW (Zb 1) (Zb 0) (Zb 2))))))
theorem d8(Fu:W3 K "is_bundle" "is_bundle" s8 f fd)(hm:mg "is_bundle"=some (.ref f))(Bt:BT mg)(Bu:BU mg)
  {f7:Addr} {e7:FuncData} (o7:Xe Pr w K mg base "is_number_within" 2 ["thing","least","most"] Zs f7 e7)
  (c_MOST_LINES:∃t,mg "MOST_LINES"=some (.int 4 t)) :
  Xe Pr w K mg base "is_bundle" 3 ["many","thing"] YO f fd:=by
 have nd:=t8.nd
 refine⟨ZL (k:=2) (F:=Ug Zs) Fu t8 rfl rfl rfl fun cdv A outer s H E hr=>?_,hm,Fu.kp,Fu.binds (ps:=["many","thing"]) fun _ _ _ _ _ _ us hl=>match us,hl with|[_,_],_=>rfl⟩
 exact(Zg (Yx (WV.tv (Xm (Xf (Xn (X0 UN (Zb 1) Bt.isinstance Bt.tuple_ Y6))) (Xs (ZC (WT hr.units) (Ye Zdq Bt.len_ We (Zc (Zb 1) Zd)) Ze)))) (Zl (Zy Zbb)) ZO)
  (Zg (Yx (Xf (Xn (ZG o7 hr (Zc (ZZ (Zb 1) Ze) (Zc Ze (Zc (Zv Zbs (Zb 0) Ze) Zd)))))) (Zl (Zy Zbb)) ZO)
  (Zl (Zy (Zgv (ZG o7 hr (Zc (ZZ (Zb 1) Ze) (Zc (Zv ZV (ZZ (Zb 1) Ze) Ze) (Zc (Zv Zbs (Zb 0) Ze) Zd)))) (Zgs (ZG o7 hr (Zc (ZZ (Zb 1) Ze) (Zc Ze (Zc (Zac c_MOST_LINES) Zd))))))))))
theorem d9(Fu:W3 K "is_joined" "is_joined" s9 f fd)(hm:mg "is_joined"=some (.ref f))(Bt:BT mg)(Bu:BU mg) :
  Xe Pr w K mg base "is_joined" 1 ["many","bundles"] YX f fd:=by
 have nd:=t9.nd
 refine⟨ZL (k:=0) (F:=Uf) Fu t9 rfl rfl rfl fun cdv A outer s H E hr=>?_,hm,Fu.kp,Fu.binds (ps:=["many","bundles"]) fun _ _ _ _ _ _ us hl=>match us,hl with|[_,_],_=>rfl⟩
 exact(Zg (Zt8 (i:=2) nd)
  (Zg (Zfv J2 rfl (Uq Bt.range_ (Zc (Zb 0) Zd)) (Yn (i:=3) nd) (Zl (Zfw J2 rfl (Xo (Zb 1)) (Zdb (ix:=[4,5,6]) rfl (YT (YU 4 nd) (YT (YU 5 nd) (YT (YU 6 nd) U6)))) (Zl (Yx (WV.tv (Xm (ZC (Zra hr.units) (Zb 4) (Zb 2)) (Xs (ZC (Zra hr.units) (Zb 5) (Zb 2))))) (Zg (Zbq (i:=2) hr.units (Zb 4) Zbb)
  (Zl (Zbq (i:=2) hr.units (Zb 5) Zbb))) ZO)))))
  (Zl (Zy (Ww (Y7 hr.units) (Ye Zwc Bt.len_ We (Zc (Zb 2) Zd)) (Zb 0))))))
theorem Zrj:(["one","other"]:List Str).Nodup:=by decide+kernel
theorem d10(Fu:W3 K "do_rise" "do_rise" Zkg f fd)(hm:mg "do_rise"=some (.ref f))(Bt:BT mg)(Bu:BU mg) :
  Xe Pr w K mg base "do_rise" 1 ["bundles"] Xy f fd:=by
 have nd:=t10.nd
 refine⟨ZL (k:=0) (F:=Zaz) Fu t10 rfl rfl rfl fun cdv A outer s H E hr=>?_,hm,Fu.kp,Fu.binds (ps:=["bundles"]) fun _ _ _ _ _ _ us hl=>match us,hl with|[_],_=>rfl⟩
 exact(Zl (Zy (Ye (Zdr rfl) Bt.all_ Zdw (Zc (Xc ["one","other"] 2 [] (Zxo rfl) rfl (Zz5 Bt.zip_ (Zb 0) (Wa (Zb 0) (Yt Ze) Yu)) (fun _ _ _ _ _=>(Zdb (ix:=[0,1]) rfl (YT (YU 0 Zrj) (YT (YU 1 Zrj) U6)))) (fun _ _ _ _ _=>YH) (fun _ _ _ _ _=>(Ww (WJ hr.units0) (Wa (Zb 0) Yu (Yt Ze)) (Wa (Zb 1) Yu (Yt Ze))))) Zd))))
theorem Zzo:(["bundle","many"]:List Str).Nodup:=by decide+kernel
theorem d11(Fu:W3 K "is_ground" "is_ground" s11 f fd)(hm:mg "is_ground"=some (.ref f))(Bt:BT mg)(Bu:BU mg)
  {f7:Addr} {e7:FuncData} (o7:Xe Pr w K mg base "is_number_within" 2 ["thing","least","most"] Zs f7 e7)
  {f8:Addr} {e8:FuncData} (o8:Xe Pr w K mg base "is_bundle" 3 ["many","thing"] YO f8 e8)
  {f9:Addr} {e9:FuncData} (o9:Xe Pr w K mg base "is_joined" 1 ["many","bundles"] YX f9 e9)
  {f10:Addr} {e10:FuncData} (o10:Xe Pr w K mg base "do_rise" 1 ["bundles"] Xy f10 e10)
  (c_MOST_YARDS:∃t,mg "MOST_YARDS"=some (.int 5 t)) :
  Xe Pr w K mg base "is_ground" 4 ["thing"] Zt f fd:=by
 have nd:=t11.nd
 refine⟨ZL (k:=3) (F:=Wb Zs YO YX Xy) Fu t11 rfl rfl rfl fun cdv A outer s H E hr=>?_,hm,Fu.kp,Fu.binds (ps:=["thing"]) fun _ _ _ _ _ _ us hl=>match us,hl with|[_],_=>rfl⟩
 exact(Zg (Yx (WV.tv (Xm (Xf (Xn (X0 UN (Zb 0) Bt.isinstance Bt.tuple_ Y6))) (Xs (ZC (WT hr.units) (Ye Zdq Bt.len_ We (Zc (Zb 0) Zd)) Ze)))) (Zl (Zy Zbb)) ZO)
  (Zg (ZH (i:=1) nd (ZZ (Zb 0) Ze))
  (Zg (ZH (i:=2) nd (ZZ (Zb 0) Ze))
  (Zg (Yx (WV.tv (Xm (Xf (Xn (ZG o7 hr (Zc (Zb 1) (Zc Ze (Zc (Zac c_MOST_YARDS) Zd)))))) (Xs (Xf (Xn (X0 UN (Zb 2) Bt.isinstance Bt.tuple_ Y6)))))) (Zl (Zy Zbb)) ZO)
  (Zg (Yx (Xf (Xn (Ye (Zdr rfl) Bt.all_ Zdw (Zc (Xc ["bundle","many"] 1 [1] (X9 (by decide)) rfl (Xo (Zb 2)) (fun _ _ _ _ _=>(Yn (i:=0) Zzo)) (fun _ _ _ _ _=>YH) (fun _ _ _ _ _=>(ZG o8 hr (Zc (Zb 1) (Zc (Zb 0) Zd))))) Zd)))) (Zl (Zy Zbb)) ZO)
  (Zl (Zy (Zgv (ZG o10 hr (Zc (Zb 2) Zd)) (Zgs (ZG o9 hr (Zc (Zb 1) (Zc (Zb 2) Zd))))))))))))
theorem d12(Fu:W3 K "checked" "checked" s12 f fd)(hm:mg "checked"=some (.ref f))(Bt:BT mg)(Bu:BU mg)
  {f11:Addr} {e11:FuncData} (o11:Xe Pr w K mg base "is_ground" 4 ["thing"] Zt f11 e11) :
  Xe Pr w K mg base "checked" 5 ["ground"] Xz f fd:=by
 have nd:=t12.nd
 refine⟨ZL (k:=4) (F:=Za0 Zt) Fu t12 rfl rfl rfl fun cdv A outer s H E hr=>?_,hm,Fu.kp,Fu.binds (ps:=["ground"]) fun _ _ _ _ _ _ us hl=>match us,hl with|[_],_=>rfl⟩
 exact(Zg (Yx (Xf (Xn (ZG o11 hr (Zc (Zb 0) Zd)))) Vn ZO)
  (Zl (Zy (Zb 0))))
theorem d13(Fu:W3 K "shown_bundle" "shown_bundle" s13 f fd)(hm:mg "shown_bundle"=some (.ref f))(Bt:BT mg)(Bu:BU mg) :
  Xe Pr w K mg base "shown_bundle" 1 ["a","b","number"] Yg f fd:=by
 have nd:=t13.nd
 refine⟨ZL (k:=0) (F:=Ub) Fu t13 rfl rfl rfl fun cdv A outer s H E hr=>?_,hm,Fu.kp,Fu.binds (ps:=["a","b","number"]) fun _ _ _ _ _ _ us hl=>match us,hl with|[_,_,_],_=>rfl⟩
 exact(Zl (Zy (Zi7 (ZC (Y7 hr.units) (Zb 2) Ze) (Zm0 (WN (Zdi (Zb 0)) (WN Zu (WN (Zdi (Zb 1)) Zr0)))) (Zm0 (WN (Zdi (Zb 0)) (WN Zu (WN (Zdi (Zb 1)) (WN Zu (WN (Zdi (Zb 2)) Zr0)))))))))
theorem Zkt:(["a","b","number"]:List Str).Nodup:=by decide+kernel
theorem d14(Fu:W3 K "shown" "shown" s14 f fd)(hm:mg "shown"=some (.ref f))(Bt:BT mg)(Bu:BU mg)
  {f12:Addr} {e12:FuncData} (o12:Xe Pr w K mg base "checked" 5 ["ground"] Xz f12 e12)
  {f13:Addr} {e13:FuncData} (o13:Xe Pr w K mg base "shown_bundle" 1 ["a","b","number"] Yg f13 e13) :
  Xe Pr w K mg base "shown" 6 ["ground"] YN f fd:=by
 have nd:=t14.nd
 refine⟨ZL (k:=5) (F:=Zhc Xz Yg) Fu t14 rfl rfl rfl fun cdv A outer s H E hr=>?_,hm,Fu.kp,Fu.binds (ps:=["ground"]) fun _ _ _ _ _ _ us hl=>match us,hl with|[_],_=>rfl⟩
 exact(Zg (Zt9 (ZG o12 hr (Zc (Zb 0) Zd)))
  (Zl (Zy (Zb4 Zu (Zv ZV (Vw (Zc (ZQ Wk Bu.str_ Wy (Zc (ZZ (Zb 0) Ze) Zd)) Zd)) (Xc ["a","b","number"] 3 [] (Zxo rfl) rfl (Xo (ZZ (Zb 0) Ze)) (fun _ _ _ _ _=>(Zdb (ix:=[0,1,2]) rfl (YT (YU 0 Zkt) (YT (YU 1 Zkt) (YT (YU 2 Zkt) U6))))) (fun _ _ _ _ _=>YH) (fun _ _ _ _ _=>(ZG o13 hr (Zc (Zb 0) (Zc (Zb 1) (Zc (Zb 2) Zd)))))))))))
theorem dx3(Fu:W3 K "words_of" "words_of" s3 f fd)(hm:mg "words_of"=some (.ref f))(Bt:BT mg)(Bu:BU mg)(ex:EX K mg ad EL Zx4)(ve:VE K ad EL)(z_VE:mg "ValueError"=none) :
  VM Pr w K mg base ad "words_of" 1 ["text"] ZJ f fd:=by
 have nd:=t3.nd
 refine⟨Vh (k:=0) (F:=WP) Fu t3 rfl rfl rfl fun cdv A outer s H E hr x=>?_,hm,Fu.kp,Fu.binds (ps:=["text"]) fun _ _ _ _ _ _ us hl=>match us,hl with|[_],_=>rfl⟩
 exact(Y2 (Zhk (Xf (Xn (X0 Zir (Zb 0) Bt.isinstance Bu.str_ Wy))) (Y2 (UW x (ex.ox "NoText" (by simp)))) Zb6))
theorem Zxg:(["figure"]:List Str).Nodup:=by decide+kernel
theorem dx4(Fu:W3 K "number_in" "number_in" s4 f fd)(hm:mg "number_in"=some (.ref f))(Bt:BT mg)(Bu:BU mg)(ex:EX K mg ad EL Zx4)(ve:VE K ad EL)(z_VE:mg "ValueError"=none)
  (c_FIGURES:∃t,mg "FIGURES"=some (.str "0123456789" t))
  (c_MOST_FIGURES:∃t,mg "MOST_FIGURES"=some (.int 30 t)) :
  VM Pr w K mg base ad "number_in" 1 ["word"] Zm f fd:=by
 have nd:=t4.nd
 refine⟨Vh (k:=0) (F:=Vz) Fu t4 rfl rfl rfl fun cdv A outer s H E hr x=>?_,hm,Fu.kp,Fu.binds (ps:=["word"]) fun _ _ _ _ _ _ us hl=>match us,hl with|[_],_=>rfl⟩
 exact(UV (ZH (i:=1) nd (Zi7 (Xn (Zfb (Zb 0) Zu)) (YK (Zb 0) (Yt Ze) Yu) (Zb 0))) (Zb5 (Zhk (WV.tv (Xm (Xf (Zce VW VW Ze (Ye Zaf Bt.len_ We (Zc (Zb 1) Zd)) (Zac c_MOST_FIGURES))) (Xs (Xf (Xn (Ye (Zdr rfl) Bt.all_ Zdw (Zc (Xc ["figure"] 1 [] (X9 (by decide)) rfl (Zab (Zb 1)) (fun _ _ _ _ _=>(Yn (i:=0) Zxg)) (fun _ _ _ _ _=>YH) (fun _ _ _ _ _=>(Ww Zf6 (Zb 0) (Zgt c_FIGURES)))) Zd))))))) (Y2 (UW x (ex.ox "NoText" (by simp)))) Zb6) (Yx (WV.tv (Xm (Xf (Zce VW VW Ze (Ye Zaf Bt.len_ We (Zc (Zb 1) Zd)) (Zac c_MOST_FIGURES))) (Xs (Xf (Xn (Ye (Zdr rfl) Bt.all_ Zdw (Zc (Xc ["figure"] 1 [] (X9 (by decide)) rfl (Zab (Zb 1)) (fun _ _ _ _ _=>(Yn (i:=0) Zxg)) (fun _ _ _ _ _=>YH) (fun _ _ _ _ _=>(Ww Zf6 (Zb 0) (Zgt c_FIGURES)))) Zd))))))) Vn ZO) (Y2 (Zhk (WV.tv (Zfn (ZC (Y7 hr.units) (Zlh (Zb 1) Ze) Zu) (Zbn (ZC (WT hr.units) (Zb 0) Zu)))) (Y2 (UW x (ex.ox "NoText" (by simp)))) Zb6))))
theorem dx5(Fu:W3 K "bundle_in" "bundle_in" s5 f fd)(hm:mg "bundle_in"=some (.ref f))(Bt:BT mg)(Bu:BU mg)(ex:EX K mg ad EL Zx4)(ve:VE K ad EL)(z_VE:mg "ValueError"=none)
  {f4:Addr} {e4:FuncData} (o4:Xe Pr w K mg base "number_in" 1 ["word"] Zh f4 e4) (q4:VM Pr w K mg base ad "number_in" 1 ["word"] Zm f4 e4) :
  VM Pr w K mg base ad "bundle_in" 2 ["word"] Z8 f fd:=by
 have nd:=t5.nd
 refine⟨Vh (k:=1) (F:=VA Zh Zm) Fu t5 rfl rfl rfl fun cdv A outer s H E hr x=>?_,hm,Fu.kp,Fu.binds (ps:=["word"]) fun _ _ _ _ _ _ us hl=>match us,hl with|[_],_=>rfl⟩
 exact(UV (ZH (i:=1) nd (Zb3 (Zb 0) Zu)) (UV (ZH (i:=2) nd (Zb3 (ZZ (Zb 1) Ze) Zu)) (Zb5 (Zjz (i:=3) nd (xe_if (Zj5 (ZZ (Zb 1) Ze)) (Za2 x q4 hr (Zc (ZZ (Zb 1) Ze) Zd)))) (ZH (i:=3) nd (Zi7 (Zj5 (ZZ (Zb 1) Ze)) (ZG o4 hr (Zc (ZZ (Zb 1) Ze) Zd)) Ze)) (Y2 (Zfl (Zpi (Zwv (Uj (Za2 x q4 hr (Zc (ZZ (Zb 2) Ze) Zd))) (Zl0 (ZG o4 hr (Zc (ZZ (Zb 2) Ze) Zd)) (Uj (Za2 x q4 hr (Zc (ZZ (Zb 2) Ze) Zd)))))))))))
theorem Zzd:(["word"]:List Str).Nodup:=by decide+kernel
theorem Zzc:(["word"]:List Str).Nodup:=by decide+kernel
theorem dx15(Fu:W3 K "read" "read" s15 f fd)(hm:mg "read"=some (.ref f))(Bt:BT mg)(Bu:BU mg)(ex:EX K mg ad EL Zx4)(ve:VE K ad EL)(z_VE:mg "ValueError"=none)
  {f3:Addr} {e3:FuncData} (o3:Xe Pr w K mg base "words_of" 1 ["text"] Zo f3 e3)
  {f4:Addr} {e4:FuncData} (o4:Xe Pr w K mg base "number_in" 1 ["word"] Zh f4 e4)
  {f5:Addr} {e5:FuncData} (o5:Xe Pr w K mg base "bundle_in" 2 ["word"] Zx f5 e5)
  {f14:Addr} {e14:FuncData} (o14:Xe Pr w K mg base "shown" 6 ["ground"] YN f14 e14)
  {f11:Addr} {e11:FuncData} (o11:Xe Pr w K mg base "is_ground" 4 ["thing"] Zt f11 e11) (q3:VM Pr w K mg base ad "words_of" 1 ["text"] ZJ f3 e3) (q4:VM Pr w K mg base ad "number_in" 1 ["word"] Zm f4 e4) (q5:VM Pr w K mg base ad "bundle_in" 2 ["word"] Z8 f5 e5) :
  VM Pr w K mg base ad "read" 7 ["text"] Wz f fd:=by
 have nd:=t15.nd
 refine⟨Vh (k:=6) (F:=Zg9 Zo Zh Zx YN Zt ZJ Zm Z8) Fu t15 rfl rfl rfl fun cdv A outer s H E hr x=>?_,hm,Fu.kp,Fu.binds (ps:=["text"]) fun _ _ _ _ _ _ us hl=>match us,hl with|[_],_=>rfl⟩
 exact(Zb5 (Zjz (i:=1) nd (Za2 x q3 hr (Zc (Zb 0) Zd))) (ZH (i:=1) nd (ZG o3 hr (Zc (Zb 0) Zd))) (Zb5 (Zjz (i:=2) nd (Zpi (Zwv (Uj (Za2 x q4 hr (Zc (ZZ (Zb 1) Ze) Zd))) (Zl0 (ZG o4 hr (Zc (ZZ (Zb 1) Ze) Zd)) (Uj (Zwu Bt.tuple_ Y6 (Uj (Zlz x ["word"] 1 [] (X9 (by decide)) rfl (Xo (Wa (Zb 1) (Yt Ze) Yu)) (fun _ _ _ _ _ _=>(Yn (i:=0) Zzd)) (fun _ _ _ _ _ _=>(ZG o5 hr (Zc (Zb 0) Zd))) (fun _ _ _ _ _ _ hp=>(Zpk hp q5 hr (Zc (Zb 0) Zd))))))))))) (ZH (i:=2) nd (Wd (Zc (ZG o4 hr (Zc (ZZ (Zb 1) Ze) Zd)) (Zc (ZQ Wx Bt.tuple_ Y6 (Zc (Xc ["word"] 1 [] (X9 (by decide)) rfl (Xo (Wa (Zb 1) (Yt Ze) Yu)) (fun _ _ _ _ _=>(Yn (i:=0) Zzc)) (fun _ _ _ _ _=>YH) (fun _ _ _ _ _=>(ZG o5 hr (Zc (Zb 0) Zd)))) Zd)) Zd)))) (Y2 (Zhk (WV.tv (Xm (Xf (Xn (ZG o11 hr (Zc (Zb 2) Zd)))) (Xs (ZC (WT hr.units) (ZG o14 hr (Zc (Zb 2) Zd)) (Zb 0))))) (Y2 (UW x (ex.ox "NoText" (by simp)))) Zb6))))
theorem Zzb:(["word"]:List Str).Nodup:=by decide+kernel
theorem dx16(Fu:W3 K "read_load" "read_load" s16 f fd)(hm:mg "read_load"=some (.ref f))(Bt:BT mg)(Bu:BU mg)(ex:EX K mg ad EL Zx4)(ve:VE K ad EL)(z_VE:mg "ValueError"=none)
  {f3:Addr} {e3:FuncData} (o3:Xe Pr w K mg base "words_of" 1 ["text"] Zo f3 e3)
  {f4:Addr} {e4:FuncData} (o4:Xe Pr w K mg base "number_in" 1 ["word"] Zh f4 e4) (q4:VM Pr w K mg base ad "number_in" 1 ["word"] Zm f4 e4) (q3:VM Pr w K mg base ad "words_of" 1 ["text"] ZJ f3 e3) :
  VM Pr w K mg base ad "read_load" 2 ["text"] Yq f fd:=by
 have nd:=t16.nd
 refine⟨Vh (k:=1) (F:=Wl Zo Zh Zm ZJ) Fu t16 rfl rfl rfl fun cdv A outer s H E hr x=>?_,hm,Fu.kp,Fu.binds (ps:=["text"]) fun _ _ _ _ _ _ us hl=>match us,hl with|[_],_=>rfl⟩
 exact(Y2 (Zfl (Zwu Bt.tuple_ Y6 (Uj (xe_or (Zpj ["word"] 1 [] rfl (Za2 x q3 hr (Zc (Zb 0) Zd))) (Zlz x ["word"] 1 [] (X9 (by decide)) rfl (Xo (ZG o3 hr (Zc (Zb 0) Zd))) (fun _ _ _ _ _ _=>(Yn (i:=0) Zzb)) (fun _ _ _ _ _ _=>(ZG o4 hr (Zc (Zb 0) Zd))) (fun _ _ _ _ _ _ hp=>(Zpk hp q4 hr (Zc (Zb 0) Zd)))))))))
theorem dx17(Fu:W3 K "_law_asked" "_law_asked" s17 f fd)(hm:mg "_law_asked"=some (.ref f))(Bt:BT mg)(Bu:BU mg)(ex:EX K mg ad EL Zx4)(ve:VE K ad EL)(z_VE:mg "ValueError"=none)
  {f15:Addr} {e15:FuncData} (q15:VM Pr w K mg base ad "read" 7 ["text"] Wz f15 e15)
  {f16:Addr} {e16:FuncData} (q16:VM Pr w K mg base ad "read_load" 2 ["text"] Yq f16 e16) :
  VM Pr w K mg base ad "_law_asked" 8 ["_law_line","_law_kind"] Yo f fd:=by
 have nd:=t17.nd
 refine⟨Vh (k:=7) (F:=W1 Wz Yq) Fu t17 rfl rfl rfl fun cdv A outer s H E hr x=>?_,hm,Fu.kp,Fu.binds (ps:=["_law_line","_law_kind"]) fun _ _ _ _ _ _ us hl=>match us,hl with|[_,_],_=>rfl⟩
 exact(Zb5 (Zhk (ZC (Y7 hr.units) (Zb 1) Ze) (Y2 (Zfl (Za2 x q15 hr (Zc (Zb 0) Zd)))) Zb6) (Yx (ZC (Y7 hr.units) (Zb 1) Ze) Vn ZO) (Y2 (Zfl (Za2 x q16 hr (Zc (Zb 0) Zd)))))
theorem d18(Fu:W3 K "_law_refused" "_law_refused" s18 f fd)(hm:mg "_law_refused"=some (.ref f))(Bt:BT mg)(Bu:BU mg)(ex:EX K mg ad EL Zx4)(ve:VE K ad EL)(z_VE:mg "ValueError"=none)
  {f17:Addr} {e17:FuncData} (q17:VM Pr w K mg base ad "_law_asked" 8 ["_law_line","_law_kind"] Yo f17 e17) :
  Xe Pr w K mg base "_law_refused" 9 ["_law_line","_law_kind"] Z2 f fd:=by
 have nd:=t18.nd
 refine⟨ZL (k:=8) (F:=WB Yo) Fu t18 rfl rfl rfl fun cdv A outer s H E hr=>?_,hm,Fu.kp,Fu.binds (ps:=["_law_line","_law_kind"]) fun _ _ _ _ _ _ us hl=>match us,hl with|[_,_],_=>rfl⟩
 exact(Zg (ZH (i:=2) nd Ze)
  (Zg (Zp6 q17 hr (fun _=>(Zc (Zb 0) (Zc (Zb 1) Zd))) (Z0d ex (fun _=>(Zl (ZH (i:=2) nd (Zv ZV (Zb 2) Ze)))) Zsd))
  (Zg (Zp6 q17 hr (fun _=>(Zc (Zb 0) (Zc (Zb 1) Zd))) (Z0e (i:=3) (j:=2) ex ve nd Bt.isinstance z_VE Bt.int_ Zsd))
  (Zl (Zy (Ww (Y7 hr.units) (Zb 2) Ze))))))
theorem d19(Fu:W3 K "_law_written" "_law_written" s19 f fd)(hm:mg "_law_written"=some (.ref f))(Bt:BT mg)(Bu:BU mg) :
  Xe Pr w K mg base "_law_written" 1 ["_law_ground_here"] Yh f fd:=by
 have nd:=t19.nd
 refine⟨ZL (k:=0) (F:=WA) Fu t19 rfl rfl rfl fun cdv A outer s H E hr=>?_,hm,Fu.kp,Fu.binds (ps:=["_law_ground_here"]) fun _ _ _ _ _ _ us hl=>match us,hl with|[_],_=>rfl⟩
 exact(Zg (Zp8 (i:=1) nd (Zv5 (Zc (ZQ Wk Bu.str_ Wy (Zc (ZZ (Zb 0) Ze) Zd)) Zd)))
  (Zg (Zfw J2 rfl (Xo (ZZ (Zb 0) Ze)) (Zdb (ix:=[2,3,4]) rfl (YT (YU 2 nd) (YT (YU 3 nd) (YT (YU 4 nd) U6)))) (Zl (Zym (i:=1) (Zv Xi (Zv Xi (Zv Xi (ZQ Wk Bu.str_ Wy (Zc (Zb 2) Zd)) Zu) (ZQ Wk Bu.str_ Wy (Zc (Zb 3) Zd))) (ZZ (Vw (Zc Zu (Zc (Zv Xi Zu (ZQ Wk Bu.str_ Wy (Zc (Zb 4) Zd))) Zd))) (ZQ Zg1 Bt.int_ UR (Zc (Ww Zar (Zb 4) Ze) Zd)))) (h1:=Z1a (i:=1) (Zv Xi (Zv Xi (Zv Xi (ZQ Wk Bu.str_ Wy (Zc (Zb 2) Zd)) Zu) (ZQ Wk Bu.str_ Wy (Zc (Zb 3) Zd))) (ZZ (Vw (Zc Zu (Zc (Zv Xi Zu (ZQ Wk Bu.str_ Wy (Zc (Zb 4) Zd))) Zd))) (ZQ Zg1 Bt.int_ UR (Zc (Ww Zar (Zb 4) Ze) Zd))))))))
  (Zl (Zy (Zb4 Zu (Zb 1))))))
theorem Zzl:(["_law_yard","_law_script","_law_at","_law_most"]:List Str).Nodup:=by decide+kernel
theorem d20(Fu:W3 K "_law_load" "_law_load" s20 f fd)(hm:mg "_law_load"=some (.ref f))(Bt:BT mg)(Bu:BU mg)
  {f1:Addr} {e1:FuncData} (o1:Xe Pr w K mg base "_law_mixed" 2 ["_law_script","_law_k","_law_many"] Zk f1 e1) :
  Xe Pr w K mg base "_law_load" 3 ["_law_script","_law_at","_law_many","_law_most"] Yk f fd:=by
 have nd:=t20.nd
 refine⟨ZL (k:=2) (F:=Ui Zk) Fu t20 rfl rfl rfl fun cdv A outer s H E hr=>?_,hm,Fu.kp,Fu.binds (ps:=["_law_script","_law_at","_law_many","_law_most"]) fun _ _ _ _ _ _ us hl=>match us,hl with|[_,_,_,_],_=>rfl⟩
 exact(Zl (Zy (ZQ Wx Bt.tuple_ Y6 (Zc (Xc ["_law_yard","_law_script","_law_at","_law_most"] 1 [0,1,3] (X9 (by decide)) rfl (Z1i.iv (Uq Bt.range_ (Zc (Zb 2) Zd))) (fun _ _ _ _ _=>(Yn (i:=0) Zzl)) (fun _ _ _ _ _=>YH) (fun _ _ _ _ _=>(Zv Zbs (ZG o1 hr (Zc (Zb 1) (Zc (Zv ZV (Zb 2) (Zb 0)) (Zc (Zv ZV (Zv X4 Ze (Zb 3)) Ze) Zd)))) (Zb 3)))) Zd))))
theorem d21(Fu:W3 K "_law_spoilt" "_law_spoilt" s21 f fd)(hm:mg "_law_spoilt"=some (.ref f))(Bt:BT mg)(Bu:BU mg) :
  Xe Pr w K mg base "_law_spoilt" 1 ["_law_line","_law_way","_law_cell"] Yp f fd:=by
 have nd:=t21.nd
 refine⟨ZL (k:=0) (F:=W4) Fu t21 rfl rfl rfl fun cdv A outer s H E hr=>?_,hm,Fu.kp,Fu.binds (ps:=["_law_line","_law_way","_law_cell"]) fun _ _ _ _ _ _ us hl=>match us,hl with|[_,_,_],_=>rfl⟩
 refine Zg (ZH (i := 3) nd (Zv XG (Zb 2) (Zv ZV (Ye Zaf Bt.len_ We (Zc (Zb 0) Zd)) Ze))) ?_
 refine Zg ?_ ?_
 ·refine Yx (ZC (WJ hr.units0) (Zb 1) Ze) ?_ ZO
  refine Zl ?_
  refine Zy ?_
  refine Zv Xi ?_ ?_
  ·refine Zv Xi ?_ ?_
   ·exact YK (Zb 0) Yu (Yt (Zb 3))
   ·with_reducible refine ZZ ?_ ?_ ?_
    ·with_reducible refine Vw ?_
     (with_reducible refine Zc Zu ?_ ?_); rotate_left; · rfl
     (with_reducible refine Zc Zu ?_ ?_); rotate_left; · rfl
     (with_reducible refine Zc Zu ?_ ?_); rotate_left; · rfl
     (with_reducible refine Zc Zu ?_ ?_); rotate_left; · rfl
     (with_reducible refine Zc Zu ?_ ?_); rotate_left; · rfl
     (with_reducible refine Zc Zu ?_ ?_); rotate_left; · rfl
     (with_reducible refine Zc Zu ?_ ?_); rotate_left; · rfl
     (with_reducible refine Zc Zu ?_ ?_); rotate_left; · rfl
     (with_reducible refine Zc Zu ?_ ?_); rotate_left; · rfl
     (with_reducible refine Zc Zu ?_ ?_); rotate_left; · rfl
     with_reducible exact Zd
    ·exact Zv XG (Zv Zct (Zb 2) Ze) Ze
    ·exact fun _ _ => rfl
  ·exact YK (Zb 0) (Yt (Zb 3)) Yu
 refine Zg (Yx (ZC (WJ hr.units0) (Zb 1) Ze) (Zl (Zy (Zv Xi (YK (Zb 0) Yu (Yt (Zb 3))) (YK (Zb 0) (Yt (Zv ZV (Zb 3) Ze)) Yu)))) ZO) ?_
 refine Zg (Zp8 (i := 4) nd (Zot (Zb 0) Zu)) ?_
 refine Zg ?_ ?_
 ·refine ZH (i := 5) ?_ ?_ ?_ ?_ ?_ ?_
  ·exact nd
  ·with_reducible refine Vw ?_
   (with_reducible refine Zc Zu ?_ ?_); rotate_left; · rfl
   (with_reducible refine Zc Zu ?_ ?_); rotate_left; · rfl
   (with_reducible refine Zc Zu ?_ ?_); rotate_left; · rfl
   (with_reducible refine Zc Zu ?_ ?_); rotate_left; · rfl
   (with_reducible refine Zc Zu ?_ ?_); rotate_left; · rfl
   (with_reducible refine Zc Zu ?_ ?_); rotate_left; · rfl
   (with_reducible refine Zc Zu ?_ ?_); rotate_left; · rfl
   (with_reducible refine Zc Zu ?_ ?_); rotate_left; · rfl
   (with_reducible refine Zc Zu ?_ ?_); rotate_left; · rfl
   (with_reducible refine Zc Zu ?_ ?_); rotate_left; · rfl
   (with_reducible refine Zc Zu ?_ ?_); rotate_left; · rfl
   (with_reducible refine Zc Zu ?_ ?_); rotate_left; · rfl
   with_reducible exact Zd
  ·rfl
  ·first | exact Or.inl rfl | exact Or.inr rfl
  ·rfl
  ·first | exact .inl rfl | exact .inr rfl
 refine Zg (Zp7 (i := 4) (Zv XG (Zv Zct (Zb 2) Ze) (Ye Zdq Bt.len_ We (Zc (Zb 4) Zd))) (ZZ (Zb 5) (Zv XG (Zb 2) Ze))) ?_
 exact Zl (Zy (Zb4 Zu (Zb 4)))
theorem d22(Fu:W3 K "_law_number_of" "_law_number_of" s22 f fd)(hm:mg "_law_number_of"=some (.ref f))(Bt:BT mg)(Bu:BU mg) :
  Xe Pr w K mg base "_law_number_of" 1 ["_law_word"] Zj f fd:=by
 have nd:=t22.nd
 refine⟨ZL (k:=0) (F:=X2) Fu t22 rfl rfl rfl fun cdv A outer s H E hr=>?_,hm,Fu.kp,Fu.binds (ps:=["_law_word"]) fun _ _ _ _ _ _ us hl=>match us,hl with|[_],_=>rfl⟩
 exact(Zg (Yx (WV.tv (Xm (ZC (Y7 hr.units) (Zb 0) Zu) (Xm (ZC Zar (Ye Zaf Bt.len_ We (Zc (Zb 0) Zd)) Ze) (Xs (WV.tv (Zfn (ZC (Y7 hr.units) (Zlh (Zb 0) Ze) Zu) (Zbn (ZC (WT hr.units) (Zb 0) Zu)))))))) (Zl (Zy Y8)) ZO)
  (Zg (ZH (i:=1) nd Ze)
  (Zg (Zfw J2 rfl (Zab (Zb 0)) (Yn (i:=2) nd) (Zg (ZH (i:=3) nd (Zgu Zu (Zb 2)))
  (Zg (Yx (ZC (WJ hr.units0) (Zb 3) Ze) (Zl (Zy Y8)) ZO)
  (Zl (ZH (i:=1) nd (Zv ZV (Zv X4 Ze (Zb 1)) (Zb 3)))))))
  (Zl (Zy (Zb 1))))))
theorem d23(Fu:W3 K "_law_join_of" "_law_join_of" s23 f fd)(hm:mg "_law_join_of"=some (.ref f))(Bt:BT mg)(Bu:BU mg)
  {f22:Addr} {e22:FuncData} (o22:Xe Pr w K mg base "_law_number_of" 1 ["_law_word"] Zj f22 e22) :
  Xe Pr w K mg base "_law_join_of" 2 ["_law_word","_law_many"] Z4 f fd:=by
 have nd:=t23.nd
 refine⟨ZL (k:=1) (F:=WD Zj) Fu t23 rfl rfl rfl fun cdv A outer s H E hr=>?_,hm,Fu.kp,Fu.binds (ps:=["_law_word","_law_many"]) fun _ _ _ _ _ _ us hl=>match us,hl with|[_,_],_=>rfl⟩
 exact(Zg (ZH (i:=2) nd (Zgu (Zb 0) Zu))
  (Zg (ZH (i:=3) nd (Zgu (Zb 0) Zu))
  (Zg (ZH (i:=4) nd Ze)
  (Zg (Yx (ZC Zf7 (Zb 3) Ze) (Zg (ZH (i:=4) nd (ZG o22 hr (Zc (YK (Zb 0) (Yt (Zv ZV (Zb 3) Ze)) Yu) Zd)))
  (Zl (ZH (i:=0) nd (YK (Zb 0) Yu (Yt (Zb 3)))))) ZO)
  (Zg (Yx (WV.tv (Xm (ZC (WJ hr.units0) (Zb 2) Ze) (Xm (ZC Zaq (Zb 4) Y8) (Xm (WV.tv (Zfn (ZC (Y7 hr.units) (Zb 4) Ze) (Zbn (ZC Zf7 (Zb 3) Ze)))) (Xm (ZC (WJ hr.units0) (Zb 4) Ze) (Xs (ZC Zar (Zb 4) Ze))))))) (Zl (Zy Y8)) ZO)
  (Zg (ZH (i:=5) nd (Wd (Zc (ZG o22 hr (Zc (YK (Zb 0) Yu (Yt (Zb 2))) Zd)) (Zc (ZG o22 hr (Zc (YK (Zb 0) (Yt (Zv ZV (Zb 2) Ze)) Yu) Zd)) Zd))))
  (Zg (Yx (WV.tv (Xm (ZC Zaq (ZZ (Zb 5) Ze) Y8) (Xm (ZC Zaq (ZZ (Zb 5) Ze) Y8) (Xm (ZC Zf7 (ZZ (Zb 5) Ze) (ZZ (Zb 5) Ze)) (Xs (ZC Zf7 (ZZ (Zb 5) Ze) (Zb 1))))))) (Zl (Zy Y8)) ZO)
  (Zl (Zy (Zv Zrb (Zb 5) (Wd (Zc (Zb 4) Zd))))))))))))
theorem Zzk:(["_law_word","_law_many"]:List Str).Nodup:=by decide+kernel
theorem Zzj:(["_law_join"]:List Str).Nodup:=by decide+kernel
theorem Zzi:(["_law_yard"]:List Str).Nodup:=by decide+kernel
theorem Zzh:(["_law_name","_law_names","_law_a","_law_b"]:List Str).Nodup:=by decide+kernel
theorem d24(Fu:W3 K "_law_ground_of" "_law_ground_of" s24 f fd)(hm:mg "_law_ground_of"=some (.ref f))(Bt:BT mg)(Bu:BU mg)
  {f22:Addr} {e22:FuncData} (o22:Xe Pr w K mg base "_law_number_of" 1 ["_law_word"] Zj f22 e22)
  {f23:Addr} {e23:FuncData} (o23:Xe Pr w K mg base "_law_join_of" 2 ["_law_word","_law_many"] Z4 f23 e23) :
  Xe Pr w K mg base "_law_ground_of" 3 ["_law_line"] Zw f fd:=by
 have nd:=t24.nd
 refine⟨ZL (k:=2) (F:=X3 Zj Z4) Fu t24 rfl rfl rfl fun cdv A outer s H E hr=>?_,hm,Fu.kp,Fu.binds (ps:=["_law_line"]) fun _ _ _ _ _ _ us hl=>match us,hl with|[_],_=>rfl⟩
 exact(Zg (ZH (i:=1) nd (Zdh (Zb 0) Zu))
  (Zg (ZH (i:=2) nd (ZG o22 hr (Zc (ZZ (Zb 1) Ze) Zd)))
  (Zg (Yx (WV.tv (Xm (ZC Zaq (Zb 2) Y8) (Xm (ZC (WJ hr.units0) (Zb 2) Ze) (Xs (ZC Zar (Zb 2) Ze))))) (Zl (Zy Y8)) ZO)
  (Zg (Zfu (i:=3) ["_law_word","_law_many"] 1 [2] (X9 (by decide)) nd rfl (Xo (Wa (Zb 1) (Yt Ze) Yu)) (fun _ _ _ _ _=>(Yn (i:=0) Zzk)) (fun _ _ _ _ _=>YH) (fun _ _ _ _ _=>(ZG o23 hr (Zc (Zb 0) (Zc (Zb 1) Zd)))))
  (Zg (Yx (ZC (Zmk hr.units) Y8 (Zb 3)) (Zl (Zy Y8)) ZO)
  (Zg (Zfu (i:=4) ["_law_join"] 1 [] (X9 (by decide)) nd rfl (Xo (Zb 3)) (fun _ _ _ _ _=>(Yn (i:=0) Zzj)) (fun _ _ _ _ _=>YH) (fun _ _ _ _ _=>(Wa (Zb 0) Yu (Yt Ze))))
  (Zg (ZH (i:=5) nd (Xc ["_law_yard"] 1 [] (X9 (by decide)) rfl (Z1i.iv (Uq Bt.range_ (Zc (Zb 2) Zd))) (fun _ _ _ _ _=>(Yn (i:=0) Zzi)) (fun _ _ _ _ _=>YH) (fun _ _ _ _ _=>(Zb 0))))
  (Zg (Zfw J2 rfl (Xo (Zb 4)) (Zdb (ix:=[6,7]) rfl (YT (YU 6 nd) (YT (YU 7 nd) U6))) (Zl (ZH (i:=5) nd (Xc ["_law_name","_law_names","_law_a","_law_b"] 1 [5,6,7] (X9 (by decide)) rfl (Xo (Zb 5)) (fun _ _ _ _ _=>(Yn (i:=0) Zzh)) (fun _ _ _ _ _=>YH) (fun _ _ _ _ _=>(ZZ (Vw (Zc (Zb 0) (Zc (ZZ (Zb 1) (Zb 2)) Zd))) (ZQ Zg1 Bt.int_ UR (Zc (Ww (Y7 hr.units) (Zb 0) (ZZ (Zb 1) (Zb 3))) Zd))))))))
  (Zg (Yx (WV.tv (Xm (ZC (WT hr.units) (Zb 4) (Zlg (Zb 4) rfl hr.units Bt.sorted_ Bt.set_)) (Xs (ZC (WT hr.units) (Zou (Zb 5) rfl hr.units Bt.len_ Bt.set_) Ze)))) (Zl (Zy Y8)) ZO)
  (Zl (Zy (Wd (Zc (Zb 2) (Zc (ZQ Wx Bt.tuple_ Y6 (Zc (Zb 3) Zd)) Zd))))))))))))))
theorem d25(Fu:W3 K "_law_chips_of" "_law_chips_of" s25 f fd)(hm:mg "_law_chips_of"=some (.ref f))(Bt:BT mg)(Bu:BU mg)
  {f22:Addr} {e22:FuncData} (o22:Xe Pr w K mg base "_law_number_of" 1 ["_law_word"] Zj f22 e22) :
  Xe Pr w K mg base "_law_chips_of" 2 ["_law_word"] Z6 f fd:=by
 have nd:=t25.nd
 refine⟨ZL (k:=1) (F:=Wf Zj) Fu t25 rfl rfl rfl fun cdv A outer s H E hr=>?_,hm,Fu.kp,Fu.binds (ps:=["_law_word"]) fun _ _ _ _ _ _ us hl=>match us,hl with|[_],_=>rfl⟩
 exact(Zg (Yx (ZC (WT hr.units) (YK (Zb 0) Yu (Yt Ze)) Zu) (Zl (Zy (ZG o22 hr (Zc (Zb 0) Zd)))) ZO)
  (Zg (ZH (i:=1) nd (ZG o22 hr (Zc (YK (Zb 0) (Yt Ze) Yu) Zd)))
  (Zg (Yx (WV.tv (Xm (ZC Zaq (Zb 1) Y8) (Xs (ZC (Y7 hr.units) (Zb 1) Ze)))) (Zl (Zy Y8)) ZO)
  (Zl (Zy (Z0t Zx6 (Zb 1)))))))
theorem Zzg:(["_law_word"]:List Str).Nodup:=by decide+kernel
theorem d26(Fu:W3 K "_law_load_of" "_law_load_of" s26 f fd)(hm:mg "_law_load_of"=some (.ref f))(Bt:BT mg)(Bu:BU mg)
  {f25:Addr} {e25:FuncData} (o25:Xe Pr w K mg base "_law_chips_of" 2 ["_law_word"] Z6 f25 e25) :
  Xe Pr w K mg base "_law_load_of" 3 ["_law_line"] Z3 f fd:=by
 have nd:=t26.nd
 refine⟨ZL (k:=2) (F:=WC Z6) Fu t26 rfl rfl rfl fun cdv A outer s H E hr=>?_,hm,Fu.kp,Fu.binds (ps:=["_law_line"]) fun _ _ _ _ _ _ us hl=>match us,hl with|[_],_=>rfl⟩
 exact(Zg (Zfu (i:=1) ["_law_word"] 1 [] (X9 (by decide)) nd rfl (Xo (Zdh (Zb 0) Zu)) (fun _ _ _ _ _=>(Yn (i:=0) Zzg)) (fun _ _ _ _ _=>YH) (fun _ _ _ _ _=>(ZG o25 hr (Zc (Zb 0) Zd))))
  (Zg (Yx (ZC (Zmk hr.units) Y8 (Zb 1)) (Zl (Zy Y8)) ZO)
  (Zl (Zy (ZQ Wx Bt.tuple_ Y6 (Zc (Zb 1) Zd))))))
theorem Zzn:(["word"]:List Str).Nodup:=by decide+kernel
theorem d15(Fu:W3 K "read" "read" s15 f fd)(hm:mg "read"=some (.ref f))(Bt:BT mg)(Bu:BU mg)
  {f3:Addr} {e3:FuncData} (o3:Xe Pr w K mg base "words_of" 1 ["text"] Zo f3 e3)
  {f5:Addr} {e5:FuncData} (o5:Xe Pr w K mg base "bundle_in" 2 ["word"] Zx f5 e5)
  {f4:Addr} {e4:FuncData} (o4:Xe Pr w K mg base "number_in" 1 ["word"] Zh f4 e4)
  {f14:Addr} {e14:FuncData} (o14:Xe Pr w K mg base "shown" 6 ["ground"] YN f14 e14)
  {f11:Addr} {e11:FuncData} (o11:Xe Pr w K mg base "is_ground" 4 ["thing"] Zt f11 e11) :
  Xe Pr w K mg base "read" 7 ["text"] W2 f fd:=by
 have nd:=t15.nd
 refine⟨ZL (k:=6) (F:=Zlv Zo Zx Zh YN Zt) Fu t15 rfl rfl rfl fun cdv A outer s H E hr=>?_,hm,Fu.kp,Fu.binds (ps:=["text"]) fun _ _ _ _ _ _ us hl=>match us,hl with|[_],_=>rfl⟩
 exact(Zg (ZH (i:=1) nd (ZG o3 hr (Zc (Zb 0) Zd)))
  (Zg (ZH (i:=2) nd (Wd (Zc (ZG o4 hr (Zc (ZZ (Zb 1) Ze) Zd)) (Zc (ZQ Wx Bt.tuple_ Y6 (Zc (Xc ["word"] 1 [] (X9 (by decide)) rfl (Xo (Wa (Zb 1) (Yt Ze) Yu)) (fun _ _ _ _ _=>(Yn (i:=0) Zzn)) (fun _ _ _ _ _=>YH) (fun _ _ _ _ _=>(ZG o5 hr (Zc (Zb 0) Zd)))) Zd)) Zd))))
  (Zg (Yx (WV.tv (Xm (Xf (Xn (ZG o11 hr (Zc (Zb 2) Zd)))) (Xs (ZC (WT hr.units) (ZG o14 hr (Zc (Zb 2) Zd)) (Zb 0))))) Vn ZO)
  (Zl (Zy (Zb 2))))))
theorem Zzm:(["word"]:List Str).Nodup:=by decide+kernel
theorem d16(Fu:W3 K "read_load" "read_load" s16 f fd)(hm:mg "read_load"=some (.ref f))(Bt:BT mg)(Bu:BU mg)
  {f3:Addr} {e3:FuncData} (o3:Xe Pr w K mg base "words_of" 1 ["text"] Zo f3 e3)
  {f4:Addr} {e4:FuncData} (o4:Xe Pr w K mg base "number_in" 1 ["word"] Zh f4 e4) :
  Xe Pr w K mg base "read_load" 2 ["text"] Yz f fd:=by
 have nd:=t16.nd
 refine⟨ZL (k:=1) (F:=Uc Zo Zh) Fu t16 rfl rfl rfl fun cdv A outer s H E hr=>?_,hm,Fu.kp,Fu.binds (ps:=["text"]) fun _ _ _ _ _ _ us hl=>match us,hl with|[_],_=>rfl⟩
 exact(Zl (Zy (ZQ Wx Bt.tuple_ Y6 (Zc (Xc ["word"] 1 [] (X9 (by decide)) rfl (Xo (ZG o3 hr (Zc (Zb 0) Zd))) (fun _ _ _ _ _=>(Yn (i:=0) Zzm)) (fun _ _ _ _ _=>YH) (fun _ _ _ _ _=>(ZG o4 hr (Zc (Zb 0) Zd)))) Zd))))
theorem d17(Fu:W3 K "_law_asked" "_law_asked" s17 f fd)(hm:mg "_law_asked"=some (.ref f))(Bt:BT mg)(Bu:BU mg)
  {f15:Addr} {e15:FuncData} (o15:Xe Pr w K mg base "read" 7 ["text"] W2 f15 e15)
  {f16:Addr} {e16:FuncData} (o16:Xe Pr w K mg base "read_load" 2 ["text"] Yz f16 e16) :
  Xe Pr w K mg base "_law_asked" 8 ["_law_line","_law_kind"] Yi f fd:=by
 have nd:=t17.nd
 refine⟨ZL (k:=7) (F:=Wm W2 Yz) Fu t17 rfl rfl rfl fun cdv A outer s H E hr=>?_,hm,Fu.kp,Fu.binds (ps:=["_law_line","_law_kind"]) fun _ _ _ _ _ _ us hl=>match us,hl with|[_,_],_=>rfl⟩
 exact(Zg (Yx (ZC (Y7 hr.units) (Zb 1) Ze) (Zl (Zy (ZG o15 hr (Zc (Zb 0) Zd)))) ZO)
  (Zl (Zy (ZG o16 hr (Zc (Zb 0) Zd)))))
theorem Zzf:(["_law_number"]:List Str).Nodup:=by decide+kernel
theorem d27(Fu:W3 K "law" "law" Zum f fd)(hm:mg "law"=some (.ref f))(Bt:BT mg)(Bu:BU mg)
  {f1:Addr} {e1:FuncData} (o1:Xe Pr w K mg base "_law_mixed" 2 ["_law_script","_law_k","_law_many"] Zk f1 e1)
  {f2:Addr} {e2:FuncData} (o2:Xe Pr w K mg base "_law_ground" 3 ["_law_script","_law_at","_law_most"] Yb f2 e2)
  {f18:Addr} {e18:FuncData} (o18:Xe Pr w K mg base "_law_refused" 9 ["_law_line","_law_kind"] Z2 f18 e18)
  {f19:Addr} {e19:FuncData} (o19:Xe Pr w K mg base "_law_written" 1 ["_law_ground_here"] Yh f19 e19)
  {f20:Addr} {e20:FuncData} (o20:Xe Pr w K mg base "_law_load" 3 ["_law_script","_law_at","_law_many","_law_most"] Yk f20 e20)
  {f21:Addr} {e21:FuncData} (o21:Xe Pr w K mg base "_law_spoilt" 1 ["_law_line","_law_way","_law_cell"] Yp f21 e21)
  {f24:Addr} {e24:FuncData} (o24:Xe Pr w K mg base "_law_ground_of" 3 ["_law_line"] Zw f24 e24)
  {f26:Addr} {e26:FuncData} (o26:Xe Pr w K mg base "_law_load_of" 3 ["_law_line"] Z3 f26 e26)
  {f17:Addr} {e17:FuncData} (o17:Xe Pr w K mg base "_law_asked" 8 ["_law_line","_law_kind"] Yi f17 e17) :
  Xe Pr w K mg base "law" 10 ["_law_script"] Ztv f fd:=by
 have nd:=t27.nd
 refine⟨ZL (k:=9) (F:=Ztw Zk Yb Z2 Yh Yk Yp Zw Z3 Yi) Fu t27 rfl rfl rfl fun cdv A outer s H E hr=>?_,hm,Fu.kp,Fu.binds (ps:=["_law_script"]) fun _ _ _ _ _ _ us hl=>match us,hl with|[_],_=>rfl⟩
 exact(Zg (ZH (i:=1) nd (ZG o1 hr (Zc (Zb 0) (Zc Ze (Zc Ze Zd)))))
  (Zg (ZH (i:=2) nd (ZG o1 hr (Zc (Zb 0) (Zc Ze (Zc (Zv Zu9 Ze Ze) Zd)))))
  (Zg (ZH (i:=3) nd (ZG o1 hr (Zc (Zb 0) (Zc Ze (Zc Ze Zd)))))
  (Zg (ZH (i:=4) nd (ZG o2 hr (Zc (Zb 0) (Zc Ze (Zc Ze Zd)))))
  (Zg (Yx (ZC (Y7 hr.units) (Zb 1) Ze) (Zl (Zy (ZG o18 hr (Zc (ZZ (Vw (Zc Y8 (Zc Ze (Zc (Vw (Zc Zu Zd)) (Zc (Wd (Zc Ze (Zc (Wd Zd) Zd))) (Zc Zbb Zd)))))) (Zv XG (Zb 2) Ze)) (Zc (Zb 3) Zd))))) ZO)
  (Zg (ZH (i:=5) nd (ZG o19 hr (Zc (Zb 4) Zd)))
  (Zg (Yx (ZC (Y7 hr.units) (Zb 3) Ze) (Zl (ZH (i:=5) nd (Zb4 Zu (Xc ["_law_number"] 1 [] (X9 (by decide)) rfl (Xo (ZG o20 hr (Zc (Zb 0) (Zc Ze (Zc (ZZ (Zb 4) Ze) (Zc Ze Zd)))))) (fun _ _ _ _ _=>(Yn (i:=0) Zzf)) (fun _ _ _ _ _=>YH) (fun _ _ _ _ _=>(ZQ Wk Bu.str_ Wy (Zc (Zb 0) Zd))))))) ZO)
  (Zg (ZH (i:=5) nd (ZG o21 hr (Zc (Zb 5) (Zc (Zb 1) (Zc (Zb 2) Zd)))))
  (Zg (ZH (i:=6) nd (ZG o24 hr (Zc (Zb 5) Zd)))
  (Zg (Yx (ZC (Y7 hr.units) (Zb 3) Ze) (Zl (ZH (i:=6) nd (ZG o26 hr (Zc (Zb 5) Zd)))) ZO)
  (Zg (Yx (ZC Zaq (Zb 6) Y8) (Zl (Zy (ZG o18 hr (Zc (Zb 5) (Zc (Zb 3) Zd))))) ZO)
  (Zl (Zy (Ww (Y7 hr.units) (ZG o17 hr (Zc (Zb 5) (Zc (Zb 3) Zd))) (Zb 6)))))))))))))))
def Zqc(K:PySem.W.Frag):Sp:=fun vs H Q _=>∃(a:Addr) (ns:List Int),vs=[.ref a]/\WH K H a (ns.map V.int)/\ns.length<=63/\∀H',Q (.bl true) H'
theorem all_mk{L:PySem.W.OpenLaw}{w:World}{K:PySem.W.Frag}{h:Heap}{mg:Str->Option Value}{fa f:Addr}(X:K.In h)(G:h.Ns mainGlobals mg)(hfa:mg "law"=some (.ref fa)){od an:Option Addr}{sl:Array (Option Value)}{oc kV dc pm cd ct:Value}{t_FIGURES:Tok}{t_MOST_FIGURES:Tok}{t_MOST_LINES:Tok}{t_MOST_YARDS:Tok}{a_NoText:Addr}{a_YardError:Addr}
  (h0:FH K "_law_cell_at" s0)
  (h1:FH K "_law_mixed" s1)
  (h2:FH K "_law_ground" s2)
  (h3:FH K "words_of" s3)
  (h4:FH K "number_in" s4)
  (h5:FH K "bundle_in" s5)
  (h6:FH K "is_number" s6)
  (h7:FH K "is_number_within" s7)
  (h8:FH K "is_bundle" s8)
  (h9:FH K "is_joined" s9)
  (h10:FH K "do_rise" Zkg)
  (h11:FH K "is_ground" s11)
  (h12:FH K "checked" s12)
  (h13:FH K "shown_bundle" s13)
  (h14:FH K "shown" s14)
  (h15:FH K "read" s15)
  (h16:FH K "read_load" s16)
  (h17:FH K "_law_asked" s17)
  (h18:FH K "_law_refused" s18)
  (h19:FH K "_law_written" s19)
  (h20:FH K "_law_load" s20)
  (h21:FH K "_law_spoilt" s21)
  (h22:FH K "_law_number_of" s22)
  (h23:FH K "_law_join_of" s23)
  (h24:FH K "_law_ground_of" s24)
  (h25:FH K "_law_chips_of" s25)
  (h26:FH K "_law_load_of" s26)
  (a:PySem.W.nsIn K mainGlobals "law"=some (some (.ref f))) (l:K.lookup f=some ⟨oc,od,.func (PySem.W.fnOf "law" "law" (Vy Zum) (XQ Zum) (Zn Zum) .none kV dc pm an cd ct),sl⟩) (c:PySem.W.codeIn K cd "law"=true) (k:PySem.W.keepIn K (.ref f)=true)
  (z_len:PySem.W.nsIn K mainGlobals "len"=some none)
  (z_range:PySem.W.nsIn K mainGlobals "range"=some none)
  (z_sum:PySem.W.nsIn K mainGlobals "sum"=some none)
  (z_all:PySem.W.nsIn K mainGlobals "all"=some none)
  (z_any:PySem.W.nsIn K mainGlobals "any"=some none)
  (z_min:PySem.W.nsIn K mainGlobals "min"=some none)
  (z_max:PySem.W.nsIn K mainGlobals "max"=some none)
  (z_sorted:PySem.W.nsIn K mainGlobals "sorted"=some none)
  (z_zip:PySem.W.nsIn K mainGlobals "zip"=some none)
  (z_enumerate:PySem.W.nsIn K mainGlobals "enumerate"=some none)
  (z_isinstance:PySem.W.nsIn K mainGlobals "isinstance"=some none)
  (z_tuple:PySem.W.nsIn K mainGlobals "tuple"=some none)
  (z_list:PySem.W.nsIn K mainGlobals "list"=some none)
  (z_int:PySem.W.nsIn K mainGlobals "int"=some none)
  (z_bool:PySem.W.nsIn K mainGlobals "bool"=some none)
  (z_set:PySem.W.nsIn K mainGlobals "set"=some none)
  (z_ValueError:PySem.W.nsIn K mainGlobals "ValueError"=some none)
  (z_str:PySem.W.nsIn K mainGlobals "str"=some none)
  (z_abs:PySem.W.nsIn K mainGlobals "abs"=some none)
  (y_FIGURES:PySem.W.nsIn K mainGlobals "FIGURES"=some (some (.str "0123456789" t_FIGURES)))
  (y_MOST_FIGURES:PySem.W.nsIn K mainGlobals "MOST_FIGURES"=some (some (.int 30 t_MOST_FIGURES)))
  (y_MOST_LINES:PySem.W.nsIn K mainGlobals "MOST_LINES"=some (some (.int 4 t_MOST_LINES)))
  (y_MOST_YARDS:PySem.W.nsIn K mainGlobals "MOST_YARDS"=some (some (.int 5 t_MOST_YARDS)))
  (v_NoText:PySem.W.nsIn K mainGlobals "NoText"=some (some (.ref a_NoText)))
  (v_YardError:PySem.W.nsIn K mainGlobals "YardError"=some (some (.ref a_YardError)))
  (w_NoText:PySem.W.excIn K a_NoText Zwg "ValueError.__new__"=true)
  (w_YardError:PySem.W.excIn K a_YardError Zwg "ValueError.__new__"=true)
  (u_NoText_NoText:Zet K a_NoText (.ref a_NoText)=true)
  (u_NoText_YardError:Zet K a_NoText (.ref a_YardError)=true)
  (t_NoText:PySem.W.kitCls K (.ref a_NoText) (.type "ValueError")=some true)
  : ∃fd:FuncData,(∀(s:Shared) (v:Value),BindsTo s fd ⟨[v],[]⟩ [("_law_script",v)])/\∀base:Heap,K.In base->base.Ns mainGlobals mg->Vj L.prog w K mg base Zpf 10 fa fd ["_law_script"] (Zqc K):=by
 have e:=hfa.symm.trans (Qu X G a)
 cases e
 have Bt:BT mg:=⟨Qz X G z_len,Qz X G z_range,Qz X G z_sum,Qz X G z_all,Qz X G z_any,Qz X G z_min,Qz X G z_max,Qz X G z_sorted,Qz X G z_zip,Qz X G z_enumerate,Qz X G z_isinstance,Qz X G z_tuple,Qz X G z_list,Qz X G z_int,Qz X G z_bool,Qz X G z_set⟩
 have Bu:BU mg:=⟨Qz X G z_str,Qz X G z_abs⟩
 obtain⟨ad,hd⟩:∃ad:Str->Addr,ad "NoText"=a_NoText/\ad "YardError"=a_YardError:=⟨fun x=>if x="NoText" then a_NoText else a_YardError,(by show(if _ then _ else _)=_;rw[if_pos rfl]),(by show(if _ then _ else _)=_;rw[if_neg (by decide+kernel)])⟩
 obtain⟨g_NoText,g_YardError⟩:=hd
 have ex:EX K mg ad EL Zx4:=by
  refine⟨fun c hc=>?_,fun c hc=>?_,fun c hc h hh=>?_⟩
  ·simp only[Ql,List.mem_nil_iff,or_false]at hc
   rcases hc with rfl
   ·rw[g_NoText];exact⟨Qu X G v_NoText,w_NoText⟩
  ·simp only[Ql,List.mem_nil_iff,or_false]at hc
   rcases hc with rfl|rfl
   ·rw[g_NoText];exact⟨Qu X G v_NoText,w_NoText⟩
   ·rw[g_YardError];exact⟨Qu X G v_YardError,w_YardError⟩
  ·simp only[Ql,List.mem_nil_iff,or_false]at hc hh
   rcases hc with rfl
   ·rcases hh with rfl|rfl
    ·rw[g_NoText,u_NoText_NoText];decide+kernel
    ·rw[g_NoText,g_YardError,u_NoText_YardError];decide+kernel
 have ve:VE K ad EL:=by
  intro c hc
  simp only[Ql,List.mem_nil_iff,or_false]at hc
  rcases hc with rfl
  ·rw[g_NoText];exact t_NoText
 refine⟨PySem.W.fnOf "law" "law" (Vy Zum) (XQ Zum) (Zn Zum) .none kV dc pm an cd ct,fun s v=>.of_eq rfl,fun base _ _=>?_⟩
 obtain⟨_,_,a0,u0⟩:=h0
 obtain⟨_,_,a1,u1⟩:=h1
 obtain⟨_,_,a2,u2⟩:=h2
 obtain⟨_,_,a3,u3⟩:=h3
 obtain⟨_,_,a4,u4⟩:=h4
 obtain⟨_,_,a5,u5⟩:=h5
 obtain⟨_,_,a6,u6⟩:=h6
 obtain⟨_,_,a7,u7⟩:=h7
 obtain⟨_,_,a8,u8⟩:=h8
 obtain⟨_,_,a9,u9⟩:=h9
 obtain⟨_,_,a10,u10⟩:=h10
 obtain⟨_,_,a11,u11⟩:=h11
 obtain⟨_,_,a12,u12⟩:=h12
 obtain⟨_,_,a13,u13⟩:=h13
 obtain⟨_,_,a14,u14⟩:=h14
 obtain⟨_,_,a15,u15⟩:=h15
 obtain⟨_,_,a16,u16⟩:=h16
 obtain⟨_,_,a17,u17⟩:=h17
 obtain⟨_,_,a18,u18⟩:=h18
 obtain⟨_,_,a19,u19⟩:=h19
 obtain⟨_,_,a20,u20⟩:=h20
 obtain⟨_,_,a21,u21⟩:=h21
 obtain⟨_,_,a22,u22⟩:=h22
 obtain⟨_,_,a23,u23⟩:=h23
 obtain⟨_,_,a24,u24⟩:=h24
 obtain⟨_,_,a25,u25⟩:=h25
 obtain⟨_,_,a26,u26⟩:=h26
 have o0:=d0 (Pr:=L.prog) (w:=w) (base:=base) u0 (Qu X G a0) Bt Bu
 have o1:=d1 (Pr:=L.prog) (w:=w) (base:=base) u1 (Qu X G a1) Bt Bu o0
 have o2:=d2 (Pr:=L.prog) (w:=w) (base:=base) u2 (Qu X G a2) Bt Bu o1
 have o3:=d3 (Pr:=L.prog) (w:=w) (base:=base) u3 (Qu X G a3) Bt Bu
 have o4:=d4 (Pr:=L.prog) (w:=w) (base:=base) u4 (Qu X G a4) Bt Bu ⟨_,Qu X G y_FIGURES⟩ ⟨_,Qu X G y_MOST_FIGURES⟩
 have o5:=d5 (Pr:=L.prog) (w:=w) (base:=base) u5 (Qu X G a5) Bt Bu o4
 have o6:=d6 (Pr:=L.prog) (w:=w) (base:=base) u6 (Qu X G a6) Bt Bu
 have o7:=d7 (Pr:=L.prog) (w:=w) (base:=base) u7 (Qu X G a7) Bt Bu o6
 have o8:=d8 (Pr:=L.prog) (w:=w) (base:=base) u8 (Qu X G a8) Bt Bu o7 ⟨_,Qu X G y_MOST_LINES⟩
 have o9:=d9 (Pr:=L.prog) (w:=w) (base:=base) u9 (Qu X G a9) Bt Bu
 have o10:=d10 (Pr:=L.prog) (w:=w) (base:=base) u10 (Qu X G a10) Bt Bu
 have o11:=d11 (Pr:=L.prog) (w:=w) (base:=base) u11 (Qu X G a11) Bt Bu o7 o8 o9 o10 ⟨_,Qu X G y_MOST_YARDS⟩
 have o12:=d12 (Pr:=L.prog) (w:=w) (base:=base) u12 (Qu X G a12) Bt Bu o11
 have o13:=d13 (Pr:=L.prog) (w:=w) (base:=base) u13 (Qu X G a13) Bt Bu
 have o14:=d14 (Pr:=L.prog) (w:=w) (base:=base) u14 (Qu X G a14) Bt Bu o12 o13
 have q3:=dx3 (Pr:=L.prog) (w:=w) (base:=base) u3 (Qu X G a3) Bt Bu ex ve (Qz X G z_ValueError)
 have q4:=dx4 (Pr:=L.prog) (w:=w) (base:=base) u4 (Qu X G a4) Bt Bu ex ve (Qz X G z_ValueError) ⟨_,Qu X G y_FIGURES⟩ ⟨_,Qu X G y_MOST_FIGURES⟩
 have q5:=dx5 (Pr:=L.prog) (w:=w) (base:=base) u5 (Qu X G a5) Bt Bu ex ve (Qz X G z_ValueError) o4 q4
 have q15:=dx15 (Pr:=L.prog) (w:=w) (base:=base) u15 (Qu X G a15) Bt Bu ex ve (Qz X G z_ValueError) o3 o4 o5 o14 o11 q3 q4 q5
 have q16:=dx16 (Pr:=L.prog) (w:=w) (base:=base) u16 (Qu X G a16) Bt Bu ex ve (Qz X G z_ValueError) o3 o4 q4 q3
 have q17:=dx17 (Pr:=L.prog) (w:=w) (base:=base) u17 (Qu X G a17) Bt Bu ex ve (Qz X G z_ValueError) q15 q16
 have o18:=d18 (Pr:=L.prog) (w:=w) (base:=base) u18 (Qu X G a18) Bt Bu ex ve (Qz X G z_ValueError) q17
 have o19:=d19 (Pr:=L.prog) (w:=w) (base:=base) u19 (Qu X G a19) Bt Bu
 have o20:=d20 (Pr:=L.prog) (w:=w) (base:=base) u20 (Qu X G a20) Bt Bu o1
 have o21:=d21 (Pr:=L.prog) (w:=w) (base:=base) u21 (Qu X G a21) Bt Bu
 have o22:=d22 (Pr:=L.prog) (w:=w) (base:=base) u22 (Qu X G a22) Bt Bu
 have o23:=d23 (Pr:=L.prog) (w:=w) (base:=base) u23 (Qu X G a23) Bt Bu o22
 have o24:=d24 (Pr:=L.prog) (w:=w) (base:=base) u24 (Qu X G a24) Bt Bu o22 o23
 have o25:=d25 (Pr:=L.prog) (w:=w) (base:=base) u25 (Qu X G a25) Bt Bu o22
 have o26:=d26 (Pr:=L.prog) (w:=w) (base:=base) u26 (Qu X G a26) Bt Bu o25
 have o15:=d15 (Pr:=L.prog) (w:=w) (base:=base) u15 (Qu X G a15) Bt Bu o3 o5 o4 o14 o11
 have o16:=d16 (Pr:=L.prog) (w:=w) (base:=base) u16 (Qu X G a16) Bt Bu o3 o4
 have o17:=d17 (Pr:=L.prog) (w:=w) (base:=base) u17 (Qu X G a17) Bt Bu o15 o16
 have o27:=d27 (Pr:=L.prog) (w:=w) (base:=base) (Zsq (st:=Zum) l c k) (Qu X G a) Bt Bu o1 o2 o18 o19 o20 o21 o24 o26 o17
 refine o27.ok.imp fun vs H Q E hs=>?_
 obtain⟨a,ns,rfl,hS,h63,q⟩:=hs
 refine⟨[],[.scr ns],.bl true,fun a m=>(by cases m),⟨_,_,rfl,⟨a,rfl,by rw[Zrq];exact hS⟩,rfl⟩,g_law ns,fun v H' s r=>?_⟩
 have:v=.bl true:=r
 subst this
 exact q H'
theorem walk{l:PySem.W.OpenLaw}{q:Program}{loose:List Str}{XP:(Str->Option Value)->Heap->Prop}{YP:World->Heap->Prop}{d:DefRec}{K:Params->PySem.W.Frag}(hn:l.most=some 63)(hdf:d.params.defaults=[])
  (hY:∀(w:World) (h:Heap),YP w h->(K w.params).In h)
  (F:∀(w:World) (mg:Str->Option Value) (fa:Addr) (h:Heap),(K w.params).In h->h.Ns mainGlobals mg->mg d.name=some (.ref fa) ->
   ∃fd:FuncData,(∀(s:Shared) (u:Value),BindsTo s fd ⟨[u],[]⟩ [("_law_script",u)])/\∀base:Heap,(K w.params).In base->base.Ns mainGlobals mg->Vj l.prog w (K w.params) mg base Zpf 10 fa fd ["_law_script"] (Zqc (K w.params))) :
  PySem.W.WalkO q loose XP YP l.row.toRowW d [] (fun f vs=>PySem.call f vs) :=
 L2.walk_of (n:=63) (k:=10) (x:="_law_script") (CX:=fun _=>Zpf) (sp:=fun w=>Zqc (K w.params)) hn (by decide) hdf ⟨rfl,by decide,by decide⟩ hY F (fun _ _ a ns hl _ hS=>⟨a,ns,rfl,hS,hl,fun _=>rfl⟩) fun _ _ _ _ _ z=>z
end K18

end
-- stand-ins: the head of the last proof goes without these twins, and the built file stays small
def PySem.W.Fast.tw4720327851125766177 : Unit := ()
def PySem.W.Fast.tw3157120336754869746 : Unit := ()
def PySem.W.Fast.tw6405768635424338140 : Unit := ()
def PySem.W.Fast.tw874134262428143592 : Unit := ()
def PySem.W.Fast.tw17319384291481186839 : Unit := ()
def PySem.W.Fast.tw2501447743752835606 : Unit := ()
def PySem.W.Fast.tw6780571012664568851 : Unit := ()
def PySem.W.Fast.tw1634910901505353542 : Unit := ()
def PySem.W.Fast.tw2163855152663583843 : Unit := ()
def PySem.W.Fast.tw9751829053284263060 : Unit := ()
def PySem.W.Fast.tw15129598150604435818 : Unit := ()
def PySem.W.Fast.tw2311888786775184543 : Unit := ()
def PySem.W.Fast.tw7498858306336105466 : Unit := ()
def PySem.W.Fast.tw4197813260387206911 : Unit := ()
def PySem.W.Fast.tw18332528292682035992 : Unit := ()
def PySem.W.Fast.tw9868907364908291238 : Unit := ()
def PySem.W.Fast.tw8239863474280119639 : Unit := ()
def PySem.W.Fast.tw10582429840989531457 : Unit := ()
def PySem.W.Fast.tw8953630018102600612 : Unit := ()
def PySem.W.Fast.tw10199134186114432021 : Unit := ()
def PySem.W.Fast.tw16698078522681982835 : Unit := ()
def PySem.W.Fast.tw2742755051949157252 : Unit := ()
def PySem.W.Fast.tw4722789128115778351 : Unit := ()
def PySem.W.Fast.tw1529681005397345807 : Unit := ()
def PySem.W.Fast.tw5507451940967948760 : Unit := ()
def PySem.W.Fast.tw18024552343909147640 : Unit := ()
def PySem.W.Fast.tw10954272603459683221 : Unit := ()
def PySem.W.Fast.tw18345004371466586604 : Unit := ()
def PySem.W.Fast.tw3416557426799281534 : Unit := ()
def PySem.W.Fast.tw12513451650252548750 : Unit := ()
def PySem.W.Fast.tw14850576797430049016 : Unit := ()
def PySem.W.Fast.tw15295615138522281429 : Unit := ()
def PySem.W.Fast.tw1452735207652469435 : Unit := ()
def PySem.W.Fast.tw11684959777950924498 : Unit := ()
def PySem.W.Fast.tw3820855377784053745 : Unit := ()
def PySem.W.Fast.tw5755603814312365335 : Unit := ()
def PySem.W.Fast.tw4780698350947735622 : Unit := ()
def PySem.W.Fast.tw903040339232011791 : Unit := ()
def PySem.W.Fast.tw4772979983523449687 : Unit := ()
def PySem.W.Fast.tw15194440408154495940 : Unit := ()
def PySem.W.Fast.tw3189498685618542274 : Unit := ()
def PySem.W.Fast.tw5096256856739969216 : Unit := ()
def PySem.W.Fast.tw15286080314670151890 : Unit := ()
def PySem.W.Fast.tw17276418641207964940 : Unit := ()
def PySem.W.Fast.tw8454002457845364392 : Unit := ()
def PySem.W.Fast.tw10620370016220133780 : Unit := ()
def PySem.W.Fast.tw7123495681272779490 : Unit := ()
def PySem.W.Fast.tw9675371878699386615 : Unit := ()
def PySem.W.Fast.tw8194107787586389158 : Unit := ()
def PySem.W.Fast.tw4436714050018683215 : Unit := ()
def PySem.W.Fast.tw10168244639229804398 : Unit := ()
def PySem.W.Fast.tw7556620359486694007 : Unit := ()
def PySem.W.Fast.tw5265029550862359122 : Unit := ()
def PySem.W.Fast.tw6579363151511605533 : Unit := ()
def PySem.W.Fast.tw17499028454179934342 : Unit := ()
def PySem.W.Fast.tw1269105589448964132 : Unit := ()
def PySem.W.Fast.tw15206655812079707198 : Unit := ()
def PySem.W.Fast.tw17488440092459258365 : Unit := ()
def PySem.W.Fast.tw8208706727430588150 : Unit := ()
def PySem.W.Fast.tw5143229274803035770 : Unit := ()
def PySem.W.Fast.tw18064377839872305018 : Unit := ()
def PySem.W.Fast.tw15345010220998405890 : Unit := ()
def PySem.W.Fast.tw3287084974371092121 : Unit := ()
def PySem.W.Fast.tw17182433270342321539 : Unit := ()
def PySem.W.Fast.tw13179705943957417413 : Unit := ()
def PySem.W.Fast.tw15858019860114121461 : Unit := ()
def PySem.W.Fast.tw6038906325195233307 : Unit := ()
def PySem.W.Fast.tw9435460322080848779 : Unit := ()
def PySem.W.Fast.tw9999590100252434682 : Unit := ()
def PySem.W.Fast.tw2063960269020985624 : Unit := ()
def PySem.W.Fast.tw494703556312317330 : Unit := ()
def PySem.W.Fast.tw2923728611776852480 : Unit := ()
def PySem.W.Fast.tw15277903054962909144 : Unit := ()
def PySem.W.Fast.tw7585021424383858733 : Unit := ()
def PySem.W.Fast.tw14058510611640318893 : Unit := ()
def PySem.W.Fast.tw15936923886119100773 : Unit := ()
def PySem.W.Fast.tw45094797635885292 : Unit := ()
def PySem.W.Fast.tw7758562415049796709 : Unit := ()
def PySem.W.Fast.tw2107168511064926184 : Unit := ()
def PySem.W.Fast.tw3465540741189825465 : Unit := ()
def PySem.W.Fast.tw4033826568742029348 : Unit := ()
def PySem.W.Fast.tw14616300334375585983 : Unit := ()
def PySem.W.Fast.tw7885781292489168268 : Unit := ()
open PySem PySem.W PyProof.Rows
set_option maxRecDepth 100000 in
set_option maxHeartbeats 0 in
theorem PySem.Challenge.cw_chipyard_k18_texts_refused_holds : PySem.Challenge.rw_chipyard_k18_texts_refused.Holds := by
 w_on;o_law;k_head;(case hw=>w_witness2)
 k_fill
 refine K18.walk (l:=PySem.Challenge.rw_chipyard_k18_texts_refused) rfl rfl (fun w h Y=>PySem.W.kIn_of Y) ?F
 case F =>
  intro w mg fa h KX G hmg
  refine' K18.all_mk KX G hmg (L2.fh ?a0 ?l0 ?c0 ?k0) (L2.fh ?a1 ?l1 ?c1 ?k1) (L2.fh ?a2 ?l2 ?c2 ?k2) (L2.fh ?a3 ?l3 ?c3 ?k3) (L2.fh ?a4 ?l4 ?c4 ?k4) (L2.fh ?a5 ?l5 ?c5 ?k5) (L2.fh ?a6 ?l6 ?c6 ?k6) (L2.fh ?a7 ?l7 ?c7 ?k7) (L2.fh ?a8 ?l8 ?c8 ?k8) (L2.fh ?a9 ?l9 ?c9 ?k9) (L2.fh ?a10 ?l10 ?c10 ?k10) (L2.fh ?a11 ?l11 ?c11 ?k11) (L2.fh ?a12 ?l12 ?c12 ?k12) (L2.fh ?a13 ?l13 ?c13 ?k13) (L2.fh ?a14 ?l14 ?c14 ?k14) (L2.fh ?a15 ?l15 ?c15 ?k15) (L2.fh ?a16 ?l16 ?c16 ?k16) (L2.fh ?a17 ?l17 ?c17 ?k17) (L2.fh ?a18 ?l18 ?c18 ?k18) (L2.fh ?a19 ?l19 ?c19 ?k19) (L2.fh ?a20 ?l20 ?c20 ?k20) (L2.fh ?a21 ?l21 ?c21 ?k21) (L2.fh ?a22 ?l22 ?c22 ?k22) (L2.fh ?a23 ?l23 ?c23 ?k23) (L2.fh ?a24 ?l24 ?c24 ?k24) (L2.fh ?a25 ?l25 ?c25 ?k25) (L2.fh ?a26 ?l26 ?c26 ?k26) ?a ?l ?c ?k ?z112 ?z113 ?z114 ?z115 ?z116 ?z117 ?z118 ?z119 ?z120 ?z121 ?z122 ?z123 ?z124 ?z125 ?z126 ?z127 ?z128 ?z129 ?z130 ?z131 ?z132 ?z133 ?z134 ?z135 ?z136 ?z137 ?z138 ?z139 ?z140 ?z141
  (case a0=>k_is)
  (case l0=>k_is)
  (case c0=>k_is)
  (case k0=>k_is)
  (case a1=>k_is)
  (case l1=>k_is)
  (case c1=>k_is)
  (case k1=>k_is)
  (case a2=>k_is)
  (case l2=>k_is)
  (case c2=>k_is)
  (case k2=>k_is)
  (case a3=>k_is)
  (case l3=>k_is)
  (case c3=>k_is)
  (case k3=>k_is)
  (case a4=>k_is)
  (case l4=>k_is)
  (case c4=>k_is)
  (case k4=>k_is)
  (case a5=>k_is)
  (case l5=>k_is)
  (case c5=>k_is)
  (case k5=>k_is)
  (case a6=>k_is)
  (case l6=>k_is)
  (case c6=>k_is)
  (case k6=>k_is)
  (case a7=>k_is)
  (case l7=>k_is)
  (case c7=>k_is)
  (case k7=>k_is)
  (case a8=>k_is)
  (case l8=>k_is)
  (case c8=>k_is)
  (case k8=>k_is)
  (case a9=>k_is)
  (case l9=>k_is)
  (case c9=>k_is)
  (case k9=>k_is)
  (case a10=>k_is)
  (case l10=>k_is)
  (case c10=>k_is)
  (case k10=>k_is)
  (case a11=>k_is)
  (case l11=>k_is)
  (case c11=>k_is)
  (case k11=>k_is)
  (case a12=>k_is)
  (case l12=>k_is)
  (case c12=>k_is)
  (case k12=>k_is)
  (case a13=>k_is)
  (case l13=>k_is)
  (case c13=>k_is)
  (case k13=>k_is)
  (case a14=>k_is)
  (case l14=>k_is)
  (case c14=>k_is)
  (case k14=>k_is)
  (case a15=>k_is)
  (case l15=>k_is)
  (case c15=>k_is)
  (case k15=>k_is)
  (case a16=>k_is)
  (case l16=>k_is)
  (case c16=>k_is)
  (case k16=>k_is)
  (case a17=>k_is)
  (case l17=>k_is)
  (case c17=>k_is)
  (case k17=>k_is)
  (case a18=>k_is)
  (case l18=>k_is)
  (case c18=>k_is)
  (case k18=>k_is)
  (case a19=>k_is)
  (case l19=>k_is)
  (case c19=>k_is)
  (case k19=>k_is)
  (case a20=>k_is)
  (case l20=>k_is)
  (case c20=>k_is)
  (case k20=>k_is)
  (case a21=>k_is)
  (case l21=>k_is)
  (case c21=>k_is)
  (case k21=>k_is)
  (case a22=>k_is)
  (case l22=>k_is)
  (case c22=>k_is)
  (case k22=>k_is)
  (case a23=>k_is)
  (case l23=>k_is)
  (case c23=>k_is)
  (case k23=>k_is)
  (case a24=>k_is)
  (case l24=>k_is)
  (case c24=>k_is)
  (case k24=>k_is)
  (case a25=>k_is)
  (case l25=>k_is)
  (case c25=>k_is)
  (case k25=>k_is)
  (case a26=>k_is)
  (case l26=>k_is)
  (case c26=>k_is)
  (case k26=>k_is)
  (case a=>k_is)
  (case l=>k_is)
  (case c=>k_is)
  (case k=>k_is)
  (case z112=>k_is)
  (case z113=>k_is)
  (case z114=>k_is)
  (case z115=>k_is)
  (case z116=>k_is)
  (case z117=>k_is)
  (case z118=>k_is)
  (case z119=>k_is)
  (case z120=>k_is)
  (case z121=>k_is)
  (case z122=>k_is)
  (case z123=>k_is)
  (case z124=>k_is)
  (case z125=>k_is)
  (case z126=>k_is)
  (case z127=>k_is)
  (case z128=>k_is)
  (case z129=>k_is)
  (case z130=>k_is)
  (case z131=>k_is)
  (case z132=>k_is)
  (case z133=>k_is)
  (case z134=>k_is)
  (case z135=>k_is)
  (case z136=>k_is)
  (case z137=>k_exc)
  (case z138=>k_exc)
  (case z139=>rfl)
  (case z140=>rfl)
  (case z141=>rfl)

