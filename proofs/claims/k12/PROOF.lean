import PyProof.Rows.All
import Wide.All
import OpenK.AllK
import Wide.FinOn
import PySem.Challenge.RW_chipyard_k12_whole_knots
import Lean
import PyProof.EqAt
import PyProof.EqKinds
import PyProof.TupleCall
set_option Elab.async false
set_option linter.all false
set_option Elab.async false
set_option linter.all false
set_option maxRecDepth 100000
noncomputable section
namespace L2
open PySem PySem.Spec PyProof.Rows
abbrev YW:=Sum Int Str
def keyIs:YW->Value->Bool
  | .inl k,v=>Value.isInt k v
  | .inr x,v=>Value.isStrOf x v
def keyH (w:World):YW->Int
  | .inl k=>hashInt k
  | .inr x=>hashStr w x
theorem YO:∀ {k:YW} {v:Value},keyIs k v=true->(∃ i t,k=Sum.inl i/\v=Value.int i t)\/(∃ x t,k=Sum.inr x/\v=Value.str x t)
  | .inl i,v,h=>by
    obtain ⟨t,e⟩:=Value.isInt_shape (k:=i) (v:=v) h
    exact .inl ⟨i,t,rfl,e⟩
  | .inr x,v,h=>by
    obtain ⟨t,e⟩:=Value.isStrOf_shape (x:=x) (v:=v) h
    exact .inr ⟨x,t,rfl,e⟩
theorem keyIs_int (i:Int) (t:Tok):keyIs (.inl i) (.int i t)=true:=by simp [keyIs,Value.isInt]
theorem keyIs_str (x:Str) (t:Tok):keyIs (.inr x) (.str x t)=true:=by simp [keyIs,Value.isStrOf]
theorem key_ll (a b:Int):decide ((Sum.inl a:YW)=Sum.inl b)=(a == b):=by
  by_cases e:a=b
  · subst e;simp
  · have h:¬ (Sum.inl a:YW)=Sum.inl b:=fun q=>e (Sum.inl.inj q)
    rw [decide_eq_false h]
    exact (beq_eq_false_iff_ne.mpr e).symm
theorem key_rr (a b:Str):decide ((Sum.inr a:YW)=Sum.inr b)=decide (a=b):=by
  by_cases e:a=b
  · subst e;simp
  · have h:¬ (Sum.inr a:YW)=Sum.inr b:=fun q=>e (Sum.inr.inj q)
    rw [decide_eq_false h,decide_eq_false e]
theorem key_lr (a:Int) (b:Str):decide ((Sum.inl a:YW)=Sum.inr b)=false:=decide_eq_false (fun q=>nomatch q)
theorem key_rl (a:Str) (b:Int):decide ((Sum.inr a:YW)=Sum.inl b)=false:=decide_eq_false (fun q=>nomatch q)
def YM (prog:Program) (w:World):PySem.KeyKind prog w YW where
  is:=keyIs
  hash:=keyH w
  inj:=fun v a b ha hb=>by
    rcases YO ha with ⟨i,t,rfl,rfl⟩ | ⟨x,t,rfl,rfl⟩
    · rcases YO hb with ⟨j,u,rfl,e⟩ | ⟨y,u,rfl,e⟩
      · injection e with e1 _;rw [e1]
      · exact nomatch e
    · rcases YO hb with ⟨j,u,rfl,e⟩ | ⟨y,u,rfl,e⟩
      · exact nomatch e
      · injection e with e1 _;rw [e1]
  byValue:=fun k v h=>by
    rcases YO h with ⟨i,t,rfl,rfl⟩ | ⟨x,t,rfl,rfl⟩ <;> rfl
  pyHash:=fun hv h=>by
    rcases YO hv with ⟨i,t,rfl,rfl⟩ | ⟨x,t,rfl,rfl⟩
    · exact wpAny_pyHash_int h
    · exact wpAny_pyHash_str h
  eqBool:=fun hu hv h=>by
    rcases YO hu with ⟨i,t,rfl,rfl⟩ | ⟨x,t,rfl,rfl⟩
    · rcases YO hv with ⟨j,u,rfl,rfl⟩ | ⟨y,u,rfl,rfl⟩
      · rw [key_ll] at h;exact wpAny_eqBool_int h
      · rw [key_lr] at h;exact SeqAt.EqAt.int_str i t y u _ _ _ _ h
    · rcases YO hv with ⟨j,u,rfl,rfl⟩ | ⟨y,u,rfl,rfl⟩
      · rw [key_rl] at h;exact SeqAt.EqAt.str_int x t j u _ _ _ _ h
      · rw [key_rr] at h;exact wpAny_eqBool_str h
  «strs»:=fun k x t v h=>by
    rcases YO h with ⟨i,u,rfl,e⟩ | ⟨y,u,rfl,e⟩
    · exact nomatch e
    · injection e with e1 _
      subst e1
      cases v <;> rfl
theorem mixKind_int (prog:Program) (w:World) (i:Int) (t:Tok):(YM prog w).is (.inl i) (.int i t)=true:=keyIs_int i t
theorem mixKind_str (prog:Program) (w:World) (x:Str) (t:Tok):(YM prog w).is (.inr x) (.str x t)=true:=keyIs_str x t
end L2
namespace L2
open PySem PySem.Spec PyProof.Rows
inductive V where
  | non | bl (b:Bool) | int (i:Int) | str (x:Str) | byt (b:Array UInt8) | flt (b:UInt64) | ref (a:Addr) | ty (n:String)
  deriving DecidableEq
def Ya:V->Value->Prop
  | .non,u=>u=Value.none
  | .bl b,u=>u=Value.bool b
  | .int i,u=>∃ t,u=Value.int i t
  | .str x,u=>∃ t,u=Value.str x t
  | .byt b,u=>∃ t,u=Value.bytes b t
  | .flt b,u=>∃ t,u=Value.float b t
  | .ref a,u=>u=Value.ref a
  | .ty n,u=>u=Value.type n
abbrev ZQ:List V->List Value->Prop:=Paired Ya
theorem ZQ.length {xs:List V} {us:List Value} (r:ZQ xs us):xs.length=us.length:=Paired.length r
theorem ZQ.get:∀ {xs:List V} {us:List Value} {i:Nat} {x:V},ZQ xs us->xs[i]?=some x->∃ u,us[i]?=some u/\Ya x u
  | _,_,_,_,.nil,e=>by simp at e
  | _,_,0,_,.cons r _,e=>by simp at e;subst e;exact ⟨_,rfl,r⟩
  | _,_,i+1,x,.cons _ t,e=>by
    obtain ⟨u,h1,h2⟩:=ZQ.get (i:=i) (x:=x) t (by simpa using e)
    exact ⟨u,by simpa using h1,h2⟩
theorem ZQ.set {x:V} {u:Value} (r:Ya x u):∀ {xs:List V} {us:List Value} (i:Nat),ZQ xs us->ZQ (xs.set i x) (us.set i u)
  | _,_,_,.nil=>.nil
  | _,_,0,.cons _ t=>.cons r t
  | _,_,i+1,.cons q t=>.cons q (ZQ.set r i t)
theorem ZQ.append:∀ {xs ys:List V} {us ws:List Value},ZQ xs us->ZQ ys ws->ZQ (xs++ys) (us++ws)
  | _,_,_,_,.nil,s=>s
  | _,_,_,_,.cons r t,s=>.cons r (ZQ.append t s)
theorem ZQ.take:∀ {xs:List V} {us:List Value} (n:Nat),ZQ xs us->ZQ (xs.take n) (us.take n)
  | _,_,0,_=>.nil
  | _,_,_+1,.nil=>.nil
  | _,_,n+1,.cons r t=>.cons r (ZQ.take n t)
theorem ZQ.drop:∀ {xs:List V} {us:List Value} (n:Nat),ZQ xs us->ZQ (xs.drop n) (us.drop n)
  | _,_,0,r=>r
  | _,_,_+1,.nil=>.nil
  | _,_,n+1,.cons _ t=>ZQ.drop n t
theorem ZQ.none_of:∀ {xs:List V} {us:List Value} {i:Nat},ZQ xs us->xs[i]?=none->us[i]?=none:=fun {xs us i} r e=>by
  have h1:=r.length
  have h2:xs.length<=i:=List.getElem?_eq_none_iff.mp e
  exact List.getElem?_eq_none_iff.mpr (by omega)
def RelO:Option V->Option Value->Prop
  | some v,some u=>Ya v u
  | none,none=>True
  | _,_=>False
def KV {κ:Type}:List (κ×V)->List (κ×Value)->Prop:=Paired fun (p:κ×V) (q:κ×Value)=>p.1=q.1/\Ya p.2 q.2
def kV:YW->V
  | .inl i=>.int i
  | .inr x=>.str x
inductive HO where
    | lst (xs:List V)
    | tup (xs:List V)
    | dK (kvs:List (YW×V)) | dT (kvs:List (List YW×V))
    | set (S:Int->Bool) (n:Nat)
    | ins (C dx:Addr) (fs:List (Str×V))
    | own (x:Addr)
    | xd (fs:List (Str×V))
    | met (f x:Addr)
    | rng (lo hi:Int)
    | frz (o:Obj) (u:HO)
    | tbl (ps:Array Value)
    | ext (φ:Heap->Prop)
abbrev Hp:=Addr->Option HO
def YV (H:Hp) (a:Addr) (o:HO):Hp:=fun b=>if b=a then some o else H b
theorem Z1 {H:Hp} {a:Addr} {o:HO}:YV H a o a=some o:=by unfold YV;rw [if_pos rfl]
theorem ZG {H:Hp} {a b:Addr} {o:HO} (h:b≠a):YV H a o b=H b:=by unfold YV;rw [if_neg h]
theorem upd_upd {H:Hp} {a:Addr} {o u:HO}:YV (YV H a o) a u=YV H a u:=by
  funext b;unfold YV;split <;> rfl
theorem ne_of {H:Hp} {a b:Addr} {o u:HO} (h:H a=some o) (h':H b=some u) (d:o≠u):a≠b:=by
  intro e;subst e;rw [h] at h';exact d (Option.some.inj h')
theorem Z4 {H:Hp} {a b:Addr} {o:HO} (h:H a=some o) (h':H b=none):a≠b:=by
  intro e;subst e;rw [h] at h';cases h'
section
variable (P:Program) (w:World)
def YJ (H:Hp) (h:Heap) (a:Addr):HO->Prop
  | .lst xs=>xs.length<=sizeLine/\∃ (its:List Value) (n:Nat),ZQ xs its/\h.get? a=some { cls:=.type "list",data:=.seq its.toArray n }
  | .tup xs=>xs.length<=sizeLine/\∃ its:List Value,ZQ xs its/\IsTup h a its.toArray
  | .dK kvs=>kvs.length<=sizeLine/\(a == sysModules)=false/\∃ vs,KV kvs vs/\h.DictOf (YM P w) a vs
  | .dT kvs=>kvs.length<=sizeLine/\(a == sysModules)=false/\∃ xs:List (List YW×Addr×Value),
      Paired (fun (p:List YW×V) (q:List YW×Addr×Value)=>p.1=q.1/\H q.2.1=some (.tup (p.1.map kV))/\Ya p.2 q.2.2) kvs xs /\
      ∃ o es ep,h.get? a=some o/\o.ExactDict/\o.data=.dict es ep/\es.toList=xs.map (entryOfKey (tupleKind (YM P w)))/\(xs.map (·.1)).Nodup
  | .set S n=>h.SetOf (intKind P w) a S n
  | .ins C dx fs=>H dx=some (.own a)/\fs.length<=1000/\dx≠a/\h.get? a=some (PySem.W.instObj C dx) /\
      ∃ mA,h.Ns1 dx mA/\(∀ f,RelO (fs.lookup f) (mA f))/\PySem.Within mA (fs.map (·.1))
  | .own _=>∃ o,h.get? a=some o
  | .xd fs=>∃ mA,h.Ns1 a mA/\∀ f,RelO (fs.lookup f) (mA f)
  | .rng lo hi=>∃ t u v,h.get? a=some { cls:=.type "range",data:=.fields #[.int lo t,.int hi u,.int 1 v] }
  | .frz o u=>h.get? a=some o/\YJ H h a u
  | .tbl ps=>h.get? a=some { cls:=.none,data:=.fields ps }
  | .met f x=>h.get? a=some (PySem.W.methodObj (.ref f) (.ref x))
  | .ext φ=>φ h/\(∃ o,h.get? a=some o)/\∀ h1 h2:Heap,φ h1->(∀ o,h1.get? a=some o->h2.get? a=some o)->φ h2
def HOk (H:Hp) (h:Heap):Prop:=∀ a o,H a=some o->YJ P w H h a o
end
section
variable {P:Program} {w:World} {H H':Hp} {h h':Heap} {a:Addr} {o:HO}
theorem YJ.lt (x:YJ P w H h a o):a < h.objs.size:=by
  cases o with
  | lst xs=>obtain ⟨_,_,_,_,e⟩:=x;exact Heap.lt_size e
  | tup xs=>obtain ⟨_,_,_,p⟩:=x;exact p.lt
  | dK kvs=>obtain ⟨_,_,_,_,o,_,_,e,_⟩:=x;exact Heap.lt_size e
  | dT kvs=>obtain ⟨_,_,_,_,o,_,_,e,_⟩:=x;exact Heap.lt_size e
  | set S n=>obtain ⟨o,_,_,_,e,_⟩:=x;exact Heap.lt_size e
  | ins C dx fs=>obtain ⟨_,_,_,e,_⟩:=x;exact Heap.lt_size e
  | own y=>obtain ⟨_,e⟩:=x;exact Heap.lt_size e
  | xd fs=>obtain ⟨_,⟨_,_,_,e,_⟩,_⟩:=x;exact Heap.lt_size e
  | rng lo hi=>obtain ⟨_,_,_,e⟩:=x;exact Heap.lt_size e
  | frz ob u=>obtain ⟨e,_⟩:=x;exact Heap.lt_size e
  | tbl ps=>exact Heap.lt_size (show h.get? a=some _ from x)
  | met f y=>exact Heap.lt_size (show h.get? a=some _ from x)
  | ext φ=>obtain ⟨_,⟨_,e⟩,_⟩:=x;exact Heap.lt_size e
theorem Paired.mapP {α β:Type} {F G:α->β->Prop}:∀ {l₁:List α} {l₂:List β},Paired F l₁ l₂->(∀ a b,F a b->G a b)->Paired G l₁ l₂
  | _,_,.nil,_=>.nil
  | _,_,.cons r t,f=>.cons (f _ _ r) (Paired.mapP t f)
theorem YJ.stay (x:YJ P w H h a o) (k:∀ b u,(b=a\/H b=some (.own a))->h.get? b=some u->h'.get? b=some u)
    (ho:∀ b,H b=some (.own a)->H' b=some (.own a)) (ht:∀ b xs,H b=some (.tup xs)->H' b=some (.tup xs)):YJ P w H' h' a o:=by
  induction o with
  | lst xs=>obtain ⟨z,its,n,r,e⟩:=x;exact ⟨z,its,n,r,k _ _ (.inl rfl) e⟩
  | tup xs=>obtain ⟨z,its,r,ob,e,c⟩:=x;exact ⟨z,its,r,ob,k _ _ (.inl rfl) e,c⟩
  | dK kvs=>obtain ⟨z,y,vs,r,ob,es,ep,e,c⟩:=x;exact ⟨z,y,vs,r,ob,es,ep,k _ _ (.inl rfl) e,c⟩
  | dT kvs =>
    obtain ⟨z,y,xs,r,ob,es,ep,e,c⟩:=x
    exact ⟨z,y,xs,Paired.mapP r fun p q z=>⟨z.1,ht _ _ z.2.1,z.2.2⟩,ob,es,ep,k _ _ (.inl rfl) e,c⟩
  | set S n=>obtain ⟨ob,es,ep,t,e,c⟩:=x;exact ⟨ob,es,ep,t,k _ _ (.inl rfl) e,c⟩
  | ins C dx fs =>
    obtain ⟨d,z,ne,e,mA,⟨od,es,ep,e2,c⟩,r⟩:=x
    exact ⟨ho _ d,z,ne,k _ _ (.inl rfl) e,mA,⟨od,es,ep,k _ _ (.inr d) e2,c⟩,r⟩
  | own y=>obtain ⟨ob,e⟩:=x;exact ⟨ob,k _ _ (.inl rfl) e⟩
  | xd fs=>obtain ⟨mA,⟨od,es,ep,e,c⟩,r⟩:=x;exact ⟨mA,⟨od,es,ep,k _ _ (.inl rfl) e,c⟩,r⟩
  | rng lo hi=>obtain ⟨t,u,v,e⟩:=x;exact ⟨t,u,v,k _ _ (.inl rfl) e⟩
  | frz ob u ih=>obtain ⟨e,q⟩:=x;exact ⟨k _ _ (.inl rfl) e,ih q⟩
  | tbl ps =>
    have e:h.get? a=some { cls:=.none,data:=.fields ps }:=x
    show h'.get? a=some { cls:=.none,data:=.fields ps }
    exact k a _ (.inl rfl) e
  | met f y =>
    have e:h.get? a=some (PySem.W.methodObj (.ref f) (.ref y)):=x
    show h'.get? a=some (PySem.W.methodObj (.ref f) (.ref y))
    exact k a _ (.inl rfl) e
  | ext φ=>obtain ⟨p,⟨o,e⟩,st⟩:=x;exact ⟨st _ _ p fun o q=>k _ _ (.inl rfl) q,⟨o,k _ _ (.inl rfl) e⟩,st⟩
theorem HOk.lt (x:HOk P w H h) (e:H a=some o):a < h.objs.size:=(x a o e).lt
theorem HOk.fresh (x:HOk P w H h) (e:h.objs.size<=a):H a=none:=by
  cases q:H a with
  | none=>rfl
  | some u=>exact absurd (Nat.lt_of_lt_of_le (x.lt q) e) (Nat.lt_irrefl _)
theorem HOk.kept (x:HOk P w H h) (k:∀ b u,h.get? b=some u->h'.get? b=some u):HOk P w H h':=fun a o e =>
  (x a o e).stay (fun b u _ q=>k b u q) (fun _ q=>q) fun _ _ q=>q
theorem HOk.laid (x:HOk P w H h) (k:∀ b u,h.get? b=some u->h'.get? b=some u) (hp:h.objs.size<=a) (new:YJ P w (YV H a o) h' a o):HOk P w (YV H a o) h':=fun b u e=>by
  have hn:=x.fresh hp
  by_cases hb:b=a
  · subst hb;rw [Z1] at e;cases e;exact new
  · rw [ZG hb] at e
    exact (x b u e).stay (fun c v _ q=>k c v q) (fun c q=>by rw [ZG (Z4 q hn)];exact q) fun c xs q=>by rw [ZG (Z4 q hn)];exact q
end
def Rd (H:Hp) (a:Addr) (u:HO):Prop:=H a=some u\/∃ o,H a=some (.frz o u)
theorem Rd.of {H:Hp} {a:Addr} {u:HO} (h:H a=some u):Rd H a u:=.inl h
theorem Rd.ok {P:Program} {w:World} {H:Hp} {h:Heap} {a:Addr} {u:HO} (r:Rd H a u) (x:HOk P w H h):YJ P w H h a u:=by
  rcases r with r | ⟨o,r⟩
  · exact x a u r
  · obtain ⟨_,q⟩:=x a _ r
    exact q
def Mut:Option HO->Prop
  | some (.lst _)=>True
  | some (.dK _)=>True
  | some (.dT _)=>True
  | some (.set _ _)=>True
  | some (.ins _ _ _)=>True
  | some (.ext _)=>True
  | _=>False
section
variable {P:Program} {w:World} {H:Hp} {h h':Heap} {x e:Addr} {o':HO}
theorem HOk.write (ok:HOk P w H h) (mu:Mut (H x)) (he:e=x\/H e=some (.own x)) (k:∀ b u,b≠e->h.get? b=some u->h'.get? b=some u) (heo:∃ u,h'.get? e=some u)
    (new:YJ P w (YV H x o') h' x o'):HOk P w (YV H x o') h':=fun b u q=>by
  have nown:∀ c y,H c=some (.own y)->c≠x:=fun c y r z=>by subst z;rw [r] at mu;exact mu
  have ntup:∀ c xs,H c=some (.tup xs)->c≠x:=fun c xs r z=>by subst z;rw [r] at mu;exact mu
  by_cases hb:b=x
  · subst hb;rw [Z1] at q;cases q;exact new
  · rw [ZG hb] at q
    by_cases hbe:b=e
    · have q':H b=some (.own x):=by
        rcases he with z | z
        · exact absurd (hbe.trans z) hb
        · rw [hbe];exact z
      rw [q] at q';cases q'
      obtain ⟨v,hv⟩:=heo
      exact ⟨v,by rw [hbe];exact hv⟩
    · refine (ok b u q).stay (fun c v hc r=>k c v ?_ r) (fun c r=>by rw [ZG (nown c b r)];exact r) fun c xs r=>by rw [ZG (ntup c xs r)];exact r
      rcases hc with rfl | hc
      · exact hbe
      · rintro rfl
        rcases he with z | z
        · exact nown c b hc z
        · rw [hc] at z;cases z;exact hb rfl
end
structure Un (fs ex:List Addr) (H H':Hp) (h h':Heap):Prop where
  keep:∀ b o,h.get? b=some o->H b=none->b∉fs->b∉ex->h'.get? b=some o
  slot:∀ b o,h.get? b=some o->H b=none->b∈fs->b∉ex->∃ sl,h'.get? b=some { o with slots:=sl }
  free:∀ b o,h.get? b=some o->H b=none->b∉ex->H' b=none
  there:∀ b o,h.get? b=some o->b∉ex->∃ o',h'.get? b=some o'
  tups:∀ b xs,H b=some (.tup xs)->H' b=some (.tup xs)
  frzs:∀ b o u,H b=some (.frz o u)->H' b=some (.frz o u)
  tbls:∀ b ps,H b=some (.tbl ps)->∃ more,H' b=some (.tbl (ps++more))
section
variable {fs fs' ex ex':List Addr} {H H1 H2:Hp} {h h1 h2 h':Heap} {a x e:Addr} {o:HO}
theorem Un.any (u:Un fs ex H H1 h h1) {b:Addr} {ob:Obj} (q:h.get? b=some ob) (n:H b=none) (hx:b∉ex):∃ sl,h1.get? b=some { ob with slots:=sl }:=by
  by_cases hb:b∈fs
  · exact u.slot b ob q n hb hx
  · exact ⟨ob.slots,u.keep b ob q n hb hx⟩
theorem Un.trans (a:Un fs ex H H1 h h1) (b:Un fs ex H1 H2 h1 h2):Un fs ex H H2 h h2 where
  keep:=fun c ob q n hc hx=>b.keep c ob (a.keep c ob q n hc hx) (a.free c ob q n hx) hc hx
  slot:=fun c ob q n hc hx=>by
    obtain ⟨sl,e1⟩:=a.slot c ob q n hc hx
    obtain ⟨sl',e2⟩:=b.slot c _ e1 (a.free c ob q n hx) hc hx
    exact ⟨sl',e2⟩
  free:=fun c ob q n hx=>by
    obtain ⟨o',e1⟩:=a.there c ob q hx
    exact b.free c o' e1 (a.free c ob q n hx) hx
  there:=fun c ob q hx=>by
    obtain ⟨o',e1⟩:=a.there c ob q hx
    exact b.there c o' e1 hx
  tups:=fun c xs q=>b.tups c xs (a.tups c xs q)
  frzs:=fun c ob xs q=>b.frzs c ob xs (a.frzs c ob xs q)
  tbls:=fun c ps q=>by
    obtain ⟨m1,e1⟩:=a.tbls c ps q
    obtain ⟨m2,e2⟩:=b.tbls c _ e1
    exact ⟨m1++m2,by rw [e2,Array.append_assoc]⟩
theorem Un.kept (k:∀ b u,h.get? b=some u->h'.get? b=some u):Un fs ex H H h h' :=
  ⟨fun b ob q _ _ _=>k b ob q,fun b ob q _ _ _=>⟨ob.slots,k b ob q⟩,fun _ _ _ n _=>n,fun b ob q _=>⟨ob,k b ob q⟩,fun _ _ q=>q,fun _ _ _ q=>q,fun _ ps q=>⟨#[],by rw [q];simp⟩⟩
theorem Un.refl:Un fs ex H H h h:=Un.kept fun _ _ q=>q
theorem Un.laid (k:∀ b u,h.get? b=some u->h'.get? b=some u) (hp:h.objs.size<=a) (hn:H a=none):Un fs ex H (YV H a o) h h' where
  keep:=fun b u q _ _ _=>k b u q
  slot:=fun b u q _ _ _=>⟨u.slots,k b u q⟩
  free:=fun b u q n _=>by rw [ZG (Nat.ne_of_lt (Nat.lt_of_lt_of_le (Heap.lt_size q) hp))];exact n
  there:=fun b u q _=>⟨u,k b u q⟩
  tups:=fun b xs q=>by rw [ZG (Z4 q hn)];exact q
  frzs:=fun b u xs q=>by rw [ZG (Z4 q hn)];exact q
  tbls:=fun b ps q=>⟨#[],by rw [ZG (Z4 q hn),q];simp⟩
theorem Un.write (mu:Mut (H x)) (he:e=x\/H e=some (.own x)) (k:∀ b u,b≠e->h.get? b=some u->h'.get? b=some u) (heo:∃ u,h'.get? e=some u):Un fs ex H (YV H x o) h h':=by
  have hx:∀ b,H b=none->b≠x:=fun b n z=>by subst z;rw [n] at mu;exact mu
  have hb:∀ b,H b=none->b≠e:=fun b n z=>by
    subst z
    rcases he with r | r
    · exact hx b n r
    · rw [n] at r;cases r
  have hm:∀ b u,H b=some u->¬ Mut (some u)->b≠x:=fun b u q nm z=>by subst z;rw [q] at mu;exact nm mu
  refine ⟨fun b u q n _ _=>k b u (hb b n) q,fun b u q n _ _=>⟨u.slots,k b u (hb b n) q⟩,fun b u q n _=>by rw [ZG (hx b n)];exact n,fun b u q _=>?_,
    fun b xs q=>by rw [ZG (hm b _ q fun z=>z)];exact q,fun b u xs q=>by rw [ZG (hm b _ q fun z=>z)];exact q,fun b ps q=>⟨#[],by rw [ZG (hm b _ q fun z=>z),q];simp⟩⟩
  by_cases hbe:b=e
  · subst hbe;exact heo
  · exact ⟨u,k b u hbe q⟩
theorem Un.mono (u:Un fs ex H H1 h h1) (hs:∀ b∈fs,b∈fs') (hx:∀ b∈ex,b∈ex'):Un fs' ex' H H1 h h1 :=
  ⟨fun b ob q n hb he=>u.keep b ob q n (fun z=>hb (hs b z)) fun z=>he (hx b z),fun _ _ q n _ he=>u.any q n fun z=>he (hx _ z),fun b ob q n he=>u.free b ob q n fun z=>he (hx b z),fun b ob q he=>u.there b ob q fun z=>he (hx b z),u.tups,u.frzs,u.tbls⟩
end
def trk (h:Heap) (H:Hp):List Addr:=(List.range h.objs.size).filter fun a=>(H a).isSome
def hidT (h:Heap) (H:Hp):Heap:=PySem.W.hideAll h (trk h H)
theorem hidT_size (h:Heap) (H:Hp):(hidT h H).objs.size=h.objs.size:=PySem.W.hideAll_size _ _
theorem hidT_get {h:Heap} {H:Hp} {b:Addr} {o:Obj} (e:h.get? b=some o) (n:H b=none):(hidT h H).get? b=some o :=
  PySem.W.hideAll_get _ e fun hm=>by
    have q:(H b).isSome=true:=(List.mem_filter.mp hm).2
    rw [n] at q;simp at q
theorem of_hidT {h:Heap} {H:Hp} {b:Addr} {o:Obj} (e:(hidT h H).get? b=some o):h.get? b=some o/\H b=none:=by
  have e':h.get? b=some o:=PySem.W.of_hideAll (trk h H) e
  refine ⟨e',?_⟩
  cases q:H b with
  | none=>rfl
  | some x =>
    have hm:b∈trk h H:=List.mem_filter.mpr ⟨List.mem_range.mpr (Heap.lt_size e'),by simp [q]⟩
    have z:(hidT h H).get? b=none:=PySem.W.hideAll_none (trk h H) hm
    rw [z] at e;cases e
def allNews (g h:Heap) (L:Addr):List (Addr×Obj):=(List.range h.objs.size).filterMap fun a=>if a=L\/(g.get? a).isSome=true then none else (h.get? a).map fun o=>(a,o)
def XX (g h:Heap) (L d:Addr):List (Addr×Obj):=(allNews g h L).filter fun p=>decide (p.1≠d)
end L2
namespace L2
open PySem PySem.Spec PyProof.Rows
structure Mod (K:PySem.W.Frag) (mg:Str->Option Value) (base:Heap):Prop where
  kin:K.In base
  glob:base.Ns mainGlobals mg
  blt:∃ mb,base.Ns builtinsNs mb/\∀ x:Str,x≠"__name__"->mb x=bootBuiltins x
  nolimit:base.NoLimit
structure Cx where
  prog:Program
  w:World
  K:PySem.W.Frag
  mg:Str->Option Value
  base:Heap
  A:Around
  N:List Str
  s₀:Shared
  H₀:Hp
  env:Env
  outer:List Env
  stack:List Env
  ex:List Addr
  fn:Str->Bool
  calm:Bool
  pn:List (Addr×Obj)
  xe:Value->Shared->Prop
def frs (l:List Env):List Addr:=l.filterMap (·.frame)
abbrev Cx.fs (X:Cx):List Addr:=frs X.outer
def Vis (sc:Scope) (x:Str):Prop:=sc.names.lookup x=some .local\/sc.names.lookup x=some .cell\/sc.names.lookup x=some .free
def Loc (sc:Scope) (x:Str):Prop:=sc.names.lookup x=some .local\/sc.names.lookup x=some .cell
def Look (env:Env) (h:Heap) (m:Str->Option Value) (x:Str) (u:Value):Prop :=
  (env.kindOf x=some .local/\m x=some u)\/((env.kindOf x=some .cell\/env.kindOf x=some .free)/\∃ c,env.cells.lookup x=some c/\h.IsCell c (some u))
structure Cx.Ok (X:Cx):Prop where
  mod:Mod X.K X.mg X.base
  kind:X.env.scope.kind=.function
  glob:X.env.globals=mainGlobals
  blt:X.env.builtins=builtinsNs
  above:X.s₀.heap.objs.size<=X.env.locals
  inj:∀ x y c,X.env.cells.lookup x=some c->X.env.cells.lookup y=some c->x=y
  has:∀ x,(X.env.kindOf x=some .cell\/X.env.kindOf x=some .free)->∃ c,X.env.cells.lookup x=some c
  cab:∀ x c,X.fn x=true->X.env.cells.lookup x=some c->X.s₀.heap.objs.size<=c
  hd:X.calm=true->X.A.handled=none
  frames:X.A.frames=some X.stack
  stk:X.stack=X.outer\/(X.stack=X.env::X.outer/\X.env.frame=some X.env.locals)
  exf:∀ b∈X.ex,b≠X.env.locals/\∀ x c,X.env.cells.lookup x=some c->c≠b
  bs:∀ b o,X.base.get? b=some o->X.s₀.heap.get? b=some o/\X.H₀ b=none
  bsz:X.base.objs.size<=X.s₀.heap.objs.size
  noex:∀ b o,X.base.get? b=some o->b∉X.ex
  exfs:∀ b∈X.ex,b∉X.fs
  funs:X.s₀.heap.FunFrames X.base X.outer
  frf:∀ b∈X.fs,X.H₀ b=none
structure ZE (X:Cx) (pins:List (Addr×Obj)) (σ:List (Option V)) (H:Hp) (s:Shared):Prop where
  ok:X.Ok
  os:s.os=X.s₀.os
  bare:AllBare s.gens
  base:Un X.fs X.ex X.H₀ H X.s₀.heap s.heap
  loc:∃ m,s.heap.Ns X.env.locals m/\∀ (i:Nat) (x:Str) (v:V),X.N[i]?=some x->σ[i]?=some (some v)->Vis X.env.scope x->∃ u,Ya v u/\Look X.env s.heap m x u
  cell:∀ x c,X.env.cells.lookup x=some c->∃ v,s.heap.IsCell c v
  free:H X.env.locals=none
  freeC:∀ x c,X.env.cells.lookup x=some c->H c=none
  pin:∀ p∈X.pn++pins,s.heap.get? p.1=some p.2/\H p.1=none/\p.1≠X.env.locals/\p.1∉X.fs/\∀ v,p.2.data≠.cell v
  hok:HOk X.prog X.w H s.heap
  len:σ.length=X.N.length
section
variable {X:Cx} {pins:List (Addr×Obj)} {σ:List (Option V)} {H H':Hp} {s:Shared} {h':Heap}
theorem Cx.Ok.nofr (ok:X.Ok) {b:Addr} {o:Obj} (e:X.base.get? b=some o):b∉X.fs:=fun hb=>by
  have:=(ok.funs.mem hb).1
  rw [e] at this;cases this
theorem ZE.bs (I:ZE X pins σ H s):∀ b o,X.base.get? b=some o->s.heap.get? b=some o/\H b=none:=fun b o e =>
  ⟨I.base.keep b o (I.ok.bs b o e).1 (I.ok.bs b o e).2 (I.ok.nofr e) (I.ok.noex b o e),I.base.free b o (I.ok.bs b o e).1 (I.ok.bs b o e).2 (I.ok.noex b o e)⟩
theorem ZE.bk (I:ZE X pins σ H s):∀ b o,X.base.get? b=some o->s.heap.get? b=some o:=fun b o e=>(I.bs b o e).1
theorem ZE.mod (I:ZE X pins σ H s):Mod X.K X.mg X.base:=I.ok.mod
theorem ZE.kIn (I:ZE X pins σ H s):X.K.In s.heap:=I.ok.mod.kin.keeps I.bk
theorem ZE.nolimit (I:ZE X pins σ H s):s.heap.NoLimit:=I.ok.mod.nolimit.keeps I.bk
theorem ZE.fr (I:ZE X pins σ H s):∃ m,Fr X.base X.env.locals s.heap m :=
  let ⟨m,hn,_⟩:=I.loc
  ⟨m,hn,I.bk,Nat.le_trans I.ok.bsz I.ok.above⟩
theorem ZE.lt (I:ZE X pins σ H s):X.env.locals < s.heap.objs.size:=let ⟨_,hn,_⟩:=I.loc;hn.lt
theorem ZE.sz (I:ZE X pins σ H s):X.s₀.heap.objs.size<=s.heap.objs.size:=Nat.le_trans I.ok.above (Nat.le_of_lt I.lt)
theorem ZE.nofs (I:ZE X pins σ H s) {a:Addr} (h:s.heap.objs.size<=a):a∉X.fs:=fun hb=>by
  obtain ⟨_,o,ho,_⟩:=I.ok.funs.mem hb
  exact absurd (Nat.lt_of_lt_of_le (Heap.lt_size ho) (Nat.le_trans I.sz h)) (Nat.lt_irrefl _)
theorem ZE.cne (I:ZE X pins σ H s):∀ x c,X.env.cells.lookup x=some c->c≠X.env.locals:=fun x c e z=>by
  obtain ⟨v,o,ho,hd⟩:=I.cell x c e
  obtain ⟨m,⟨o',es,ep,ho',hd',_⟩,_⟩:=I.loc
  rw [z,ho'] at ho;cases ho;rw [hd'] at hd;cases hd
theorem ZE.funs (I:ZE X pins σ H s):s.heap.FunFrames X.base X.outer:=by
  have all:∀ (l:List Env),(∀ b∈frs l,b∈X.fs)->X.s₀.heap.FunFrames X.base l->s.heap.FunFrames X.base l:=by
    intro l
    induction l with
    | nil=>intro _ _;trivial
    | cons env r ih =>
      intro hs hl
      obtain ⟨hk,⟨L,o,hf,hn,ho,hd⟩,hr⟩:=hl
      have hL:L∈X.fs:=hs L (by unfold frs;rw [List.filterMap_cons,hf];exact List.mem_cons_self)
      obtain ⟨sl,e⟩:=I.base.slot L o ho (I.ok.frf L hL) hL fun z=>I.ok.exfs L z hL
      exact ⟨hk,⟨L,_,hf,hn,e,hd⟩,ih (fun b hb=>hs b (by unfold frs;rw [List.filterMap_cons,hf];exact List.mem_cons_of_mem _ hb)) hr⟩
  exact all X.outer (fun _ hb=>hb) I.ok.funs
theorem ZE.stack (I:ZE X pins σ H s):s.heap.FunFrames X.base X.stack:=by
  rcases I.ok.stk with e | ⟨e,hf⟩
  · rw [e];exact I.funs
  · rw [e]
    obtain ⟨m,hn,_⟩:=I.loc
    refine .cons (by rw [I.ok.kind];decide) hf hn ?_ I.funs
    exact Heap.get?_none_of_le (Nat.le_trans I.ok.bsz I.ok.above)
theorem ZE.stkSub (I:ZE X pins σ H s):∀ b∈frs X.stack,b∈X.env.locals::X.fs:=fun b hb=>by
  rcases I.ok.stk with e | ⟨e,hf⟩
  · rw [e] at hb;exact List.mem_cons_of_mem _ hb
  · rw [e] at hb
    unfold frs at hb
    rw [List.filterMap_cons,hf] at hb
    exact hb
theorem ZE.stkFree (I:ZE X pins σ H s):∀ b∈frs X.stack,H b=none:=fun b hb=>by
  rcases List.mem_cons.mp (I.stkSub b hb) with e | hb
  · rw [e];exact I.free
  · obtain ⟨_,o,ho,_⟩:=I.ok.funs.mem hb
    exact I.base.free b o ho (I.ok.frf b hb) fun z=>I.ok.exfs b z hb
theorem ZE.step {g':Array GenState} {t':Nat} {d':Drawn} {ch:List Addr} (I:ZE X pins σ H s)
    (hch:∀ b∈ch,(b∈X.ex\/X.s₀.heap.objs.size<=b)/\b≠X.env.locals/\(∀ x c,X.env.cells.lookup x=some c->c≠b)/\∀ p∈X.pn++pins,p.1≠b)
    (keep:∀ b o,b≠X.env.locals->b∉X.fs->b∉ch->s.heap.get? b=some o->H b=none->h'.get? b=some o)
    (slot:∀ b o,b≠X.env.locals->b∈X.fs->b∉ch->s.heap.get? b=some o->H b=none->∃ sl,h'.get? b=some { o with slots:=sl }) (free:∀ b o,b∉ch->s.heap.get? b=some o->H b=none->H' b=none)
    (there:∀ b o,b∉ch->s.heap.get? b=some o->∃ o',h'.get? b=some o')
    (tups:∀ b xs,H b=some (.tup xs)->H' b=some (.tup xs)) (frzs:∀ b o u,H b=some (.frz o u)->H' b=some (.frz o u)) (tbls:∀ b ps,H b=some (.tbl ps)->∃ more,H' b=some (.tbl (ps++more)))
    (ns:∀ m,s.heap.Ns X.env.locals m->h'.Ns X.env.locals m) (hok:HOk X.prog X.w H' h') (hg:AllBare g') :
    ZE X pins σ H' { s with heap:=h',gens:=g',drawn:=d',toks:=t' }:=by
  have neL:∀ b o,X.s₀.heap.get? b=some o->b≠X.env.locals:=fun b o e=>Nat.ne_of_lt (Nat.lt_of_lt_of_le (Heap.lt_size e) I.ok.above)
  have neC:∀ b o,X.s₀.heap.get? b=some o->b∉X.ex->b∉ch:=fun b o e hx hb=>by
    rcases (hch b hb).1 with z | z
    · exact hx z
    · exact absurd (Nat.lt_of_lt_of_le (Heap.lt_size e) z) (Nat.lt_irrefl _)
  have cellK:∀ x c,X.env.cells.lookup x=some c->∀ v,s.heap.IsCell c v->h'.IsCell c v:=fun x c e v ⟨o,ho,hd⟩=>by
    have nch:c∉ch:=fun z=>(hch c z).2.2.1 x c e rfl
    by_cases hc:c∈X.fs
    · obtain ⟨sl,q⟩:=slot c o (I.cne x c e) hc nch ho (I.freeC x c e)
      exact ⟨_,q,hd⟩
    · exact ⟨o,keep c o (I.cne x c e) hc nch ho (I.freeC x c e),hd⟩
  refine ⟨I.ok,I.os,hg,⟨fun b o e n hb hx=>?_,fun b o e n hb hx=>?_,fun b o e n hx=>?_,fun b o e hx=>?_,fun b xs e=>tups b xs (I.base.tups b xs e),fun b o xs e=>frzs b o xs (I.base.frzs b o xs e),fun b ps e=>?_⟩,?_,fun x c e=>?_,?_,fun x c e=>?_,fun p hp=>?_,hok,I.len⟩
  · exact keep b o (neL b o e) hb (neC b o e hx) (I.base.keep b o e n hb hx) (I.base.free b o e n hx)
  · obtain ⟨sl,e1⟩:=I.base.slot b o e n hb hx
    obtain ⟨sl',e2⟩:=slot b _ (neL b o e) hb (neC b o e hx) e1 (I.base.free b o e n hx)
    exact ⟨sl',e2⟩
  · obtain ⟨o',e1⟩:=I.base.there b o e hx
    exact free b o' (neC b o e hx) e1 (I.base.free b o e n hx)
  · obtain ⟨o',e1⟩:=I.base.there b o e hx
    exact there b o' (neC b o e hx) e1
  · obtain ⟨m1,e1⟩:=I.base.tbls b ps e
    obtain ⟨m2,e2⟩:=tbls b _ e1
    exact ⟨m1++m2,by rw [e2,Array.append_assoc]⟩
  · obtain ⟨m,hn,hl⟩:=I.loc
    refine ⟨m,ns m hn,fun i x v e1 e2 e3=>?_⟩
    obtain ⟨u,r,l⟩:=hl i x v e1 e2 e3
    refine ⟨u,r,?_⟩
    rcases l with l | ⟨k,c,e,z⟩
    · exact .inl l
    · exact .inr ⟨k,c,e,cellK x c e _ z⟩
  · obtain ⟨v,z⟩:=I.cell x c e
    exact ⟨v,cellK x c e v z⟩
  · obtain ⟨m,⟨o,_,_,ho,_⟩,_⟩:=I.loc
    exact free _ o (fun z=>(hch _ z).2.1 rfl) ho I.free
  · obtain ⟨v,o,ho,hd⟩:=I.cell x c e
    exact free c o (fun z=>(hch c z).2.2.1 x c e rfl) ho (I.freeC x c e)
  · obtain ⟨e,n,ne,nf,d⟩:=I.pin p hp
    have nch:p.1∉ch:=fun z=>(hch p.1 z).2.2.2 p hp rfl
    exact ⟨keep p.1 p.2 ne nf nch e n,free p.1 p.2 nch e n,ne,nf,d⟩
theorem ZE.un {t':Nat} (I:ZE X pins σ H s) (u:Un X.fs [] H H' s.heap h') (hok:HOk X.prog X.w H' h'):ZE X pins σ H' { s with heap:=h',toks:=t' }:=by
  obtain ⟨m,⟨o,es,ep,ho,r⟩,_⟩:=id I.loc
  obtain ⟨sl,hL⟩:=u.any ho I.free (by simp)
  exact I.step (g':=s.gens) (d':=s.drawn) (ch:=[]) (fun _ z=>nomatch z) (fun b o _ hb _ e n=>u.keep b o e n hb (by simp)) (fun b o _ hb _ e n=>u.slot b o e n hb (by simp)) (fun b o _ e n=>u.free b o e n (by simp)) (fun b o _ e=>u.there b o e (by simp)) u.tups u.frzs u.tbls (fun m' hm=>by
    obtain ⟨o',es',ep',ho',r'⟩:=hm
    rw [ho] at ho';cases ho'
    exact ⟨_,es',ep',hL,r'⟩) hok I.bare
theorem ZE.call {g':Array GenState} {t':Nat} {d':Drawn} {ch:List Addr} (I:ZE X pins σ H s) (u:Un (frs X.stack) ch H H' s.heap h') (hok:HOk X.prog X.w H' h') (hg:AllBare g')
    (hch:∀ b∈ch,(b∈X.ex\/X.s₀.heap.objs.size<=b)/\b≠X.env.locals/\(∀ x c,X.env.cells.lookup x=some c->c≠b)/\∀ p∈X.pn++pins,p.1≠b) :
    ZE X pins σ H' { s with heap:=h',gens:=g',drawn:=d',toks:=t' }:=by
  obtain ⟨m,⟨o,es,ep,ho,r⟩,_⟩:=id I.loc
  obtain ⟨sl,hL⟩:=u.any ho I.free fun z=>(hch _ z).2.1 rfl
  exact I.step (ch:=ch) hch (fun b o hL hb hc e n=>u.keep b o e n (fun z=>(List.mem_cons.mp (I.stkSub b z)).elim hL hb) hc) (fun b o _ _ hc e n=>u.any e n hc) (fun b o hc e n=>u.free b o e n hc) (fun b o hc e=>u.there b o e hc) u.tups u.frzs u.tbls (fun m' hm=>by
    obtain ⟨o',es',ep',ho',r'⟩:=hm
    rw [ho] at ho';cases ho'
    exact ⟨_,es',ep',hL,r'⟩) hok hg
theorem ZE.turned {t':Nat} {it:Addr} (I:ZE X pins σ H s) (k:∀ b o,b≠it->s.heap.get? b=some o->h'.get? b=some o) (hn:H it=none) (hL:it≠X.env.locals)
    (h1:it∈X.ex\/X.s₀.heap.objs.size<=it) (h2:∀ x c,X.env.cells.lookup x=some c->c≠it) (h3:∀ p∈X.pn++pins,p.1≠it):ZE X pins σ H { s with heap:=h',toks:=t' }:=by
  have nit:∀ b u,H b=some u->b≠it:=fun b u e z=>by rw [z,hn] at e;cases e
  refine I.step (g':=s.gens) (d':=s.drawn) (ch:=[it]) (fun b hb=>?_) (fun b o _ _ hc e _=>k b o (fun z=>hc (by simp [z])) e) (fun b o _ _ hc e _=>⟨o.slots,k b o (fun z=>hc (by simp [z])) e⟩) (fun _ _ _ _ n=>n)
    (fun b o hc e=>⟨o,k b o (fun z=>hc (by simp [z])) e⟩) (fun _ _ e=>e) (fun _ _ _ e=>e) (fun b ps e=>⟨#[],by rw [e];simp⟩) (fun m hm=>?_) (fun b u e=>?_) I.bare
  · have e:b=it:=by simpa using hb
    subst e
    exact ⟨h1,hL,h2,h3⟩
  · obtain ⟨o,es,ep,ho,r⟩:=hm
    exact ⟨o,es,ep,k _ o (Ne.symm hL) ho,r⟩
  · refine (I.hok b u e).stay (fun c v hc q=>k c v ?_ q) (fun _ q=>q) fun _ _ q=>q
    rcases hc with z | z
    · rw [z];exact nit b u e
    · exact nit c _ z
theorem ZE.tok (I:ZE X pins σ H s) (t:Nat):ZE X pins σ H { s with toks:=t }:=I.un (h':=s.heap) (t':=t) Un.refl I.hok
theorem ZE.kept {t':Nat} (I:ZE X pins σ H s) (k:∀ b u,s.heap.get? b=some u->h'.get? b=some u):ZE X pins σ H { s with heap:=h',toks:=t' }:=I.un (Un.kept k) (I.hok.kept k)
theorem ZE.laid {a:Addr} {o:HO} {t':Nat} (I:ZE X pins σ H s) (k:∀ b u,s.heap.get? b=some u->h'.get? b=some u) (hp:s.heap.objs.size<=a) (new:YJ X.prog X.w (YV H a o) h' a o) :
    ZE X pins σ (YV H a o) { s with heap:=h',toks:=t' }:=I.un (Un.laid k hp (I.hok.fresh hp)) (I.hok.laid k hp new)
theorem ZE.write {x e:Addr} {o:HO} {t':Nat} (I:ZE X pins σ H s) (mu:Mut (H x)) (he:e=x\/H e=some (.own x)) (k:∀ b u,b≠e->s.heap.get? b=some u->h'.get? b=some u) (heo:∃ u,h'.get? e=some u)
    (new:YJ X.prog X.w (YV H x o) h' x o):ZE X pins σ (YV H x o) { s with heap:=h',toks:=t' }:=I.un (Un.write mu he k heo) (I.hok.write mu he k heo new)
theorem ZE.weak {σ':List (Option V)} (I:ZE X pins σ H s) (hl:σ'.length=σ.length) (w:∀ (i:Nat) v,σ'[i]?=some (some v)->σ[i]?=some (some v)):ZE X pins σ' H s :=
  ⟨I.ok,I.os,I.bare,I.base,let ⟨m,hn,hl'⟩:=I.loc;⟨m,hn,fun i x v e1 e2 e3=>hl' i x v e1 (w i v e2) e3⟩,I.cell,I.free,I.freeC,I.pin,I.hok,hl.trans I.len⟩
theorem ZE.pins_of {pins':List (Addr×Obj)} (I:ZE X pins σ H s) (h:∀ p∈pins',s.heap.get? p.1=some p.2/\H p.1=none/\p.1≠X.env.locals/\p.1∉X.fs/\∀ v,p.2.data≠.cell v):ZE X pins' σ H s :=
  ⟨I.ok,I.os,I.bare,I.base,I.loc,I.cell,I.free,I.freeC,fun p hp=>(List.mem_append.mp hp).elim (fun z=>I.pin p (List.mem_append_left _ z)) (h p),I.hok,I.len⟩
theorem nodup_ix {N:List Str} (hN:N.Nodup) {i j:Nat} {x:Str} (a:N[i]?=some x) (b:N[j]?=some x):i=j:=by
  obtain ⟨h1,e1⟩:=List.getElem?_eq_some_iff.mp a
  obtain ⟨h2,e2⟩:=List.getElem?_eq_some_iff.mp b
  exact (List.getElem_inj hN).mp (e1.trans e2.symm)
theorem store_ok2 {M:Model} {A:Around} {E:Value->Shared->Prop} {i:Nat} {x:Str} {v:V} {u:Value} {Q:Unit->Shared->Prop} (I:ZE X pins σ H s) (hN:X.N.Nodup) (hi:X.N[i]?=some x) (hx:Loc X.env.scope x) (r:Ya v u)
    (h:∀ s',ZE X pins (σ.set i (some v)) H s'->(∃ a,Heap.SameBut a s.heap s'.heap/\(a=X.env.locals\/X.env.cells.lookup x=some a))->Q () s') (hf:X.fn x=true\/X.env.scope.names.lookup x=some .local:=by first | exact .inl rfl | exact .inr rfl | assumption):wpAny M A (storeName X.env x u) Q E s:=by
  obtain ⟨m,hn,hl⟩:=id I.loc
  have hcls:(X.env.scope.kind == .class || (X.env.scope.kind == .module && X.env.locals != X.env.globals))=false:=by rw [I.ok.kind];rfl
  have hiσ:i < σ.length:=by rw [I.len];exact (List.getElem?_eq_some_iff.mp hi).1
  have cne:=I.cne
  have tracked:∀ {a:Addr} {h':Heap},(∃ o,s.heap.get? a=some o/\H a=none)->Heap.SameBut a s.heap h'->HOk X.prog X.w H h':=fun {a h'} ha hs b ob e=>by
    obtain ⟨_,_,hfree⟩:=ha
    refine (I.hok b ob e).stay (fun c w' hc q=>(hs.2 c ?_).trans q) (fun _ q=>q) fun _ _ q=>q
    rintro rfl
    rcases hc with rfl | hc
    · rw [hfree] at e;cases e
    · rw [hfree] at hc;cases hc
  rcases hx with hk | hk
  · refine wpAny_storeName_local hk hn (fun h' hn' hs=>?_) hcls
    obtain ⟨oL,_,_,hoL,_⟩:=id hn
    refine h _ ⟨I.ok,I.os,I.bare,⟨fun b o e n hb hx=>?_,fun b o e n hb hx=>?_,I.base.free,fun b o e hx=>?_,I.base.tups,I.base.frzs,I.base.tbls⟩,⟨_,hn',fun j y v' e1 e2 e3=>?_⟩,fun y c e=>?_,I.free,I.freeC,fun p hp=>?_,tracked ⟨oL,hoL,I.free⟩ hs,by simpa using I.len⟩ ⟨_,hs,.inl rfl⟩
    · exact (hs.2 b (Nat.ne_of_lt (Nat.lt_of_lt_of_le (Heap.lt_size e) I.ok.above))).trans (I.base.keep b o e n hb hx)
    · obtain ⟨sl,e1⟩:=I.base.slot b o e n hb hx
      exact ⟨sl,(hs.2 b (Nat.ne_of_lt (Nat.lt_of_lt_of_le (Heap.lt_size e) I.ok.above))).trans e1⟩
    · obtain ⟨o',e1⟩:=I.base.there b o e hx
      exact ⟨o',(hs.2 b (Nat.ne_of_lt (Nat.lt_of_lt_of_le (Heap.lt_size e) I.ok.above))).trans e1⟩
    · by_cases hj:j=i
      · subst hj
        rw [hi] at e1;cases e1
        rw [List.getElem?_set_self hiσ] at e2
        cases e2
        exact ⟨u,r,.inl ⟨hk,by simp⟩⟩
      · rw [List.getElem?_set_ne (Ne.symm hj)] at e2
        obtain ⟨u',r',q⟩:=hl j y v' e1 e2 e3
        refine ⟨u',r',?_⟩
        rcases q with ⟨k,e⟩ | ⟨k,c,e,z⟩
        · refine .inl ⟨k,?_⟩
          have:y≠x:=fun e=>hj (nodup_ix hN e1 (e ▸ hi))
          simp [this,e]
        · exact .inr ⟨k,c,e,z.sameBut hs (cne y c e)⟩
    · obtain ⟨w',z⟩:=I.cell y c e
      exact ⟨w',z.sameBut hs (cne y c e)⟩
    · obtain ⟨e,n,ne,nf,d⟩:=I.pin p hp
      exact ⟨(hs.2 p.1 ne).trans e,n,ne,nf,d⟩
  · have hfn:X.fn x=true:=by
      rcases hf with z | z
      · exact z
      · rw [z] at hk;cases hk
    obtain ⟨c,hc⟩:=I.ok.has x (.inl hk)
    obtain ⟨w',z⟩:=I.cell x c hc
    refine wpAny_storeName_cell I.ok.kind hk hc z (fun h' hc' hs=>?_)
    obtain ⟨oc,hoc,hocd⟩:=id z
    refine h { s with heap:=h' } ⟨I.ok,I.os,I.bare,⟨fun b o e n hb hx=>?_,fun b o e n hb hx=>?_,I.base.free,fun b o e hx=>?_,I.base.tups,I.base.frzs,I.base.tbls⟩,⟨m,hn.sameBut hs (Ne.symm (cne x c hc)),fun j y v' e1 e2 e3=>?_⟩,fun y c' e=>?_,I.free,I.freeC,fun p hp=>?_,tracked ⟨oc,hoc,I.freeC x c hc⟩ hs,by simpa using I.len⟩ ⟨c,hs,.inr hc⟩
    · exact (hs.2 b (Nat.ne_of_lt (Nat.lt_of_lt_of_le (Heap.lt_size e) (I.ok.cab x c hfn hc)))).trans (I.base.keep b o e n hb hx)
    · obtain ⟨sl,e1⟩:=I.base.slot b o e n hb hx
      exact ⟨sl,(hs.2 b (Nat.ne_of_lt (Nat.lt_of_lt_of_le (Heap.lt_size e) (I.ok.cab x c hfn hc)))).trans e1⟩
    · obtain ⟨o',e1⟩:=I.base.there b o e hx
      exact ⟨o',(hs.2 b (Nat.ne_of_lt (Nat.lt_of_lt_of_le (Heap.lt_size e) (I.ok.cab x c hfn hc)))).trans e1⟩
    · by_cases hj:j=i
      · subst hj
        rw [hi] at e1;cases e1
        rw [List.getElem?_set_self hiσ] at e2
        cases e2
        exact ⟨u,r,.inr ⟨.inl hk,c,hc,hc'⟩⟩
      · rw [List.getElem?_set_ne (Ne.symm hj)] at e2
        obtain ⟨u',r',q⟩:=hl j y v' e1 e2 e3
        refine ⟨u',r',?_⟩
        rcases q with q | ⟨k,c',e,z'⟩
        · exact .inl q
        · refine .inr ⟨k,c',e,z'.sameBut hs ?_⟩
          rintro rfl
          exact hj (nodup_ix hN e1 (I.ok.inj _ _ _ e hc ▸ hi))
    · by_cases hcc:c'=c
      · subst hcc;exact ⟨_,hc'⟩
      · obtain ⟨w2,z2⟩:=I.cell y c' e
        exact ⟨w2,z2.sameBut hs hcc⟩
    · obtain ⟨e,n,ne,nf,d⟩:=I.pin p hp
      refine ⟨(hs.2 p.1 ?_).trans e,n,ne,nf,d⟩
      intro q
      rw [q,hoc] at e
      have q':oc=p.2:=Option.some.inj e
      exact d w' (by rw [<- q'];exact hocd)
theorem store_ok {M:Model} {A:Around} {E:Value->Shared->Prop} {i:Nat} {x:Str} {v:V} {u:Value} {Q:Unit->Shared->Prop} (I:ZE X pins σ H s) (hN:X.N.Nodup) (hi:X.N[i]?=some x) (hx:Loc X.env.scope x) (r:Ya v u)
    (h:∀ s',ZE X pins (σ.set i (some v)) H s'->Q () s') (hf:X.fn x=true\/X.env.scope.names.lookup x=some .local:=by first | exact .inl rfl | exact .inr rfl | assumption):wpAny M A (storeName X.env x u) Q E s :=
  store_ok2 I hN hi hx r (fun s' I' _=>h s' I') hf
theorem ZE.call' {s':Shared} {ch:List Addr} (I:ZE X pins σ H s) (ho:s'.os=s.os) (u:Un (frs X.stack) ch H H' s.heap s'.heap) (hok:HOk X.prog X.w H' s'.heap) (hg:AllBare s'.gens)
    (hch:∀ b∈ch,(b∈X.ex\/X.s₀.heap.objs.size<=b)/\b≠X.env.locals/\(∀ x c,X.env.cells.lookup x=some c->c≠b)/\∀ p∈X.pn++pins,p.1≠b):ZE X pins σ H' s':=by
  obtain ⟨h',g',d',t',o'⟩:=s'
  have e:o'=s.os:=ho
  subst e
  exact I.call (g':=g') (t':=t') (d':=d') u hok hg hch
end
abbrev XK:=Value->Option Addr->Hp->Prop
abbrev St:=List (Option V)
abbrev VK:=V->Hp->Prop
abbrev TE:=St->Hp->VK->Prop
abbrev TT:=St->Hp->(Bool->Hp->Prop)->Prop
abbrev TA:=St->Hp->(List V->Hp->Prop)->Prop
structure Ends where
  nx:St->Hp->Prop
  rt:VK
  bk:St->Hp->Prop:=fun _ _=>False
  ct:St->Hp->Prop:=fun _ _=>False
abbrev TS:=Ends->St->Hp->Prop
def EP (X:Cx) (pins:List (Addr×Obj)) (σ:St) (Q:VK) (u:Value) (s':Shared):Prop:=∃ v H',ZE X pins σ H' s'/\Ya v u/\Q v H'
def TP (X:Cx) (pins:List (Addr×Obj)) (σ:St) (Q:Bool->Hp->Prop) (b:Bool) (s':Shared):Prop:=∃ H',ZE X pins σ H' s'/\Q b H'
def AP (X:Cx) (pins:List (Addr×Obj)) (σ:St) (Q:List V->Hp->Prop) (us:List Value) (s':Shared):Prop:=∃ vs H',ZE X pins σ H' s'/\ZQ vs us/\Q vs H'
def SP (X:Cx) (pins:List (Addr×Obj)) (D:Ends) (f:Flow) (s':Shared):Prop :=
  match f with
  | .next=>∃ σ' H',ZE X pins σ' H' s'/\D.nx σ' H'
  | .brk=>∃ σ' H',ZE X pins σ' H' s'/\D.bk σ' H'
  | .cont=>∃ σ' H',ZE X pins σ' H' s'/\D.ct σ' H'
  | .ret u=>∃ v σ' H',ZE X pins σ' H' s'/\Ya v u/\D.rt v H'
def PE (X:Cx) (e:Expr) (t:TE):Prop :=
  ∀ (pins:List (Addr×Obj)) (s:Shared) (σ:St) (H:Hp) (Q:VK),ZE X pins σ H s->t σ H Q->wpAny (model X.prog X.w) X.A (eval e X.env) (EP X pins σ Q) X.xe s
def PT (X:Cx) (e:Expr) (t:TT):Prop :=
  ∀ (pins:List (Addr×Obj)) (s:Shared) (σ:St) (H:Hp) (Q:Bool->Hp->Prop),ZE X pins σ H s->t σ H Q->wpAny (model X.prog X.w) X.A (isTrue e X.env (eval e X.env)) (TP X pins σ Q) X.xe s
def PW (X:Cx) (e:Expr) (t:TT):Prop :=
  ∀ (whole:Sem Value) (pins:List (Addr×Obj)) (s:Shared) (σ:St) (H:Hp) (Q:Bool->Hp->Prop),ZE X pins σ H s->t σ H Q->wpAny (model X.prog X.w) X.A (isTrue e X.env whole) (TP X pins σ Q) X.xe s
theorem PW.pt {X:Cx} {e:Expr} {t:TT} (h:PW X e t):PT X e t:=h _
def PA (X:Cx) (es:List Expr) (t:TA):Prop :=
  ∀ (pos:Pos) (pins:List (Addr×Obj)) (s:Shared) (σ:St) (H:Hp) (Q:List V->Hp->Prop),ZE X pins σ H s->t σ H Q->wpAny (model X.prog X.w) X.A (spliced (backTo pos (starEach es X.env))) (AP X pins σ Q) X.xe s
def PS (X:Cx) (st:Stmt) (t:TS):Prop :=
  ∀ (pins:List (Addr×Obj)) (s:Shared) (σ:St) (H:Hp) (D:Ends),ZE X pins σ H s->t D σ H->wpAny (model X.prog X.w) X.A (exec st X.env) (SP X pins D) X.xe s
def PSs (X:Cx) (st:List Stmt) (t:TS):Prop :=
  ∀ (pins:List (Addr×Obj)) (s:Shared) (σ:St) (H:Hp) (D:Ends),ZE X pins σ H s->t D σ H->wpAny (model X.prog X.w) X.A (execs st X.env) (SP X pins D) X.xe s
theorem Y4 {α:Type} {t:Sem α} {Q Q':α->Shared->Prop} {M:Model} {A:Around} {E:Value->Shared->Prop} {s:Shared} (h:wpAny M A t Q E s) (hQ:∀ a s,Q a s->Q' a s):wpAny M A t Q' E s:=wpAny_mono h hQ fun _ _ x=>x
end L2
namespace L2
open PySem PySem.Spec PyProof.Rows
section
variable {X:Cx}
theorem bin {a b:Expr} {ta tb:TE} (ha:PE X a ta) (hb:PE X b tb) {pins:List (Addr×Obj)} {s:Shared} {σ:St} {H:Hp} {R:V->V->Hp->Prop} (I:ZE X pins σ H s) (h:ta σ H fun x H1=>tb σ H1 fun y H2=>R x y H2)
    {α:Type} {Q:α->Shared->Prop} {f:Value->Value->Sem α}
    (hf:∀ v u s2 x y H2,ZE X pins σ H2 s2->Ya x v->Ya y u->R x y H2->wpAny (model X.prog X.w) X.A (f v u) Q X.xe s2) :
    wpAny (model X.prog X.w) X.A (eval a X.env) (fun v s₁=>wpAny (model X.prog X.w) X.A (eval b X.env) (fun u s₂=>wpAny (model X.prog X.w) X.A (f v u) Q X.xe s₂) X.xe s₁) X.xe s:=by
  refine Y4 (ha pins s σ H _ I h) fun v s1 ⟨x,H1,I1,r1,q1⟩=>?_
  refine Y4 (hb pins s1 σ H1 _ I1 q1) fun u s2 ⟨y,H2,I2,r2,q2⟩=>?_
  exact hf v u s2 x y H2 I2 r1 r2 q2
def tVar (i:Nat):TE:=fun σ H Q=>∃ v,σ[i]?=some (some v)/\Q v H
def tC (v:V):TE:=fun _ H Q=>Q v H
theorem pe_var {i:Nat} {x:Str} {pos:Pos} (hN:X.N[i]?=some x) (hv:Vis X.env.scope x) (hd:(x == ("__debug__":Str))=false:=by decide) (hcd:(x == ("__classdict__":Str))=false:=by decide):PE X (.Name x pos) (tVar i):=by
  intro pins s σ H Q I h
  obtain ⟨v,e,h⟩:=h
  obtain ⟨m,hn,hl⟩:=I.loc
  obtain ⟨u,r,l⟩:=hl i x v hN e hv
  have fin:EP X pins σ Q u s:=⟨v,H,I,r,h⟩
  rcases l with ⟨hk,hm⟩ | ⟨hk,c,hc,hcell⟩
  · exact wpAny_Name (wpAny_loadName_local I.ok.kind hk hn hm fin) hd
  · rcases hk with hk | hk
    · exact wpAny_Name (wpAny_loadName_cell I.ok.kind hk hc hcell fin) hd
    · exact wpAny_Name (wpAny_loadName_free I.ok.kind hk hc hcell fin hcd) hd
theorem pe_int {i j pos}:PE X (.Constant (.int i) j pos) (tC (.int i)):=fun _ _ _ H _ I h=>wpAny_Constant_int ⟨.int i,H,I.tok _,⟨_,rfl⟩,h⟩
theorem pe_bl {b j pos}:PE X (.Constant (.bool b) j pos) (tC (.bl b)):=fun _ _ _ H _ I h=>Constant_bool ⟨.bl b,H,I,rfl,h⟩
def Gl (X:Cx) (x:Str):Prop:=X.env.kindOf x=some .globalImplicit
theorem ld_glob {E:Value->Shared->Prop} {pins:List (Addr×Obj)} {s:Shared} {σ:St} {H:Hp} {x:Str} {u:Value} {pos:Pos} {Q:Value->Shared->Prop} (I:ZE X pins σ H s) (hg:Gl X x) (hm:X.mg x=some u) (h:Q u s)
    (hd:(x == ("__debug__":Str))=false:=by decide):wpAny (model X.prog X.w) X.A (eval (.Name x pos) X.env) Q E s :=
  Calls.Name_function_global I.ok.kind hg (Calls.loadGlobal_global (by rw [I.ok.glob];exact I.mod.glob.keeps I.bk) hm h) hd
theorem ld_blt {E:Value->Shared->Prop} {pins:List (Addr×Obj)} {s:Shared} {σ:St} {H:Hp} {x:Str} {u:Value} {pos:Pos} {Q:Value->Shared->Prop} (I:ZE X pins σ H s) (hg:Gl X x) (hm:X.mg x=none) (hv:bootBuiltins x=some u) (h:Q u s)
    (hn:x≠"__name__":=by decide) (hd:(x == ("__debug__":Str))=false:=by decide):wpAny (model X.prog X.w) X.A (eval (.Name x pos) X.env) Q E s:=by
  obtain ⟨mb,h1,h2⟩:=I.mod.blt
  exact Calls.Name_function_global I.ok.kind hg (Calls.loadGlobal_builtin (by rw [I.ok.glob];exact I.mod.glob.keeps I.bk) hm (by rw [I.ok.blt];exact h1.keeps I.bk) ((h2 x hn).trans hv) h) hd
theorem pe_glob {x:Str} {v:V} {u:Value} {pos:Pos} (hg:Gl X x) (hm:X.mg x=some u) (r:Ya v u) (hd:(x == ("__debug__":Str))=false:=by decide):PE X (.Name x pos) (tC v) :=
  fun _ _ _ H _ I h=>ld_glob I hg hm ⟨v,H,I,r,h⟩ hd
theorem pe_bltn {x:Str} {v:V} {u:Value} {pos:Pos} (hg:Gl X x) (hm:X.mg x=none) (hv:bootBuiltins x=some u) (r:Ya v u) (hn:x≠"__name__":=by decide) (hd:(x == ("__debug__":Str))=false:=by decide):PE X (.Name x pos) (tC v) :=
  fun _ _ _ H _ I h=>ld_blt I hg hm hv ⟨v,H,I,r,h⟩ hn hd
variable {a b:Expr} {ta tb:TE} {pos:Pos}
variable {tA tB':TT} {XX:List Expr}
def tAnd (t u:TT):TT:=fun σ H Q=>t σ H fun c H1=>if c=true then u σ H1 Q else Q false H1
def tOr (t u:TT):TT:=fun σ H Q=>t σ H fun c H1=>if c=true then Q true H1 else u σ H1 Q
def tNot (t:TT):TT:=fun σ H Q=>t σ H fun c H1=>Q (!c) H1
theorem pw_and1 (ha:PT X a tA):PW X (.BoolOp .And [a] pos) tA:=by
  intro wh pins s σ H Q I h
  refine isTrue_and (Y4 (ha pins s σ H Q I h) fun c s1 e=>?_)
  cases c with
  | true=>exact isTrue_and_nil e
  | false=>exact e
theorem pw_or1 (ha:PT X a tA):PW X (.BoolOp .Or [a] pos) tA:=by
  intro wh pins s σ H Q I h
  refine isTrue_or (Y4 (ha pins s σ H Q I h) fun c s1 e=>?_)
  cases c with
  | false=>exact isTrue_or_nil e
  | true=>exact e
theorem pw_and (ha:PT X a tA) (hb:PW X (.BoolOp .And (b::XX) pos) tB'):PW X (.BoolOp .And (a::b::XX) pos) (tAnd tA tB'):=by
  intro wh pins s σ H Q I h
  refine isTrue_and (Y4 (ha pins s σ H _ I h) fun c s1 ⟨H1,I1,q1⟩=>?_)
  cases c with
  | true=>exact hb wh pins s1 σ H1 Q I1 q1
  | false=>exact ⟨H1,I1,q1⟩
theorem pw_or (ha:PT X a tA) (hb:PW X (.BoolOp .Or (b::XX) pos) tB'):PW X (.BoolOp .Or (a::b::XX) pos) (tOr tA tB'):=by
  intro wh pins s σ H Q I h
  refine isTrue_or (Y4 (ha pins s σ H _ I h) fun c s1 ⟨H1,I1,q1⟩=>?_)
  cases c with
  | true=>exact ⟨H1,I1,q1⟩
  | false=>exact hb wh pins s1 σ H1 Q I1 q1
theorem pt_not (ha:PT X a tA):PT X (.UnaryOp .Not a pos) (tNot tA):=by
  intro pins s σ H Q I h
  exact isTrue_not (ha pins s σ H (fun c H1=>Q (!c) H1) I h)
def tAndV (ta tb:TE):TE:=fun σ H Q=>ta σ H fun x H1=>∃ c,x=.bl c/\if c=true then tb σ H1 Q else Q (.bl false) H1
def tNotV (ta:TE):TE:=fun σ H Q=>ta σ H fun x H1=>∃ c,x=.bl c/\Q (.bl (!c)) H1
theorem pe_one {op} {t:TE} (h:PE X a t):PE X (.BoolOp op [a] pos) t:=fun pins s σ H Q I hw=>BoolOp_one (h pins s σ H Q I hw)
theorem pe_and (ha:PE X a ta) (hb:PE X (.BoolOp .And (b::XX) pos) tb):PE X (.BoolOp .And (a::b::XX) pos) (tAndV ta tb):=by
  intro pins s σ H Q I h
  refine BoolOp_and (Y4 (ha pins s σ H _ I h) fun v s1 ⟨x,H1,I1,r1,q1⟩=>?_)
  obtain ⟨c,rfl,q1⟩:=q1
  cases r1
  refine wpAny_truthy_bool ?_
  cases c with
  | true=>exact hb pins s1 σ H1 Q I1 q1
  | false=>exact ⟨.bl false,H1,I1,rfl,q1⟩
theorem pe_not (ha:PE X a ta):PE X (.UnaryOp .Not a pos) (tNotV ta):=by
  intro pins s σ H Q I h
  refine UnaryOp_ (Y4 (ha pins s σ H _ I h) fun v s1 ⟨x,H1,I1,r1,q1⟩=>?_)
  obtain ⟨c,rfl,q1⟩:=q1
  cases r1
  exact not_of (wpAny_truthy_bool ⟨.bl (!c),H1,I1,rfl,q1⟩)
def tIf (t:TT) (ta tb:TE):TE:=fun σ H Q=>t σ H fun c H1=>if c=true then ta σ H1 Q else tb σ H1 Q
theorem pe_ifExp {c:Expr} (hc:PT X c tA) (ha:PE X a ta) (hb:PE X b tb):PE X (.IfExp c a b pos) (tIf tA ta tb):=by
  intro pins s σ H Q I h
  refine wpAny_IfExp (Y4 (hc pins s σ H _ I h) fun d s1 ⟨H1,I1,q1⟩=>?_)
  cases d with
  | true=>exact ha pins s1 σ H1 Q I1 q1
  | false=>exact hb pins s1 σ H1 Q I1 q1
end
end L2
namespace L2
open PySem PySem.Spec PyProof.Rows
def Wa (K:PySem.W.Frag) (H:Hp) (a:Addr) (xs:List V):Prop :=
  Rd H a (.lst xs) \/
    ∃ (o:Obj) (its:Array Value) (n:Nat),K.lookup a=some o/\o.cls=.type "list"/\o.dict=none/\o.data=.seq its n/\its.size<=sizeLine/\ZQ xs its.toList
def Wy (K:PySem.W.Frag) (H:Hp) (a:Addr) (xs:List V):Prop :=
  Rd H a (.tup xs) \/
    ∃ (o:Obj) (its:Array Value) (n:Nat),K.lookup a=some o/\o.cls=.type "tuple"/\o.data=.seq its n/\its.size<=sizeLine/\ZQ xs its.toList
def absV:Value->Option V
  | .none=>some .non
  | .bool b=>some (.bl b)
  | .int i _=>some (.int i)
  | .str x _=>some (.str x)
  | .bytes b _=>some (.byt b)
  | .float b _=>some (.flt b)
  | .ref a=>some (.ref a)
  | .type n=>some (.ty n)
  | _=>none
theorem Ya.abs {x:V} {u:Value} (r:Ya x u):absV u=some x:=by
  cases x with
  | non=>cases r;rfl
  | bl _=>cases r;rfl
  | int _=>obtain ⟨t,rfl⟩:=r;rfl
  | str _=>obtain ⟨t,rfl⟩:=r;rfl
  | byt _=>obtain ⟨t,rfl⟩:=r;rfl
  | flt _=>obtain ⟨t,rfl⟩:=r;rfl
  | ref _=>cases r;rfl
  | ty _=>cases r;rfl
theorem Ya.inj {x y:V} {u:Value} (r:Ya x u) (q:Ya y u):x=y:=Option.some.inj (r.abs.symm.trans q.abs)
theorem ZQ.inj:∀ {xs ys:List V} {us:List Value},ZQ xs us->ZQ ys us->xs=ys
  | _,_,_,.nil,.nil=>rfl
  | _,_,_,.cons r t,.cons r' t'=>by rw [r.inj r',ZQ.inj t t']
section
variable {X:Cx} {pins:List (Addr×Obj)} {σ:St} {H:Hp} {s:Shared} {a:Addr} {xs ys:List V}
theorem Wa.of {K:PySem.W.Frag} (h:H a=some (.lst xs)):Wa K H a xs:=.inl (.inl h)
theorem Wy.of {K:PySem.W.Frag} (h:H a=some (.tup xs)):Wy K H a xs:=.inl (.inl h)
theorem ZE.list (I:ZE X pins σ H s) (h:Wa X.K H a xs):∃ its:List Value,ZQ xs its/\PlainL s.heap a its.toArray/\xs.length<=sizeLine:=by
  rcases h with h | ⟨o,its,n,hk,hc,hd,hs,hz,r⟩
  · obtain ⟨z,its,n,r,e⟩:=h.ok I.hok
    exact ⟨its,r,⟨_,n,e,rfl,rfl,rfl⟩,z⟩
  · refine ⟨its.toList,r,⟨o,n,I.kIn a o hk,hc,hd,by simpa using hs⟩,?_⟩
    have e:=r.length
    simp only [Array.length_toList] at e
    omega
theorem ZE.tuple (I:ZE X pins σ H s) (h:Wy X.K H a xs):∃ its:List Value,ZQ xs its/\IsTup s.heap a its.toArray/\xs.length<=sizeLine:=by
  rcases h with h | ⟨o,its,n,hk,hc,hs,hz,r⟩
  · obtain ⟨z,its,r,p⟩:=h.ok I.hok
    exact ⟨its,r,p,z⟩
  · refine ⟨its.toList,r,⟨o,I.kIn a o hk,hc,n,by simpa using hs⟩,?_⟩
    have e:=r.length
    simp only [Array.length_toList] at e
    omega
theorem ZE.list_inj (I:ZE X pins σ H s) (h:Wa X.K H a xs) (h':Wa X.K H a ys):xs=ys:=by
  obtain ⟨its,r,⟨o,n,e,_,_,d⟩,_⟩:=I.list h
  obtain ⟨its',r',⟨o',n',e',_,_,d'⟩,_⟩:=I.list h'
  rw [e] at e';cases e'
  rw [d] at d'
  injection d' with d1 _
  have:its=its':=by simpa using congrArg Array.toList d1
  subst this
  exact r.inj r'
theorem ZE.tuple_inj (I:ZE X pins σ H s) (h:Wy X.K H a xs) (h':Wy X.K H a ys):xs=ys:=by
  obtain ⟨its,r,⟨o,e,_,n,d⟩,_⟩:=I.tuple h
  obtain ⟨its',r',⟨o',e',_,n',d'⟩,_⟩:=I.tuple h'
  rw [e] at e';cases e'
  rw [d] at d'
  injection d' with d1 _
  have:its=its':=by simpa using congrArg Array.toList d1
  subst this
  exact r.inj r'
end
abbrev Cx.wish (X:Cx) (E:Value->Shared->Prop):Cx:={ X with xe:=E }
abbrev Cx.nox (X:Cx):Cx:=X.wish fun _ _=>False
theorem Cx.Ok.wish {X:Cx} (ok:X.Ok) (E:Value->Shared->Prop):(X.wish E).Ok :=
  ⟨ok.mod,ok.kind,ok.glob,ok.blt,ok.above,ok.inj,ok.has,ok.cab,ok.hd,ok.frames,ok.stk,ok.exf,ok.bs,ok.bsz,ok.noex,ok.exfs,ok.funs,ok.frf⟩
theorem Cx.Ok.unwish {X:Cx} {E:Value->Shared->Prop} (ok:(X.wish E).Ok):X.Ok :=
  ⟨ok.mod,ok.kind,ok.glob,ok.blt,ok.above,ok.inj,ok.has,ok.cab,ok.hd,ok.frames,ok.stk,ok.exf,ok.bs,ok.bsz,ok.noex,ok.exfs,ok.funs,ok.frf⟩
section
variable {X:Cx} {pins:List (Addr×Obj)} {σ:St} {H:Hp} {s:Shared} {E:Value->Shared->Prop}
theorem ZE.wish (I:ZE X pins σ H s) (E:Value->Shared->Prop):ZE (X.wish E) pins σ H s:=⟨I.ok.wish E,I.os,I.bare,I.base,I.loc,I.cell,I.free,I.freeC,I.pin,I.hok,I.len⟩
theorem ZE.unwish (I:ZE (X.wish E) pins σ H s):ZE X pins σ H s:=⟨I.ok.unwish,I.os,I.bare,I.base,I.loc,I.cell,I.free,I.freeC,I.pin,I.hok,I.len⟩
theorem SP.unwish {D:Ends} {f:Flow} {s':Shared} (h:SP (X.wish E) pins D f s'):SP X pins D f s':=by
  cases f with
  | next=>obtain ⟨σ',H',I,q⟩:=h;exact ⟨σ',H',I.unwish,q⟩
  | brk=>obtain ⟨σ',H',I,q⟩:=h;exact ⟨σ',H',I.unwish,q⟩
  | cont=>obtain ⟨σ',H',I,q⟩:=h;exact ⟨σ',H',I.unwish,q⟩
  | ret u=>obtain ⟨v,σ',H',I,r,q⟩:=h;exact ⟨v,σ',H',I.unwish,r,q⟩
theorem PE.nox {e:Expr} {t:TE} (h:PE X.nox e t):PE X e t:=fun pins s σ H Q I hw =>
  wpAny_mono (h pins s σ H Q (I.wish _) hw) (fun _ _ ⟨v,H',I',r,q⟩=>⟨v,H',I'.unwish,r,q⟩) fun _ _ z=>False.elim z
theorem PT.nox {e:Expr} {t:TT} (h:PT X.nox e t):PT X e t:=fun pins s σ H Q I hw =>
  wpAny_mono (h pins s σ H Q (I.wish _) hw) (fun _ _ ⟨H',I',q⟩=>⟨H',I'.unwish,q⟩) fun _ _ z=>False.elim z
theorem PSs.nox {st:List Stmt} {t:TS} (h:PSs X.nox st t):PSs X st t:=fun pins s σ H D I hw =>
  wpAny_mono (h pins s σ H D (I.wish _) hw) (fun _ _ q=>q.unwish) fun _ _ z=>False.elim z
end
section
variable {X:Cx} {st:Stmt} {XX:List Stmt} {t u:TS} {e:Expr} {te:TE} {pos:Pos}
def tNext:TS:=fun D σ H=>D.nx σ H
def tSeq (t u:TS):TS:=fun D σ H=>t { D with nx:=u D } σ H
theorem pss_nil:PSs X [] tNext:=fun _ _ σ H _ I h=>wpAny_execs_nil ⟨σ,H,I,h⟩
theorem pss_cons (h1:PS X st t) (h2:PSs X XX u):PSs X (st::XX) (tSeq t u):=by
  intro pins s σ H D I h
  refine wpAny_execs_cons (Y4 (h1 pins s σ H { D with nx:=u D } I h) fun f s1 q=>?_)
  cases f with
  | next =>
    obtain ⟨σ',H',I',q⟩:=q
    exact h2 pins s1 σ' H' D I' q
  | ret v=>exact q
  | brk=>exact q
  | cont=>exact q
theorem pss_one (h1:PS X st t):PSs X [st] t:=by
  intro pins s σ H D I h
  refine wpAny_execs_cons (Y4 (h1 pins s σ H D I h) fun f s1 q=>?_)
  cases f with
  | next=>exact wpAny_execs_nil q
  | ret v=>exact q
  | brk=>exact q
  | cont=>exact q
def tBreak:TS:=fun D σ H=>D.bk σ H
theorem ps_break:PS X (.Break pos) tBreak:=fun _ _ σ H _ I h=>wpAny_Break ⟨σ,H,I,h⟩
theorem ZE.quiet {pins:List (Addr×Obj)} {σ:St} {H:Hp} {s:Shared} (I:ZE X pins σ H s):interactive X.env=false:=by simp [interactive,I.ok.kind]
def tDrop (te:TE):TS:=fun D σ H=>te σ H fun _ H1=>D.nx σ H1
theorem ps_expr (he:PE X e te) (hs:swapsWith e none pos.line X.env=pure false:=by rfl):PS X (.Expr e pos) (tDrop te):=by
  intro pins s σ H D I h
  exact wpAny_Expr_any (Y4 (he pins s σ H _ I h) fun v s1 ⟨x,H1,I1,r1,q1⟩=>⟨σ,H1,I1,q1⟩) I.quiet hs
def tRet (te:TE):TS:=fun D σ H=>te σ H D.rt
theorem ps_ret (he:PE X e te):PS X (.Return (some e) pos) (tRet te):=by
  intro pins s σ H D I h
  exact wpAny_Return_some (Y4 (he pins s σ H _ I h) fun v s1 ⟨x,H1,I1,r1,q1⟩=>⟨x,σ,H1,I1,r1,q1⟩)
def tIfS (c:TT) (t u:TS):TS:=fun D σ H=>c σ H fun b H1=>if b=true then t D σ H1 else u D σ H1
theorem ps_if {c:Expr} {a b:List Stmt} {tc:TT} (hc:PT X c tc) (ha:PSs X a t) (hb:PSs X b u):PS X (.If c a b pos) (tIfS tc t u):=by
  intro pins s σ H D I h
  refine wpAny_If (Y4 (hc pins s σ H _ I h) fun d s1 ⟨H1,I1,q1⟩=>?_)
  cases d with
  | true=>exact ha pins s1 σ H1 D I1 q1
  | false=>exact hb pins s1 σ H1 D I1 q1
def tNever:TS:=fun _ _ _=>False
theorem pss_never {sts:List Stmt}:PSs X sts tNever:=fun _ _ _ _ _ _ h=>h.elim
end
abbrev TG:=V->St->Hp->(St->Hp->Prop)->Prop
abbrev TGs:=List V->St->Hp->(St->Hp->Prop)->Prop
def PG (X:Cx) (target:Expr) (t:TG):Prop :=
  ∀ (pins:List (Addr×Obj)) (s:Shared) (σ:St) (H:Hp) (v:V) (u:Value) (Q:St->Hp->Prop),ZE X pins σ H s->Ya v u->t v σ H Q ->
    wpAny (model X.prog X.w) X.A (assign target X.env u) (fun _ s'=>∃ σ' H',ZE X pins σ' H' s'/\Q σ' H') X.xe s
def PGs (X:Cx) (ts:List Expr) (t:TGs):Prop :=
  ∀ (pins:List (Addr×Obj)) (s:Shared) (σ:St) (H:Hp) (vs:List V) (us:List Value) (Q:St->Hp->Prop),ZE X pins σ H s->ZQ vs us->t vs σ H Q ->
    wpAny (model X.prog X.w) X.A (assignInOrder ((assignEach ts X.env).map (·.2)) us) (fun _ s'=>∃ σ' H',ZE X pins σ' H' s'/\Q σ' H') X.xe s
abbrev TSet:=V->V->V->Hp->(Hp->Prop)->Prop
def PSet (X:Cx) (t:TSet):Prop :=
  ∀ (pins:List (Addr×Obj)) (s:Shared) (σ:St) (H:Hp) (o i v:V) (ov iv u:Value) (Q:Hp->Prop),ZE X pins σ H s->Ya o ov->Ya i iv->Ya v u->t o i v H Q ->
    wpAny (model X.prog X.w) X.A (setItem ov iv u) (fun _ s'=>∃ H',ZE X pins σ H' s'/\Q H') X.xe s
section
variable {X:Cx} {pos:Pos}
def gName (i:Nat):TG:=fun v σ H Q=>Q (σ.set i (some v)) H
theorem pg_name {i:Nat} {x:Str} (hN:X.N.Nodup) (hi:X.N[i]?=some x) (hx:Loc X.env.scope x) (hf:X.fn x=true\/X.env.scope.names.lookup x=some .local:=by first | exact .inl rfl | exact .inr rfl | assumption):PG X (.Name x pos) (gName i):=by
  intro pins s σ H v u Q I r h
  exact wpAny_assign_Name (store_ok I hN hi hx r (fun s' I'=>⟨_,H,I',h⟩) hf)
def gNil:TGs:=fun vs σ H Q=>vs=[]/\Q σ H
def gCons (t:TG) (u:TGs):TGs:=fun vs σ H Q=>∃ v r,vs=v::r/\t v σ H fun σ' H'=>u r σ' H' Q
theorem WD:PGs X [] gNil:=by
  intro pins s σ H vs us Q I r h
  obtain ⟨e,h⟩:=h
  subst e
  cases r
  exact assignInOrder_nil ⟨σ,H,I,h⟩
theorem Yf {e:Expr} {es:List Expr} {t:TG} {u:TGs} (h1:PG X e t) (h2:PGs X es u)
    (hs:(assignEach (e::es) X.env).map (·.2)=assign e X.env::(assignEach es X.env).map (·.2):=by rfl):PGs X (e::es) (gCons t u):=by
  intro pins s σ H vs us Q I r h
  obtain ⟨v,vr,e1,h⟩:=h
  subst e1
  cases r with
  | cons r rr =>
    rw [hs]
    refine assignInOrder_cons (Y4 (h1 pins s σ H _ _ _ I r h) fun _ s1 ⟨σ1,H1,I1,q1⟩=>?_)
    exact h2 pins s1 σ1 H1 _ _ Q I1 rr q1
def gTup (K:PySem.W.Frag) (n:Nat) (t:TGs):TG:=fun v σ H Q=>∃ a xs,v=.ref a/\Wy K H a xs/\xs.length=n/\t xs σ H Q
theorem pg_tup {es:List Expr} {k:Nat} {t:TGs} {n:Nat} (hc:X.calm=true) (h:PGs X es t)
    (hn:(assignEach es X.env).length=n:=by rfl) (hst:(assignEach es X.env).findIdx? (·.1)=none:=by rfl):PG X (.Tuple es k pos) (gTup X.K n t):=by
  intro pins s σ H v u Q I r hw
  obtain ⟨a,xs,e1,hq,hl,hw⟩:=hw
  subst e1
  cases r
  obtain ⟨its,rv,ht,hz⟩:=I.tuple hq
  refine assign_Tuple_tuple (I.ok.hd hc) ht (by simp [hn,<- hl,rv.length]) hst fun h' hx=>?_
  have I1:ZE X pins σ H { s with heap:=h' }:=I.kept (t':=s.toks) fun b o e=>hx b o (Nat.ne_of_lt (Heap.lt_size e)) e
  exact h pins _ σ H xs _ Q I1 (by simpa using rv) hw
def gSub (to ti:TE) (t:TSet):TG:=fun v σ H Q=>to σ H fun o H1=>ti σ H1 fun i H2=>t o i v H2 fun H3=>Q σ H3
theorem pg_sub {o i:Expr} {to ti:TE} {t:TSet} (ho:PE X o to) (hi:PE X i ti) (hs:PSet X t)
    (ha:∀ v,assign (.Subscript o i pos) X.env v=(do
      let ov <- holding [v] (eval o X.env)
      let iv <- holding [v,ov] (eval i X.env)
      standAt pos
      holding [v,ov,iv] (setItem ov iv v)
      release [v,ov,iv] []):=by intro _;rfl):PG X (.Subscript o i pos) (gSub to ti t):=by
  intro pins s σ H v u Q I r h
  rw [ha]
  refine wpAny_bind (wpAny_holding (Y4 (ho pins s σ H _ I h) fun ov s1 ⟨x,H1,I1,r1,q1⟩=>?_))
  refine wpAny_bind (wpAny_holding (Y4 (hi pins s1 σ H1 _ I1 q1) fun iv s2 ⟨y,H2,I2,r2,q2⟩=>?_))
  refine wpAny_bind (wpAny_standAt (wpAny_bind (wpAny_holding (Y4 (hs pins s2 σ H2 x y v ov iv u _ I2 r1 r2 r q2) fun _ s3 ⟨H3,I3,q3⟩=>?_))))
  exact wpAny_release ⟨σ,H3,I3,q3⟩
def tAsg (te:TE) (g:TG):TS:=fun D σ H=>te σ H fun x H1=>g x σ H1 D.nx
theorem ps_asg {tg e:Expr} {te:TE} {g:TG} (he:PE X e te) (hg:PG X tg g) (hs:swapsWithSole [tg] e pos.line X.env=pure false:=by rfl) (hw:swappedStores [tg] e X.env=pure none:=by rfl)
    (h1:(assignEach [tg] X.env).map (·.2)=[assign tg X.env]:=by rfl):PS X (.Assign [tg] e pos) (tAsg te g):=by
  intro pins s σ H D I h
  refine wpAny_Assign_stores (Y4 (he pins s σ H _ I h) fun v s1 ⟨x,H1,I1,r1,q1⟩=>?_) hs hw
  rw [h1]
  exact Y4 (hg pins s1 σ H1 x v _ I1 r1 q1) fun _ s2 q=>q
theorem ps_set {i:Nat} {x:Str} {e:Expr} {te:TE} {pos':Pos} (hN:X.N.Nodup) (hi:X.N[i]?=some x) (hx:Loc X.env.scope x) (he:PE X e te) (hs:swapsWith e (some (.Name x pos')) pos.line X.env=pure false:=by rfl) (hf:X.fn x=true\/X.env.scope.names.lookup x=some .local:=by first | exact .inl rfl | exact .inr rfl | assumption) :
    PS X (.Assign [.Name x pos'] e pos) (tAsg te (gName i)):=by
  intro pins s σ H D I h
  refine wpAny_Assign_Name (Y4 (he pins s σ H _ I h) fun v s1 ⟨y,H1,I1,r1,q1⟩=>?_) hs
  exact store_ok I1 hN hi hx r1 (fun s2 I2=>⟨_,H1,I2,q1⟩) hf
end
section
variable {X:Cx} {pos:Pos}
def tWhile (c:TT) (tb:TS):TS:=fun D σ H=>∃ W:Nat->St->Hp->Prop,(∃ m,W m σ H)/\∀ m σ H,W m σ H ->
  c σ H fun b H1=>if b=true then ∃ N:St->Hp->Prop,(∀ σ' H',N σ' H'->∃ m',m' < m/\W m' σ' H')/\tb { D with nx:=N,ct:=N,bk:=D.nx } σ H1 else D.nx σ H1
theorem ps_while {c:Expr} {body:List Stmt} {tc:TT} {tb:TS} (hp:PassesOwn (model X.prog X.w) X.A X.env X.xe) (hc:PT X c tc) (hb:PSs X body tb):PS X (.While c body [] pos) (tWhile tc tb):=by
  intro pins s σ H D I h
  obtain ⟨W,⟨m0,w0⟩,turn⟩:=h
  refine wpAny_While (codeAny_whileLoop (fun n s'=>∃ σ' H',ZE X pins σ' H' s'/\W n σ' H') ?_ m0 ⟨σ,H,I,w0⟩)
  rintro n s1 ⟨σ1,H1,I1,w1⟩
  refine wpAny_passesOwn hp (Y4 (hc pins s1 σ1 H1 _ I1 (turn n σ1 H1 w1)) fun b s2 ⟨H2,I2,q2⟩=>?_)
  cases b with
  | true =>
    obtain ⟨N,hN,q2⟩:=q2
    rw [if_pos rfl]
    refine wpAny_passesOwn hp (Y4 (hb pins s2 σ1 H2 _ I2 q2) fun f s3 q3=>?_)
    cases f with
    | next =>
      obtain ⟨σ3,H3,I3,n3⟩:=q3
      obtain ⟨m',hm,w3⟩:=hN σ3 H3 n3
      exact ⟨m',hm,σ3,H3,I3,w3⟩
    | cont =>
      obtain ⟨σ3,H3,I3,n3⟩:=q3
      obtain ⟨m',hm,w3⟩:=hN σ3 H3 n3
      exact ⟨m',hm,σ3,H3,I3,w3⟩
    | brk=>exact q3
    | ret v=>exact q3
  | false =>
    rw [if_neg Bool.false_ne_true]
    exact wpAny_execs_nil ⟨σ1,H2,I2,q2⟩
end
structure It where
  go:Nat->Hp->Prop
  yld:Nat->Hp->V->Hp->Prop
  stop:Nat->Hp->Prop
def FpOk (X:Cx) (pins:List (Addr×Obj)) (H:Hp) (b:Addr):Prop :=
  H b=none/\b≠X.env.locals/\b∉X.fs/\(b∈X.ex\/X.s₀.heap.objs.size<=b)/\(∀ x c,X.env.cells.lookup x=some c->c≠b)/\∀ p∈X.pn++pins,p.1≠b
theorem ZE.fpOk {X:Cx} {pins:List (Addr×Obj)} {σ:St} {H H':Hp} {s:Shared} {b:Addr} (I:ZE X pins σ H s) (hb:s.heap.objs.size<=b) (hn:H' b=none):FpOk X pins H' b:=by
  refine ⟨hn,Nat.ne_of_gt (Nat.lt_of_lt_of_le I.lt hb),I.nofs hb,.inr (Nat.le_trans I.sz hb),fun x c e z=>?_,fun p hp z=>?_⟩
  · obtain ⟨v,q⟩:=I.cell x c e
    exact absurd (Nat.lt_of_lt_of_le q.lt (by rw [z];exact hb)) (Nat.lt_irrefl _)
  · exact absurd (Nat.lt_of_lt_of_le (Heap.lt_size (I.pin p hp).1) (by rw [z];exact hb)) (Nat.lt_irrefl _)
structure Turn (P:Program) (w:World) (K:PySem.W.Frag) (tg:Expr) (J:It) (fp:List Addr) (it:Addr) (tn:Nat->Heap->Prop):Prop where
  mem:it∈fp
  obj:∀ i h,tn i h->∀ b∈fp,∃ o,h.get? b=some o/\∀ v,o.data≠.cell v
  keep:∀ i h h',tn i h->(∀ b∈fp,∀ o,h.get? b=some o->h'.get? b=some o)->tn i h'
  item:∀ (X:Cx),X.prog=P->X.w=w->X.K=K->X.calm=true->∀ (i:Nat) (pins:List (Addr×Obj)) (s:Shared) (σ:St) (H:Hp) (E:Value->Shared->Prop),ZE X pins σ H s->(∀ b∈fp,FpOk X pins H b)->tn i s.heap->J.go i H ->
    wpAny (model P w) X.A (pyNext (.ref it)) (fun r s1=>∃ u,r=some u /\
      wpAny (model P w) X.A (letOwnedTupleGo tg (.ref it) u) (fun _ s2=>∃ x H',ZE X pins σ H' s2/\Ya x u/\J.yld i H x H'/\tn (i+1) s2.heap/\∀ b∈fp,H' b=none) E s1) E s
  done:∀ (X:Cx),X.prog=P->X.w=w->X.K=K->X.calm=true->∀ (i:Nat) (pins:List (Addr×Obj)) (s:Shared) (σ:St) (H:Hp) (E:Value->Shared->Prop),ZE X pins σ H s->(∀ b∈fp,FpOk X pins H b)->tn i s.heap->J.stop i H ->
    wpAny (model P w) X.A (pyNext (.ref it)) (fun r s1=>r=none/\ZE X pins σ H s1) E s
  self:∀ (A:Around) (i:Nat) (s:Shared) (Q:Value->Shared->Prop) (E:Value->Shared->Prop),tn i s.heap->Q (.ref it) s->wpAny (model P w) A (pyIter (.ref it)) Q E s
abbrev TI:=St->Hp->(It->Hp->Prop)->Prop
def PIE (X:Cx) (pins:List (Addr×Obj)) (σ:St) (tg:Expr) (R:It->Hp->Prop) (itv:Value) (s2:Shared):Prop :=
  ∃ (it:Addr) (fp:List Addr) (tn:Nat->Heap->Prop) (J:It) (H':Hp),itv=.ref it/\ZE X pins σ H' s2/\Turn X.prog X.w X.K tg J fp it tn/\tn 0 s2.heap/\(∀ b∈fp,FpOk X pins H' b)/\R J H'
def PI (X:Cx) (tg iter:Expr) (wi:TI):Prop :=
  ∀ (pins:List (Addr×Obj)) (s:Shared) (σ:St) (H:Hp) (R:It->Hp->Prop),ZE X pins σ H s->wi σ H R ->
    wpAny (model X.prog X.w) X.A (eval iter X.env) (fun v s1=>wpAny (model X.prog X.w) X.A (pyIter v) (PIE X pins σ tg R) X.xe s1) X.xe s
theorem go_of {M:Model} {A:Around} {E:Value->Shared->Prop} {s:Shared} {tg:Expr} {it:Addr} {u:Value} {o:Obj} {n:String} {vs:Array Value} {Q:Unit->Shared->Prop} (ho:s.heap.get? it=some o) (hc:o.cls=.type n) (hd:o.data=.fields vs)
    (hn:["enumerate","zip","dict_itemiterator","dict_reverseitemiterator","odict_iterator","itertools.zip_longest","itertools.pairwise"].contains n=false) (hQ:Q () s):wpAny M A (letOwnedTupleGo tg (.ref it) u) Q E s:=by
  unfold letOwnedTupleGo
  cases tg <;> first
    | exact wpAny_pure hQ
    | (cases u <;> first
        | exact wpAny_pure hQ
        | (refine wpAny_bind (wpAny_load ho ?_)
           rw [hc,hd]
           show wpAny M A (if (["enumerate","zip","dict_itemiterator","dict_reverseitemiterator","odict_iterator","itertools.zip_longest","itertools.pairwise"].contains n && vs[0]? == some (rawInt _))=true then _ else _) Q E s
           rw [if_neg (by intro h;rw [hn,Bool.false_and] at h;cases h)]
           exact wpAny_pure hQ))
def Itl (K:PySem.W.Frag) (a:Addr):It :=
  ⟨fun i H=>∃ xs x,Wa K H a xs/\xs[i]?=some x,fun i H x H'=>H'=H/\∀ xs,Wa K H a xs->xs[i]?=some x,fun i H=>∃ xs,Wa K H a xs/\xs.length<=i⟩
def Itt (K:PySem.W.Frag) (a:Addr):It :=
  ⟨fun i H=>∃ xs x,Wy K H a xs/\xs[i]?=some x,fun i H x H'=>H'=H/\∀ xs,Wy K H a xs->xs[i]?=some x,fun i H=>∃ xs,Wy K H a xs/\xs.length<=i⟩
def Itr (lo:Int) (n:Nat):It:=⟨fun i _=>i < n,fun i H x H'=>H'=H/\x=.int (lo+i),fun i _=>n<=i⟩
theorem turn_list {P:Program} {w:World} {K:PySem.W.Frag} {tg:Expr} (a it:Addr):Turn P w K tg (Itl K a) [it] it (fun i h=>h.IsListIter it a i) where
  mem:=by simp
  obj:=fun i h st b hb=>by
    have e:b=it:=by simpa using hb
    subst e
    obtain ⟨o,e,c,d⟩:=st
    exact ⟨o,e,fun v z=>by rw [d] at z;cases z⟩
  keep:=fun i h h' st k=>st.at fun o e=>k it (by simp) o e
  item:=by
    intro X hP hw hK hc i pins s σ H E I hf st hg
    subst hP hw hK
    obtain ⟨xs,x,hq,hx⟩:=hg
    obtain ⟨its,rv,p,hz⟩:=I.list hq
    obtain ⟨u,hu,ru⟩:=rv.get hx
    obtain ⟨f0,f1,f2,f3,f4,f5⟩:=hf it (by simp)
    refine wpAny_pyNext_list_item st p.isList (x:=u) (by simpa using hu) fun h' st' sb=>?_
    have I1:ZE X pins σ H { s with heap:=h' }:=I.turned (t':=s.toks) (fun b o hb e=>(sb.2 b hb).trans e) f0 f1 f3 f4 f5
    obtain ⟨o,e,c,d⟩:=id st'
    exact ⟨u,rfl,go_of (s:={ s with heap:=h' }) e c d (by decide) ⟨x,H,I1,ru,⟨rfl,fun ys hy=>by rw [I.list_inj hy hq];exact hx⟩,st',fun b hb=>(hf b hb).1⟩⟩
  done:=by
    intro X hP hw hK hc i pins s σ H E I hf st hg
    subst hP hw hK
    obtain ⟨xs,hq,hx⟩:=hg
    obtain ⟨its,rv,p,hz⟩:=I.list hq
    obtain ⟨f0,f1,f2,f3,f4,f5⟩:=hf it (by simp)
    have hl:=rv.length
    exact wpAny_pyNext_list_end (I.ok.hd hc) st p.isList (by simp;omega) fun h' eb=>⟨rfl,I.turned (t':=s.toks) (fun b o hb e=>eb b o hb e) f0 f1 f3 f4 f5⟩
  self:=fun _ _ _ _ _ st h=>wpAny_pyIter_listiter st h
theorem turn_tuple {P:Program} {w:World} {K:PySem.W.Frag} {tg:Expr} (a it:Addr):Turn P w K tg (Itt K a) [it] it (fun i h=>h.IsTupleIter it a i) where
  mem:=by simp
  obj:=fun i h st b hb=>by
    have e:b=it:=by simpa using hb
    subst e
    obtain ⟨o,e,c,d⟩:=st
    exact ⟨o,e,fun v z=>by rw [d] at z;cases z⟩
  keep:=fun i h h' st k=>st.at fun o e=>k it (by simp) o e
  item:=by
    intro X hP hw hK hc i pins s σ H E I hf st hg
    subst hP hw hK
    obtain ⟨xs,x,hq,hx⟩:=hg
    obtain ⟨its,rv,p,hz⟩:=I.tuple hq
    obtain ⟨u,hu,ru⟩:=rv.get hx
    obtain ⟨f0,f1,f2,f3,f4,f5⟩:=hf it (by simp)
    refine wpAny_pyNext_tuple_item st (show s.heap.IsTuple a its.toArray from p) (x:=u) (by simpa using hu) fun h' st' sb=>?_
    have I1:ZE X pins σ H { s with heap:=h' }:=I.turned (t':=s.toks) (fun b o hb e=>(sb.2 b hb).trans e) f0 f1 f3 f4 f5
    obtain ⟨o,e,c,d⟩:=id st'
    exact ⟨u,rfl,go_of (s:={ s with heap:=h' }) e c d (by decide) ⟨x,H,I1,ru,⟨rfl,fun ys hy=>by rw [I.tuple_inj hy hq];exact hx⟩,st',fun b hb=>(hf b hb).1⟩⟩
  done:=by
    intro X hP hw hK hc i pins s σ H E I hf st hg
    subst hP hw hK
    obtain ⟨xs,hq,hx⟩:=hg
    obtain ⟨its,rv,p,hz⟩:=I.tuple hq
    obtain ⟨f0,f1,f2,f3,f4,f5⟩:=hf it (by simp)
    have hl:=rv.length
    exact wpAny_pyNext_tuple_end (I.ok.hd hc) st (show s.heap.IsTuple a its.toArray from p) (by simp;omega) fun h' eb=>⟨rfl,I.turned (t':=s.toks) (fun b o hb e=>eb b o hb e) f0 f1 f3 f4 f5⟩
  self:=fun _ _ _ _ _ st h=>wpAny_pyIter_tupleiter st h
theorem turn_range {P:Program} {w:World} {K:PySem.W.Frag} {tg:Expr} (it:Addr) (lo:Int) (n:Nat):Turn P w K tg (Itr lo n) [it] it (fun i h=>IsRangeIter h it (lo+(i:Nat) * 1) ((n:Int) - (i:Nat)) 1) where
  mem:=by simp
  obj:=fun i h st b hb=>by
    have e:b=it:=by simpa using hb
    subst e
    exact ⟨_,st,fun v z=>by
      have z':Data.fields _=Data.cell v:=z
      cases z'⟩
  keep:=fun i h h' st k=>k it (by simp) _ st
  item:=by
    intro X hP hw hK hc i pins s σ H E I hf st hg
    subst hP hw hK
    obtain ⟨f0,f1,f2,f3,f4,f5⟩:=hf it (by simp)
    have W:=Walks.range (prog:=X.prog) (w:=X.w) (I.ok.hd hc) it lo 1 n
    refine W.item i s _ _ hg st fun v h' tk hv st' kk=>?_
    obtain ⟨t,rfl⟩:=hv
    have I1:ZE X pins σ H { s with heap:=h',toks:=tk }:=I.turned (fun b o hb e=>kk b o (by simpa using hb) e) f0 f1 f3 f4 f5
    refine ⟨_,rfl,go_of (s:={ s with heap:=h',toks:=tk }) (n:="range_iterator") st' rfl rfl (by decide) ⟨.int (lo+i),H,I1,⟨t,?_⟩,⟨rfl,rfl⟩,st',fun b hb=>(hf b hb).1⟩⟩
    rw [Int.mul_one]
  done:=by
    intro X hP hw hK hc i pins s σ H E I hf st hg
    subst hP hw hK
    obtain ⟨f0,f1,f2,f3,f4,f5⟩:=hf it (by simp)
    exact wpAny_pyNext_range_end (I.ok.hd hc) st (by have:n<=i:=hg;omega) fun h' eb=>⟨rfl,I.turned (t':=s.toks) (fun b o hb e=>eb b o hb e) f0 f1 f3 f4 f5⟩
  self:=fun _ _ _ _ _ st h=>wpAny_pyIter_rangeiter st h
end L2
namespace L2
open PySem PySem.Spec PyProof.Rows
section
variable {X:Cx} {tg:Expr}
def iList (K:PySem.W.Frag) (tl:TE):TI:=fun σ H R=>tl σ H fun x H1=>∃ a,x=.ref a/\(∃ xs,Wa K H1 a xs)/\R (Itl K a) H1
def iTup (K:PySem.W.Frag) (tl:TE):TI:=fun σ H R=>tl σ H fun x H1=>∃ a,x=.ref a/\(∃ xs,Wy K H1 a xs)/\R (Itt K a) H1
theorem pi_list {l:Expr} {tl:TE} (hl:PE X l tl):PI X tg l (iList X.K tl):=by
  intro pins s σ H R I h
  refine Y4 (hl pins s σ H _ I h) fun v s1 ⟨x,H1,I1,r1,q1⟩=>?_
  obtain ⟨a,e,⟨xs,hq⟩,q⟩:=q1
  subst e
  cases r1
  obtain ⟨its,rv,p,hz⟩:=I1.list hq
  refine wpAny_pyIter_list p.isList ?_
  refine ⟨s1.heap.objs.size,[s1.heap.objs.size],_,_,H1,rfl,I1.kept (t':=s1.toks) fun b o e=>Heap.get?_push_of_some _ e,turn_list a _,⟨_,Heap.get?_push_size _ rfl,rfl,rfl⟩,fun b hb=>?_,q⟩
  have e:b=s1.heap.objs.size:=by simpa using hb
  subst e
  exact I1.fpOk (Nat.le_refl _) (I1.hok.fresh (Nat.le_refl _))
theorem pi_tup {l:Expr} {tl:TE} (hl:PE X l tl):PI X tg l (iTup X.K tl):=by
  intro pins s σ H R I h
  refine Y4 (hl pins s σ H _ I h) fun v s1 ⟨x,H1,I1,r1,q1⟩=>?_
  obtain ⟨a,e,⟨xs,hq⟩,q⟩:=q1
  subst e
  cases r1
  obtain ⟨its,rv,p,hz⟩:=I1.tuple hq
  refine wpAny_pyIter_tuple (show s1.heap.IsTuple a its.toArray from p) ?_
  refine ⟨s1.heap.objs.size,[s1.heap.objs.size],_,_,H1,rfl,I1.kept (t':=s1.toks) fun b o e=>Heap.get?_push_of_some _ e,turn_tuple a _,⟨_,Heap.get?_push_size _ rfl,rfl,rfl⟩,fun b hb=>?_,q⟩
  have e:b=s1.heap.objs.size:=by simpa using hb
  subst e
  exact I1.fpOk (Nat.le_refl _) (I1.hok.fresh (Nat.le_refl _))
theorem range_it {pins:List (Addr×Obj)} {σ:St} {H:Hp} {s:Shared} {R:It->Hp->Prop} {E:Value->Shared->Prop} {lo hi:Int} {t u v:Tok} {tk:Nat} (I:ZE X pins σ H s) (h1:-(2 ^ 62)<=lo) (h2:lo < 2 ^ 62) (h3:-(2 ^ 62)<=hi) (h4:hi < 2 ^ 62)
    (q:R (Itr lo (hi - lo).toNat) H):wpAny (model X.prog X.w) X.A (pyIter (.ref s.heap.objs.size)) (PIE X pins σ tg R) E { s with heap:=s.heap.push { cls:=.type "range",data:=.fields #[.int lo t,.int hi u,.int 1 v] },toks:=tk }:=by
  refine wpAny_pyIter_range (IsRange.new ..) (small_one h1 h2 h3 h4) ?_
  have I1:ZE X pins σ H { s with heap:=s.heap.push { cls:=.type "range",data:=.fields #[.int lo t,.int hi u,.int 1 v] },toks:=tk }:=I.kept fun b o e=>Heap.get?_push_of_some _ e
  refine ⟨(s.heap.push { cls:=.type "range",data:=.fields #[.int lo t,.int hi u,.int 1 v] }).objs.size,[(s.heap.push { cls:=.type "range",data:=.fields #[.int lo t,.int hi u,.int 1 v] }).objs.size],_,_,H,rfl,
    I1.kept (t':=tk) fun b o e=>Heap.get?_push_of_some _ e,turn_range _ lo (hi - lo).toNat,?_,fun b hb=>?_,q⟩
  · have e1:lo+((0:Nat):Int) * 1=lo:=by simp
    have e2:(((hi - lo).toNat:Nat):Int) - ((0:Nat):Int)=Builtin.Range.rangeSize lo hi 1:=by rw [rangeSize_one];split <;> omega
    show IsRangeIter _ _ (lo+((0:Nat):Int) * 1) ((((hi - lo).toNat:Nat):Int) - ((0:Nat):Int)) 1
    rw [e1,e2]
    exact Heap.get?_push_size _ rfl
  · have e:b=(s.heap.push { cls:=.type "range",data:=.fields #[.int lo t,.int hi u,.int 1 v] }).objs.size:=by simpa using hb
    subst e
    exact I1.fpOk (Nat.le_refl _) (I1.hok.fresh (Nat.le_refl _))
def iRng1 (ta:TA):TI:=fun σ H R=>ta σ H fun vs H1=>∃ j:Int,vs=[.int j]/\-(2 ^ 62)<=j/\j < 2 ^ 62/\R (Itr 0 j.toNat) H1
def iRng2 (ta:TA):TI:=fun σ H R=>ta σ H fun vs H1=>∃ i j:Int,vs=[.int i,.int j]/\(-(2 ^ 62)<=i/\i < 2 ^ 62/\-(2 ^ 62)<=j/\j < 2 ^ 62)/\R (Itr i (j - i).toNat) H1
theorem pi_range1 {a:Expr} {ta:TA} {p pos:Pos} (hg:Gl X "range") (hm:X.mg "range"=none) (ha:PA X [a] ta) (hs:starEach [a] X.env=[(false,eval a X.env)]:=by rfl):PI X tg (.Call (.Name "range" p) [a] [] pos) (iRng1 ta):=by
  intro pins s σ H R I h
  refine Call_ (ld_blt I hg hm boot_range (PyProof.Rows.callWith_type1 (Y4 (ha pos pins s σ H _ I h) fun us s1 ⟨vs,H1,I1,r1,q1⟩=>?_) hs rfl))
  obtain ⟨j,e,q1,q2,q⟩:=q1
  subst e
  cases r1 with
  | cons r rr =>
    cases rr
    obtain ⟨t,rfl⟩:=r
    exact call_range_1 (range_it I1 (by omega) (by omega) q1 q2 (by simpa using q))
theorem pi_range2 {a b:Expr} {ta:TA} {p pos:Pos} (hg:Gl X "range") (hm:X.mg "range"=none) (ha:PA X [a,b] ta) (hs:starEach [a,b] X.env=[(false,eval a X.env),(false,eval b X.env)]:=by rfl) (hs2:starEach [b] X.env=[(false,eval b X.env)]:=by rfl) :
    PI X tg (.Call (.Name "range" p) [a,b] [] pos) (iRng2 ta):=by
  intro pins s σ H R I h
  refine Call_ (ld_blt I hg hm boot_range (PyProof.Rows.callWith_type1 (Y4 (ha pos pins s σ H _ I h) fun us s1 ⟨vs,H1,I1,r1,q1⟩=>?_) (by rw [hs,hs2]) (by rw [hs2];rfl)))
  obtain ⟨i,j,e,⟨q1,q2,q3,q4⟩,q⟩:=q1
  subst e
  cases r1 with
  | cons r rr =>
    cases rr with
    | cons r' rr =>
      cases rr
      obtain ⟨t,rfl⟩:=r
      obtain ⟨t',rfl⟩:=r'
      exact call_range_2 (range_it I1 q1 q2 q3 q4 q)
def tFor (wi:TI) (g:TG) (tb:TS):TS:=fun D σ H=>wi σ H fun J H1=>∃ W:Nat->Nat->St->Hp->Prop,(∃ m,W 0 m σ H1)/\∀ i m σ H,W i m σ H ->
  (J.stop i H/\D.nx σ H)\/(J.go i H/\∃ N:St->Hp->Prop,(∀ σ' H',N σ' H'->∃ m',m' < m/\W (i+1) m' σ' H')/\∀ x H',J.yld i H x H'->g x σ H' fun σ2 H2=>tb { D with nx:=N,ct:=N,bk:=D.nx } σ2 H2)
def pinsAt (fp:List Addr) (h:Heap):List (Addr×Obj):=fp.filterMap fun b=>(h.get? b).map fun o=>(b,o)
theorem VB {fp:List Addr} {h:Heap} {b:Addr} {o:Obj} (hb:b∈fp) (e:h.get? b=some o):(b,o)∈pinsAt fp h:=List.mem_filterMap.mpr ⟨b,hb,by rw [e];rfl⟩
theorem of_pinsAt {fp:List Addr} {h:Heap} {p:Addr×Obj} (hp:p∈pinsAt fp h):p.1∈fp/\h.get? p.1=some p.2:=by
  obtain ⟨b,hb,e⟩:=List.mem_filterMap.mp hp
  cases q:h.get? b with
  | none=>rw [q] at e;cases e
  | some o =>
    rw [q] at e
    have e':(b,o)=p:=Option.some.inj e
    subst e'
    exact ⟨hb,q⟩
theorem ZE.pinned {pins:List (Addr×Obj)} {σ:St} {H:Hp} {s:Shared} {fp:List Addr} (I:ZE X pins σ H s) (hf:∀ b∈fp,FpOk X pins H b) (ho:∀ b∈fp,∃ o,s.heap.get? b=some o/\∀ v,o.data≠.cell v):ZE X (pins++pinsAt fp s.heap) σ H s :=
  I.pins_of fun p hp=>(List.mem_append.mp hp).elim (fun z=>I.pin p (List.mem_append_right _ z)) fun z=>by
    obtain ⟨hb,e⟩:=of_pinsAt z
    obtain ⟨f0,f1,f2,_⟩:=hf p.1 hb
    obtain ⟨o,e',d⟩:=ho p.1 hb
    rw [e] at e';cases e'
    exact ⟨e,f0,f1,f2,d⟩
theorem ZE.unpinned {pins pl:List (Addr×Obj)} {σ:St} {H:Hp} {s:Shared} (I:ZE X (pins++pl) σ H s):ZE X pins σ H s:=I.pins_of fun p hp=>I.pin p (List.mem_append_right _ (List.mem_append_left _ hp))
theorem ps_for {iter:Expr} {body:List Stmt} {wi:TI} {g:TG} {tb:TS} {pos:Pos} (hp:PassesOwn (model X.prog X.w) X.A X.env X.xe) (hc:X.calm=true) (hi:PI X tg iter wi) (hg:PG X tg g) (hb:PSs X body tb)
    (hs:∀ x,foldedSetIterable iter X.env x=pure x:=by intro _;rfl):PS X (.For tg iter body [] pos) (tFor wi g tb):=by
  intro pins s σ H D I h
  refine wpAny_For (Y4 (hi pins s σ H _ I h) fun v s1 h1=>Y4 h1 fun itv s2 h2=>?_) hs
  obtain ⟨it,fp,tn,J,H2,e,I2,T,st2,f2,W,⟨m0,w0⟩,turn⟩:=h2
  subst e
  have stat:∀ {H':Hp},(∀ b∈fp,H' b=none)->∀ b∈fp,FpOk X pins H' b:=fun hn b hb=>⟨hn b hb,(f2 b hb).2⟩
  refine codeAny_forLoop_any (fun n s'=>∃ i σ' H',ZE X pins σ' H' s'/\tn i s'.heap/\(∀ b∈fp,H' b=none)/\W i n σ' H') ?_ m0 ⟨0,σ,H2,I2,st2,fun b hb=>(f2 b hb).1,w0⟩
  rintro n s3 ⟨i,σ3,H3,I3,st3,fr3,w3⟩
  rcases turn i n σ3 H3 w3 with ⟨stop,qn⟩ | ⟨go,N,hN,step⟩
  · refine wpAny_passesOwn hp (Y4 (T.done X rfl rfl rfl hc i pins s3 σ3 H3 X.xe I3 (stat fr3) st3 stop) fun r s4 ⟨hr,I4⟩=>?_)
    subst hr
    exact wpAny_execs_nil ⟨σ3,H3,I4,qn⟩
  · refine wpAny_passesOwn hp (Y4 (T.item X rfl rfl rfl hc i pins s3 σ3 H3 X.xe I3 (stat fr3) st3 go) fun r s4 ⟨u,hr,h4⟩=>?_)
    subst hr
    refine wpAny_passesOwn hp (Y4 h4 fun _ s5 ⟨x,H5,I5,r5,y5,st5,fr5⟩=>?_)
    have I5':=I5.pinned (stat fr5) (T.obj _ _ st5)
    refine wpAny_passesOwn hp (Y4 (hg _ s5 σ3 H5 x u _ I5' r5 (step x H5 y5)) fun _ s6 ⟨σ6,H6,I6,q6⟩=>?_)
    refine wpAny_passesOwn hp (Y4 (hb _ s6 σ6 H6 _ I6 q6) fun f s7 q7=>?_)
    have again:∀ {σ7:St} {H7:Hp},ZE X (pins++pinsAt fp s5.heap) σ7 H7 s7->N σ7 H7->∃ m,m < n/\∃ i σ' H',ZE X pins σ' H' s7/\tn i s7.heap/\(∀ b∈fp,H' b=none)/\W i m σ' H':=fun {σ7 H7} I7 n7=>by
      obtain ⟨m',hm,w7⟩:=hN σ7 H7 n7
      refine ⟨m',hm,i+1,σ7,H7,I7.unpinned,T.keep _ _ _ st5 fun b hb o e=>(I7.pin (b,o) (List.mem_append_right _ (List.mem_append_right _ (VB hb e)))).1,fun b hb=>?_,w7⟩
      obtain ⟨o,e,d⟩:=T.obj _ _ st5 b hb
      exact (I7.pin (b,o) (List.mem_append_right _ (List.mem_append_right _ (VB hb e)))).2.1
    cases f with
    | next=>obtain ⟨σ7,H7,I7,n7⟩:=q7;exact again I7 n7
    | cont=>obtain ⟨σ7,H7,I7,n7⟩:=q7;exact again I7 n7
    | brk=>obtain ⟨σ7,H7,I7,q7⟩:=q7;exact ⟨σ7,H7,I7.unpinned,q7⟩
    | ret v=>obtain ⟨x7,σ7,H7,I7,r7,q7⟩:=q7;exact ⟨x7,σ7,H7,I7.unpinned,r7,q7⟩
end
end L2
namespace L2
open PySem PySem.Spec PyProof.Rows
abbrev R2:=V->V->Hp->VK->Prop
def OpR (X:Cx) (f:Value->Value->Sem Value) (r:R2):Prop :=
  ∀ (pins:List (Addr×Obj)) (s:Shared) (σ:St) (H:Hp) (x y:V) (v u:Value) (Q:VK),ZE X pins σ H s->Ya x v->Ya y u->r x y H Q ->
    wpAny (model X.prog X.w) X.A (f v u) (EP X pins σ Q) X.xe s
def UnR (X:Cx) (f:Value->Sem Value) (r:V->Hp->VK->Prop):Prop :=
  ∀ (pins:List (Addr×Obj)) (s:Shared) (σ:St) (H:Hp) (x:V) (v:Value) (Q:VK),ZE X pins σ H s->Ya x v->r x H Q ->
    wpAny (model X.prog X.w) X.A (f v) (EP X pins σ Q) X.xe s
def X2 (X:Cx) (f:Value) (r:List V->Hp->VK->Prop):Prop :=
  ∀ (pins:List (Addr×Obj)) (s:Shared) (σ:St) (H:Hp) (xs:List V) (us:List Value) (Q:VK),ZE X pins σ H s->ZQ xs us->r xs H Q ->
    wpAny (model X.prog X.w) X.A (call f us) (EP X pins σ Q) X.xe s
def TruR (X:Cx) (r:V->Hp->(Bool->Hp->Prop)->Prop):Prop :=
  ∀ (pins:List (Addr×Obj)) (s:Shared) (σ:St) (H:Hp) (x:V) (v:Value) (Q:Bool->Hp->Prop),ZE X pins σ H s->Ya x v->r x H Q ->
    wpAny (model X.prog X.w) X.A (truthy v) (TP X pins σ Q) X.xe s
def tOp (r:R2) (ta tb:TE):TE:=fun σ H Q=>ta σ H fun x H1=>tb σ H1 fun y H2=>r x y H2 Q
def tUn (r:V->Hp->VK->Prop) (ta:TE):TE:=fun σ H Q=>ta σ H fun x H1=>r x H1 Q
def rI (C:Int->Int->Prop) (g:Int->Int->V):R2:=fun x y H Q=>∃ i j,x=.int i/\y=.int j/\C i j/\Q (g i j) H
def rI0 (g:Int->Int->V):R2:=fun x y H Q=>∃ i j,x=.int i/\y=.int j/\Q (g i j) H
def rU (g:Int->V):V->Hp->VK->Prop:=fun x H Q=>∃ i,x=.int i/\Q (g i) H
section
variable {X:Cx} {a b c:Expr} {ta tb tc:TE} {pos:Pos}
theorem binT (ha:PE X a ta) (hb:PE X b tb) {pins:List (Addr×Obj)} {s:Shared} {σ:St} {H:Hp} {R:V->V->Hp->Prop} (I:ZE X pins σ H s)
    (h:ta σ H fun x H1=>tb σ H1 fun y H2=>R x y H2) {Q:Value->Shared->Prop} {f:Value->Value->Sem Value}
    (hf:∀ v u s2 x y H2,ZE X pins σ H2 s2->Ya x v->Ya y u->R x y H2->wpAny (model X.prog X.w) X.A (f v u) Q X.xe s2) :
    wpAny (model X.prog X.w) X.A (eval a X.env) (fun v s₁=>wpAny (model X.prog X.w) X.A (eval b X.env) (fun u s₂=>wpAny (model X.prog X.w) X.A (f v u) Q X.xe s₂) X.xe s₁) X.xe s:=by
  refine Y4 (ha pins s σ H _ I h) fun v s1 ⟨x,H1,I1,r1,q1⟩=>?_
  refine Y4 (hb pins s1 σ H1 _ I1 q1) fun u s2 ⟨y,H2,I2,r2,q2⟩=>?_
  exact hf v u s2 x y H2 I2 r1 r2 q2
theorem pe_op {op:Operator} {r:R2} (ho:OpR X (binaryOp op) r) (ha:PE X a ta) (hb:PE X b tb):PE X (.BinOp a op b pos) (tOp r ta tb):=by
  intro pins s σ H Q I h
  exact wpAny_BinOp (binT ha hb I h fun v u s2 x y H2 I2 rx ry q=>ho pins s2 σ H2 x y v u Q I2 rx ry q)
theorem pe_un {op:UnaryOp} {r:V->Hp->VK->Prop} (ho:UnR X (unaryOp op) r) (ha:PE X a ta):PE X (.UnaryOp op a pos) (tUn r ta):=by
  intro pins s σ H Q I h
  exact UnaryOp_ (Y4 (ha pins s σ H _ I h) fun v s1 ⟨x,H1,I1,r1,q1⟩=>ho pins s1 σ H1 x v Q I1 r1 q1)
theorem opI {f:Value->Value->Sem Value} {C:Int->Int->Prop} {g:Int->Int->Int}
    (rule:∀ (i j:Int) (t u:Tok) (s:Shared) (Q:Value->Shared->Prop) (E:Value->Shared->Prop),C i j->Q (.int (g i j) s.toks) { s with toks:=s.toks+1 }->wpAny (model X.prog X.w) X.A (f (.int i t) (.int j u)) Q E s) :
    OpR X f (rI C fun i j=>.int (g i j)):=by
  intro pins s σ H x y v u Q I rx ry h
  obtain ⟨i,j,rfl,rfl,hc,q⟩:=h
  obtain ⟨t,rfl⟩:=rx
  obtain ⟨t',rfl⟩:=ry
  exact rule i j t t' s _ _ hc ⟨.int (g i j),H,I.tok _,⟨_,rfl⟩,q⟩
theorem opI0 {f:Value->Value->Sem Value} {g:Int->Int->Int}
    (rule:∀ (i j:Int) (t u:Tok) (s:Shared) (Q:Value->Shared->Prop) (E:Value->Shared->Prop),Q (.int (g i j) s.toks) { s with toks:=s.toks+1 }->wpAny (model X.prog X.w) X.A (f (.int i t) (.int j u)) Q E s) :
    OpR X f (rI0 fun i j=>.int (g i j)):=by
  intro pins s σ H x y v u Q I rx ry h
  obtain ⟨i,j,rfl,rfl,q⟩:=h
  obtain ⟨t,rfl⟩:=rx
  obtain ⟨t',rfl⟩:=ry
  exact rule i j t t' s _ _ ⟨.int (g i j),H,I.tok _,⟨_,rfl⟩,q⟩
theorem opB0 {f:Value->Value->Sem Value} {g:Int->Int->Bool}
    (rule:∀ (i j:Int) (t u:Tok) (s:Shared) (Q:Value->Shared->Prop) (E:Value->Shared->Prop),Q (.bool (g i j)) s->wpAny (model X.prog X.w) X.A (f (.int i t) (.int j u)) Q E s) :
    OpR X f (rI0 fun i j=>.bl (g i j)):=by
  intro pins s σ H x y v u Q I rx ry h
  obtain ⟨i,j,rfl,rfl,q⟩:=h
  obtain ⟨t,rfl⟩:=rx
  obtain ⟨t',rfl⟩:=ry
  exact rule i j t t' s _ _ ⟨.bl (g i j),H,I,rfl,q⟩
def CDiv (i j:Int):Prop:=0 < j/\j < 1073741824
def CMul (i j:Int):Prop:=(-(2 ^ 64) < i/\i < 2 ^ 64)\/(-(2 ^ 64) < j/\j < 2 ^ 64)
theorem CMul.ok {i j:Int} (h:CMul i j):IntMulOk i j:=by
  rcases h with ⟨h1,h2⟩ | ⟨h1,h2⟩
  · exact .of_left (intBits_le_64 h1 h2)
  · exact .of_right (intBits_le_64 h1 h2)
theorem op_add:OpR X (binaryOp .Add) (rI0 fun i j=>.int (i+j)):=opI0 fun _ _ _ _ _ _ _ q=>add_int q
theorem op_sub:OpR X (binaryOp .Sub) (rI0 fun i j=>.int (i - j)):=opI0 fun _ _ _ _ _ _ _ q=>sub_int q
theorem op_mul:OpR X (binaryOp .Mult) (rI CMul fun i j=>.int (i * j)):=opI fun _ _ _ _ _ _ _ hc q=>mul_int q hc.ok
theorem op_fdiv:OpR X (binaryOp .FloorDiv) (rI CDiv fun i j=>.int (i / j)):=opI fun i j _ _ _ _ _ hc q=>by
  have h1:(0:Int) < j:=hc.1
  have h2:j < 1073741824:=hc.2
  exact floordiv_int (by omega) (by rw [Int.fdiv_eq_ediv_of_nonneg i (by omega)];exact q) (.inl (PyProof.noPylong_small (by omega)))
theorem op_mod:OpR X (binaryOp .Mod) (rI (fun _ j=>0 < j) fun i j=>.int (i % j)):=opI fun i j _ _ _ _ _ hc q=>by
  have h1:(0:Int) < j:=hc
  exact mod_int' (by omega) (by rw [Int.fmod_eq_emod_of_nonneg i (by omega)];exact q)
theorem unI {f:Value->Sem Value} {g:Int->Int}
    (rule:∀ (i:Int) (t:Tok) (s:Shared) (Q:Value->Shared->Prop) (E:Value->Shared->Prop),Q (.int (g i) s.toks) { s with toks:=s.toks+1 }->wpAny (model X.prog X.w) X.A (f (.int i t)) Q E s) :
    UnR X f (rU fun i=>.int (g i)):=by
  intro pins s σ H x v Q I rx h
  obtain ⟨i,rfl,q⟩:=h
  obtain ⟨t,rfl⟩:=rx
  exact rule i t s _ _ ⟨.int (g i),H,I.tok _,⟨_,rfl⟩,q⟩
theorem un_neg:UnR X (unaryOp .USub) (rU fun i=>.int (-i)):=unI fun _ _ _ _ _ q=>neg_int q
end
section
variable {X:Cx} {a b c:Expr} {ta tb tc:TE} {pos:Pos}
theorem op_lt:OpR X (compareOp .Lt) (rI0 fun i j=>.bl (decide (i < j))):=opB0 fun _ _ _ _ _ _ _ q=>lt_int q
theorem op_le:OpR X (compareOp .LtE) (rI0 fun i j=>.bl (decide (i<=j))):=opB0 fun _ _ _ _ _ _ _ q=>le_int q
theorem op_gt:OpR X (compareOp .Gt) (rI0 fun i j=>.bl (decide (j < i))):=opB0 fun _ _ _ _ _ _ _ q=>gt_int q
theorem OpR.or {f:Value->Value->Sem Value} {r r':R2} (h:OpR X f r) (h':OpR X f r'):OpR X f (fun x y H Q=>r x y H Q\/r' x y H Q):=by
  intro pins s σ H x y v u Q I rx ry q
  rcases q with q | q
  · exact h pins s σ H x y v u Q I rx ry q
  · exact h' pins s σ H x y v u Q I rx ry q
theorem nomark (b:Expr) {op:CmpOp} (h:op≠.In:=by decide) (h2:op≠.NotIn:=by decide):behindInMarks op b=false:=by
  have e1:(op == CmpOp.In)=false:=by cases op <;> first | rfl | exact absurd rfl h
  have e2:(op == CmpOp.NotIn)=false:=by cases op <;> first | rfl | exact absurd rfl h2
  cases b <;> simp [behindInMarks,e1,e2]
theorem pe_cmpR {op:CmpOp} {r:R2} (ho:OpR X (compareOp op) r) (ha:PE X a ta) (hb:PE X b tb) (hm:behindInMarks op b=false):PE X (.Compare a [op] [b] pos) (tOp r ta tb):=by
  intro pins s σ H Q I h
  exact wpAny_Compare1 (binT ha hb I h fun v u s2 x y H2 I2 rx ry q=>ho pins s2 σ H2 x y v u Q I2 rx ry q) hm
def tTest (t:TE):TT:=fun σ H Q=>t σ H fun x H'=>∃ k,x=.bl k/\Q k H'
theorem pt_cmpR {op:CmpOp} {r:R2} (ho:OpR X (compareOp op) r) (ha:PE X a ta) (hb:PE X b tb) (hm:behindInMarks op b=false):PT X (.Compare a [op] [b] pos) (tTest (tOp r ta tb)):=by
  intro pins s σ H Q I h
  refine wpAny_isTrue_Compare1 (Y4 (ha pins s σ H _ I h) fun v s1 ⟨x,H1,I1,r1,q1⟩=>Y4 (hb pins s1 σ H1 _ I1 q1) fun u s2 ⟨y,H2,I2,r2,q2⟩ =>
    Y4 (ho pins s2 σ H2 x y v u _ I2 r1 r2 q2) fun c s3 ⟨z,H3,I3,r3,k,e,q3⟩=>?_) hm
  subst e
  cases r3
  exact wpAny_truthy_bool ⟨H3,I3,q3⟩
def tChain (r r':R2) (ta tb tc:TE):TE:=fun σ H Q=>ta σ H fun x H1=>tb σ H1 fun y H2=>r x y H2 fun z H3=>∃ k,z=.bl k /\
  (if k=true then tc σ H3 fun w' H4=>r' y w' H4 Q else Q (.bl false) H3)
theorem pe_chain {op op':CmpOp} {r r':R2} (ho:OpR X (compareOp op) r) (ho':OpR X (compareOp op') r') (ha:PE X a ta) (hb:PE X b tb) (hc:PE X c tc)
    (hm:lastMarks [op,op'] [b,c]=false:=by with_unfolding_all rfl):PE X (.Compare a [op,op'] [b,c] pos) (tChain r r' ta tb tc):=by
  intro pins s σ H Q I h
  refine Compare_chain (Y4 (ha pins s σ H _ I h) fun v s1 ⟨x,H1,I1,r1,q1⟩=>chain_link (Y4 (hb pins s1 σ H1 _ I1 q1) fun u s2 ⟨y,H2,I2,r2,q2⟩ =>
    Y4 (ho pins s2 σ H2 x y v u _ I2 r1 r2 q2) fun d s3 ⟨z,H3,I3,r3,k,e,q3⟩=>?_)) hm
  subst e
  cases r3
  refine wpAny_truthy_bool ?_
  cases k with
  | false=>exact ite_ff ⟨.bl false,H3,I3,rfl,q3⟩
  | true=>exact ite_tt (chain_last (Y4 (hc pins s3 σ H3 _ I3 q3) fun w' s4 ⟨z',H4,I4,r4,q4⟩=>ho' pins s4 σ H4 y z' u w' Q I4 r2 r4 q4))
def TruV (K:PySem.W.Frag) (x:V) (H:Hp) (k:Bool):Prop :=
  match x with
  | .non=>k=false
  | .bl b=>k=b
  | .int i=>k=(i != 0)
  | .str y=>y.length<=sizeLine/\k=((y.length:Int) != 0)
  | .byt y=>y.size<=sizeLine/\k=((y.size:Int) != 0)
  | .ref p=>(∃ xs,Wa K H p xs/\k=!xs.isEmpty)\/(∃ xs,Wy K H p xs/\k=!xs.isEmpty)\/∃ kvs,H p=some (.dK kvs)/\k=!kvs.isEmpty
  | _=>False
theorem isEmpty_kv {κ:Type} {kvs:List (κ×V)} {vs:List (κ×Value)} (r:KV kvs vs):(!vs.isEmpty)=!kvs.isEmpty:=by
  cases r <;> rfl
theorem isEmpty_of {xs:List V} {its:List Value} (r:ZQ xs its):(!its.toArray.isEmpty)=!xs.isEmpty:=by
  cases r <;> simp
theorem line63:(sizeLine:Nat) < 2 ^ 63:=by rw [sizeLine_eq];decide
theorem tru_ok:TruR X (fun x H Q=>∃ k,TruV X.K x H k/\Q k H):=by
  intro pins s σ H x v Q I rx h
  obtain ⟨k,e,q⟩:=h
  have hl:=line63
  have hs:sizeLine=16777216:=sizeLine_eq
  cases x with
  | non =>
    cases rx
    have e':k=false:=e
    subst e'
    exact truthy_none ⟨H,I,q⟩
  | bl b =>
    cases rx
    have e':k=b:=e
    subst e'
    exact wpAny_truthy_bool ⟨H,I,q⟩
  | int i =>
    obtain ⟨t,rfl⟩:=rx
    have e':k=(i != 0):=e
    subst e'
    exact PySem.P.truthy_int ⟨H,I,q⟩
  | str y =>
    obtain ⟨t,rfl⟩:=rx
    obtain ⟨hy,e'⟩:y.length<=sizeLine/\k=((y.length:Int) != 0):=e
    subst e'
    exact PySem.P.truthy_str (by omega) ⟨H,I.tok _,q⟩
  | byt y =>
    obtain ⟨t,rfl⟩:=rx
    obtain ⟨hy,e'⟩:y.size<=sizeLine/\k=((y.size:Int) != 0):=e
    subst e'
    exact PySem.W.truthy_bytes (by omega) ⟨H,I.tok _,q⟩
  | ref p =>
    cases rx
    have e':(∃ xs,Wa X.K H p xs/\k=!xs.isEmpty)\/(∃ xs,Wy X.K H p xs/\k=!xs.isEmpty)\/∃ kvs,H p=some (.dK kvs)/\k=!kvs.isEmpty:=e
    rcases e' with ⟨xs,hx,e'⟩ | ⟨xs,hx,e'⟩ | ⟨kvs,hx,e'⟩
    · subst e'
      obtain ⟨its,r,pl,hz⟩:=I.list hx
      have hlen:=r.length
      exact wpAny_truthy_list pl.isList (by simp only [List.size_toArray];omega) ⟨H,I.tok _,by rw [isEmpty_of r];exact q⟩
    · subst e'
      obtain ⟨its,r,pl,hz⟩:=I.tuple hx
      have hlen:=r.length
      exact truthy_tuple pl (by simp only [List.size_toArray];omega) ⟨H,I.tok _,by rw [isEmpty_of r];exact q⟩
    · subst e'
      obtain ⟨hz,hS,vs,r,m⟩:kvs.length<=sizeLine/\(p == sysModules)=false/\∃ vs,KV kvs vs/\s.heap.DictOf (YM X.prog X.w) p vs:=I.hok p _ hx
      have hlen:kvs.length=vs.length:=Paired.length r
      exact wpAny_truthy_dict hS m (by omega) ⟨H,I.tok _,by rw [isEmpty_kv r];exact q⟩
  | _=>exact (show False from e).elim
theorem pt_truth (ha:PE X a ta) (he:∀ whole,isTrue a X.env whole=(do let v <- whole;standAt a.pos;holding [v] (truthy v))) :
    PT X a (fun σ H Q=>ta σ H fun x H'=>∃ k,TruV X.K x H' k/\Q k H'):=by
  intro pins s σ H Q I h
  exact isTrue_plain (Y4 (ha pins s σ H _ I h) fun v s1 ⟨x,H1,I1,r1,q1⟩=>tru_ok pins s1 σ H1 x v Q I1 r1 q1) (he _)
theorem Vd {x:V} {us:List Value} (r:ZQ [x] us):∃ u,us=[u]/\Ya x u:=by
  cases r with
  | cons r1 r2=>cases r2;exact ⟨_,rfl,r1⟩
theorem vals2 {x y:V} {us:List Value} (r:ZQ [x,y] us):∃ u w',us=[u,w']/\Ya x u/\Ya y w':=by
  cases r with
  | cons r1 r2 =>
    cases r2 with
    | cons r3 r4=>cases r4;exact ⟨_,_,rfl,r1,r3⟩
theorem call_abs:X2 X (.builtin "abs") (fun xs H Q=>∃ i,xs=[.int i]/\Q (.int (if i < 0 then -i else i)) H):=by
  intro pins s σ H xs us Q I r h
  obtain ⟨i,rfl,q⟩:=h
  obtain ⟨u,rfl,t,rfl⟩:=Vd r
  exact call_abs_int fun u tk=>⟨.int (if i < 0 then -i else i),H,I.tok _,⟨_,rfl⟩,q⟩
theorem call_max2 (hc:X.calm=true):X2 X (.builtin "max") (fun xs H Q=>∃ i j,xs=[.int i,.int j]/\Q (.int (if j > i then j else i)) H):=by
  intro pins s σ H xs us Q I r h
  obtain ⟨i,j,rfl,q⟩:=h
  obtain ⟨u,w',rfl,⟨t,rfl⟩,⟨t',rfl⟩⟩:=vals2 r
  refine max_two_ints (I.ok.hd hc) fun h' tk k=>⟨_,H,I.kept k,?_,q⟩
  by_cases hj:j > i
  · rw [if_pos hj,if_pos hj];exact ⟨_,rfl⟩
  · rw [if_neg hj,if_neg hj];exact ⟨_,rfl⟩
theorem call_min2 (hc:X.calm=true):X2 X (.builtin "min") (fun xs H Q=>∃ i j,xs=[.int i,.int j]/\Q (.int (if j < i then j else i)) H):=by
  intro pins s σ H xs us Q I r h
  obtain ⟨i,j,rfl,q⟩:=h
  obtain ⟨u,w',rfl,⟨t,rfl⟩,⟨t',rfl⟩⟩:=vals2 r
  refine min_two_ints (I.ok.hd hc) fun h' tk k=>⟨_,H,I.kept k,?_,q⟩
  by_cases hj:j < i
  · rw [if_pos hj,if_pos hj];exact ⟨_,rfl⟩
  · rw [if_neg hj,if_neg hj];exact ⟨_,rfl⟩
theorem call_int1:X2 X (.type "int") (fun xs H Q=>(∃ i,xs=[.int i]/\Q (.int i) H)\/∃ k,xs=[.bl k]/\Q (.int (if k then 1 else 0)) H):=by
  intro pins s σ H xs us Q I r h
  rcases h with ⟨i,rfl,q⟩ | ⟨k,rfl,q⟩
  · obtain ⟨u,rfl,t,rfl⟩:=Vd r
    exact call_int_int ⟨.int i,H,I,⟨_,rfl⟩,q⟩
  · obtain ⟨u,rfl,r1⟩:=Vd r
    cases r1
    exact call_int_bool ⟨.int (if k then 1 else 0),H,I.tok _,⟨_,rfl⟩,q⟩
end
end L2
namespace L2
open PySem PySem.Spec PyProof.Rows
structure ObjM (h:Heap) (x dx C:Addr) (mA:Str->Option Value):Prop where
  obj:h.get? x=some (PySem.W.instObj C dx)
  ns:h.Ns1 dx mA
  ne:dx≠x
section
variable {prog:Program} {w:World} {A:Around} {E:Value->Shared->Prop} {s:Shared} {K:PySem.W.Frag} {x dx C f:Addr} {mA:Str->Option Value} {name:Str} {v:Value}
end
theorem RelO.some_of {v:V} {o:Option Value} (r:RelO (some v) o):∃ u,o=some u/\Ya v u:=by
  cases o with
  | none=>exact (show False from r).elim
  | some u=>exact ⟨u,rfl,r⟩
theorem RelO.none_of {o:Option Value} (r:RelO none o):o=none:=by
  cases o with
  | none=>rfl
  | some u=>exact (show False from r).elim
section
variable {P:Program} {w:World} {H H':Hp} {h h':Heap} {a C dx:Addr} {fs fs':List (Str×V)}
end
structure Cls (K:PySem.W.Frag) (C:Addr):Prop where
  pg:PySem.W.plainGet K C Str.empty=true
  hd:PySem.W.hasDictIn K C=true
  po:PySem.W.plainOver K C=true
  sa:PySem.W.findIn K (.ref C) "__setattr__"=some (some (.builtin "object.__setattr__"))
theorem Cls.get {K:PySem.W.Frag} {C:Addr} (c:Cls K C) (f:Str):PySem.W.plainGet K C f=true:=c.pg
structure Con (K:PySem.W.Frag) (C:Addr) (f:Str) (v:V) (u:Value):Prop where
  at_:PySem.W.findIn K (.ref C) f=some (some u)
  rel:Ya v u
  get:PySem.W.specialIn K u "__get__"=some none
  cp:PySem.W.copiedNames.contains f=false
structure Meth (K:PySem.W.Frag) (C:Addr) (m:Str) (f:Addr):Prop where
  at_:PySem.W.findIn K (.ref C) m=some (some (.ref f))
  fn:PySem.W.isFn K (.ref f)=true
  kp:PySem.W.keepIn K (.ref f)=true
section
variable {X:Cx} {pins:List (Addr×Obj)} {σ:St} {H:Hp} {s:Shared} {a C dx:Addr} {fs:List (Str×V)} {f:Str} {v:V} {A:Around} {E:Value->Shared->Prop}
theorem ZE.made (I:ZE X pins σ H s):ZE X pins σ (YV (YV H s.heap.objs.size (.own (s.heap.objs.size+1))) (s.heap.objs.size+1) (.ins C s.heap.objs.size []))
    { s with heap:=(s.heap.push PySem.W.emptyDict).push (PySem.W.instObj C s.heap.objs.size) }:=by
  have e1:(s.heap.push PySem.W.emptyDict).get? s.heap.objs.size=some PySem.W.emptyDict:=Heap.get?_push_size s.heap rfl
  have e2:((s.heap.push PySem.W.emptyDict).push (PySem.W.instObj C s.heap.objs.size)).get? (s.heap.objs.size+1)=some (PySem.W.instObj C s.heap.objs.size):=by
    have:=Heap.get?_push_size (s.heap.push PySem.W.emptyDict) (o:=PySem.W.instObj C s.heap.objs.size) rfl
    rwa [Heap.size_push] at this
  have e3:(s.heap.push PySem.W.emptyDict).Ns s.heap.objs.size (fun _=>none):=⟨PySem.W.emptyDict,#[],_,e1,rfl,(fun e he=>absurd he (by simp)),fun _=>rfl⟩
  have I1:=I.laid (a:=s.heap.objs.size) (o:=.own (s.heap.objs.size+1)) (h':=s.heap.push PySem.W.emptyDict) (t':=s.toks) (fun b u q=>Heap.get?_push_of_some _ q) (Nat.le_refl _) ⟨_,e1⟩
  refine I1.laid (a:=s.heap.objs.size+1) (o:=.ins C s.heap.objs.size []) (t':=s.toks) (fun b u q=>Heap.get?_push_of_some _ q) (Nat.le_of_eq (Heap.size_push _ _)) ?_
  have ne:s.heap.objs.size≠s.heap.objs.size+1:=Nat.ne_of_lt (Nat.lt_succ_self _)
  refine ⟨by rw [ZG ne,Z1],Nat.zero_le _,ne,e2,fun _=>none,(Heap.Ns1.of_empty e3).at fun o q=>Heap.get?_push_of_some _ q,fun _=>True.intro,fun y hy=>absurd rfl hy⟩
end
section
variable {X:Cx} {o e value:Expr} {f:Str} {pos pos' tpos:Pos} {ta tv:TE}
end
section
variable {X:Cx} {pins:List (Addr×Obj)} {σ:St} {H:Hp} {s:Shared} {A:Around} {E:Value->Shared->Prop} {Q:Value->Shared->Prop} {c:Value} {b:Bool}
inductive TyOf (K:PySem.W.Frag) (H:Hp):V->Value->Prop where
  | non:TyOf K H .non (.type "NoneType")
  | bl (x:Bool):TyOf K H (.bl x) (.type "bool")
  | int (i:Int):TyOf K H (.int i) (.type "int")
  | str (x:Str):TyOf K H (.str x) (.type "str")
  | flt (x:UInt64):TyOf K H (.flt x) (.type "float")
  | lst {a:Addr} {xs:List V} (e:H a=some (.lst xs)):TyOf K H (.ref a) (.type "list")
  | frz {a:Addr} {o:Obj} {xs:List V} (e:H a=some (.frz o (.lst xs))):TyOf K H (.ref a) (.type "list")
  | tup {a:Addr} {xs:List V} (e:H a=some (.tup xs)):TyOf K H (.ref a) (.type "tuple")
  | dK {a:Addr} {kvs:List (YW×V)} (e:H a=some (.dK kvs)):TyOf K H (.ref a) (.type "dict")
  | dT {a:Addr} {kvs:List (List YW×V)} (e:H a=some (.dT kvs)):TyOf K H (.ref a) (.type "dict")
  | ins {a C dx:Addr} {fs:List (Str×V)} (e:H a=some (.ins C dx fs)) (cl:Cls K C) (ha:PySem.W.findIn K (.ref C) "__class__"=some (some (.builtin "object.__class__")))
      (hn:PySem.W.specialIn K (.builtin "object.__class__") "__get__"=some (some (.builtin "getset_descriptor.__get__"))) (htk:PySem.W.takesIn K (.builtin "object.__class__")=some true)
      (hm:PySem.W.mroIn K C (.type "object")=some true):TyOf K H (.ref a) (.ref C)
end
end L2
namespace L2
open PySem PySem.Spec PyProof.Rows
structure Wq (k:Nat) (A:Around):Prop where
  hd:A.handled=none
  dp:A.depth+3 * k+5 < recursionLimit
  un:A.units+16 * k+200 < cLine
theorem Wq.mono {j k:Nat} {A:Around} (r:Wq k A) (h:j<=k):Wq j A:=⟨r.hd,by have:=r.dp;omega,by have:=r.un;omega⟩
theorem Wq.deeper {k:Nat} {A:Around} (r:Wq (k+1) A) (env:Env):Wq k (A.deeper env) :=
  ⟨r.hd,by have:=r.dp;show A.depth+1+3 * k+5 < _;omega,by have:=r.un;show A.units+3+16 * k+200 < _;omega⟩
theorem Wq.in1 {k:Nat} {A:Around} (r:Wq (k+1) A):Wq k A.in1 :=
  ⟨r.hd,by have:=r.dp;show A.depth+3 * k+5 < _;omega,by have:=r.un;show A.units+1+16 * k+200 < _;omega⟩
theorem Wq.depth {k:Nat} {A:Around} (r:Wq k A):A.depth < recursionLimit:=by have:=r.dp;omega
theorem Wq.units {k:Nat} {A:Around} (r:Wq k A):A.units+64 < cLine:=by have:=r.un;omega
theorem Wq.units0 {k:Nat} {A:Around} (r:Wq k A):A.units < cLine:=by have:=r.un;omega
def tNil:TA:=fun _ H Q=>Q [] H
def tCons (ta:TE) (tr:TA):TA:=fun σ H Q=>ta σ H fun x H1=>tr σ H1 fun xs H2=>Q (x::xs) H2
section
variable {X:Cx} {e:Expr} {es:List Expr} {te:TE} {t:TA} {pos:Pos}
theorem pa_nil:PA X [] tNil:=fun _ _ _ _ H Q I h=>Calls.spliced_nil ⟨[],H,I,.nil,h⟩
theorem WE (ha:PE X e te) (hr:PA X es t) (hs:starEach (e::es) X.env=(false,eval e X.env)::starEach es X.env:=by rfl):PA X (e::es) (tCons te t):=by
  intro pos pins s σ H Q I h
  rw [hs]
  show wpAny _ _ (spliced ((false,eval e X.env)::backTo pos (starEach es X.env))) _ _ s
  refine Calls.spliced_cons (Y4 (ha pins s σ H _ I h) fun u s1 ⟨x,H1,I1,r1,q1⟩=>?_)
  exact Y4 (hr pos pins s1 σ H1 _ I1 q1) fun us s2 ⟨xs,H2,I2,r2,q2⟩=>⟨x::xs,H2,I2,.cons r1 r2,q2⟩
def tTup (t:TA):TE:=fun σ H Q=>t σ H fun xs H1=>xs.length<=sizeLine/\∀ p,H1 p=none->Q (.ref p) (YV H1 p (.tup xs))
def tLst (t:TA):TE:=fun σ H Q=>t σ H fun xs H1=>xs.length<=sizeLine/\∀ p,H1 p=none->Q (.ref p) (YV H1 p (.lst xs))
theorem pe_tup {x1} (h:PA X es t):PE X (.Tuple es x1 pos) (tTup t):=by
  intro pins s σ H Q I hq
  refine wpAny_Tuple_spliced (Y4 (h pos pins s σ H _ I hq) fun us s1 ⟨xs,H1,I1,r,z,q⟩=>⟨by rw [<- r.length];exact z,?_⟩)
  have hf:H1 s1.heap.objs.size=none:=I1.hok.fresh (Nat.le_refl _)
  refine ⟨.ref s1.heap.objs.size,YV H1 s1.heap.objs.size (.tup xs),I1.laid (t':=s1.toks) (fun b u e=>Heap.get?_push_of_some _ e) (Nat.le_refl _) ?_,rfl,q _ hf⟩
  exact ⟨z,us,r,⟨_,Heap.get?_push_size _ rfl,rfl,_,rfl⟩⟩
theorem pe_lst (h:PA X es t):PE X (.List es pos) (tLst t):=by
  intro pins s σ H Q I hq
  refine wpAny_List_spliced (Y4 (h pos pins s σ H _ I hq) fun us s1 ⟨xs,H1,I1,r,z,q⟩=>⟨by rw [<- r.length];exact z,?_⟩)
  have hf:H1 s1.heap.objs.size=none:=I1.hok.fresh (Nat.le_refl _)
  refine ⟨.ref s1.heap.objs.size,YV H1 s1.heap.objs.size (.lst xs),I1.laid (t':=s1.toks) (fun b u e=>Heap.get?_push_of_some _ e) (Nat.le_refl _) ?_,rfl,q _ hf⟩
  exact ⟨z,us,0,r,Heap.get?_push_size _ rfl⟩
end
abbrev Sp:=List V->Hp->VK->XK->Prop
abbrev CXT:=List Env->Hp->Shared->XK->Value->Shared->Prop
structure Env0 (P:Program) (w:World) (K:PySem.W.Frag) (mg:Str->Option Value) (base:Heap) (A:Around) (outer:List Env) (s:Shared) (H:Hp):Prop where
  frames:A.frames=some outer
  mod:Mod K mg base
  bs:∀ b o,base.get? b=some o->s.heap.get? b=some o/\H b=none
  bsz:base.objs.size<=s.heap.objs.size
  funs:s.heap.FunFrames base outer
  frf:∀ b∈frs outer,H b=none
  hok:HOk P w H s.heap
  bare:AllBare s.gens
def CE (outer:List Env) (P:Program) (w:World) (H:Hp) (s:Shared) (Q:VK) (u:Value) (s':Shared):Prop :=
  ∃ v H',s'.os=s.os/\AllBare s'.gens/\Un (frs outer) [] H H' s.heap s'.heap/\HOk P w H' s'.heap/\Ya v u/\Q v H'
def CR (CX:CXT) (outer:List Env) (P:Program) (w:World) (H:Hp) (s:Shared) (Q:VK) (E:XK) (r:Result) (s':Shared):Prop :=
  match r with
  | .ok (.ret u)=>CE outer P w H s Q u s'
  | .ok _=>False
  | .error e=>CX outer H s E e s'
structure VH (P:Program) (w:World) (K:PySem.W.Frag) (mg:Str->Option Value) (base:Heap) (CX:CXT) (k:Nat) (f:Addr) (fd:FuncData) (ps:List Str) (sp:Sp):Prop where
  len:∀ vs H Q E,sp vs H Q E->vs.length=ps.length
  run:∀ (A:Around) (outer:List Env) (s:Shared) (H:Hp) (args:Args) (us:List Value) (vs:List V) (Q:VK) (E:XK),Wq k A->Env0 P w K mg base A outer s H->BindsTo s fd args (ps.zip us)->ZQ vs us->sp vs H Q E ->
    codeAny (model P w) A (.call (.ref f) args) (CR CX outer P w H s Q E) s
theorem VH.mono {P:Program} {w:World} {K:PySem.W.Frag} {mg:Str->Option Value} {base:Heap} {CX:CXT} {j k:Nat} {f:Addr} {fd:FuncData} {ps:List Str} {sp:Sp} (F:VH P w K mg base CX j f fd ps sp) (h:j<=k) :
    VH P w K mg base CX k f fd ps sp:=⟨F.len,fun A outer s H args us vs Q E hr=>F.run A outer s H args us vs Q E (hr.mono h)⟩
theorem VH.imp {P:Program} {w:World} {K:PySem.W.Frag} {mg:Str->Option Value} {base:Heap} {CX:CXT} {k:Nat} {f:Addr} {fd:FuncData} {ps:List Str} {sp sp':Sp} (F:VH P w K mg base CX k f fd ps sp)
    (h:∀ vs H Q E,sp' vs H Q E->sp vs H Q E):VH P w K mg base CX k f fd ps sp' :=
  ⟨fun vs H Q E q=>F.len vs H Q E (h _ _ _ _ q),fun A outer s H args us vs Q E hr he hb hv hs=>F.run A outer s H args us vs Q E hr he hb hv (h _ _ _ _ hs)⟩
theorem Env0.in1 {P:Program} {w:World} {K:PySem.W.Frag} {mg:Str->Option Value} {base:Heap} {A:Around} {outer:List Env} {s:Shared} {H:Hp} (e:Env0 P w K mg base A outer s H) :
    Env0 P w K mg base A.in1 outer s H:=⟨e.frames,e.mod,e.bs,e.bsz,e.funs,e.frf,e.hok,e.bare⟩
section
variable {X:Cx} {pins:List (Addr×Obj)} {σ:St} {H:Hp} {s s':Shared}
theorem ZE.env0 (I:ZE X pins σ H s):Env0 X.prog X.w X.K X.mg X.base X.A X.stack s H :=
  ⟨I.ok.frames,I.ok.mod,I.bs,Nat.le_trans I.ok.bsz I.sz,I.stack,I.stkFree,I.hok,I.bare⟩
theorem ZE.after {Q:VK} {u:Value} (I:ZE X pins σ H s) (h:CE X.stack X.prog X.w H s Q u s'):EP X pins σ Q u s':=by
  obtain ⟨v,H',os,bare,un,hok,r,q⟩:=h
  obtain ⟨hh,g,d,t,os'⟩:=s'
  obtain rfl:os'=s.os:=os
  exact ⟨v,H',I.call (h':=hh) (g':=g) (d':=d) (t':=t) (ch:=[]) un hok bare (fun b z=>absurd z (by simp)),r,q⟩
end
def tCall (sp:Sp) (dvs:List V) (E:XK) (t:TA):TE:=fun σ H Q=>t σ H fun vs H1=>sp (vs++dvs) H1 Q E
def Binds (K:PySem.W.Frag) (fd:FuncData) (ps:List Str) (ds:List Value):Prop :=
  ∀ (s:Shared) (us:List Value),K.In s.heap->(us++ds).length=ps.length->BindsTo s fd ⟨us,[]⟩ (ps.zip (us++ds))
theorem Binds.all {K:PySem.W.Frag} {fd:FuncData} {ps:List Str} (h:∀ us:List Value,us.length=ps.length->bindArgs fd ⟨us,[]⟩=pure (ps.zip us)):Binds K fd ps []:=fun s us _ hl=>by
  rw [List.append_nil] at hl ⊢
  exact .of_eq (h us hl)
def Passes (CX:CXT) (X:Cx) (E:XK):Prop:=∀ (pins:List (Addr×Obj)) (σ:St) (H:Hp) (s:Shared) (e:Value) (s':Shared),ZE X pins σ H s->CX X.stack H s E e s'->X.xe e s'
section
variable {X:Cx} {CX:CXT} {k:Nat} {f C:Addr} {fd:FuncData} {ps:List Str} {sp:Sp} {dvs:List V} {ds:List Value} {E:XK} {x m:Str} {p pos apos:Pos} {e o:Expr} {es:List Expr} {ta:TE} {t:TA}
theorem run_fn {pins:List (Addr×Obj)} {σ:St} {H:Hp} {s:Shared} {Q:VK} {us:List Value} {vs:List V} (F:VH X.prog X.w X.K X.mg X.base CX k f fd ps sp) (hr:Wq k X.A) (hb:Binds X.K fd ps ds) (hd:ZQ dvs ds) (hx:Passes CX X E)
    (I:ZE X pins σ H s) (r:ZQ vs us) (h:sp (vs++dvs) H Q E):wpAny (model X.prog X.w) X.A (call (.ref f) us) (EP X pins σ Q) X.xe s:=by
  have r2:ZQ (vs++dvs) (us++ds):=r.append hd
  have hl:(us++ds).length=ps.length:=by rw [<- r2.length];exact F.len _ _ _ _ h
  refine wpAny_call (codeAny_mono (F.run X.A X.stack s H ⟨us,[]⟩ (us++ds) (vs++dvs) Q E hr I.env0 (hb s us I.kIn hl) r2 h) fun r s' hq=>?_)
  cases r with
  | error e=>exact hx pins σ H s e s' I hq
  | ok fl =>
    cases fl with
    | ret u=>exact I.after hq
    | next=>exact False.elim hq
    | brk=>exact False.elim hq
    | cont=>exact False.elim hq
theorem pe_call (F:VH X.prog X.w X.K X.mg X.base CX k f fd ps sp) (hr:Wq k X.A) (hg:Gl X x) (hm:X.mg x=some (.ref f)) (hk:PySem.W.keepIn X.K (.ref f)=true) (hb:Binds X.K fd ps ds) (hd:ZQ dvs ds) (hx:Passes CX X E)
    (ha:PA X (e::es) t) (hdb:(x == ("__debug__":Str))=false:=by decide) (he:starEach (e::es) X.env=(false,eval e X.env)::starEach es X.env:=by rfl) (hpl:(backTo pos (starEach es X.env)).any (·.1)=false:=by rfl) :
    PE X (.Call (.Name x p) (e::es) [] pos) (tCall sp dvs E t):=by
  intro pins s σ H Q I h
  refine wpAny_Call_Name_kw (ld_glob I hg hm ?_ hdb)
  refine PySem.W.callWith_K (h₀:=X.base) I.ok.mod.kin hk (Y4 (ha pos pins s σ H _ I h) fun us s1 ⟨vs,H1,I1,r,q⟩=>⟨I1.kIn,?_⟩) he hpl
  exact run_fn F hr hb hd hx I1 r q
structure Mk (K:PySem.W.Frag) (C f:Addr):Prop where
  makes:PySem.W.makesIn K C=true
  init:PySem.W.findIn K (.ref C) "__init__"=some (some (.ref f))
  fn:PySem.W.isFn K (.ref f)=true
  kp:PySem.W.keepIn K (.ref C)=true
end
section
variable {X:Cx} {CX:CXT} {k:Nat} {f C:Addr} {fd:FuncData} {ps ks:List Str} {sp:Sp} {E:XK} {x m:Str} {p pos apos kpos:Pos} {e o:Expr} {es:List Expr} {kws:List Keyword} {te ta:TE} {t tk:TA} {nm:Option Str}
structure KBinds (K:PySem.W.Frag) (fd:FuncData) (ps ks:List Str) (g:List Value->List Value->List Value) (gV:List V->List V->List V):Prop where
  to:∀ (s:Shared) (us ws:List Value),K.In s.heap->(g us ws).length=ps.length->BindsTo s fd ⟨us,ks.zip ws⟩ (ps.zip (g us ws))
  rel:∀ {vs:List V} {us:List Value} {zs:List V} {ws:List Value},ZQ vs us->ZQ zs ws->ZQ (gV vs zs) (g us ws)
variable {g:List Value->List Value->List Value} {gV:List V->List V->List V}
end
structure ZC (N P:List Str) (sc:Scope):Prop where
  kind:sc.kind=.function
  co:sc.isCoroutine=false
  gen:sc.isGenerator=false
  nd:N.Nodup
  pre:N.take P.length=P
  par:∀ x∈P,sc.names.lookup x=some .local\/sc.names.lookup x=some .cell
  nofree:∀ y∈sc.names,y.2≠.free
theorem bindL_out {kindOf:Str->Option NameKind} {x:Str}:∀ {binds:List (Str×Value)} {m:Str->Option Value},(∀ v,(x,v)∉binds)->bindL kindOf binds m x=m x
  | [],_,_=>rfl
  | (n,v)::r,m,h=>by
    unfold bindL
    rw [bindL_out fun w hw=>h w (List.mem_cons_of_mem _ hw)]
    split
    · have:x≠n:=by rintro rfl;exact h v List.mem_cons_self
      simp [this]
    · rfl
theorem bindC_out {kindOf:Str->Option NameKind} {x:Str}:∀ {binds:List (Str×Value)} {m:Str->Option Value},(∀ v,(x,v)∉binds)->bindC kindOf binds m x=m x
  | [],_,_=>rfl
  | (n,v)::r,m,h=>by
    unfold bindC
    rw [bindC_out fun w hw=>h w (List.mem_cons_of_mem _ hw)]
    split
    · rfl
    · have:x≠n:=by rintro rfl;exact h v List.mem_cons_self
      simp [this]
theorem bindL_get {kindOf:Str->Option NameKind} {x:Str} {v:Value}:∀ {P:List Str} {vs:List Value} {i:Nat} {m:Str->Option Value},P.Nodup->P[i]?=some x->vs[i]?=some v->kindOf x=some .local ->
    bindL kindOf (P.zip vs) m x=some v
  | [],_,_,_,_,h,_,_=>by simp at h
  | _::_,[],_,_,_,_,h,_=>by simp at h
  | p::P,w::vs,0,m,nd,h1,h2,hk=>by
    simp at h1 h2;subst h1;subst h2
    show bindL kindOf ((p,w)::P.zip vs) m p=_
    unfold bindL
    rw [bindL_out fun v hv=>(List.nodup_cons.mp nd).1 (List.of_mem_zip hv).1,if_pos hk]
    simp
  | p::P,w::vs,i+1,m,nd,h1,h2,hk=>by
    show bindL kindOf ((p,w)::P.zip vs) m x=_
    unfold bindL
    exact bindL_get (i:=i) (List.nodup_cons.mp nd).2 (by simpa using h1) (by simpa using h2) hk
theorem bindC_get {kindOf:Str->Option NameKind} {x:Str} {v:Value}:∀ {P:List Str} {vs:List Value} {i:Nat} {m:Str->Option Value},P.Nodup->P[i]?=some x->vs[i]?=some v->kindOf x≠some .local ->
    bindC kindOf (P.zip vs) m x=some v
  | [],_,_,_,_,h,_,_=>by simp at h
  | _::_,[],_,_,_,_,h,_=>by simp at h
  | p::P,w::vs,0,m,nd,h1,h2,hk=>by
    simp at h1 h2;subst h1;subst h2
    show bindC kindOf ((p,w)::P.zip vs) m p=_
    unfold bindC
    rw [bindC_out fun v hv=>(List.nodup_cons.mp nd).1 (List.of_mem_zip hv).1,if_neg hk]
    simp
  | p::P,w::vs,i+1,m,nd,h1,h2,hk=>by
    show bindC kindOf ((p,w)::P.zip vs) m x=_
    unfold bindC
    exact bindC_get (i:=i) (List.nodup_cons.mp nd).2 (by simpa using h1) (by simpa using h2) hk
def start (N:List Str) (vs:List V):St:=vs.map some++List.replicate (N.length - vs.length) none
def cxOf (CX:CXT) (P:Program) (w:World) (K:PySem.W.Frag) (mg:Str->Option Value) (base:Heap) (N:List Str) (qual:Str) (scope:Scope) (f:Addr) (cd:Value) (A:Around) (outer:List Env) (s:Shared) (H:Hp) (E:XK):Cx where
  prog:=P
  w:=w
  K:=K
  mg:=mg
  base:=base
  A:=A.deeper (envOfC qual scope s.heap.objs.size f cd)
  N:=N
  s₀:=s
  H₀:=H
  env:=envOfC qual scope s.heap.objs.size f cd
  outer:=outer
  stack:=envOfC qual scope s.heap.objs.size f cd::outer
  ex:=[]
  calm:=true
  fn:=fun _=>true
  pn:=[]
  xe:=fun e s'=>wpAny (model P w) (A.deeper (envOfC qual scope s.heap.objs.size f cd)) (leaving (envOfC qual scope s.heap.objs.size f cd) e) (fun _ s''=>CX outer H s E e s'') (fun e' s''=>CX outer H s E e' s'') s'
theorem cell_has {sc:Scope} {n:Nat} {x:Str} (h:sc.names.lookup x=some .cell):∃ c,(cellsFrom n sc.names []).lookup x=some c:=by
  have q:=PySem.W.cellsFrom_some sc.names n [] (.inl h)
  exact Option.isSome_iff_exists.mp q
theorem inv_start {CX:CXT} {P:Program} {w:World} {K:PySem.W.Frag} {mg:Str->Option Value} {base:Heap} {N ps:List Str} {qual:Str} {scope:Scope} {f:Addr} {cd:Value} {A:Around} {outer:List Env} {s s1:Shared} {H:Hp} {E:XK} {us:List Value} {vs:List V}
    (S:ZC N ps scope) (hd:A.handled=none) (e0:Env0 P w K mg base A outer s H) (hl:vs.length=ps.length) (r:ZQ vs us)
    (x:InCallC s s.heap.objs.size (bindL (envOfC qual scope s.heap.objs.size f cd).kindOf (ps.zip us) fun _=>none) (cellsFrom (s.heap.objs.size+1) scope.names []) (bindC (envOfC qual scope s.heap.objs.size f cd).kindOf (ps.zip us) fun _=>none) s1) :
    ZE (cxOf CX P w K mg base N qual scope f cd A outer s H E) [] (start N vs) H s1:=by
  have hpl:ps.length<=N.length:=by have:=congrArg List.length S.pre;rw [List.length_take] at this;omega
  obtain ⟨h1,tk,rfl,hk⟩:=x.done
  have noA:∀ b:Addr,b∉(cxOf CX P w K mg base N qual scope f cd A outer s H E).ex:=fun b z=>absurd (show b∈([]:List Addr) from z) (by simp)
  refine ⟨⟨e0.mod,S.kind,rfl,rfl,Nat.le_refl _,fun y z c h1 h2=>?_,fun y hy=>?_,fun y c _ h=>?_,fun _=>hd,Around.frames_deeper e0.frames,.inr ⟨rfl,rfl⟩,fun b z=>absurd z (noA b),e0.bs,e0.bsz,fun b _ _=>noA b,fun b z=>absurd z (noA b),e0.funs,e0.frf⟩,
    rfl,e0.bare,Un.kept hk,⟨_,x.toInCall.ns,fun i y v h1 h2 h3=>?_⟩,fun y c h=>⟨_,x.cell y c h⟩,e0.hok.fresh (Nat.le_refl _),fun y c h=>?_,fun p hp=>absurd (show p∈([]:List (Addr×Obj)) from hp) (by simp),e0.hok.kept hk,?_⟩
  · exact name_of_addr x.apart (PySem.mem_of_lookup h1) (PySem.mem_of_lookup h2)
  · have hy:scope.names.lookup y=some .cell\/scope.names.lookup y=some .free:=hy
    rcases hy with hy | hy
    · exact cell_has hy
    · exact absurd rfl (S.nofree _ (PySem.mem_of_lookup hy))
  · exact Nat.le_of_lt (x.above y c (PySem.mem_of_lookup h))
  · have hi:i < vs.length:=by
      unfold start at h2
      by_cases hi:i < vs.length
      · exact hi
      · rw [List.getElem?_append_right (by simpa using hi)] at h2
        rw [List.getElem?_replicate] at h2
        split at h2 <;> cases h2
    have ha:vs[i]?=some v:=by
      unfold start at h2
      rw [List.getElem?_append_left (by simpa using hi),List.getElem?_map] at h2
      cases e:vs[i]? with
      | none=>rw [e] at h2;cases h2
      | some a=>rw [e] at h2;cases h2;rfl
    obtain ⟨u,hu,rv⟩:=r.get ha
    have hp:ps[i]?=some y:=by
      rw [<- S.pre,List.getElem?_take_of_lt (by omega)];exact h1
    have ndP:ps.Nodup:=by rw [<- S.pre];exact S.nd.sublist (List.take_sublist _ _)
    refine ⟨u,rv,?_⟩
    rcases S.par y (List.mem_of_getElem? hp) with k | k
    · exact .inl ⟨k,bindL_get ndP hp hu k⟩
    · obtain ⟨c,e⟩:=cell_has (n:=s.heap.objs.size+1) k
      refine .inr ⟨.inl k,c,e,?_⟩
      have q:=x.cell y c e
      rw [bindC_get ndP hp hu (by show scope.names.lookup y≠_;rw [k];decide)] at q
      exact q
  · exact e0.hok.fresh (Nat.le_of_lt (x.above y c (PySem.mem_of_lookup h)))
  · unfold start
    show _=N.length
    rw [List.length_append,List.length_map,List.length_replicate]
    omega
theorem fn_of {CX:CXT} {P:Program} {w:World} {K:PySem.W.Frag} {mg:Str->Option Value} {base:Heap} {k:Nat} {f:Addr} {name qual:Str} {params:Arguments} {body:List Stmt} {scope:Scope} {dV kV doc pm cdv ct oc:Value} {an od:Option Addr}
    {osl:Array (Option Value)} {N ps:List Str} {sp:Sp} (lk:K.lookup f=some ⟨oc,od,.func (PySem.W.fnOf name qual params body scope dV kV doc pm an cdv ct),osl⟩) (hcd:PySem.W.codeIn K cdv qual=true) (S:ZC N ps scope)
    (len:∀ vs H Q E,sp vs H Q E->vs.length=ps.length)
    (hbody:∀ (A:Around) (outer:List Env) (s:Shared) (H:Hp) (vs:List V) (Q:VK) (E:XK),Wq k (A.deeper (envOfC qual scope s.heap.objs.size f cdv))->sp vs H Q E ->
      ∃ t,PSs (cxOf CX P w K mg base N qual scope f cdv A outer s H E) body t/\t { nx:=fun _ H'=>Q .non H',rt:=Q } (start N vs) H) :
    VH P w K mg base CX (k+1) f (PySem.W.fnOf name qual params body scope dV kV doc pm an cdv ct) ps sp:=by
  refine ⟨len,fun A outer s H args us vs Q E hr e0 hb r hsp=>?_⟩
  have hl:=len _ _ _ _ hsp
  have KX:K.In s.heap:=e0.mod.kin.keeps fun b o e=>(e0.bs b o e).1
  have lim:s.heap.NoLimit:=e0.mod.nolimit.keeps fun b o e=>(e0.bs b o e).1
  have hkind:∀ y∈ps.zip us,scope.names.lookup y.1=some .local\/(scope.names.lookup y.1=some .cell/\((cellsFrom (s.heap.objs.size+1) scope.names []).lookup y.1).isSome=true):=fun ⟨n,v⟩ hy=>by
    rcases S.par n (List.of_mem_zip hy).1 with q | q
    · exact .inl q
    · exact .inr ⟨q,PySem.W.cellsFrom_some _ _ _ (.inl q)⟩
  refine codeAny_call_function hr.depth (KX _ _ lk) rfl S.co S.gen rfl (PySem.W.codeRec_of KX hcd) (hb _ _ _ _ ?_)
  refine wpAny_newFunctionEnv_cells S.kind hkind fun env he s1 x=>?_
  subst he
  refine ⟨lim.keeps x.toInCall.keep,codeAny_func ?_⟩
  obtain ⟨t,ht,hq⟩:=hbody A outer s H vs Q E (hr.deeper _) hsp
  have I:ZE (cxOf CX P w K mg base N qual scope f cdv A outer s H E) [] (start N vs) H s1:=inv_start S hr.hd e0 hl r x
  refine wpAny_mono (ht [] s1 (start N vs) H _ I hq) (fun fl s' hs=>?_) fun e s' hs=>hs
  have fin:∀ {σ':St} {H':Hp} {v:V} {u:Value},ZE (cxOf CX P w K mg base N qual scope f cdv A outer s H E) [] σ' H' s'->Ya v u->Q v H'->CE outer P w H s Q u s' :=
    fun {σ' H' v u} J rv q=>⟨v,H',J.os,J.bare,J.base,J.hok,rv,q⟩
  cases fl with
  | ret u =>
    obtain ⟨v,σ',H',J,rv,q⟩:=hs
    exact fin J rv q
  | next =>
    obtain ⟨σ',H',J,q⟩:=hs
    exact fin (v:=V.non) (u:=Value.none) J rfl q
  | brk =>
    obtain ⟨_,_,_,q⟩:=hs
    exact False.elim q
  | cont =>
    obtain ⟨_,_,_,q⟩:=hs
    exact False.elim q
end L2
namespace L2
open PySem PySem.Spec PyProof.Rows
section
variable {X:Cx} {x:Str} {p pos:Pos} {e:Expr} {es:List Expr} {t:TA} {id T:String} {r:List V->Hp->VK->Prop}
def tCB (r:List V->Hp->VK->Prop) (t:TA):TE:=fun σ H Q=>t σ H fun vs H1=>r vs H1 Q
theorem pe_callB (hc:X2 X (.builtin id) r) (hg:Gl X x) (hm:X.mg x=none) (hv:bootBuiltins x=some (.builtin id)) (ha:PA X (e::es) t) (hn:x≠"__name__":=by decide) (hdb:(x == ("__debug__":Str))=false:=by decide)
    (he:starEach (e::es) X.env=(false,eval e X.env)::starEach es X.env:=by rfl) (hpl:(backTo pos (starEach es X.env)).any (·.1)=false:=by rfl):PE X (.Call (.Name x p) (e::es) [] pos) (tCB r t):=by
  intro pins s σ H Q I h
  refine wpAny_Call_Name_kw (ld_blt I hg hm hv ?_ hn hdb)
  exact PyProof.Rows.callWith_builtin1 (Y4 (ha pos pins s σ H _ I h) fun us s1 ⟨vs,H1,I1,r1,q1⟩=>hc pins s1 σ H1 vs us Q I1 r1 q1) he hpl
theorem pe_callTy (hc:X2 X (.type T) r) (hg:Gl X x) (hm:X.mg x=none) (hv:bootBuiltins x=some (.type T)) (ha:PA X (e::es) t) (hn:x≠"__name__":=by decide) (hdb:(x == ("__debug__":Str))=false:=by decide)
    (he:starEach (e::es) X.env=(false,eval e X.env)::starEach es X.env:=by rfl) (hpl:(backTo pos (starEach es X.env)).any (·.1)=false:=by rfl):PE X (.Call (.Name x p) (e::es) [] pos) (tCB r t):=by
  intro pins s σ H Q I h
  refine wpAny_Call_Name_kw (ld_blt I hg hm hv ?_ hn hdb)
  exact PyProof.Rows.callWith_type1 (Y4 (ha pos pins s σ H _ I h) fun us s1 ⟨vs,H1,I1,r1,q1⟩=>hc pins s1 σ H1 vs us Q I1 r1 q1) he hpl
end
end L2
namespace HT
open PySem PyProof.Rows
def lexLt:List Int->List Int->Bool
  | [],[]=>false
  | [],_::_=>true
  | _::_,[]=>false
  | x::xs,y::ys=>if x=y then lexLt xs ys else decide (x < y)
theorem X5 (x y:Int) (xs ys:List Int):lexLt (x::xs) (y::ys)=if x=y then lexLt xs ys else decide (x < y):=rfl
theorem lexLt_nil_nil:lexLt [] []=false:=rfl
theorem lexLt_nil_cons (y:Int) (ys:List Int):lexLt [] (y::ys)=true:=rfl
theorem lexLt_cons_nil (x:Int) (xs:List Int):lexLt (x::xs) []=false:=rfl
theorem eqAt_int (A:Around) (s:Shared) (a:Int) (t:Tok) (c:Int) (u:Tok):∃ e,SeqAt.EqAt A s (.int a t) (.int c u) e/\(e=true ↔ a=c) :=
  ⟨(a == c),SeqAt.EqAt.int_int a t c u,by simp⟩
theorem rcLt_int (A:Around) (s:Shared) (a:Int) (t:Tok) (c:Int) (u:Tok) (prog:Program) (w:World) (E:Value->Shared->Prop) (Q:Value->Shared->Prop) (h:Q (.bool (decide (a < c))) s) :
    wpAny (model prog w) A (richCompare .Lt (.int a t) (.int c u)) Q E s :=
  (PyProof.Rows.lt_int h:wpAny (model prog w) A (compareOp .Lt (.int a t) (.int c u)) Q E s)
section
open PySem.SeqAt
open PySem.AutoSeq1 (wpAny_loadPart')
open PySem.MeetsSeq PySem.MeetsSeq2 PySem.MeetsSeq3
theorem tuple_lt_ints (l b:Addr) (items items2:Array Value) (n n2:Nat) (dd dd2:Option Addr) (sl sl2:Array (Option Value)) (ns ms:List Int) (hi:IntsAre items.toList ns) (hj:IntsAre items2.toList ms) :
    Meets (Builtin.«tuple.__lt__» ⟨[.ref l,.ref b],[]⟩)
      (fun _ R s=>s.heap.get? l=some { cls:=.type "tuple",dict:=dd,data:=.seq items n,slots:=sl }/\s.heap.get? b=some { cls:=.type "tuple",dict:=dd2,data:=.seq items2 n2,slots:=sl2 } /\
        R (.ok (.ret (.bool (lexLt ns ms)))) s) :=
  .of_wp fun prog w A R s h=>by
    obtain ⟨hp,g,d,tk,os⟩:=s;obtain ⟨hl,hb,h⟩:=h
    have f2:=AutoSeq1.sub_tuple_tuple
    have z1:items.size=ns.length:=by rw [<- hi.length];simp
    have z2:items2.size=ms.length:=by rw [<- hj.length];simp
    wp_walk using wpAny_loadPart' hl,wpAny_loadPart' hb,wpAny_forIn_list _ (fun XX b s'=>b.1=none/\s'=⟨hp,g,d,tk,os⟩/\∃ (vs ws:List Value) (ns' ms':List Int),XX=vs.zip ws /\
      IntsAre vs ns'/\IntsAre ws ms'/\ns'.length+items2.size=ms'.length+items.size/\R (.ok (.ret (.bool (lexLt ns' ms')))) ⟨hp,g,d,tk,os⟩) _
    case turn =>
      rintro ⟨y,x⟩ XX b s' ⟨hb',rfl,vs,ws,ns',ms',hz,hvi,hwi,hlen,hR⟩
      cases hvi with
      | nil=>rw [List.zip_nil_left] at hz;cases hz
      | cons a t hvi' =>
        cases hwi with
        | nil=>rw [List.zip_nil_right] at hz;cases hz
        | cons c u hwi' =>
          rw [List.zip_cons_cons] at hz
          injection hz with hyx hrest
          injection hyx with hy hx
          subst hy hx
          rw [X5] at hR
          simp only [List.length_cons] at hlen
          obtain ⟨e,he,hiff⟩:=eqAt_int A.in1 ⟨hp,g,d,tk,os⟩ a t c u
          refine wpAny_bind (he prog w _ _ ?_)
          cases e with
          | true =>
            rw [if_pos (hiff.mp rfl)] at hR
            wp_walk
            exact ⟨rfl,rfl,_,_,_,_,hrest,hvi',hwi',by omega,hR⟩
          | false =>
            rw [if_neg (fun q=>absurd (hiff.mpr q) Bool.false_ne_true)] at hR
            have hri:=rcLt_int A.in1 ⟨hp,g,d,tk,os⟩ a t c u prog w
            wp_walk using hri
            exact ⟨_,rfl,by simpa using hR⟩
    case fin =>
      rintro ⟨b1,b2⟩ s' ⟨hb',rfl,vs,ws,ns',ms',hz,hvi,hwi,hlen,hR⟩
      simp only at hb'
      subst hb'
      have hv:lexLt ns' ms'=decide (items.size < items2.size):=by
        cases hvi with
        | nil =>
          cases hwi with
          | nil =>
            simp only [List.length_nil] at hlen
            rw [lexLt_nil_nil]
            exact (decide_eq_false (by omega)).symm
          | cons c u hw =>
            simp only [List.length_nil,List.length_cons] at hlen
            rw [lexLt_nil_cons]
            exact (decide_eq_true (by omega)).symm
        | cons a t hv =>
          cases hwi with
          | nil =>
            simp only [List.length_nil,List.length_cons] at hlen
            rw [lexLt_cons_nil]
            exact (decide_eq_false (by omega)).symm
          | cons c u hw =>
            rw [List.zip_cons_cons] at hz
            cases hz
      rw [hv] at hR
      wp_walk
      exact ⟨_,rfl,by simpa [Builtin.Tuple.tupleCompareSizes] using hR⟩
    case h =>
      exact ⟨rfl,rfl,items.toList,items2.toList,ns,ms,rfl,hi,hj,by omega,h⟩
end
section
variable {prog:Program} {w:World} {A:Around} {E:Value->Shared->Prop} {s:Shared}
theorem lt_tupInts {l b:Addr} {items items2:Array Value} {ns ms:List Int} {Q:Value->Shared->Prop} (hl:IsTup s.heap l items) (hb:IsTup s.heap b items2) (hi:IntsAre items.toList ns) (hj:IntsAre items2.toList ms)
    (hu:A.units < cLine) (h:Q (.bool (lexLt ns ms)) s):wpAny (model prog w) A (compareOp .Lt (.ref l) (.ref b)) Q E s:=by
  obtain ⟨⟨cls,dd,data,sl⟩,ho,hc,n,hd⟩:=id hl
  obtain ⟨⟨cls2,dd2,data2,sl2⟩,ho2,hc2,n2,hd2⟩:=id hb
  simp only at hc hd hc2 hd2
  subst hc hd hc2 hd2
  exact richCompare_meets_room (op:=.Lt) ⟨_,ho,rfl⟩ ⟨_,ho2,rfl⟩ PySem.F.slot_tuple_lt PySem.F.entry_tuple_lt (PySem.F.args_tuple_lt_2 _ _) (tuple_lt_ints l b items items2 n n2 dd dd2 sl sl2 ns ms hi hj)
    ⟨ho,ho2,show Value.bool (lexLt ns ms)≠Value.notImplemented/\Q (.bool (lexLt ns ms)) s from ⟨(fun x=>nomatch x),h⟩⟩ hu
theorem cat_tup {t b:Addr} {vs ws:List Value} {Q:Value->Shared->Prop} (ht:IsTup s.heap t vs.toArray) (hb:IsTup s.heap b ws.toArray) (hv:vs≠[])
    (h1:ws=[]->Q (.ref t) s) (h2:ws≠[]->Q (.ref s.heap.objs.size) { s with heap:=s.heap.push { cls:=.type "tuple",data:=.seq (vs++ws).toArray } })
    (hsz:vs.length+ws.length<=sizeLine):wpAny (model prog w) A (binaryOp .Add (.ref t) (.ref b)) Q E s:=by
  obtain ⟨⟨cls,dd,data,sl⟩,ho,hc,n,hd⟩:=id ht
  obtain ⟨⟨cls2,dd2,data2,sl2⟩,ho2,hc2,n2,hd2⟩:=id hb
  simp only at hc hd hc2 hd2
  subst hc hd hc2 hd2
  have e:vs.toArray++ws.toArray=(vs++ws).toArray:=by simp
  by_cases hw:ws=[]
  · exact concat_meets ⟨_,ho,rfl⟩ ⟨_,ho2,rfl⟩ noFill_tuple_add seq_tuple_add PySem.F.slot_tuple_add PySem.F.entry_tuple_add (PySem.F.args_tuple_add_2 _ _)
      (tuple_addW1 t b vs.toArray ws.toArray n n2 dd dd2 sl sl2 (by simpa using hv) (by simp [hw])) ⟨ho,ho2,h1 hw⟩
  · refine concat_meets ⟨_,ho,rfl⟩ ⟨_,ho2,rfl⟩ noFill_tuple_add seq_tuple_add PySem.F.slot_tuple_add PySem.F.entry_tuple_add (PySem.F.args_tuple_add_2 _ _)
      (tuple_addW2 t b vs.toArray ws.toArray n n2 dd dd2 sl sl2 (by simpa using hv) (by simpa using hw) (by rw [List.size_toArray,List.size_toArray];exact hsz)) ⟨ho,ho2,?_⟩
    rw [e]
    exact h2 hw
def sIx (n d:Nat):Option Int->Nat
  | none=>d
  | some v=>if v < 0 then (v+(n:Int)).toNat else min v.toNat n
theorem sIx_none (n d:Nat):sIx n d none=d:=rfl
theorem sIx_nat (n d k:Nat):sIx n d (some (k:Int))=min k n:=by
  show (if (k:Int) < 0 then ((k:Int)+(n:Int)).toNat else min (k:Int).toNat n)=min k n
  rw [if_neg (by omega),Int.toNat_natCast]
theorem sIx_le (n d:Nat) (hd:d<=n) (o:Option Int):sIx n d o<=n:=by
  cases o with
  | none=>exact hd
  | some v =>
    show (if v < 0 then (v+(n:Int)).toNat else min v.toNat n)<=n
    by_cases hv:v < 0
    · rw [if_pos hv];omega
    · rw [if_neg hv];exact Nat.min_le_right _ _
theorem clip_eq (v:Int) (n d:Nat):(if v < 0 then max (v+(n:Int)) 0 else min v (n:Int))=((sIx n d (some v):Nat):Int):=by
  show (if v < 0 then max (v+(n:Int)) 0 else min v (n:Int))=(((if v < 0 then (v+(n:Int)).toNat else min v.toNat n):Nat):Int)
  by_cases hv:v < 0
  · simp only [if_pos hv];omega
  · simp only [if_neg hv];omega
theorem adjust_gen (lo hi:Option Int) (n:Nat):Builtin.Slice.sliceAdjust lo hi 1 (n:Int)=(((sIx n 0 lo:Nat):Int),((sIx n n hi:Nat):Int)):=by
  have h1:¬ ((1:Int) < 0):=by omega
  unfold Builtin.Slice.sliceAdjust
  simp only [h1,if_false]
  refine Prod.ext ?_ ?_
  · cases lo with
    | none=>rfl
    | some v=>exact clip_eq v n 0
  · cases hi with
    | none=>rfl
    | some v=>exact clip_eq v n n
theorem places_gen (i j:Nat):Builtin.Slice.slicePlaces (i:Int) (j:Int) 1=j - i:=by
  unfold Builtin.Slice.slicePlaces
  have h1:(1:Int) > 0:=by omega
  simp only [h1,if_true,Int.ediv_one]
  split <;> omega
theorem slicePart_ {v:Value} {o:Option Int} {Q:Option Int->Shared->Prop} (p:IsPart v o) (h:Q o s):wpAny (model prog w) A (Builtin.Slice.slicePartIndex v) Q E s:=by
  cases p with
  | none=>exact slicePart_none h
  | int i t=>exact slicePart_int h
theorem Vi {sl:Addr} {vl vu:Value} {lo hi:Option Int} {n:Nat} {Q:Int×Int×Nat->Shared->Prop} (hs:s.heap.IsSliceOf sl vl vu .none) (pl:IsPart vl lo) (pu:IsPart vu hi)
    (h:Q (((sIx n 0 lo:Nat):Int),1,sIx n n hi - sIx n 0 lo) s):wpAny (model prog w) A (Builtin.Slice.sliceApplied (.ref sl) (pure (n:Int))) Q E s:=by
  obtain ⟨os,hos,hcs,hds⟩:=id hs
  unfold Builtin.Slice.sliceApplied Builtin.Slice.sliceFields
  refine wpAny_bind (wpAny_bind (wpAny_field hos hds (x:=vl) rfl (wpAny_bind (wpAny_field hos hds (x:=vu) rfl (wpAny_bind (wpAny_field hos hds (x:=.none) rfl (wpAny_pure ?_)))))))
  refine wpAny_bind (slicePart_none ?_)
  show wpAny _ _ (if ((1:Int) == 0)=true then _ else _) _ _ s
  rw [if_neg (by decide)]
  refine wpAny_bind (slicePart_ pl (wpAny_bind (slicePart_ pu (wpAny_bind (wpAny_pure ?_)))))
  show wpAny _ _ (match Builtin.Slice.sliceAdjust lo hi 1 (n:Int) with | (lo,hi)=>pure (lo,(1:Int),Builtin.Slice.slicePlaces lo hi 1)) _ _ s
  rw [adjust_gen lo hi n]
  show wpAny _ _ (pure (((sIx n 0 lo:Nat):Int),(1:Int),Builtin.Slice.slicePlaces ((sIx n 0 lo:Nat):Int) ((sIx n n hi:Nat):Int) 1)) _ _ s
  rw [places_gen]
  exact wpAny_pure h
theorem pick_gen (xs:Array Value) (i k:Nat):((List.range k).filterMap fun (m:Nat)=>xs[((i:Int)+(m:Int) * 1).toNat]?).toArray=((xs.toList.drop i).take k).toArray:=by
  have e:(fun (m:Nat)=>xs[((i:Int)+(m:Int) * 1).toNat]?)=fun m=>xs[i+m]?:=by
    funext m
    have:((i:Int)+(m:Int) * 1).toNat=i+m:=by omega
    rw [this]
  rw [e]
  have:=pick_run xs i k
  rw [List.filterMap_map] at this
  have e2:((fun x=>xs[x]?) ∘ fun x=>i+x)=fun m=>xs[i+m]?:=rfl
  rw [e2] at this
  rw [this]
theorem getItem_tuple_cut {t sl:Addr} {items:Array Value} {vl vu:Value} {lo hi:Option Int} {Q:Value->Shared->Prop} (ht:IsTup s.heap t items) (hs:s.heap.IsSliceOf sl vl vu .none) (pl:IsPart vl lo) (pu:IsPart vu hi)
    (hw:¬ (sIx items.size 0 lo=0/\sIx items.size items.size hi=items.size))
    (h:Q (.ref s.heap.objs.size) { s with heap:=s.heap.push { cls:=.type "tuple",data:=.seq ((items.toList.drop (sIx items.size 0 lo)).take (sIx items.size items.size hi - sIx items.size 0 lo)).toArray } })
    (hsz:items.size<=sizeLine):wpAny (model prog w) A (getItem (.ref t) (.ref sl)) Q E s:=by
  have htake:sizeOk (.seq ((items.toList.drop (sIx items.size 0 lo)).take (sIx items.size items.size hi - sIx items.size 0 lo)).toArray):=by
    show ((items.toList.drop (sIx items.size 0 lo)).take (sIx items.size items.size hi - sIx items.size 0 lo)).toArray.size<=sizeLine
    rw [List.size_toArray,List.length_take,List.length_drop,Array.length_toList]
    omega
  have hj:sIx items.size items.size hi<=items.size:=sIx_le _ _ (Nat.le_refl _) hi
  obtain ⟨os,hos,hcs,hds⟩:=id hs
  have hTs:s.TypeIs (.ref sl) "slice":=⟨os,hos,hcs⟩
  unfold getItem
  try with_reducible refine wpAny_holding ?_
  first | refine wpAny_bind (wpAny_pure ?_) | skip
  refine wpAny_bind (wpAny_sequenceKey ht.typeIs (by decide) ?_)
  refine wpAny_bind (wpAny_callSpecial?_slot (name:=Str.ofString "__getitem__") ht.typeIs PyProof.Rows.slot_tuple_getitem
    (wpAny_call_entry PyProof.Rows.slot_tuple_getitem ht.typeIs entry_tuple_getitem ?_ (args_tuple_getitem _ _)))
  show wpAny _ _ (Builtin.Tuple.tupleItemsOf (.ref t) >>= _) _ _ s
  refine wpAny_bind (tupleItemsOf_ ht ?_)
  refine wpAny_bind (wpAny_typeOf hTs ?_)
  rw [if_pos (by decide)]
  refine wpAny_bind (Vi hs pl pu ?_)
  have hno:¬ ((((sIx items.size 0 lo:Nat):Int) == 0 && (1:Int) == 1 && (sIx items.size items.size hi - sIx items.size 0 lo) == items.size)=true):=by
    intro q
    rw [Bool.and_eq_true,Bool.and_eq_true] at q
    have q1:((sIx items.size 0 lo:Nat):Int)=0:=eq_of_beq q.1.1
    have q2:sIx items.size items.size hi - sIx items.size 0 lo=items.size:=eq_of_beq q.2
    exact hw ⟨by omega,by omega⟩
  show wpAny _ _ (if (((sIx items.size 0 lo:Nat):Int) == 0 && (1:Int) == 1 && (sIx items.size items.size hi - sIx items.size 0 lo) == items.size)=true then _ else _) _ _ s
  rw [if_neg hno,pick_gen]
  first
    | exact wpAny_bind (m:=Builtin.Tuple.tupleExact _) (wpAny_newObj_type (wpAny_pure ⟨_,rfl,wpAny_pure h⟩) htake)
    | exact wpAny_bind (m:=Builtin.Tuple.tupleExact _) (wpAny_newObj_type (wpAny_bind (wpAny_pure (wpAny_pure ⟨_,rfl,wpAny_pure h⟩))) htake)
    | exact wpAny_bind (wpAny_bind (m:=Builtin.Tuple.tupleExact _) (wpAny_newObj_type (wpAny_pure (wpAny_pure ⟨_,rfl,wpAny_pure h⟩)) htake))
    | exact wpAny_bind (wpAny_bind (m:=Builtin.Tuple.tupleExact _) (wpAny_newObj_type (wpAny_pure ⟨_,rfl,wpAny_pure h⟩) htake))
end
end HT
namespace L2
open PySem PySem.Spec PyProof.Rows
abbrev TO:=St->Hp->(Option Int->Hp->Prop)->Prop
def PO (X:Cx) (e:Option Expr) (t:TO):Prop :=
  ∀ (pins:List (Addr×Obj)) (s:Shared) (σ:St) (H:Hp) (Q:Option Int->Hp->Prop),ZE X pins σ H s->t σ H Q ->
    wpAny (model X.prog X.w) X.A (evalPart e X.env) (fun u s'=>∃ o H',ZE X pins σ H' s'/\IsPart u o/\Q o H') X.xe s
def tNoPart:TO:=fun _ H Q=>Q none H
def tPart (t:TE):TO:=fun σ H Q=>t σ H fun x H1=>∃ i,x=.int i/\Q (some i) H1
theorem X7 {ns:List Int}:∀ {us:List Value},ZQ (ns.map V.int) us->IntsAre us ns:=by
  induction ns with
  | nil=>intro us r;rw [List.map_nil] at r;cases r;exact .nil
  | cons n ns ih =>
    intro us r
    rw [List.map_cons] at r
    cases r with
    | cons r1 r2 =>
      obtain ⟨t,e⟩:=r1
      subst e
      exact .cons n t (ih r2)
section
variable {X:Cx} {e:Expr} {te:TE} {lo hi:Option Expr} {tl th:TO} {pos p2:Pos}
theorem po_none:PO X none tNoPart:=by
  intro pins s σ H Q I h
  rw [evalPart_none]
  exact wpAny_pure ⟨none,H,I,.none,h⟩
theorem po_some (h:PE X e te):PO X (some e) (tPart te):=by
  intro pins s σ H Q I hw
  rw [evalPart_some]
  refine Y4 (h pins s σ H _ I hw) fun u s1 ⟨x,H1,I1,r1,q1⟩=>?_
  obtain ⟨i,rfl,q⟩:=q1
  obtain ⟨t,rfl⟩:=r1
  exact ⟨some i,H1,I1,.int i t,q⟩
def SlR (X:Cx) (r:V->Option Int->Option Int->Hp->VK->Prop):Prop :=
  ∀ (pins:List (Addr×Obj)) (s:Shared) (σ:St) (H:Hp) (x:V) (v vl vu:Value) (lo hi:Option Int) (sl:Addr) (Q:VK),ZE X pins σ H s->Ya x v->s.heap.IsSliceOf sl vl vu .none->IsPart vl lo->IsPart vu hi->r x lo hi H Q ->
    ∃ T id,typeLookup (.type T) "__getitem__"=pure (some (.builtin id))/\s.TypeIs v T/\wpAny (model X.prog X.w) X.A (getItem v (.ref sl)) (EP X pins σ Q) X.xe s
theorem SlR.or {r r':V->Option Int->Option Int->Hp->VK->Prop} (h:SlR X r) (h':SlR X r'):SlR X (fun x lo hi H Q=>r x lo hi H Q\/r' x lo hi H Q):=by
  intro pins s σ H x v vl vu lo hi sl Q I rx hs pl pu q
  rcases q with q | q
  · exact h pins s σ H x v vl vu lo hi sl Q I rx hs pl pu q
  · exact h' pins s σ H x v vl vu lo hi sl Q I rx hs pl pu q
def tSl (r:V->Option Int->Option Int->Hp->VK->Prop) (te:TE) (tl th:TO):TE:=fun σ H Q=>te σ H fun x H1=>tl σ H1 fun l H2=>th σ H2 fun u H3=>r x l u H3 Q
theorem pe_slice {r:V->Option Int->Option Int->Hp->VK->Prop} (hr:SlR X r) (he:PE X e te) (hl:PO X lo tl) (hu:PO X hi th):PE X (.Subscript e (.Slice lo hi none p2) pos) (tSl r te tl th):=by
  intro pins s σ H Q I h
  refine Subscript_ (Y4 (he pins s σ H _ I h) fun v s1 ⟨x,H1,I1,r1,q1⟩=>?_)
  refine wpAny_Slice (Y4 (hl pins s1 σ H1 _ I1 q1) fun vl s2 ⟨l,H2,I2,pl,q2⟩=>Y4 (hu pins s2 σ H2 _ I2 q2) fun vu s3 ⟨u,H3,I3,pu,q3⟩=>?_)
  rw [evalPart_none]
  refine wpAny_pure ?_
  have I4:ZE X pins σ H3 { s3 with heap:=s3.heap.push { cls:=.type "slice",data:=.fields #[vl,vu,.none] } }:=I3.kept (t':=s3.toks) fun b ob q=>Heap.get?_push_of_some _ q
  obtain ⟨T,id,hT,ht,hg⟩:=hr pins { s3 with heap:=s3.heap.push { cls:=.type "slice",data:=.fields #[vl,vu,.none] } } σ H3 x v vl vu l u s3.heap.objs.size Q I4 r1 (Heap.IsSliceOf.new ..) pl pu q3
  show wpAny (model X.prog X.w) X.A (subscriptTail e (.Slice lo hi none p2) v (.ref s3.heap.objs.size)) (EP X pins σ Q) X.xe { s3 with heap:=s3.heap.push { cls:=.type "slice",data:=.fields #[vl,vu,.none] } }
  exact tail_any (ops:=[.ref s3.heap.objs.size,v]) ht hT hg (by with_unfolding_all rfl)
def cutV (xs:List V) (lo hi:Option Int):List V:=(xs.drop (HT.sIx xs.length 0 lo)).take (HT.sIx xs.length xs.length hi - HT.sIx xs.length 0 lo)
theorem cutV_length (xs:List V) (lo hi:Option Int):(cutV xs lo hi).length<=xs.length:=by
  unfold cutV
  rw [List.length_take,List.length_drop]
  omega
def rSlT (K:PySem.W.Frag):V->Option Int->Option Int->Hp->VK->Prop:=fun x lo hi H Q=>∃ a xs,x=.ref a/\Wy K H a xs /\
  ¬ (HT.sIx xs.length 0 lo=0/\HT.sIx xs.length xs.length hi=xs.length)/\∀ p,H p=none->Q (.ref p) (YV H p (.tup (cutV xs lo hi)))
theorem sl_tup:SlR X (rSlT X.K):=by
  intro pins s σ H x v vl vu lo hi sl Q I rx hs pl pu h
  obtain ⟨a,xs,rfl,hx,hw,q⟩:=h
  cases rx
  obtain ⟨its,r,ht,hz⟩:=I.tuple hx
  have hlen:its.toArray.size=xs.length:=by rw [List.size_toArray];exact r.length.symm
  refine ⟨"tuple",_,PyProof.Rows.slot_tuple_getitem.lookup,ht.typeIs,?_⟩
  refine HT.getItem_tuple_cut ht hs pl pu (by rw [hlen];exact hw) ?_ (by rw [hlen];exact hz)
  rw [hlen]
  refine ⟨.ref s.heap.objs.size,_,I.laid (t':=s.toks) (o:=.tup (cutV xs lo hi)) (fun b ob q=>Heap.get?_push_of_some _ q) (Nat.le_refl _) ?_,rfl,q _ (I.hok.fresh (Nat.le_refl _))⟩
  exact ⟨Nat.le_trans (cutV_length xs lo hi) hz,_,(r.drop (HT.sIx xs.length 0 lo)).take (HT.sIx xs.length xs.length hi - HT.sIx xs.length 0 lo),IsTup.new _ _⟩
def rLtT (K:PySem.W.Frag):R2:=fun x y H Q=>∃ a b ns ms,x=.ref a/\y=.ref b/\Wy K H a (ns.map V.int)/\Wy K H b (ms.map V.int)/\Q (.bl (HT.lexLt ns ms)) H
theorem op_ltT (hu:X.A.units < cLine):OpR X (compareOp .Lt) (rLtT X.K):=by
  intro pins s σ H x y v u Q I rx ry h
  obtain ⟨a,b,ns,ms,rfl,rfl,ha,hb,q⟩:=h
  cases rx
  cases ry
  obtain ⟨its,r1,p1,_⟩:=I.tuple ha
  obtain ⟨its2,r2,p2,_⟩:=I.tuple hb
  have i1:IntsAre its.toArray.toList ns:=X7 r1
  have i2:IntsAre its2.toArray.toList ms:=X7 r2
  exact HT.lt_tupInts p1 p2 i1 i2 hu ⟨.bl (HT.lexLt ns ms),H,I,rfl,q⟩
def rCatT (K:PySem.W.Frag):R2:=fun x y H Q=>∃ a b xs ys,x=.ref a/\y=.ref b/\Wy K H a xs/\Wy K H b ys/\xs≠[]/\xs.length+ys.length<=sizeLine /\
  (ys=[]->Q (.ref a) H)/\(ys≠[]->∀ p,H p=none->Q (.ref p) (YV H p (.tup (xs++ys))))
theorem ZQ.nil_iff {xs:List V} {us:List Value} (r:ZQ xs us):us=[] ↔ xs=[]:=by
  cases r with
  | nil=>simp
  | cons _ _=>simp
theorem op_catT:OpR X (binaryOp .Add) (rCatT X.K):=by
  intro pins s σ H x y v u Q I rx ry h
  obtain ⟨a,b,xs,ys,rfl,rfl,ha,hb,hx,hz,q1,q2⟩:=h
  cases rx
  cases ry
  obtain ⟨its,r1,p1,_⟩:=I.tuple ha
  obtain ⟨its2,r2,p2,_⟩:=I.tuple hb
  refine HT.cat_tup p1 p2 (fun z=>hx (r1.nil_iff.mp z)) (fun z=>⟨.ref a,H,I,rfl,q1 (r2.nil_iff.mp z)⟩) (fun z=>?_) (by rw [<- r1.length,<- r2.length];exact hz)
  refine ⟨.ref s.heap.objs.size,_,I.laid (t':=s.toks) (o:=.tup (xs++ys)) (fun b ob q=>Heap.get?_push_of_some _ q) (Nat.le_refl _) ?_,rfl,q2 (fun w=>z (r2.nil_iff.mpr w)) _ (I.hok.fresh (Nat.le_refl _))⟩
  exact ⟨by rw [List.length_append];exact hz,_,r1.append r2,IsTup.new _ _⟩
end
end L2
namespace L2
open PySem PySem.Spec PyProof.Rows
def ixN (n:Nat) (i:Int):Option Nat:=if 0<=i then (if i < n then some i.toNat else none) else if -(n:Int)<=i then some (i+n).toNat else none
def atI {α:Type} (xs:List α) (i:Int):Option α:=(ixN xs.length i).bind fun j=>xs[j]?
theorem ixN_seq {n:Nat} {i:Int} {j:Nat} (h:ixN n i=some j):seqIndex? i n=some j/\j < n/\-(n:Int)<=i/\i < n:=by
  unfold ixN at h
  by_cases h0:0<=i
  · rw [if_pos h0] at h
    by_cases h1:i < n
    · rw [if_pos h1] at h
      have e:i.toNat=j:=Option.some.inj h
      exact ⟨by rw [seqIndex_of h0 h1,e],by omega,by omega,h1⟩
    · rw [if_neg h1] at h;cases h
  · rw [if_neg h0] at h
    by_cases h1:-(n:Int)<=i
    · rw [if_pos h1] at h
      have e:(i+n).toNat=j:=Option.some.inj h
      exact ⟨by rw [seqIndex_neg (by omega) h1,e],by omega,h1,by omega⟩
    · rw [if_neg h1] at h;cases h
theorem atI_get {α:Type} {xs:List α} {i:Int} {v:α} (h:atI xs i=some v):∃ j,seqIndex? i xs.length=some j/\xs[j]?=some v/\j < xs.length/\-(xs.length:Int)<=i/\i < xs.length:=by
  unfold atI at h
  cases e:ixN xs.length i with
  | none=>rw [e] at h;cases h
  | some j =>
    rw [e] at h
    obtain ⟨h1,h2,h3,h4⟩:=ixN_seq e
    exact ⟨j,h1,h,h2,h3,h4⟩
def PlainIx (b:Expr):Prop:=∀ o i,subscripted b false o i=operate [o,i] (getItem o i)
def IxR (X:Cx) (r:R2):Prop :=
  ∀ (value slice:Expr) (pins:List (Addr×Obj)) (s:Shared) (σ:St) (H:Hp) (x y:V) (v u:Value) (Q:VK),ZE X pins σ H s->Ya x v->Ya y u->r x y H Q ->
    subscripted slice false v u=operate [v,u] (getItem v u)->wpAny (model X.prog X.w) X.A (subscriptTail value slice v u) (EP X pins σ Q) X.xe s
def MtR (X:Cx) (id:String) (r:V->List V->Hp->VK->Prop):Prop :=
  ∀ (pins:List (Addr×Obj)) (s:Shared) (σ:St) (H:Hp) (x:V) (xs:List V) (v:Value) (us:List Value) (Q:VK),ZE X pins σ H s->Ya x v->ZQ xs us->r x xs H Q ->
    wpAny (model X.prog X.w) X.A (call (.builtin id) (v::us)) (EP X pins σ Q) X.xe s
section
variable {X:Cx} {a b:Expr} {ta tb:TE} {pos:Pos}
theorem IxR.or {r r':R2} (h:IxR X r) (h':IxR X r'):IxR X (fun x y H Q=>r x y H Q\/r' x y H Q):=by
  intro value slice pins s σ H x y v u Q I rx ry q hs
  rcases q with q | q
  · exact h value slice pins s σ H x y v u Q I rx ry q hs
  · exact h' value slice pins s σ H x y v u Q I rx ry q hs
theorem MtR.or {id:String} {r r':V->List V->Hp->VK->Prop} (h:MtR X id r) (h':MtR X id r'):MtR X id (fun x xs H Q=>r x xs H Q\/r' x xs H Q):=by
  intro pins s σ H x xs v us Q I rx rs q
  rcases q with q | q
  · exact h pins s σ H x xs v us Q I rx rs q
  · exact h' pins s σ H x xs v us Q I rx rs q
theorem pe_ix {r:R2} (hr:IxR X r) (ha:PE X a ta) (hb:PE X b tb) (hs:PlainIx b):PE X (.Subscript a b pos) (tOp r ta tb):=by
  intro pins s σ H Q I h
  exact Subscript_ (binT ha hb I h fun v u s2 x y H2 I2 rx ry q=>hr a b pins s2 σ H2 x y v u Q I2 rx ry q (hs _ _))
def rIxL (K:PySem.W.Frag):R2:=fun x y H Q=>∃ p xs i v,x=.ref p/\y=.int i/\Wa K H p xs/\atI xs i=some v/\Q v H
def rIxT (K:PySem.W.Frag):R2:=fun x y H Q=>∃ p xs i v,x=.ref p/\y=.int i/\Wy K H p xs/\atI xs i=some v/\Q v H
theorem ix_list:IxR X (rIxL X.K):=by
  intro value slice pins s σ H x y v u Q I rx ry h hs
  obtain ⟨p,xs,i,z,rfl,rfl,hq,he,q⟩:=h
  cases rx
  obtain ⟨t,rfl⟩:=ry
  obtain ⟨its,r,pl,hz⟩:=I.list hq
  obtain ⟨j,h1,h2,h3,h4,h5⟩:=atI_get he
  obtain ⟨w,ew,rw'⟩:=r.get h2
  have hl:=r.length
  have hn:=line63
  have fin:EP X pins σ Q w s:=⟨z,H,I,rw',q⟩
  by_cases h0:0<=i
  · have hj:i.toNat=j:=by
      rw [seqIndex_of h0 h5] at h1
      exact Option.some.inj h1
    exact item_listR pl.isList h0 (by omega) (by rw [hj];simpa using ew) fin hs
  · have hj:(i+(its.toArray.size:Int)).toNat=j:=by
      rw [seqIndex_neg (by omega) h4] at h1
      rw [List.size_toArray,<- hl]
      exact Option.some.inj h1
    exact subscriptTail_builtinR (x:=w) pl.isList.typeIs slot_list_getitem.lookup
      (wpAny_getItem_list_neg (Q:=fun r s'=>r=w/\EP X pins σ Q r s') pl.isList (by omega) (by rw [List.size_toArray] <;> omega) (by omega) (by rw [hj];simpa using ew) ⟨rfl,fin⟩) hs
theorem ix_tup:IxR X (rIxT X.K):=by
  intro value slice pins s σ H x y v u Q I rx ry h hs
  obtain ⟨p,xs,i,z,rfl,rfl,hq,he,q⟩:=h
  cases rx
  obtain ⟨t,rfl⟩:=ry
  obtain ⟨its,r,pl,hz⟩:=I.tuple hq
  obtain ⟨j,h1,h2,h3,h4,h5⟩:=atI_get he
  obtain ⟨w,ew,rw'⟩:=r.get h2
  have hl:=r.length
  have hn:=line63
  have fin:EP X pins σ Q w s:=⟨z,H,I,rw',q⟩
  exact subscriptTail_builtinR (x:=w) pl.typeIs slot_tuple_getitem.lookup
    (getItem_tuple (j:=j) (Q:=fun r s'=>r=w/\EP X pins σ Q r s') pl (by omega) (by omega) (by rw [List.size_toArray,<- hl];exact h1) (by simpa using ew) ⟨rfl,fin⟩) hs
theorem mapSeq_set (its:List Value) (n j:Nat) (u:Value):Obj.mapSeq (·.setIfInBounds j u) { cls:=.type "list",data:=.seq its.toArray n }={ cls:=.type "list",data:=.seq (its.set j u).toArray n }:=by
  simp [Obj.mapSeq]
theorem ZE.lst {pins:List (Addr×Obj)} {σ:St} {H:Hp} {s:Shared} {p:Addr} {xs:List V} (I:ZE X pins σ H s) (h:H p=some (.lst xs)) :
    ∃ (its:List Value) (n:Nat),ZQ xs its/\s.heap.get? p=some { cls:=.type "list",data:=.seq its.toArray n }/\xs.length<=sizeLine:=by
  obtain ⟨z,its,n,r,e⟩:=I.hok p _ h
  exact ⟨its,n,r,e,z⟩
theorem ZE.lstUpd {pins:List (Addr×Obj)} {σ:St} {H:Hp} {s:Shared} {p:Addr} {xs ys:List V} {its its':List Value} {n n':Nat} {f:Obj->Obj} (I:ZE X pins σ H s) (h:H p=some (.lst xs))
    (ho:s.heap.get? p=some { cls:=.type "list",data:=.seq its.toArray n }) (hf:f { cls:=.type "list",data:=.seq its.toArray n }={ cls:=.type "list",data:=.seq its'.toArray n' }) (r:ZQ ys its') (hz:ys.length<=sizeLine) (t:Nat) :
    ZE X pins σ (YV H p (.lst ys)) { s with heap:=s.heap.update p f,toks:=t }:=by
  have e:(s.heap.update p f).get? p=some { cls:=.type "list",data:=.seq its'.toArray n' }:=by
    rw [Heap.get?_update_self f ho (by rw [hf] <;> rfl),hf]
  refine I.write (x:=p) (e:=p) (by rw [h];trivial) (.inl rfl) (fun b u hb q=>(Heap.get?_update_other _ _ (Ne.symm hb)).trans q) ⟨_,e⟩ ?_
  exact ⟨hz,its',n',r,e⟩
def rSetL:V->V->V->Hp->(Hp->Prop)->Prop:=fun o i v H Q=>∃ p xs k j,o=.ref p/\i=.int k/\H p=some (.lst xs)/\ixN xs.length k=some j/\Q (YV H p (.lst (xs.set j v)))
theorem set_list:PSet X rSetL:=by
  intro pins s σ H o i v ov iv u Q I ro ri rv h
  obtain ⟨p,xs,k,j,rfl,rfl,hp,hj,q⟩:=h
  cases ro
  obtain ⟨t,rfl⟩:=ri
  obtain ⟨its,n,r,ho,hz⟩:=I.lst hp
  obtain ⟨h1,h2,h3,h4⟩:=ixN_seq hj
  have hl:=r.length
  have hn:=line63
  have I':ZE X pins σ (YV H p (.lst (xs.set j v))) { s with heap:=s.heap.update p (Obj.mapSeq (·.setIfInBounds j u)) } :=
    I.lstUpd hp ho (mapSeq_set its n j u) (r.set rv j) (by rw [List.length_set];exact hz) s.toks
  by_cases h0:0<=k
  · have hk:k.toNat=j:=by
      rw [seqIndex_of h0 h4] at h1
      exact Option.some.inj h1
    exact PySem.W.ki_setAt ho h0 (by omega) (by rw [List.size_toArray,<- hl];exact h4) (by rw [hk];exact ⟨_,I',q⟩)
  · have hk:(k+(its.toArray.size:Int)).toNat=j:=by
      rw [seqIndex_neg (by omega) h3] at h1
      rw [List.size_toArray,<- hl]
      exact Option.some.inj h1
    exact PySem.W.ki_setBack ho (by omega) (by rw [List.size_toArray,<- hl];exact h3) (by omega) (by rw [hk];exact ⟨_,I',q⟩)
theorem slice_bounds (lo hi:Option Int) (n:Nat):(sliceBounds lo hi none n).1=((HT.sIx n 0 lo:Nat):Int)/\(sliceBounds lo hi none n).2.1=((HT.sIx n n hi:Nat):Int)/\(sliceBounds lo hi none n).2.2=1:=by
  refine ⟨?_,?_,rfl⟩
  · cases lo with
    | none=>simp [sliceBounds,HT.sIx]
    | some i =>
      simp only [sliceBounds,HT.sIx,Option.getD_none,show (1:Int) > 0 by decide,if_true]
      by_cases h:i < 0
      · simp only [h,if_true] <;> omega
      · simp only [h,if_false] <;> omega
  · cases hi with
    | none=>simp [sliceBounds,HT.sIx]
    | some i =>
      simp only [sliceBounds,HT.sIx,Option.getD_none,show (1:Int) > 0 by decide,if_true]
      by_cases h:i < 0
      · simp only [h,if_true] <;> omega
      · simp only [h,if_false] <;> omega
theorem slicePick_cut (its:List Value) (lo hi:Option Int):slicePick its.toArray lo hi none=((its.drop (HT.sIx its.length 0 lo)).take (HT.sIx its.length its.length hi - HT.sIx its.length 0 lo)).toArray:=by
  obtain ⟨h1,h2,h3⟩:=slice_bounds lo hi its.toArray.size
  unfold slicePick
  rw [h1,h2,h3]
  simp only [sliceRange_one,pick_run,List.size_toArray] <;> rfl
def rSlL (K:PySem.W.Frag):V->Option Int->Option Int->Hp->VK->Prop:=fun x lo hi H Q=>∃ a xs,x=.ref a/\Wa K H a xs/\∀ p,H p=none->Q (.ref p) (YV H p (.lst (cutV xs lo hi)))
theorem sl_list:SlR X (rSlL X.K):=by
  intro pins s σ H x v vl vu lo hi sl Q I rx hs pl pu h
  obtain ⟨a,xs,rfl,hx,q⟩:=h
  cases rx
  obtain ⟨its,r,ht,hz⟩:=I.list hx
  have hlen:=r.length
  refine ⟨"list",_,slot_list_getitem.lookup,ht.isList.typeIs,?_⟩
  refine wpAny_getItem_list_slice ht.isList hs pl pu .none (by simp) ?_ (by rw [List.size_toArray] <;> omega)
  rw [slicePick_cut,<- hlen]
  refine ⟨.ref s.heap.objs.size,_,I.laid (t':=s.toks) (o:=.lst (cutV xs lo hi)) (fun b ob q=>Heap.get?_push_of_some _ q) (Nat.le_refl _) ?_,rfl,q _ (I.hok.fresh (Nat.le_refl _))⟩
  exact ⟨Nat.le_trans (cutV_length xs lo hi) hz,_,0,(r.drop (HT.sIx xs.length 0 lo)).take (HT.sIx xs.length xs.length hi - HT.sIx xs.length 0 lo),Heap.get?_push_size _ rfl⟩
def flatV:V->Bool
  | .non=>true
  | .bl _=>true
  | .int _=>true
  | .str _=>true
  | _=>false
def eqV:V->V->Bool
  | .non,.non=>true
  | .bl a,.bl b=>a == b
  | .bl a,.int b=>(if a then 1 else 0) == b
  | .int a,.bl b=>a == (if b then 1 else 0)
  | .int a,.int b=>a == b
  | .str a,.str b=>a == b
  | _,_=>false
theorem eqAt_V {A:Around} {s:Shared} {y x:V} {u v:Value} (ry:Ya y u) (rx:Ya x v) (fy:flatV y=true) (fx:flatV x=true):SeqAt.EqAt A s u v (eqV y x):=by
  cases y with
  | non =>
    cases ry
    cases x with
    | non=>cases rx;exact SeqAt.EqAt.same _
    | bl b=>cases rx;exact SeqAt.EqAt.none_bool b
    | int b=>obtain ⟨t,rfl⟩:=rx;exact SeqAt.EqAt.none_int b t
    | str b=>obtain ⟨t,rfl⟩:=rx;exact SeqAt.EqAt.none_str b t
    | _=>exact absurd (show false=true from fx) Bool.false_ne_true
  | bl a =>
    cases ry
    cases x with
    | non=>cases rx;exact SeqAt.EqAt.bool_none a
    | bl b=>cases rx;exact SeqAt.EqAt.bool_bool a b
    | int b=>obtain ⟨t,rfl⟩:=rx;exact SeqAt.EqAt.bool_int a b t
    | str b=>obtain ⟨t,rfl⟩:=rx;exact SeqAt.EqAt.bool_str a b t
    | _=>exact absurd (show false=true from fx) Bool.false_ne_true
  | int a =>
    obtain ⟨t',rfl⟩:=ry
    cases x with
    | non=>cases rx;exact SeqAt.EqAt.int_none a t'
    | bl b=>cases rx;exact SeqAt.EqAt.int_bool a t' b
    | int b=>obtain ⟨t,rfl⟩:=rx;exact SeqAt.EqAt.int_int a t' b t
    | str b=>obtain ⟨t,rfl⟩:=rx;exact SeqAt.EqAt.int_str a t' b t
    | _=>exact absurd (show false=true from fx) Bool.false_ne_true
  | str a =>
    obtain ⟨t',rfl⟩:=ry
    cases x with
    | non=>cases rx;exact SeqAt.EqAt.str_none a t'
    | bl b=>cases rx;exact SeqAt.EqAt.str_bool a t' b
    | int b=>obtain ⟨t,rfl⟩:=rx;exact SeqAt.EqAt.str_int a t' b t
    | str b=>obtain ⟨t,rfl⟩:=rx;exact SeqAt.EqAt.str_str a t' b t
    | _=>exact absurd (show false=true from fx) Bool.false_ne_true
  | _=>exact absurd (show false=true from fy) Bool.false_ne_true
def eqU (x:V) (u:Value):Bool:=match u with
  | .none=>eqV .non x
  | .bool b=>eqV (.bl b) x
  | .int i _=>eqV (.int i) x
  | .str z _=>eqV (.str z) x
  | _=>false
theorem eqU_of {x y:V} {u:Value} (r:Ya y u) (f:flatV y=true):eqU x u=eqV y x:=by
  cases y with
  | non=>cases r;rfl
  | bl b=>cases r;rfl
  | int i=>obtain ⟨t,rfl⟩:=r;rfl
  | str z=>obtain ⟨t,rfl⟩:=r;rfl
  | _=>exact absurd (show false=true from f) Bool.false_ne_true
theorem any_eqU {x:V}:∀ {xs:List V} {us:List Value},ZQ xs us->xs.all flatV=true->us.any (eqU x)=xs.any fun y=>eqV y x
  | _,_,.nil,_=>rfl
  | y::xs,u::us,.cons r t,f=>by
    rw [List.all_cons,Bool.and_eq_true] at f
    rw [List.any_cons,List.any_cons,eqU_of r f.1,any_eqU t f.2]
theorem mem_eqAt {A:Around} {s:Shared} {x:V} {v:Value} (rx:Ya x v) (fx:flatV x=true):∀ {xs:List V} {us:List Value},ZQ xs us->xs.all flatV=true->∀ u∈us,SeqAt.EqAt A s u v (eqU x u)
  | _,_,.nil,_=>fun u hu=>by cases hu
  | y::xs,u::us,.cons r t,f=>fun u' hu=>by
    rw [List.all_cons,Bool.and_eq_true] at f
    rcases List.mem_cons.mp hu with rfl | hu
    · rw [eqU_of r f.1];exact eqAt_V r rx f.1 fx
    · exact mem_eqAt rx fx t f.2 u' hu
def inV (x:V) (xs:List V):Bool:=xs.any fun y=>eqV y x
def rIn (K:PySem.W.Frag) (neg:Bool):R2:=fun x y H Q=>∃ p xs,y=.ref p/\(Wa K H p xs\/Wy K H p xs)/\flatV x=true/\xs.all flatV=true/\Q (.bl (if neg then !inV x xs else inV x xs)) H
theorem op_in_seq:OpR X (compareOp .In) (rIn X.K false):=by
  intro pins s σ H x y v u Q I rx ry h
  obtain ⟨p,xs,rfl,hq,fx,fs,q⟩:=h
  cases ry
  rcases hq with hq | hq
  · obtain ⟨its,r,pl,hz⟩:=I.list hq
    refine SeqAt.in_listAt (eqU x) pl.isList (fun w hw=>mem_eqAt rx fx r fs w (by simpa using hw)) ⟨.bl _,H,I,rfl,?_⟩
    rw [show its.toArray.any (eqU x)=its.any (eqU x) by simp,any_eqU r fs]
    exact q
  · obtain ⟨its,r,pl,hz⟩:=I.tuple hq
    refine SeqAt.in_tupleAt (eqU x) pl (fun w hw=>mem_eqAt rx fx r fs w (by simpa using hw)) ⟨.bl _,H,I,rfl,?_⟩
    rw [show its.toArray.any (eqU x)=its.any (eqU x) by simp,any_eqU r fs]
    exact q
theorem op_notIn_seq:OpR X (compareOp .NotIn) (rIn X.K true):=by
  intro pins s σ H x y v u Q I rx ry h
  obtain ⟨p,xs,rfl,hq,fx,fs,q⟩:=h
  cases ry
  rcases hq with hq | hq
  · obtain ⟨its,r,pl,hz⟩:=I.list hq
    refine SeqAt.notIn_listAt (eqU x) pl.isList (fun w hw=>mem_eqAt rx fx r fs w (by simpa using hw)) ⟨.bl _,H,I,rfl,?_⟩
    rw [show its.toArray.any (eqU x)=its.any (eqU x) by simp,any_eqU r fs]
    exact q
  · obtain ⟨its,r,pl,hz⟩:=I.tuple hq
    refine SeqAt.notIn_tupleAt (eqU x) pl (fun w hw=>mem_eqAt rx fx r fs w (by simpa using hw)) ⟨.bl _,H,I,rfl,?_⟩
    rw [show its.toArray.any (eqU x)=its.any (eqU x) by simp,any_eqU r fs]
    exact q
theorem call_len_seq:X2 X (.builtin "len") (fun xs H Q=>∃ p ys,xs=[.ref p]/\(Wa X.K H p ys\/Wy X.K H p ys)/\Q (.int ys.length) H):=by
  intro pins s σ H xs us Q I r h
  obtain ⟨p,ys,rfl,hq,q⟩:=h
  obtain ⟨u,rfl,rx⟩:=Vd r
  cases rx
  have hn:=line63
  rcases hq with hq | hq
  · obtain ⟨its,r',pl,hz⟩:=I.list hq
    have hlen:=r'.length
    exact Calls.call_len_list pl.isList (by simp only [List.size_toArray] <;> omega) ⟨.int ys.length,H,I.tok _,⟨s.toks+1,by rw [List.size_toArray,hlen]⟩,q⟩
  · obtain ⟨its,r',pl,hz⟩:=I.tuple hq
    have hlen:=r'.length
    exact len_tuple pl (by simp only [List.size_toArray] <;> omega) ⟨.int ys.length,H,I.tok _,⟨s.toks+1,by rw [List.size_toArray,hlen]⟩,q⟩
theorem X2.or {f:Value} {r r':List V->Hp->VK->Prop} (h:X2 X f r) (h':X2 X f r'):X2 X f (fun xs H Q=>r xs H Q\/r' xs H Q):=by
  intro pins s σ H xs us Q I rs q
  rcases q with q | q
  · exact h pins s σ H xs us Q I rs q
  · exact h' pins s σ H xs us Q I rs q
theorem call_list_of:X2 X (.type "list") (fun xs H Q=>∃ p ys,xs=[.ref p]/\(Wa X.K H p ys\/Wy X.K H p ys)/\∀ l,H l=none->Q (.ref l) (YV H l (.lst ys))):=by
  intro pins s σ H xs us Q I r h
  obtain ⟨p,ys,rfl,hq,q⟩:=h
  obtain ⟨u,rfl,rx⟩:=Vd r
  cases rx
  have fin:∀ (its:List Value),ZQ ys its->ys.length<=sizeLine->∀ (h':Heap) (c':Nat),(∀ b o',s.heap.get? b=some o'->h'.get? b=some o') ->
      h'.get? s.heap.objs.size=some { cls:=.type "list",dict:=none,data:=.seq its.toArray c',slots:=#[] }->EP X pins σ Q (.ref s.heap.objs.size) { s with heap:=h' }:=fun its r' hz h' c' kp e =>
    ⟨.ref s.heap.objs.size,_,I.laid (t':=s.toks) kp (Nat.le_refl _) (show YJ X.prog X.w _ h' _ (.lst ys) from ⟨hz,its,c',r',e⟩),rfl,q _ (I.hok.fresh (Nat.le_refl _))⟩
  rcases hq with hq | hq
  · obtain ⟨its,r',pl,hz⟩:=I.list hq
    have hlen:=r'.length
    obtain ⟨o,ho,hc,n,hd⟩:=pl.isList
    exact call_list_seq p (.inl rfl) ho hc hd (fun h' c' kp e=>fin its r' hz h' c' kp e) (by simp only [List.size_toArray] <;> omega)
  · obtain ⟨its,r',pl,hz⟩:=I.tuple hq
    have hlen:=r'.length
    obtain ⟨o,ho,hc,n,hd⟩:=pl
    exact call_list_seq p (.inr rfl) ho hc hd (fun h' c' kp e=>fin its r' hz h' c' kp e) (by simp only [List.size_toArray] <;> omega)
theorem call_tuple_of:X2 X (.type "tuple") (fun xs H Q=>∃ p ys,xs=[.ref p]/\((Wa X.K H p ys/\∀ l,H l=none->Q (.ref l) (YV H l (.tup ys)))\/(Wy X.K H p ys/\Q (.ref p) H))):=by
  intro pins s σ H xs us Q I r h
  obtain ⟨p,ys,rfl,h⟩:=h
  obtain ⟨u,rfl,rx⟩:=Vd r
  cases rx
  rcases h with ⟨hq,q⟩ | ⟨hq,q⟩
  · obtain ⟨its,r',pl,hz⟩:=I.list hq
    have hlen:=r'.length
    refine call_tuple_list pl.isList (fun h' kp=>?_) (by simp only [List.size_toArray] <;> omega)
    have I1:ZE X pins σ H { s with heap:=h' }:=I.kept (t':=s.toks) kp
    have I2:ZE X pins σ (YV H h'.objs.size (.tup ys)) { s with heap:=h'.push { cls:=.type "tuple",data:=.seq its.toArray } } :=
      I1.laid (t':=s.toks) (fun b o e=>Heap.get?_push_of_some _ e) (Nat.le_refl _) (show YJ X.prog X.w _ _ _ (.tup ys) from ⟨hz,its,r',IsTup.new _ _⟩)
    exact ⟨.ref h'.objs.size,_,I2,rfl,q _ (I1.hok.fresh (Nat.le_refl _))⟩
  · obtain ⟨its,r',pl,hz⟩:=I.tuple hq
    exact call_tuple_same pl ⟨.ref p,H,I,rfl,q⟩
def tyV (K:PySem.W.Frag) (T:String) (x:V) (H:Hp):Prop:=match x with
  | .str _=>T="str"
  | .int _=>T="int"
  | .ref p=>(T="list"/\∃ xs,Wa K H p xs)\/(T="tuple"/\∃ o,K.lookup p=some o/\o.cls=.type "tuple"/\o.dict=none) \/
      (T="dict"/\((∃ kvs,H p=some (.dK kvs))\/∃ kvs,H p=some (.dT kvs)))\/(T="set"/\∃ S n,H p=some (.set S n))
  | _=>False
theorem tyV_is {pins:List (Addr×Obj)} {σ:St} {H:Hp} {s:Shared} {T:String} {x:V} {v:Value} (I:ZE X pins σ H s) (r:Ya x v) (ty:tyV X.K T x H) :
    s.TypeIs v T/\∀ a,v=.ref a->∃ ob,s.heap.get? a=some ob/\ob.dict=none:=by
  cases x with
  | str z =>
    obtain ⟨t,rfl⟩:=r
    cases (show T="str" from ty)
    exact ⟨typeIs_str s z t,fun _ e=>nomatch e⟩
  | int i =>
    obtain ⟨t,rfl⟩:=r
    cases (show T="int" from ty)
    exact ⟨typeIs_int s i t,fun _ e=>nomatch e⟩
  | ref p =>
    cases r
    rcases ty with ⟨rfl,xs,hq⟩ | ⟨rfl,o,hk,hc,hd⟩ | ⟨rfl,hk⟩ | ⟨rfl,S,n,hk⟩
    · obtain ⟨its,_,pl,_⟩:=I.list hq
      refine ⟨pl.isList.typeIs,fun a e=>?_⟩
      cases e
      obtain ⟨o,n,e,c,hd,_⟩:=pl
      exact ⟨o,e,hd⟩
    · refine ⟨⟨o,I.kIn p o hk,hc⟩,fun a e=>?_⟩
      cases e
      exact ⟨o,I.kIn _ o hk,hd⟩
    · have z:∃ o,s.heap.get? p=some o/\o.ExactDict:=by
        rcases hk with ⟨kvs,hk⟩ | ⟨kvs,hk⟩
        · obtain ⟨_,_,_,_,o,_,_,e,ex,_⟩:=I.hok p _ hk
          exact ⟨o,e,ex⟩
        · obtain ⟨_,_,_,_,o,_,_,e,ex,_⟩:=I.hok p _ hk
          exact ⟨o,e,ex⟩
      obtain ⟨o,e,ex⟩:=z
      refine ⟨⟨o,e,ex.1⟩,fun a e2=>?_⟩
      cases e2
      exact ⟨o,e,ex.2.1⟩
    · obtain ⟨o,_,_,_,e,ex,_⟩:=I.hok p _ hk
      refine ⟨⟨o,e,ex.1⟩,fun a e2=>?_⟩
      cases e2
      exact ⟨o,e,ex.2.1⟩
  | _=>exact False.elim ty
def tBM (K:PySem.W.Frag) (T:String) (r:V->List V->Hp->VK->Prop) (to:TE) (t:TA):TE:=fun σ H Q=>to σ H fun x H1=>tyV K T x H1/\t σ H1 fun xs H2=>r x xs H2 Q
variable {o e:Expr} {es:List Expr} {to:TE} {t:TA} {name:Str} {apos cpos:Pos} {T id:String} {r:V->List V->Hp->VK->Prop}
theorem pe_bm (pa:PlainAttrs T) (slot:Slot T name id) (hty:typeOf (.builtin id)=pure (.type "method_descriptor")) (hm:MtR X id r) (ho:PE X o to) (ha:PA X (e::es) t)
    (hbase:attributeBase o name X.env (eval o X.env)=eval o X.env:=by rfl)
    (hfew:((backTo cpos (starEach (e::es) X.env)).all (fun x=>!x.1) && (backToKw cpos (keywordEach [] X.env)).all (fun x=>x.1.isSome)
      && decide ((e::es).length+([]:List Keyword).length+(if ([]:List Keyword).isEmpty then 0 else 1) < 30))=true:=by rfl)
    (hline:(apos.endLine == cpos.line)=true:=by rfl) (hs:starEach (e::es) X.env=(false,eval e X.env)::starEach es X.env:=by rfl) (hplain:(backTo cpos (starEach es X.env)).any (·.1)=false:=by rfl) :
    PE X (.Call (.Attribute o name apos) (e::es) [] cpos) (tBM X.K T r to t):=by
  intro pins s σ H Q I h
  refine wpAny_Call_method_late hbase hfew hline rfl (Y4 (ho pins s σ H _ I h) fun v s1 ⟨x,H1,I1,r1,ty,q1⟩=>?_)
  obtain ⟨h1,h2⟩:=tyV_is I1 r1 ty
  refine ⟨T,id,pa,slot,hty,h1,h2,?_⟩
  have hA:=ha cpos pins s1 σ H1 _ I1 q1
  rw [hs] at hA ⊢
  refine Calls.callWith_builtin (by show (false || (backTo cpos (starEach es X.env)).any (·.1))=false;rw [hplain] <;> rfl) (Calls.evalArgs_plain ?_)
  exact Y4 hA fun us s2 ⟨vs,H2,I2,r2,q2⟩=>hm pins s2 σ H2 x vs v us Q I2 r1 r2 q2
/- xs.append(e),list.index on a module's tuple .. are MtR facts of 06m -/
end
end L2
namespace L2
open PySem PySem.Spec PyProof.Rows
def MtM (X:Cx) (id:String) (r:V->List V->Hp->VK->Prop):Prop :=
  ∀ (pins:List (Addr×Obj)) (s:Shared) (σ:St) (H:Hp) (x:V) (xs:List V) (v:Value) (us:List Value) (Q:VK),ZE X pins σ H s->Ya x v->ZQ xs us->r x xs H Q ->
    wpAny (model X.prog X.w) X.A (call (.builtin id) (v::us)) (EP X pins σ Q) X.xe s
theorem ZQ.one:∀ {x:V} {us:List Value},ZQ [x] us->∃ u,us=[u]/\Ya x u
  | _,_,.cons r .nil=>⟨_,rfl,r⟩
theorem ZQ.two:∀ {x y:V} {us:List Value},ZQ [x,y] us->∃ u v,us=[u,v]/\Ya x u/\Ya y v
  | _,_,_,.cons r (.cons q .nil)=>⟨_,_,rfl,r,q⟩
theorem ZQ.zero:∀ {us:List Value},ZQ [] us->us=[]
  | _,.nil=>rfl
theorem ZQ.dropLast {xs:List V} {us:List Value} (h:ZQ xs us):ZQ xs.dropLast us.dropLast:=by
  induction h with
  | nil=>exact .nil
  | cons r t ih =>
    cases t with
    | nil=>exact .nil
    | cons q t'=>exact .cons r ih
theorem ZQ.reverse {xs:List V} {us:List Value} (h:ZQ xs us):ZQ xs.reverse us.reverse:=by
  induction h with
  | nil=>exact .nil
  | cons r t ih=>rw [List.reverse_cons,List.reverse_cons];exact ZQ.append ih (.cons r .nil)
theorem ZQ.rep {xs:List V} {us:List Value} (h:ZQ xs us):∀ k:Nat,ZQ (List.replicate k xs).flatten (List.replicate k us).flatten
  | 0=>.nil
  | k+1=>by
    rw [List.replicate_succ,List.replicate_succ,List.flatten_cons,List.flatten_cons]
    exact ZQ.append h (ZQ.rep h k)
theorem foldl_rep (its:List Value):∀ (k:Nat) (acc:List Value),
    List.foldl (fun x1 x2=>x1++x2) acc.toArray (List.replicate k its.toArray)=(acc++(List.replicate k its).flatten).toArray
  | 0,acc=>by simp
  | k+1,acc=>by
    have e:acc.toArray++its.toArray=(acc++its).toArray:=by simp
    have e2:(acc++its)++(List.replicate k its).flatten=acc++(List.replicate (k+1) its).flatten:=by
      rw [List.replicate_succ,List.flatten_cons,List.append_assoc]
    rw [<- e2,<- foldl_rep its k (acc++its),<- e,List.replicate_succ,List.foldl_cons]
section
variable {X:Cx} {pins:List (Addr×Obj)} {σ:St} {H:Hp} {s:Shared} {l b:Addr} {xs ys zs:List V}
theorem ZE.lset {its its':List Value} {n:Nat} {f:Array Value->Array Value} {t':Nat} (I:ZE X pins σ H s) (hH:H l=some (.lst xs))
    (e:s.heap.get? l=some { cls:=.type "list",data:=.seq its.toArray n }) (hf:f its.toArray=its'.toArray) (hv:ZQ ys its') (hz:ys.length<=sizeLine) :
    ZE X pins σ (YV H l (.lst ys)) { s with heap:=s.heap.update l (Obj.mapSeq f),toks:=t' }:=by
  have q:=PySem.IsL.update e f
  rw [hf] at q
  refine I.write (x:=l) (e:=l) (by rw [hH];exact trivial) (.inl rfl) (fun b' u hb hu=>(Heap.get?_update_other s.heap (Obj.mapSeq f) (Ne.symm hb)).trans hu) ⟨_,q⟩ ?_
  exact ⟨hz,its',_,hv,q⟩
theorem ZE.lnew {its:List Value} {t':Nat} (I:ZE X pins σ H s) (hv:ZQ ys its) (hz:ys.length<=sizeLine) :
    ZE X pins σ (YV H s.heap.objs.size (.lst ys)) { s with heap:=s.heap.push { cls:=.type "list",data:=.seq its.toArray },toks:=t' } :=
  I.laid (fun _ _ q=>Heap.get?_push_of_some _ q) (Nat.le_refl _) ⟨hz,its,0,hv,Heap.get?_push_size _ rfl⟩
theorem ZE.fresh (I:ZE X pins σ H s):H s.heap.objs.size=none:=I.hok.fresh (Nat.le_refl _)
theorem ZE.lstM (I:ZE X pins σ H s) (hH:H l=some (.lst xs)):xs.length<=sizeLine/\∃ (its:List Value) (n:Nat),ZQ xs its/\xs.length=its.length/\s.heap.get? l=some { cls:=.type "list",data:=.seq its.toArray n }:=by
  obtain ⟨z,its,n,r,e⟩:=I.hok l _ hH
  exact ⟨z,its,n,r,r.length,e⟩
theorem notLongL {n:Nat} (h:n<=sizeLine):Builtin.List.listTooLong n=false:=by
  unfold Builtin.List.listTooLong
  exact decide_eq_false (by omega)
end
section
variable {X:Cx}
def rAppend:V->List V->Hp->VK->Prop:=fun x vs H Q=>∃ l xs y,x=.ref l/\vs=[y]/\H l=some (.lst xs)/\xs.length < sizeLine/\Q .non (YV H l (.lst (xs++[y])))
theorem mt_append:MtM X "list.append" rAppend:=by
  intro pins s σ H x vs v us Q I rx rv h
  obtain ⟨l,xs,y,rfl,rfl,hH,hz,q⟩:=h
  cases rx
  obtain ⟨u,rfl,ru⟩:=rv.one
  obtain ⟨z,its,n,r,hl,e⟩:=I.lstM hH
  refine call_meets F.slot_list_append ⟨_,e,rfl⟩ F.entry_list_append (F.args_list_append_2 _ _) (PySem.list_append l its.toArray n u (by rw [List.size_toArray];omega)) ⟨e,?_⟩
  refine ⟨.non,_,I.lset (its':=its++[u]) hH e (by simp) (r.append (.cons ru .nil)) ?_,rfl,q⟩
  rw [List.length_append,List.length_singleton]
  omega
def rExtend:V->List V->Hp->VK->Prop:=fun x vs H Q=>∃ l b xs zs,x=.ref l/\vs=[.ref b]/\H l=some (.lst xs)/\H b=some (.lst zs)/\xs.length+zs.length<=sizeLine/\Q .non (YV H l (.lst (xs++zs)))
theorem mt_extend:MtM X "list.extend" rExtend:=by
  intro pins s σ H x vs v us Q I rx rv h
  obtain ⟨l,b,xs,zs,rfl,rfl,hH,hB,hz,q⟩:=h
  cases rx
  obtain ⟨u,rfl,ru⟩:=rv.one
  cases ru
  obtain ⟨z,its,n,r,hl,e⟩:=I.lstM hH
  obtain ⟨z2,its2,n2,r2,hl2,e2⟩:=I.lstM hB
  have hsz:its.toArray.size+its2.toArray.size<=sizeLine:=by rw [List.size_toArray,List.size_toArray];omega
  have hlong:¬ (!its.toArray.isEmpty && Builtin.List.listTooLong (its.toArray.size+its2.toArray.size))=true:=by
    rw [notLongL hsz,Bool.and_false]
    exact Bool.false_ne_true
  refine call_meets F.slot_list_extend ⟨_,e,rfl⟩ F.entry_list_extend (F.args_list_extend_2 _ _)
    (AutoSeq1.list_extend_list_list_0 l its.toArray n b its2.toArray n2 hlong (by rw [List.size_toArray];omega) (by omega)) ⟨e,e2,?_⟩
  refine ⟨.non,_,I.lset (its':=its++its2) hH e (by simp) (r.append r2) ?_,rfl,q⟩
  rw [List.length_append]
  omega
def rCat:R2:=fun x y H Q=>∃ l b xs zs,x=.ref l/\y=.ref b/\H l=some (.lst xs)/\H b=some (.lst zs)/\xs.length+zs.length<=sizeLine/\∀ p,H p=none->Q (.ref p) (YV H p (.lst (xs++zs)))
theorem op_cat:OpR X (binaryOp .Add) rCat:=by
  intro pins s σ H x y v u Q I rx ry h
  obtain ⟨l,b,xs,zs,rfl,rfl,hH,hB,hz,q⟩:=h
  cases rx
  cases ry
  obtain ⟨z,its,n,r,hl,e⟩:=I.lstM hH
  obtain ⟨z2,its2,n2,r2,hl2,e2⟩:=I.lstM hB
  refine PySem.P.add_list e e2 ?_ (by rw [List.size_toArray,List.size_toArray];omega)
  have ea:its.toArray++its2.toArray=(its++its2).toArray:=by simp
  rw [ea]
  exact ⟨.ref _,_,I.lnew (t':=s.toks) (r.append r2) (by rw [List.length_append];omega),rfl,q _ I.fresh⟩
def rRep:R2:=fun x y H Q=>∃ l k xs,x=.ref l/\y=.int k/\H l=some (.lst xs)/\-(2 ^ 63)<=k/\k < 2 ^ 63/\xs.length * k.toNat<=sizeLine /\
  ∀ p,H p=none->Q (.ref p) (YV H p (.lst (List.replicate k.toNat xs).flatten))
theorem len_rep {α:Type} (xs:List α) (k:Nat):(List.replicate k xs).flatten.length=k * xs.length:=by
  induction k with
  | zero=>simp
  | succ k ih=>rw [List.replicate_succ,List.flatten_cons,List.length_append,ih,Nat.succ_mul,Nat.add_comm]
theorem op_rep:OpR X (binaryOp .Mult) rRep:=by
  intro pins s σ H x y v u Q I rx ry h
  obtain ⟨l,k,xs,rfl,rfl,hH,h1,h2,hz,q⟩:=h
  cases rx
  obtain ⟨t,rfl⟩:=ry
  obtain ⟨z,its,n,r,hl,e⟩:=I.lstM hH
  have hlen:its.toArray.size * k.toNat<=sizeLine:=by rw [List.size_toArray,<- hl];exact hz
  have hcap:¬ its.toArray.size * k.toNat > (2 ^ 63 - 1) / 8:=by
    have:(sizeLine:Nat)<=(2 ^ 63 - 1) / 8:=by decide
    omega
  have hfit:¬ (!Builtin.List.listFitsIndex k)=true:=by
    rw [fitsIndex_both h1 h2]
    exact Bool.false_ne_true
  have hlong:¬ Builtin.List.listTooLong (its.toArray.size * k.toNat)=true:=by
    rw [notLongL hlen]
    exact Bool.false_ne_true
  have hnew:List.foldl (fun x1 x2=>x1++x2) #[] (List.replicate (if its.toArray.isEmpty=true then 0 else k.toNat) its.toArray)=(List.replicate k.toNat its).flatten.toArray:=by
    have f0:∀ m:Nat,List.foldl (fun x1 x2=>x1++x2) #[] (List.replicate m its.toArray)=(List.replicate m its).flatten.toArray:=fun m=>by
      have:=foldl_rep its m []
      rw [List.nil_append] at this
      exact this
    rw [f0]
    cases its with
    | nil=>simp
    | cons a r'=>rw [if_neg (by simp)]
  refine wpAny_binaryOp_repeat_ref (T:="list") (U:="int") (by decide) ⟨_,e,rfl⟩ (fun s'=>typeIs_int s' k t) noFill_list_mul F.fills_int_mul F.slot_int_rmul repeat_list F.slot_int_index.lookup
    (call_meets F.slot_int_rmul (typeIs_int s k t) F.entry_int_rmul (F.args_int_rmul_2 _ _) (int___rmul___int_list k t l its.toArray n)
      ⟨e,rfl,⟨_,e,rfl⟩,call_meets F.slot_list_mul ⟨_,e,rfl⟩ F.entry_list_mul (F.args_list_mul_2 _ _) (AutoListH.list___mul___list_int_3 l its.toArray n k t hfit hcap hlong) ⟨e,?_⟩⟩)
  rw [hnew]
  exact ⟨.ref _,_,I.lnew (t':=s.toks) (r.rep k.toNat) (by rw [len_rep,Nat.mul_comm];exact hz),rfl,q _ I.fresh⟩
end
section
variable {prog:Program} {w:World} {A:Around} {E:Value->Shared->Prop} {s:Shared}
set_option maxRecDepth 100000 in
end
section
variable {X:Cx}
end
end L2
namespace L2
open PySem PySem.Spec PyProof.Rows
section
variable {κ:Type} [DecidableEq κ]
def W5 (kvs:List (κ×V)) (k:κ):Option V:=(kvs.find? fun kv=>decide (kv.1=k)).map (·.2)
def Vz (kvs:List (κ×V)) (k:κ) (v:V):List (κ×V) :=
  if (kvs.any fun kv=>decide (kv.1=k))=true then kvs.map (fun kv=>if kv.1=k then (kv.1,v) else kv) else kvs++[(k,v)]
def dropK (kvs:List (κ×V)) (k:κ):List (κ×V):=kvs.filter fun kv=>decide (kv.1≠k)
theorem valV_pos {p:κ×V} {r:List (κ×V)} {k:κ} (e:p.1=k):W5 (p::r) k=some p.2:=by simp [W5,List.find?_cons,e]
theorem valV_neg {p:κ×V} {r:List (κ×V)} {k:κ} (e:¬ p.1=k):W5 (p::r) k=W5 r k:=by simp [W5,List.find?_cons,e]
theorem valV_any (k:κ):∀ kvs:List (κ×V),(kvs.any fun kv=>decide (kv.1=k))=(W5 kvs k).isSome
  | []=>rfl
  | p::r=>by
    rw [List.any_cons]
    by_cases e:p.1=k
    · simp only [valV_pos e,decide_eq_true e,Bool.true_or,Option.isSome_some]
    · rw [valV_neg e,decide_eq_false e,Bool.false_or];exact valV_any k r
theorem length_putK (kvs:List (κ×V)) (k:κ) (v:V):(Vz kvs k v).length<=kvs.length+1:=by
  unfold Vz
  split
  · rw [List.length_map];omega
  · rw [List.length_append,List.length_cons,List.length_nil];omega
theorem RelO.isSome_eq {o:Option V} {u:Option Value} (r:RelO o u):o.isSome=u.isSome:=by
  cases o with
  | none=>cases u with
    | none=>rfl
    | some _=>exact (show False from r).elim
  | some _=>cases u with
    | none=>exact (show False from r).elim
    | some _=>rfl
theorem RelO.getD {o:Option V} {u:Option Value} {d:V} {d':Value} (r:RelO o u) (rd:Ya d d'):Ya (o.getD d) (u.getD d'):=by
  cases o with
  | none=>cases u with
    | none=>exact rd
    | some _=>exact (show False from r).elim
  | some _=>cases u with
    | none=>exact (show False from r).elim
    | some _=>exact r
theorem KV.val {kvs:List (κ×V)} {vs:List (κ×Value)} (r:KV kvs vs) (k:κ):RelO (W5 kvs k) (valueAt vs k):=by
  unfold KV at r
  induction r with
  | nil=>exact True.intro
  | @cons p q ps qs h t ih =>
    obtain ⟨h1,h2⟩:=h
    by_cases e:p.1=k
    · have e':q.1=k:=h1.symm.trans e
      have b:valueAt (q::qs) k=some q.2:=by simp [valueAt,List.find?_cons,e']
      rw [valV_pos e,b];exact h2
    · have e':¬ q.1=k:=fun z=>e (h1.trans z)
      have b:valueAt (q::qs) k=valueAt qs k:=by simp [valueAt,List.find?_cons,e']
      rw [valV_neg e,b];exact ih
theorem KV.any {kvs:List (κ×V)} {vs:List (κ×Value)} (r:KV kvs vs) (k:κ):(kvs.any fun kv=>decide (kv.1=k))=vs.any fun kv=>decide (kv.1=k):=by
  unfold KV at r
  induction r with
  | nil=>rfl
  | cons h t ih=>rw [List.any_cons,List.any_cons,ih,h.1]
theorem KV.repl {kvs:List (κ×V)} {vs:List (κ×Value)} (r:KV kvs vs) (k:κ) {y:V} {u:Value} (ry:Ya y u) :
    KV (kvs.map fun kv=>if kv.1=k then (kv.1,y) else kv) (vs.map fun kv=>if kv.1=k then (kv.1,u) else kv):=by
  unfold KV at r ⊢
  induction r with
  | nil=>exact .nil
  | @cons p q ps qs h t ih =>
    rw [List.map_cons,List.map_cons]
    refine .cons ?_ ih
    obtain ⟨h1,h2⟩:=h
    by_cases e:p.1=k
    · rw [if_pos e,if_pos (h1.symm.trans e)];exact ⟨h1,ry⟩
    · rw [if_neg e,if_neg (fun z=>e (h1.trans z))];exact ⟨h1,h2⟩
theorem KV.put {kvs:List (κ×V)} {vs:List (κ×Value)} (r:KV kvs vs) (k:κ) {y:V} {u:Value} (ry:Ya y u):KV (Vz kvs k y) (stored vs k u):=by
  unfold Vz stored
  rw [r.any k]
  by_cases e:(vs.any fun kv=>decide (kv.1=k))=true
  · rw [if_pos e,if_pos e];exact r.repl k ry
  · rw [if_neg e,if_neg e];exact Paired.snoc r ⟨rfl,ry⟩
theorem KV.drop {kvs:List (κ×V)} {vs:List (κ×Value)} (r:KV kvs vs) (k:κ):KV (dropK kvs k) (without vs k):=by
  unfold KV at r ⊢
  unfold dropK without
  induction r with
  | nil=>exact .nil
  | @cons p q ps qs h t ih =>
    obtain ⟨h1,h2⟩:=h
    rw [List.filter_cons,List.filter_cons]
    by_cases e:p.1=k
    · have a:¬ decide (p.1≠k)=true:=by simp [e]
      have b:¬ decide (q.1≠k)=true:=by simp [h1.symm.trans e]
      rw [if_neg a,if_neg b];exact ih
    · have e':¬ q.1=k:=fun z=>e (h1.trans z)
      have a:decide (p.1≠k)=true:=by simp [e]
      have b:decide (q.1≠k)=true:=by simp [e']
      rw [if_pos a,if_pos b];exact .cons ⟨h1,h2⟩ ih
theorem KV.keys {kvs:List (κ×V)} {vs:List (κ×Value)} (r:KV kvs vs):kvs.map (·.1)=vs.map (·.1):=by
  unfold KV at r
  induction r with
  | nil=>rfl
  | cons h t ih=>rw [List.map_cons,List.map_cons,ih,h.1]
theorem KV.length {kvs:List (κ×V)} {vs:List (κ×Value)} (r:KV kvs vs):kvs.length=vs.length:=Paired.length r
end
theorem kV_is {P:Program} {w:World} {k:YW} {u:Value} (r:Ya (kV k) u):(YM P w).is k u=true:=by
  cases k with
  | inl i=>obtain ⟨t,e⟩:=(show ∃ t,u=Value.int i t from r);subst e;exact mixKind_int P w i t
  | inr x=>obtain ⟨t,e⟩:=(show ∃ t,u=Value.str x t from r);subst e;exact mixKind_str P w x t
theorem items_are {P:Program} {w:World}:∀ {ks:List YW} {us:List Value},ZQ (ks.map kV) us->ItemsAre (YM P w) ks us
  | [],_,r=>by rw [List.map_nil] at r;cases r;exact .nil
  | k::ks,_,r=>by
    rw [List.map_cons] at r
    cases r with
    | cons h t=>exact .cons (kV_is h) (items_are t)
abbrev KT (H:Hp):List (List YW×V)->List (List YW×Addr×Value)->Prop:=Paired fun p q=>p.1=q.1/\H q.2.1=some (.tup (p.1.map kV))/\Ya p.2 q.2.2
theorem KT.val {H:Hp} {kvs:List (List YW×V)} {xs:List (List YW×Addr×Value)} (r:KT H kvs xs) (k:List YW):RelO (W5 kvs k) ((atKey xs k).map (·.2)):=by
  induction r with
  | nil=>exact True.intro
  | @cons p q ps qs h t ih =>
    obtain ⟨h1,_,h2⟩:=h
    by_cases e:p.1=k
    · have e':q.1=k:=h1.symm.trans e
      have b:atKey (q::qs) k=some q.2:=by simp [atKey,List.find?_cons,e']
      rw [valV_pos e,b];exact h2
    · have e':¬ q.1=k:=fun z=>e (h1.trans z)
      have b:atKey (q::qs) k=atKey qs k:=by simp [atKey,List.find?_cons,e']
      rw [valV_neg e,b];exact ih
theorem KT.repl {H:Hp} {kvs:List (List YW×V)} {xs:List (List YW×Addr×Value)} (r:KT H kvs xs) (k:List YW) {y:V} {u:Value} (ry:Ya y u) :
    KT H (kvs.map fun kv=>if kv.1=k then (kv.1,y) else kv) (xs.map (putAt k u)):=by
  induction r with
  | nil=>exact .nil
  | @cons p q ps qs h t ih =>
    rw [List.map_cons,List.map_cons]
    refine .cons ?_ ih
    obtain ⟨h1,h2,h3⟩:=h
    unfold putAt
    by_cases e:p.1=k
    · rw [if_pos e,if_pos (h1.symm.trans e)];exact ⟨h1,h2,ry⟩
    · rw [if_neg e,if_neg (fun z=>e (h1.trans z))];exact ⟨h1,h2,h3⟩
theorem KT.put {H:Hp} {kvs:List (List YW×V)} {xs:List (List YW×Addr×Value)} (r:KT H kvs xs) (k:List YW) {b:Addr} {y:V} {u:Value} (hb:H b=some (.tup (k.map kV))) (ry:Ya y u) :
    KT H (Vz kvs k y) (storedH xs k b u):=by
  have e:(kvs.any fun kv=>decide (kv.1=k))=(atKey xs k).isSome:=by
    rw [valV_any,(r.val k).isSome_eq,Option.isSome_map]
  unfold Vz storedH
  rw [e]
  by_cases q:(atKey xs k).isSome=true
  · rw [if_pos q,if_pos q];exact r.repl k ry
  · rw [if_neg q,if_neg q];exact Paired.snoc r ⟨rfl,hb,ry⟩
theorem KT.keeps {H H':Hp} {kvs:List (List YW×V)} {xs:List (List YW×Addr×Value)} (r:KT H kvs xs) (ht:∀ b ys,H b=some (.tup ys)->H' b=some (.tup ys)):KT H' kvs xs :=
  Paired.mapP r fun _ _ z=>⟨z.1,ht _ _ z.2.1,z.2.2⟩
section
variable {P:Program} {w:World} {H:Hp} {h:Heap} {a:Addr}
theorem rd_of {u:HO} (ok:HOk P w H h) (e:Rd H a u):YJ P w H h a u:=e.ok ok
theorem dk_rd {kvs:List (YW×V)} (ok:HOk P w H h) (e:Rd H a (.dK kvs)):kvs.length<=sizeLine/\(a == sysModules)=false/\∃ vs,KV kvs vs/\h.DictOf (YM P w) a vs :=
  show YJ P w H h a (.dK kvs) from rd_of ok e
theorem dk_of {kvs:List (YW×V)} (ok:HOk P w H h) (e:H a=some (.dK kvs)):kvs.length<=sizeLine/\(a == sysModules)=false/\∃ vs,KV kvs vs/\h.DictOf (YM P w) a vs:=dk_rd ok (.inl e)
theorem key_of {ks:List YW} (ok:HOk P w H h) (e:H a=some (.tup (ks.map kV))):(tupleKind (YM P w)).is h ks a:=by
  obtain ⟨_,its,r,o,h1,h2,n,h3⟩:=(show YJ P w H h a (.tup (ks.map kV)) from ok a _ e)
  exact ⟨o,its.toArray,n,h1,h2,h3,by simpa using items_are r⟩
theorem dt_rd {kvs:List (List YW×V)} (ok:HOk P w H h) (e:Rd H a (.dT kvs)):kvs.length<=sizeLine/\(a == sysModules)=false /\
    ∃ xs,KT H kvs xs/\h.DictOfH (tupleKind (YM P w)) a xs:=by
  obtain ⟨z,y,xs,r,o,es,ep,h1,h2,h3,h4,h5⟩:=(show YJ P w H h a (.dT kvs) from rd_of ok e)
  refine ⟨z,y,xs,r,o,es,ep,h1,h2,h3,h4,fun x hx=>?_,h5⟩
  have all:∀ {l:List (List YW×V)} {m:List (List YW×Addr×Value)},KT H l m->∀ x∈m,(tupleKind (YM P w)).is h x.1 x.2.1:=by
    intro l m q
    induction q with
    | nil=>intro x hx;exact nomatch hx
    | @cons p q ps qs hq t ih =>
      intro x hx
      rcases List.mem_cons.mp hx with e | hx
      · subst e
        exact key_of ok (by rw [<- hq.1];exact hq.2.1)
      · exact ih x hx
  exact all r x hx
theorem dt_of {kvs:List (List YW×V)} (ok:HOk P w H h) (e:H a=some (.dT kvs)):kvs.length<=sizeLine/\(a == sysModules)=false /\
    ∃ xs,KT H kvs xs/\h.DictOfH (tupleKind (YM P w)) a xs:=dt_rd ok (.inl e)
end
def DGet (H:Hp) (a:Addr) (y:V) (r:Option V):Prop :=
  (∃ kvs k,Rd H a (.dK kvs)/\y=kV k/\r=W5 kvs k)\/∃ kvs k b,Rd H a (.dT kvs)/\y=.ref b/\H b=some (.tup (k.map kV))/\r=W5 kvs k
def DPut (H:Hp) (a:Addr) (y v:V) (H':Hp):Prop :=
  (∃ kvs k,H a=some (.dK kvs)/\y=kV k/\kvs.length < sizeLine/\H'=YV H a (.dK (Vz kvs k v))) \/
  ∃ kvs k b,H a=some (.dT kvs)/\y=.ref b/\H b=some (.tup (k.map kV))/\kvs.length < sizeLine/\H'=YV H a (.dT (Vz kvs k v))
theorem DGet.k {H:Hp} {a:Addr} {kvs:List (YW×V)} {k:YW} (e:H a=some (.dK kvs)):DGet H a (kV k) (W5 kvs k):=.inl ⟨kvs,k,.inl e,rfl,rfl⟩
theorem DGet.t {H:Hp} {a b:Addr} {kvs:List (List YW×V)} {k:List YW} (e:H a=some (.dT kvs)) (eb:H b=some (.tup (k.map kV))):DGet H a (.ref b) (W5 kvs k):=.inr ⟨kvs,k,b,.inl e,rfl,eb,rfl⟩
theorem DPut.k {H:Hp} {a:Addr} {kvs:List (YW×V)} {k:YW} {v:V} (e:H a=some (.dK kvs)) (hl:kvs.length < sizeLine):DPut H a (kV k) v (YV H a (.dK (Vz kvs k v))):=.inl ⟨kvs,k,e,rfl,hl,rfl⟩
theorem DPut.t {H:Hp} {a b:Addr} {kvs:List (List YW×V)} {k:List YW} {v:V} (e:H a=some (.dT kvs)) (eb:H b=some (.tup (k.map kV))) (hl:kvs.length < sizeLine) :
    DPut H a (.ref b) v (YV H a (.dT (Vz kvs k v))):=.inr ⟨kvs,k,b,e,rfl,eb,hl,rfl⟩
section
variable {X:Cx} {pins:List (Addr×Obj)} {σ:St} {H:Hp} {s:Shared} {a:Addr} {y v:V} {u r:Value} {o:Option V} {A:Around} {E:Value->Shared->Prop}
theorem ZE.big (I:ZE X pins σ H s):sysModules < s.heap.objs.size:=by
  have h:mainGlobals < s.heap.objs.size:=(I.mod.glob.keeps I.bk).lt
  exact Nat.lt_trans (by decide) h
theorem d_getItem {Q:Value->Shared->Prop} (hu:A.units+1 < cLine) (I:ZE X pins σ H s) (g:DGet H a y (some v)) (ry:Ya y u) (h:∀ w' s',ZE X pins σ H s'->Ya v w'->Q w' s') :
    wpAny (model X.prog X.w) A (getItem (.ref a) u) Q E s:=by
  rcases g with ⟨kvs,k,e,ey,l⟩ | ⟨kvs,k,b,e,ey,eb,l⟩
  · subst ey
    obtain ⟨z,hd,vs,rel,dd⟩:=dk_rd I.hok e
    obtain ⟨w',hw,rw'⟩:=RelO.some_of (v:=v) (o:=valueAt vs k) (by rw [l];exact rel.val k)
    exact wpAny_getItem_of (kV_is ry) dd.mapOf hw (h w' _ (I.tok _) rw')
  · subst ey
    cases (show u=Value.ref b from ry)
    obtain ⟨z,hd,xs,rel,dd⟩:=dt_rd I.hok e
    obtain ⟨w',hw,rw'⟩:=RelO.some_of (v:=v) (o:=(atKey xs k).map (·.2)) (by rw [l];exact rel.val k)
    obtain ⟨p,hp,hp2⟩:=Option.map_eq_some_iff.mp hw
    refine wpAny_getItem_heap (tupleKind_room_in1 hu) (key_of I.hok eb) dd hp ?_
    rw [hp2]
    exact h w' _ (I.tok _) rw'
theorem d_in {Q:Value->Shared->Prop} (hu:A.units+1 < cLine) (I:ZE X pins σ H s) (g:DGet H a y o) (ry:Ya y u) (h:∀ s',ZE X pins σ H s'->Q (.bool o.isSome) s') :
    wpAny (model X.prog X.w) A (compareOp .In u (.ref a)) Q E s:=by
  rcases g with ⟨kvs,k,e,ey,l⟩ | ⟨kvs,k,b,e,ey,eb,l⟩
  · subst ey
    obtain ⟨z,hd,vs,rel,dd⟩:=dk_rd I.hok e
    refine wpAny_in_of (kV_is ry) hd dd.mapOf ?_
    rw [<- (rel.val k).isSome_eq,<- l]
    exact h _ (I.tok _)
  · subst ey
    cases (show u=Value.ref b from ry)
    obtain ⟨z,hd,xs,rel,dd⟩:=dt_rd I.hok e
    refine wpAny_in_heap (tupleKind_room_in1 hu) (key_of I.hok eb) hd dd ?_
    have q:=(rel.val k).isSome_eq
    rw [Option.isSome_map] at q
    rw [<- q,<- l]
    exact h _ (I.tok _)
theorem d_write {h':Heap} {t':Nat} {ob:HO} (I:ZE X pins σ H s) (mu:Mut (H a)) (hs:Heap.SameBut a s.heap h') (he:∃ q,h'.get? a=some q) (new:YJ X.prog X.w (YV H a ob) h' a ob) :
    ZE X pins σ (YV H a ob) { s with heap:=h',toks:=t' } :=
  I.write (x:=a) (e:=a) mu (.inl rfl) (fun b q hb z=>(hs.2 b hb).trans z) he new
theorem dk_new {P:Program} {w:World} {H':Hp} {h':Heap} {kvs:List (YW×V)} {vs:List (YW×Value)} (z:kvs.length<=sizeLine) (hd:(a == sysModules)=false) (rel:KV kvs vs) (dd:h'.DictOf (YM P w) a vs) :
    YJ P w H' h' a (.dK kvs):=⟨z,hd,vs,rel,dd⟩
theorem d_setItem {H':Hp} {Q:Unit->Shared->Prop} (hu:A.units+1 < cLine) (I:ZE X pins σ H s) (g:DPut H a y v H') (ry:Ya y u) (rv:Ya v r) (h:∀ s',ZE X pins σ H' s'->Q () s') :
    wpAny (model X.prog X.w) A (setItem (.ref a) u r) Q E s:=by
  rcases g with ⟨kvs,k,e,ey,l,eH⟩ | ⟨kvs,k,b,e,ey,eb,l,eH⟩
  · subst ey eH
    obtain ⟨z,hd,vs,rel,dd⟩:=dk_of I.hok e
    have hz:vs.length<=sizeLine:=by rw [<- rel.length];exact z
    have hl:(Vz kvs k v).length<=sizeLine:=by have:=length_putK kvs k v;omega
    refine wpAny_setItem_pairs (hsz:=hz) (kV_is ry) dd fun h' dd' hs=>h _ ?_
    have he:∃ q,h'.get? a=some q:=let ⟨q,_,_,hq,_⟩:=dd';⟨q,hq⟩
    exact d_write I (by rw [e];exact True.intro) hs he (dk_new hl hd (rel.put k rv) dd')
  · subst ey eH
    cases (show u=Value.ref b from ry)
    obtain ⟨z,hd,xs,rel,dd⟩:=dt_of I.hok e
    have hz:xs.length<=sizeLine:=by rw [<- Paired.length rel];exact z
    have hl:(Vz kvs k v).length<=sizeLine:=by have:=length_putK kvs k v;omega
    refine wpAny_setItem_heap (hsz:=hz) (tupleKind_room_in1 hu) (key_of I.hok eb) dd fun h' dd' hs=>h _ ?_
    obtain ⟨q,es,ep,hq,h2,h3,h4,_,h5⟩:=dd'
    refine d_write I (by rw [e];exact True.intro) hs ⟨q,hq⟩ ⟨hl,hd,_,(rel.put k eb rv).keeps fun c ys ec=>?_,q,es,ep,hq,h2,h3,h4,h5⟩
    rw [ZG (ne_of ec e (fun z=>nomatch z))]
    exact ec
end
section
variable {X:Cx} {pins:List (Addr×Obj)} {σ:St} {H:Hp} {s:Shared} {a:Addr} {kvs:List (YW×V)} {k:YW} {u:Value} {A:Around} {E:Value->Shared->Prop}
theorem d_len {Q:Value->Shared->Prop} (I:ZE X pins σ H s) (e:Rd H a (.dK kvs)) (h:∀ t s',ZE X pins σ H s'->Q (.int kvs.length t) s'):wpAny (model X.prog X.w) A (call (.builtin "len") [.ref a]) Q E s:=by
  obtain ⟨z,hd,vs,rel,dd⟩:=dk_rd I.hok e
  refine call_len_dict hd dd (by rw [<- rel.length];rw [sizeLine_eq] at z;omega) ?_
  rw [<- rel.length]
  exact h _ _ (I.tok _)
end
def NoSl (i:Expr):Prop:=∀ ov iv,subscripted i false ov iv=operate [ov,iv] (getItem ov iv)
theorem subD_of {prog:Program} {w:World} {A:Around} {E:Value->Shared->Prop} {s:Shared} {env:Env} {value slice:Expr} {pos:Pos} {T id:String} {Q:Value->Shared->Prop}
    (hl:typeLookup (.type T) "__getitem__"=pure (some (.builtin id))) (hs:NoSl slice)
    (h:wpAny (model prog w) A (eval value env) (fun o s₁=>wpAny (model prog w) A (eval slice env) (fun i s₂=>s₂.TypeIs o T/\wpAny (model prog w) A (getItem o i) Q E s₂) E s₁) E s) :
    wpAny (model prog w) A (eval (.Subscript value slice pos) env) Q E s:=by
  refine Subscript_ (wpAny_mono h (fun o s₁ h₁=>wpAny_mono h₁ (fun i s₂ h₂=>?_) fun _ _ x=>x) fun _ _ x=>x)
  obtain ⟨hT,h₂⟩:=h₂
  unfold subscriptTail
  refine wpAny_bind ?_
  rw [getitemInPython_of_ne hT.not_modules]
  refine wpAny_bind (wpAny_specialOf hT hl ?_)
  have fin:wpAny (model prog w) A (subscripted slice false o i) (fun r s₃=>wpAny (model prog w) A (letTemporaryGo value o r >>= fun _=>pure r) Q E s₃) E s₂:=by
    rw [hs o i]
    exact wpAny_operating (wpAny_mono h₂ (fun r s₃ h₃=>wpAny_bind (wpAny_letTemporaryGo (wpAny_pure h₃))) fun _ _ x=>x)
  first
    | exact wpAny_pure (wpAny_bind fin)
    | exact wpAny_bind (wpAny_pure (wpAny_bind fin))
    | exact wpAny_bind fin
theorem dict_typeIs {X:Cx} {pins:List (Addr×Obj)} {σ:St} {H:Hp} {s:Shared} {a:Addr} {y:V} {o:Option V} (I:ZE X pins σ H s) (g:DGet H a y o):s.TypeIs (.ref a) "dict":=by
  rcases g with ⟨kvs,k,e,_,_⟩ | ⟨kvs,k,b,e,_,_,_⟩
  · obtain ⟨_,_,vs,_,dd⟩:=dk_rd I.hok e
    exact dd.typeIs
  · obtain ⟨_,_,xs,_,dd⟩:=dt_rd I.hok e
    exact dd.typeIs
def tDGet (td ty:TE):TE:=fun σ H Q=>td σ H fun x H1=>ty σ H1 fun y H2=>∃ a v,x=.ref a/\DGet H2 a y (some v)/\Q v H2
def sDPut (td ty tv:TE):TS:=fun D σ H=>tv σ H fun v H1=>td σ H1 fun x H2=>ty σ H2 fun y H3=>∃ a H4,x=.ref a/\DPut H3 a y v H4/\D.nx σ H4
section
variable {X:Cx} {o i e value:Expr} {pos pos' tpos:Pos} {td ty tv:TE}
theorem pe_dget (hu:X.A.units+1 < cLine) (ho:PE X o td) (hi:PE X i ty) (hs:NoSl i):PE X (.Subscript o i pos) (tDGet td ty):=by
  intro pins s σ H Q I h
  refine subD_of PySem.F.slot_dict_getitem.lookup hs (Y4 (ho pins s σ H _ I h) fun u s1 ⟨x,H1,I1,rx,q1⟩=>Y4 (hi pins s1 σ H1 _ I1 q1) fun iv s2 ⟨y,H2,I2,ry,a,v,ex,g,q2⟩=>?_)
  subst ex
  obtain rfl:u=Value.ref a:=rx
  exact ⟨dict_typeIs I2 g,d_getItem hu I2 g ry fun w' s3 I3 rw'=>⟨v,H2,I3,rw',q2⟩⟩
theorem ps_dput (hu:X.A.units+1 < cLine) (ho:PE X o td) (hi:PE X i ty) (hv:PE X value tv) (hs:swapsWith value (some (.Subscript o i pos')) pos.line X.env=pure false) :
    PS X (.Assign [.Subscript o i pos'] value pos) (sDPut td ty tv):=by
  intro pins s σ H D I h
  refine wpAny_Assign_Subscript (Y4 (hv pins s σ H _ I h) fun r s1 ⟨v,H1,I1,rv,q1⟩=>Y4 (ho pins s1 σ H1 _ I1 q1) fun u s2 ⟨x,H2,I2,rx,q2⟩=>Y4 (hi pins s2 σ H2 _ I2 q2) fun iv s3 ⟨y,H3,I3,ry,a,H4,ex,g,q3⟩=>?_) hs
  subst ex
  obtain rfl:u=Value.ref a:=rx
  exact d_setItem hu I3 g ry rv fun s4 I4=>⟨σ,H4,I4,q3⟩
end
theorem dk_empty {P:Program} {w:World} {H:Hp} (h:Heap) (hb:sysModules < h.objs.size):YJ P w H (h.push { cls:=.type "dict",data:=.dict #[] }) h.objs.size (.dK []) :=
  ⟨Nat.zero_le _,beq_eq_false_iff_ne.mpr (Ne.symm (Nat.ne_of_lt hb)),[],.nil,Heap.DictOf.new h⟩
theorem dt_empty {P:Program} {w:World} {H:Hp} (h:Heap) (hb:sysModules < h.objs.size):YJ P w H (h.push { cls:=.type "dict",data:=.dict #[] }) h.objs.size (.dT []) :=
  ⟨Nat.zero_le _,beq_eq_false_iff_ne.mpr (Ne.symm (Nat.ne_of_lt hb)),[],.nil,_,#[],0,Heap.get?_push_size _ rfl,⟨rfl,rfl,rfl⟩,rfl,rfl,List.nodup_nil⟩
def tDNewT:TE:=fun _ H Q=>∀ p,H p=none->Q (.ref p) (YV H p (.dT []))
section
variable {X:Cx} {pos:Pos}
theorem pe_dnewT:PE X (.Dict [] [] pos) tDNewT:=fun pins s σ H Q I h =>
  wpAny_Dict_empty ⟨.ref s.heap.objs.size,_,I.laid (a:=s.heap.objs.size) (o:=.dT []) (t':=s.toks) (fun _ _ q=>Heap.get?_push_of_some _ q) (Nat.le_refl _) (dt_empty s.heap I.big),rfl,h _ (I.hok.fresh (Nat.le_refl _))⟩
end
def tPairs:List (TE×TE)->St->Hp->(List (V×V)->Hp->Prop)->Prop
  | [],_,H,Q=>Q [] H
  | (tk,tv)::r,σ,H,Q=>tk σ H fun x H1=>tv σ H1 fun y H2=>tPairs r σ H2 fun ps H3=>Q ((x,y)::ps) H3
abbrev VV:List (V×V)->List (Value×Value)->Prop:=Paired fun p q=>Ya p.1 q.1/\Ya p.2 q.2
def PPs (X:Cx) (pos:Pos) (keys:List (Option Expr)) (values:List Expr) (trs:List (TE×TE)):Prop :=
  ∀ (pins:List (Addr×Obj)) (s:Shared) (σ:St) (H:Hp) (Q:List (V×V)->Hp->Prop),ZE X pins σ H s->tPairs trs σ H Q ->
    wpAny (model X.prog X.w) X.A (evalPairs (pairTrees keys values X.env pos)) (fun vs s'=>∃ ps H',ZE X pins σ H' s'/\VV ps vs/\Q ps H') X.xe s
theorem pps_nil {X:Cx} {pos:Pos}:PPs X pos [] [] []:=fun pins s σ H Q I h=>pairTrees_nil_walk ⟨[],H,I,.nil,h⟩
theorem pps_cons {X:Cx} {pos:Pos} {k v:Expr} {ks:List (Option Expr)} {vs:List Expr} {tk tv:TE} {trs:List (TE×TE)} (hk:PE X k tk) (hv:PE X v tv) (hr:PPs X pos ks vs trs) :
    PPs X pos (some k::ks) (v::vs) ((tk,tv)::trs):=fun pins s σ H Q I h =>
  pairTrees_cons_walk (Y4 (hk pins s σ H _ I h) fun u s1 ⟨x,H1,I1,rx,q1⟩=>Y4 (hv pins s1 σ H1 _ I1 q1) fun w2 s2 ⟨y,H2,I2,ry,q2⟩ =>
    Y4 (hr pins s2 σ H2 _ I2 q2) fun ws s3 ⟨ps,H3,I3,rel,q3⟩=>⟨(x,y)::ps,H3,I3,.cons ⟨rx,ry⟩ rel,q3⟩)
def mergeK (kvs more:List (YW×V)):List (YW×V):=more.foldl (fun acc kv=>Vz acc kv.1 kv.2) kvs
theorem KV.merge:∀ {more:List (YW×V)} {rs:List (YW×Value)} {kvs:List (YW×V)} {vs:List (YW×Value)},KV more rs->KV kvs vs->KV (mergeK kvs more) (merged vs rs):=by
  intro more rs kvs vs r
  unfold KV at r
  induction r generalizing kvs vs with
  | nil=>intro q;exact q
  | @cons p q ps qs h t ih =>
    intro r0
    have e:KV (Vz kvs p.1 p.2) (stored vs q.1 q.2):=by
      have:=r0.put p.1 h.2
      rw [<- h.1];exact this
    exact ih e
theorem length_mergeK:∀ (more kvs:List (YW×V)),(mergeK kvs more).length<=kvs.length+more.length
  | [],kvs=>by show kvs.length<=kvs.length+0;omega
  | p::r,kvs=>by
    have h1:=length_mergeK r (Vz kvs p.1 p.2)
    have h2:=length_putK kvs p.1 p.2
    show (mergeK (Vz kvs p.1 p.2) r).length<=_
    rw [List.length_cons];omega
theorem carries_of {P:Program} {w:World}:∀ {kvs:List (YW×V)} {ws:List (Value×Value)},VV (kvs.map fun kv=>(kV kv.1,kv.2)) ws->∃ rs,Carries (YM P w) ws rs/\KV kvs rs
  | [],_,r=>by rw [List.map_nil] at r;cases r;exact ⟨[],True.intro,.nil⟩
  | p::kvs,_,r=>by
    rw [List.map_cons] at r
    cases r with
    | @cons a b as bs h t =>
      obtain ⟨rs,c,q⟩:=carries_of (P:=P) (w:=w) t
      obtain ⟨b1,b2⟩:=b
      exact ⟨(p.1,b2)::rs,⟨kV_is h.1,rfl,c⟩,.cons ⟨rfl,h.2⟩ q⟩
def tDisp (trs:List (TE×TE)):TE:=fun σ H Q=>∀ p,H p=none->tPairs trs σ (YV H p (.dK [])) fun ps H2=>H2 p=some (.dK [])/\∃ kvs:List (YW×V),ps=kvs.map (fun kv=>(kV kv.1,kv.2))/\kvs.length<=15/\Q (.ref p) (YV H2 p (.dK (mergeK [] kvs)))
theorem pe_disp {X:Cx} {pos:Pos} {keys:List (Option Expr)} {values:List Expr} {trs:List (TE×TE)} (h:PPs X pos keys values trs) (hall:keys.all (·.isSome)=true) (hl:keys.length=values.length) (h0:keys≠[])
    (h15:keys.length<=15):PE X (.Dict keys values pos) (tDisp trs):=by
  intro pins s σ H Q I q
  have hn:=I.hok.fresh (Nat.le_refl s.heap.objs.size)
  have I1:=I.laid (a:=s.heap.objs.size) (o:=.dK []) (h':=s.heap.push { cls:=.type "dict",data:=.dict #[] }) (t':=s.toks) (fun _ _ q=>Heap.get?_push_of_some _ q) (Nat.le_refl _) (dk_empty s.heap I.big)
  refine wpAny_Dict_walk (knd:=YM X.prog X.w) hall hl h0 h15 (Y4 (h pins _ σ _ _ I1 (q _ hn)) fun ws s2 ⟨ps,H2,I2,rel,e,kvs,ep,lk,q2⟩=>?_)
  subst ep
  obtain ⟨rs,c,rk⟩:=carries_of (P:=X.prog) (w:=X.w) rel
  obtain ⟨z,hd,vs0,r0,dd⟩:=dk_of I2.hok e
  cases r0
  refine ⟨rs,c,dd,fun h' dd' hs=>⟨.ref s.heap.objs.size,_,?_,rfl,q2⟩⟩
  have hz:(mergeK [] kvs).length<=sizeLine:=by
    have h1:=length_mergeK kvs []
    rw [List.length_nil] at h1
    rw [sizeLine_eq];omega
  have he:∃ q,h'.get? s.heap.objs.size=some q:=let ⟨q,_,_,hq,_⟩:=dd';⟨q,hq⟩
  exact d_write I2 (by rw [e];exact True.intro) hs he (dk_new hz hd (rk.merge .nil) dd')
structure M1 (X:Cx) (o:Expr) (m:Str) (apos:Pos) (e:Expr) (cpos:Pos):Prop where
  base:attributeBase o m X.env (eval o X.env)=eval o X.env
  few:((backTo cpos (starEach [e] X.env)).all (fun x=>!x.1) && (backToKw cpos (keywordEach [] X.env)).all (fun x=>x.1.isSome)
    && decide (([e]:List Expr).length+([]:List Keyword).length+(if ([]:List Keyword).isEmpty then 0 else 1) < 30))=true
  line:(apos.endLine == cpos.line)=true
  trees:backTo cpos (starEach [e] X.env)=[(false,eval e X.env)]
structure M2 (X:Cx) (o:Expr) (m:Str) (apos:Pos) (e f:Expr) (cpos:Pos):Prop where
  base:attributeBase o m X.env (eval o X.env)=eval o X.env
  few:((backTo cpos (starEach [e,f] X.env)).all (fun x=>!x.1) && (backToKw cpos (keywordEach [] X.env)).all (fun x=>x.1.isSome)
    && decide (([e,f]:List Expr).length+([]:List Keyword).length+(if ([]:List Keyword).isEmpty then 0 else 1) < 30))=true
  line:(apos.endLine == cpos.line)=true
  trees:backTo cpos (starEach [e,f] X.env)=[(false,eval e X.env),(false,eval f X.env)]
def IsD (H:Hp) (a:Addr):Prop:=(∃ kvs,Rd H a (.dK kvs))\/∃ kvs,Rd H a (.dT kvs)
theorem isD_at {X:Cx} {pins:List (Addr×Obj)} {σ:St} {H:Hp} {s:Shared} {a:Addr} (I:ZE X pins σ H s) (d:IsD H a) :
    s.TypeIs (.ref a) "dict"/\(∀ b,Value.ref a=.ref b->∃ ob,s.heap.get? b=some ob/\ob.dict=none)/\(a == sysModules)=false:=by
  rcases d with ⟨kvs,e⟩ | ⟨kvs,e⟩
  · obtain ⟨_,hd,vs,_,dd⟩:=dk_rd I.hok e
    refine ⟨dd.typeIs,fun b q=>?_,hd⟩
    cases q
    obtain ⟨ob,_,_,h1,h2,_⟩:=dd
    exact ⟨ob,h1,h2.2.1⟩
  · obtain ⟨_,hd,xs,_,dd⟩:=dt_rd I.hok e
    refine ⟨dd.typeIs,fun b q=>?_,hd⟩
    cases q
    obtain ⟨ob,_,_,h1,h2,_⟩:=dd
    exact ⟨ob,h1,h2.2.1⟩
section
variable {X:Cx} {pins:List (Addr×Obj)} {σ:St} {H:Hp} {s:Shared} {a:Addr} {y d:V} {u r:Value} {o:Option V} {A:Around} {E:Value->Shared->Prop}
theorem d_get2 {Q:Value->Shared->Prop} (hu:A.units+1 < cLine) (I:ZE X pins σ H s) (g:DGet H a y o) (ry:Ya y u) (rd:Ya d r) (h:∀ w' s',ZE X pins σ H s'->Ya (o.getD d) w'->Q w' s') :
    wpAny (model X.prog X.w) A (call (.builtin "dict.get") [.ref a,u,r]) Q E s:=by
  rcases g with ⟨kvs,k,e,ey,l⟩ | ⟨kvs,k,b,e,ey,eb,l⟩
  · subst ey
    obtain ⟨z,hd,vs,rel,dd⟩:=dk_rd I.hok e
    refine call_meetsIn PySem.F.slot_dict_get dd.typeIs PySem.F.entry_dict_get (PySem.F.args_dict_get_3 _ _ _) (meets_dict_get_default (YM X.prog X.w) a (kV_is ry) hd r) ⟨_,dd.mapOf,h _ _ (I.tok _) ?_⟩
    rw [l]
    exact (rel.val k).getD rd
  · subst ey
    cases (show u=Value.ref b from ry)
    obtain ⟨z,hd,xs,rel,dd⟩:=dt_rd I.hok e
    refine call_meetsIn PySem.F.slot_dict_get dd.typeIs PySem.F.entry_dict_get (PySem.F.args_dict_get_3 _ _ _) (meetsH_dict_get_default (tupleKind (YM X.prog X.w)) a b hd r) ⟨tupleKind_room_in1 hu,k,xs,key_of I.hok eb,dd,h _ _ (I.tok _) ?_⟩
    rw [l]
    exact (rel.val k).getD rd
end
def tDGet2 (td ty tx:TE):TE:=fun σ H Q=>td σ H fun x H1=>∃ a,x=.ref a/\IsD H1 a/\ty σ H1 fun y H2=>tx σ H2 fun z H3=>∃ o,DGet H3 a y o/\Q (o.getD z) H3
section
variable {X:Cx} {o e f:Expr} {apos cpos:Pos} {td ty tx:TE}
theorem pe_dget2 (hu:X.A.units+1 < cLine) (ho:PE X o td) (he:PE X e ty) (hf:PE X f tx) (m:M2 X o "get" apos e f cpos):PE X (.Call (.Attribute o "get" apos) [e,f] [] cpos) (tDGet2 td ty tx):=by
  intro pins s σ H Q I h
  refine wpAny_Call_method m.base m.few m.line PySem.F.plainAttrs_dict PySem.F.slot_dict_get PySem.F.type_dict_get (Y4 (ho pins s σ H _ I h) fun u s1 ⟨x,H1,I1,rx,a,ex,d,q1⟩=>?_)
  subst ex
  obtain rfl:u=Value.ref a:=rx
  obtain ⟨t1,t2,_⟩:=isD_at I1 d
  refine ⟨t1,t2,?_⟩
  rw [m.trees]
  refine Calls.callWith_builtin rfl (Calls.evalArgs_plain (Calls.spliced_cons (Y4 (he pins s1 σ H1 _ I1 q1) fun iv s2 ⟨y,H2,I2,ry,q2⟩ =>
    Calls.spliced_cons (Y4 (hf pins s2 σ H2 _ I2 q2) fun fv s3 ⟨z,H3,I3,rz,ov,g,q3⟩=>Calls.spliced_nil ?_))))
  exact d_get2 hu I3 g ry rz fun w' s4 I4 rw'=>⟨_,H3,I4,rw',q3⟩
end
section
variable {X:Cx} {pins:List (Addr×Obj)} {σ:St} {H:Hp} {s:Shared} {a:Addr} {kvs:List (YW×V)} {A:Around} {E:Value->Shared->Prop}
end
section
variable {X:Cx} {pins:List (Addr×Obj)} {σ:St} {H:Hp} {s:Shared} {a:Addr} {y:V} {u:Value} {A:Around} {E:Value->Shared->Prop}
end
end L2
namespace Att
open PySem PySem.W PySem.Calls PyProof.Rows
theorem ints_of_wellAll {P:Params} {h:Heap}:∀ (ns:List Int) (vs:List Value),WellAll P h vs (ns.map WData.int)->IntsAre vs ns:=by
  intro ns
  induction ns with
  | nil =>
    intro vs w
    rw [List.map_nil] at w
    cases w
    exact .nil
  | cons n ns ih =>
    intro vs w
    rw [List.map_cons] at w
    cases w with
    | cons a b =>
      cases a
      exact .cons _ _ (ih _ b)
theorem script_of {l:OpenLaw} {n:Nat} (hn:l.most=some n) {P:Params} {h:Heap} {args:List WData} {vals:List Value}
    (hpre:l.row.toRowW.claim.pre args=true) (hwl:WellAll P h vals args) :
    ∃ a vs ns,vals=[Value.ref a]/\args=[WData.list (ns.map WData.int)]/\h.get? a=some { cls:=.type "list",data:=.seq vs.toArray }/\IntsAre vs ns/\ns.length<=n:=by
  have hsh:WShape.hasAll [] args [.list .int]=true:=(pre_splitW hpre).1
  have hc:l.pre.holds [] { args:=args }=true:=(pre_splitW hpre).2
  obtain ⟨d,r,rfl,h1,h2⟩:=hasAllW_cons hsh
  obtain rfl:=hasAllW_nil h2
  obtain ⟨xs,rfl,h3⟩:=hasW_list h1
  obtain ⟨ns,rfl⟩:=items_int h3
  have hlen:ns.length<=n:=by
    unfold OpenLaw.pre at hc
    have h4:(WTm.not (.lt (.lit (.int (n:Int))) (.len (.arg 0)))).holds [] { args:=[.list (ns.map .int)] }=true:=by
      have h4:=(holds_andW hc).1
      rw [hn] at h4
      exact h4
    have h5:=condW_of h4 (w_not (w_lt w_lit (w_len_list (w_arg rfl))))
    rw [List.length_map] at h5
    refine Nat.le_of_not_lt fun q=>?_
    have q':(n:Int) < ((ns.length:Nat):Int):=by omega
    first
      | (rw [decide_eq_true q'] at h5;exact absurd h5 (by decide))
      | (simp at h5;omega)
  cases hwl with
  | cons w1 w2 =>
    cases w2
    cases w1 with
    | list ho hall=>exact ⟨_,_,ns,rfl,rfl,ho,ints_of_wellAll ns _ hall,hlen⟩
theorem post_true (l:OpenLaw) (args:List WData):l.row.toRowW.claim.post args (.bool true) args=true :=
  postW_of (r:=l.row.toRowW) (X:=(true == true))
    (show WShape.has [] (.bool true) .bool=true by first | rfl | decide | simp [WShape.has,WShape.arms,WShape.armsAll])
    (show (WTm.eq .res (.lit (.bool true))).value [] { args:=args,res:=some (.bool true),after:=args }=some (.bool (true == true)) from w_eq_bool (w_res rfl) w_lit) rfl
theorem attach_call {l:OpenLaw} {n:Nat} {q:Program} {loose:List Str} {XP:(Str->Option Value)->Heap->Prop} {YP:World->Heap->Prop} {d:DefRec}
    (hn:l.most=some n) (hdf:d.params.defaults=[])
    (call:∀ (w:World) (s₀ s₁:Shared) (mg mb:Str->Option Value) (fa:Addr) (o:Obj) (pm cd doc:Value) (a:Addr) (vs:List Value) (ns:List Int),
      Ground q loose [] XP w s₀ mg mb s₁.heap->YP w s₁.heap ->
      s₁.heap.get? fa=some o->o.data=.func (docDef d.name d.params d.body d.scope pm cd doc)->s₁.heap.CodeRec cd d.name->mg d.name=some (.ref fa) ->
      s₁.heap.get? a=some { cls:=.type "list",data:=.seq vs.toArray }->IntsAre vs ns->ns.length<=n->s₁.gens=#[] ->
      codeAny (model l.prog w) callerA (.call (.ref fa) ⟨[.ref a],[]⟩) (fun r s'=>r=.ok (.ret (.bool true))/\OldK s₁.heap s'.heap/\s'.os=s₁.os/\AllBare s'.gens) s₁) :
    WalkO q loose XP YP l.row.toRowW d [] (fun f vs=>PySem.call f vs):=by
  intro w s₀ s₁ mg mb G Y fa o pm cd doc dV kV ho hd hcd hD hmg hg args vals as hpre hlay hrd hwl hlo
  obtain rfl:dV=.none:=Dflts.none hD hdf
  obtain rfl:kV=.none:=Dflts.noKw hD
  obtain ⟨a,vs,ns,rfl,rfl,hobj,hints,hlen⟩:=script_of hn hpre hwl
  refine enter_call (codeAny_mono (call w s₀ s₁ mg mb fa o pm cd doc a vs ns G Y ho (fd_plain hd) hcd hmg hobj hints hlen hg) fun r s' hq=>?_)
  obtain ⟨rfl,h2,h3,h4⟩:=hq
  exact ⟨.inl ⟨.bool true,.bool true,[],rfl,fun _=>rfl,.bool true,post_true l _,fun _=>⟨List.Pairwise.nil,fun _ hm=>(nomatch hm)⟩⟩,h2,h3,h4⟩
section
variable {prog:Program} {w:World} {A:Around} {E:Value->Shared->Prop} {s:Shared} {K:Frag}
end
end Att
namespace L2
open PySem PySem.Spec PyProof.Rows
theorem vals_ints:∀ {vs:List Value} {ns:List Int},IntsAre vs ns->ZQ (ns.map V.int) vs
  | _,_,.nil=>.nil
  | _,_,.cons n t h=>.cons ⟨t,rfl⟩ (vals_ints h)
def Only (H:Hp):Prop:=∀ b,H b=none\/∃ o xs,H b=some (.frz o (.lst xs))
theorem law_call {P:Program} {w:World} {K:PySem.W.Frag} {mg mb:Str->Option Value} {CX:CXT} {k:Nat} {fa a:Addr} {fd:FuncData} {x:Str} {sp:Sp} {s₁:Shared} {vs:List Value} {ns:List Int}
    (KX:K.In s₁.heap) (hns:s₁.heap.Ns mainGlobals mg) (hb:s₁.heap.Ns builtinsNs mb) (hbb:∀ x:Str,x≠"__name__"->mb x=bootBuiltins x) (hlim:s₁.heap.NoLimit) (hg:s₁.gens=#[])
    (ha:s₁.heap.get? a=some { cls:=.type "list",data:=.seq vs.toArray }) (hi:IntsAre vs ns) (hl:ns.length<=sizeLine) (hr:Wq k callerA)
    (F:∀ base:Heap,K.In base->base.Ns mainGlobals mg->VH P w K mg base CX k fa fd [x] sp) (hbind:∀ (s:Shared) (u:Value),BindsTo s fd ⟨[u],[]⟩ [(x,u)])
    (hsp:∀ H:Hp,Only H->Wa K H a (ns.map V.int)->sp [.ref a] H (fun v _=>v=.bl true) fun _ _ _=>False)
    (hCX:∀ H e s',CX [] H s₁ (fun _ _ _=>False) e s'->False) :
    codeAny (model P w) callerA (.call (.ref fa) ⟨[.ref a],[]⟩) (fun r s'=>r=.ok (.ret (.bool true))/\OldK s₁.heap s'.heap/\s'.os=s₁.os/\AllBare s'.gens) s₁:=by
  have rv:=vals_ints hi
  have lenV:=hi.length
  have core:∀ H:Hp,Only H->Wa K H a (ns.map V.int)->HOk P w H s₁.heap->(∀ b,H b≠none->b=a)->(H a≠none->K.lookup a=none) ->
      codeAny (model P w) callerA (.call (.ref fa) ⟨[.ref a],[]⟩) (fun r s'=>r=.ok (.ret (.bool true))/\OldK s₁.heap s'.heap/\s'.os=s₁.os/\AllBare s'.gens) s₁:=by
    intro H hO hS hok hA hK
    have base_of:∀ {b:Addr} {o:Obj},s₁.heap.get? b=some o->H b=none->(hidT s₁.heap H).get? b=some o:=fun e n=>hidT_get e n
    have noA:∀ {b:Addr} {o:Obj} {es:Array DictEntry} {ep:Nat},s₁.heap.get? b=some o->o.data=.dict es ep->H b=none:=fun {b o es ep} e d=>by
      cases q:H b with
      | none=>rfl
      | some u =>
        have e':b=a:=hA b (by rw [q];simp)
        subst e'
        rw [ha] at e;cases e
        have d':Data.seq vs.toArray _=Data.dict es ep:=d
        cases d'
    have nsK:∀ {b:Addr} {m:Str->Option Value},s₁.heap.Ns b m->(hidT s₁.heap H).Ns b m:=fun {b m} ⟨o,es,ep,e,d,r⟩=>⟨o,es,ep,base_of e (noA e d),d,r⟩
    have hKb:K.In (hidT s₁.heap H):=fun b o e=>base_of (KX b o e) (by
      cases q:H b with
      | none=>rfl
      | some u =>
        have e':b=a:=hA b (by rw [q];simp)
        subst e'
        rw [hK (by rw [q];simp)] at e;cases e)
    have hM:Mod K mg (hidT s₁.heap H):=⟨hKb,nsK hns,⟨mb,nsK hb,hbb⟩,let ⟨mc,h1,h2⟩:=hlim;⟨mc,nsK h1,h2⟩⟩
    have e0:Env0 P w K mg (hidT s₁.heap H) callerA [] s₁ H:=⟨rfl,hM,fun b o e=>of_hidT e,Nat.le_of_eq (hidT_size _ _),trivial,fun b hb=>absurd (show b∈([]:List Addr) from hb) (by simp),hok,.of_eq hg⟩
    refine codeAny_mono ((F _ hKb (nsK hns)).run callerA [] s₁ H ⟨[.ref a],[]⟩ [.ref a] [.ref a] _ _ hr e0 (hbind s₁ (.ref a)) (.cons rfl .nil) (hsp H hO hS)) fun r s' h=>?_
    cases r with
    | error e=>exact (hCX H e s' h).elim
    | ok fl =>
      cases fl with
      | next=>exact False.elim h
      | brk=>exact False.elim h
      | cont=>exact False.elim h
      | ret u =>
        obtain ⟨v,H',os,bare,un,hok',r',q⟩:=h
        have q':v=.bl true:=q
        subst q'
        obtain rfl:u=Value.bool true:=r'
        refine ⟨rfl,OldK.of_keep fun b o e=>?_,os,bare⟩
        cases q:H b with
        | none=>exact un.keep b o e q (by intro z;exact absurd (show b∈([]:List Addr) from z) (by simp)) (by simp)
        | some u =>
          rcases hO b with z | ⟨ob,xs,z⟩
          · rw [q] at z;cases z
          · have z2:=un.frzs b ob _ z
            obtain ⟨e1,_⟩:=hok b _ z
            obtain ⟨e2,_⟩:=hok' b _ z2
            rw [e] at e1;cases e1
            exact e2
  cases hk:K.lookup a with
  | some o =>
    have e:=KX a o hk
    rw [ha] at e
    cases e
    refine core (fun _=>none) (fun _=>.inl rfl) (.inr ⟨_,vs.toArray,_,hk,rfl,rfl,rfl,by rw [List.size_toArray,lenV];exact hl,by simpa using rv⟩) (fun b u z=>by have z':(none:Option HO)=some u:=z;cases z') (fun b z=>absurd rfl z) fun z=>absurd rfl z
  | none =>
    refine core (fun b=>if b=a then some (.frz { cls:=.type "list",data:=.seq vs.toArray } (.lst (ns.map V.int))) else none) (fun b=>?_) (.inl (.inr ⟨{ cls:=.type "list",data:=.seq vs.toArray },if_pos rfl⟩)) (fun b u z=>?_) (fun b z=>?_) fun _=>hk
    · by_cases hb:b=a
      · exact .inr ⟨_,_,if_pos hb⟩
      · exact .inl (if_neg hb)
    · by_cases hb:b=a
      · have z':=(if_pos hb).symm.trans z
        cases z'
        subst hb
        exact ⟨ha,by rw [List.length_map];exact hl,vs,_,rv,ha⟩
      · have z':=(if_neg hb).symm.trans z
        cases z'
    · by_cases hb:b=a
      · exact hb
      · exact absurd (if_neg hb) z
end L2
namespace L2
open PySem PySem.Spec PyProof.Rows
abbrev KOf {K:PySem.W.Frag} {h:Heap} (_:K.In h):PySem.W.Frag:=K
theorem walk_of {l:PySem.W.OpenLaw} {n k:Nat} {q:Program} {loose:List Str} {XP:(Str->Option Value)->Heap->Prop} {YP:World->Heap->Prop} {d:DefRec} {K:Params->PySem.W.Frag} {CX:World->CXT} {sp:World->Sp} {x:Str}
    (hn:l.most=some n) (hn2:n<=sizeLine) (hdf:d.params.defaults=[]) (hr:Wq k callerA)
    (hY:∀ (w:World) (h:Heap),YP w h->(K w.params).In h)
    (F:∀ (w:World) (mg:Str->Option Value) (fa:Addr) (h:Heap),(K w.params).In h->h.Ns mainGlobals mg->mg d.name=some (.ref fa) ->
      ∃ fd:FuncData,(∀ (s:Shared) (u:Value),BindsTo s fd ⟨[u],[]⟩ [(x,u)]) /\
        ∀ base:Heap,(K w.params).In base->base.Ns mainGlobals mg->VH l.prog w (K w.params) mg base (CX w) k fa fd [x] (sp w))
    (hsp:∀ (w:World) (H:Hp) (a:Addr) (ns:List Int),ns.length<=n->Only H->Wa (K w.params) H a (ns.map V.int)->sp w [.ref a] H (fun v _=>v=.bl true) fun _ _ _=>False)
    (hCX:∀ (w:World) (H:Hp) (s:Shared) (e:Value) (s':Shared),CX w [] H s (fun _ _ _=>False) e s'->False) :
    PySem.W.WalkO q loose XP YP l.row.toRowW d [] (fun f vs=>PySem.call f vs):=by
  refine Att.attach_call hn hdf fun w s₀ s₁ mg mb fa o pm cd doc a vs ns G Y ho hd hcd hmg hobj hints hlen hg=>?_
  have KX:=hY w _ Y
  obtain ⟨fd,hb,hF⟩:=F w mg fa _ KX G.T.g hmg
  exact law_call KX G.T.g G.T.b G.T.builtins G.T.nolimit hg hobj hints (Nat.le_trans hlen hn2) hr hF hb (fun H hO hS=>hsp w H a ns hlen hO hS) fun H e s'=>hCX w H s₁ e s'
end L2
/- THE LAST THEOREM (shape;LID,My.* are yours):
   My.Adr: a structure of the addresses that your layer names (classes,functions);My.Txt K t: a structure (Prop) of the equations over K;
   My.txt_mk:{K} {implicit addresses ..} (e1:nsIn K mainGlobals "law"=some (some (.ref f))) (e2:K.lookup f=some ⟨oc,od,.func (fnOf "law" "law" params body scope dV kV doc pm an cdv ct),sl⟩) (e3:codeIn K cdv "law"=true) ..:∃ t,My.Txt K t
set_option maxRecDepth 100000 in
set_option maxHeartbeats 0 in
theorem PySem.Challenge.cw_LID_holds : PySem.Challenge.rw_LID.Holds := by
  w_on;o_law;k_head;(case hw=>w_witness2)
  k_fill
  refine L2.walk_of (l:=PySem.Challenge.rw_LID) (n:=63) (k:=40) (x:="script") (CX:=fun w=>..) (sp:=fun _=>My.sp_law) rfl (by decide) rfl ⟨rfl,by decide,by decide⟩ (fun w h Y=>PySem.W.kIn_of Y) ?F ?S ?C
  case F =>
    intro w mg fa h KX G hmg
    have T:∃ t,My.Txt (L2.KOf KX) t:=by
      dsimp only [L2.KOf]
      refine' My.txt_mk ?e1 ?e2 ?e3 ..
      (case e1=>PySem.W.k_is)
      (case e2=>PySem.W.k_is)
      ..
    obtain ⟨t,T⟩:=T
    have e0:=hmg.symm.trans (PySem.W.mg_of KX G T.law)
    cases e0
    exact ⟨_,fun s u=>.of_eq rfl,fun base kb nb=>My.law_fn T kb nb⟩
  case S=>exact fun w H a ns hl hO hS=>..
  case C=>exact ..
(the tactic k_is has no namespace: write k_is) -/
namespace L2
open PySem PySem.Spec PyProof.Rows
def VG (s:Stmt):Arguments:=match s with
  | .FunctionDef _ a _ _ _ _ _ _ _ _=>a
  | _=>{ posonlyargs:=[],args:=[],vararg:=none,kwonlyargs:=[],kw_defaults:=[],kwarg:=none,defaults:=[] }
def Wf (s:Stmt):List Stmt:=match s with
  | .FunctionDef _ _ b _ _ _ _ _ _ _=>b
  | _=>[]
def Zm (s:Stmt):Scope:=match s with
  | .FunctionDef _ _ _ _ _ _ sc _ _ _=>sc
  | _=>{ kind:=.function,names:=[],isGenerator:=false,isCoroutine:=false }
abbrev CX0:CXT:=fun _ _ _ _ _ _=>False
abbrev E0:XK:=fun _ _ _=>False
theorem pass0 {X:Cx}:Passes CX0 X E0:=fun _ _ _ _ _ _ _ h=>h.elim
structure Wr (K:PySem.W.Frag) (x qual:Str) (st:Stmt) (f:Addr) (fd:FuncData):Prop where
  ex:∃ (oc:Value) (od:Option Addr) (kV doc pm:Value) (an:Option Addr) (cdv ct:Value) (osl:Array (Option Value)),
    fd=PySem.W.fnOf x qual (VG st) (Wf st) (Zm st) .none kV doc pm an cdv ct/\K.lookup f=some ⟨oc,od,.func fd,osl⟩/\PySem.W.codeIn K cdv qual=true
  kp:PySem.W.keepIn K (.ref f)=true
section
variable {P:Program} {w:World} {K:PySem.W.Frag} {mg:Str->Option Value} {base:Heap}
theorem Wr.ok {x qual:Str} {st:Stmt} {f:Addr} {fd:FuncData} {N ps:List Str} {k:Nat} {sp:Sp} (F:Wr K x qual st f fd) (S:ZC N ps (Zm st)) (len:∀ vs H Q E,sp vs H Q E->vs.length=ps.length)
    (hbody:∀ (cdv:Value) (A:Around) (outer:List Env) (s:Shared) (H:Hp) (vs:List V) (Q:VK) (E:XK),Wq k (A.deeper (envOfC qual (Zm st) s.heap.objs.size f cdv))->sp vs H Q E ->
      ∃ t,PSs (cxOf CX0 P w K mg base N qual (Zm st) f cdv A outer s H E).nox (Wf st) t/\t { nx:=fun _ H'=>Q .non H',rt:=Q } (start N vs) H):VH P w K mg base CX0 (k+1) f fd ps sp:=by
  obtain ⟨oc,od,kV,doc,pm,an,cdv,ct,osl,rfl,lk,hcd⟩:=F.ex
  refine fn_of lk hcd S len fun A outer s H vs Q E hr hsp=>?_
  obtain ⟨t,h,q⟩:=hbody cdv A outer s H vs Q E hr hsp
  exact ⟨t,h.nox,q⟩
theorem Wr.binds {x qual:Str} {st:Stmt} {f:Addr} {fd:FuncData} {ps:List Str} (F:Wr K x qual st f fd)
    (h:∀ (kV doc pm:Value) (an:Option Addr) (cdv ct:Value) (us:List Value),us.length=ps.length->bindArgs (PySem.W.fnOf x qual (VG st) (Wf st) (Zm st) .none kV doc pm an cdv ct) ⟨us,[]⟩=pure (ps.zip us)):Binds K fd ps []:=by
  obtain ⟨oc,od,kV,doc,pm,an,cdv,ct,osl,rfl,lk,hcd⟩:=F.ex
  exact .all (h kV doc pm an cdv ct)
theorem fun_mk {x qual:Str} {st:Stmt} {f:Addr} {oc:Value} {od an:Option Addr} {osl:Array (Option Value)} {kV doc pm cdv ct:Value} (l:K.lookup f=some ⟨oc,od,.func (PySem.W.fnOf x qual (VG st) (Wf st) (Zm st) .none kV doc pm an cdv ct),osl⟩)
    (c:PySem.W.codeIn K cdv qual=true) (k:PySem.W.keepIn K (.ref f)=true):Wr K x qual st f (PySem.W.fnOf x qual (VG st) (Wf st) (Zm st) .none kV doc pm an cdv ct):=⟨⟨oc,od,kV,doc,pm,an,cdv,ct,osl,rfl,l,c⟩,k⟩
end
section
variable {X:Cx}
theorem call_lenD:X2 X (.builtin "len") (fun xs H Q=>∃ a kvs,xs=[V.ref a]/\H a=some (.dK kvs)/\Q (.int kvs.length) H):=by
  intro pins s σ H xs us Q I r h
  obtain ⟨a,kvs,rfl,ha,q⟩:=h
  obtain ⟨u,rfl,ru⟩:=Vd r
  cases ru
  exact d_len I (.inl ha) fun t s' I'=>⟨.int kvs.length,H,I',⟨t,rfl⟩,q⟩
end
def Zg (H H':Hp):Prop:=∀ b o,H b=some o->H' b=some o
theorem Zg.refl (H:Hp):Zg H H:=fun _ _ h=>h
theorem Zg.trans {H H1 H2:Hp} (a:Zg H H1) (b:Zg H1 H2):Zg H H2:=fun c o h=>b c o (a c o h)
theorem Zg.free {H H':Hp} (e:Zg H H') {l:Addr} (h:H' l=Option.none):H l=Option.none:=by
  cases q:H l with
  | none=>rfl
  | some o =>
    rw [e l o q] at h
    cases h
theorem Zg.seq {K:PySem.W.Frag} {H H':Hp} {a:Addr} {xs:List V} (e:Zg H H') (h:Wa K H a xs):Wa K H' a xs:=by
  rcases h with (h | ⟨o,h⟩) | h
  · exact .inl (.inl (e _ _ h))
  · exact .inl (.inr ⟨o,e _ _ h⟩)
  · exact .inr h
end L2
namespace L2
open PySem PySem.Spec PyProof.Rows
section
variable {κ:Type} [DecidableEq κ]
end
end L2

set_option maxRecDepth 100000
set_option maxHeartbeats 4000000
namespace L2
open PySem PySem.Spec PyProof.Rows
def Yd (X:Cx) (N:List Str) (scope:Scope) (cl:List (Str×Addr)) (C:Addr) (s:Shared) (H:Hp) (fp:List Addr):Cx where
  prog:=X.prog
  w:=X.w
  K:=X.K
  mg:=X.mg
  base:=X.base
  A:=X.A
  N:=N
  s₀:=s
  H₀:=H
  env:=compEnvC scope cl C X.env
  outer:=X.stack
  stack:=X.stack
  ex:=fp
  fn:=fun _=>false
  calm:=X.calm
  pn:=[]
  xe:=fun _ _=>False
section
variable {X:Cx} {pins:List (Addr×Obj)} {σ:St} {H:Hp} {s:Shared} {N:List Str} {scope:Scope} {cl:List (Str×Addr)} {C:Addr} {fp:List Addr}
theorem cxComp_ok (I:ZE X pins σ H s) (hk:scope.kind=.function) (hC:s.heap.objs.size<=C) (hf:∀ b∈fp,FpOk X pins H b) (ho:∀ b∈fp,∃ o,s.heap.get? b=some o)
    (hsub:∀ x c,cl.lookup x=some c->X.env.cells.lookup x=some c)
    (hhas:∀ x,((relabel scope X.env).names.lookup x=some .cell\/(relabel scope X.env).names.lookup x=some .free)->∃ c,cl.lookup x=some c) :
    (Yd X N scope cl C s H fp).Ok where
  mod:=I.ok.mod
  kind:=hk
  glob:=I.ok.glob
  blt:=I.ok.blt
  above:=hC
  inj:=fun x y c h1 h2=>I.ok.inj x y c (hsub x c h1) (hsub y c h2)
  has:=hhas
  cab:=fun _ _ h=>nomatch h
  hd:=I.ok.hd
  frames:=I.ok.frames
  stk:=.inl rfl
  exf:=fun b hb=>by
    obtain ⟨o,e⟩:=ho b hb
    exact ⟨Nat.ne_of_lt (Nat.lt_of_lt_of_le (Heap.lt_size e) hC),fun x c z=>(hf b hb).2.2.2.2.1 x c (hsub x c z)⟩
  bs:=I.bs
  bsz:=Nat.le_trans I.ok.bsz I.sz
  noex:=fun b o e hb=>by
    rcases (hf b hb).2.2.2.1 with z | z
    · exact I.ok.noex b o e z
    · exact absurd (Nat.lt_of_lt_of_le (Nat.lt_of_lt_of_le (Heap.lt_size e) I.ok.bsz) z) (Nat.lt_irrefl _)
  exfs:=fun b hb hm=>by
    rcases List.mem_cons.mp (I.stkSub b hm) with z | z
    · exact (hf b hb).2.1 z
    · exact (hf b hb).2.2.1 z
  funs:=I.stack
  frf:=I.stkFree
theorem Un.withNew {fs ex:List Addr} {H H':Hp} {h h':Heap} {a:Addr} {o:HO} (u:Un fs ex H H' h h') (hn:h.get? a=none) (hH:H a=none):Un fs ex H (YV H' a o) h h' where
  keep:=u.keep
  slot:=u.slot
  free:=fun b ob q n hx=>by
    have:b≠a:=by rintro rfl;rw [hn] at q;cases q
    rw [ZG this];exact u.free b ob q n hx
  there:=u.there
  tups:=fun b xs q=>by rw [ZG (Z4 q hH)];exact u.tups b xs q
  frzs:=fun b ob xs q=>by rw [ZG (Z4 q hH)];exact u.frzs b ob xs q
  tbls:=fun b ps q=>by rw [ZG (Z4 q hH)];exact u.tbls b ps q
theorem HOk.withNew {P:Program} {w:World} {H:Hp} {h:Heap} {a:Addr} {o:HO} (x:HOk P w H h) (hH:H a=none) (new:YJ P w (YV H a o) h a o):HOk P w (YV H a o) h:=fun b u e=>by
  by_cases hb:b=a
  · subst hb;rw [Z1] at e;cases e;exact new
  · rw [ZG hb] at e
    exact (x b u e).stay (fun _ _ _ q=>q) (fun c q=>by rw [ZG (Z4 q hH)];exact q) fun c xs q=>by rw [ZG (Z4 q hH)];exact q
theorem compLoop_any {prog:Program} {w:World} {A:Around} {R:Result->Shared->Prop} {elt tg iter:Expr} {ifs:List Expr} {scope:Scope} {pos:Pos} {it acc:Value} {env:Env} {s:Shared}
    (J:Nat->Shared->Prop)
    (turn:∀ n s,J n s->wpAny (model prog w) A (pyNext it) (fun r s1=>match r with
      | none=>R (.ok .next) s1
      | some v=>wpAny (model prog w) A (letOwnedTupleGo tg it v) (fun _ s2=>wpAny (model prog w) A (assign tg env v) (fun _ s3 =>
          wpAny (model prog w) A (forIn ifs true fun c r=>if r=true then do let ok <- isTrue c env (eval c env);pure (ForInStep.yield ok) else pure (ForInStep.yield r)) (fun ok s4 =>
            if ok=true then wpAny (model prog w) A (eval elt env) (fun x s5=>wpAny (model prog w) A (call (.builtin "list.append") [acc,x]) (fun _ s6=>∃ m,m < n/\J m s6) (fun _ _=>False) s5) (fun _ _=>False) s4
            else ∃ m,m < n/\J m s4) (fun _ _=>False) s3) (fun _ _=>False) s2) (fun _ _=>False) s1) (fun _ _=>False) s)
    (n:Nat) (h:J n s):codeAny (model prog w) A (.compLoop (.ListComp elt [⟨tg,iter,ifs,0⟩] scope pos) 0 it acc env) R s:=by
  refine codeAny_loop rfl J (fun k t hJ=>?_) n h
  show wpAny _ A ((compTurn (.ListComp elt [⟨tg,iter,ifs,0⟩] scope pos) 0 it acc env).onRaise _) _ _ t
  refine wpAny_noted ?_
  rw [compTurn_list]
  have ff:∀ {E':Value->Shared->Prop} (x:Value) (y:Shared),False->E' x y:=fun _ _ f=>f.elim
  refine wpAny_bind (wpAny_standAt (wpAny_bind (wpAny_mono (turn k t hJ) (fun r s1 h1=>?_) ff)))
  cases r with
  | none=>exact wpAny_pure h1
  | some v =>
    refine wpAny_bind (wpAny_mono h1 (fun _ s2 h2=>?_) ff)
    refine wpAny_bind (wpAny_mono h2 (fun _ s3 h3=>?_) ff)
    refine wpAny_bind (wpAny_mono h3 (fun ok s4 h4=>?_) ff)
    cases ok with
    | false=>exact wpAny_pure ⟨rfl,h4⟩
    | true =>
      refine wpAny_bind (wpAny_bind (wpAny_mono h4 (fun x s5 h5=>?_) ff))
      exact wpAny_bind (wpAny_mono h5 (fun _ s6 h6=>wpAny_pure (wpAny_pure ⟨rfl,h6⟩)) ff)
def PTs (X:Cx) (ifs:List Expr) (t:TT):Prop :=
  ∀ (pins:List (Addr×Obj)) (s:Shared) (σ:St) (H:Hp) (Q:Bool->Hp->Prop),ZE X pins σ H s->t σ H Q ->
    wpAny (model X.prog X.w) X.A (forIn ifs true fun c r=>if r=true then do let ok <- isTrue c X.env (eval c X.env);pure (ForInStep.yield ok) else pure (ForInStep.yield r)) (TP X pins σ Q) X.xe s
def tYes:TT:=fun _ H Q=>Q true H
theorem pts_nil {X:Cx}:PTs X [] tYes:=fun _ _ _ H _ I h=>wpAny_tests_nil ⟨H,I,h⟩
theorem pts_one {X:Cx} {c:Expr} {t:TT} (h:PT X c t):PTs X [c] t:=fun pins s σ H Q I hw=>wpAny_tests_one (h pins s σ H Q I hw)
def isCF:Option NameKind->Bool
  | some .cell=>true
  | some .free=>true
  | _=>false
theorem isCF_or {k:Option NameKind} (h:isCF k=true):k=some .cell\/k=some .free:=by
  cases k with
  | none=>cases h
  | some k=>cases k <;> first | exact .inl rfl | exact .inr rfl | cases h
def outOk (XN N:List Str) (n:Nat) (scope:Scope) (env:Env) (ix:List Nat):Bool :=
  (List.range ix.length).all fun j=>match ix[j]? with
    | some i=>(match XN[i]? with
      | some x=>(N[n+j]? == some x) && isCF ((relabel scope env).names.lookup x) && isCF (env.kindOf x)
      | none=>false)
    | none=>false
def freeOk (scope:Scope) (cells:List (Str×Addr)):Bool:=scope.names.all fun y=>if y.2 == .free then (cells.lookup y.1).isSome else true
def Ww (cells:List (Str×Addr)):List (Str×NameKind)->List (Str×Addr)->List (Str×Addr)
  | [],acc=>acc
  | (n,k)::r,acc=>Ww cells r (if k == .free then (match cells.lookup n with | some a=>(n,a)::acc | none=>acc) else acc)
theorem closureFor_eq {scope:Scope} {env:Env} (h:freeOk scope env.cells=true):closureFor scope env=pure (Ww env.cells scope.names []):=by
  unfold freeOk at h
  simp only [closureFor]
  generalize scope.names=ns at h
  generalize ([]:List (Str×Addr))=acc
  induction ns generalizing acc with
  | nil=>rfl
  | cons y r ih =>
    obtain ⟨n,k⟩:=y
    simp only [List.all_cons,Bool.and_eq_true] at h
    obtain ⟨h1,h2⟩:=h
    have ih':=fun acc=>ih h2 acc
    simp only [List.forIn_cons,Ww]
    by_cases hk:(k == NameKind.free)=true
    · simp only [hk,if_true] at h1 ⊢
      cases e:env.cells.lookup n with
      | none=>rw [e] at h1;cases h1
      | some a =>
        have ec:cellOf env n=pure a:=by unfold cellOf;rw [e]
        rw [ec]
        exact ih' _
    · simp only [hk,Bool.false_eq_true,if_false]
      exact ih' _
theorem closOf_sub {cells:List (Str×Addr)} {x:Str} {c:Addr}:∀ (ns:List (Str×NameKind)) (acc:List (Str×Addr)),(∀ y d,acc.lookup y=some d->cells.lookup y=some d) ->
    (Ww cells ns acc).lookup x=some c->cells.lookup x=some c
  | [],acc,ha,h=>ha x c h
  | (n,k)::r,acc,ha,h=>by
    unfold Ww at h
    refine closOf_sub r _ (fun y d hy=>?_) h
    split at hy
    · split at hy
      · rename_i a e
        rw [List.lookup_cons] at hy
        cases q:y == n with
        | true =>
          rw [q] at hy
          have:y=n:=by simpa using q
          subst this
          cases hy;exact e
        | false=>rw [q] at hy;exact ha y d hy
      · exact ha y d hy
    · exact ha y d hy
theorem closOf_acc {cells:List (Str×Addr)} {x:Str}:∀ (ns:List (Str×NameKind)) (acc:List (Str×Addr)),(acc.lookup x).isSome=true->((Ww cells ns acc).lookup x).isSome=true
  | [],_,h=>h
  | (n,k)::r,acc,h=>by
    unfold Ww
    refine closOf_acc r _ ?_
    split
    · split
      · rw [List.lookup_cons]
        split
        · rfl
        · exact h
      · exact h
    · exact h
theorem closOf_has {cells:List (Str×Addr)} {x:Str}:∀ (ns:List (Str×NameKind)) (acc:List (Str×Addr)),(x,NameKind.free)∈ns->(ns.all fun y=>if y.2 == .free then (cells.lookup y.1).isSome else true)=true ->
    ((Ww cells ns acc).lookup x).isSome=true
  | [],_,h,_=>by cases h
  | (n,k)::r,acc,h,ha=>by
    simp only [List.all_cons,Bool.and_eq_true] at ha
    unfold Ww
    rcases List.mem_cons.mp h with e | e
    · cases e
      refine closOf_acc r _ ?_
      have h1:=ha.1
      simp only [beq_self_eq_true,if_true] at h1 ⊢
      cases q:cells.lookup x with
      | none=>rw [q] at h1;cases h1
      | some a=>simp [List.lookup_cons]
    · exact closOf_has r _ e ha.2
theorem Vy {env:Env} {x:Str}:∀ {names:List (Str×NameKind)},(∀ y∈names,y.2≠.cell) ->
    isCF ((names.map fun (n,k)=>if (k == NameKind.free && env.scope.kind == .function && env.kindOf n == some .cell) then (n,NameKind.cell) else (n,k)).lookup x)=true->(x,NameKind.free)∈names
  | [],_,h=>by cases h
  | (n,k)::r,hc,h=>by
    have ih:=Vy (env:=env) (x:=x) (names:=r) (fun y hy=>hc y (List.mem_cons_of_mem _ hy))
    rw [List.map_cons] at h
    by_cases q:(x == n)=true
    · have e:x=n:=by simpa using q
      subst e
      by_cases hk:k=.free
      · subst hk;exact List.mem_cons_self
      · exfalso
        have h0:(k == NameKind.free)=false:=by simpa using hk
        simp only [h0,Bool.false_and,Bool.false_eq_true,if_false,List.lookup_cons,beq_self_eq_true] at h
        have hc':=hc (x,k) List.mem_cons_self
        cases k <;> first | exact absurd rfl hk | exact absurd rfl hc' | cases h
    · have q':(x == n)=false:=by simpa using q
      refine List.mem_cons_of_mem _ (ih ?_)
      by_cases hc2:(k == NameKind.free && env.scope.kind == .function && env.kindOf n == some .cell)=true
      · simp only [hc2,if_true,List.lookup_cons,q'] at h;exact h
      · simp only [hc2,Bool.false_eq_true,if_false,List.lookup_cons,q'] at h;exact h
def st0 (n:Nat) (ix:List Nat) (σ:St):St:=List.replicate n none++ix.map fun i=>(σ[i]?).getD none
def tComp (n:Nat) (ix:List Nat) (wi:TI) (g:TG) (tt:TT) (te:TE):TE:=fun σ H Q=>wi σ H fun J H1=>∃ W:Nat->Nat->List V->St->Hp->Prop,(∃ m,W 0 m [] (st0 n ix σ) H1) /\
  ∀ i m ys σ' H',W i m ys σ' H' ->
    (J.stop i H'/\ys.length<=sizeLine/\∀ l,H' l=none->Q (.ref l) (YV H' l (.lst ys))) \/
    (J.go i H'/\ys.length < sizeLine/\∀ x H2,J.yld i H' x H2->g x σ' H2 fun σ2 H3=>tt σ2 H3 fun b H4 =>
      if b=true then te σ2 H4 fun y H5=>∃ m',m' < m/\W (i+1) m' (ys++[y]) σ2 H5 else ∃ m',m' < m/\W (i+1) m' ys σ2 H4)
theorem st0_len (n:Nat) (ix:List Nat) (σ:St):(st0 n ix σ).length=n+ix.length:=by simp [st0]
theorem st0_get {n:Nat} {ix:List Nat} {σ:St} {i:Nat} {v:V} (h:(st0 n ix σ)[i]?=some (some v)):∃ j k,i=n+j/\ix[j]?=some k/\σ[k]?=some (some v):=by
  unfold st0 at h
  by_cases hi:i < n
  · rw [List.getElem?_append_left (by simpa using hi),List.getElem?_replicate] at h
    split at h <;> cases h
  · rw [List.getElem?_append_right (by simpa using hi),List.getElem?_map] at h
    simp only [List.length_replicate] at h
    cases e:ix[i - n]? with
    | none=>rw [e] at h;cases h
    | some k =>
      rw [e] at h
      simp only [Option.map_some] at h
      refine ⟨i - n,k,by omega,e,?_⟩
      cases q:σ[k]? with
      | none=>rw [q] at h;cases h
      | some w=>rw [q] at h;simpa using h
abbrev lobj (its:List Value) (k:Nat):Obj:={ cls:=.type "list",data:=.seq its.toArray k }
theorem comp_start {acc:Addr} {n:Nat} {ix:List Nat} {h1:Heap} {m0:Str->Option Value} {t1:Nat} (I:ZE X pins σ H s) (ok:(Yd X N scope cl C s H fp).Ok)
    (hsub:∀ x c,cl.lookup x=some c->X.env.cells.lookup x=some c) (hhas:∀ x,(x,NameKind.free)∈scope.names->∃ c,cl.lookup x=some c) (hcell:∀ y∈scope.names,y.2≠.cell)
    (hNl:N.length=n+ix.length) (hout:outOk X.N N n scope X.env ix=true)
    (hacc:acc=s.heap.objs.size) (hC:C=s.heap.objs.size+1) (hk:∀ b o,s.heap.get? b=some o->h1.get? b=some o) (ha:h1.get? acc=some (lobj [] 0)) (hn:h1.Ns C m0) :
    ZE (Yd X N scope cl C s H fp) [(acc,lobj [] 0)] (st0 n ix σ) H { s with heap:=h1,toks:=t1 }:=by
  subst hacc
  subst hC
  have frA:H s.heap.objs.size=none:=I.hok.fresh (Nat.le_refl _)
  have frC:H (s.heap.objs.size+1)=none:=I.hok.fresh (Nat.le_succ _)
  refine ⟨ok,rfl,I.bare,Un.kept hk,⟨m0,hn,fun i x v e1 e2 _=>?_⟩,fun x c e=>?_,frC,fun x c e=>I.freeC x c (hsub x c e),fun p hp=>?_,I.hok.kept hk,?_⟩
  · obtain ⟨j,k,rfl,e3,e4⟩:=st0_get e2
    unfold outOk at hout
    have hj:j < ix.length:=(List.getElem?_eq_some_iff.mp e3).1
    have q:=List.all_eq_true.mp hout j (List.mem_range.mpr hj)
    simp only [e3] at q
    cases e5:X.N[k]? with
    | none=>rw [e5] at q;cases q
    | some y =>
      rw [e5] at q
      simp only [Bool.and_eq_true,beq_iff_eq] at q
      obtain ⟨⟨q1,q2⟩,q3⟩:=q
      have exy:x=y:=by
        have e1':N[n+j]?=some x:=e1
        rw [e1'] at q1;exact Option.some.inj q1
      subst exy
      obtain ⟨m,hm,hl⟩:=I.loc
      have hv:Vis X.env.scope x:=by
        rcases isCF_or q3 with z | z
        · exact .inr (.inl z)
        · exact .inr (.inr z)
      obtain ⟨u,ru,lk⟩:=hl k x v e5 e4 hv
      refine ⟨u,ru,.inr ⟨isCF_or q2,?_⟩⟩
      have hfree:=Vy hcell q2
      obtain ⟨c,hc⟩:=hhas x hfree
      refine ⟨c,hc,?_⟩
      rcases lk with ⟨k1,_⟩ | ⟨_,c',e6,z⟩
      · rcases isCF_or q3 with w | w <;> (rw [w] at k1;cases k1)
      · have:=hsub x c hc
        rw [e6] at this;cases this
        obtain ⟨oc,ho,hd⟩:=z
        exact ⟨oc,hk _ _ ho,hd⟩
  · obtain ⟨v,oc,ho,hd⟩:=I.cell x c (hsub x c e)
    exact ⟨v,oc,hk _ _ ho,hd⟩
  · have:p=(s.heap.objs.size,lobj [] 0):=by simpa [Yd] using hp
    subst this
    refine ⟨ha,frA,Nat.ne_of_lt (Nat.lt_succ_self _),fun hb=>?_,fun v z=>by cases z⟩
    have hb':s.heap.objs.size∈frs X.stack:=hb
    rcases List.mem_cons.mp (I.stkSub _ hb') with z | z
    · exact absurd I.lt (by rw [<- z];exact Nat.lt_irrefl _)
    · exact I.nofs (Nat.le_refl _) z
  · rw [st0_len];exact hNl.symm
theorem comp_end {acc:Addr} {σ':St} {H':Hp} {s':Shared} {its:List Value} {k:Nat} {ys:List V} (I:ZE X pins σ H s) (J:ZE (Yd X N scope cl C s H fp) [(acc,lobj its k)] σ' H' s')
    (hf:∀ b∈fp,FpOk X pins H b) (hacc:acc=s.heap.objs.size) (rv:ZQ ys its) (hl:ys.length<=sizeLine):H' acc=none/\ZE X pins σ (YV H' acc (.lst ys)) s':=by
  obtain ⟨e,n,_,_,_⟩:=J.pin (acc,lobj its k) (List.mem_append_right _ (by simp))
  refine ⟨n,?_⟩
  subst hacc
  have hn:s.heap.get? s.heap.objs.size=none:=Heap.get?_none_of_le (Nat.le_refl _)
  refine I.call' (ch:=fp) J.os (Un.withNew J.base hn (I.hok.fresh (Nat.le_refl _))) (HOk.withNew J.hok n ⟨hl,its,k,rv,e⟩) J.bare fun b hb=>?_
  obtain ⟨f0,f1,f2,f3,f4,f5⟩:=hf b hb
  exact ⟨f3,f1,f4,f5⟩
theorem comp_block {it acc:Addr} {tn:Nat->Heap->Prop} {J:It} {elt tg iter:Expr} {ifs:List Expr} {pos:Pos} {g:TG} {tt:TT} {te:TE} {Q:VK} {s4:Shared} (hc:X.calm=true)
    (I:ZE X pins σ H s) (T:Turn X.prog X.w X.K tg J fp it tn) (hf:∀ b∈fp,FpOk X pins H b) (ho:∀ b∈fp,∃ o,s.heap.get? b=some o) (hacc:acc=s.heap.objs.size) (hC:C=s.heap.objs.size+1)
    (hg:PG (Yd X N scope cl C s H fp) tg g) (ht:PTs (Yd X N scope cl C s H fp) ifs tt) (he:PE (Yd X N scope cl C s H fp) elt te)
    (W:Nat->Nat->List V->St->Hp->Prop) (hW:∀ i m ys σ' H',W i m ys σ' H' ->
      (J.stop i H'/\ys.length<=sizeLine/\∀ l,H' l=none->Q (.ref l) (YV H' l (.lst ys))) \/
      (J.go i H'/\ys.length < sizeLine/\∀ x H2,J.yld i H' x H2->g x σ' H2 fun σ2 H3=>tt σ2 H3 fun b H4 =>
        if b=true then te σ2 H4 fun y H5=>∃ m',m' < m/\W (i+1) m' (ys++[y]) σ2 H5 else ∃ m',m' < m/\W (i+1) m' ys σ2 H4))
    (m:Nat) (h0:∃ σ0,ZE (Yd X N scope cl C s H fp) [(acc,lobj [] 0)] σ0 H s4/\W 0 m [] σ0 H) (st:tn 0 s4.heap) :
    codeAny (model X.prog X.w) X.A (.compLoop (.ListComp elt [⟨tg,iter,ifs,0⟩] scope pos) 0 (.ref it) (.ref acc) (compEnvC scope cl C X.env))
      (fun r s'=>r=.ok .next/\∃ H',H' C=none/\(∃ m',s'.heap.Ns C m')/\ZE X pins σ H' s'/\Q (.ref acc) H') s4:=by
  have ff:∀ {E':Value->Shared->Prop} (x:Value) (y:Shared),False->E' x y:=fun _ _ f=>f.elim
  obtain ⟨σ0,I0,w0⟩:=h0
  have accle:s.heap.objs.size<=acc:=by rw [hacc];exact Nat.le_refl _
  have nC:C≠acc:=by rw [hC,hacc];exact Nat.ne_of_gt (Nat.lt_succ_self _)
  have accfp:acc∉fp:=fun hb=>by
    obtain ⟨o,e⟩:=ho acc hb
    exact absurd (Nat.lt_of_lt_of_le (Heap.lt_size e) accle) (Nat.lt_irrefl _)
  have xfp:∀ {its:List Value} {k:Nat} {H':Hp},(∀ b∈fp,H' b=none)->∀ b∈fp,FpOk (Yd X N scope cl C s H fp) [(acc,lobj its k)] H' b:=fun {its k H'} hn b hb =>
    ⟨hn b hb,(I0.ok.exf b hb).1,I0.ok.exfs b hb,.inl hb,(I0.ok.exf b hb).2,fun p hm=>by
      have hm':p=(acc,lobj its k):=by simpa [Yd] using hm
      subst hm'
      intro z
      exact accfp (by rw [show acc=b from z];exact hb)⟩
  refine compLoop_any (fun n s'=>∃ i ys its k σ' H',ZE (Yd X N scope cl C s H fp) [(acc,lobj its k)] σ' H' s'/\tn i s'.heap/\(∀ b∈fp,H' b=none)/\ZQ ys its/\W i n ys σ' H') ?_ m
    ⟨0,[],[],0,σ0,H,I0,st,fun b hb=>(hf b hb).1,.nil,w0⟩
  rintro n s5 ⟨i,ys,its,k,σ5,H5,I5,st5,fr5,rv,w5⟩
  rcases hW i n ys σ5 H5 w5 with ⟨stop,hl,q⟩ | ⟨go,hl,step⟩
  · refine Y4 (T.done (Yd X N scope cl C s H fp) rfl rfl rfl hc i _ s5 σ5 H5 _ I5 (xfp fr5) st5 stop) fun r s6 ⟨hr,I6⟩=>?_
    subst hr
    obtain ⟨n6,J6⟩:=comp_end I I6 hf hacc rv hl
    obtain ⟨m6,hm6,_⟩:=I6.loc
    exact ⟨rfl,_,(by rw [ZG nC];exact I6.free),⟨m6,hm6⟩,J6,q acc n6⟩
  · refine Y4 (T.item (Yd X N scope cl C s H fp) rfl rfl rfl hc i _ s5 σ5 H5 _ I5 (xfp fr5) st5 go) fun r s6 ⟨u,hr,h6⟩=>?_
    subst hr
    refine Y4 h6 fun _ s7 ⟨x,H7,I7,r7,y7,st7,fr7⟩=>?_
    have I7':=I7.pinned (xfp fr7) (T.obj _ _ st7)
    refine Y4 (hg _ s7 σ5 H7 x u _ I7' r7 (step x H7 y7)) fun _ s8 ⟨σ8,H8,I8,q8⟩=>?_
    refine Y4 (ht _ s8 σ8 H8 _ I8 q8) fun ok s9 ⟨H9,I9,q9⟩=>?_
    have back:∀ {H':Hp} {s':Shared},ZE (Yd X N scope cl C s H fp) ([(acc,lobj its k)]++pinsAt fp s7.heap) σ8 H' s'->tn (i+1) s'.heap/\∀ b∈fp,H' b=none:=fun {H' s'} I' =>
      ⟨T.keep _ _ _ st7 fun b hb o e=>(I'.pin (b,o) (List.mem_append_right _ (List.mem_append_right _ (VB hb e)))).1,fun b hb=>by
        obtain ⟨o,e,d⟩:=T.obj _ _ st7 b hb
        exact (I'.pin (b,o) (List.mem_append_right _ (List.mem_append_right _ (VB hb e)))).2.1⟩
    cases ok with
    | false =>
      rw [if_neg Bool.false_ne_true] at q9
      rw [if_neg Bool.false_ne_true]
      obtain ⟨m',hm,w'⟩:=q9
      exact ⟨m',hm,i+1,ys,its,k,σ8,H9,I9.unpinned,(back I9).1,(back I9).2,rv,w'⟩
    | true =>
      rw [if_pos rfl] at q9
      rw [if_pos rfl]
      refine Y4 (he _ s9 σ8 H9 _ I9 q9) fun y s10 ⟨v,H10,I10,r10,q10⟩=>?_
      obtain ⟨m',hm,w'⟩:=q10
      obtain ⟨b1,b2⟩:=back I10
      have J10:=I10.unpinned
      obtain ⟨ea,na,nL,nF,nD⟩:=J10.pin (acc,lobj its k) (List.mem_append_right _ (by simp))
      have hsz:its.toArray.size<=sizeLine:=by
        have:=rv.length
        simp only [List.size_toArray];omega
      refine wpAny_list_append_plain (hsz:=hsz) ⟨k,ea⟩ fun h' ⟨k',e'⟩ sb=>?_
      have hpu:its.toArray.push y=(its++[y]).toArray:=by simp
      rw [hpu] at e'
      refine ⟨m',hm,i+1,ys++[v],its++[y],k',σ8,H10,?_,T.keep _ _ _ b1 fun b hb o e=>(sb.2 b (fun z=>accfp (z ▸ hb))).trans e,b2,rv.append (.cons r10 .nil),w'⟩
      have J11:ZE (Yd X N scope cl C s H fp) [] σ8 H10 s10:=J10.pins_of fun p hp=>absurd hp (by simp)
      have J12:ZE (Yd X N scope cl C s H fp) [] σ8 H10 { s10 with heap:=h' }:=J11.turned (t':=s10.toks) (it:=acc) (fun b o hb e=>(sb.2 b hb).trans e) na nL
        (.inr accle) (fun x c e z=>by
          obtain ⟨w1,oc,hoc,hd⟩:=J10.cell x c e
          have:s10.heap.get? acc=some oc:=by rw [<- z];exact hoc
          rw [ea] at this;cases this;cases hd) (fun p hp=>absurd (show p∈([]:List (Addr×Obj))++[] from hp) (by simp))
      refine J12.pins_of fun p hp=>?_
      have:p=(acc,lobj (its++[y]) k'):=by simpa using hp
      subst this
      exact ⟨e',na,nL,nF,fun v z=>by cases z⟩
theorem sub_of (cells:List (Str×Addr)) (ns:List (Str×NameKind)):∀ x c,(Ww cells ns []).lookup x=some c->cells.lookup x=some c:=fun _ _ h=>closOf_sub ns [] (fun _ _ z=>by cases z) h
theorem comp_any {elt tg iter:Expr} {ifs:List Expr} {pos p2:Pos} {n:Nat} {ix:List Nat} {wi:TI} {g:TG} {tt:TT} {te:TE} {Q:VK} {use:Option (Value->Sem Unit)} {R:Value->Shared->Prop}
    (hc:X.calm=true) (hi:PI X tg iter wi)
    (hg:∀ cl C s H fp,PG (Yd X N scope cl C s H fp) tg g) (ht:∀ cl C s H fp,PTs (Yd X N scope cl C s H fp) ifs tt) (he:∀ cl C s H fp,PE (Yd X N scope cl C s H fp) elt te)
    (hk:scope.kind=.function) (hcell:(scope.names.all fun y=>!(y.2 == .cell))=true) (hnames:(scope.names.all fun y=>!(y.2 == .local) || (scope.names.lookup y.1 == some .local))=true)
    (hNl:N.length=n+ix.length) (hout:outOk X.N N n scope X.env ix=true) (hfree:freeOk scope X.env.cells=true) (hs:∀ x,foldedSetIterable iter X.env x=pure x)
    (I:ZE X pins σ H s) (h:tComp n ix wi g tt te σ H Q)
    (fin:∀ acc C s',(∃ H',H' C=none/\C≠X.env.locals/\X.s₀.heap.objs.size<=C/\(∀ x c,X.env.cells.lookup x=some c->c≠C)/\(∀ p∈X.pn++pins,p.1≠C)/\(∃ m',s'.heap.Ns C m')/\ZE X pins σ H' s'/\Q (.ref acc) H') ->
      compPost (model X.prog X.w) X.A X.xe use R (.ref acc) C (.ok .next) s') :
    wpAny (model X.prog X.w) X.A (comprehension (.ListComp elt [⟨tg,iter,ifs,0⟩] scope pos) scope X.env p2 (newList []) false (eval iter X.env) use) R X.xe s:=by
  have hcell':∀ y∈scope.names,y.2≠.cell:=fun y hy z=>by
    have:=List.all_eq_true.mp hcell y hy
    rw [z] at this;cases this
  have hnames':∀ y∈scope.names,y.2=.local->scope.names.lookup y.1=some .local:=fun y hy z=>by
    have:=List.all_eq_true.mp hnames y hy
    rw [z] at this
    simpa using this
  refine wpAny_comprehension_free (use:=use) rfl hs (closureFor_eq hfree) hk hnames' (Y4 (hi pins s σ H _ I h) fun v s1 h1=>Y4 h1 fun itv s2 h2=>?_)
  obtain ⟨it,fp,tn,J,H2,e,I2,T,st2,f2,W,⟨m,w0⟩,hW⟩:=h2
  subst e
  have ho:∀ b∈fp,∃ o,s2.heap.get? b=some o:=fun b hb=>let ⟨o,e,_⟩:=T.obj _ _ st2 b hb;⟨o,e⟩
  refine wpAny_newObj_type (wpAny_newFunctionEnv hcell' (by intro y hy;simp at hy) (fun h1 hns hsb=>?_) hk)
  dsimp only at hns hsb ⊢
  generalize hG:s2.heap.push { cls:=.type "list",dict:=none,data:=.seq ([]:List Value).toArray }=G at hns hsb ⊢
  have hCs:G.objs.size=s2.heap.objs.size+1:=by rw [<- hG,Heap.size_push]
  have keep:∀ b o,s2.heap.get? b=some o->h1.get? b=some o:=fun b o e=>hsb.extBut b o (Nat.ne_of_lt (by rw [hCs];exact Nat.lt_succ_of_lt (Heap.lt_size e))) (Heap.get?_push_of_some _ (hG ▸ Heap.get?_push_of_some _ e))
  have hac:h1.get? s2.heap.objs.size=some (lobj [] 0):=hsb.extBut _ _ (Nat.ne_of_lt (by rw [hCs];exact Nat.lt_succ_self _)) (Heap.get?_push_of_some _ (hG ▸ Heap.get?_push_size _ rfl))
  have sub:=sub_of X.env.cells scope.names
  have has:∀ x,(x,NameKind.free)∈scope.names->∃ c,(Ww X.env.cells scope.names []).lookup x=some c:=fun x hx=>Option.isSome_iff_exists.mp (closOf_has scope.names [] hx hfree)
  have ok:(Yd X N scope (Ww X.env.cells scope.names []) G.objs.size s2 H2 fp).Ok:=cxComp_ok I2 hk (by rw [hCs];exact Nat.le_succ _) f2 ho sub fun x hx=>has x (Vy hcell' (by
    rcases hx with z | z <;> (have z':=z;unfold relabel at z';simp only at z';rw [z'];rfl)))
  have I4:=comp_start (t1:=s2.toks+([]:List (Str×Value)).length) I2 ok sub has hcell' hNl hout rfl hCs keep hac hns
  have st4:tn 0 h1:=T.keep _ _ _ st2 fun b hb o e=>keep b o e
  have loop:=comp_block (pos:=pos) (iter:=iter) (Q:=Q) (s4:={ s2 with heap:=h1,toks:=s2.toks+([]:List (Str×Value)).length }) hc I2 T f2 ho rfl hCs (hg _ _ _ _ _) (ht _ _ _ _ _) (he _ _ _ _ _) W hW m ⟨_,I4,w0⟩ st4
  have loop':=codeAny_mono loop (R':=compPost (model X.prog X.w) X.A X.xe use R (.ref s2.heap.objs.size) G.objs.size) fun r s' ⟨hr,H',q1,q2,q3,q4⟩=>by
    subst hr
    refine fin _ _ s' ⟨H',q1,?_,?_,?_,?_,q2,q3,q4⟩
    · intro z
      have:=I2.lt
      rw [<- z,hCs] at this
      exact absurd this (Nat.not_lt.mpr (Nat.le_succ _))
    · rw [hCs];exact Nat.le_succ_of_le I2.sz
    · intro x c e z
      obtain ⟨w1,oc,hoc,_⟩:=I2.cell x c e
      have:=Heap.lt_size hoc
      rw [z,hCs] at this
      exact absurd this (Nat.not_lt.mpr (Nat.le_succ _))
    · intro p hp z
      have:=Heap.lt_size (I2.pin p hp).1
      rw [z,hCs] at this
      exact absurd this (Nat.not_lt.mpr (Nat.le_succ _))
  exact codeAny_compStart_list loop' (T.self _ 0 _ _ _ st4 loop')
theorem pe_comp {elt tg iter:Expr} {ifs:List Expr} {pos:Pos} (N:List Str) (n:Nat) (ix:List Nat) {wi:TI} {g:TG} {tt:TT} {te:TE} (hc:X.calm=true) (hi:PI X tg iter wi)
    (hg:∀ cl C s H fp,PG (Yd X N scope cl C s H fp) tg g) (ht:∀ cl C s H fp,PTs (Yd X N scope cl C s H fp) ifs tt) (he:∀ cl C s H fp,PE (Yd X N scope cl C s H fp) elt te)
    (hk:scope.kind=.function:=by rfl) (hcell:(scope.names.all fun y=>!(y.2 == .cell))=true:=by rfl) (hnames:(scope.names.all fun y=>!(y.2 == .local) || (scope.names.lookup y.1 == some .local))=true:=by rfl)
    (hNl:N.length=n+ix.length:=by rfl) (hout:outOk X.N N n scope X.env ix=true:=by rfl) (hfree:freeOk scope X.env.cells=true:=by rfl) (hs:∀ x,foldedSetIterable iter X.env x=pure x:=by intro _;rfl) :
    PE X (.ListComp elt [⟨tg,iter,ifs,0⟩] scope pos) (tComp n ix wi g tt te):=by
  intro pins s σ H Q I h
  rw [eval_ListComp]
  refine comp_any (use:=none) hc hi hg ht he hk hcell hnames hNl hout hfree hs I h ?_
  rintro acc C s' ⟨H',q1,q2,q3,q4,q5,⟨m',q6⟩,q7,q8⟩
  exact ⟨m',q6,fun h' sb=>⟨.ref acc,H',q7.turned (t':=s'.toks) (fun b o hb e=>(sb.2 b hb).trans e) q1 q2 (.inr q3) q4 q5,rfl,q8⟩⟩
theorem ps_setC {i:Nat} {x:Str} {pos' sp:Pos} {elt tg iter:Expr} {ifs:List Expr} {pos:Pos} (N:List Str) (n:Nat) (ix:List Nat) {wi:TI} {g:TG} {tt:TT} {te:TE} (hN:X.N.Nodup) (hx0:X.N[i]?=some x) (hx:Loc X.env.scope x)
    (hc:X.calm=true) (hi:PI X tg iter wi)
    (hg:∀ cl C s H fp,PG (Yd X N scope cl C s H fp) tg g) (ht:∀ cl C s H fp,PTs (Yd X N scope cl C s H fp) ifs tt) (he:∀ cl C s H fp,PE (Yd X N scope cl C s H fp) elt te)
    (hsw:swapsWith (.ListComp elt [⟨tg,iter,ifs,0⟩] scope pos) (some (.Name x pos')) sp.line X.env=pure true:=by rfl)
    (hk:scope.kind=.function:=by rfl) (hcell:(scope.names.all fun y=>!(y.2 == .cell))=true:=by rfl) (hnames:(scope.names.all fun y=>!(y.2 == .local) || (scope.names.lookup y.1 == some .local))=true:=by rfl)
    (hNl:N.length=n+ix.length:=by rfl) (hout:outOk X.N N n scope X.env ix=true:=by rfl) (hfree:freeOk scope X.env.cells=true:=by rfl) (hs:∀ x,foldedSetIterable iter X.env x=pure x:=by intro _;rfl)
    (hf:X.fn x=true\/X.env.scope.names.lookup x=some .local:=by first | exact .inl rfl | exact .inr rfl | assumption) :
    PS X (.Assign [.Name x pos'] (.ListComp elt [⟨tg,iter,ifs,0⟩] scope pos) sp) (tAsg (tComp n ix wi g tt te) (gName i)):=by
  intro pins s σ H D I h
  rw [exec_Assign_Name_used _ _ _ _ hsw]
  refine wpAny_bind (wpAny_standAt (wpAny_bind ?_))
  show wpAny _ X.A (do let _ <- comprehension (.ListComp elt [⟨tg,iter,ifs,0⟩] scope pos) scope X.env _ (newList []) false (eval iter X.env) (some (assign (.Name x pos') X.env))) _ _ s
  refine wpAny_bind (Y4 (comp_any (use:=some (assign (.Name x pos') X.env)) (R:=fun _ s'=>SP X pins D .next s') hc hi hg ht he hk hcell hnames hNl hout hfree hs I h ?_) fun _ s' q=>wpAny_pure (wpAny_pure q))
  rintro acc C s' ⟨H',q1,q2,q3,q4,q5,⟨m',q6⟩,q7,q8⟩
  show wpAny _ X.A (assign (.Name x pos') X.env (.ref acc)) _ _ s'
  refine wpAny_assign_Name (store_ok2 q7 hN hx0 hx (v:=.ref acc) rfl (fun s2 I2 ⟨a,sb,ha⟩=>?_) hf)
  have naC:C≠a:=by
    rcases ha with rfl | ha
    · exact q2
    · exact fun z=>q4 _ _ ha z.symm
  exact ⟨m',q6.sameBut sb naC,fun h' sb'=>⟨_,H',I2.turned (t':=s2.toks) (fun b o hb e=>(sb'.2 b hb).trans e) q1 q2 (.inr q3) q4 q5,q8⟩⟩
end
end L2

namespace L2
open PySem PySem.Spec PyProof.Rows
inductive D where
  | non | bl (b:Bool) | int (i:Int) | str (x:Str) | tup (ds:List D) | lst (ds:List D)
    | scr (ns:List Int)
    | dcK (ks:List YW) (ds:List D)
  | dcT (ks:List (List YW)) (ds:List D)
    | dcF (ks:List (List YW)) (ds:List D)
mutual
def Xe (K:PySem.W.Frag) (H:Hp):D->V->Prop
  | .non,v=>v=.non
  | .bl b,v=>v=.bl b
  | .int i,v=>v=.int i
  | .str x,v=>v=.str x
  | .tup ds,v=>∃ a vs,v=.ref a/\H a=some (.tup vs)/\Zs K H ds vs
  | .lst ds,v=>∃ a vs,v=.ref a/\H a=some (.lst vs)/\Zs K H ds vs
  | .scr ns,v=>∃ a,v=.ref a/\Wa K H a (ns.map V.int)
  | .dcK ks ds,v=>∃ a kvs,v=.ref a/\H a=some (.dK kvs)/\kvs.map (·.1)=ks/\Zs K H ds (kvs.map (·.2))
  | .dcT ks ds,v=>∃ a kvs,v=.ref a/\H a=some (.dT kvs)/\kvs.map (·.1)=ks/\Zs K H ds (kvs.map (·.2))
  | .dcF ks ds,v=>∃ a o kvs,v=.ref a/\H a=some (.frz o (.dT kvs))/\kvs.map (·.1)=ks/\Zs K H ds (kvs.map (·.2))
def Zs (K:PySem.W.Frag) (H:Hp):List D->List V->Prop
  | [],vs=>vs=[]
  | d::ds,vs=>∃ v r,vs=v::r/\Xe K H d v/\Zs K H ds r
end
theorem Zg.seqT {K:PySem.W.Frag} {H H':Hp} {a:Addr} {xs:List V} (e:Zg H H') (h:Wy K H a xs):Wy K H' a xs:=by
  rcases h with (h | ⟨o,h⟩) | h
  · exact .inl (.inl (e _ _ h))
  · exact .inl (.inr ⟨o,e _ _ h⟩)
  · exact .inr h
theorem Zg.new {H:Hp} {a:Addr} {o:HO} (h:H a=none):Zg H (YV H a o):=fun b u e=>by rw [ZG (Z4 e h)];exact e
mutual
theorem Xe.mono {K:PySem.W.Frag} {H H':Hp} (s:Zg H H'):∀ (d:D) (v:V),Xe K H d v->Xe K H' d v
  | .non,_,h=>h
  | .bl _,_,h=>h
  | .int _,_,h=>h
  | .str _,_,h=>h
  | .tup ds,_,⟨a,vs,e,h,r⟩=>⟨a,vs,e,s _ _ h,Zs.mono s ds vs r⟩
  | .lst ds,_,⟨a,vs,e,h,r⟩=>⟨a,vs,e,s _ _ h,Zs.mono s ds vs r⟩
  | .scr _,_,⟨a,e,h⟩=>⟨a,e,s.seq h⟩
  | .dcK _ ds,_,⟨a,kvs,e,h,k,r⟩=>⟨a,kvs,e,s _ _ h,k,Zs.mono s ds _ r⟩
  | .dcT _ ds,_,⟨a,kvs,e,h,k,r⟩=>⟨a,kvs,e,s _ _ h,k,Zs.mono s ds _ r⟩
  | .dcF _ ds,_,⟨a,o,kvs,e,h,k,r⟩=>⟨a,o,kvs,e,s _ _ h,k,Zs.mono s ds _ r⟩
theorem Zs.mono {K:PySem.W.Frag} {H H':Hp} (s:Zg H H'):∀ (ds:List D) (vs:List V),Zs K H ds vs->Zs K H' ds vs
  | [],_,h=>h
  | d::ds,_,⟨v,r,e,h,t⟩=>⟨v,r,e,Xe.mono s d v h,Zs.mono s ds r t⟩
end
section
variable {K:PySem.W.Frag} {H:Hp}
theorem Zs.length:∀ {ds:List D} {vs:List V},Zs K H ds vs->vs.length=ds.length
  | [],_,h=>by rw [show _=_ from h];rfl
  | _::ds,_,⟨v,r,e,_,t⟩=>by rw [e,List.length_cons,List.length_cons,Zs.length t]
theorem Zs.get:∀ {ds:List D} {vs:List V} {i:Nat} {d:D},Zs K H ds vs->ds[i]?=some d->∃ v,vs[i]?=some v/\Xe K H d v
  | [],_,_,_,_,e=>by simp at e
  | _::_,_,0,_,⟨v,r,e,h,_⟩,q=>by
    simp only [List.getElem?_cons_zero,Option.some.injEq] at q
    subst q;subst e;exact ⟨v,rfl,h⟩
  | _::ds,_,i+1,d,⟨v,r,e,_,t⟩,q=>by
    subst e
    obtain ⟨u,h1,h2⟩:=Zs.get (ds:=ds) (i:=i) t (by simpa using q)
    exact ⟨u,by simpa using h1,h2⟩
theorem Zs.append:∀ {ds es:List D} {vs us:List V},Zs K H ds vs->Zs K H es us->Zs K H (ds++es) (vs++us)
  | [],_,_,_,h,k=>by rw [show _=_ from h];exact k
  | _::ds,_,_,_,⟨v,r,e,h,t⟩,k=>by subst e;exact ⟨v,_,rfl,h,Zs.append t k⟩
theorem Zs.take:∀ {ds:List D} {vs:List V} (n:Nat),Zs K H ds vs->Zs K H (ds.take n) (vs.take n)
  | _,_,0,_=>by simp [Zs]
  | [],_,_+1,h=>by rw [show _=_ from h];simp [Zs]
  | _::ds,_,n+1,⟨v,r,e,h,t⟩=>by subst e;exact ⟨v,_,rfl,h,Zs.take n t⟩
theorem Zs.drop:∀ {ds:List D} {vs:List V} (n:Nat),Zs K H ds vs->Zs K H (ds.drop n) (vs.drop n)
  | _,_,0,h=>h
  | [],_,_+1,h=>by rw [show _=_ from h];simp [Zs]
  | _::ds,_,n+1,⟨v,r,e,_,t⟩=>by subst e;exact Zs.drop n t
theorem Zs.set {d:D} {v:V} (hr:Xe K H d v):∀ {ds:List D} {vs:List V} (i:Nat),Zs K H ds vs->Zs K H (ds.set i d) (vs.set i v)
  | [],_,_,h=>by rw [show _=_ from h];simp [Zs]
  | _::ds,_,0,⟨w,r,e,_,t⟩=>by subst e;exact ⟨v,_,rfl,hr,t⟩
  | _::ds,_,i+1,⟨w,r,e,h,t⟩=>by subst e;exact ⟨w,_,rfl,h,Zs.set hr i t⟩
theorem Zs.one {d:D} {v:V} (h:Xe K H d v):Zs K H [d] [v]:=⟨v,[],rfl,h,rfl⟩
theorem Zs.ints:∀ {is:List Int} {vs:List V},Zs K H (is.map D.int) vs->vs=is.map V.int
  | [],_,h=>h
  | i::is,_,⟨v,r,e,h,t⟩=>by
    have:v=.int i:=h
    subst this;subst e;rw [List.map_cons,Zs.ints t]
theorem WM:∀ (is:List Int),Zs K H (is.map D.int) (is.map V.int)
  | []=>rfl
  | i::is=>⟨_,_,rfl,rfl,WM is⟩
end
inductive Cl where
  | val (d:D)
  | own (d:D)
abbrev Wp:=List (Option D)
abbrev Y1:=List (Option Cl)
def Z6 (ρ:Y1):Wp:=ρ.map fun c=>match c with
  | some (.val d)=>some d
  | some (.own d)=>some d
  | none=>none
def Z0 (ρ:Y1):Wp:=ρ.map fun c=>match c with
  | some (.val d)=>some d
  | _=>none
def ZK (O:List Addr) (H:Hp):Hp:=fun a=>if a∈O then none else H a
section
variable {O:List Addr} {H H':Hp}
theorem Zh:Zg (ZK O H) H:=fun a o h=>by
  unfold ZK at h
  split at h
  · cases h
  · exact h
theorem ZH (s:Zg H H'):Zg (ZK O H) (ZK O H'):=fun a o h=>by
  unfold ZK at h ⊢
  split at h
  · cases h
  · rename_i hn;rw [if_neg hn];exact s a o h
theorem mask_nil:ZK [] H=H:=by funext a;unfold ZK;rw [if_neg (by simp)]
theorem Zv {a:Addr} (h:a∉O):ZK O H a=H a:=by unfold ZK;rw [if_neg h]
theorem Ye {a:Addr} (h:a∈O):ZK O H a=none:=by unfold ZK;rw [if_pos h]
def isMut:HO->Prop
  | .lst _=>True
  | .dK _=>True
  | .dT _=>True
  | _=>False
def YR (O:List Addr) (H:Hp):Prop:=∀ a∈O,∃ o,H a=some o/\isMut o
theorem YR.mono (t:YR O H) (s:Zg H H'):YR O H':=fun a h=>let ⟨o,e,m⟩:=t a h;⟨o,s _ _ e,m⟩
theorem YR.fresh (t:YR O H) {a:Addr} (h:H a=none):a∉O:=fun m=>by obtain ⟨o,e,_⟩:=t a m;rw [h] at e;cases e
end
structure RV (K:PySem.W.Frag) (O:List Addr) (H:Hp) (ρ:Wp) (σ:St):Prop where
  th:YR O H
  at_:∀ (i:Nat) (d:D),ρ[i]?=some (some d)->∃ v,σ[i]?=some (some v)/\Xe K (ZK O H) d v
theorem RV.mono {K:PySem.W.Frag} {O:List Addr} {H H':Hp} {ρ:Wp} {σ:St} (r:RV K O H ρ σ) (s:Zg H H'):RV K O H' ρ σ :=
  ⟨r.th.mono s,fun i d e=>let ⟨v,h1,h2⟩:=r.at_ i d e;⟨v,h1,Xe.mono (ZH s) d v h2⟩⟩
abbrev FE:=Wp->Option D
abbrev FT:=Wp->Option Bool
abbrev FA:=Wp->Option (List D)
def tD (K:PySem.W.Frag) (f:FE):TE:=fun σ H Q=>∃ O ρ d,RV K O H ρ σ/\f ρ=some d/\∀ v H',Zg H H'->Xe K (ZK O H') d v->Q v H'
def tT (K:PySem.W.Frag) (f:FT):TT:=fun σ H Q=>∃ O ρ b,RV K O H ρ σ/\f ρ=some b/\∀ H',Zg H H'->Q b H'
def tA (K:PySem.W.Frag) (f:FA):TA:=fun σ H Q=>∃ O ρ ds,RV K O H ρ σ/\f ρ=some ds/\∀ vs H',Zg H H'->Zs K (ZK O H') ds vs->Q vs H'
def EV (X:Cx) (e:Expr) (f:FE):Prop:=PE X e (tD X.K f)
def TV (X:Cx) (e:Expr) (f:FT):Prop:=PT X e (tT X.K f)
def AV (X:Cx) (es:List Expr) (f:FA):Prop:=PA X es (tA X.K f)
theorem PE.imp {X:Cx} {e:Expr} {t t':TE} (h:PE X e t) (k:∀ σ H Q,t' σ H Q->t σ H Q):PE X e t':=fun pins s σ H Q I hw=>h pins s σ H Q I (k σ H Q hw)
theorem PT.imp {X:Cx} {e:Expr} {t t':TT} (h:PT X e t) (k:∀ σ H Q,t' σ H Q->t σ H Q):PT X e t':=fun pins s σ H Q I hw=>h pins s σ H Q I (k σ H Q hw)
theorem PA.imp {X:Cx} {e:List Expr} {t t':TA} (h:PA X e t) (k:∀ σ H Q,t' σ H Q->t σ H Q):PA X e t':=fun pos pins s σ H Q I hw=>h pos pins s σ H Q I (k σ H Q hw)
def fV (i:Nat):FE:=fun ρ=>(ρ[i]?).getD none
def fC (d:D):FE:=fun _=>some d
def f1 (o:D->Option D) (a:FE):FE:=fun ρ=>(a ρ).bind o
def f2 (o:D->D->Option D) (a b:FE):FE:=fun ρ=>(a ρ).bind fun x=>(b ρ).bind fun y=>o x y
def fN:FA:=fun _=>some []
def Zc (a:FE) (r:FA):FA:=fun ρ=>(a ρ).bind fun x=>(r ρ).bind fun xs=>some (x::xs)
def fL (o:List D->Option D) (a:FA):FE:=fun ρ=>(a ρ).bind o
def fIf (c:FT) (a b:FE):FE:=fun ρ=>(c ρ).bind fun k=>if k=true then a ρ else b ρ
def WT (a b:FE):FE:=fun ρ=>(a ρ).bind fun x=>match x with | .bl true=>b ρ | .bl false=>some (.bl false) | _=>none
def fOr (a b:FE):FE:=fun ρ=>(a ρ).bind fun x=>match x with | .bl true=>some (.bl true) | .bl false=>b ρ | _=>none
def fNot (a:FE):FE:=fun ρ=>(a ρ).bind fun x=>match x with | .bl k=>some (.bl (!k)) | _=>none
def gB (a:FE):FT:=fun ρ=>(a ρ).bind fun x=>match x with | .bl k=>some k | _=>none
def WJ (a b:FT):FT:=fun ρ=>(a ρ).bind fun k=>if k=true then b ρ else some false
def gOr (a b:FT):FT:=fun ρ=>(a ρ).bind fun k=>if k=true then some true else b ρ
def XR (a:FT):FT:=fun ρ=>(a ρ).bind fun k=>some (!k)
def truD:D->Option Bool
  | .non=>some false
  | .bl b=>some b
  | .int i=>some (i != 0)
  | .tup ds=>some (!ds.isEmpty)
  | .lst ds=>some (!ds.isEmpty)
  | _=>none
def Xq (a:FE):FT:=fun ρ=>(a ρ).bind truD
theorem bind_some {α β:Type} {a:Option α} {f:α->Option β} {b:β} (h:a.bind f=some b):∃ x,a=some x/\f x=some b:=by
  cases a with
  | none=>cases h
  | some x=>exact ⟨x,rfl,h⟩
section
variable {X:Cx} {a b c:Expr} {fa fb:FE} {pos:Pos}
theorem Za (i:Nat) {x:Str} (hN:X.N[i]?=some x:=by rfl) (hv:Vis X.env.scope x:=by first | exact Or.inl rfl | exact Or.inr (Or.inl rfl) | exact Or.inr (Or.inr rfl)) (hd:(x == ("__debug__":Str))=false:=by decide)
    (hcd:(x == ("__classdict__":Str))=false:=by decide):EV X (.Name x pos) (fV i):=PE.imp (pe_var hN hv hd hcd) fun σ H Q ⟨O,ρ,d,r,e,k⟩=>by
  have e':ρ[i]?=some (some d):=by
    unfold fV at e
    cases q:ρ[i]? with
    | none=>rw [q] at e;cases e
    | some o=>rw [q] at e;rw [show o=some d from e]
  obtain ⟨v,h1,h2⟩:=r.at_ i d e'
  exact ⟨v,h1,k v H (Zg.refl _) h2⟩
theorem Zj {i j}:EV X (.Constant (.int i) j pos) (fC (.int i)):=PE.imp pe_int fun σ H Q ⟨O,ρ,d,r,e,k⟩=>by cases e;exact k _ H (Zg.refl _) rfl
theorem ev_bl {i j}:EV X (.Constant (.bool i) j pos) (fC (.bl i)):=PE.imp pe_bl fun σ H Q ⟨O,ρ,d,r,e,k⟩=>by cases e;exact k _ H (Zg.refl _) rfl
theorem ev_gint {x:Str} {i:Int} (hm:∃ t,X.mg x=some (.int i t)) (hg:Gl X x:=by rfl) (hd:(x == ("__debug__":Str))=false:=by decide):EV X (.Name x pos) (fC (.int i)):=by
  obtain ⟨t,hm⟩:=hm
  exact PE.imp (pe_glob (v:=.int i) hg hm ⟨t,rfl⟩ hd) fun σ H Q ⟨O,ρ,d,r,e,k⟩=>by cases e;exact k _ H (Zg.refl _) rfl
def rD (K:PySem.W.Frag) (o:D->D->Option D):R2:=fun x y H Q=>∃ O dx dy d,YR O H/\Xe K (ZK O H) dx x/\Xe K (ZK O H) dy y/\o dx dy=some d/\∀ v H',Zg H H'->Xe K (ZK O H') d v->Q v H'
def OpD (X:Cx) (f:Value->Value->Sem Value) (o:D->D->Option D):Prop:=OpR X f (rD X.K o)
theorem OpD.of {f:Value->Value->Sem Value} {o:D->D->Option D} {r:R2} (h:OpR X f r) (k:∀ x y H Q,rD X.K o x y H Q->r x y H Q):OpD X f o:=fun pins s σ H x y v u Q I rx ry q=>h pins s σ H x y v u Q I rx ry (k x y H Q q)
theorem two_of {o:D->D->Option D} {r:R2} (k:∀ x y H Q,rD X.K o x y H Q->r x y H Q) {σ:St} {H:Hp} {Q:VK} (h:tD X.K (f2 o fa fb) σ H Q):tOp r (tD X.K fa) (tD X.K fb) σ H Q:=by
  obtain ⟨O,ρ,d,rv,e,q⟩:=h
  obtain ⟨x,e1,e⟩:=bind_some e
  obtain ⟨y,e2,e⟩:=bind_some e
  refine ⟨O,ρ,x,rv,e1,fun v H1 s1 r1=>?_⟩
  have rv1:=rv.mono s1
  refine ⟨O,ρ,y,rv1,e2,fun u H2 s2 r2=>k _ _ _ _ ⟨O,x,y,d,rv1.th.mono s2,Xe.mono (ZH s2) x v r1,r2,e,fun w H3 s3 r3=>q w H3 (Zg.trans (Zg.trans s1 s2) s3) r3⟩⟩
theorem Zw {op:Operator} {o:D->D->Option D} (ho:OpD X (binaryOp op) o) (ha:EV X a fa) (hb:EV X b fb):EV X (.BinOp a op b pos) (f2 o fa fb):=PE.imp (pe_op ho ha hb) fun _ _ _ h=>two_of (fun _ _ _ _ z=>z) h
theorem ev_cmp {op:CmpOp} {o:D->D->Option D} (ho:OpD X (compareOp op) o) (ha:EV X a fa) (hb:EV X b fb) (hm:behindInMarks op b=false:=by first | exact nomark _ | with_unfolding_all rfl):EV X (.Compare a [op] [b] pos) (f2 o fa fb) :=
  PE.imp (pe_cmpR ho ha hb hm) fun _ _ _ h=>two_of (fun _ _ _ _ z=>z) h
theorem YX {op:CmpOp} {o:D->D->Option D} (ho:OpD X (compareOp op) o) (ha:EV X a fa) (hb:EV X b fb) (hm:behindInMarks op b=false:=by first | exact nomark _ | with_unfolding_all rfl):TV X (.Compare a [op] [b] pos) (gB (f2 o fa fb)) :=
  PT.imp (pt_cmpR ho ha hb hm) fun σ H Q ⟨O,ρ,k,rv,e,q⟩=>by
    obtain ⟨x,e1,e⟩:=bind_some e
    refine two_of (fun _ _ _ _ z=>z) ⟨O,ρ,x,rv,e1,fun v H' s r=>?_⟩
    cases x with
    | bl z=>cases e;exact ⟨_,r,q H' s⟩
    | _=>cases e
def Xw (o o':D->D->Option D) (fa fb fc:FE):FE:=fun ρ=>(fa ρ).bind fun x=>(fb ρ).bind fun y=>(o x y).bind fun r=>match r with | .bl true=>(fc ρ).bind fun z=>o' y z | .bl false=>some (.bl false) | _=>none
theorem ev_chain {op op':CmpOp} {o o':D->D->Option D} {fc:FE} (ho:OpD X (compareOp op) o) (ho':OpD X (compareOp op') o') (ha:EV X a fa) (hb:EV X b fb) (hc:EV X c fc)
    (hm:lastMarks [op,op'] [b,c]=false:=by with_unfolding_all rfl) :
    EV X (.Compare a [op,op'] [b,c] pos) (Xw o o' fa fb fc) :=
  PE.imp (pe_chain ho ho' ha hb hc hm) fun σ H Q ⟨O,ρ,d,rv,e,q⟩=>by
    obtain ⟨x,e1,e⟩:=bind_some e
    obtain ⟨y,e2,e⟩:=bind_some e
    obtain ⟨r,e3,e⟩:=bind_some e
    refine ⟨O,ρ,x,rv,e1,fun v H1 s1 r1=>?_⟩
    have rv1:=rv.mono s1
    refine ⟨O,ρ,y,rv1,e2,fun u H2 s2 r2=>?_⟩
    have rv2:=rv1.mono s2
    refine ⟨O,x,y,r,rv2.th,Xe.mono (ZH s2) x v r1,r2,e3,fun w H3 s3 r3=>?_⟩
    cases r with
    | bl k =>
      have:w=.bl k:=r3
      subst this
      refine ⟨k,rfl,?_⟩
      cases k with
      | true =>
        rw [if_pos rfl]
        obtain ⟨z,e4,e⟩:=bind_some e
        have rv3:=rv2.mono s3
        refine ⟨O,ρ,z,rv3,e4,fun w' H4 s4 r4=>⟨O,y,z,d,rv3.th.mono s4,Xe.mono (ZH (Zg.trans s3 s4)) y u r2,r4,e,fun w2 H5 s5 r5=>q w2 H5 (Zg.trans (Zg.trans (Zg.trans (Zg.trans s1 s2) s3) s4) s5) r5⟩⟩
      | false =>
        rw [if_neg Bool.false_ne_true]
        cases e
        exact q _ H3 (Zg.trans (Zg.trans s1 s2) s3) rfl
    | _=>cases e
theorem ev_one {op} (h:EV X a fa):EV X (.BoolOp op [a] pos) fa:=pe_one h
theorem ev_and {XX:List Expr} (ha:EV X a fa) (hb:EV X (.BoolOp .And (b::XX) pos) fb):EV X (.BoolOp .And (a::b::XX) pos) (WT fa fb):=PE.imp (pe_and ha hb) fun σ H Q ⟨O,ρ,d,rv,e,q⟩=>by
  obtain ⟨x,e1,e⟩:=bind_some e
  refine ⟨O,ρ,x,rv,e1,fun v H1 s1 r1=>?_⟩
  cases x with
  | bl k =>
    have:v=.bl k:=r1
    subst this
    refine ⟨k,rfl,?_⟩
    cases k with
    | true=>rw [if_pos rfl];exact ⟨O,ρ,d,rv.mono s1,e,fun w H2 s2 r2=>q w H2 (Zg.trans s1 s2) r2⟩
    | false=>rw [if_neg Bool.false_ne_true];cases e;exact q _ H1 s1 rfl
  | _=>cases e
theorem ev_not (ha:EV X a fa):EV X (.UnaryOp .Not a pos) (fNot fa):=PE.imp (pe_not ha) fun σ H Q ⟨O,ρ,d,rv,e,q⟩=>by
  obtain ⟨x,e1,e⟩:=bind_some e
  refine ⟨O,ρ,x,rv,e1,fun v H1 s1 r1=>?_⟩
  cases x with
  | bl k =>
    have:v=.bl k:=r1
    subst this
    cases e
    exact ⟨k,rfl,q _ H1 s1 rfl⟩
  | _=>cases e
theorem ev_if {c:Expr} {gc:FT} (hc:TV X c gc) (ha:EV X a fa) (hb:EV X b fb):EV X (.IfExp c a b pos) (fIf gc fa fb):=PE.imp (pe_ifExp hc ha hb) fun σ H Q ⟨O,ρ,d,rv,e,q⟩=>by
  obtain ⟨k,e1,e⟩:=bind_some e
  refine ⟨O,ρ,k,rv,e1,fun H1 s1=>?_⟩
  cases k with
  | true=>rw [if_pos rfl] at e ⊢;exact ⟨O,ρ,d,rv.mono s1,e,fun w H2 s2 r2=>q w H2 (Zg.trans s1 s2) r2⟩
  | false=>rw [if_neg Bool.false_ne_true] at e ⊢;exact ⟨O,ρ,d,rv.mono s1,e,fun w H2 s2 r2=>q w H2 (Zg.trans s1 s2) r2⟩
def WV (X:Cx) (e:Expr) (f:FT):Prop:=PW X e (tT X.K f)
theorem PW.imp {e:Expr} {t t':TT} (h:PW X e t) (k:∀ σ H Q,t' σ H Q->t σ H Q):PW X e t':=fun wh pins s σ H Q I hw=>h wh pins s σ H Q I (k σ H Q hw)
theorem WV.tv {e:Expr} {f:FT} (h:WV X e f):TV X e f:=PW.pt h
variable {ga gb:FT} {XX:List Expr}
theorem wv_and1 (ha:TV X a ga):WV X (.BoolOp .And [a] pos) ga:=pw_and1 ha
theorem wv_or1 (ha:TV X a ga):WV X (.BoolOp .Or [a] pos) ga:=pw_or1 ha
theorem wv_and (ha:TV X a ga) (hb:WV X (.BoolOp .And (b::XX) pos) gb):WV X (.BoolOp .And (a::b::XX) pos) (WJ ga gb):=PW.imp (pw_and ha hb) fun σ H Q ⟨O,ρ,d,rv,e,q⟩=>by
  obtain ⟨k,e1,e⟩:=bind_some e
  refine ⟨O,ρ,k,rv,e1,fun H1 s1=>?_⟩
  cases k with
  | true=>rw [if_pos rfl] at e ⊢;exact ⟨O,ρ,d,rv.mono s1,e,fun H2 s2=>q H2 (Zg.trans s1 s2)⟩
  | false=>rw [if_neg Bool.false_ne_true] at e ⊢;cases e;exact q H1 s1
theorem wv_or (ha:TV X a ga) (hb:WV X (.BoolOp .Or (b::XX) pos) gb):WV X (.BoolOp .Or (a::b::XX) pos) (gOr ga gb):=PW.imp (pw_or ha hb) fun σ H Q ⟨O,ρ,d,rv,e,q⟩=>by
  obtain ⟨k,e1,e⟩:=bind_some e
  refine ⟨O,ρ,k,rv,e1,fun H1 s1=>?_⟩
  cases k with
  | false=>rw [if_neg Bool.false_ne_true] at e ⊢;exact ⟨O,ρ,d,rv.mono s1,e,fun H2 s2=>q H2 (Zg.trans s1 s2)⟩
  | true=>rw [if_pos rfl] at e ⊢;cases e;exact q H1 s1
theorem Ws (ha:TV X a ga):TV X (.UnaryOp .Not a pos) (XR ga):=PT.imp (pt_not ha) fun σ H Q ⟨O,ρ,d,rv,e,q⟩=>by
  obtain ⟨k,e1,e⟩:=bind_some e
  cases e
  exact ⟨O,ρ,k,rv,e1,fun H1 s1=>q H1 s1⟩
theorem tru_of {H:Hp} {d:D} {v:V} {k:Bool} {O:List Addr} (r:Xe X.K (ZK O H) d v) (e:truD d=some k):TruV X.K v H k:=by
  cases d with
  | non=>cases e;rw [show v=_ from r];rfl
  | bl b=>cases e;rw [show v=_ from r];rfl
  | int i=>cases e;rw [show v=_ from r];rfl
  | str x=>cases e
  | tup ds =>
    obtain ⟨a,vs,rfl,h,r⟩:=r
    cases e
    refine .inr (.inl ⟨vs,Wy.of (Zh _ _ h),?_⟩)
    have:=r.length
    cases ds <;> cases vs <;> first | rfl | simp at this
  | lst ds =>
    obtain ⟨a,vs,rfl,h,r⟩:=r
    cases e
    refine .inl ⟨vs,Wa.of (Zh _ _ h),?_⟩
    have:=r.length
    cases ds <;> cases vs <;> first | rfl | simp at this
  | scr ns=>cases e
  | dcK ks ds=>cases e
  | dcT ks ds=>cases e
  | dcF ks ds=>cases e
theorem X3 (ha:EV X a fa) (he:∀ whole,isTrue a X.env whole=(do let v <- whole;standAt a.pos;holding [v] (truthy v)):=by intro _;rfl):TV X a (Xq fa):=PT.imp (pt_truth ha he) fun σ H Q ⟨O,ρ,k,rv,e,q⟩=>by
  obtain ⟨x,e1,e⟩:=bind_some e
  exact ⟨O,ρ,x,rv,e1,fun v H1 s1 r1=>⟨k,tru_of r1 e,q H1 s1⟩⟩
theorem Ze:AV X [] fN:=PA.imp pa_nil fun σ H Q ⟨O,ρ,ds,rv,e,q⟩=>by cases e;exact q [] H (Zg.refl _) rfl
theorem Zd {es:List Expr} {fr:FA} (ha:EV X a fa) (hr:AV X es fr) (hs:starEach (a::es) X.env=(false,eval a X.env)::starEach es X.env:=by rfl):AV X (a::es) (Zc fa fr) :=
  PA.imp (WE ha hr hs) fun σ H Q ⟨O,ρ,ds,rv,e,q⟩=>by
    obtain ⟨x,e1,e⟩:=bind_some e
    obtain ⟨xs,e2,e⟩:=bind_some e
    cases e
    refine ⟨O,ρ,x,rv,e1,fun v H1 s1 r1=>⟨O,ρ,xs,rv.mono s1,e2,fun vs H2 s2 r2=>q (v::vs) H2 (Zg.trans s1 s2) ⟨v,vs,rfl,Xe.mono (ZH s2) x v r1,r2⟩⟩⟩
def Xi:Nat:=65536
theorem XA {n:Nat} (h:n<=Xi):n<=sizeLine:=by
  have:sizeLine=16777216:=sizeLine_eq
  unfold Xi at h
  omega
def Yn (ds:List D):Option D:=if ds.length<=Xi then some (.tup ds) else none
def Xg (ds:List D):Option D:=if ds.length<=Xi then some (.lst ds) else none
theorem mkTup_some {ds:List D} {d:D} (h:Yn ds=some d):d=.tup ds/\ds.length<=sizeLine:=by
  unfold Yn at h
  split at h
  · rename_i hl;cases h;exact ⟨rfl,XA hl⟩
  · cases h
theorem mkLst_some {ds:List D} {d:D} (h:Xg ds=some d):d=.lst ds/\ds.length<=sizeLine:=by
  unfold Xg at h
  split at h
  · rename_i hl;cases h;exact ⟨rfl,XA hl⟩
  · cases h
theorem Y5 {K:PySem.W.Frag} {O:List Addr} {H:Hp} {p:Addr} {ds:List D} {vs:List V} (th:YR O H) (hp:H p=none) (r:Zs K (ZK O H) ds vs):Xe K (ZK O (YV H p (.tup vs))) (.tup ds) (.ref p) :=
  ⟨p,vs,rfl,(by rw [Zv (th.fresh hp),Z1]),Zs.mono (ZH (Zg.new hp)) ds vs r⟩
theorem YD {K:PySem.W.Frag} {O:List Addr} {H:Hp} {p:Addr} {ds:List D} {vs:List V} (th:YR O H) (hp:H p=none) (r:Zs K (ZK O H) ds vs):Xe K (ZK O (YV H p (.lst vs))) (.lst ds) (.ref p) :=
  ⟨p,vs,rfl,(by rw [Zv (th.fresh hp),Z1]),Zs.mono (ZH (Zg.new hp)) ds vs r⟩
theorem WU {es:List Expr} {f:FA} {x1} (h:AV X es f):EV X (.Tuple es x1 pos) (fL Yn f):=PE.imp (pe_tup h) fun σ H Q ⟨O,ρ,d,rv,e,q⟩=>by
  obtain ⟨ds,e1,e⟩:=bind_some e
  obtain ⟨rfl,hl⟩:=mkTup_some e
  refine ⟨O,ρ,ds,rv,e1,fun vs H1 s1 r1=>⟨by rw [r1.length];exact hl,fun p hp=>q _ _ (Zg.trans s1 (Zg.new hp)) (Y5 (rv.th.mono s1) hp r1)⟩⟩
theorem ev_lst {es:List Expr} {f:FA} (h:AV X es f):EV X (.List es pos) (fL Xg f):=PE.imp (pe_lst h) fun σ H Q ⟨O,ρ,d,rv,e,q⟩=>by
  obtain ⟨ds,e1,e⟩:=bind_some e
  obtain ⟨rfl,hl⟩:=mkLst_some e
  refine ⟨O,ρ,ds,rv,e1,fun vs H1 s1 r1=>⟨by rw [r1.length];exact hl,fun p hp=>q _ _ (Zg.trans s1 (Zg.new hp)) (YD (rv.th.mono s1) hp r1)⟩⟩
def spD (K:PySem.W.Frag) (G:List D->Option D):Sp:=fun vs H Q _=>∃ O ds d,YR O H/\Zs K (ZK O H) ds vs/\G ds=some d/\∀ v H',Zg H H'->Xe K (ZK O H') d v->Q v H'
theorem ev_call {k:Nat} {f:Addr} {fd:FuncData} {ps:List Str} {G:List D->Option D} {x:Str} {p:Pos} {e:Expr} {es:List Expr} {fa:FA} (F:VH X.prog X.w X.K X.mg X.base CX0 k f fd ps (spD X.K G)) (hr:Wq k X.A)
    (hm:X.mg x=some (.ref f)) (hk:PySem.W.keepIn X.K (.ref f)=true) (hb:Binds X.K fd ps []) (ha:AV X (e::es) fa)
    (hg:Gl X x:=by rfl) (hdb:(x == ("__debug__":Str))=false:=by decide) (he:starEach (e::es) X.env=(false,eval e X.env)::starEach es X.env:=by rfl) (hpl:(backTo pos (starEach es X.env)).any (·.1)=false:=by rfl) :
    EV X (.Call (.Name x p) (e::es) [] pos) (fL G fa):=PE.imp (pe_call (dvs:=[]) F hr hg hm hk hb .nil pass0 ha hdb he hpl) fun σ H Q ⟨O,ρ,d,rv,e1,q⟩=>by
  obtain ⟨ds,e2,e1⟩:=bind_some e1
  refine ⟨O,ρ,ds,rv,e2,fun vs H1 s1 r1=>?_⟩
  show spD X.K G (vs++[]) H1 Q E0
  rw [List.append_nil]
  exact ⟨O,ds,d,rv.th.mono s1,r1,e1,fun v H2 s2 r2=>q v H2 (Zg.trans s1 s2) r2⟩
def rDs (K:PySem.W.Frag) (o:List D->Option D):List V->Hp->VK->Prop:=fun xs H Q=>∃ O ds d,YR O H/\Zs K (ZK O H) ds xs/\o ds=some d/\∀ v H',Zg H H'->Xe K (ZK O H') d v->Q v H'
def Xy (X:Cx) (f:Value) (o:List D->Option D):Prop:=X2 X f (rDs X.K o)
theorem Xy.of {f:Value} {o:List D->Option D} {r:List V->Hp->VK->Prop} (h:X2 X f r) (k:∀ xs H Q,rDs X.K o xs H Q->r xs H Q):Xy X f o:=fun pins s σ H xs us Q I rs q=>h pins s σ H xs us Q I rs (k xs H Q q)
theorem ZR {id:String} {o:List D->Option D} {x:Str} {p:Pos} {e:Expr} {es:List Expr} {fa:FA} (hc:Xy X (.builtin id) o) (hm:X.mg x=none) (hv:bootBuiltins x=some (.builtin id)) (ha:AV X (e::es) fa)
    (hg:Gl X x:=by rfl) (hn:x≠"__name__":=by decide) (hdb:(x == ("__debug__":Str))=false:=by decide)
    (he:starEach (e::es) X.env=(false,eval e X.env)::starEach es X.env:=by rfl) (hpl:(backTo pos (starEach es X.env)).any (·.1)=false:=by rfl):EV X (.Call (.Name x p) (e::es) [] pos) (fL o fa) :=
  PE.imp (pe_callB hc hg hm hv ha hn hdb he hpl) fun σ H Q ⟨O,ρ,d,rv,e1,q⟩=>by
    obtain ⟨ds,e2,e1⟩:=bind_some e1
    exact ⟨O,ρ,ds,rv,e2,fun vs H1 s1 r1=>⟨O,ds,d,rv.th.mono s1,r1,e1,fun v H2 s2 r2=>q v H2 (Zg.trans s1 s2) r2⟩⟩
theorem X8 {T:String} {o:List D->Option D} {x:Str} {p:Pos} {e:Expr} {es:List Expr} {fa:FA} (hc:Xy X (.type T) o) (hm:X.mg x=none) (hv:bootBuiltins x=some (.type T)) (ha:AV X (e::es) fa)
    (hg:Gl X x:=by rfl) (hn:x≠"__name__":=by decide) (hdb:(x == ("__debug__":Str))=false:=by decide)
    (he:starEach (e::es) X.env=(false,eval e X.env)::starEach es X.env:=by rfl) (hpl:(backTo pos (starEach es X.env)).any (·.1)=false:=by rfl):EV X (.Call (.Name x p) (e::es) [] pos) (fL o fa) :=
  PE.imp (pe_callTy hc hg hm hv ha hn hdb he hpl) fun σ H Q ⟨O,ρ,d,rv,e1,q⟩=>by
    obtain ⟨ds,e2,e1⟩:=bind_some e1
    exact ⟨O,ρ,ds,rv,e2,fun vs H1 s1 r1=>⟨O,ds,d,rv.th.mono s1,r1,e1,fun v H2 s2 r2=>q v H2 (Zg.trans s1 s2) r2⟩⟩
end
end L2

namespace L2
open PySem PySem.Spec PyProof.Rows
abbrev FG:=D->Option (List (Nat×D))
def setS (σ:St):List (Nat×D)->List V->St
  | w::ws,v::vs=>setS (σ.set w.1 (some v)) ws vs
  | _,_=>σ
def XM (ρ:Wp):List (Nat×D)->Wp
  | w::ws=>XM (ρ.set w.1 (some w.2)) ws
  | []=>ρ
def Xr (ρ:Y1):List (Nat×D)->Y1
  | w::ws=>Xr (ρ.set w.1 (some (.val w.2))) ws
  | []=>ρ
def tG (K:PySem.W.Frag) (t:FG):TG:=fun v σ H Q=>∃ O d ws,YR O H/\Xe K (ZK O H) d v/\t d=some ws/\∀ vs,Zs K (ZK O H) (ws.map (·.2)) vs->Q (setS σ ws vs) H
def GV (X:Cx) (tg:Expr) (t:FG):Prop:=PG X tg (tG X.K t)
theorem PG.imp {X:Cx} {e:Expr} {t t':TG} (h:PG X e t) (k:∀ v σ H Q,t' v σ H Q->t v σ H Q):PG X e t':=fun pins s σ H v u Q I r hw=>h pins s σ H v u Q I r (k v σ H Q hw)
def gN (i:Nat):FG:=fun d=>some [(i,d)]
def gT (ix:List Nat):FG:=fun d=>match d with
  | .tup ds=>if ds.length=ix.length then some (ix.zip ds) else none
  | _=>none
def gNames:List Nat->TGs
  | []=>gNil
  | i::ix=>gCons (gName i) (gNames ix)
section
variable {X:Cx} {pos:Pos}
theorem ZT {i:Nat} {x:Str} (hN:X.N.Nodup) (hi:X.N[i]?=some x:=by rfl) (hx:Loc X.env.scope x:=by first | exact Or.inl rfl | exact Or.inr rfl) (hf:X.fn x=true\/X.env.scope.names.lookup x=some .local:=by first | exact .inl rfl | exact .inr rfl):GV X (.Name x pos) (gN i) :=
  PG.imp (pg_name hN hi hx hf) fun v σ H Q ⟨O,d,ws,th,r,e,q⟩=>by
    cases e
    exact q [v] (Zs.one r)
theorem gNames_of:∀ (ix:List Nat) (ds:List D) (vs:List V) {K:PySem.W.Frag} {H:Hp} (σ:St) (H':Hp) (Q:St->Hp->Prop),ds.length=ix.length->Zs K H ds vs->Q (setS σ (ix.zip ds) vs) H'->gNames ix vs σ H' Q
  | [],[],_,_,_,σ,H',Q,_,r,q=>by
    have:_=[]:=r
    subst this
    exact ⟨rfl,q⟩
  | i::ix,d::ds,_,_,_,σ,H',Q,hl,⟨v,vr,e,_,t⟩,q=>by
    subst e
    exact ⟨v,vr,rfl,gNames_of ix ds vr _ H' Q (by simpa using hl) t q⟩
  | [],_::_,_,_,_,_,_,_,hl,_,_=>by simp at hl
  | _::_,[],_,_,_,_,_,_,hl,_,_=>by simp at hl
theorem zip_snd {α β:Type}:∀ (xs:List α) (ys:List β),ys.length=xs.length->(xs.zip ys).map (·.2)=ys
  | [],[],_=>rfl
  | _::xs,y::ys,h=>by rw [List.zip_cons_cons,List.map_cons,zip_snd xs ys (by simpa using h)]
  | [],_::_,h=>by simp at h
  | _::_,[],h=>by simp at h
theorem VD {es:List Expr} {k:Nat} {ix:List Nat} (hc:X.calm=true) (h:PGs X es (gNames ix)) (hn:(assignEach es X.env).length=ix.length:=by rfl) (hst:(assignEach es X.env).findIdx? (·.1)=none:=by rfl):GV X (.Tuple es k pos) (gT ix) :=
  PG.imp (pg_tup hc h hn hst) fun v σ H Q ⟨O,d,ws,th,r,e,q⟩=>by
    cases d with
    | tup ds =>
      have e:(if ds.length=ix.length then some (ix.zip ds) else none)=some ws:=e
      split at e
      · rename_i hl
        cases e
        obtain ⟨a,vs,rfl,ht,rs⟩:=r
        refine ⟨a,vs,rfl,Wy.of (Zh _ _ ht),by rw [rs.length];exact hl,gNames_of ix ds vs σ H Q hl rs (q vs ?_)⟩
        rw [zip_snd ix ds hl];exact rs
      · cases e
    | _=>cases e
end
def Walk (K:PySem.W.Frag) (O:List Addr) (Hb:Hp) (J:It) (ds:List D):Prop:=∀ H O',Zg (ZK O Hb) (ZK O' H)->YR O' H->∀ i,
  (∀ d,ds[i]?=some d->J.go i H/\∀ x H',J.yld i H x H'->Zg H H'/\Xe K (ZK O' H') d x)/\(ds.length<=i->J.stop i H)
def WalkA (K:PySem.W.Frag) (J:It) (ds:List D):Prop:=∀ H O',YR O' H->∀ i,
  (∀ d,ds[i]?=some d->J.go i H/\∀ x H',J.yld i H x H'->Zg H H'/\Xe K (ZK O' H') d x)/\(ds.length<=i->J.stop i H)
def tI (K:PySem.W.Frag) (f:FA):TI:=fun σ H R=>∃ O ρ ds,RV K O H ρ σ/\f ρ=some ds/\∀ J H',Zg H H'->Walk K O H' J ds->R J H'
def tIA (K:PySem.W.Frag) (f:FA):TI:=fun σ H R=>∃ O ρ ds,RV K O H ρ σ/\f ρ=some ds/\∀ J H',Zg H H'->WalkA K J ds->R J H'
def IV (X:Cx) (tg e:Expr) (f:FA):Prop:=PI X tg e (tI X.K f)
def IVA (X:Cx) (tg e:Expr) (f:FA):Prop:=PI X tg e (tIA X.K f)
theorem PI.imp {X:Cx} {tg e:Expr} {t t':TI} (h:PI X tg e t) (k:∀ σ H R,t' σ H R->t σ H R):PI X tg e t':=fun pins s σ H R I hw=>h pins s σ H R I (k σ H R hw)
theorem PI.or {X:Cx} {tg e:Expr} {t t':TI} (h:PI X tg e t) (h':PI X tg e t'):PI X tg e (fun σ H R=>t σ H R\/t' σ H R):=fun pins s σ H R I hw=>hw.elim (h pins s σ H R I) (h' pins s σ H R I)
theorem IVA.iv {X:Cx} {tg e:Expr} {f:FA} (h:IVA X tg e f):IV X tg e f:=PI.imp h fun σ H R ⟨O,ρ,ds,rv,e,q⟩=>⟨O,ρ,ds,rv,e,fun J H' s w=>q J H' s fun H2 O' _ th i=>w H2 O' th i⟩
def W8:D->Option (List D)
  | .lst ds=>some ds
  | .tup ds=>some ds
  | .scr ns=>some (ns.map .int)
  | _=>none
def Zq (a:FE):FA:=fun ρ=>(a ρ).bind W8
section
variable {X:Cx} {tg e:Expr}
theorem walk_tup {K:PySem.W.Frag} {O:List Addr} {H:Hp} {a:Addr} {ds:List D} {vs:List V} (h:Wy K (ZK O H) a vs) (r:Zs K (ZK O H) ds vs):Walk K O H (Itt K a) ds:=by
  intro H2 O' s th i
  have h2:Wy K H2 a vs:=Zg.seqT Zh (Zg.seqT s h)
  refine ⟨fun d e=>?_,fun hl=>⟨vs,h2,by rw [r.length];exact hl⟩⟩
  obtain ⟨v,e1,e2⟩:=r.get e
  refine ⟨⟨vs,v,h2,e1⟩,fun x H3 ⟨eh,q⟩=>?_⟩
  subst eh
  have:=q vs h2
  rw [e1] at this
  cases this
  exact ⟨(Zg.refl _),Xe.mono s d _ e2⟩
theorem walk_lst {K:PySem.W.Frag} {O:List Addr} {H:Hp} {a:Addr} {ds:List D} {vs:List V} (h:Wa K (ZK O H) a vs) (r:Zs K (ZK O H) ds vs):Walk K O H (Itl K a) ds:=by
  intro H2 O' s th i
  have h2:Wa K H2 a vs:=Zg.seq Zh (Zg.seq s h)
  refine ⟨fun d e=>?_,fun hl=>⟨vs,h2,by rw [r.length];exact hl⟩⟩
  obtain ⟨v,e1,e2⟩:=r.get e
  refine ⟨⟨vs,v,h2,e1⟩,fun x H3 ⟨eh,q⟩=>?_⟩
  subst eh
  have:=q vs h2
  rw [e1] at this
  cases this
  exact ⟨(Zg.refl _),Xe.mono s d _ e2⟩
theorem Yz {fa:FE} (h:EV X e fa):IV X tg e (Zq fa):=PI.imp (PI.or (pi_list (tg:=tg) h) (pi_tup (tg:=tg) h)) fun σ H R ⟨O,ρ,ds,rv,e,q⟩=>by
  obtain ⟨x,e1,e2⟩:=bind_some e
  cases x with
  | lst es =>
    cases e2
    refine .inl ⟨O,ρ,_,rv,e1,fun v H1 s1 ⟨a,vs,ev,hv,r⟩=>⟨a,ev,⟨vs,Wa.of (Zh _ _ hv)⟩,q _ H1 s1 (walk_lst (Wa.of hv) r)⟩⟩
  | scr ns =>
    cases e2
    refine .inl ⟨O,ρ,_,rv,e1,fun v H1 s1 ⟨a,ev,hv⟩=>⟨a,ev,⟨_,Zg.seq Zh hv⟩,q _ H1 s1 (walk_lst hv (WM ns))⟩⟩
  | tup es =>
    cases e2
    refine .inr ⟨O,ρ,_,rv,e1,fun v H1 s1 ⟨a,vs,ev,hv,r⟩=>⟨a,ev,⟨vs,Wy.of (Zh _ _ hv)⟩,q _ H1 s1 (walk_tup (Wy.of hv) r)⟩⟩
  | _=>cases e2
end
end L2

namespace L2
open PySem PySem.Spec PyProof.Rows
def Wu (lo:Int) (n:Nat):List D:=(List.range n).map fun (k:Nat)=>D.int (lo+(k:Int))
noncomputable def Xh:List D->Option (List D)
  | [.int j]=>@ite _ (-(2 ^ 62)<=j/\j < 2 ^ 62) (Classical.propDecidable _) (some (Wu 0 j.toNat)) none
  | _=>none
noncomputable def rng2:List D->Option (List D)
  | [.int i,.int j]=>@ite _ ((-(2 ^ 62)<=i/\i < 2 ^ 62)/\-(2 ^ 62)<=j/\j < 2 ^ 62) (Classical.propDecidable _) (some (Wu i (j - i).toNat)) none
  | _=>none
def fR (r:List D->Option (List D)) (a:FA):FA:=fun ρ=>(a ρ).bind r
theorem rangeD_get {lo:Int} {n i:Nat} {d:D} (h:(Wu lo n)[i]?=some d):i < n/\d=.int (lo+(i:Int)):=by
  unfold Wu at h
  rw [List.getElem?_map] at h
  by_cases hi:i < n
  · rw [List.getElem?_range hi] at h
    exact ⟨hi,by cases h;rfl⟩
  · rw [List.getElem?_eq_none (by simpa using hi)] at h
    cases h
theorem rangeD_len {lo:Int} {n:Nat}:(Wu lo n).length=n:=by simp [Wu]
theorem walk_rng {K:PySem.W.Frag} {lo:Int} {n:Nat}:WalkA K (Itr lo n) (Wu lo n):=by
  intro H O' th i
  refine ⟨fun d e=>?_,fun hl=>by rw [rangeD_len] at hl;exact hl⟩
  obtain ⟨hi,rfl⟩:=rangeD_get e
  refine ⟨hi,fun x H3 ⟨eh,q⟩=>?_⟩
  subst eh
  exact ⟨(Zg.refl _),q⟩
section
variable {X:Cx} {tg a b:Expr} {p pos:Pos} {fa:FA}
theorem YN (hm:X.mg "range"=none) (ha:AV X [a] fa) (hg:Gl X "range":=by rfl) (hs:starEach [a] X.env=[(false,eval a X.env)]:=by rfl):IVA X tg (.Call (.Name "range" p) [a] [] pos) (fR Xh fa) :=
  PI.imp (pi_range1 hg hm ha hs) fun σ H R ⟨O,ρ,ds,rv,e,q⟩=>by
    obtain ⟨xs,e1,e2⟩:=bind_some e
    refine ⟨O,ρ,xs,rv,e1,fun vs H1 s1 r=>?_⟩
    unfold Xh at e2
    split at e2
    · rename_i j
      split at e2
      · rename_i hj
        cases e2
        obtain ⟨v,vr,rfl,hv,ht⟩:=r
        have h1:v=.int j:=hv
        have h2:vr=[]:=ht
        subst h1;subst h2
        exact ⟨j,rfl,hj.1,hj.2,q _ H1 s1 walk_rng⟩
      · cases e2
    · cases e2
theorem iv_range2 (hm:X.mg "range"=none) (ha:AV X [a,b] fa) (hg:Gl X "range":=by rfl) (hs:starEach [a,b] X.env=[(false,eval a X.env),(false,eval b X.env)]:=by rfl) (hs2:starEach [b] X.env=[(false,eval b X.env)]:=by rfl) :
    IVA X tg (.Call (.Name "range" p) [a,b] [] pos) (fR rng2 fa) :=
  PI.imp (pi_range2 hg hm ha hs hs2) fun σ H R ⟨O,ρ,ds,rv,e,q⟩=>by
    obtain ⟨xs,e1,e2⟩:=bind_some e
    refine ⟨O,ρ,xs,rv,e1,fun vs H1 s1 r=>?_⟩
    unfold rng2 at e2
    split at e2
    · rename_i i j
      split at e2
      · rename_i hj
        cases e2
        obtain ⟨v,vr,rfl,hv,w,wr,rfl,hw,ht⟩:=r
        have h1:v=.int i:=hv
        have h2:w=.int j:=hw
        have h3:wr=[]:=ht
        subst h1;subst h2;subst h3
        exact ⟨i,j,rfl,⟨hj.1.1,hj.1.2,hj.2.1,hj.2.2⟩,q _ H1 s1 walk_rng⟩
      · cases e2
    · cases e2
end
def compD (t:FG) (gt:FT) (fe:FE) (ρ:Wp):List D->Option (List D)
  | []=>some []
  | d::ds=>(t d).bind fun ws=>(gt (XM ρ ws)).bind fun k=>if k=true then (fe (XM ρ ws)).bind fun y=>(compD t gt fe ρ ds).bind fun ys=>some (y::ys) else compD t gt fe ρ ds
def env0 (n:Nat) (ix:List Nat) (ρ:Wp):Wp:=List.replicate n none++ix.map fun i=>(ρ[i]?).getD none
def Z8 (n:Nat) (ix:List Nat) (fi:FA) (t:FG) (gt:FT) (fe:FE):FE:=fun ρ=>(fi ρ).bind fun ds=>if ds.length<=Xi then (compD t gt fe (env0 n ix ρ) ds).bind fun ys=>some (.lst ys) else none
def Y3:FT:=fun _=>some true
def TVs (X:Cx) (ifs:List Expr) (g:FT):Prop:=PTs X ifs (tT X.K g)
theorem Yj {X:Cx}:TVs X [] Y3:=fun pins s σ H Q I ⟨O,ρ,b,rv,e,q⟩=>by
  cases e
  exact pts_nil pins s σ H Q I (q H (Zg.refl _))
theorem tvs_one {X:Cx} {c:Expr} {g:FT} (h:TV X c g):TVs X [c] g:=pts_one h
theorem get_set_eq {α:Type} {l:List (Option α)} {i:Nat} {x y:α} (h:(l.set i (some x))[i]?=some (some y)):x=y:=by
  rw [List.getElem?_set] at h
  split at h
  · split at h
    · cases h;rfl
    · cases h
  · rename_i hn;exact absurd rfl hn
theorem get_set_ne {α:Type} {l:List (Option α)} {i j:Nat} {x y:α} (hn:i≠j) (h:(l.set i (some x))[j]?=some (some y)):l[j]?=some (some y):=by
  rwa [List.getElem?_set_ne hn] at h
theorem RV.set1 {K:PySem.W.Frag} {O:List Addr} {H:Hp} {ρ:Wp} {σ:St} {i:Nat} {d:D} {v:V} (r:RV K O H ρ σ) (hl:ρ.length=σ.length) (h:Xe K (ZK O H) d v):RV K O H (ρ.set i (some d)) (σ.set i (some v)) :=
  ⟨r.th,fun j e q=>by
    by_cases hj:i=j
    · subst hj
      have hi:i < ρ.length:=by
        have:=(List.getElem?_eq_some_iff.mp q).1
        simpa using this
      have:=get_set_eq q
      subst this
      exact ⟨v,by rw [List.getElem?_set_self (by omega)],h⟩
    · obtain ⟨w,h1,h2⟩:=r.at_ j e (get_set_ne hj q)
      exact ⟨w,by rw [List.getElem?_set_ne hj];exact h1,h2⟩⟩
theorem RV.sets {K:PySem.W.Frag} {O:List Addr} {H:Hp}:∀ (ws:List (Nat×D)) (vs:List V) {ρ:Wp} {σ:St},RV K O H ρ σ->ρ.length=σ.length->Zs K (ZK O H) (ws.map (·.2)) vs->RV K O H (XM ρ ws) (setS σ ws vs)/\(XM ρ ws).length=(setS σ ws vs).length
  | [],_,_,_,r,hl,_=>⟨r,hl⟩
  | w::ws,_,ρ,σ,r,hl,⟨v,vr,e,h,t⟩=>by
    subst e
    exact RV.sets ws vr (r.set1 hl h) (by simpa using hl) t
theorem env0_rv {K:PySem.W.Frag} {O:List Addr} {H:Hp} {n:Nat} {ix:List Nat} {ρ:Wp} {σ:St} (r:RV K O H ρ σ):RV K O H (env0 n ix ρ) (st0 n ix σ):=⟨r.th,fun i d e=>by
  unfold env0 at e
  by_cases hi:i < n
  · rw [List.getElem?_append_left (by simpa using hi),List.getElem?_replicate] at e
    split at e <;> cases e
  · rw [List.getElem?_append_right (by simpa using hi),List.getElem?_map] at e
    simp only [List.length_replicate] at e
    cases q:ix[i - n]? with
    | none=>rw [q] at e;cases e
    | some k =>
      rw [q] at e
      simp only [Option.map_some] at e
      have e':ρ[k]?=some (some d):=by
        cases w:ρ[k]? with
        | none=>rw [w] at e;cases e
        | some o=>rw [w] at e;simpa using e
      obtain ⟨v,h1,h2⟩:=r.at_ k d e'
      refine ⟨v,?_,h2⟩
      unfold st0
      rw [List.getElem?_append_right (by simpa using hi),List.getElem?_map]
      simp only [List.length_replicate,q,Option.map_some]
      rw [h1];rfl⟩
theorem RV.weak {K:PySem.W.Frag} {O:List Addr} {H:Hp} {ρ ρ':Wp} {σ:St} (r:RV K O H ρ σ) (h:∀ (i:Nat) (d:D),ρ'[i]?=some (some d)->ρ[i]?=some (some d)):RV K O H ρ' σ:=⟨r.th,fun i d e=>r.at_ i d (h i d e)⟩
theorem setV_out:∀ (ws:List (Nat×D)) {n:Nat} {ρ:Wp},(∀ w∈ws,w.1 < n)->∀ (i:Nat),n<=i->(XM ρ ws)[i]?=ρ[i]?
  | [],_,_,_,_,_=>rfl
  | w::ws,n,ρ,h,i,hi=>by
    unfold XM
    rw [setV_out ws (fun z hz=>h z (List.mem_cons_of_mem _ hz)) i hi,List.getElem?_set_ne]
    have:=h w List.mem_cons_self
    omega
def TgOk (n:Nat) (t:FG):Prop:=∀ d ws,t d=some ws->∀ w∈ws,w.1 < n
theorem XI {n i:Nat} (h:i < n):TgOk n (gN i):=fun d ws e w hw=>by
  cases e
  have:w=(i,d):=by simpa using hw
  subst this;exact h
theorem gT_ok {n:Nat} {ix:List Nat} (h:ix.all (· < n)=true):TgOk n (gT ix):=fun d ws e w hw=>by
  cases d with
  | tup ds =>
    have e:(if ds.length=ix.length then some (ix.zip ds) else none)=some ws:=e
    split at e
    · cases e
      have:=(List.of_mem_zip (show (w.1,w.2)∈_ from hw)).1
      simpa using List.all_eq_true.mp h _ this
    · cases e
  | _=>cases e
section
variable {X:Cx}
theorem comp_reads {n:Nat} {ix:List Nat} {fi:FA} {t:FG} {gt:FT} {fe:FE} (hlen:∀ {ρ:Wp},True) (hok:TgOk n t) {σ:St} {H:Hp} {Q:VK}
    (h:∃ O ρ ys,RV X.K O H ρ σ/\(∃ ds,fi ρ=some ds/\ds.length<=Xi/\compD t gt fe (env0 n ix ρ) ds=some ys)/\∀ a vs H',Zg H H'->H' a=none->Zs X.K (ZK O H') ys vs->Q (.ref a) (YV H' a (.lst vs))) :
    tComp n ix (tI X.K fi) (tG X.K t) (tT X.K gt) (tD X.K fe) σ H Q:=by
  obtain ⟨O,ρ,ys,rv,⟨ds,e1,hlim,e2⟩,q⟩:=h
  refine ⟨O,ρ,ds,rv,e1,fun J H1 s1 wk=>?_⟩
  refine ⟨fun i m us σ' H'=>m=ds.length - i/\i<=ds.length/\us.length<=i/\Zg H1 H'/\σ'.length=n+ix.length/\RV X.K O H' (env0 n ix ρ) σ' /\
    ∃ pre post,Zs X.K (ZK O H') pre us/\compD t gt fe (env0 n ix ρ) (ds.drop i)=some post/\ys=pre++post,
    ⟨ds.length,by simp,Nat.zero_le _,Nat.le_refl _,(Zg.refl _),st0_len n ix σ,env0_rv (rv.mono s1),[],ys,rfl,by simpa using e2,rfl⟩,?_⟩
  rintro i m us σ' H' ⟨rfl,hi,hu,s2,hσ,rv',pre,pst,rp,ec,ey⟩
  have wk':=wk H' O (ZH s2) rv'.th i
  by_cases hlt:i < ds.length
  · have hd:ds.drop i=ds[i]::ds.drop (i+1):=List.drop_eq_getElem_cons hlt
    have hg:ds[i]?=some ds[i]:=List.getElem?_eq_getElem hlt
    obtain ⟨go,yl⟩:=wk'.1 _ hg
    refine .inr ⟨go,?_,fun x H2 hy=>?_⟩
    · have:=XA hlim;omega
    · obtain ⟨s3,rx⟩:=yl x H2 hy
      have rv3:=rv'.mono s3
      rw [hd] at ec
      unfold compD at ec
      obtain ⟨ws,et,ec⟩:=bind_some ec
      obtain ⟨k,eg,ec⟩:=bind_some ec
      refine ⟨O,_,ws,rv3.th,rx,et,fun vs rs=>?_⟩
      have hl0:(env0 n ix ρ).length=σ'.length:=by rw [hσ];simp [env0]
      obtain ⟨rv4,hl4⟩:=RV.sets ws vs rv3 hl0 rs
      have hσ4:(setS σ' ws vs).length=n+ix.length:=by
        rw [<- hl4]
        have:∀ (ws:List (Nat×D)) (r:Wp),(XM r ws).length=r.length:=by
          intro ws
          induction ws with
          | nil=>intro r;rfl
          | cons w ws ih=>intro r;unfold XM;rw [ih];simp
        rw [this,hl0,hσ]
      have back:∀ {H5:Hp},Zg H2 H5->RV X.K O H5 (env0 n ix ρ) (setS σ' ws vs):=fun {H5} s5=>(rv4.mono s5).weak fun j d ej=>by
        by_cases hj:n<=j
        · rw [setV_out ws (hok _ ws et) j hj];exact ej
        · exfalso
          unfold env0 at ej
          rw [List.getElem?_append_left (by simpa using hj),List.getElem?_replicate] at ej
          split at ej <;> cases ej
      refine ⟨O,_,k,rv4,eg,fun H4 s4=>?_⟩
      cases k with
      | false =>
        rw [if_neg Bool.false_ne_true] at ec ⊢
        exact ⟨_,by omega,rfl,hlt,by omega,Zg.trans s2 (Zg.trans s3 s4),hσ4,back s4,pre,pst,Zs.mono (ZH (Zg.trans s3 s4)) pre us rp,ec,ey⟩
      | true =>
        rw [if_pos rfl] at ec ⊢
        obtain ⟨y,ef,ec⟩:=bind_some ec
        obtain ⟨XX,er,ec⟩:=bind_some ec
        cases ec
        refine ⟨O,_,y,rv4.mono s4,ef,fun v H5 s5 r5=>?_⟩
        refine ⟨_,by omega,rfl,hlt,?_,Zg.trans s2 (Zg.trans s3 (Zg.trans s4 s5)),hσ4,back (Zg.trans s4 s5),pre++[y],XX,Zs.append (Zs.mono (ZH (Zg.trans s3 (Zg.trans s4 s5))) pre us rp) (Zs.one r5),er,by rw [ey];simp⟩
        simp;omega
  · have e:i=ds.length:=by omega
    subst e
    refine .inl ⟨wk'.2 (Nat.le_refl _),by have:=XA hlim;omega,fun l hl=>?_⟩
    rw [List.drop_length] at ec
    cases ec
    rw [List.append_nil] at ey
    subst ey
    exact q l us H' (Zg.trans s1 s2) hl rp
theorem fComp_some {n:Nat} {ix:List Nat} {fi:FA} {t:FG} {gt:FT} {fe:FE} {ρ:Wp} {d:D} (h:Z8 n ix fi t gt fe ρ=some d):∃ ys,d=.lst ys/\∃ ds,fi ρ=some ds/\ds.length<=Xi/\compD t gt fe (env0 n ix ρ) ds=some ys:=by
  obtain ⟨ds,e1,h⟩:=bind_some h
  split at h
  · rename_i hl
    obtain ⟨ys,e2,h⟩:=bind_some h
    cases h
    exact ⟨ys,rfl,ds,e1,hl,e2⟩
  · cases h
variable {scope:Scope} {elt tg iter:Expr} {ifs:List Expr} {pos:Pos} {fi:FA} {t:FG} {gt:FT} {fe:FE}
theorem Yr (N:List Str) (n:Nat) (ix:List Nat) (hok:TgOk n t) (hc:X.calm=true) (hi:IV X tg iter fi)
    (hg:∀ cl C s H fp,GV (Yd X N scope cl C s H fp) tg t) (ht:∀ cl C s H fp,TVs (Yd X N scope cl C s H fp) ifs gt) (he:∀ cl C s H fp,EV (Yd X N scope cl C s H fp) elt fe)
    (hk:scope.kind=.function:=by rfl) (hcell:(scope.names.all fun y=>!(y.2 == .cell))=true:=by rfl) (hnames:(scope.names.all fun y=>!(y.2 == .local) || (scope.names.lookup y.1 == some .local))=true:=by rfl)
    (hNl:N.length=n+ix.length:=by rfl) (hout:outOk X.N N n scope X.env ix=true:=by rfl) (hfree:freeOk scope X.env.cells=true:=by rfl) (hs:∀ x,foldedSetIterable iter X.env x=pure x:=by intro _;rfl) :
    EV X (.ListComp elt [⟨tg,iter,ifs,0⟩] scope pos) (Z8 n ix fi t gt fe) :=
  PE.imp (pe_comp (g:=tG X.K t) (tt:=tT X.K gt) (te:=tD X.K fe) N n ix hc hi hg ht he hk hcell hnames hNl hout hfree hs) fun σ H Q ⟨O,ρ,d,rv,e,q⟩=>by
    obtain ⟨ys,rfl,hh⟩:=fComp_some e
    exact comp_reads (fun {_}=>trivial) hok ⟨O,ρ,ys,rv,hh,fun a vs H' s hn r=>q _ _ (Zg.trans s (Zg.new hn)) (YD (rv.th.mono s) hn r)⟩
end
end L2

namespace L2
open PySem PySem.Spec PyProof.Rows
def OwnRep (K:PySem.W.Frag) (O:List Addr) (H:Hp):D->Addr->Prop
  | .lst ds,a=>∃ vs,H a=some (.lst vs)/\Zs K (ZK O H) ds vs
  | .dcK ks ds,a=>∃ kvs,H a=some (.dK kvs)/\kvs.map (·.1)=ks/\Zs K (ZK O H) ds (kvs.map (·.2))
  | .dcT ks ds,a=>∃ kvs,H a=some (.dT kvs)/\kvs.map (·.1)=ks/\Zs K (ZK O H) ds (kvs.map (·.2))
  | _,_=>False
theorem OwnRep.rep {K:PySem.W.Frag} {O O':List Addr} {H:Hp} {a:Addr}:∀ {d:D},OwnRep K O H d a->(∀ b∈O',b∈O)->a∉O'->Xe K (ZK O' H) d (.ref a)
  | .lst ds,⟨vs,h,r⟩,hs,hn=>⟨a,vs,rfl,by rw [Zv hn];exact h,Zs.mono (fun b o e=>by
      by_cases hb:b∈O'
      · rw [Ye (hs b hb)] at e;cases e
      · rw [Zv hb];exact Zh _ _ e) ds vs r⟩
  | .dcK ks ds,⟨kvs,h,k,r⟩,hs,hn=>⟨a,kvs,rfl,by rw [Zv hn];exact h,k,Zs.mono (fun b o e=>by
      by_cases hb:b∈O'
      · rw [Ye (hs b hb)] at e;cases e
      · rw [Zv hb];exact Zh _ _ e) ds _ r⟩
  | .dcT ks ds,⟨kvs,h,k,r⟩,hs,hn=>⟨a,kvs,rfl,by rw [Zv hn];exact h,k,Zs.mono (fun b o e=>by
      by_cases hb:b∈O'
      · rw [Ye (hs b hb)] at e;cases e
      · rw [Zv hb];exact Zh _ _ e) ds _ r⟩
  | .non,h,_,_=>h.elim
  | .bl _,h,_,_=>h.elim
  | .int _,h,_,_=>h.elim
  | .str _,h,_,_=>h.elim
  | .tup _,h,_,_=>h.elim
  | .scr _,h,_,_=>h.elim
  | .dcF _ _,h,_,_=>h.elim
theorem OwnRep.mono {K:PySem.W.Frag} {O O':List Addr} {H H':Hp} {a:Addr} (s:Zg (ZK O H) (ZK O' H')) (ha:∀ o,H a=some o->H' a=some o):∀ {d:D},OwnRep K O H d a->OwnRep K O' H' d a
  | .lst ds,⟨vs,h,r⟩=>⟨vs,ha _ h,Zs.mono s ds vs r⟩
  | .dcK ks ds,⟨kvs,h,k,r⟩=>⟨kvs,ha _ h,k,Zs.mono s ds _ r⟩
  | .dcT ks ds,⟨kvs,h,k,r⟩=>⟨kvs,ha _ h,k,Zs.mono s ds _ r⟩
  | .non,h=>h.elim
  | .bl _,h=>h.elim
  | .int _,h=>h.elim
  | .str _,h=>h.elim
  | .tup _,h=>h.elim
  | .scr _,h=>h.elim
  | .dcF _ _,h=>h.elim
structure RS (K:PySem.W.Frag) (B:Hp) (O0 O1:List Addr) (H:Hp) (ρ:Y1) (σ:St):Prop where
  len:ρ.length=σ.length
  same:Zg B H
  thB:YR O0 B
  new:∀ a∈O1,B a=none
  th:YR O1 H
  vals:∀ (i:Nat) (d:D),ρ[i]?=some (some (.val d))->∃ v,σ[i]?=some (some v)/\Xe K (ZK (O0++O1) H) d v
  owns:∀ (i:Nat) (d:D),ρ[i]?=some (some (.own d))->∃ a,σ[i]?=some (some (.ref a))/\a∈O1/\OwnRep K (O0++O1) H d a
  apart:∀ (i j:Nat) (d e:D) (a:Addr),ρ[i]?=some (some (.own d))->ρ[j]?=some (some (.own e))->σ[i]?=some (some (.ref a))->σ[j]?=some (some (.ref a))->i=j
section
variable {K:PySem.W.Frag} {B H H':Hp} {O0 O1:List Addr} {ρ:Y1} {σ:St}
theorem YR.app {O O':List Addr} (h:YR O H) (h':YR O' H):YR (O++O') H:=fun a m=>(List.mem_append.mp m).elim (h a) (h' a)
theorem RS.th0 (r:RS K B O0 O1 H ρ σ):YR O0 H:=r.thB.mono r.same
theorem RS.disj (r:RS K B O0 O1 H ρ σ) {a:Addr} (h:a∈O1):a∉O0:=fun m=>by
  obtain ⟨o,e,_⟩:=r.thB a m
  rw [r.new a h] at e;cases e
theorem RS.mono (r:RS K B O0 O1 H ρ σ) (s:Zg H H'):RS K B O0 O1 H' ρ σ :=
  ⟨r.len,Zg.trans r.same s,r.thB,r.new,r.th.mono s,fun i d e=>let ⟨v,h1,h2⟩:=r.vals i d e;⟨v,h1,Xe.mono (ZH s) d v h2⟩,
    fun i d e=>let ⟨a,h1,h2,h3⟩:=r.owns i d e;⟨a,h1,h2,h3.mono (ZH s) fun o q=>s _ _ q⟩,r.apart⟩
theorem map_get {α β:Type} {l:List α} {f:α->β} {i:Nat} {b:β} (h:(l.map f)[i]?=some b):∃ a,l[i]?=some a/\f a=b:=by
  rw [List.getElem?_map] at h
  cases e:l[i]? with
  | none=>rw [e] at h;cases h
  | some a=>rw [e] at h;exact ⟨a,rfl,Option.some.inj h⟩
theorem RS.all (r:RS K B O0 O1 H ρ σ):RV K O0 H (Z6 ρ) σ:=⟨r.th0,fun i d e=>by
  obtain ⟨c,e1,e2⟩:=map_get e
  cases c with
  | none=>cases e2
  | some c =>
    cases c with
    | val d' =>
      cases e2
      obtain ⟨v,h1,h2⟩:=r.vals i d e1
      refine ⟨v,h1,Xe.mono (fun b o q=>?_) d v h2⟩
      by_cases hb:b∈O0
      · rw [Ye (List.mem_append_left _ hb)] at q;cases q
      · rw [Zv hb];exact Zh _ _ q
    | own d' =>
      cases e2
      obtain ⟨a,h1,h2,h3⟩:=r.owns i d e1
      exact ⟨_,h1,h3.rep (fun b hb=>List.mem_append_left _ hb) (r.disj h2)⟩⟩
theorem RS.val (r:RS K B O0 O1 H ρ σ):RV K (O0++O1) H (Z0 ρ) σ:=⟨YR.app r.th0 r.th,fun i d e=>by
  obtain ⟨c,e1,e2⟩:=map_get e
  cases c with
  | none=>cases e2
  | some c =>
    cases c with
    | val d'=>cases e2;exact r.vals i d e1
    | own d'=>cases e2⟩
theorem Ym {l:Y1} {i j:Nat} {x:Cl} {y:Cl} (h:(l.set i (some x))[j]?=some (some y)):(i=j/\x=y)\/(i≠j/\l[j]?=some (some y)):=by
  by_cases hj:i=j
  · subst hj;exact .inl ⟨rfl,get_set_eq h⟩
  · exact .inr ⟨hj,get_set_ne hj h⟩
theorem RS.set (r:RS K B O0 O1 H ρ σ) {i:Nat} {d:D} {v:V} (h:Xe K (ZK (O0++O1) H) d v):RS K B O0 O1 H (ρ.set i (some (.val d))) (σ.set i (some v)):=by
  have other:∀ {j:Nat} {o:Option V},i≠j->(σ.set i (some v))[j]?=some o->σ[j]?=some o:=fun hn q=>by rwa [List.getElem?_set_ne hn] at q
  refine ⟨by simpa using r.len,r.same,r.thB,r.new,r.th,fun j e q=>?_,fun j e q=>?_,fun j k d1 d2 a q1 q2 q3 q4=>?_⟩
  · rcases Ym q with ⟨rfl,z⟩ | ⟨hn,q'⟩
    · cases z
      have hi:i < ρ.length:=by simpa using (List.getElem?_eq_some_iff.mp q).1
      exact ⟨v,by rw [List.getElem?_set_self (by rw [<- r.len];exact hi)],h⟩
    · obtain ⟨w,h1,h2⟩:=r.vals j e q'
      exact ⟨w,by rw [List.getElem?_set_ne hn];exact h1,h2⟩
  · rcases Ym q with ⟨rfl,z⟩ | ⟨hn,q'⟩
    · cases z
    · obtain ⟨a,h1,h2,h3⟩:=r.owns j e q'
      exact ⟨a,by rw [List.getElem?_set_ne hn];exact h1,h2,h3⟩
  · rcases Ym q1 with ⟨rfl,z⟩ | ⟨hn,q1'⟩
    · cases z
    · rcases Ym q2 with ⟨rfl,z⟩ | ⟨hn2,q2'⟩
      · cases z
      · exact r.apart j k d1 d2 a q1' q2' (other hn q3) (other hn2 q4)
theorem RS.sets:∀ (ws:List (Nat×D)) (vs:List V) {ρ:Y1} {σ:St},RS K B O0 O1 H ρ σ->Zs K (ZK (O0++O1) H) (ws.map (·.2)) vs->RS K B O0 O1 H (Xr ρ ws) (setS σ ws vs)
  | [],_,_,_,r,_=>r
  | w::ws,_,ρ,σ,r,⟨v,vr,e,h,t⟩=>by
    subst e
    exact RS.sets ws vr (r.set h) t
theorem RS.setOwn (r:RS K B O0 O1 H ρ σ) {i:Nat} {d:D} {a:Addr} {o:HO} (hn:H a=none) (hm:isMut o) (h:OwnRep K (O0++a::O1) (YV H a o) d a) :
    RS K B O0 (a::O1) (YV H a o) (ρ.set i (some (.own d))) (σ.set i (some (.ref a))):=by
  have s:Zg (ZK (O0++O1) H) (ZK (O0++a::O1) (YV H a o)):=fun b u q=>by
    have hb:b∉O0++O1:=fun m=>by rw [Ye m] at q;cases q
    rw [Zv hb] at q
    have hba:b≠a:=Z4 q hn
    rw [Zv (fun m=>hb (by
      rcases List.mem_append.mp m with z | z
      · exact List.mem_append_left _ z
      · rcases List.mem_cons.mp z with z | z
        · exact absurd z hba
        · exact List.mem_append_right _ z)),ZG hba]
    exact q
  have noB:B a=none:=by
    cases q:B a with
    | none=>rfl
    | some u=>rw [r.same a u q] at hn;cases hn
  have naO:a∉O1:=r.th.fresh hn
  have other:∀ {j:Nat} {x:Option V},i≠j->(σ.set i (some (.ref a)))[j]?=some x->σ[j]?=some x:=fun hn q=>by rwa [List.getElem?_set_ne hn] at q
  have fresh:∀ {j:Nat} {e:D} {b:Addr},ρ[j]?=some (some (.own e))->σ[j]?=some (some (.ref b))->b≠a:=fun {j e b} q1 q2=>by
    obtain ⟨b',h1,h2,_⟩:=r.owns j e q1
    rw [q2] at h1;cases h1
    intro z;subst z;exact naO h2
  refine ⟨by simpa using r.len,Zg.trans r.same (Zg.new hn),r.thB,fun b hb=>?_,fun b hb=>?_,fun j e q=>?_,fun j e q=>?_,fun j k d1 d2 b q1 q2 q3 q4=>?_⟩
  · rcases List.mem_cons.mp hb with z | z
    · rw [z];exact noB
    · exact r.new b z
  · rcases List.mem_cons.mp hb with z | z
    · rw [z];exact ⟨o,Z1,hm⟩
    · obtain ⟨u,e,m⟩:=r.th b z
      exact ⟨u,Zg.new hn _ _ e,m⟩
  · rcases Ym q with ⟨rfl,z⟩ | ⟨hj,q'⟩
    · cases z
    · obtain ⟨w,h1,h2⟩:=r.vals j e q'
      exact ⟨w,by rw [List.getElem?_set_ne hj];exact h1,Xe.mono s e w h2⟩
  · rcases Ym q with ⟨rfl,z⟩ | ⟨hj,q'⟩
    · cases z
      have hi:i < ρ.length:=by simpa using (List.getElem?_eq_some_iff.mp q).1
      exact ⟨a,by rw [List.getElem?_set_self (by rw [<- r.len];exact hi)],List.mem_cons_self,h⟩
    · obtain ⟨b,h1,h2,h3⟩:=r.owns j e q'
      exact ⟨b,by rw [List.getElem?_set_ne hj];exact h1,List.mem_cons_of_mem _ h2,h3.mono s fun u z=>Zg.new hn _ _ z⟩
  · rcases Ym q1 with ⟨rfl,z1⟩ | ⟨hj,q1'⟩
    · rcases Ym q2 with ⟨rfl,z2⟩ | ⟨hk,q2'⟩
      · rfl
      · exfalso
        have hi:i < σ.length:=by
          have:=(List.getElem?_eq_some_iff.mp q3).1
          simpa using this
        rw [List.getElem?_set_self hi] at q3
        cases q3
        exact fresh q2' (other hk q4) rfl
    · rcases Ym q2 with ⟨rfl,z2⟩ | ⟨hk,q2'⟩
      · exfalso
        have hi:i < σ.length:=by
          have:=(List.getElem?_eq_some_iff.mp q4).1
          simpa using this
        rw [List.getElem?_set_self hi] at q4
        cases q4
        exact fresh q1' (other hj q3) rfl
      · exact r.apart j k d1 d2 b q1' q2' (other hj q3) (other hk q4)
theorem RS.write (r:RS K B O0 O1 H ρ σ) {i:Nat} {d d':D} {a:Addr} {o:HO} (hi:ρ[i]?=some (some (.own d))) (ha:σ[i]?=some (some (.ref a))) (hm:isMut o) (h:OwnRep K (O0++O1) (YV H a o) d' a) :
    RS K B O0 O1 (YV H a o) (ρ.set i (some (.own d'))) σ:=by
  obtain ⟨a',h1,h2,h3⟩:=r.owns i d hi
  rw [ha] at h1;cases h1
  have em:ZK (O0++O1) (YV H a o)=ZK (O0++O1) H:=by
    funext b
    by_cases hb:b∈O0++O1
    · rw [Ye hb,Ye hb]
    · rw [Zv hb,Zv hb,ZG (fun z=>hb (by rw [z];exact List.mem_append_right _ h2))]
  have hil:i < ρ.length:=(List.getElem?_eq_some_iff.mp hi).1
  have un:∀ {j:Nat} {e:D} {b:Addr},i≠j->ρ[j]?=some (some (.own e))->σ[j]?=some (some (.ref b))->b≠a:=fun {j e b} hn q1 q2 z=>by
    subst z;exact hn (r.apart i j d e b hi q1 ha q2)
  have sB:Zg B (YV H a o):=fun b u q=>by
    have:b≠a:=fun z=>by subst z;rw [r.new b h2] at q;cases q
    rw [ZG this];exact r.same b u q
  refine ⟨by simpa using r.len,sB,r.thB,r.new,fun b hb=>?_,fun j e q=>?_,fun j e q=>?_,fun j k d1 d2 b q1 q2 q3 q4=>?_⟩
  · by_cases z:b=a
    · rw [z];exact ⟨o,Z1,hm⟩
    · rw [ZG z];exact r.th b hb
  · rcases Ym q with ⟨rfl,z⟩ | ⟨hj,q'⟩
    · cases z
    · obtain ⟨w,e1,e2⟩:=r.vals j e q'
      rw [em];exact ⟨w,e1,e2⟩
  · rcases Ym q with ⟨rfl,z⟩ | ⟨hj,q'⟩
    · cases z;exact ⟨a,ha,h2,h⟩
    · obtain ⟨b,e1,e2,e3⟩:=r.owns j e q'
      refine ⟨b,e1,e2,e3.mono (by rw [em];exact (Zg.refl _)) fun u z=>?_⟩
      rw [ZG (un hj q' e1)];exact z
  · rcases Ym q1 with ⟨rfl,z1⟩ | ⟨hj,q1'⟩
    · rcases Ym q2 with ⟨rfl,z2⟩ | ⟨hk,q2'⟩
      · rfl
      · exact r.apart i k d d2 b hi q2' q3 q4
    · rcases Ym q2 with ⟨rfl,z2⟩ | ⟨hk,q2'⟩
      · exact r.apart j i d1 d b q1' hi q3 q4
      · exact r.apart j k d1 d2 b q1' q2' q3 q4
theorem RS.rebase (r:RS K B O0 O1 H ρ σ):RS K (ZK O1 H) O0 O1 H ρ σ :=
  ⟨r.len,Zh,fun a m=>by
    obtain ⟨o,e,k⟩:=r.th0 a m
    exact ⟨o,by rw [Zv fun z=>r.disj z m];exact e,k⟩,fun a m=>Ye m,r.th,r.vals,r.owns,r.apart⟩
theorem RS.debase {Hb:Hp} {Ob O2:List Addr} {ρ0:Y1} {σ0:St} (r0:RS K B O0 Ob Hb ρ0 σ0) (r:RS K (ZK Ob Hb) O0 O2 H ρ σ):RS K B O0 O2 H ρ σ:=by
  have sb:Zg B (ZK Ob Hb):=fun b u q=>by
    rw [Zv fun m=>by rw [r0.new b m] at q;cases q]
    exact r0.same b u q
  refine ⟨r.len,Zg.trans sb r.same,r0.thB,fun a m=>?_,r.th,r.vals,r.owns,r.apart⟩
  cases q:B a with
  | none=>rfl
  | some u =>
    have h1:=r.new a m
    rw [sb a u q] at h1
    cases h1
end
inductive Out where
  | nx (ρ:Y1) | rt (d:D) | bk (ρ:Y1) | ct (ρ:Y1) | bad
abbrev FS:=Y1->Out
def post (K:PySem.W.Frag) (B:Hp) (O0:List Addr) (E:Ends):Out->Prop
  | .nx ρ=>∀ σ H O1,RS K B O0 O1 H ρ σ->E.nx σ H
  | .rt d=>∀ v H,Zg B H->Xe K (ZK O0 H) d v->E.rt v H
  | .bk ρ=>∀ σ H O1,RS K B O0 O1 H ρ σ->E.bk σ H
  | .ct ρ=>∀ σ H O1,RS K B O0 O1 H ρ σ->E.ct σ H
  | .bad=>False
def tS (K:PySem.W.Frag) (F:FS):TS:=fun E σ H=>∃ B O0 O1 ρ,RS K B O0 O1 H ρ σ/\post K B O0 E (F ρ)
def SV (X:Cx) (st:Stmt) (F:FS):Prop:=PS X st (tS X.K F)
def SVs (X:Cx) (sts:List Stmt) (F:FS):Prop:=PSs X sts (tS X.K F)
theorem PS.imp {X:Cx} {e:Stmt} {t t':TS} (h:PS X e t) (k:∀ D σ H,t' D σ H->t D σ H):PS X e t':=fun pins s σ H D I hw=>h pins s σ H D I (k D σ H hw)
theorem PSs.imp {X:Cx} {e:List Stmt} {t t':TS} (h:PSs X e t) (k:∀ D σ H,t' D σ H->t D σ H):PSs X e t':=fun pins s σ H D I hw=>h pins s σ H D I (k D σ H hw)
def oSeq (o:Out) (G:FS):Out:=match o with
  | .nx ρ=>G ρ
  | o=>o
def Zr (F G:FS):FS:=fun ρ=>oSeq (F ρ) G
def WO:FS:=fun ρ=>.nx ρ
mutual
def imm:D->Bool
  | .tup ds=>imms ds
  | .lst _=>false
  | .scr _=>false
  | .dcK _ _=>false
  | .dcT _ _=>false
  | .dcF _ ds=>imms ds
  | _=>true
def imms:List D->Bool
  | []=>true
  | d::ds=>imm d && imms ds
end
def Zt (i:Nat) (f:FE):FS:=fun ρ=>match f (Z0 ρ) with | some d=>.nx (ρ.set i (some (.val d))) | none=>.bad
def WN (i:Nat) (f:FE):FS:=fun ρ=>match f (Z6 ρ) with | some d=>if imm d=true then .nx (ρ.set i (some (.val d))) else .bad | none=>.bad
def Z2 (f:FE):FS:=fun ρ=>match f (Z6 ρ) with | some d=>.rt d | none=>.bad
def Wt (g:FT) (F G:FS):FS:=fun ρ=>match g (Z6 ρ) with | some true=>F ρ | some false=>G ρ | none=>.bad
def Vx:FS:=fun _=>.bad
def YZ (t:FG) (F:FS):List D->Y1->Out
  | [],ρ=>.nx ρ
  | d::ds,ρ=>match t d with
    | none=>.bad
    | some ws=>match F (Xr ρ ws) with
      | .nx ρ'=>YZ t F ds ρ'
      | .ct ρ'=>YZ t F ds ρ'
      | .bk ρ'=>.nx ρ'
      | .rt d=>.rt d
      | .bad=>.bad
def XH (fi:FA) (t:FG) (F:FS):FS:=fun ρ=>match fi (Z0 ρ) with | some ds=>YZ t F ds ρ | none=>.bad
def XE (fi:FA) (t:FG) (F:FS):FS:=fun ρ=>match fi (Z6 ρ) with | some ds=>YZ t F ds ρ | none=>.bad
def Yl (g:FT) (F:FS):Nat->Y1->Out
  | 0,_=>.bad
  | n+1,ρ=>match g (Z6 ρ) with
    | none=>.bad
    | some false=>.nx ρ
    | some true=>match F ρ with
      | .nx ρ'=>Yl g F n ρ'
      | .ct ρ'=>Yl g F n ρ'
      | .bk ρ'=>.nx ρ'
      | .rt d=>.rt d
      | .bad=>.bad
section
variable {X:Cx} {st:Stmt} {XX:List Stmt} {F G:FS} {pos:Pos}
theorem YL:SVs X [] WO:=PSs.imp pss_nil fun D σ H ⟨B,O0,O1,ρ,r,q⟩=>q σ H O1 r
theorem Zk (h:SV X st F):SVs X [st] F:=pss_one h
theorem Zf (h1:SV X st F) (h2:SVs X XX G):SVs X (st::XX) (Zr F G):=PSs.imp (pss_cons h1 h2) fun E σ H ⟨B,O0,O1,ρ,r,q⟩=>by
  refine ⟨B,O0,O1,ρ,r,?_⟩
  unfold Zr at q
  cases e:F ρ with
  | nx ρ'=>rw [e] at q;exact fun σ' H' O' r'=>⟨B,O0,O',ρ',r',q⟩
  | rt d=>rw [e] at q;exact q
  | bk ρ'=>rw [e] at q;exact q
  | ct ρ'=>rw [e] at q;exact q
  | bad=>rw [e] at q;exact q.elim
theorem svs_bad {sts:List Stmt}:SVs X sts Vx:=PSs.imp pss_never fun D σ H ⟨B,O0,O1,ρ,r,q⟩=>q.elim
theorem sv_break:SV X (.Break pos) (fun ρ=>.bk ρ):=PS.imp ps_break fun D σ H ⟨B,O0,O1,ρ,r,q⟩=>q σ H O1 r
theorem ZJ {e:Expr} {f:FE} (h:EV X e f):SV X (.Return (some e) pos) (Z2 f):=PS.imp (ps_ret h) fun E σ H ⟨B,O0,O1,ρ,r,q⟩=>by
  unfold Z2 at q
  cases e:f (Z6 ρ) with
  | none=>rw [e] at q;exact q.elim
  | some d =>
    rw [e] at q
    exact ⟨O0,Z6 ρ,d,r.all,e,fun v H' s rep=>q v H' (Zg.trans r.same s) rep⟩
theorem X1 {c:Expr} {a b:List Stmt} {g:FT} (hc:TV X c g) (ha:SVs X a F) (hb:SVs X b G):SV X (.If c a b pos) (Wt g F G):=PS.imp (ps_if hc ha hb) fun E σ H ⟨B,O0,O1,ρ,r,q⟩=>by
  unfold Wt at q
  cases e:g (Z6 ρ) with
  | none=>rw [e] at q;exact q.elim
  | some k =>
    rw [e] at q
    refine ⟨O0,Z6 ρ,k,r.all,e,fun H' s=>?_⟩
    cases k with
    | true=>rw [if_pos rfl];exact ⟨B,O0,O1,ρ,r.mono s,q⟩
    | false=>rw [if_neg Bool.false_ne_true];exact ⟨B,O0,O1,ρ,r.mono s,q⟩
theorem ZU {i:Nat} {x:Str} {e:Expr} {f:FE} {pos':Pos} (hN:X.N.Nodup) (h:EV X e f) (hi:X.N[i]?=some x:=by rfl) (hx:Loc X.env.scope x:=by first | exact Or.inl rfl | exact Or.inr rfl) (hs:swapsWith e (some (.Name x pos')) pos.line X.env=pure false:=by rfl)
    (hf:X.fn x=true\/X.env.scope.names.lookup x=some .local:=by first | exact .inl rfl | exact .inr rfl):SV X (.Assign [.Name x pos'] e pos) (Zt i f):=PS.imp (ps_set hN hi hx h hs hf) fun E σ H ⟨B,O0,O1,ρ,r,q⟩=>by
  unfold Zt at q
  cases e:f (Z0 ρ) with
  | none=>rw [e] at q;exact q.elim
  | some d =>
    rw [e] at q
    exact ⟨O0++O1,Z0 ρ,d,r.val,e,fun v H' s rep=>q _ H' O1 ((r.mono s).set rep)⟩
mutual
theorem rep_imm {K:PySem.W.Frag} {O O':List Addr} {H:Hp} (th:YR O' H):∀ (d:D) (v:V),imm d=true->Xe K (ZK O H) d v->Xe K (ZK (O++O') H) d v
  | .non,_,_,r=>r
  | .bl _,_,_,r=>r
  | .int _,_,_,r=>r
  | .str _,_,_,r=>r
  | .tup ds,_,e,⟨a,vs,ev,ht,rs⟩=>⟨a,vs,ev,by
      have key:∀ {o:HO},ZK O H a=some o->¬ isMut o->ZK (O++O') H a=some o:=fun {o} q nm=>by
        have h1:=Zh _ _ q
        refine (Zv fun m=>?_).trans h1
        rcases List.mem_append.mp m with z | z
        · rw [Ye z] at q;cases q
        · obtain ⟨u,e1,e2⟩:=th a z
          rw [h1] at e1;cases e1;exact nm e2
      exact key ht fun z=>z,reps_imm th ds vs e rs⟩
  | .dcF ks ds,_,e,⟨a,fo,kvs,ev,ht,hk,rs⟩=>⟨a,fo,kvs,ev,by
      have h1:=Zh _ _ ht
      refine (Zv fun m=>?_).trans h1
      rcases List.mem_append.mp m with z | z
      · rw [Ye z] at ht;cases ht
      · obtain ⟨u,e1,e2⟩:=th a z
        rw [h1] at e1;cases e1;exact e2,hk,reps_imm th ds _ e rs⟩
  | .lst _,_,e,_=>by cases e
  | .scr _,_,e,_=>by cases e
  | .dcK _ _,_,e,_=>by cases e
  | .dcT _ _,_,e,_=>by cases e
theorem reps_imm {K:PySem.W.Frag} {O O':List Addr} {H:Hp} (th:YR O' H):∀ (ds:List D) (vs:List V),imms ds=true->Zs K (ZK O H) ds vs->Zs K (ZK (O++O') H) ds vs
  | [],_,_,r=>r
  | d::ds,_,e,⟨v,vr,ev,r,rs⟩=>⟨v,vr,ev,rep_imm th d v (by simp only [imms,Bool.and_eq_true] at e;exact e.1) r,reps_imm th ds vr (by simp only [imms,Bool.and_eq_true] at e;exact e.2) rs⟩
end
theorem sv_setC {scope:Scope} {elt tg iter:Expr} {ifs:List Expr} {cpos sp pos':Pos} {fi:FA} {t:FG} {gt:FT} {fe:FE} {i:Nat} {x:Str} (N:List Str) (n:Nat) (ix:List Nat) (hok:TgOk n t) (hN:X.N.Nodup) (hc:X.calm=true) (hi:IV X tg iter fi)
    (hg:∀ cl C s H fp,GV (Yd X N scope cl C s H fp) tg t) (ht:∀ cl C s H fp,TVs (Yd X N scope cl C s H fp) ifs gt) (he:∀ cl C s H fp,EV (Yd X N scope cl C s H fp) elt fe)
    (hx0:X.N[i]?=some x:=by rfl) (hx:Loc X.env.scope x:=by first | exact Or.inl rfl | exact Or.inr rfl)
    (hsw:swapsWith (.ListComp elt [⟨tg,iter,ifs,0⟩] scope cpos) (some (.Name x pos')) sp.line X.env=pure true:=by rfl)
    (hk:scope.kind=.function:=by rfl) (hcell:(scope.names.all fun y=>!(y.2 == .cell))=true:=by rfl) (hnames:(scope.names.all fun y=>!(y.2 == .local) || (scope.names.lookup y.1 == some .local))=true:=by rfl)
    (hNl:N.length=n+ix.length:=by rfl) (hout:outOk X.N N n scope X.env ix=true:=by rfl) (hfree:freeOk scope X.env.cells=true:=by rfl) (hs:∀ x,foldedSetIterable iter X.env x=pure x:=by intro _;rfl)
    (hf:X.fn x=true\/X.env.scope.names.lookup x=some .local:=by first | exact .inl rfl | exact .inr rfl) :
    SV X (.Assign [.Name x pos'] (.ListComp elt [⟨tg,iter,ifs,0⟩] scope cpos) sp) (Zt i (Z8 n ix fi t gt fe)) :=
  PS.imp (ps_setC (g:=tG X.K t) (tt:=tT X.K gt) (te:=tD X.K fe) N n ix hN hx0 hx hc hi hg ht he hsw hk hcell hnames hNl hout hfree hs hf) fun E σ H ⟨B,O0,O1,ρ,r,q⟩=>by
    unfold Zt at q
    cases e:Z8 n ix fi t gt fe (Z0 ρ) with
    | none=>rw [e] at q;exact q.elim
    | some d =>
      rw [e] at q
      obtain ⟨ys,rfl,hh⟩:=fComp_some e
      exact comp_reads (fun {_}=>trivial) hok ⟨O0++O1,Z0 ρ,ys,r.val,hh,fun a vs H' s hn rep=>q _ _ O1 ((r.mono (Zg.trans s (Zg.new hn))).set (YD (r.val.th.mono s) hn rep))⟩
theorem post_imp {K:PySem.W.Frag} {B B':Hp} {O0:List Addr} {E:Ends} (sb:Zg B B') (k:∀ {H:Hp} {O1:List Addr} {ρ:Y1} {σ:St},RS K B' O0 O1 H ρ σ->RS K B O0 O1 H ρ σ):∀ (o:Out),post K B O0 E o->post K B' O0 E o
  | .nx _,q=>fun σ H O1 r=>q σ H O1 (k r)
  | .rt _,q=>fun v H s r=>q v H (Zg.trans sb s) r
  | .bk _,q=>fun σ H O1 r=>q σ H O1 (k r)
  | .ct _,q=>fun σ H O1 r=>q σ H O1 (k r)
  | .bad,q=>q
theorem for_reads {K:PySem.W.Frag} {t:FG} {F:FS} {B:Hp} {O0:List Addr} {E:Ends} {J:It} {ds:List D} (wk:∀ {O1:List Addr} {H:Hp} {ρ:Y1} {σ:St},RS K B O0 O1 H ρ σ->∀ i,
      (∀ d,ds[i]?=some d->J.go i H/\∀ x H',J.yld i H x H'->Zg H H'/\Xe K (ZK (O0++O1) H') d x)/\(ds.length<=i->J.stop i H))
    {O1:List Addr} {H:Hp} {ρ:Y1} {σ:St} (r:RS K B O0 O1 H ρ σ) (q:post K B O0 E (YZ t F ds ρ)) :
    ∃ W:Nat->Nat->St->Hp->Prop,(∃ m,W 0 m σ H)/\∀ i m σ H,W i m σ H ->
      (J.stop i H/\E.nx σ H)\/(J.go i H/\∃ N:St->Hp->Prop,(∀ σ' H',N σ' H'->∃ m',m' < m/\W (i+1) m' σ' H')/\∀ x H',J.yld i H x H'->tG K t x σ H' fun σ2 H2=>tS K F { E with nx:=N,ct:=N,bk:=E.nx } σ2 H2):=by
  refine ⟨fun i m σ H=>m=ds.length - i/\i<=ds.length/\∃ O1 ρ,RS K B O0 O1 H ρ σ/\post K B O0 E (YZ t F (ds.drop i) ρ),⟨ds.length,by simp,Nat.zero_le _,O1,ρ,r,by simpa using q⟩,?_⟩
  rintro i m σ H ⟨rfl,hi,O1,ρ,r,q⟩
  have w:=wk r i
  by_cases hlt:i < ds.length
  · have hd:ds.drop i=ds[i]::ds.drop (i+1):=List.drop_eq_getElem_cons hlt
    have hg:ds[i]?=some ds[i]:=List.getElem?_eq_getElem hlt
    obtain ⟨go,yl⟩:=w.1 _ hg
    refine .inr ⟨go,fun σ' H'=>∃ O1 ρ,RS K B O0 O1 H' ρ σ'/\post K B O0 E (YZ t F (ds.drop (i+1)) ρ),fun σ' H' h=>⟨ds.length - (i+1),by omega,rfl,hlt,h⟩,fun x H' hy=>?_⟩
    obtain ⟨s,rx⟩:=yl x H' hy
    rw [hd] at q
    unfold YZ at q
    cases e:t ds[i] with
    | none=>rw [e] at q;exact q.elim
    | some ws =>
      rw [e] at q
      dsimp only at q
      have r':=r.mono s
      refine ⟨O0++O1,_,ws,YR.app r'.th0 r'.th,rx,e,fun vs rs=>?_⟩
      refine ⟨B,O0,O1,Xr ρ ws,r'.sets ws vs rs,?_⟩
      cases e2:F (Xr ρ ws) with
      | nx ρ'=>rw [e2] at q;exact fun σ2 H2 O2 r2=>⟨O2,ρ',r2,q⟩
      | ct ρ'=>rw [e2] at q;exact fun σ2 H2 O2 r2=>⟨O2,ρ',r2,q⟩
      | bk ρ'=>rw [e2] at q;exact q
      | rt d=>rw [e2] at q;exact q
      | bad=>rw [e2] at q;exact q.elim
  · have e:i=ds.length:=by omega
    subst e
    rw [List.drop_length] at q
    exact .inl ⟨w.2 (Nat.le_refl _),q σ H O1 r⟩
theorem W6 {tg iter:Expr} {body:List Stmt} {fi:FA} {t:FG} (hp:PassesOwn (model X.prog X.w) X.A X.env X.xe) (hc:X.calm=true) (hi:IV X tg iter fi) (hg:GV X tg t) (hb:SVs X body F)
    (hs:∀ x,foldedSetIterable iter X.env x=pure x:=by intro _;rfl):SV X (.For tg iter body [] pos) (XH fi t F):=PS.imp (ps_for hp hc hi hg hb hs) fun E σ H ⟨B,O0,O1,ρ,r,q⟩=>by
  unfold XH at q
  cases e:fi (Z0 ρ) with
  | none=>rw [e] at q;exact q.elim
  | some ds =>
    rw [e] at q
    refine ⟨O0++O1,Z0 ρ,ds,r.val,e,fun J H1 s1 wk=>?_⟩
    have r1:=r.mono s1
    refine for_reads (B:=ZK O1 H1) (O0:=O0) (fun {O2 H2 ρ2 σ2} r2 i=>wk H2 (O0++O2) (fun b u z=>?_) (YR.app r2.th0 r2.th) i) r1.rebase (post_imp (fun b u z=>?_) (fun r3=>r1.debase r3) _ q)
    · have hb1:b∉O0++O1:=fun m=>by rw [Ye m] at z;cases z
      have z1:=Zh _ _ z
      have z2:ZK O1 H1 b=some u:=by rw [Zv fun m=>hb1 (List.mem_append_right _ m)];exact z1
      have z3:=r2.same b u z2
      refine (Zv fun m=>?_).trans z3
      rcases List.mem_append.mp m with w | w
      · exact hb1 (List.mem_append_left _ w)
      · rw [r2.new b w] at z2;cases z2
    · rw [Zv fun m=>by rw [r1.new b m] at z;cases z]
      exact r1.same b u z
theorem Vt {tg iter:Expr} {body:List Stmt} {fi:FA} {t:FG} (hp:PassesOwn (model X.prog X.w) X.A X.env X.xe) (hc:X.calm=true) (hi:IVA X tg iter fi) (hg:GV X tg t) (hb:SVs X body F)
    (hs:∀ x,foldedSetIterable iter X.env x=pure x:=by intro _;rfl):SV X (.For tg iter body [] pos) (XE fi t F):=PS.imp (ps_for hp hc hi hg hb hs) fun E σ H ⟨B,O0,O1,ρ,r,q⟩=>by
  unfold XE at q
  cases e:fi (Z6 ρ) with
  | none=>rw [e] at q;exact q.elim
  | some ds =>
    rw [e] at q
    exact ⟨O0,Z6 ρ,ds,r.all,e,fun J H1 s1 wk=>for_reads (B:=B) (O0:=O0) (fun {O2 H2 ρ2 σ2} r2 i=>wk H2 (O0++O2) (YR.app r2.th0 r2.th) i) (r.mono s1) q⟩
theorem sv_while {c:Expr} {body:List Stmt} {g:FT} (n:Nat) (hp:PassesOwn (model X.prog X.w) X.A X.env X.xe) (hc:TV X c g) (hb:SVs X body F):SV X (.While c body [] pos) (Yl g F n):=PS.imp (ps_while hp hc hb) fun E σ H ⟨B,O0,O1,ρ,r,q⟩=>by
  refine ⟨fun m σ H=>∃ O1 ρ,RS X.K B O0 O1 H ρ σ/\post X.K B O0 E (Yl g F m ρ),⟨n,O1,ρ,r,q⟩,?_⟩
  rintro m σ H ⟨O1,ρ,r,q⟩
  cases m with
  | zero=>exact q.elim
  | succ m =>
    unfold Yl at q
    cases e:g (Z6 ρ) with
    | none=>rw [e] at q;exact q.elim
    | some k =>
      rw [e] at q
      refine ⟨O0,Z6 ρ,k,r.all,e,fun H1 s1=>?_⟩
      cases k with
      | false=>exact q _ _ O1 (r.mono s1)
      | true =>
        dsimp only at q
        refine ⟨fun σ' H'=>∃ O1 ρ,RS X.K B O0 O1 H' ρ σ'/\post X.K B O0 E (Yl g F m ρ),fun σ' H' h=>⟨m,by omega,h⟩,B,O0,O1,ρ,r.mono s1,?_⟩
        cases e2:F ρ with
        | nx ρ'=>rw [e2] at q;exact fun σ2 H2 O2 r2=>⟨O2,ρ',r2,q⟩
        | ct ρ'=>rw [e2] at q;exact fun σ2 H2 O2 r2=>⟨O2,ρ',r2,q⟩
        | bk ρ'=>rw [e2] at q;exact q
        | rt d=>rw [e2] at q;exact q
        | bad=>rw [e2] at q;exact q.elim
end
end L2

namespace L2
open PySem PySem.Spec PyProof.Rows
theorem whileD_succ {g:FT} {F:FS}:∀ (n:Nat) (ρ:Y1),Yl g F n ρ≠.bad->Yl g F (n+1) ρ=Yl g F n ρ
  | 0,_,h=>absurd rfl h
  | n+1,ρ,h=>by
    rw [Yl]
    conv=>rhs;rw [Yl]
    rw [Yl] at h
    cases e:g (Z6 ρ) with
    | none=>rfl
    | some k =>
      cases k with
      | false=>rfl
      | true =>
        rw [e] at h
        dsimp only at h ⊢
        cases e2:F ρ with
        | nx ρ'=>rw [e2] at h;exact whileD_succ n ρ' h
        | ct ρ'=>rw [e2] at h;exact whileD_succ n ρ' h
        | bk ρ'=>rfl
        | rt d=>rfl
        | bad=>rfl
theorem whileD_le {g:FT} {F:FS} {n m:Nat} {ρ:Y1} (hl:n<=m) (h:Yl g F n ρ≠.bad):Yl g F m ρ=Yl g F n ρ:=by
  obtain ⟨k,rfl⟩:=Nat.exists_eq_add_of_le hl
  induction k with
  | zero=>rfl
  | succ k ih =>
    have ih':=ih (by omega)
    rw [<- ih'] at h ⊢
    exact whileD_succ (n+k) ρ h
open Classical in
noncomputable def Vw (g:FT) (F:FS):FS:=fun ρ=>if h:∃ n,Yl g F n ρ≠.bad then Yl g F h.choose ρ else .bad
theorem sWhile_eq {g:FT} {F:FS} {ρ:Y1} {o:Out} (n:Nat) (h:Yl g F n ρ=o) (hb:o≠.bad):Vw g F ρ=o:=by
  have hx:∃ n,Yl g F n ρ≠.bad:=⟨n,by rw [h];exact hb⟩
  unfold Vw
  rw [dif_pos hx]
  by_cases hl:n<=hx.choose
  · rw [whileD_le hl (by rw [h];exact hb)];exact h
  · rw [<- whileD_le (by omega) hx.choose_spec (m:=n)];exact h
section
variable {X:Cx} {F G:FS} {pos:Pos}
theorem sv_loop {c:Expr} {body:List Stmt} {g:FT} (hp:PassesOwn (model X.prog X.w) X.A X.env X.xe) (hc:TV X c g) (hb:SVs X body F):SV X (.While c body [] pos) (Vw g F):=fun pins s σ H E I h=>by
  obtain ⟨B,O0,O1,ρ,r,q⟩:=h
  unfold Vw at q
  split at q
  · rename_i hx
    exact sv_while hx.choose hp hc hb pins s σ H E I ⟨B,O0,O1,ρ,r,q⟩
  · exact q.elim
def tF (K:PySem.W.Frag) (f:FA):TE:=fun σ H Q=>∃ O ρ ds,RV K O H ρ σ/\f ρ=some ds/\∀ a vs H1,Zg H H1->H1 a=none->Zs K (ZK O H1) ds vs->Q (.ref a) (YV H1 a (.lst vs))
def EVF (X:Cx) (e:Expr) (f:FA):Prop:=PE X e (tF X.K f)
def few (ds:List D):Option (List D):=if ds.length<=Xi then some ds else none
theorem few_some {ds es:List D} (h:few ds=some es):es=ds/\ds.length<=sizeLine:=by
  unfold few at h
  split at h
  · rename_i hl;cases h;exact ⟨rfl,XA hl⟩
  · cases h
theorem evf_lst {es:List Expr} {f:FA} (h:AV X es f):EVF X (.List es pos) (fR few f):=PE.imp (pe_lst h) fun σ H Q ⟨O,ρ,d,rv,e,q⟩=>by
  obtain ⟨ds,e1,e⟩:=bind_some e
  obtain ⟨rfl,hl⟩:=few_some e
  exact ⟨O,ρ,_,rv,e1,fun vs H1 s1 r1=>⟨by rw [r1.length];exact hl,fun p hp=>q p vs H1 s1 hp r1⟩⟩
theorem evf_list {x:Expr} {p:Pos} {f:FE} (h:EV X x f) (hm:X.mg "list"=none) (hv:bootBuiltins "list"=some (.type "list")) (hg:Gl X "list":=by rfl)
    (he:starEach [x] X.env=(false,eval x X.env)::starEach [] X.env:=by rfl) (hpl:(backTo pos (starEach [] X.env)).any (·.1)=false:=by rfl):EVF X (.Call (.Name "list" p) [x] [] pos) (Zq f) :=
  PE.imp (pe_callTy call_list_of hg hm hv (WE h pa_nil he) (by decide) (by decide) he hpl) fun σ H Q ⟨O,ρ,ds,rv,e,q⟩=>by
    obtain ⟨d,e1,e⟩:=bind_some e
    refine ⟨O,ρ,d,rv,e1,fun v H1 s1 r1=>?_⟩
    cases d with
    | lst es =>
      cases e
      obtain ⟨a,vs,rfl,h1,r⟩:=r1
      exact ⟨a,vs,rfl,.inl (Wa.of (Zh _ _ h1)),fun l hl=>q l vs H1 s1 hl r⟩
    | tup es =>
      cases e
      obtain ⟨a,vs,rfl,h1,r⟩:=r1
      exact ⟨a,vs,rfl,.inr (Wy.of (Zh _ _ h1)),fun l hl=>q l vs H1 s1 hl r⟩
    | scr ns =>
      cases e
      obtain ⟨a,rfl,h1⟩:=r1
      exact ⟨a,_,rfl,.inl (Zg.seq Zh h1),fun l hl=>q l _ H1 s1 hl (WM ns)⟩
    | _=>cases e
def fFr (f:FA):FE:=fun ρ=>(f ρ).bind fun ds=>some (.lst ds)
theorem EVF.ev {e:Expr} {f:FA} (h:EVF X e f):EV X e (fFr f):=PE.imp h fun σ H Q ⟨O,ρ,d,rv,e,q⟩=>by
  obtain ⟨ds,e1,e⟩:=bind_some e
  cases e
  exact ⟨O,ρ,ds,rv,e1,fun a vs H1 s1 hn r=>q _ _ (Zg.trans s1 (Zg.new hn)) (YD (rv.th.mono s1) hn r)⟩
def X4 (i:Nat) (f:FA):FS:=fun ρ=>match f (Z0 ρ) with | some ds=>.nx (ρ.set i (some (.own (.lst ds)))) | none=>.bad
theorem same_own {H:Hp} {O0 O1:List Addr} {a:Addr} {o:HO} (hn:H a=none):Zg (ZK (O0++O1) H) (ZK (O0++a::O1) (YV H a o)):=fun b u q=>by
  have hb:b∉O0++O1:=fun m=>by rw [Ye m] at q;cases q
  rw [Zv hb] at q
  have hba:b≠a:=Z4 q hn
  rw [Zv (fun m=>hb (by
    rcases List.mem_append.mp m with z | z
    · exact List.mem_append_left _ z
    · rcases List.mem_cons.mp z with z | z
      · exact absurd z hba
      · exact List.mem_append_right _ z)),ZG hba]
  exact q
theorem sv_own {i:Nat} {x:Str} {e:Expr} {f:FA} {pos':Pos} (hN:X.N.Nodup) (h:EVF X e f) (hi:X.N[i]?=some x:=by rfl) (hx:Loc X.env.scope x:=by first | exact Or.inl rfl | exact Or.inr rfl) (hs:swapsWith e (some (.Name x pos')) pos.line X.env=pure false:=by rfl)
    (hf:X.fn x=true\/X.env.scope.names.lookup x=some .local:=by first | exact .inl rfl | exact .inr rfl):SV X (.Assign [.Name x pos'] e pos) (X4 i f):=PS.imp (ps_set hN hi hx h hs hf) fun E σ H ⟨B,O0,O1,ρ,r,q⟩=>by
  unfold X4 at q
  cases e:f (Z0 ρ) with
  | none=>rw [e] at q;exact q.elim
  | some ds =>
    rw [e] at q
    exact ⟨O0++O1,Z0 ρ,ds,r.val,e,fun a vs H1 s hn rep=>q _ _ (a::O1) ((r.mono s).setOwn hn trivial ⟨vs,Z1,Zs.mono (same_own hn) ds vs rep⟩)⟩
def W7 (i:Nat) (fk fv:FE):FS:=fun ρ=>match ρ[i]? with
  | some (some (.own (.lst ds)))=>(match fv (Z6 ρ),fk (Z6 ρ) with
    | some d,some (.int k)=>if imm d=true then (match ixN ds.length k with | some j=>.nx (ρ.set i (some (.own (.lst (ds.set j d))))) | none=>.bad) else .bad
    | _,_=>.bad)
  | _=>.bad
theorem sv_store {i:Nat} {x:Str} {k e:Expr} {fk fv:FE} {pos1 pos2:Pos} (hk:EV X k fk) (he:EV X e fv) (hN:X.N[i]?=some x:=by rfl) (hv:Vis X.env.scope x:=by first | exact Or.inl rfl | exact Or.inr (Or.inl rfl) | exact Or.inr (Or.inr rfl))
    (hd:(x == ("__debug__":Str))=false:=by decide) (hcd:(x == ("__classdict__":Str))=false:=by decide)
    (ha:∀ v,assign (.Subscript (.Name x pos1) k pos2) X.env v=(do
      let ov <- holding [v] (eval (.Name x pos1) X.env)
      let iv <- holding [v,ov] (eval k X.env)
      standAt pos2
      holding [v,ov,iv] (setItem ov iv v)
      release [v,ov,iv] []):=by intro _;rfl)
    (hs:swapsWithSole [.Subscript (.Name x pos1) k pos2] e pos.line X.env=pure false:=by rfl) (hw:swappedStores [.Subscript (.Name x pos1) k pos2] e X.env=pure none:=by rfl)
    (h1:(assignEach [.Subscript (.Name x pos1) k pos2] X.env).map (·.2)=[assign (.Subscript (.Name x pos1) k pos2) X.env]:=by rfl) :
    SV X (.Assign [.Subscript (.Name x pos1) k pos2] e pos) (W7 i fk fv):=PS.imp (ps_asg he (pg_sub (pe_var hN hv hd hcd) hk set_list ha) hs hw h1) fun E σ H ⟨B,O0,O1,ρ,r,q⟩=>by
  unfold W7 at q
  split at q
  · rename_i ds hi
    split at q
    · rename_i d kk e1 e2
      split at q
      · rename_i hm
        split at q
        · rename_i j ej
          obtain ⟨a,ha',hO,vs,hv',rs⟩:=r.owns i _ hi
          refine ⟨O0,Z6 ρ,d,r.all,e1,fun v H1 s1 rv1=>?_⟩
          have r1:=r.mono s1
          refine ⟨.ref a,ha',O0,Z6 ρ,.int kk,r1.all,e2,fun y H2 s2 rv2=>?_⟩
          have r2:=r1.mono s2
          have hv2:H2 a=some (.lst vs):=s2 _ _ (s1 _ _ hv')
          have hy:y=.int kk:=rv2
          subst hy
          refine ⟨a,vs,kk,j,rfl,rfl,hv2,by rw [rs.length];exact ej,?_⟩
          have rd:Xe X.K (ZK (O0++O1) H2) d v:=rep_imm (r2.th) d v hm (Xe.mono (ZH s2) d v rv1)
          have em:ZK (O0++O1) (YV H2 a (.lst (vs.set j v)))=ZK (O0++O1) H2:=by
            funext b
            by_cases hb:b∈O0++O1
            · rw [Ye hb,Ye hb]
            · rw [Zv hb,Zv hb,ZG (fun z=>hb (by rw [z];exact List.mem_append_right _ hO))]
          refine q _ _ O1 (r2.write (d':=.lst (ds.set j d)) hi ha' trivial ⟨vs.set j v,Z1,?_⟩)
          rw [em]
          exact Zs.set rd j (Zs.mono (ZH (Zg.trans s1 s2)) ds vs rs)
        · exact q.elim
      · exact q.elim
    · exact q.elim
  · exact q.elim
def sApp (i:Nat) (fv:FE):FS:=fun ρ=>match ρ[i]? with
  | some (some (.own (.lst ds)))=>(match fv (Z6 ρ) with
    | some d=>if imm d=true/\ds.length < Xi then .nx (ρ.set i (some (.own (.lst (ds++[d]))))) else .bad
    | _=>.bad)
  | _=>.bad
theorem sv_app {i:Nat} {x:Str} {e:Expr} {fv:FE} {p1 p2 p3:Pos} (he:EV X e fv) (hN:X.N[i]?=some x:=by rfl) (hv:Vis X.env.scope x:=by first | exact Or.inl rfl | exact Or.inr (Or.inl rfl) | exact Or.inr (Or.inr rfl))
    (hd:(x == ("__debug__":Str))=false:=by decide) (hcd:(x == ("__classdict__":Str))=false:=by decide)
    (h1:PE X (.Call (.Attribute (.Name x p1) "append" p2) [e] [] p3) (tBM X.K "list" rAppend (tVar i) (tCons (tD X.K fv) tNil))) (hs:swapsWith (.Call (.Attribute (.Name x p1) "append" p2) [e] [] p3) none pos.line X.env=pure false:=by rfl) :
    SV X (.Expr (.Call (.Attribute (.Name x p1) "append" p2) [e] [] p3) pos) (sApp i fv):=PS.imp (ps_expr h1 hs) fun E σ H ⟨B,O0,O1,ρ,r,q⟩=>by
  unfold sApp at q
  split at q
  · rename_i ds hi
    split at q
    · rename_i d e1
      split at q
      · rename_i hm
        obtain ⟨a,ha',hO,vs,hv',rs⟩:=r.owns i _ hi
        refine ⟨.ref a,ha',.inl ⟨rfl,vs,Wa.of hv'⟩,O0,Z6 ρ,d,r.all,e1,fun v H1 s1 rv1=>?_⟩
        have r1:=r.mono s1
        have hv1:H1 a=some (.lst vs):=s1 _ _ hv'
        refine ⟨a,vs,v,rfl,rfl,hv1,by (have:=rs.length;have:=XA (Nat.le_of_lt hm.2);have h3:Xi < sizeLine:=(by rw [show sizeLine=16777216 from sizeLine_eq];decide);omega),?_⟩
        have rd:Xe X.K (ZK (O0++O1) H1) d v:=rep_imm r1.th d v hm.1 rv1
        have em:ZK (O0++O1) (YV H1 a (.lst (vs++[v])))=ZK (O0++O1) H1:=by
          funext b
          by_cases hb:b∈O0++O1
          · rw [Ye hb,Ye hb]
          · rw [Zv hb,Zv hb,ZG (fun z=>hb (by rw [z];exact List.mem_append_right _ hO))]
        refine q _ _ O1 (r1.write (d':=.lst (ds++[d])) hi ha' trivial ⟨vs++[v],Z1,?_⟩)
        rw [em]
        exact Zs.append (Zs.mono (ZH s1) ds vs rs) (Zs.one rd)
      · exact q.elim
    · exact q.elim
  · exact q.elim
end
def Z7 (n N:Nat) (ds:List D):Y1:=ds.map (fun d=>some (.val d))++List.replicate (N - n) none
def Z3 (n N:Nat) (F:FS):List D->Option D:=fun ds=>if ds.length=n then (match F (Z7 n N ds) with | .rt d=>some d | .nx _=>some .non | _=>none) else none
theorem Zs.map_get {K:PySem.W.Frag} {H:Hp} {ds:List D} {vs:List V} {i:Nat} {d:D} (r:Zs K H ds vs) (h:(Z7 ds.length (ds.length+0) ds)[i]?=some (some (.val d))):∃ v,vs[i]?=some v/\Xe K H d v:=by
  unfold Z7 at h
  simp only [Nat.add_zero,Nat.sub_self,List.replicate_zero,List.append_nil] at h
  obtain ⟨e,h1,h2⟩:=L2.map_get h
  cases h2
  exact r.get h1
theorem fn_data {P:Program} {w:World} {K:PySem.W.Frag} {mg:Str->Option Value} {base:Heap} {x qual:Str} {st:Stmt} {f:Addr} {fd:FuncData} {N ps:List Str} {k:Nat} {F:FS} (Fu:Wr K x qual st f fd) (S:ZC N ps (Zm st))
    (h:∀ (cdv:Value) (A:Around) (outer:List Env) (s:Shared) (H:Hp) (E:XK),Wq k (A.deeper (envOfC qual (Zm st) s.heap.objs.size f cdv))->SVs (cxOf CX0 P w K mg base N qual (Zm st) f cdv A outer s H E).nox (Wf st) F) :
    VH P w K mg base CX0 (k+1) f fd ps (spD K (Z3 ps.length N.length F)):=by
  have hpl:ps.length<=N.length:=by have:=congrArg List.length S.pre;rw [List.length_take] at this;omega
  refine Fu.ok S (fun vs H Q E hs=>?_) fun cdv A outer s H vs Q E hr hs=>?_
  · obtain ⟨O,ds,d,th,rs,e,_⟩:=hs
    rw [rs.length]
    unfold Z3 at e
    split at e
    · rename_i hl;exact hl
    · cases e
  · obtain ⟨O,ds,d,th,rs,e,q⟩:=hs
    unfold Z3 at e
    split at e
    · rename_i hl
      refine ⟨_,h cdv A outer s H E hr,?_⟩
      have hvl:vs.length=ps.length:=by rw [rs.length];exact hl
      refine ⟨H,O,[],Z7 ps.length N.length ds,⟨?_,(Zg.refl _),th,fun a m=>(by cases m),fun a m=>(by cases m),fun i d' q'=>?_,fun i d' q'=>?_,fun i j d1 d2 a q1=>?_⟩,?_⟩
      · unfold Z7 start;simp [hl,hvl]
      · unfold Z7 at q'
        by_cases hi:i < ds.length
        · rw [List.getElem?_append_left (by simpa using hi)] at q'
          obtain ⟨e',g1,g2⟩:=map_get q'
          cases g2
          obtain ⟨v,g3,g4⟩:=rs.get g1
          refine ⟨v,?_,by rw [List.append_nil];exact g4⟩
          unfold start
          rw [List.getElem?_append_left (by rw [List.length_map,rs.length];exact hi),List.getElem?_map,g3];rfl
        · rw [List.getElem?_append_right (by simpa using hi),List.getElem?_replicate] at q'
          split at q' <;> cases q'
      all_goals
        try (
          exfalso
          have hno:∀ (i:Nat) (d':D),(Z7 ps.length N.length ds)[i]?≠some (some (.own d')):=by
            intro i d' z
            unfold Z7 at z
            by_cases hi:i < ds.length
            · rw [List.getElem?_append_left (by simpa using hi)] at z
              obtain ⟨e',g1,g2⟩:=map_get z
              cases g2
            · rw [List.getElem?_append_right (by simpa using hi),List.getElem?_replicate] at z
              split at z <;> cases z
          first | exact hno _ _ q' | exact hno _ _ q1)
      cases ef:F (Z7 ps.length N.length ds) with
      | rt d' =>
        rw [ef] at e;cases e
        exact fun v H' s' r'=>q v H' s' r'
      | nx ρ' =>
        rw [ef] at e;cases e
        exact fun σ' H' O1 r'=>q .non H' r'.same rfl
      | bk ρ'=>rw [ef] at e;cases e
      | ct ρ'=>rw [ef] at e;cases e
      | bad=>rw [ef] at e;cases e
    · cases e
end L2

namespace L2
open PySem PySem.Spec PyProof.Rows
def ZY (g:Int->Int->D):D->D->Option D
  | .int i,.int j=>some (g i j)
  | _,_=>none
theorem intOp_some {g:Int->Int->D} {x y d:D} (h:ZY g x y=some d):∃ i j,x=.int i/\y=.int j/\d=g i j:=by
  cases x <;> cases y <;> first | (cases h;exact ⟨_,_,rfl,rfl,rfl⟩) | cases h
section
variable {X:Cx}
theorem opd_int {f:Value->Value->Sem Value} {g:Int->Int->V} {g':Int->Int->D} (h:OpR X f (rI0 g)) (hg:∀ (K:PySem.W.Frag) (H:Hp) i j,Xe K H (g' i j) (g i j)):OpD X f (ZY g'):=OpD.of h fun x y H Q ⟨O,dx,dy,d,th,rx,ry,e,q⟩=>by
  obtain ⟨i,j,rfl,rfl,rfl⟩:=intOp_some e
  exact ⟨i,j,rx,ry,q _ H (Zg.refl _) (hg _ _ i j)⟩
theorem Xz:OpD X (binaryOp .Sub) (ZY fun i j=>.int (i - j)):=opd_int op_sub fun _ _ _ _=>rfl
theorem opd_le:OpD X (compareOp .LtE) (ZY fun i j=>.bl (decide (i<=j))):=opd_int op_le fun _ _ _ _=>rfl
theorem opd_gt:OpD X (compareOp .Gt) (ZY fun i j=>.bl (decide (j < i))):=opd_int op_gt fun _ _ _ _=>rfl
def ZS:D->D->Option D
  | .int i,.int j=>some (.int (i+j))
  | .tup a,.tup b=>if a.isEmpty=false/\a.length+b.length<=Xi then some (.tup (a++b)) else none
  | .lst a,.lst b=>if a.length+b.length<=Xi then some (.lst (a++b)) else none
  | _,_=>none
theorem ZL:OpD X (binaryOp .Add) ZS:=OpD.of (OpR.or op_add (OpR.or op_catT op_cat)) fun x y H Q ⟨O,dx,dy,d,th,rx,ry,e,q⟩=>by
  unfold ZS at e
  split at e
  · cases e
    exact .inl ⟨_,_,rx,ry,q _ H (Zg.refl _) rfl⟩
  · rename_i a b
    split at e
    · rename_i hl
      cases e
      obtain ⟨p,vs,rfl,hp,rp⟩:=rx
      obtain ⟨p2,us,rfl,hp2,rp2⟩:=ry
      have l1:=rp.length
      have l2:=rp2.length
      refine .inr (.inl ⟨p,p2,vs,us,rfl,rfl,Wy.of (Zh _ _ hp),Wy.of (Zh _ _ hp2),fun z=>?_,?_,fun z=>?_,fun z r hr=>?_⟩)
      · subst z
        have:a=[]:=List.eq_nil_of_length_eq_zero (by rw [<- l1];rfl)
        rw [this] at hl;exact absurd hl.1 (by decide)
      · have:=XA hl.2;omega
      · subst z
        have:b=[]:=List.eq_nil_of_length_eq_zero (by rw [<- l2];rfl)
        subst this
        rw [List.append_nil] at q
        exact q _ H (Zg.refl _) ⟨p,vs,rfl,hp,rp⟩
      · exact q _ _ (Zg.new hr) (Y5 th hr (rp.append rp2))
    · cases e
  · rename_i a b
    split at e
    · rename_i hl
      cases e
      obtain ⟨p,vs,rfl,hp,rp⟩:=rx
      obtain ⟨p2,us,rfl,hp2,rp2⟩:=ry
      have l1:=rp.length
      have l2:=rp2.length
      refine .inr (.inr ⟨p,p2,vs,us,rfl,rfl,Zh _ _ hp,Zh _ _ hp2,?_,fun r hr=>?_⟩)
      · have:=XA hl;omega
      · exact q _ _ (Zg.new hr) (YD th hr (rp.append rp2))
    · cases e
  · cases e
noncomputable def W1 (i:Int):Bool:=@decide (-(2 ^ 64) < i/\i < 2 ^ 64) (Classical.propDecidable _)
theorem small64_of {i:Int} (h:W1 i=true):-(2 ^ 64) < i/\i < 2 ^ 64:=@of_decide_eq_true _ (Classical.propDecidable _) h
noncomputable def YF:D->D->Option D
  | .int i,.int j=>if (W1 i || W1 j)=true then some (.int (i * j)) else none
  | .lst a,.int k=>@ite _ (-(2 ^ 63)<=k/\k < 2 ^ 63/\a.length * k.toNat<=Xi) (Classical.propDecidable _) (some (.lst (List.replicate k.toNat a).flatten)) none
  | _,_=>none
theorem reps_rep {K:PySem.W.Frag} {H:Hp} {ds:List D} {vs:List V} (r:Zs K H ds vs):∀ n:Nat,Zs K H (List.replicate n ds).flatten (List.replicate n vs).flatten
  | 0=>rfl
  | n+1=>by rw [List.replicate_succ,List.replicate_succ,List.flatten_cons,List.flatten_cons];exact r.append (reps_rep r n)
theorem Xa:OpD X (binaryOp .Mult) YF:=OpD.of (OpR.or op_mul op_rep) fun x y H Q ⟨O,dx,dy,d,th,rx,ry,e,q⟩=>by
  unfold YF at e
  split at e
  · rename_i i j
    split at e
    · rename_i hs
      cases e
      refine .inl ⟨i,j,rx,ry,?_,q _ H (Zg.refl _) rfl⟩
      rcases Bool.or_eq_true_iff.mp hs with h | h
      · exact .inl (small64_of h)
      · exact .inr (small64_of h)
    · cases e
  · rename_i a k
    split at e
    · rename_i hl
      cases e
      obtain ⟨p,vs,rfl,hp,rp⟩:=rx
      have l1:=rp.length
      refine .inr ⟨p,k,vs,rfl,ry,Zh _ _ hp,hl.1,hl.2.1,?_,fun r hr=>?_⟩
      · rw [l1];exact XA hl.2.2
      · exact q _ _ (Zg.new hr) (YD th hr (reps_rep rp _))
    · cases e
  · cases e
noncomputable def fdivD:D->D->Option D
  | .int i,.int j=>@ite _ (0 < j/\j < 1073741824) (Classical.propDecidable _) (some (.int (i / j))) none
  | _,_=>none
theorem opd_fdiv:OpD X (binaryOp .FloorDiv) fdivD:=OpD.of op_fdiv fun x y H Q ⟨O,dx,dy,d,th,rx,ry,e,q⟩=>by
  unfold fdivD at e
  split at e
  · rename_i i j
    split at e
    · rename_i hs
      cases e
      exact ⟨i,j,rx,ry,hs,q _ H (Zg.refl _) rfl⟩
    · cases e
  · cases e
def Xp:D->D->Option D
  | .int i,.int j=>if 0 < j then some (.int (i % j)) else none
  | _,_=>none
theorem WF:OpD X (binaryOp .Mod) Xp:=OpD.of op_mod fun x y H Q ⟨O,dx,dy,d,th,rx,ry,e,q⟩=>by
  unfold Xp at e
  split at e
  · rename_i i j
    split at e
    · rename_i hs
      cases e
      exact ⟨i,j,rx,ry,hs,q _ H (Zg.refl _) rfl⟩
    · cases e
  · cases e
theorem atI_reps {K:PySem.W.Frag} {H:Hp} {ds:List D} {vs:List V} {i:Int} {d:D} (r:Zs K H ds vs) (h:atI ds i=some d):∃ v,atI vs i=some v/\Xe K H d v:=by
  unfold atI at h ⊢
  rw [r.length]
  cases e:ixN ds.length i with
  | none=>rw [e] at h;cases h
  | some j=>rw [e] at h;exact r.get h
def YY:D->D->Option D
  | .lst ds,.int i=>atI ds i
  | .tup ds,.int i=>atI ds i
  | .scr ns,.int i=>(atI ns i).map D.int
  | _,_=>none
theorem atI_map {α β:Type} (f:α->β) (xs:List α) (i:Int):atI (xs.map f) i=(atI xs i).map f:=by
  unfold atI
  rw [List.length_map]
  cases ixN xs.length i with
  | none=>rfl
  | some j=>simp
theorem Yq {a b:Expr} {fa fb:FE} {pos:Pos} (ha:EV X a fa) (hb:EV X b fb) (hs:PlainIx b:=by exact fun _ _=>rfl):EV X (.Subscript a b pos) (f2 YY fa fb):=PE.imp (pe_ix (ix_list.or ix_tup) ha hb hs) fun σ H Q h=>two_of (fun x y H Q ⟨O,dx,dy,d,th,rx,ry,e,q⟩=>by
  unfold YY at e
  split at e
  · obtain ⟨p,vs,rfl,hp,rp⟩:=rx
    obtain ⟨v,e1,e2⟩:=atI_reps rp e
    exact .inl ⟨p,vs,_,v,rfl,ry,Wa.of (Zh _ _ hp),e1,q v H (Zg.refl _) e2⟩
  · obtain ⟨p,vs,rfl,hp,rp⟩:=rx
    obtain ⟨v,e1,e2⟩:=atI_reps rp e
    exact .inr ⟨p,vs,_,v,rfl,ry,Wy.of (Zh _ _ hp),e1,q v H (Zg.refl _) e2⟩
  · rename_i ns i
    obtain ⟨p,rfl,hp⟩:=rx
    cases e1:atI ns i with
    | none=>rw [e1] at e;cases e
    | some n =>
      rw [e1] at e;cases e
      exact .inl ⟨p,_,i,.int n,rfl,ry,Zg.seq Zh hp,by rw [atI_map,e1];rfl,q _ H (Zg.refl _) rfl⟩
  · cases e) h
def Vk:D->Option D
  | .int i=>some (.int (-i))
  | _=>none
theorem ev_neg {a:Expr} {fa:FE} {pos:Pos} (hu:UnR X (unaryOp .USub) (rU fun i=>.int (-i))) (ha:EV X a fa):EV X (.UnaryOp .USub a pos) (f1 Vk fa):=PE.imp (pe_un hu ha) fun σ H Q ⟨O,ρ,d,rv,e,q⟩=>by
  obtain ⟨x,e1,e⟩:=bind_some e
  refine ⟨O,ρ,x,rv,e1,fun v H1 s1 r1=>?_⟩
  cases x with
  | int i=>cases e;exact ⟨i,r1,q _ H1 s1 rfl⟩
  | _=>cases e
def Yy:List D->Option D
  | [.lst ds]=>some (.int ds.length)
  | [.tup ds]=>some (.int ds.length)
  | [.scr ns]=>some (.int ns.length)
  | _=>none
theorem Xj:Xy X (.builtin "len") Yy:=Xy.of call_len_seq fun xs H Q ⟨O,ds,d,th,rs,e,q⟩=>by
  unfold Yy at e
  split at e
  · rename_i es
    cases e
    obtain ⟨v,vr,rfl,⟨p,vs,rfl,hp,rp⟩,ht⟩:=rs
    have:vr=[]:=ht
    subst this
    refine ⟨p,vs,rfl,.inl (Wa.of (Zh _ _ hp)),?_⟩
    rw [rp.length];exact q _ H (Zg.refl _) rfl
  · rename_i es
    cases e
    obtain ⟨v,vr,rfl,⟨p,vs,rfl,hp,rp⟩,ht⟩:=rs
    have:vr=[]:=ht
    subst this
    refine ⟨p,vs,rfl,.inr (Wy.of (Zh _ _ hp)),?_⟩
    rw [rp.length];exact q _ H (Zg.refl _) rfl
  · rename_i ns
    cases e
    obtain ⟨v,vr,rfl,⟨p,rfl,hp⟩,ht⟩:=rs
    have:vr=[]:=ht
    subst this
    refine ⟨p,_,rfl,.inl (Zg.seq Zh hp),?_⟩
    rw [List.length_map];exact q _ H (Zg.refl _) rfl
  · cases e
def tupD:List D->Option D
  | [.lst ds]=>some (.tup ds)
  | [.tup ds]=>some (.tup ds)
  | _=>none
theorem cd_tuple:Xy X (.type "tuple") tupD:=Xy.of call_tuple_of fun xs H Q ⟨O,ds,d,th,rs,e,q⟩=>by
  unfold tupD at e
  split at e
  · rename_i es
    cases e
    obtain ⟨v,vr,rfl,⟨p,vs,rfl,hp,rp⟩,ht⟩:=rs
    have:vr=[]:=ht
    subst this
    exact ⟨p,vs,rfl,.inl ⟨Wa.of (Zh _ _ hp),fun l hl=>q _ _ (Zg.new hl) (Y5 th hl rp)⟩⟩
  · rename_i es
    cases e
    obtain ⟨v,vr,rfl,⟨p,vs,rfl,hp,rp⟩,ht⟩:=rs
    have:vr=[]:=ht
    subst this
    exact ⟨p,vs,rfl,.inr ⟨Wy.of (Zh _ _ hp),q _ H (Zg.refl _) ⟨p,vs,rfl,hp,rp⟩⟩⟩
  · cases e
def minD:List D->Option D
  | [.int i,.int j]=>some (.int (if j < i then j else i))
  | _=>none
def maxD:List D->Option D
  | [.int i,.int j]=>some (.int (if j > i then j else i))
  | _=>none
theorem two_ints {K:PySem.W.Frag} {H:Hp} {i j:Int} {xs:List V} (r:Zs K H [.int i,.int j] xs):xs=[.int i,.int j]:=by
  obtain ⟨v,vr,rfl,h1,w,wr,rfl,h2,h3⟩:=r
  rw [show v=_ from h1,show w=_ from h2,show wr=_ from h3]
theorem cd_min (hc:X.calm=true):Xy X (.builtin "min") minD:=Xy.of (call_min2 hc) fun xs H Q ⟨O,ds,d,th,rs,e,q⟩=>by
  unfold minD at e
  split at e
  · cases e;exact ⟨_,_,two_ints rs,q _ H (Zg.refl _) rfl⟩
  · cases e
theorem cd_max (hc:X.calm=true):Xy X (.builtin "max") maxD:=Xy.of (call_max2 hc) fun xs H Q ⟨O,ds,d,th,rs,e,q⟩=>by
  unfold maxD at e
  split at e
  · cases e;exact ⟨_,_,two_ints rs,q _ H (Zg.refl _) rfl⟩
  · cases e
def intD:List D->Option D
  | [.int i]=>some (.int i)
  | [.bl k]=>some (.int (if k then 1 else 0))
  | _=>none
theorem cd_int:Xy X (.type "int") intD:=Xy.of call_int1 fun xs H Q ⟨O,ds,d,th,rs,e,q⟩=>by
  unfold intD at e
  split at e
  · cases e
    obtain ⟨v,vr,rfl,h1,h3⟩:=rs
    rw [show v=_ from h1,show vr=_ from h3]
    exact .inl ⟨_,rfl,q _ H (Zg.refl _) rfl⟩
  · cases e
    obtain ⟨v,vr,rfl,h1,h3⟩:=rs
    rw [show v=_ from h1,show vr=_ from h3]
    exact .inr ⟨_,rfl,q _ H (Zg.refl _) rfl⟩
  · cases e
end
end L2

namespace L2
open PySem PySem.Spec PyProof.Rows
mutual
def Xo:D->PyData
  | .non=>.none
  | .bl b=>.bool b
  | .int i=>.int i
  | .str x=>.str x
  | .tup ds=>.tuple (X0 ds)
  | .lst ds=>.list (X0 ds)
  | .scr ns=>.list (ns.map PyData.int)
  | .dcK _ _=>.dict []
  | .dcT _ _=>.dict []
  | .dcF _ _=>.dict []
def X0:List D->List PyData
  | []=>[]
  | d::ds=>Xo d::X0 ds
end
def okD (d:D):Bool:=(Xo d).canLay0 && decide ((Xo d).depth<=64)
def WK:D->D->Option D:=fun x y=>if (okD x && okD y)=true then some (.bl (PyData.eqv (Xo x) (Xo y))) else none
def Vl:D->D->Option D:=fun x y=>if (okD x && okD y)=true then some (.bl (!PyData.eqv (Xo x) (Xo y))) else none
section
variable {X:Cx} {pins:List (Addr×Obj)} {σ:St} {H:Hp} {s:Shared}
theorem reads_ints {h:Heap}:∀ (ns:List Int) (us:List Value),ZQ (ns.map V.int) us->∃ as,ReadsAll h us (ns.map PyData.int) as
  | [],_,.nil=>⟨_,.nil⟩
  | n::ns,_,.cons r t=>by
    obtain ⟨tk,rfl⟩:=r
    obtain ⟨as,q⟩:=reads_ints ns _ t
    exact ⟨_,.cons (.int n tk) q⟩
mutual
theorem reads_of (I:ZE X pins σ H s):∀ (d:D) (v:V) (u:Value),(Xo d).canLay0=true->Xe X.K H d v->Ya v u->∃ as,Reads s.heap u (Xo d) as
  | .non,_,_,_,h,r=>by subst h;cases r;exact ⟨_,.none⟩
  | .bl b,_,_,_,h,r=>by subst h;cases r;exact ⟨_,.bool b⟩
  | .int i,_,_,_,h,r=>by subst h;obtain ⟨t,rfl⟩:=r;exact ⟨_,.int i t⟩
  | .str x,_,_,_,h,r=>by subst h;obtain ⟨t,rfl⟩:=r;exact ⟨_,.str x t⟩
  | .tup ds,_,_,c,⟨a,vs,e,ht,rs⟩,r=>by
    subst e
    cases r
    obtain ⟨its,rv,⟨o,h1,h2,n,h3⟩,_⟩:=I.tuple (Wy.of ht)
    obtain ⟨as,q⟩:=readsAll_of I ds vs its c rs rv
    exact ⟨_,.tuple h1 h2 h3 (by simpa using q)⟩
  | .lst ds,_,_,c,⟨a,vs,e,ht,rs⟩,r=>by
    subst e
    cases r
    obtain ⟨its,rv,⟨o,n,h1,h2,_,h3⟩,_⟩:=I.list (Wa.of ht)
    obtain ⟨as,q⟩:=readsAll_of I ds vs its c rs rv
    exact ⟨_,.list h1 h2 h3 (by simpa using q)⟩
  | .scr ns,_,_,c,⟨a,e,ht⟩,r=>by
    subst e
    cases r
    obtain ⟨its,rv,⟨o,n,h1,h2,_,h3⟩,_⟩:=I.list ht
    obtain ⟨as,q⟩:=reads_ints (h:=s.heap) ns its rv
    exact ⟨_,.list h1 h2 h3 (by simpa using q)⟩
  | .dcK _ _,_,_,c,_,_=>by cases c
  | .dcT _ _,_,_,c,_,_=>by cases c
  | .dcF _ _,_,_,c,_,_=>by cases c
theorem readsAll_of (I:ZE X pins σ H s):∀ (ds:List D) (vs:List V) (us:List Value),PyData.canLayAll0 (X0 ds)=true->Zs X.K H ds vs->ZQ vs us->∃ as,ReadsAll s.heap us (X0 ds) as
  | [],_,_,_,h,r=>by
    have:_=[]:=h
    subst this
    cases r
    exact ⟨_,.nil⟩
  | d::ds,_,_,c,⟨v,vr,e,h,t⟩,r=>by
    subst e
    cases r with
    | cons r1 r2 =>
      have c':(Xo d).canLay0=true/\PyData.canLayAll0 (X0 ds)=true:=by simpa [X0,PyData.canLayAll0] using c
      obtain ⟨as,q⟩:=reads_of I d v _ c'.1 h r1
      obtain ⟨bs,q'⟩:=readsAll_of I ds vr _ c'.2 t r2
      exact ⟨_,.cons q q'⟩
end
theorem okD_of {d:D} (h:okD d=true):(Xo d).canLay0=true/\(Xo d).depth<=64:=by
  unfold okD at h
  simpa using h
theorem opd_eq (hu:X.A.units+64 < cLine):OpD X (compareOp .Eq) WK:=by
  intro pins s σ H x y v u Q I rx ry h
  obtain ⟨O,dx,dy,d,th,r1,r2,e,q⟩:=h
  unfold WK at e
  split at e
  · rename_i hk
    cases e
    obtain ⟨k1,k2⟩:=Bool.and_eq_true_iff.mp hk
    obtain ⟨a1,b1⟩:=okD_of k1
    obtain ⟨a2,b2⟩:=okD_of k2
    obtain ⟨as,q1⟩:=reads_of I dx x v a1 (Xe.mono Zh dx x r1) rx
    obtain ⟨bs,q2⟩:=reads_of I dy y u a2 (Xe.mono Zh dy y r2) ry
    exact SeqAt.compareEq_reads q1 q2 a1 a2 (by omega) ⟨.bl _,H,I,rfl,q _ H (Zg.refl _) rfl⟩
  · cases e
theorem opd_ne (hu:X.A.units+64 < cLine):OpD X (compareOp .NotEq) Vl:=by
  intro pins s σ H x y v u Q I rx ry h
  obtain ⟨O,dx,dy,d,th,r1,r2,e,q⟩:=h
  unfold Vl at e
  split at e
  · rename_i hk
    cases e
    obtain ⟨k1,k2⟩:=Bool.and_eq_true_iff.mp hk
    obtain ⟨a1,b1⟩:=okD_of k1
    obtain ⟨a2,b2⟩:=okD_of k2
    obtain ⟨as,q1⟩:=reads_of I dx x v a1 (Xe.mono Zh dx x r1) rx
    obtain ⟨bs,q2⟩:=reads_of I dy y u a2 (Xe.mono Zh dy y r2) ry
    exact SeqAt.compareNe_reads q1 q2 a1 a2 (by omega) ⟨.bl _,H,I,rfl,q _ H (Zg.refl _) rfl⟩
  · cases e
end
end L2

namespace L2
open PySem PySem.Spec PyProof.Rows
def X6:List D->Option (List Int)
  | []=>some []
  | .int i::ds=>(X6 ds).bind fun r=>some (i::r)
  | _=>none
theorem Xu:∀ {ds:List D} {is:List Int},X6 ds=some is->ds=is.map D.int
  | [],_,h=>by cases h;rfl
  | d::ds,is,h=>by
    cases d with
    | int i =>
      obtain ⟨r,e,h⟩:=bind_some h
      cases h
      rw [List.map_cons,Xu e]
    | _=>cases h
theorem intsOf_map (is:List Int):X6 (is.map D.int)=some is:=by
  induction is with
  | nil=>rfl
  | cons i is ih=>rw [List.map_cons,X6,ih];rfl
def blsOf:List D->Option (List Bool)
  | []=>some []
  | .bl i::ds=>(blsOf ds).bind fun r=>some (i::r)
  | _=>none
theorem blsOf_some:∀ {ds:List D} {is:List Bool},blsOf ds=some is->ds=is.map D.bl
  | [],_,h=>by cases h;rfl
  | d::ds,is,h=>by
    cases d with
    | bl i =>
      obtain ⟨r,e,h⟩:=bind_some h
      cases h
      rw [List.map_cons,blsOf_some e]
    | _=>cases h
theorem blsOf_map (is:List Bool):blsOf (is.map D.bl)=some is:=by
  induction is with
  | nil=>rfl
  | cons i is ih=>rw [List.map_cons,blsOf,ih];rfl
def Vh:List D->Option D
  | [.lst ds]=>(X6 ds).bind fun is=>some (.int is.sum)
  | [.tup ds]=>(X6 ds).bind fun is=>some (.int is.sum)
  | _=>none
def allD:List D->Option D
  | [.lst ds]=>(blsOf ds).bind fun is=>some (.bl (is.all id))
  | _=>none
section
variable {X:Cx} {pins:List (Addr×Obj)} {σ:St} {H:Hp} {s:Shared}
theorem reps1 {K:PySem.W.Frag} {d:D} {xs:List V} (r:Zs K H [d] xs):∃ v,xs=[v]/\Xe K H d v:=by
  obtain ⟨v,vr,e,h,t⟩:=r
  have:vr=[]:=t
  subst this
  exact ⟨v,e,h⟩
theorem sum_nums {ns:List Int} {vs:List Value} {xs:Array (Int×Tok)} (hi:IntsAre vs ns) (hx:vs.toArray=intItems xs):preSum (numAt xs) xs.size=ns.sum:=by
  have hn:numsOf vs.toArray.toList=ns:=by rw [show vs.toArray.toList=vs from rfl,hi.numsOf]
  rw [hx,nums_intItems] at hn
  rw [preSum_eq,List.take_of_length_le (by simp),hn]
theorem cd_sum (hc:X.calm=true):Xy X (.builtin "sum") Vh:=by
  intro pins s σ H xs us Q I rs h
  obtain ⟨O,ds,d,th,rp,e,q⟩:=h
  unfold Vh at e
  split at e
  · obtain ⟨is,e1,e⟩:=bind_some e
    cases e
    cases Xu e1
    obtain ⟨v,rfl,p,vs,rfl,hp,r2⟩:=reps1 rp
    cases r2.ints
    obtain ⟨u,rfl,ru⟩:=Vd rs
    cases ru
    obtain ⟨its,rv,pl,_⟩:=I.list (Wa.of (Zh _ _ hp))
    have hi:=X7 rv
    obtain ⟨ys,hy⟩:=hi.allInts.items
    have hl:=pl.isList
    rw [hy] at hl
    refine sum_intListG (I.ok.hd hc) hl fun h' tk t' hk=>?_
    rw [sum_nums hi hy]
    exact ⟨.int is.sum,H,I.kept hk,⟨t',rfl⟩,q _ H (Zg.refl _) rfl⟩
  · obtain ⟨is,e1,e⟩:=bind_some e
    cases e
    cases Xu e1
    obtain ⟨v,rfl,p,vs,rfl,hp,r2⟩:=reps1 rp
    cases r2.ints
    obtain ⟨u,rfl,ru⟩:=Vd rs
    cases ru
    obtain ⟨its,rv,pl,_⟩:=I.tuple (Wy.of (Zh _ _ hp))
    have hi:=X7 rv
    obtain ⟨ys,hy⟩:=hi.allInts.items
    have hl:s.heap.IsTuple p its.toArray:=pl
    rw [hy] at hl
    refine PySem.W.ktm_sumG (I.ok.hd hc) hl fun h' tk t' hk=>?_
    rw [sum_nums hi hy]
    exact ⟨.int is.sum,H,I.kept hk,⟨t',rfl⟩,q _ H (Zg.refl _) rfl⟩
  · cases e
theorem vals_bl {is:List Bool}:∀ {us:List Value},ZQ (is.map V.bl) us->us=is.map Value.bool:=by
  induction is with
  | nil=>intro us r;cases r;rfl
  | cons i is ih =>
    intro us r
    cases r with
    | cons r1 r2=>rw [List.map_cons,show _=_ from r1,ih r2]
theorem reps_bl {K:PySem.W.Frag}:∀ {is:List Bool} {vs:List V},Zs K H (is.map D.bl) vs->vs=is.map V.bl
  | [],_,h=>h
  | i::is,_,⟨v,r,e,h,t⟩=>by
    have:v=.bl i:=h
    subst this;subst e;rw [List.map_cons,reps_bl t]
theorem range_getD {is:List Bool} (b:Bool):(List.range is.length).map (fun i=>is.getD i b)=is:=by
  apply List.ext_getElem
  · simp
  · intro i h1 h2
    simp at h1
    simp [h2]
theorem list_walk {p:Addr} {is:List Bool} {A:Around} (hh:A.handled=none) (hl:s.heap.IsList p (is.map Value.bool).toArray) {Q:Value->Shared->Prop}
    (h:∀ I fp wr P St,Walks X.prog X.w A I fp wr is.length P St->TruthOf X.prog X.w A P (fun i=>is.getD i false)->∀ s2:Shared,s2.os=s.os->s2={ s with heap:=s2.heap }->St 0 s2.heap->(∀ b o,s.heap.get? b=some o->s2.heap.get? b=some o) ->
      (∀ h':Heap,(∀ b o,b∉wr->s2.heap.get? b=some o->h'.get? b=some o)->∀ b o,s.heap.get? b=some o->h'.get? b=some o)->Q (.ref I) s2) {E:Value->Shared->Prop} :
    wpAny (model X.prog X.w) A (pyIter (.ref p)) Q E s:=by
  have hlt:p < s.heap.objs.size:=by obtain ⟨_,e,_⟩:=hl;exact Heap.lt_size e
  have hsz:(is.map Value.bool).toArray.size=is.length:=by simp
  have W:=Walks.list (prog:=X.prog) (w:=X.w) (A:=A) hh s.heap.objs.size p (Nat.ne_of_lt hlt) (is.map Value.bool).toArray
  rw [hsz] at W
  refine wpAny_pyIter_list hl (h _ _ _ _ _ W (fun i v s' Q' E' hP hQ=>?_) _ rfl rfl ⟨⟨_,Heap.get?_push_size _ rfl,rfl,rfl⟩,hl.push _⟩ (fun b o e=>Heap.get?_push_of_some _ e) fun h' hk b o e=>?_)
  · have hv:v=.bool (is.getD i false):=by
      have hP:(List.map Value.bool is).toArray[i]?=some v:=hP
      rw [List.getElem?_toArray,List.getElem?_map] at hP
      cases q:is[i]? with
      | none=>rw [q] at hP;cases hP
      | some b=>rw [q] at hP;simp [List.getD,q];exact (Option.some.inj hP).symm
    subst hv
    exact wpAny_truthy_bool hQ
  · refine hk b o (fun hm=>?_) (Heap.get?_push_of_some _ e)
    have:b=s.heap.objs.size:=by simpa using hm
    subst this
    exact absurd (Heap.lt_size e) (Nat.lt_irrefl _)
theorem cd_all (hc:X.calm=true):Xy X (.builtin "all") allD:=by
  intro pins s σ H xs us Q I rs h
  obtain ⟨O,ds,d,th,rp,e,q⟩:=h
  unfold allD at e
  split at e
  · obtain ⟨is,e1,e⟩:=bind_some e
    cases e
    cases blsOf_some e1
    obtain ⟨v,rfl,p,vs,rfl,hp,r2⟩:=reps1 rp
    cases reps_bl r2
    obtain ⟨u,rfl,ru⟩:=Vd rs
    cases ru
    obtain ⟨its,rv,pl,_⟩:=I.list (Wa.of (Zh _ _ hp))
    cases vals_bl rv
    refine call_all_walk (list_walk (X:=X) (A:=X.A.in1) (I.ok.hd hc) pl.isList fun It fp wr P St W tr s2 _ es st k1 k2=>?_)
    refine ⟨It,fp,wr,_,P,St,_,rfl,W,st,tr,fun h' tk hk=>?_⟩
    have ea:(List.range is.length).all (fun i=>is.getD i false)=is.all id:=by
      conv=>rhs;rw [<- range_getD (is:=is) false]
      rw [List.all_map];rfl
    rw [ea]
    rw [es]
    exact ⟨.bl _,H,I.kept (k2 h' hk),rfl,q _ H (Zg.refl _) rfl⟩
  · cases e
def kindD:D->String
  | .non=>"NoneType"
  | .bl _=>"bool"
  | .int _=>"int"
  | .str _=>"str"
  | .tup _=>"tuple"
  | .lst _=>"list"
  | .scr _=>"list"
  | .dcK _ _=>"dict"
  | .dcT _ _=>"dict"
  | .dcF _ _=>"dict"
def isK (T:String) (d:D):Bool:=(kindD d == T) || ((kindD d == "bool") && (T == "int"))
def isD (T:String):D->Option D:=fun d=>some (.bl (isK T d))
structure Kits (K:PySem.W.Frag) (T:String):Prop where
  ans:∀ S∈["NoneType","bool","int","str","tuple","list","dict"],PySem.W.kitOne K (.type S) (.type T)=some ((S == T) || ((S == "bool") && (T == "int")))
theorem isinst_rep {A:Around} {E:Value->Shared->Prop} {T:String} {d:D} {v:V} {u:Value} {Q:Value->Shared->Prop} (kt:Kits X.K T) (I:ZE X pins σ H s) (r:Xe X.K H d v) (ru:Ya v u) (h:∀ tk,Q (.bool (isK T d)) { s with toks:=tk }) :
    wpAny (model X.prog X.w) A (call (.builtin "isinstance") [u,.type T]) Q E s:=by
  have an:PySem.W.kitOne X.K (.type (kindD d)) (.type T)=some (isK T d):=kt.ans (kindD d) (by cases d <;> simp [kindD])
  cases d with
  | non=>rw [show v=_ from r] at ru;cases ru;exact PySem.W.kia_one PySem.W.kitx_none I.kIn True.intro an (fun z=>nomatch z) h
  | bl y=>rw [show v=_ from r] at ru;cases ru;exact PySem.W.kia_one PySem.W.kitx_bool I.kIn True.intro an (fun z=>nomatch z) h
  | int i=>rw [show v=_ from r] at ru;obtain ⟨t,rfl⟩:=ru;exact PySem.W.kia_one PySem.W.kitx_int I.kIn True.intro an (fun z=>nomatch z) h
  | str y=>rw [show v=_ from r] at ru;obtain ⟨t,rfl⟩:=ru;exact PySem.W.kia_one PySem.W.kitx_str I.kIn True.intro an (fun z=>nomatch z) h
  | tup ds =>
    obtain ⟨a,vs,rfl,ht,_⟩:=r
    cases ru
    obtain ⟨its,_,⟨o,h1,h2,_⟩,_⟩:=I.tuple (Wy.of ht)
    exact PySem.W.kia_one PySem.W.kitx_tuple I.kIn ⟨o,h1,h2⟩ an (fun z=>nomatch z) h
  | lst ds =>
    obtain ⟨a,vs,rfl,ht,_⟩:=r
    cases ru
    obtain ⟨its,_,⟨o,n,h1,h2,_⟩,_⟩:=I.list (Wa.of ht)
    exact PySem.W.kia_one PySem.W.kitx_list I.kIn ⟨o,h1,h2⟩ an (fun z=>nomatch z) h
  | scr ns =>
    obtain ⟨a,rfl,ht⟩:=r
    cases ru
    obtain ⟨its,_,⟨o,n,h1,h2,_⟩,_⟩:=I.list ht
    exact PySem.W.kia_one PySem.W.kitx_list I.kIn ⟨o,h1,h2⟩ an (fun z=>nomatch z) h
  | dcK ks ds =>
    obtain ⟨a,kvs,rfl,hk,_⟩:=r
    cases ru
    obtain ⟨_,_,vs,_,o,es,ep,h1,h2,_⟩:=(show YJ X.prog X.w H s.heap a (.dK kvs) from I.hok a _ hk)
    exact PySem.W.kia_one PySem.W.kitx_dict I.kIn ⟨o,h1,h2.1⟩ an (fun z=>nomatch z) h
  | dcT ks ds =>
    obtain ⟨a,kvs,rfl,hk,_⟩:=r
    cases ru
    obtain ⟨_,_,xs,_,o,es,ep,h1,h2,_⟩:=(show YJ X.prog X.w H s.heap a (.dT kvs) from I.hok a _ hk)
    exact PySem.W.kia_one PySem.W.kitx_dict I.kIn ⟨o,h1,h2.1⟩ an (fun z=>nomatch z) h
  | dcF ks ds =>
    obtain ⟨a,fo,kvs,rfl,hk,_⟩:=r
    cases ru
    obtain ⟨_,_,_,xs,_,o,es,ep,h1,h2,_⟩:=(show YJ X.prog X.w H s.heap a (.frz fo (.dT kvs)) from I.hok a _ hk)
    exact PySem.W.kia_one PySem.W.kitx_dict I.kIn ⟨o,h1,h2.1⟩ an (fun z=>nomatch z) h
theorem call_isinst {T:String} (kt:Kits X.K T):X2 X (.builtin "isinstance") (fun xs H Q=>∃ O d v r,YR O H/\xs=[v,.ty T]/\Xe X.K (ZK O H) d v/\r=D.bl (isK T d)/\∀ w H',Zg H H'->Xe X.K (ZK O H') r w->Q w H'):=by
  intro pins s σ H xs us Q I rs h
  obtain ⟨O,d,v,r,th,rfl,hr,rfl,q⟩:=h
  cases rs with
  | cons r1 rs =>
    cases rs with
    | cons r2 rs =>
      cases rs
      cases r2
      exact isinst_rep kt I (Xe.mono Zh d v hr) r1 fun tk=>⟨.bl _,H,I.tok tk,rfl,q _ H (Zg.refl _) rfl⟩
theorem XB {a:Expr} {fa:FE} {T:String} {x:Str} {p p2 pos:Pos} (kt:Kits X.K T) (ha:EV X a fa) (hm:X.mg "isinstance"=none) (hx:X.mg x=none) (hv:bootBuiltins x=some (.type T)) (hgx:Gl X x:=by rfl) (hg:Gl X "isinstance":=by rfl)
    (hn:x≠"__name__":=by decide) (hd:(x == ("__debug__":Str))=false:=by decide)
    (h1:starEach [a,.Name x p2] X.env=(false,eval a X.env)::starEach [.Name x p2] X.env:=by rfl) (h2:starEach [.Name x p2] X.env=(false,eval (.Name x p2) X.env)::starEach [] X.env:=by rfl)
    (hpl:(backTo pos (starEach [.Name x p2] X.env)).any (·.1)=false:=by rfl):EV X (.Call (.Name "isinstance" p) [a,.Name x p2] [] pos) (f1 (isD T) fa) :=
  PE.imp (pe_callB (call_isinst kt) hg hm boot_isinstance (WE ha (WE (pe_bltn (v:=.ty T) hgx hx hv rfl hn hd) pa_nil h2) h1) (by decide) (by decide) h1 hpl) fun σ H Q ⟨O,ρ,d,rv,e,q⟩=>by
    obtain ⟨z,e1,e⟩:=bind_some e
    cases e
    exact ⟨O,ρ,z,rv,e1,fun v H1 s1 r1=>⟨O,z,v,_,rv.th.mono s1,rfl,r1,rfl,fun w H2 s2 r2=>q w H2 (Zg.trans s1 s2) r2⟩⟩
end
end L2

namespace ZP
open PySem PyProof.Rows
section
variable {prog:Program} {w:World} {A:Around} {E:Value->Shared->Prop} {s:Shared}
def It2 (b:Bool) (h:Heap) (p q:Addr) (k:Nat):Prop:=if b=true then h.IsListIter p q k else h.IsTupleIter p q k
def Sq2 (b:Bool) (h:Heap) (q:Addr) (xs:Array Value):Prop:=if b=true then h.IsList q xs else h.IsTuple q xs
theorem It2.ext {b:Bool} {h h':Heap} {p q c:Addr} {k:Nat} (x:It2 b h p q k) (e:Heap.ExtBut c h h') (n:p≠c):It2 b h' p q k:=by
  cases b
  · obtain ⟨o,ho,r⟩:=x;exact ⟨o,e _ _ n ho,r⟩
  · obtain ⟨o,ho,r⟩:=x;exact ⟨o,e _ _ n ho,r⟩
theorem It2.at_ {b:Bool} {h h':Heap} {p q:Addr} {k:Nat} (x:It2 b h p q k) (e:∀ o,h.get? p=some o->h'.get? p=some o):It2 b h' p q k:=by
  cases b
  · obtain ⟨o,ho,r⟩:=x;exact ⟨o,e _ ho,r⟩
  · obtain ⟨o,ho,r⟩:=x;exact ⟨o,e _ ho,r⟩
theorem It2.ob {b:Bool} {h:Heap} {p q:Addr} {k:Nat} (x:It2 b h p q k):∃ o,h.get? p=some o/\∀ v,o.data≠.cell v:=by
  cases b
  · obtain ⟨o,ho,_,d⟩:=x;exact ⟨o,ho,fun v z=>by rw [d] at z;cases z⟩
  · obtain ⟨o,ho,_,d⟩:=x;exact ⟨o,ho,fun v z=>by rw [d] at z;cases z⟩
theorem Sq2.ext {b:Bool} {h h':Heap} {q c:Addr} {xs:Array Value} (x:Sq2 b h q xs) (e:Heap.ExtBut c h h') (n:q≠c):Sq2 b h' q xs:=by
  cases b
  · obtain ⟨o,ho,r⟩:=x;exact ⟨o,e _ _ n ho,r⟩
  · obtain ⟨o,ho,r⟩:=x;exact ⟨o,e _ _ n ho,r⟩
theorem tup_next {p q:Addr} {k:Nat} {xs:Array Value} {y:Value} {Q:Value->Shared->Prop} (hi:s.heap.IsTupleIter p q k) (hq:s.heap.IsTuple q xs) (hy:xs[k]?=some y)
    (done:∀ h',h'.IsTupleIter p q (k+1)->Heap.SameBut p s.heap h'->Q y { s with heap:=h' }):wpAny (model prog w) A (Builtin.SmallTypes.nextOf (.ref p)) Q E s:=by
  obtain ⟨oi,gi,ci,di⟩:=id hi
  obtain ⟨oq,gq,_,nq,dq⟩:=hq
  unfold Builtin.SmallTypes.nextOf
  refine wpAny_bind (wpAny_callSpecial?_slot (name:=Str.ofString "__next__") hi.typeIs F.slot_tuple_iterator_next (wpAny_call_entry F.slot_tuple_iterator_next hi.typeIs F.entry_tuple_iterator_next ?_ (F.args_tuple_iterator_next_1 _)))
  show wpAny _ _ (field (.ref p) 0 >>= _) _ _ s
  refine wpAny_bind (wpAny_field gi di (x:=.ref q) rfl ?_)
  show wpAny _ _ (if (Value.ref q == Value.none)=true then _ else _) _ _ s
  rw [if_neg (fun z:(Value.ref q == Value.none)=true=>Bool.false_ne_true z)]
  show wpAny _ _ (field (.ref p) 1 >>= _) _ _ s
  refine wpAny_bind (wpAny_field gi di (x:=.int k 0) rfl ?_)
  show wpAny _ _ (seqItems? (.ref q) >>= _) _ _ s
  refine wpAny_bind (wpAny_seqItems gq dq ?_)
  simp only [Int.toNat_natCast,hy]
  refine wpAny_bind (wpAny_setField gi di (by simp) (wpAny_pure ⟨y,rfl,wpAny_pure (done _ ?_ (Heap.SameBut.update ..))⟩))
  refine ⟨_,Heap.get?_update_self _ gi (Obj.isFreed_of_fields (Obj.data_mapFields di _)),(Obj.cls_mapFields ..).trans ci,?_⟩
  rw [Obj.data_mapFields di]
  simp [rawInt]
theorem tup_over {p q:Addr} {k:Nat} {xs:Array Value} {Q:Value->Shared->Prop} (hh:A.handled=none) (hi:s.heap.IsTupleIter p q k) (hq:s.heap.IsTuple q xs) (hy:xs[k]?=none)
    (out:∀ h' e,Heap.ExtBut p s.heap h'->(∃ o,h'.get? e=some o/\o.cls=.type "StopIteration")->E (.ref e) { s with heap:=h' }):wpAny (model prog w) A (Builtin.SmallTypes.nextOf (.ref p)) Q E s:=by
  obtain ⟨oi,gi,ci,di⟩:=id hi
  obtain ⟨oq,gq,_,nq,dq⟩:=hq
  unfold Builtin.SmallTypes.nextOf
  refine wpAny_bind (wpAny_callSpecial?_slot (name:=Str.ofString "__next__") hi.typeIs F.slot_tuple_iterator_next (wpAny_call_entry F.slot_tuple_iterator_next hi.typeIs F.entry_tuple_iterator_next ?_ (F.args_tuple_iterator_next_1 _)))
  show wpAny _ _ (field (.ref p) 0 >>= _) _ _ s
  refine wpAny_bind (wpAny_field gi di (x:=.ref q) rfl ?_)
  show wpAny _ _ (if (Value.ref q == Value.none)=true then _ else _) _ _ s
  rw [if_neg (fun z:(Value.ref q == Value.none)=true=>Bool.false_ne_true z)]
  show wpAny _ _ (field (.ref p) 1 >>= _) _ _ s
  refine wpAny_bind (wpAny_field gi di (x:=.int k 0) rfl ?_)
  show wpAny _ _ (seqItems? (.ref q) >>= _) _ _ s
  refine wpAny_bind (wpAny_seqItems gq dq ?_)
  simp only [Int.toNat_natCast,hy]
  refine wpAny_bind (wpAny_rule (wpAny_bind (wpAny_setField gi di (by simp) ?_)))
  show wpAny _ _ (newExc (.type "StopIteration") [] >>= fun _=>_) _ _ _
  refine wpAny_bind ?_
  simp only [newExc,newTuple]
  refine wpAny_bind (wpAny_newObj_type (hd:=by size_fits) ?_)
  refine wpAny_bind (m:=firstArgMember _ _) (wpAny_of_eq (a:=Value.none) (by first | rfl | (simp only [firstArgMember] <;> rfl)) ?_)
  refine wpAny_newObj_type (hd:=by size_fits) ?_
  simp only [raiseNew]
  refine wpAny_bind (wpAny_handled ?_)
  first | rw [show A.in1.handled=none from hh] | rw [hh]
  refine wpAny_bind (wpAny_pure (wpAny_throw (out _ _ (((Heap.SameBut.update ..).extBut.push _).push _) ⟨_,Heap.get?_push_size _ rfl,rfl⟩)))
theorem next2 {b:Bool} {p q:Addr} {k:Nat} {xs:Array Value} {y:Value} {Q:Value->Shared->Prop} (hi:It2 b s.heap p q k) (hq:Sq2 b s.heap q xs) (hy:xs[k]?=some y)
    (done:∀ h',It2 b h' p q (k+1)->Heap.SameBut p s.heap h'->Q y { s with heap:=h' }):wpAny (model prog w) A (Builtin.SmallTypes.nextOf (.ref p)) Q E s:=by
  cases b
  · exact tup_next hi hq hy done
  · exact wpAny_nextOf_list_item hi hq hy done
theorem over2 {b:Bool} {p q:Addr} {k:Nat} {xs:Array Value} {Q:Value->Shared->Prop} (hh:A.handled=none) (hi:It2 b s.heap p q k) (hq:Sq2 b s.heap q xs) (hy:xs[k]?=none)
    (out:∀ h' e,Heap.ExtBut p s.heap h'->(∃ o,h'.get? e=some o/\o.cls=.type "StopIteration")->E (.ref e) { s with heap:=h' }):wpAny (model prog w) A (Builtin.SmallTypes.nextOf (.ref p)) Q E s:=by
  cases b
  · exact tup_over hh hi hq hy out
  · exact wpAny_nextOf_list_end hh hi hq hy out
structure Apart (c u v p1 p2 q1 q2:Addr):Prop where
  uc:u≠c
  vc:v≠c
  p1c:p1≠c
  p2c:p2≠c
  uv:u≠v
  up1:u≠p1
  up2:u≠p2
  vp1:v≠p1
  vp2:v≠p2
  p12:p1≠p2
  q1c:q1≠c
  q1v:q1≠v
  q1p1:q1≠p1
  q1p2:q1≠p2
  q2c:q2≠c
  q2v:q2≠v
  q2p1:q2≠p1
  q2p2:q2≠p2
variable {b1 b2:Bool} {c u v p1 p2 q1 q2:Addr} {k1 k2:Nat} {xs ys:Array Value} {x y a b:Value}
theorem znext {Q:Value->Shared->Prop} (D:Apart c u v p1 p2 q1 q2) (hz:IsZip s.heap c u v .none) (hu:IsPair s.heap u (.ref p1) (.ref p2)) (hv:IsPair s.heap v a b)
    (g1:It2 b1 s.heap p1 q1 k1) (g2:It2 b2 s.heap p2 q2 k2) (d1:Sq2 b1 s.heap q1 xs) (d2:Sq2 b2 s.heap q2 ys) (hx:xs[k1]?=some x) (hy:ys[k2]?=some y)
    (done:∀ h',IsZip h' c u v (rawInt s.heap.objs.size)->IsPair h' v x y->It2 b1 h' p1 q1 (k1+1)->It2 b2 h' p2 q2 (k2+1)->IsPair h' s.heap.objs.size x y->h'.objs.size=s.heap.objs.size+1 ->
      (∀ m o,m≠c->m≠v->m≠p1->m≠p2->s.heap.get? m=some o->h'.get? m=some o)->Q (.ref s.heap.objs.size) { s with heap:=h' }) :
    wpAny (model prog w) A (Builtin.«zip.__next__» ⟨[.ref c],[]⟩) (fun fin s'=>∃ r,fin=.done (.ret r)/\Q r s') E s:=by
  show wpAny _ _ (field (.ref c) 2 >>= _) _ _ _
  refine wpAny_bind (wpAny_field (x:=.bool false) hz rfl rfl ?_)
  show wpAny _ _ (field (.ref c) 3 >>= _) _ _ _
  refine wpAny_bind (wpAny_field (x:=.ref u) hz rfl rfl ?_)
  refine wpAny_bind (wpAny_seqItems hu rfl ?_)
  show wpAny _ _ (Builtin.SmallTypes.ownedTupleIsFree (.ref c) >>= _) _ _ _
  refine wpAny_bind ?_
  unfold Builtin.SmallTypes.ownedTupleIsFree
  refine wpAny_bind (wpAny_field (x:=.none) hz rfl rfl (wpAny_pure ?_))
  simp only [if_true]
  refine wpAny_bind (wpAny_rule ?_)
  refine wpAny_bind (wpAny_field (x:=.ref v) hz rfl rfl ?_)
  refine wpAny_bind (wpAny_setField_rec hz (by simp) fun e1 z1 t1=>?_)
  replace z1:IsZip e1 c u v .ellipsis:=z1
  refine wpAny_bind ?_
  simp only [List.zipIdx_cons,List.zipIdx_nil,List.forIn_cons,List.forIn_nil]
  refine wpAny_bind (wpAny_bind (wpAny_onRaise ?_))
  show wpAny _ _ (Builtin.SmallTypes.nextOf (.ref p1) >>= _) _ _ _
  refine wpAny_bind (next2 (g1.ext t1.extBut D.p1c) (d1.ext t1.extBut D.q1c) hx fun e2 i2 t2=>wpAny_pure ?_)
  have v2:IsPair e2 v a b:=t2.extBut _ _ D.vp1 (t1.extBut _ _ D.vc hv)
  refine wpAny_bind (wpAny_seqItems v2 rfl ?_)
  refine wpAny_bind (wpAny_updateSeq_pair v2 fun e3 v3 t3=>?_)
  replace v3:IsPair e3 v x b:=v3
  refine wpAny_bind (wpAny_letGo (wpAny_pure ?_))
  refine wpAny_bind (wpAny_bind (wpAny_onRaise ?_))
  show wpAny _ _ (Builtin.SmallTypes.nextOf (.ref p2) >>= _) _ _ _
  refine wpAny_bind (next2 (((g2.ext t1.extBut D.p2c).ext t2.extBut D.p12.symm).ext t3.extBut D.vp2.symm) (((d2.ext t1.extBut D.q2c).ext t2.extBut D.q2p1).ext t3.extBut D.q2v) hy fun e4 i4 t4=>wpAny_pure ?_)
  have v4:IsPair e4 v x b:=t4.extBut _ _ D.vp2 v3
  refine wpAny_bind (wpAny_seqItems v4 rfl ?_)
  refine wpAny_bind (wpAny_updateSeq_pair v4 fun e5 v5 t5=>?_)
  replace v5:IsPair e5 v x y:=v5
  refine wpAny_bind (wpAny_letGo (wpAny_pure (wpAny_pure ?_)))
  refine wpAny_bind (wpAny_seqItems v5 rfl ?_)
  refine wpAny_bind (wpAny_newTuple ?_)
  have hsz:e5.objs.size=s.heap.objs.size:=by rw [t5.1,t4.1,t3.1,t2.1,t1.1]
  have z5:IsZip e5 c u v .ellipsis:=t5.extBut _ _ D.vc.symm (t4.extBut _ _ D.p2c.symm (t3.extBut _ _ D.vc.symm (t2.extBut _ _ D.p1c.symm z1)))
  have k5:∀ m o,m≠c->m≠v->m≠p1->m≠p2->s.heap.get? m=some o->e5.get? m=some o:=fun m o m1 m2 m3 m4 e =>
    t5.extBut _ _ m2 (t4.extBut _ _ m4 (t3.extBut _ _ m2 (t2.extBut _ _ m3 (t1.extBut _ _ m1 e))))
  have i5:It2 b1 e5 p1 q1 (k1+1):=((i2.ext t3.extBut D.vp1.symm).ext t4.extBut D.p12).ext t5.extBut D.vp1.symm
  have j5:It2 b2 e5 p2 q2 (k2+1):=i4.ext t5.extBut D.vp2.symm
  have zlt:c < e5.objs.size:=Heap.lt_size z5
  show wpAny _ _ (Builtin.SmallTypes.ownedTupleHandOut (.ref c) (.ref e5.objs.size) >>= _) _ _ _
  refine wpAny_bind ?_
  unfold Builtin.SmallTypes.ownedTupleHandOut
  have z6:IsZip (e5.push { cls:=.type "tuple",data:=.seq #[x,y] }) c u v .ellipsis:=Heap.get?_push_of_some _ z5
  refine wpAny_bind (wpAny_setField_rec z6 (by simp) fun e7 z7 t7=>?_)
  replace z7:IsZip e7 c u v (rawInt e5.objs.size):=z7
  refine wpAny_setField_rec z7 (by simp) fun e8 z8 t8=>?_
  replace z8:IsZip e8 c u v (rawInt e5.objs.size):=z8
  have up:∀ m o,m≠c->e5.get? m=some o->e8.get? m=some o:=fun m o m1 e=>t8.extBut _ _ m1 (t7.extBut _ _ m1 (Heap.get?_push_of_some _ e))
  have n8:IsPair e8 e5.objs.size x y:=t8.extBut _ _ (Nat.ne_of_gt zlt) (t7.extBut _ _ (Nat.ne_of_gt zlt) (Heap.get?_push_size _ rfl))
  have w8:e8.objs.size=e5.objs.size+1:=by rw [t8.1,t7.1,Heap.size_push]
  rw [hsz] at z8 n8 w8
  refine wpAny_pure ⟨_,rfl,?_⟩
  show Q (.ref e5.objs.size) _
  rw [hsz]
  exact done e8 z8 (up _ _ D.vc v5) (i5.at_ fun o e=>up _ o D.p1c e) (j5.at_ fun o e=>up _ o D.p2c e) n8 w8 fun m o m1 m2 m3 m4 e=>up m o m1 (k5 m o m1 m2 m3 m4 e)
theorem zover {Q:Fin->Shared->Prop} (hh:A.handled=none) (D:Apart c u v p1 p2 q1 q2) (hz:IsZip s.heap c u v .none) (hu:IsPair s.heap u (.ref p1) (.ref p2)) (hv:IsPair s.heap v a b)
    (g1:It2 b1 s.heap p1 q1 k1) (g2:It2 b2 s.heap p2 q2 k2) (d1:Sq2 b1 s.heap q1 xs) (d2:Sq2 b2 s.heap q2 ys) (hend:xs[k1]?=none\/ys[k2]?=none)
    (out:∀ h' e,(∀ m o,m≠c->m≠v->m≠p1->m≠p2->s.heap.get? m=some o->h'.get? m=some o)->(∃ o,h'.get? e=some o/\o.cls=.type "StopIteration")->E (.ref e) { s with heap:=h' }) :
    wpAny (model prog w) A (Builtin.«zip.__next__» ⟨[.ref c],[]⟩) Q E s:=by
  show wpAny _ _ (field (.ref c) 2 >>= _) _ _ _
  refine wpAny_bind (wpAny_field (x:=.bool false) hz rfl rfl ?_)
  show wpAny _ _ (field (.ref c) 3 >>= _) _ _ _
  refine wpAny_bind (wpAny_field (x:=.ref u) hz rfl rfl ?_)
  refine wpAny_bind (wpAny_seqItems hu rfl ?_)
  show wpAny _ _ (Builtin.SmallTypes.ownedTupleIsFree (.ref c) >>= _) _ _ _
  refine wpAny_bind ?_
  unfold Builtin.SmallTypes.ownedTupleIsFree
  refine wpAny_bind (wpAny_field (x:=.none) hz rfl rfl (wpAny_pure ?_))
  simp only [if_true]
  refine wpAny_bind (wpAny_rule ?_)
  refine wpAny_bind (wpAny_field (x:=.ref v) hz rfl rfl ?_)
  refine wpAny_bind (wpAny_setField_rec hz (by simp) fun e1 z1 t1=>?_)
  replace z1:IsZip e1 c u v .ellipsis:=z1
  refine wpAny_bind ?_
  simp only [List.zipIdx_cons,List.zipIdx_nil,List.forIn_cons,List.forIn_nil]
  refine wpAny_bind (wpAny_bind (wpAny_onRaise ?_))
  show wpAny _ _ (Builtin.SmallTypes.nextOf (.ref p1) >>= _) _ _ _
  cases hx:xs[k1]? with
  | none =>
    refine wpAny_bind (over2 hh (g1.ext t1.extBut D.p1c) (d1.ext t1.extBut D.q1c) hx fun e2 m t2 hm=>?_)
    obtain ⟨om,gm,cm⟩:=hm
    have z2:IsZip e2 c u v .ellipsis:=t2 _ _ D.p1c.symm z1
    have mz:m≠c:=fun x=>by subst x;rw [z2] at gm;cases gm;simp at cm
    exact wpAny_setField_rec z2 (by simp) fun e3 _ t3=>out e3 m (fun n o n1 _ n3 _ q=>t3.extBut _ _ n1 (t2 _ _ n3 (t1.extBut _ _ n1 q))) ⟨om,t3.extBut _ _ mz gm,cm⟩
  | some x =>
    have hy:ys[k2]?=none:=by
      rcases hend with h | h
      · rw [hx] at h;cases h
      · exact h
    refine wpAny_bind (next2 (g1.ext t1.extBut D.p1c) (d1.ext t1.extBut D.q1c) hx fun e2 i2 t2=>wpAny_pure ?_)
    have v2:IsPair e2 v a b:=t2.extBut _ _ D.vp1 (t1.extBut _ _ D.vc hv)
    refine wpAny_bind (wpAny_seqItems v2 rfl ?_)
    refine wpAny_bind (wpAny_updateSeq_pair v2 fun e3 v3 t3=>?_)
    refine wpAny_bind (wpAny_letGo (wpAny_pure ?_))
    refine wpAny_bind (wpAny_bind (wpAny_onRaise ?_))
    show wpAny _ _ (Builtin.SmallTypes.nextOf (.ref p2) >>= _) _ _ _
    refine wpAny_bind (over2 hh (((g2.ext t1.extBut D.p2c).ext t2.extBut D.p12.symm).ext t3.extBut D.vp2.symm) (((d2.ext t1.extBut D.q2c).ext t2.extBut D.q2p1).ext t3.extBut D.q2v) hy fun e4 m t4 hm=>?_)
    obtain ⟨om,gm,cm⟩:=hm
    have z4:IsZip e4 c u v .ellipsis:=t4 _ _ D.p2c.symm (t3.extBut _ _ D.vc.symm (t2.extBut _ _ D.p1c.symm z1))
    have mz:m≠c:=fun x=>by subst x;rw [z4] at gm;cases gm;simp at cm
    exact wpAny_setField_rec z4 (by simp) fun e5 _ t5=>out e5 m (fun n o n1 n2 n3 n4 q=>t5.extBut _ _ n1 (t4 _ _ n4 (t3.extBut _ _ n2 (t2.extBut _ _ n3 (t1.extBut _ _ n1 q))))) ⟨om,t5.extBut _ _ mz gm,cm⟩
theorem zstep {Q:Option Value->Shared->Prop} (D:Apart c u v p1 p2 q1 q2) (hz:IsZip s.heap c u v .none) (hu:IsPair s.heap u (.ref p1) (.ref p2)) (hv:IsPair s.heap v a b)
    (g1:It2 b1 s.heap p1 q1 k1) (g2:It2 b2 s.heap p2 q2 k2) (d1:Sq2 b1 s.heap q1 xs) (d2:Sq2 b2 s.heap q2 ys) (hx:xs[k1]?=some x) (hy:ys[k2]?=some y)
    (done:∀ h',IsZip h' c u v (rawInt s.heap.objs.size)->IsPair h' v x y->It2 b1 h' p1 q1 (k1+1)->It2 b2 h' p2 q2 (k2+1)->IsPair h' s.heap.objs.size x y->h'.objs.size=s.heap.objs.size+1 ->
      (∀ m o,m≠c->m≠v->m≠p1->m≠p2->s.heap.get? m=some o->h'.get? m=some o)->Q (some (.ref s.heap.objs.size)) { s with heap:=h' }) :
    wpAny (model prog w) A (pyNext (.ref c)) Q E s:=by
  have ty:s.TypeIs (.ref c) "zip":=⟨_,hz,rfl⟩
  unfold pyNext
  exact wpAny_bind (wpAny_attempt (wpAny_callSpecial?_slot (name:=Str.ofString "__next__") ty F.slot_zip_next (wpAny_call_entry F.slot_zip_next ty F.entry_zip_next
    (znext D hz hu hv g1 g2 d1 d2 hx hy fun h' a1 a2 a3 a4 a5 a6 a7=>wpAny_pure (done h' a1 a2 a3 a4 a5 a6 a7)) (F.args_zip_next_1 _))))
theorem zstop {Q:Option Value->Shared->Prop} (hh:A.handled=none) (D:Apart c u v p1 p2 q1 q2) (hz:IsZip s.heap c u v .none) (hu:IsPair s.heap u (.ref p1) (.ref p2)) (hv:IsPair s.heap v a b)
    (g1:It2 b1 s.heap p1 q1 k1) (g2:It2 b2 s.heap p2 q2 k2) (d1:Sq2 b1 s.heap q1 xs) (d2:Sq2 b2 s.heap q2 ys) (hend:xs[k1]?=none\/ys[k2]?=none)
    (done:∀ h',(∀ m o,m≠c->m≠v->m≠p1->m≠p2->s.heap.get? m=some o->h'.get? m=some o)->Q none { s with heap:=h' }):wpAny (model prog w) A (pyNext (.ref c)) Q E s:=by
  have ty:s.TypeIs (.ref c) "zip":=⟨_,hz,rfl⟩
  unfold pyNext
  refine wpAny_bind (wpAny_attempt (wpAny_callSpecial?_slot (name:=Str.ofString "__next__") ty F.slot_zip_next (wpAny_call_entry F.slot_zip_next ty F.entry_zip_next
    (zover hh D hz hu hv g1 g2 d1 d2 hend fun h' e hk he=>?_) (F.args_zip_next_1 _))))
  obtain ⟨o,ho,hc⟩:=he
  refine wpAny_bind (wpAny_isInstance (T:="StopIteration") (b:=true) ⟨o,ho,hc⟩ isSubtype_stop (wpAny_pure (done _ hk)))
abbrev itObj (b:Bool) (q:Addr):Obj:={ cls:=.type (if b=true then "list_iterator" else "tuple_iterator"),data:=.fields #[.ref q,.int 0 0] }
theorem iter2 {Q:Value->Shared->Prop} {q:Addr} (bb:Bool) (hq:Sq2 bb s.heap q xs) (h:Q (.ref s.heap.objs.size) { s with heap:=s.heap.push (itObj bb q) }):wpAny (model prog w) A (pyIter (.ref q)) Q E s:=by
  cases bb
  · exact wpAny_pyIter_tuple hq h
  · exact wpAny_pyIter_list hq h
end
end ZP

namespace HT
open PySem PyProof.Rows
section
variable {prog:Program} {w:World} {A:Around} {E:Value->Shared->Prop} {s:Shared}
theorem getItem_tuple_whole {t sl:Addr} {items:Array Value} {vl vu:Value} {lo hi:Option Int} {Q:Value->Shared->Prop} (ht:IsTup s.heap t items) (hs:s.heap.IsSliceOf sl vl vu .none) (pl:IsPart vl lo) (pu:IsPart vu hi)
    (h1:sIx items.size 0 lo=0) (h2:sIx items.size items.size hi=items.size) (h:Q (.ref t) s):wpAny (model prog w) A (getItem (.ref t) (.ref sl)) Q E s:=by
  obtain ⟨os,hos,hcs,hds⟩:=id hs
  have hTs:s.TypeIs (.ref sl) "slice":=⟨os,hos,hcs⟩
  unfold getItem
  try with_reducible refine wpAny_holding ?_
  first | refine wpAny_bind (wpAny_pure ?_) | skip
  refine wpAny_bind (wpAny_sequenceKey ht.typeIs (by decide) ?_)
  refine wpAny_bind (wpAny_callSpecial?_slot (name:=Str.ofString "__getitem__") ht.typeIs PyProof.Rows.slot_tuple_getitem
    (wpAny_call_entry PyProof.Rows.slot_tuple_getitem ht.typeIs entry_tuple_getitem ?_ (args_tuple_getitem _ _)))
  show wpAny _ _ (Builtin.Tuple.tupleItemsOf (.ref t) >>= _) _ _ s
  refine wpAny_bind (tupleItemsOf_ ht ?_)
  refine wpAny_bind (wpAny_typeOf hTs ?_)
  rw [if_pos (by decide)]
  refine wpAny_bind (Vi hs pl pu ?_)
  have hyes:((((sIx items.size 0 lo:Nat):Int) == 0 && (1:Int) == 1 && (sIx items.size items.size hi - sIx items.size 0 lo) == items.size)=true):=by
    rw [h1,h2];simp
  show wpAny _ _ (if (((sIx items.size 0 lo:Nat):Int) == 0 && (1:Int) == 1 && (sIx items.size items.size hi - sIx items.size 0 lo) == items.size)=true then _ else _) _ _ s
  rw [if_pos hyes]
  refine wpAny_bind ?_
  unfold Builtin.Tuple.tupleIsExact
  refine wpAny_bind (wpAny_typeOf ht.typeIs (wpAny_pure ?_))
  rw [if_pos (by rfl)]
  refine wpAny_bind (wpAny_rule ?_)
  exact wpAny_pure ⟨_,rfl,wpAny_pure h⟩
end
end HT
namespace L2
open PySem PySem.Spec PyProof.Rows
section
variable {X:Cx}
def Xt:D->D->Option D
  | .int i,.int j=>some (.bl (decide (i < j)))
  | .tup a,.tup b=>(X6 a).bind fun is=>(X6 b).bind fun js=>some (.bl (HT.lexLt is js))
  | _,_=>none
theorem opd_ltX (hu:X.A.units < cLine):OpD X (compareOp .Lt) Xt:=OpD.of (OpR.or op_lt (op_ltT hu)) fun x y H Q ⟨O,dx,dy,d,th,rx,ry,e,q⟩=>by
  unfold Xt at e
  split at e
  · cases e
    exact .inl ⟨_,_,rx,ry,q _ H (Zg.refl _) rfl⟩
  · obtain ⟨is,e1,e⟩:=bind_some e
    obtain ⟨js,e2,e⟩:=bind_some e
    cases e
    cases Xu e1
    cases Xu e2
    obtain ⟨p,vs,rfl,hp,rp⟩:=rx
    obtain ⟨p2,us,rfl,hp2,rp2⟩:=ry
    cases rp.ints
    cases rp2.ints
    exact .inr ⟨p,p2,is,js,rfl,rfl,Wy.of (Zh _ _ hp),Wy.of (Zh _ _ hp2),q _ H (Zg.refl _) rfl⟩
  · cases e
abbrev FP:=Wp->Option (Option Int)
def pN:FP:=fun _=>some none
def pS (f:FE):FP:=fun ρ=>(f ρ).bind fun d=>match d with | .int i=>some (some i) | _=>none
def tP (K:PySem.W.Frag) (p:FP):TO:=fun σ H Q=>∃ O ρ o,RV K O H ρ σ/\p ρ=some o/\∀ H',Zg H H'->Q o H'
def PD (X:Cx) (e:Option Expr) (p:FP):Prop:=PO X e (tP X.K p)
theorem PO.imp {e:Option Expr} {t t':TO} (h:PO X e t) (k:∀ σ H Q,t' σ H Q->t σ H Q):PO X e t':=fun pins s σ H Q I hw=>h pins s σ H Q I (k σ H Q hw)
theorem Xm:PD X none pN:=PO.imp po_none fun σ H Q ⟨O,ρ,o,rv,e,q⟩=>by
  cases e
  exact q H (Zg.refl _)
theorem Xl {e:Expr} {f:FE} (h:EV X e f):PD X (some e) (pS f):=PO.imp (po_some h) fun σ H Q ⟨O,ρ,o,rv,e,q⟩=>by
  obtain ⟨d,e1,e⟩:=bind_some e
  refine ⟨O,ρ,d,rv,e1,fun v H1 s1 r1=>?_⟩
  cases d with
  | int i=>cases e;exact ⟨i,r1,q H1 s1⟩
  | _=>cases e
def cutD (ds:List D) (lo hi:Option Int):List D:=(ds.drop (HT.sIx ds.length 0 lo)).take (HT.sIx ds.length ds.length hi - HT.sIx ds.length 0 lo)
def slD:D->Option Int->Option Int->Option D
  | .lst ds,lo,hi=>some (.lst (cutD ds lo hi))
  | .tup ds,lo,hi=>some (.tup (cutD ds lo hi))
  | _,_,_=>none
def fSl (f:FE) (lo hi:FP):FE:=fun ρ=>(f ρ).bind fun d=>(lo ρ).bind fun l=>(hi ρ).bind fun u=>slD d l u
theorem cut_reps {K:PySem.W.Frag} {H:Hp} {ds:List D} {vs:List V} (r:Zs K H ds vs) (lo hi:Option Int):Zs K H (cutD ds lo hi) (cutV vs lo hi):=by
  unfold cutD cutV
  rw [r.length]
  exact (r.drop _).take _
def rSlW (K:PySem.W.Frag):V->Option Int->Option Int->Hp->VK->Prop:=fun x lo hi H Q=>∃ a xs,x=.ref a/\Wy K H a xs/\(HT.sIx xs.length 0 lo=0/\HT.sIx xs.length xs.length hi=xs.length)/\Q (.ref a) H
theorem sl_whole:SlR X (rSlW X.K):=by
  intro pins s σ H x v vl vu lo hi sl Q I rx hs pl pu h
  obtain ⟨a,xs,rfl,hx,hw,q⟩:=h
  cases rx
  obtain ⟨its,r,ht,hz⟩:=I.tuple hx
  have hlen:its.toArray.size=xs.length:=by rw [List.size_toArray];exact r.length.symm
  refine ⟨"tuple",_,PyProof.Rows.slot_tuple_getitem.lookup,ht.typeIs,?_⟩
  exact HT.getItem_tuple_whole ht hs pl pu (by rw [hlen];exact hw.1) (by rw [hlen];exact hw.2) ⟨.ref a,H,I,rfl,q⟩
theorem YQ {e:Expr} {lo hi:Option Expr} {f:FE} {pl ph:FP} {pos p2:Pos} (he:EV X e f) (hl:PD X lo pl) (hu:PD X hi ph):EV X (.Subscript e (.Slice lo hi none p2) pos) (fSl f pl ph) :=
  PE.imp (pe_slice (sl_list.or (sl_tup.or sl_whole)) he hl hu) fun σ H Q ⟨O,ρ,d,rv,e,q⟩=>by
    obtain ⟨x,e1,e⟩:=bind_some e
    obtain ⟨l,e2,e⟩:=bind_some e
    obtain ⟨u,e3,e⟩:=bind_some e
    refine ⟨O,ρ,x,rv,e1,fun v H1 s1 r1=>⟨O,ρ,l,rv.mono s1,e2,fun H2 s2=>⟨O,ρ,u,rv.mono (Zg.trans s1 s2),e3,fun H3 s3=>?_⟩⟩⟩
    have r3:=Xe.mono (ZH (O:=O) (Zg.trans s2 s3)) x v r1
    have th3:=rv.th.mono (Zg.trans s1 (Zg.trans s2 s3))
    have q3:=fun w H4 s4=>q w H4 (Zg.trans (Zg.trans s1 (Zg.trans s2 s3)) s4)
    cases x with
    | lst ds =>
      cases e
      obtain ⟨a,vs,rfl,ha,rs⟩:=r3
      exact .inl ⟨a,vs,rfl,Wa.of (Zh _ _ ha),fun p hp=>q3 _ _ (Zg.new hp) (YD th3 hp (cut_reps rs l u))⟩
    | tup ds =>
      cases e
      obtain ⟨a,vs,rfl,ha,rs⟩:=r3
      have hl:=rs.length
      by_cases hw:HT.sIx vs.length 0 l=0/\HT.sIx vs.length vs.length u=vs.length
      · have ec:cutD ds l u=ds:=by
          unfold cutD
          rw [<- hl,hw.1,hw.2]
          simp [hl]
        rw [ec] at q3
        exact .inr (.inr ⟨a,vs,rfl,Wy.of (Zh _ _ ha),hw,q3 _ H3 (Zg.refl _) ⟨a,vs,rfl,ha,rs⟩⟩)
      · exact .inr (.inl ⟨a,vs,rfl,Wy.of (Zh _ _ ha),hw,fun p hp=>q3 _ _ (Zg.new hp) (Y5 th3 hp (cut_reps rs l u))⟩)
    | _=>cases e
theorem Yg (i:Nat) {x:Str} {pos:Pos} (hN:X.N.Nodup) (hi:X.N[i]?=some x:=by rfl) (hx:Loc X.env.scope x:=by first | exact Or.inl rfl | exact Or.inr rfl)
    (hf:X.fn x=true\/X.env.scope.names.lookup x=some .local:=by first | exact .inl rfl | exact .inr rfl):PG X (.Name x pos) (gName i):=pg_name hN hi hx hf
def WC (f:FE):FS:=fun ρ=>match f (Z6 ρ) with | some _=>.nx ρ | none=>.bad
theorem Vu {e:Expr} {f:FE} {pos:Pos} (h:EV X e f) (hs:swapsWith e none pos.line X.env=pure false:=by rfl):SV X (.Expr e pos) (WC f):=PS.imp (ps_expr h hs) fun E σ H ⟨B,O0,O1,ρ,r,q⟩=>by
  unfold WC at q
  cases e:f (Z6 ρ) with
  | none=>rw [e] at q;exact q.elim
  | some d =>
    rw [e] at q
    exact ⟨O0,Z6 ρ,d,r.all,e,fun v H' s rep=>q σ H' O1 (r.mono s)⟩
theorem app_pe {i:Nat} {x:Str} {e:Expr} {fv:FE} {p1 p2 p3:Pos} (he:EV X e fv) (hN:X.N[i]?=some x:=by rfl) (hv:Vis X.env.scope x:=by first | exact Or.inl rfl | exact Or.inr (Or.inl rfl) | exact Or.inr (Or.inr rfl))
    (hd:(x == ("__debug__":Str))=false:=by decide) (hcd:(x == ("__classdict__":Str))=false:=by decide)
    (hbase:attributeBase (.Name x p1) "append" X.env (eval (.Name x p1) X.env)=eval (.Name x p1) X.env:=by rfl)
    (hfew:((backTo p3 (starEach [e] X.env)).all (fun x=>!x.1) && (backToKw p3 (keywordEach [] X.env)).all (fun x=>x.1.isSome)
      && decide (([e]:List Expr).length+([]:List Keyword).length+(if ([]:List Keyword).isEmpty then 0 else 1) < 30))=true:=by rfl)
    (hline:(p2.endLine == p3.line)=true:=by rfl) (hs:starEach [e] X.env=(false,eval e X.env)::starEach [] X.env:=by rfl) (hplain:(backTo p3 (starEach [] X.env)).any (·.1)=false:=by rfl) :
    PE X (.Call (.Attribute (.Name x p1) "append" p2) [e] [] p3) (tBM X.K "list" rAppend (tVar i) (tCons (tD X.K fv) tNil)) :=
  pe_bm PySem.F.plainAttrs_list PySem.F.slot_list_append PySem.F.type_list_append mt_append (pe_var hN hv hd hcd) (WE he pa_nil hs) hbase hfew hline hs hplain
structure BT (mg:Str->Option Value):Prop where
  len_:mg "len"=none
  range_:mg "range"=none
  sum_:mg "sum"=none
  all_:mg "all"=none
  any_:mg "any"=none
  min_:mg "min"=none
  max_:mg "max"=none
  sorted_:mg "sorted"=none
  zip_:mg "zip"=none
  enumerate_:mg "enumerate"=none
  isinstance:mg "isinstance"=none
  tuple_:mg "tuple"=none
  list_:mg "list"=none
  int_:mg "int"=none
  bool_:mg "bool"=none
  set_:mg "set"=none
structure Yv (P:Program) (w:World) (K:PySem.W.Frag) (mg:Str->Option Value) (base:Heap) (x:Str) (k:Nat) (ps:List Str) (G:List D->Option D) (f:Addr) (fd:FuncData):Prop where
  ok:VH P w K mg base CX0 k f fd ps (spD K G)
  mg:mg x=some (.ref f)
  kp:PySem.W.keepIn K (.ref f)=true
  bi:Binds K fd ps []
end
end L2

namespace L2
open PySem PySem.Spec PyProof.Rows
section
variable {X:Cx} {pins:List (Addr×Obj)} {σ:St} {H:Hp} {s:Shared}
theorem ZE.turnedAll {fp:List Addr} {h':Heap} {t':Nat} (I:ZE X pins σ H s) (hf:∀ b∈fp,FpOk X pins H b) (k:∀ b o,b∉fp->s.heap.get? b=some o->h'.get? b=some o):ZE X pins σ H { s with heap:=h',toks:=t' }:=by
  have nfp:∀ b w,H b=some w->b∉fp:=fun b w e m=>by rw [(hf b m).1] at e;cases e
  refine I.step (g':=s.gens) (d':=s.drawn) (ch:=fp) (fun b hb=>?_) (fun b o _ _ hc e _=>k b o hc e) (fun b o _ _ hc e _=>⟨o.slots,k b o hc e⟩) (fun _ _ _ _ n=>n)
    (fun b o hc e=>⟨o,k b o hc e⟩) (fun _ _ e=>e) (fun _ _ _ e=>e) (fun b ps e=>⟨#[],by rw [e];simp⟩) (fun m hm=>?_) (fun b w e=>?_) I.bare
  · obtain ⟨f0,f1,f2,f3,f4,f5⟩:=hf b hb
    exact ⟨f3,f1,f4,f5⟩
  · obtain ⟨o,es,ep,ho,r⟩:=hm
    exact ⟨o,es,ep,k _ o (fun z=>(hf _ z).2.1 rfl) ho,r⟩
  · refine (I.hok b w e).stay (fun c v hc q=>k c v ?_ q) (fun _ q=>q) fun _ _ q=>q
    rcases hc with rfl | hc
    · exact nfp c w e
    · exact nfp c _ hc
theorem ZE.turnNew {fp:List Addr} {h':Heap} {t':Nat} {vs:List V} {us:List Value} (I:ZE X pins σ H s) (hf:∀ b∈fp,FpOk X pins H b) (k:∀ b o,b∉fp->s.heap.get? b=some o->h'.get? b=some o)
    (hl:vs.length<=sizeLine) (rv:ZQ vs us) (ht:IsTup h' s.heap.objs.size us.toArray):ZE X pins σ (YV H s.heap.objs.size (.tup vs)) { s with heap:=h',toks:=t' }:=by
  have nT:H s.heap.objs.size=none:=I.hok.fresh (Nat.le_refl _)
  have nfp:∀ b u,H b=some u->b∉fp:=fun b u e m=>by rw [(hf b m).1] at e;cases e
  have old:∀ {b o},s.heap.get? b=some o->b≠s.heap.objs.size:=fun e=>Nat.ne_of_lt (Heap.lt_size e)
  refine I.step (g':=s.gens) (d':=s.drawn) (ch:=fp) (fun b hb=>?_) (fun b o _ _ hc e _=>k b o hc e) (fun b o _ _ hc e _=>⟨o.slots,k b o hc e⟩) (fun b o _ e n=>by rw [ZG (old e)];exact n)
    (fun b o hc e=>⟨o,k b o hc e⟩) (fun b xs e=>by rw [ZG (Z4 e nT)];exact e) (fun b o u e=>by rw [ZG (Z4 e nT)];exact e) (fun b ps e=>⟨#[],by rw [ZG (Z4 e nT),e];simp⟩) (fun m hm=>?_) (fun b u e=>?_) I.bare
  · obtain ⟨f0,f1,f2,f3,f4,f5⟩:=hf b hb
    exact ⟨f3,f1,f4,f5⟩
  · obtain ⟨o,es,ep,ho,r⟩:=hm
    exact ⟨o,es,ep,k _ o (fun z=>(hf _ z).2.1 rfl) ho,r⟩
  · by_cases hb:b=s.heap.objs.size
    · subst hb
      rw [Z1] at e
      cases e
      exact ⟨hl,us,rv,ht⟩
    · rw [ZG hb] at e
      refine (I.hok b u e).stay (fun c v hc q=>k c v ?_ q) (fun c q=>by rw [ZG (Z4 q nT)];exact q) fun c xs q=>by rw [ZG (Z4 q nT)];exact q
      rcases hc with rfl | hc
      · exact nfp c u e
      · exact nfp c _ hc
end
def SqX (b:Bool) (K:PySem.W.Frag) (H:Hp) (a:Addr) (xs:List V):Prop:=if b=true then Wa K H a xs else Wy K H a xs
def Itz (b1 b2:Bool) (K:PySem.W.Frag) (a1 a2:Addr):It :=
  ⟨fun i H=>∃ xs ys x y,SqX b1 K H a1 xs/\SqX b2 K H a2 ys/\xs[i]?=some x/\ys[i]?=some y,
   fun i H z H'=>∃ T x y,z=.ref T/\H T=none/\(∀ xs,SqX b1 K H a1 xs->xs[i]?=some x)/\(∀ ys,SqX b2 K H a2 ys->ys[i]?=some y)/\H'=YV H T (.tup [x,y]),
   fun i H=>∃ xs ys,SqX b1 K H a1 xs/\SqX b2 K H a2 ys/\(xs.length<=i\/ys.length<=i)⟩
section
variable {X:Cx} {pins:List (Addr×Obj)} {σ:St} {H:Hp} {s:Shared}
theorem ZE.sqx {b:Bool} {a:Addr} {xs:List V} (I:ZE X pins σ H s) (h:SqX b X.K H a xs):∃ its:List Value,ZQ xs its/\ZP.Sq2 b s.heap a its.toArray/\xs.length<=sizeLine:=by
  cases b
  · obtain ⟨its,r,t,z⟩:=I.tuple h;exact ⟨its,r,t,z⟩
  · obtain ⟨its,r,t,z⟩:=I.list h;exact ⟨its,r,t.isList,z⟩
theorem ZE.sqx_inj {b:Bool} {a:Addr} {xs ys:List V} (I:ZE X pins σ H s) (h:SqX b X.K H a xs) (h':SqX b X.K H a ys):xs=ys:=by
  cases b
  · exact I.tuple_inj h h'
  · exact I.list_inj h h'
end
def zipTn (b1 b2:Bool) (c u v p1 p2 a1 a2:Addr) (i:Nat) (h:Heap):Prop:=IsZip h c u v .none/\IsPair h u (.ref p1) (.ref p2)/\(∃ x y,IsPair h v x y)/\ZP.It2 b1 h p1 a1 i/\ZP.It2 b2 h p2 a2 i
theorem turn_zip {P:Program} {w:World} {K:PySem.W.Frag} {elts:List Expr} {kk:Nat} {pos:Pos} {b1 b2:Bool} {c u v p1 p2 a1 a2:Addr} (D:ZP.Apart c u v p1 p2 a1 a2) :
    Turn P w K (.Tuple elts kk pos) (Itz b1 b2 K a1 a2) [c,u,v,p1,p2] c (zipTn b1 b2 c u v p1 p2 a1 a2) where
  mem:=by simp
  obj:=fun i h ⟨hz,hu,⟨x,y,hv⟩,g1,g2⟩ b hb=>by
    simp only [List.mem_cons,List.not_mem_nil,or_false] at hb
    rcases hb with rfl | rfl | rfl | rfl | rfl
    · exact ⟨_,hz,fun v z=>by cases z⟩
    · exact ⟨_,hu,fun v z=>by cases z⟩
    · exact ⟨_,hv,fun v z=>by cases z⟩
    · exact g1.ob
    · exact g2.ob
  keep:=fun i h h' ⟨hz,hu,⟨x,y,hv⟩,g1,g2⟩ k=>⟨k _ (by simp) _ hz,k _ (by simp) _ hu,⟨x,y,k _ (by simp) _ hv⟩,g1.at_ fun o e=>k _ (by simp) o e,g2.at_ fun o e=>k _ (by simp) o e⟩
  item:=by
    intro X hP hw hK hc i pins s σ H E I hf st hg
    subst hP hw hK
    obtain ⟨hz,hu,⟨x0,y0,hv⟩,g1,g2⟩:=st
    obtain ⟨xs,ys,x,y,q1,q2,e1,e2⟩:=hg
    obtain ⟨is,r1,d1,z1⟩:=I.sqx q1
    obtain ⟨js,r2,d2,z2⟩:=I.sqx q2
    obtain ⟨xu,h1,rx⟩:=r1.get e1
    obtain ⟨yu,h2,ry⟩:=r2.get e2
    refine ZP.zstep D hz hu hv g1 g2 d1 d2 (x:=xu) (y:=yu) (by simpa using h1) (by simpa using h2) fun h' k1 k2 k3 k4 k5 k6 k7=>?_
    refine ⟨_,rfl,wpAny_letOwnedTupleGo_zip k1 fun h'' m1 m2=>?_⟩
    have below:∀ {b o},s.heap.get? b=some o->b≠s.heap.objs.size:=fun e=>Nat.ne_of_lt (Heap.lt_size e)
    have kp:∀ b o,b∉[c,u,v,p1,p2]->s.heap.get? b=some o->h''.get? b=some o:=fun b o hb e=>by
      simp only [List.mem_cons,List.not_mem_nil,or_false,not_or] at hb
      exact m2.extBut _ _ hb.1 (k7 b o hb.1 hb.2.2.1 hb.2.2.2.1 hb.2.2.2.2 e)
    have ht:IsTup h'' s.heap.objs.size [xu,yu].toArray:=⟨_,m2.extBut _ _ (fun z=>below hz z.symm) k5,rfl,0,rfl⟩
    refine ⟨.ref s.heap.objs.size,_,I.turnNew (t':=s.toks) (vs:=[x,y]) hf kp (by rw [show sizeLine=16777216 from sizeLine_eq];show 2<=16777216;decide) (.cons rx (.cons ry .nil)) ht,rfl,?_,?_,?_⟩
    · exact ⟨_,x,y,rfl,I.hok.fresh (Nat.le_refl _),fun zs hz'=>by rw [I.sqx_inj hz' q1];exact e1,fun zs hz'=>by rw [I.sqx_inj hz' q2];exact e2,rfl⟩
    · exact ⟨m1,m2.extBut _ _ D.uc (k7 _ _ D.uc D.uv D.up1 D.up2 hu),⟨_,_,m2.extBut _ _ D.vc k2⟩,k3.ext m2.extBut D.p1c,k4.ext m2.extBut D.p2c⟩
    · intro b hb
      rw [ZG]
      · exact (hf b hb).1
      · simp only [List.mem_cons,List.not_mem_nil,or_false] at hb
        obtain ⟨o1,w1,_⟩:=g1.ob
        obtain ⟨o2,w2,_⟩:=g2.ob
        rcases hb with rfl | rfl | rfl | rfl | rfl
        · exact below hz
        · exact below hu
        · exact below hv
        · exact below w1
        · exact below w2
  done:=by
    intro X hP hw hK hc i pins s σ H E I hf st hg
    subst hP hw hK
    obtain ⟨hz,hu,⟨x0,y0,hv⟩,g1,g2⟩:=st
    obtain ⟨xs,ys,q1,q2,hend⟩:=hg
    obtain ⟨is,r1,d1,z1⟩:=I.sqx q1
    obtain ⟨js,r2,d2,z2⟩:=I.sqx q2
    have l1:=r1.length
    have l2:=r2.length
    refine ZP.zstop (I.ok.hd hc) D hz hu hv g1 g2 d1 d2 (by
      rcases hend with z | z
      · left;simp;omega
      · right;simp;omega) fun h' k=>⟨rfl,I.turnedAll (t':=s.toks) hf fun b o hb e=>?_⟩
    simp only [List.mem_cons,List.not_mem_nil,or_false,not_or] at hb
    exact k b o hb.1 hb.2.2.1 hb.2.2.2.1 hb.2.2.2.2 e
  self:=fun _ _ _ _ _ st h=>wpAny_pyIter_zip st.1 h
abbrev zh1 (h:Heap) (b1:Bool) (a1:Addr):Heap:=h.push (ZP.itObj b1 a1)
abbrev zh2 (h:Heap) (b1 b2:Bool) (a1 a2:Addr):Heap:=(zh1 h b1 a1).push (ZP.itObj b2 a2)
abbrev zh3 (h:Heap) (b1 b2:Bool) (a1 a2:Addr):Heap:=(zh2 h b1 b2 a1 a2).push { cls:=.type "tuple",data:=.seq #[.ref h.objs.size,.ref (zh1 h b1 a1).objs.size] }
abbrev zh4 (h:Heap) (b1 b2:Bool) (a1 a2:Addr):Heap:=(zh3 h b1 b2 a1 a2).push { cls:=.type "tuple",data:=.seq #[.none,.none] }
abbrev zh5 (h:Heap) (b1 b2:Bool) (a1 a2:Addr):Heap:=(zh4 h b1 b2 a1 a2).push { cls:=.type "zip",data:=.fields #[.none,.bool false,.bool false,.ref (zh2 h b1 b2 a1 a2).objs.size,.ref (zh3 h b1 b2 a1 a2).objs.size] }
theorem sq2_push {b:Bool} {h:Heap} {q:Addr} {xs:Array Value} {o:Obj} (x:ZP.Sq2 b h q xs):ZP.Sq2 b (h.push o) q xs:=by
  cases b
  · obtain ⟨o',ho,r⟩:=x;exact ⟨o',Heap.get?_push_of_some _ ho,r⟩
  · obtain ⟨o',ho,r⟩:=x;exact ⟨o',Heap.get?_push_of_some _ ho,r⟩
theorem meets_zip (b1 b2:Bool) (a1 a2:Addr) (xs ys:Array Value) :
    Meets (Builtin.«zip.__new__» ⟨[.type "zip",.ref a1,.ref a2],[]⟩) (fun _ R s=>ZP.Sq2 b1 s.heap a1 xs/\ZP.Sq2 b2 s.heap a2 ys /\
      R (.ok (.ret (.ref (zh4 s.heap b1 b2 a1 a2).objs.size))) { s with heap:=zh5 s.heap b1 b2 a1 a2 }) :=
  .of_wp fun prog w A R s h=>by
    obtain ⟨hp,g,d,tk,os⟩:=s
    obtain ⟨k1,k2,h⟩:=h
    have hsub:=sub_zip
    have j1:ZP.Sq2 b1 (Shared.heap ⟨hp,g,d,tk,os⟩) a1 xs:=k1
    have j2:ZP.Sq2 b2 (Shared.heap ⟨hp.push (ZP.itObj b1 a1),g,d,tk,os⟩) a2 ys:=sq2_push k2
    wp_walk using ZP.iter2 b1 j1,ZP.iter2 b2 j2
    exact ⟨_,rfl,h⟩
section
variable {X:Cx} {tg:Expr}
def iZip (K:PySem.W.Frag) (t:TA):TI:=fun σ H R=>t σ H fun vs H1=>∃ a1 a2 b1 b2 xs ys,vs=[.ref a1,.ref a2]/\SqX b1 K H1 a1 xs/\SqX b2 K H1 a2 ys/\R (Itz b1 b2 K a1 a2) H1
theorem pi_zip {elts:List Expr} {kk:Nat} {pos pp p:Pos} {a b:Expr} {t:TA} (hm:X.mg "zip"=none) (ha:PA X [a,b] t) (hg:Gl X "zip":=by rfl)
    (hs:starEach [a,b] X.env=[(false,eval a X.env),(false,eval b X.env)]:=by rfl) (hs2:starEach [b] X.env=[(false,eval b X.env)]:=by rfl) :
    PI X (.Tuple elts kk pos) (.Call (.Name "zip" p) [a,b] [] pp) (iZip X.K t):=by
  intro pins s σ H R I h
  refine Call_ (ld_blt I hg hm (show bootBuiltins "zip"=some (.type "zip") by decide +kernel) (PyProof.Rows.callWith_type1 (Y4 (ha pp pins s σ H _ I h) fun us s1 ⟨vs,H1,I1,r1,q1⟩=>?_) (by rw [hs,hs2]) (by rw [hs2];rfl)))
  obtain ⟨a1,a2,b1,b2,xs,ys,rfl,q1,q2,q⟩:=q1
  cases r1 with
  | cons ra rr =>
    cases rr with
    | cons rb rr =>
      cases rr
      cases ra
      cases rb
      obtain ⟨is,v1,d1,_⟩:=I1.sqx q1
      obtain ⟨js,v2,d2,_⟩:=I1.sqx q2
      refine callType_new F.called_zip (by decide) (F.typeCall_zip_2 _ _) (F.newCall_zip_2 _ _) (fun obj=>F.args_object_init_3 obj _ _) F.entry_zip_new (meets_zip b1 b2 a1 a2 is.toArray js.toArray) ⟨d1,d2,?_⟩
      have z1:(zh1 s1.heap b1 a1).objs.size=s1.heap.objs.size+1:=Heap.size_push ..
      have z2:(zh2 s1.heap b1 b2 a1 a2).objs.size=s1.heap.objs.size+2:=by rw [Heap.size_push,z1]
      have z3:(zh3 s1.heap b1 b2 a1 a2).objs.size=s1.heap.objs.size+3:=by rw [Heap.size_push,z2]
      have z4:(zh4 s1.heap b1 b2 a1 a2).objs.size=s1.heap.objs.size+4:=by rw [Heap.size_push,z3]
      have n5:(zh5 s1.heap b1 b2 a1 a2).get? (zh4 s1.heap b1 b2 a1 a2).objs.size=some _:=Heap.get?_push_size _ rfl
      have n4:(zh5 s1.heap b1 b2 a1 a2).get? (zh3 s1.heap b1 b2 a1 a2).objs.size=some _:=Heap.get?_push_of_some _ (Heap.get?_push_size _ rfl)
      have n3:(zh5 s1.heap b1 b2 a1 a2).get? (zh2 s1.heap b1 b2 a1 a2).objs.size=some _:=Heap.get?_push_of_some _ (Heap.get?_push_of_some _ (Heap.get?_push_size _ rfl))
      have n2:(zh5 s1.heap b1 b2 a1 a2).get? (zh1 s1.heap b1 a1).objs.size=some _:=Heap.get?_push_of_some _ (Heap.get?_push_of_some _ (Heap.get?_push_of_some _ (Heap.get?_push_size _ rfl)))
      have n1:(zh5 s1.heap b1 b2 a1 a2).get? s1.heap.objs.size=some _:=Heap.get?_push_of_some _ (Heap.get?_push_of_some _ (Heap.get?_push_of_some _ (Heap.get?_push_of_some _ (Heap.get?_push_size _ rfl))))
      have kp:∀ m o,s1.heap.get? m=some o->(zh5 s1.heap b1 b2 a1 a2).get? m=some o:=fun m o e=>Heap.get?_push_of_some _ (Heap.get?_push_of_some _ (Heap.get?_push_of_some _ (Heap.get?_push_of_some _ (Heap.get?_push_of_some _ e))))
      have l1:a1 < s1.heap.objs.size:=by cases b1 <;> (obtain ⟨_,e,_⟩:=d1;exact Heap.lt_size e)
      have l2:a2 < s1.heap.objs.size:=by cases b2 <;> (obtain ⟨_,e,_⟩:=d2;exact Heap.lt_size e)
      rw [z2,z3,z4] at n5
      rw [z1,z2] at n3
      rw [z3] at n4
      rw [z1] at n2
      show _/\_
      rw [z4]
      refine ⟨⟨_,n5,rfl⟩,wpAny_pyIter_zip n5 ?_⟩
      have I2:ZE X pins σ H1 { s1 with heap:=zh5 s1.heap b1 b2 a1 a2 }:=I1.kept (t':=s1.toks) kp
      have fr:∀ d,s1.heap.objs.size<=d->FpOk X pins H1 d:=fun d hd=>I1.fpOk hd (I1.hok.fresh hd)
      have D:ZP.Apart (s1.heap.objs.size+4) (s1.heap.objs.size+2) (s1.heap.objs.size+3) s1.heap.objs.size (s1.heap.objs.size+1) a1 a2:=by
        constructor <;> first
          | exact Nat.ne_of_lt l1
          | exact Nat.ne_of_lt l2
          | exact Nat.ne_of_lt (Nat.lt_of_lt_of_le l1 (Nat.le_add_right _ _))
          | exact Nat.ne_of_lt (Nat.lt_of_lt_of_le l2 (Nat.le_add_right _ _))
          | exact Nat.ne_of_lt (Nat.add_lt_add_left (by decide) _)
          | exact Nat.ne_of_gt (Nat.add_lt_add_left (by decide) _)
          | exact Nat.ne_of_gt (Nat.lt_add_of_pos_right (by decide))
          | exact Nat.ne_of_lt (Nat.lt_add_of_pos_right (by decide))
      refine ⟨s1.heap.objs.size+4,[s1.heap.objs.size+4,s1.heap.objs.size+2,s1.heap.objs.size+3,s1.heap.objs.size,s1.heap.objs.size+1],_,_,H1,rfl,I2,turn_zip (b1:=b1) (b2:=b2) D,⟨n5,n3,⟨_,_,n4⟩,?_,?_⟩,fun d hd=>?_,q⟩
      · cases b1 <;> exact ⟨_,n1,rfl,rfl⟩
      · cases b2 <;> exact ⟨_,n2,rfl,rfl⟩
      · refine ⟨(fr d ?_).1,(fr d ?_).2⟩ <;> (simp only [List.mem_cons,List.not_mem_nil,or_false] at hd;rcases hd with rfl | rfl | rfl | rfl | rfl <;> first | exact Nat.le_refl _ | exact Nat.le_add_right _ _)
def XZ:List D->List D->List D
  | x::xs,y::ys=>.tup [x,y]::XZ xs ys
  | _,_=>[]
theorem zipDs_get:∀ {xs ys:List D} {i:Nat} {d:D},(XZ xs ys)[i]?=some d->∃ x y,xs[i]?=some x/\ys[i]?=some y/\d=.tup [x,y]
  | x::xs,y::ys,0,d,h=>⟨x,y,rfl,rfl,by simpa [XZ] using h.symm⟩
  | x::xs,y::ys,i+1,d,h=>by
    obtain ⟨p,q,h1,h2,h3⟩:=zipDs_get (xs:=xs) (ys:=ys) (i:=i) (d:=d) (by simpa [XZ] using h)
    exact ⟨p,q,by simpa using h1,by simpa using h2,h3⟩
  | [],_,_,_,h=>by simp [XZ] at h
  | _::_,[],_,_,h=>by simp [XZ] at h
theorem zipDs_len:∀ (xs ys:List D),(XZ xs ys).length=min xs.length ys.length
  | x::xs,y::ys=>by simp only [XZ,List.length_cons,zipDs_len xs ys];omega
  | [],_=>by simp [XZ]
  | _::_,[]=>by simp [XZ]
def fZip (a b:FE):FA:=fun ρ=>(a ρ).bind fun x=>(b ρ).bind fun y=>(W8 x).bind fun xs=>(W8 y).bind fun ys=>some (XZ xs ys)
theorem itemsD_rep {K:PySem.W.Frag} {H:Hp} {d:D} {v:V} {ds:List D} (e:W8 d=some ds) (r:Xe K H d v):∃ a b vs,v=.ref a/\SqX b K H a vs/\Zs K H ds vs:=by
  cases d with
  | lst es=>cases e;obtain ⟨a,vs,rfl,h,r⟩:=r;exact ⟨a,true,vs,rfl,Wa.of h,r⟩
  | tup es=>cases e;obtain ⟨a,vs,rfl,h,r⟩:=r;exact ⟨a,false,vs,rfl,Wy.of h,r⟩
  | scr ns=>cases e;obtain ⟨a,rfl,h⟩:=r;exact ⟨a,true,_,rfl,h,WM ns⟩
  | _=>cases e
theorem SqX.mono {b:Bool} {K:PySem.W.Frag} {H H':Hp} {a:Addr} {vs:List V} (s:Zg H H') (h:SqX b K H a vs):SqX b K H' a vs:=by
  cases b
  · exact Zg.seqT s h
  · exact Zg.seq s h
theorem iv_zip {elts:List Expr} {kk:Nat} {pos pp p:Pos} {a b:Expr} {fa fb:FE} (hm:X.mg "zip"=none) (ha:EV X a fa) (hb:EV X b fb) (hg:Gl X "zip":=by rfl)
    (hs:starEach [a,b] X.env=[(false,eval a X.env),(false,eval b X.env)]:=by rfl) (hs2:starEach [b] X.env=[(false,eval b X.env)]:=by rfl) :
    IV X (.Tuple elts kk pos) (.Call (.Name "zip" p) [a,b] [] pp) (fZip fa fb):=PI.imp (pi_zip hm (WE ha (WE hb pa_nil (by rw [hs2];rfl)) (by rw [hs,hs2])) hg hs hs2) fun σ H R ⟨O,ρ,ds,rv,e,q⟩=>by
  obtain ⟨x,e1,e⟩:=bind_some e
  obtain ⟨y,e2,e⟩:=bind_some e
  obtain ⟨xs,e3,e⟩:=bind_some e
  obtain ⟨ys,e4,e⟩:=bind_some e
  cases e
  refine ⟨O,ρ,x,rv,e1,fun v H1 s1 r1=>⟨O,ρ,y,rv.mono s1,e2,fun w H2 s2 r2=>?_⟩⟩
  obtain ⟨a1,b1,vs,rfl,k1,t1⟩:=itemsD_rep e3 (Xe.mono (ZH s2) x v r1)
  obtain ⟨a2,b2,us,rfl,k2,t2⟩:=itemsD_rep e4 r2
  refine ⟨a1,a2,b1,b2,vs,us,rfl,SqX.mono Zh k1,SqX.mono Zh k2,q _ H2 (Zg.trans s1 s2) ?_⟩
  intro H3 O' s3 th i
  have j1:SqX b1 X.K H3 a1 vs:=SqX.mono Zh (SqX.mono s3 k1)
  have j2:SqX b2 X.K H3 a2 us:=SqX.mono Zh (SqX.mono s3 k2)
  refine ⟨fun d hd=>?_,fun hl=>⟨vs,us,j1,j2,?_⟩⟩
  · obtain ⟨p,q,h1,h2,rfl⟩:=zipDs_get hd
    obtain ⟨vp,g1,g2⟩:=t1.get h1
    obtain ⟨vq,g3,g4⟩:=t2.get h2
    refine ⟨⟨vs,us,vp,vq,j1,j2,g1,g3⟩,fun z H4 ⟨T,x',y',ez,hT,f1,f2,eh⟩=>?_⟩
    subst ez eh
    have w1:=f1 vs j1
    have w2:=f2 us j2
    rw [g1] at w1
    rw [g3] at w2
    cases w1
    cases w2
    exact ⟨Zg.new hT,Y5 th hT ⟨_,_,rfl,Xe.mono s3 p _ g2,_,_,rfl,Xe.mono s3 q _ g4,rfl⟩⟩
  · rw [zipDs_len,<- t1.length,<- t2.length] at hl
    omega
end
end L2

namespace L2
open PySem PySem.Spec PyProof.Rows
theorem kits_of {K:PySem.W.Frag} {T:String} (h0:PySem.W.kitOne K (.type "NoneType") (.type T)=some (("NoneType" == T) || (("NoneType" == "bool") && (T == "int"))))
    (h1:PySem.W.kitOne K (.type "bool") (.type T)=some (("bool" == T) || (("bool" == "bool") && (T == "int")))) (h2:PySem.W.kitOne K (.type "int") (.type T)=some (("int" == T) || (("int" == "bool") && (T == "int"))))
    (h3:PySem.W.kitOne K (.type "str") (.type T)=some (("str" == T) || (("str" == "bool") && (T == "int")))) (h4:PySem.W.kitOne K (.type "tuple") (.type T)=some (("tuple" == T) || (("tuple" == "bool") && (T == "int"))))
    (h5:PySem.W.kitOne K (.type "list") (.type T)=some (("list" == T) || (("list" == "bool") && (T == "int")))) (h6:PySem.W.kitOne K (.type "dict") (.type T)=some (("dict" == T) || (("dict" == "bool") && (T == "int")))):Kits K T:=⟨fun S hS=>by
  simp only [List.mem_cons,List.not_mem_nil,or_false] at hS
  rcases hS with rfl | rfl | rfl | rfl | rfl | rfl | rfl
  · exact h0
  · exact h1
  · exact h2
  · exact h3
  · exact h4
  · exact h5
  · exact h6⟩
theorem kits_int {K:PySem.W.Frag}:Kits K "int":=kits_of (by kernel_rfl) (by kernel_rfl) (by kernel_rfl) (by kernel_rfl) (by kernel_rfl) (by kernel_rfl) (by kernel_rfl)
theorem kits_bool {K:PySem.W.Frag}:Kits K "bool":=kits_of (by kernel_rfl) (by kernel_rfl) (by kernel_rfl) (by kernel_rfl) (by kernel_rfl) (by kernel_rfl) (by kernel_rfl)
theorem VC {K:PySem.W.Frag}:Kits K "tuple":=kits_of (by kernel_rfl) (by kernel_rfl) (by kernel_rfl) (by kernel_rfl) (by kernel_rfl) (by kernel_rfl) (by kernel_rfl)
theorem kits_list {K:PySem.W.Frag}:Kits K "list":=kits_of (by kernel_rfl) (by kernel_rfl) (by kernel_rfl) (by kernel_rfl) (by kernel_rfl) (by kernel_rfl) (by kernel_rfl)
theorem Xc:bootBuiltins ("len":Str)=some (Value.builtin "len"):=by decide +kernel
theorem bb_sum:bootBuiltins ("sum":Str)=some (Value.builtin "sum"):=by decide +kernel
theorem bb_all:bootBuiltins ("all":Str)=some (Value.builtin "all"):=by decide +kernel
theorem bb_min:bootBuiltins ("min":Str)=some (Value.builtin "min"):=by decide +kernel
theorem bb_max:bootBuiltins ("max":Str)=some (Value.builtin "max"):=by decide +kernel
theorem bb_sorted:bootBuiltins ("sorted":Str)=some (Value.builtin "sorted"):=by decide +kernel
theorem bb_int:bootBuiltins ("int":Str)=some (Value.type "int"):=by decide +kernel
theorem bb_bool:bootBuiltins ("bool":Str)=some (Value.type "bool"):=by decide +kernel
theorem bb_list:bootBuiltins ("list":Str)=some (Value.type "list"):=by decide +kernel
theorem Wn:bootBuiltins ("tuple":Str)=some (Value.type "tuple"):=by decide +kernel
end L2

namespace ZD
open PySem PyProof.Rows
def DictR (h:Heap) (d:Addr) (es:Array DictEntry) (ep:Nat):Prop:=∃ o,h.get? d=some o/\o.ExactDict/\o.data=.dict es ep
section
variable {prog:Program} {w:World} {A:Around} {E:Value->Shared->Prop} {s:Shared} {d it:Addr} {es:Array DictEntry} {ep i:Nat}
theorem DictR.ty (x:DictR s.heap d es ep):s.TypeIs (.ref d) "dict":=let ⟨o,h1,h2,_⟩:=x;⟨o,h1,h2.1⟩
theorem DictR.ext {h h':Heap} {b:Addr} (x:DictR h d es ep) (e:Heap.ExtBut b h h') (n:d≠b):DictR h' d es ep:=let ⟨o,h1,r⟩:=x;⟨o,e _ _ n h1,r⟩
theorem DictR.lt {h:Heap} (x:DictR h d es ep):d < h.objs.size:=let ⟨_,h1,_⟩:=x;Heap.lt_size h1
theorem keys_iter {Q:Value->Shared->Prop} (hd:(d == sysModules)=false) (hm:DictR s.heap d es ep)
    (done:Q (.ref s.heap.objs.size) { s with heap:=s.heap.push { cls:=.type "dict_keyiterator",data:=.fields #[.ref d,.int 0 0,.int es.size 0,.int ep 0] } }):wpAny (model prog w) A (pyIter (.ref d)) Q E s:=by
  have ty:=hm.ty
  obtain ⟨od,g1,g2,g3⟩:=id hm
  refine wpAny_pyIter_slot ty F.slot_dict_iter (wpAny_call_entry F.slot_dict_iter ty F.entry_dict_iter ?_ (F.args_dict_iter_1 _))
  unfold Builtin.«dict.__iter__»
  refine wpAny_bind ?_
  unfold Builtin.Dict.dictSlotNone
  refine wpAny_bind (wpAny_notOrdered_dict ty ?_)
  show wpAny _ _ (pure (Value.ref d)) _ _ s
  refine wpAny_pure ?_
  show wpAny _ _ (Builtin.Dict.showsAll d >>= fun _=>_) _ _ s
  unfold Builtin.Dict.showsAll
  rw [if_neg (fun z=>by rw [hd] at z;cases z)]
  refine wpAny_bind (wpAny_pure ?_)
  refine wpAny_bind (wpAny_dictEntries g1 g3 ?_)
  refine wpAny_bind (wpAny_dictEpoch g1 g3 ?_)
  refine wpAny_bind (wpAny_newObj_type (wpAny_pure ⟨_,rfl,"dict_keyiterator",_,⟨_,Heap.get?_push_size _ rfl,rfl⟩,F.slot_dict_keyiterator_next.lookup,?_⟩))
  simpa [rawInt] using done
theorem keys_next {Q:Option Value->Shared->Prop} {e:DictEntry} (hi:s.heap.IsKeyIter it d i es.size ep) (hm:DictR s.heap d es ep) (hx:es[i]?=some e)
    (done:∀ h',h'.IsKeyIter it d (i+1) es.size ep->Heap.SameBut it s.heap h'->Q (some e.key) { s with heap:=h' }):wpAny (model prog w) A (pyNext (.ref it)) Q E s:=by
  obtain ⟨oi,k1,k2,k3⟩:=id hi
  obtain ⟨od,g1,g2,g3⟩:=id hm
  unfold pyNext
  refine wpAny_bind (wpAny_attempt (wpAny_callSpecial?_slot (name:=Str.ofString "__next__") hi.typeIs F.slot_dict_keyiterator_next (wpAny_call_entry F.slot_dict_keyiterator_next hi.typeIs F.entry_dict_keyiterator_next ?_ (F.args_dict_keyiterator_next_1 _))))
  refine wpAny_bind (wpAny_pure ?_)
  refine wpAny_bind ?_
  refine wpAny_bind ?_
  first | refine wpAny_bind (wpAny_typeNameOfWhole_keyiter hi.typeIs (wpAny_pure ?_)) | refine wpAny_bind (wpAny_typeNameOf_keyiter hi.typeIs (wpAny_pure ?_))
  refine wpAny_bind (wpAny_fieldsOf k1 k3 ?_)
  simp only [show Builtin.Dict_items.ownsTuple "dict_keyiterator"=false by decide,Bool.false_eq_true,if_false]
  show wpAny _ _ (if (Value.ref d == Value.none)=true then _ else _) _ _ s
  rw [if_neg (fun z:(Value.ref d == Value.none)=true=>Bool.false_ne_true z)]
  refine wpAny_bind (wpAny_pure ?_)
  refine wpAny_bind (wpAny_dictEntries g1 g3 ?_)
  rw [if_neg (by simp)]
  refine wpAny_bind (wpAny_pure ?_)
  refine wpAny_bind (wpAny_dictEpoch g1 g3 ?_)
  rw [if_neg (by simp)]
  refine wpAny_pure ?_
  simp only [show ¬ ((i:Int) < 0) from by omega,if_false,Int.toNat_natCast,hx]
  refine wpAny_bind ?_
  first | refine wpAny_bind (wpAny_typeNameOfWhole_keyiter hi.typeIs (wpAny_pure ?_)) | refine wpAny_bind (wpAny_typeNameOf_keyiter hi.typeIs (wpAny_pure ?_))
  refine wpAny_bind (wpAny_isOneOf_keyiter hi.typeIs ?_)
  show wpAny _ _ (setField (.ref it) 1 (rawInt ((i:Int)+1)) >>= fun _=>_) _ _ s
  refine wpAny_bind (wpAny_setField k1 k3 (by simp) ?_)
  have hi':(s.heap.update it (Obj.mapFields (·.setIfInBounds 1 (rawInt ((i:Int)+1))))).IsKeyIter it d (i+1) es.size ep :=
    ⟨_,Heap.get?_update_self _ k1 (Obj.isFreed_of_fields (Obj.data_mapFields k3 _)),(Obj.cls_mapFields ..).trans k2,by rw [Obj.data_mapFields k3];simp [rawInt]⟩
  refine wpAny_bind (wpAny_holding ?_)
  refine wpAny_bind (wpAny_isOneOf_keyiter (s:={ s with heap:=s.heap.update it (Obj.mapFields (·.setIfInBounds 1 (rawInt ((i:Int)+1)))) }) hi'.typeIs ?_)
  show wpAny _ _ (pure e.key) _ _ _
  exact wpAny_pure (wpAny_pure ⟨_,rfl,wpAny_pure (done _ hi' (Heap.SameBut.update ..))⟩)
theorem keys_over {Q:Option Value->Shared->Prop} (hh:A.handled=none) (hi:s.heap.IsKeyIter it d i es.size ep) (hm:DictR s.heap d es ep) (hx:es.size<=i)
    (done:∀ h',Heap.ExtBut it s.heap h'->Q none { s with heap:=h' }):wpAny (model prog w) A (pyNext (.ref it)) Q E s:=by
  obtain ⟨oi,k1,k2,k3⟩:=id hi
  obtain ⟨od,g1,g2,g3⟩:=id hm
  unfold pyNext
  refine wpAny_bind (wpAny_attempt (wpAny_callSpecial?_slot (name:=Str.ofString "__next__") hi.typeIs F.slot_dict_keyiterator_next (wpAny_call_entry F.slot_dict_keyiterator_next hi.typeIs F.entry_dict_keyiterator_next ?_ (F.args_dict_keyiterator_next_1 _))))
  refine wpAny_bind (wpAny_pure ?_)
  refine wpAny_bind ?_
  refine wpAny_bind ?_
  first | refine wpAny_bind (wpAny_typeNameOfWhole_keyiter hi.typeIs (wpAny_pure ?_)) | refine wpAny_bind (wpAny_typeNameOf_keyiter hi.typeIs (wpAny_pure ?_))
  refine wpAny_bind (wpAny_fieldsOf k1 k3 ?_)
  simp only [show Builtin.Dict_items.ownsTuple "dict_keyiterator"=false by decide,Bool.false_eq_true,if_false]
  show wpAny _ _ (if (Value.ref d == Value.none)=true then _ else _) _ _ s
  rw [if_neg (fun z:(Value.ref d == Value.none)=true=>Bool.false_ne_true z)]
  refine wpAny_bind (wpAny_pure ?_)
  refine wpAny_bind (wpAny_dictEntries g1 g3 ?_)
  rw [if_neg (by simp)]
  refine wpAny_bind (wpAny_pure ?_)
  refine wpAny_bind (wpAny_dictEpoch g1 g3 ?_)
  rw [if_neg (by simp)]
  refine wpAny_pure ?_
  simp only [show ¬ ((i:Int) < 0) from by omega,if_false,Int.toNat_natCast,Array.getElem?_eq_none hx]
  refine wpAny_bind ?_
  first | refine wpAny_bind (wpAny_typeNameOfWhole_keyiter hi.typeIs (wpAny_pure ?_)) | refine wpAny_bind (wpAny_typeNameOf_keyiter hi.typeIs (wpAny_pure ?_))
  show wpAny _ _ (setField (.ref it) 0 .none >>= fun _=>_) _ _ s
  refine wpAny_bind (wpAny_setField k1 k3 (by simp) ?_)
  show wpAny _ _ (newExc (.type "StopIteration") [] >>= fun _=>_) _ _ _
  refine wpAny_bind ?_
  simp only [newExc,newTuple]
  refine wpAny_bind (wpAny_newObj_type (hd:=by size_fits) ?_)
  refine wpAny_bind (m:=firstArgMember _ _) (wpAny_of_eq (a:=Value.none) (by first | rfl | (simp only [firstArgMember] <;> rfl)) ?_)
  refine wpAny_newObj_type (hd:=by size_fits) ?_
  simp only [raiseNew]
  refine wpAny_bind (wpAny_handled ?_)
  rw [show A.in1.handled=none from hh]
  refine wpAny_bind (wpAny_pure (wpAny_throw ?_))
  refine wpAny_bind (wpAny_isInstance (T:="StopIteration") (b:=true) ⟨_,Heap.get?_push_size _ rfl,rfl⟩ isSubtype_stop (wpAny_pure (done _ (((Heap.SameBut.update ..).extBut.push _).push _))))
theorem walks_keys (hh:A.handled=none) (I d:Addr) (hne:d≠I):Walks prog w A I [I,d] [I] es.size (fun i v=>∃ e,es[i]?=some e/\v=e.key) (fun i h=>h.IsKeyIter I d i es.size ep/\DictR h d es ep) where
  sub:=fun b hb=>by
    have:b=I:=by simpa using hb
    simp [this]
  frame:=fun _ _ _ st hk=>⟨st.1.at fun o e=>hk I (by simp) o e,let ⟨o,h1,r⟩:=st.2;⟨o,hk d (by simp) o h1,r⟩⟩
  item:=fun i s Q E hi st hQ=>by
    have hx:es[i]?=some es[i]:=Array.getElem?_eq_getElem hi
    exact keys_next st.1 st.2 hx fun h' hit' hs'=>hQ _ h' s.toks ⟨_,hx,rfl⟩ ⟨hit',st.2.ext hs'.extBut hne⟩ fun b o hb e=>hs'.extBut b o (fun h=>hb (by simp [h])) e
  done:=fun s Q E st hQ=>keys_over hh st.1 st.2 (Nat.le_refl _) fun h' he'=>hQ h' s.toks fun b o hb e=>he' b o (fun h=>hb (by simp [h])) e
  self:=fun _ _ _ _ st hQ=>wpAny_pyIter_keyiter st.1 hQ
theorem src_raw (lo:(d == sysModules)=false):PySem.W.KdlSrc prog w "dict" d d es.size (fun i v=>∃ e,es[i]?=some e/\v=e.key) (fun h=>DictR h d es ep) where
  type:=fun _ hm=>hm.ty
  there:=fun _ hm=>⟨hm.lt,hm.lt⟩
  keep:=fun _ _ hm hk=>let ⟨o,h1,r⟩:=hm;⟨o,hk d (.inl rfl) o h1,r⟩
  notList:=by decide
  notTuple:=by decide
  hint:=fun _ _ _ _ hm hq=>PySem.W.kdl_hint_dict hm.ty hq
  iter:=fun _ _ hh hm=>⟨_,_,(fun _ _ hq=>keys_iter lo hm hq),walks_keys hh _ d (Nat.ne_of_lt hm.lt),⟨⟨_,Heap.get?_push_size _ rfl,rfl,rfl⟩,let ⟨o,h1,r⟩:=hm;⟨o,Heap.get?_push_of_some _ h1,r⟩⟩⟩
end
end ZD
namespace L2
open PySem PySem.Spec PyProof.Rows
def kD:YW->D
  | .inl i=>.int i
  | .inr x=>.str x
section
variable {X:Cx}
theorem call_list_dT (hc:X.calm=true):X2 X (.type "list") (fun xs H Q=>∃ a kvs,xs=[.ref a]/\H a=some (.dT kvs)/\∀ l bs,H l=none->Paired (fun (k:List YW) (b:Addr)=>H b=some (.tup (k.map kV))) (kvs.map (·.1)) bs->Q (.ref l) (YV H l (.lst (bs.map V.ref)))):=by
  intro pins s σ H xs us Q I rs h
  obtain ⟨a,kvs,rfl,ha,q⟩:=h
  obtain ⟨u,rfl,ru⟩:=Vd rs
  cases ru
  obtain ⟨hz,hS,ys,hp,o,es,ep,h1,h2,h3,h4,h5⟩:=(show YJ X.prog X.w H s.heap a (.dT kvs) from I.hok a _ ha)
  have hlen:kvs.length=ys.length:=Paired.length hp
  have hes:es.size=ys.length:=by rw [<- Array.length_toList,h4,List.length_map]
  refine PySem.W.kdl_call (ZD.src_raw (es:=es) (ep:=ep) hS) (I.ok.hd hc) ⟨o,h1,h2,h3⟩ (by omega) fun h' tk acc' c' hk hl hit=>?_
  have hacc:acc'.toList=(ys.map (·.2.1)).map Value.ref:=by
    apply List.ext_getElem?
    intro j
    rw [List.map_map,List.getElem?_map]
    by_cases hj:j < ys.length
    · have e1:ys[j]?=some ys[j]:=List.getElem?_eq_getElem hj
      have hja:j < acc'.size:=by rw [hit.1,hes];exact hj
      obtain ⟨e,g1,g2⟩:=hit.2 j _ (Array.getElem?_eq_getElem hja)
      have g3:es.toList[j]?=some e:=by rw [Array.getElem?_toList];exact g1
      rw [h4,List.getElem?_map,e1] at g3
      cases g3
      rw [Array.getElem?_toList,Array.getElem?_eq_getElem hja,e1,g2]
      rfl
    · rw [List.getElem?_eq_none (by rw [Array.length_toList,hit.1,hes];omega),List.getElem?_eq_none (by omega)]
      rfl
  have rv:∀ (bs:List Addr),ZQ (bs.map V.ref) (bs.map Value.ref):=by
    intro bs
    induction bs with
    | nil=>exact .nil
    | cons b bs ih=>exact .cons rfl ih
  have pk:Paired (fun (k:List YW) (b:Addr)=>H b=some (.tup (k.map kV))) (kvs.map (·.1)) (ys.map (·.2.1)):=by
    clear hacc hes h4 h5 hlen hz ha q
    induction hp with
    | nil=>exact .nil
    | cons r t ih=>rw [List.map_cons,List.map_cons];exact .cons (by rw [r.1];have:=r.2.1;rw [r.1] at this;exact this) ih
  refine ⟨.ref s.heap.objs.size,_,I.laid (o:=.lst ((ys.map (·.2.1)).map V.ref)) hk (Nat.le_refl _) ⟨?_,acc'.toList,c',by rw [hacc];exact rv _,hl⟩,rfl,q _ _ (I.hok.fresh (Nat.le_refl _)) pk⟩
  rw [List.length_map,List.length_map];omega
end
end L2

namespace L2
open PySem PySem.Spec PyProof.Rows
section
variable {κ:Type} [DecidableEq κ]
def lkD:List κ->List D->κ->Option D
  | k::ks,d::ds,x=>if k=x then some d else lkD ks ds x
  | _,_,_=>none
def putKs (ks:List κ) (x:κ):List κ:=if x∈ks then ks else ks++[x]
def putDs (ks:List κ) (ds:List D) (x:κ) (v:D):List D:=if x∈ks then (ks.zip ds).map (fun p=>if p.1=x then v else p.2) else ds++[v]
theorem lk_rel {K:PySem.W.Frag} {H:Hp} {x:κ}:∀ {kvs:List (κ×V)} {ds:List D},Zs K H ds (kvs.map (·.2))->(∀ d,lkD (kvs.map (·.1)) ds x=some d->∃ v,W5 kvs x=some v/\Xe K H d v)/\(lkD (kvs.map (·.1)) ds x=none->W5 kvs x=none)
  | [],ds,r=>⟨fun d h=>by simp [lkD] at h,fun _=>rfl⟩
  | (k,v)::kvs,[],r=>by have:=r.length;simp at this
  | (k,v)::kvs,d::ds,⟨v',r',e,h,t⟩=>by
    have e':v=v'/\kvs.map (·.2)=r':=by simpa using e
    obtain ⟨rfl,rfl⟩:=e'
    have ih:=lk_rel (x:=x) t
    by_cases hk:k=x
    · subst hk
      refine ⟨fun d' q=>?_,fun q=>?_⟩
      · simp only [List.map_cons,lkD,if_true] at q
        cases q
        exact ⟨v,by simp [W5],h⟩
      · simp [lkD] at q
    · refine ⟨fun d' q=>?_,fun q=>?_⟩
      · simp only [List.map_cons,lkD,if_neg hk] at q
        obtain ⟨w,h1,h2⟩:=ih.1 d' q
        refine ⟨w,?_,h2⟩
        simp only [W5,List.find?_cons,hk,decide_false] at h1 ⊢
        exact h1
      · simp only [List.map_cons,lkD,if_neg hk] at q
        have:=ih.2 q
        simp only [W5,List.find?_cons,hk,decide_false] at this ⊢
        exact this
theorem val_isSome {x:κ} {kvs:List (κ×V)}:(W5 kvs x).isSome=decide (x∈kvs.map (·.1)):=by
  rw [<- valV_any]
  rw [Bool.eq_iff_iff]
  simp only [List.any_eq_true,decide_eq_true_eq,List.mem_map]
theorem zip_reps {K:PySem.W.Frag} {H:Hp} {x:κ} {d:D} {v:V} (hr:Xe K H d v):∀ {kvs:List (κ×V)} {ds:List D},Zs K H ds (kvs.map (·.2)) ->
    Zs K H (((kvs.map (·.1)).zip ds).map (fun p=>if p.1=x then d else p.2)) ((kvs.map (fun kv=>if kv.1=x then (kv.1,v) else kv)).map (·.2))
  | [],ds,r=>by simp [Zs]
  | (k,u)::kvs,[],r=>by have:=r.length;simp at this
  | (k,u)::kvs,e::ds,⟨v',r',q,h,t⟩=>by
    have q':u=v'/\kvs.map (·.2)=r':=by simpa using q
    obtain ⟨rfl,rfl⟩:=q'
    have ih:=zip_reps (x:=x) hr t
    simp only [List.map_cons,List.zip_cons_cons]
    refine ⟨_,_,rfl,?_,ih⟩
    by_cases hk:k=x
    · simp only [hk,if_true];exact hr
    · simp only [hk,if_false];exact h
theorem put_rel {K:PySem.W.Frag} {H:Hp} {x:κ} {d:D} {v:V} (hr:Xe K H d v) {kvs:List (κ×V)} {ds:List D} (r:Zs K H ds (kvs.map (·.2))) :
    (Vz kvs x v).map (·.1)=putKs (kvs.map (·.1)) x/\Zs K H (putDs (kvs.map (·.1)) ds x d) ((Vz kvs x v).map (·.2)):=by
  unfold Vz putKs putDs
  have hany:(kvs.any fun kv=>decide (kv.1=x))=decide (x∈kvs.map (·.1)):=by rw [valV_any,val_isSome]
  rw [hany]
  by_cases hx:x∈kvs.map (·.1)
  · simp only [hx,decide_true,if_true]
    refine ⟨?_,zip_reps hr r⟩
    rw [List.map_map]
    apply List.map_congr_left
    intro kv _
    simp only [Function.comp]
    split <;> rfl
  · simp only [hx,decide_false,Bool.false_eq_true,if_false,List.map_append,List.map_cons,List.map_nil]
    exact ⟨trivial,Zs.append r (Zs.one hr)⟩
end
def keyK:D->Option YW
  | .int i=>some (.inl i)
  | .str x=>some (.inr x)
  | _=>none
def keysK:List D->Option (List YW)
  | []=>some []
  | d::ds=>(keyK d).bind fun k=>(keysK ds).bind fun r=>some (k::r)
def keyT:D->Option (List YW)
  | .tup ds=>keysK ds
  | _=>none
theorem keyK_rep {K:PySem.W.Frag} {H:Hp} {d:D} {v:V} {k:YW} (e:keyK d=some k) (r:Xe K H d v):v=kV k:=by
  cases d with
  | int i=>cases e;exact r
  | str x=>cases e;exact r
  | _=>cases e
theorem keysK_rep {K:PySem.W.Frag} {H:Hp}:∀ {ds:List D} {vs:List V} {ks:List YW},keysK ds=some ks->Zs K H ds vs->vs=ks.map kV
  | [],_,_,e,r=>by cases e;exact r
  | d::ds,_,ks,e,⟨v,vr,q,h,t⟩=>by
    obtain ⟨k,e1,e⟩:=bind_some e
    obtain ⟨ks',e2,e⟩:=bind_some e
    cases e
    subst q
    rw [keyK_rep e1 h,keysK_rep e2 t];rfl
theorem kD_rep {K:PySem.W.Frag} {H:Hp} (k:YW):Xe K H (kD k) (kV k):=by cases k <;> rfl
theorem kDs_reps {K:PySem.W.Frag} {H:Hp}:∀ (ks:List YW),Zs K H (ks.map kD) (ks.map kV)
  | []=>rfl
  | k::ks=>⟨_,_,rfl,kD_rep k,kDs_reps ks⟩
def dLook:D->D->Option (Option D)
  | .dcK ks ds,x=>(keyK x).bind fun k=>some (lkD ks ds k)
  | .dcT ks ds,x=>(keyT x).bind fun k=>some (lkD ks ds k)
  | .dcF ks ds,x=>(keyT x).bind fun k=>some (lkD ks ds k)
  | _,_=>none
theorem dlook_rel {K:PySem.W.Frag} {O:List Addr} {H:Hp} {dd x:D} {o:Option D} {a v:V} (e:dLook dd x=some o) (rd:Xe K (ZK O H) dd a) (rx:Xe K (ZK O H) x v) :
    ∃ p ov,a=.ref p/\DGet H p v ov/\IsD H p/\(∀ d,o=some d->∃ u,ov=some u/\Xe K (ZK O H) d u)/\(o=none->ov=none):=by
  cases dd with
  | dcK ks ds =>
    obtain ⟨k,e1,e⟩:=bind_some e
    cases e
    obtain ⟨p,kvs,rfl,hp,rfl,rs⟩:=rd
    have hp':=Zh _ _ hp
    cases keyK_rep e1 rx
    obtain ⟨h1,h2⟩:=lk_rel (x:=k) rs
    refine ⟨p,W5 kvs k,rfl,DGet.k hp',.inl ⟨kvs,.inl hp'⟩,fun d q=>?_,fun q=>h2 q⟩
    obtain ⟨u,g1,g2⟩:=h1 d q
    exact ⟨u,g1,g2⟩
  | dcT ks ds =>
    obtain ⟨k,e1,e⟩:=bind_some e
    cases e
    obtain ⟨p,kvs,rfl,hp,rfl,rs⟩:=rd
    have hp':=Zh _ _ hp
    cases x with
    | tup xs =>
      obtain ⟨b,vs,rfl,hb,rb⟩:=rx
      cases keysK_rep e1 rb
      obtain ⟨h1,h2⟩:=lk_rel (x:=k) rs
      refine ⟨p,W5 kvs k,rfl,DGet.t hp' (Zh _ _ hb),.inr ⟨kvs,.inl hp'⟩,fun d q=>?_,fun q=>h2 q⟩
      obtain ⟨u,g1,g2⟩:=h1 d q
      exact ⟨u,g1,g2⟩
    | _=>cases e1
  | dcF ks ds =>
    obtain ⟨k,e1,e⟩:=bind_some e
    cases e
    obtain ⟨p,fo,kvs,rfl,hp,rfl,rs⟩:=rd
    have hp':=Zh _ _ hp
    cases x with
    | tup xs =>
      obtain ⟨b,vs,rfl,hb,rb⟩:=rx
      cases keysK_rep e1 rb
      obtain ⟨h1,h2⟩:=lk_rel (x:=k) rs
      refine ⟨p,W5 kvs k,rfl,.inr ⟨kvs,k,b,.inr ⟨fo,hp'⟩,rfl,Zh _ _ hb,rfl⟩,.inr ⟨kvs,.inr ⟨fo,hp'⟩⟩,fun d q=>?_,fun q=>h2 q⟩
      obtain ⟨u,g1,g2⟩:=h1 d q
      exact ⟨u,g1,g2⟩
    | _=>cases e1
  | _=>cases e
section
variable {X:Cx}
def XY:D->Bool
  | .non=>true
  | .bl _=>true
  | .int _=>true
  | .str _=>true
  | _=>false
def toV:D->V
  | .bl b=>.bl b
  | .int i=>.int i
  | .str x=>.str x
  | _=>.non
theorem flat_rep {K:PySem.W.Frag} {H:Hp} {d:D} {v:V} (f:XY d=true) (r:Xe K H d v):v=toV d/\flatV v=true:=by
  cases d with
  | non=>rw [show v=_ from r];exact ⟨rfl,rfl⟩
  | bl b=>rw [show v=_ from r];exact ⟨rfl,rfl⟩
  | int b=>rw [show v=_ from r];exact ⟨rfl,rfl⟩
  | str b=>rw [show v=_ from r];exact ⟨rfl,rfl⟩
  | _=>cases f
theorem Vp {K:PySem.W.Frag} {H:Hp}:∀ {ds:List D} {vs:List V},ds.all XY=true->Zs K H ds vs->vs=ds.map toV/\vs.all flatV=true
  | [],_,_,r=>by rw [show _=_ from r];exact ⟨rfl,rfl⟩
  | d::ds,_,f,⟨v,vr,q,h,t⟩=>by
    subst q
    rw [List.all_cons,Bool.and_eq_true] at f
    obtain ⟨h1,h2⟩:=flat_rep f.1 h
    obtain ⟨h3,h4⟩:=Vp f.2 t
    exact ⟨by rw [h1,h3];rfl,by rw [List.all_cons,h2,h4];rfl⟩
def WH:D->D->Option D
  | x,.lst ds=>if (XY x && ds.all XY)=true then some (.bl (inV (toV x) (ds.map toV))) else none
  | x,.tup ds=>if (XY x && ds.all XY)=true then some (.bl (inV (toV x) (ds.map toV))) else none
  | x,y=>(dLook y x).bind fun o=>some (.bl o.isSome)
theorem op_din (hu:X.A.units+1 < cLine):OpR X (compareOp .In) (fun x y H Q=>∃ a o,y=.ref a/\DGet H a x o/\Q (.bl o.isSome) H):=by
  intro pins s σ H x y v u Q I rx ry h
  obtain ⟨a,o,rfl,g,q⟩:=h
  cases ry
  exact d_in hu I g rx fun s' I'=>⟨.bl o.isSome,H,I',rfl,q⟩
theorem opd_in (hu:X.A.units+64 < cLine):OpD X (compareOp .In) WH:=OpD.of (OpR.or op_in_seq (op_din (Nat.lt_of_le_of_lt (Nat.add_le_add_left (by decide) _) hu))) fun x y H Q ⟨O,dx,dy,d,th,rx,ry,e,q⟩=>by
  have dict:∀ o,dLook dy dx=some o->d=.bl o.isSome->∃ a ov,y=.ref a/\DGet H a x ov/\Q (.bl ov.isSome) H:=fun o e1 e2=>by
    obtain ⟨p,ov,e3,g,_,h1,h2⟩:=dlook_rel e1 ry rx
    refine ⟨p,ov,e3,g,?_⟩
    have:ov.isSome=o.isSome:=by
      cases o with
      | none=>rw [h2 rfl];rfl
      | some d'=>obtain ⟨u,hu,_⟩:=h1 d' rfl;rw [hu];rfl
    rw [this]
    subst e2
    exact q _ H (Zg.refl _) rfl
  cases dy with
  | lst ds =>
    have e:(if (XY dx && ds.all XY)=true then some (D.bl (inV (toV dx) (ds.map toV))) else none)=some d:=e
    split at e
    · rename_i hf
      cases e
      obtain ⟨f1,f2⟩:=Bool.and_eq_true_iff.mp hf
      obtain ⟨p,vs,rfl,hp,rp⟩:=ry
      obtain ⟨h1,h2⟩:=flat_rep f1 rx
      obtain ⟨h3,h4⟩:=Vp f2 rp
      refine .inl ⟨p,vs,rfl,.inl (Wa.of (Zh _ _ hp)),h2,h4,?_⟩
      rw [h1,h3]
      exact q _ H (Zg.refl _) rfl
    · cases e
  | tup ds =>
    have e:(if (XY dx && ds.all XY)=true then some (D.bl (inV (toV dx) (ds.map toV))) else none)=some d:=e
    split at e
    · rename_i hf
      cases e
      obtain ⟨f1,f2⟩:=Bool.and_eq_true_iff.mp hf
      obtain ⟨p,vs,rfl,hp,rp⟩:=ry
      obtain ⟨h1,h2⟩:=flat_rep f1 rx
      obtain ⟨h3,h4⟩:=Vp f2 rp
      refine .inl ⟨p,vs,rfl,.inr (Wy.of (Zh _ _ hp)),h2,h4,?_⟩
      rw [h1,h3]
      exact q _ H (Zg.refl _) rfl
    · cases e
  | dcK ks ds=>obtain ⟨o,e1,e⟩:=bind_some e;cases e;exact .inr (dict o e1 rfl)
  | dcT ks ds=>obtain ⟨o,e1,e⟩:=bind_some e;cases e;exact .inr (dict o e1 rfl)
  | dcF ks ds=>obtain ⟨o,e1,e⟩:=bind_some e;cases e;exact .inr (dict o e1 rfl)
  | _=>cases e
def dixD:D->D->Option D:=fun d k=>(dLook d k).bind fun o=>o
theorem ev_dix {a b:Expr} {fa fb:FE} {pos:Pos} (hu:X.A.units+64 < cLine) (ha:EV X a fa) (hb:EV X b fb) (hs:NoSl b:=by exact fun _ _=>rfl):EV X (.Subscript a b pos) (f2 dixD fa fb) :=
  PE.imp (pe_dget (Nat.lt_of_le_of_lt (Nat.add_le_add_left (by decide) _) hu) ha hb hs) fun σ H Q h=>by
    obtain ⟨O,ρ,d,rv,e,q⟩:=h
    obtain ⟨x,e1,e⟩:=bind_some e
    obtain ⟨y,e2,e⟩:=bind_some e
    obtain ⟨o,e3,e⟩:=bind_some e
    subst e
    refine ⟨O,ρ,x,rv,e1,fun v H1 s1 r1=>⟨O,ρ,y,rv.mono s1,e2,fun u H2 s2 r2=>?_⟩⟩
    obtain ⟨p,ov,e4,g,_,h1,_⟩:=dlook_rel e3 (Xe.mono (ZH s2) x v r1) r2
    obtain ⟨w,ew,rw'⟩:=h1 d rfl
    exact ⟨p,w,e4,by rw [<- ew];exact g,q w H2 (Zg.trans s1 s2) rw'⟩
def fDgt (fa fb fc:FE):FE:=fun ρ=>(fa ρ).bind fun x=>(fb ρ).bind fun y=>(fc ρ).bind fun z=>(dLook x y).bind fun o=>some (o.getD z)
theorem ev_dgt {o e f:Expr} {fa fb fc:FE} {apos cpos:Pos} (hu:X.A.units+64 < cLine) (ho:EV X o fa) (he:EV X e fb) (hf:EV X f fc) (m:M2 X o "get" apos e f cpos:=by exact ⟨rfl,rfl,rfl,rfl⟩) :
    EV X (.Call (.Attribute o "get" apos) [e,f] [] cpos) (fDgt fa fb fc):=PE.imp (pe_dget2 (Nat.lt_of_le_of_lt (Nat.add_le_add_left (by decide) _) hu) ho he hf m) fun σ H Q h=>by
  obtain ⟨O,ρ,d,rv,e,q⟩:=h
  obtain ⟨x,e1,e⟩:=bind_some e
  obtain ⟨y,e2,e⟩:=bind_some e
  obtain ⟨z,e3,e⟩:=bind_some e
  obtain ⟨o,e4,e⟩:=bind_some e
  cases e
  refine ⟨O,ρ,x,rv,e1,fun v H1 s1 r1=>?_⟩
  have isd:∃ p,v=.ref p/\IsD H1 p:=by
    cases x with
    | dcK ks ds=>obtain ⟨p,kvs,rfl,hp,_⟩:=r1;exact ⟨p,rfl,.inl ⟨kvs,.inl (Zh _ _ hp)⟩⟩
    | dcT ks ds=>obtain ⟨p,kvs,rfl,hp,_⟩:=r1;exact ⟨p,rfl,.inr ⟨kvs,.inl (Zh _ _ hp)⟩⟩
    | dcF ks ds=>obtain ⟨p,fo,kvs,rfl,hp,_⟩:=r1;exact ⟨p,rfl,.inr ⟨kvs,.inr ⟨fo,Zh _ _ hp⟩⟩⟩
    | _=>cases e4
  obtain ⟨p,rfl,hd⟩:=isd
  refine ⟨p,rfl,hd,O,ρ,y,rv.mono s1,e2,fun u H2 s2 r2=>⟨O,ρ,z,rv.mono (Zg.trans s1 s2),e3,fun w H3 s3 r3=>?_⟩⟩
  obtain ⟨p',ov,ep,g,_,h1,h2⟩:=dlook_rel e4 (Xe.mono (ZH (Zg.trans s2 s3)) x _ r1) (Xe.mono (ZH s3) y u r2)
  cases ep
  refine ⟨ov,g,?_⟩
  cases o with
  | none=>rw [h2 rfl];exact q w H3 (Zg.trans s1 (Zg.trans s2 s3)) r3
  | some d'=>obtain ⟨t,et,rt⟩:=h1 d' rfl;rw [et];exact q t H3 (Zg.trans s1 (Zg.trans s2 s3)) rt
def lenKD:List D->Option D
  | [.dcK ks _]=>some (.int ks.length)
  | _=>none
theorem cd_lenK:Xy X (.builtin "len") lenKD:=Xy.of call_lenD fun xs H Q ⟨O,ds,d,th,rs,e,q⟩=>by
  unfold lenKD at e
  split at e
  · cases e
    obtain ⟨v,rfl,p,kvs,rfl,hp,hk,_⟩:=reps1 rs
    refine ⟨p,kvs,rfl,Zh _ _ hp,?_⟩
    rw [<- hk,List.length_map] at q
    exact q _ H (Zg.refl _) rfl
  · cases e
def listTD:List D->Option D
  | [.dcT ks _]=>some (.lst (ks.map fun k=>.tup (k.map kD)))
  | _=>none
theorem keys_reps {K:PySem.W.Frag} {H:Hp}:∀ {ks:List (List YW)} {bs:List Addr},Paired (fun (k:List YW) (b:Addr)=>H b=some (.tup (k.map kV))) ks bs->Zs K H (ks.map fun k=>.tup (k.map kD)) (bs.map V.ref)
  | _,_,.nil=>rfl
  | _,_,.cons h t=>⟨_,_,rfl,⟨_,_,rfl,h,kDs_reps _⟩,keys_reps t⟩
theorem cd_listT (hc:X.calm=true):Xy X (.type "list") listTD:=Xy.of (call_list_dT hc) fun xs H Q ⟨O,ds,d,th,rs,e,q⟩=>by
  unfold listTD at e
  split at e
  · cases e
    obtain ⟨v,rfl,p,kvs,rfl,hp,rfl,_⟩:=reps1 rs
    refine ⟨p,kvs,rfl,Zh _ _ hp,fun l bs hl pk=>q _ _ (Zg.new hl) (YD th hl ?_)⟩
    refine keys_reps (Paired.mapP pk fun k b hb=>?_)
    refine (Zv fun m=>?_).trans hb
    obtain ⟨o,h1,h2⟩:=th b m
    rw [hb] at h1;cases h1;exact h2
  · cases e
def sOwnT (i:Nat):FS:=fun ρ=>.nx (ρ.set i (some (.own (.dcT [] []))))
theorem sv_ownT {i:Nat} {x:Str} {pos pos' pd:Pos} (hN:X.N.Nodup) (hi:X.N[i]?=some x:=by rfl) (hx:Loc X.env.scope x:=by first | exact Or.inl rfl | exact Or.inr rfl) (hs:swapsWith (.Dict [] [] pd) (some (.Name x pos')) pos.line X.env=pure false:=by rfl)
    (hf:X.fn x=true\/X.env.scope.names.lookup x=some .local:=by first | exact .inl rfl | exact .inr rfl):SV X (.Assign [.Name x pos'] (.Dict [] [] pd) pos) (sOwnT i):=PS.imp (ps_set hN hi hx pe_dnewT hs hf) fun E σ H ⟨B,O0,O1,ρ,r,q⟩ =>
  fun p hp=>q _ _ (p::O1) (r.setOwn hp trivial ⟨[],Z1,rfl,rfl⟩)
def sOwn1 (i:Nat) (c:Int) (b:Bool):FS:=fun ρ=>.nx (ρ.set i (some (.own (.dcK [.inl c] [.bl b]))))
theorem sv_own1 {i:Nat} {x:Str} {c:Int} {b:Bool} {j1 j2} {pos pos' pd p1 p2:Pos} (hN:X.N.Nodup) (hi:X.N[i]?=some x:=by rfl) (hx:Loc X.env.scope x:=by first | exact Or.inl rfl | exact Or.inr rfl)
    (hs:swapsWith (.Dict [some (.Constant (.int c) j1 p1)] [.Constant (.bool b) j2 p2] pd) (some (.Name x pos')) pos.line X.env=pure false:=by rfl)
    (hf:X.fn x=true\/X.env.scope.names.lookup x=some .local:=by first | exact .inl rfl | exact .inr rfl):SV X (.Assign [.Name x pos'] (.Dict [some (.Constant (.int c) j1 p1)] [.Constant (.bool b) j2 p2] pd) pos) (sOwn1 i c b) :=
  PS.imp (ps_set hN hi hx (pe_disp (pps_cons pe_int pe_bl pps_nil) rfl rfl (by simp) (by simp)) hs hf) fun E σ H ⟨B,O0,O1,ρ,r,q⟩=>by
    intro p hp
    refine ⟨Z1,[(.inl c,.bl b)],rfl,by simp,?_⟩
    rw [upd_upd]
    exact q _ _ (p::O1) (r.setOwn hp trivial ⟨_,Z1,rfl,_,_,rfl,rfl,rfl⟩)
def Xk (i:Nat) (fk fv:FE):FS:=fun ρ=>match ρ[i]?,fv (Z6 ρ),fk (Z6 ρ) with
  | some (some (.own (.dcK ks ds))),some d,some kd=>(match keyK kd with
    | some k=>if imm d=true/\ks.length < Xi then .nx (ρ.set i (some (.own (.dcK (putKs ks k) (putDs ks ds k d))))) else .bad
    | none=>.bad)
  | some (some (.own (.dcT ks ds))),some d,some kd=>(match keyT kd with
    | some k=>if imm d=true/\ks.length < Xi then .nx (ρ.set i (some (.own (.dcT (putKs ks k) (putDs ks ds k d))))) else .bad
    | none=>.bad)
  | _,_,_=>.bad
theorem sv_dset {i:Nat} {x:Str} {k e:Expr} {fk fv:FE} {pos p1 p2:Pos} (hu:X.A.units+64 < cLine) (hk:EV X k fk) (he:EV X e fv) (hN:X.N[i]?=some x:=by rfl) (hv:Vis X.env.scope x:=by first | exact Or.inl rfl | exact Or.inr (Or.inl rfl) | exact Or.inr (Or.inr rfl))
    (hd:(x == ("__debug__":Str))=false:=by decide) (hcd:(x == ("__classdict__":Str))=false:=by decide) (hs:swapsWith e (some (.Subscript (.Name x p1) k p2)) pos.line X.env=pure false:=by rfl) :
    SV X (.Assign [.Subscript (.Name x p1) k p2] e pos) (Xk i fk fv):=PS.imp (ps_dput (Nat.lt_of_le_of_lt (Nat.add_le_add_left (by decide) _) hu) (pe_var hN hv hd hcd) hk he hs) fun E σ H ⟨B,O0,O1,ρ,r,q⟩=>by
  have emask:∀ {a:Addr} {o:HO} {H2:Hp},a∈O1->ZK (O0++O1) (YV H2 a o)=ZK (O0++O1) H2:=fun {a o H2} hO=>by
    funext b
    by_cases hb:b∈O0++O1
    · rw [Ye hb,Ye hb]
    · rw [Zv hb,Zv hb,ZG (fun z=>hb (by rw [z];exact List.mem_append_right _ hO))]
  have small:∀ {n:Nat},n < Xi->n < sizeLine:=fun {n} h=>by
    rw [show sizeLine=16777216 from sizeLine_eq]
    unfold Xi at h
    omega
  unfold Xk at q
  split at q
  · rename_i ks ds d kd hi e1 e2
    split at q
    · rename_i key ek
      split at q
      · rename_i hm
        obtain ⟨a,ha,hO,kvs,hv',rfl,rs⟩:=r.owns i _ hi
        refine ⟨O0,Z6 ρ,d,r.all,e1,fun v H1 s1 rv1=>?_⟩
        have r1:=r.mono s1
        refine ⟨.ref a,ha,O0,Z6 ρ,kd,r1.all,e2,fun y H2 s2 rv2=>?_⟩
        have r2:=r1.mono s2
        have hv2:H2 a=some (.dK kvs):=s2 _ _ (s1 _ _ hv')
        cases keyK_rep ek rv2
        refine ⟨a,_,rfl,DPut.k hv2 (small (by simpa using hm.2)),?_⟩
        have rd:Xe X.K (ZK (O0++O1) H2) d v:=rep_imm r2.th d v hm.1 (Xe.mono (ZH s2) d v rv1)
        obtain ⟨g1,g2⟩:=put_rel (x:=key) rd (Zs.mono (ZH (Zg.trans s1 s2)) ds _ rs)
        exact q _ _ O1 (r2.write hi ha trivial ⟨_,Z1,g1,by rw [emask hO];exact g2⟩)
      · exact q.elim
    · exact q.elim
  · rename_i ks ds d kd hi e1 e2
    split at q
    · rename_i key ek
      split at q
      · rename_i hm
        obtain ⟨a,ha,hO,kvs,hv',rfl,rs⟩:=r.owns i _ hi
        refine ⟨O0,Z6 ρ,d,r.all,e1,fun v H1 s1 rv1=>?_⟩
        have r1:=r.mono s1
        refine ⟨.ref a,ha,O0,Z6 ρ,kd,r1.all,e2,fun y H2 s2 rv2=>?_⟩
        have r2:=r1.mono s2
        have hv2:H2 a=some (.dT kvs):=s2 _ _ (s1 _ _ hv')
        cases kd with
        | tup xs =>
          obtain ⟨b,vs,rfl,hb,rb⟩:=rv2
          cases keysK_rep ek rb
          refine ⟨a,_,rfl,DPut.t hv2 (Zh _ _ hb) (small (by simpa using hm.2)),?_⟩
          have rd:Xe X.K (ZK (O0++O1) H2) d v:=rep_imm r2.th d v hm.1 (Xe.mono (ZH s2) d v rv1)
          obtain ⟨g1,g2⟩:=put_rel (x:=key) rd (Zs.mono (ZH (Zg.trans s1 s2)) ds _ rs)
          exact q _ _ O1 (r2.write hi ha trivial ⟨_,Z1,g1,by rw [emask hO];exact g2⟩)
        | _=>cases ek
      · exact q.elim
    · exact q.elim
  · exact q.elim
end
end L2

namespace M
def S:Nat->(Nat->Int)->Int
  | 0,_=>0
  | n+1,f=>S n f+f n
theorem S_congr:∀ (n:Nat) {f g:Nat->Int},(∀ i,i < n->f i=g i)->S n f=S n g
  | 0,_,_,_=>rfl
  | n+1,f,g,h=>by
    show S n f+f n=S n g+g n
    rw [S_congr n fun i hi=>h i (Nat.lt_succ_of_lt hi),h n (Nat.lt_succ_self n)]
theorem S_zero:∀ (n:Nat),S n (fun _=>0)=0
  | 0=>rfl
  | n+1=>by show S n _+0=0;rw [S_zero n];rfl
theorem S_add:∀ (n:Nat) (f g:Nat->Int),S n (fun i=>f i+g i)=S n f+S n g
  | 0,_,_=>rfl
  | n+1,f,g=>by show S n (fun i=>f i+g i)+(f n+g n)=(S n f+f n)+(S n g+g n);rw [S_add n f g];omega
theorem S_sub:∀ (n:Nat) (f g:Nat->Int),S n (fun i=>f i - g i)=S n f - S n g
  | 0,_,_=>rfl
  | n+1,f,g=>by show S n (fun i=>f i - g i)+(f n - g n)=(S n f+f n) - (S n g+g n);rw [S_sub n f g];omega
theorem S_mul:∀ (n:Nat) (k:Int) (f:Nat->Int),S n (fun i=>k * f i)=k * S n f
  | 0,k,_=>by show (0:Int)=k * 0;omega
  | n+1,k,f=>by show S n _+_=k * (S n f+f n);rw [S_mul n k f,Int.mul_add]
theorem S_neg (n:Nat) (f:Nat->Int):S n (fun i=>- f i)=- S n f:=by
  have:=S_mul n (-1) f
  rw [show (-1:Int) * S n f=- S n f by omega] at this
  rw [<- this];exact S_congr n fun i _=>by omega
theorem S_le:∀ (n:Nat) {f g:Nat->Int},(∀ i,i < n->f i<=g i)->S n f<=S n g
  | 0,_,_,_=>Int.le_refl _
  | n+1,f,g,h=>by
    have a:=S_le n fun i hi=>h i (Nat.lt_succ_of_lt hi)
    have b:=h n (Nat.lt_succ_self n)
    show S n f+f n<=S n g+g n;omega
theorem S_nonneg (n:Nat) {f:Nat->Int} (h:∀ i,i < n->0<=f i):0<=S n f:=by
  have:=S_le n h;rwa [S_zero] at this
theorem S_ge_term (n:Nat) {f:Nat->Int} (h:∀ i,i < n->0<=f i) {k:Nat} (hk:k < n):f k<=S n f:=by
  induction n with
  | zero=>omega
  | succ n ih =>
    show f k<=S n f+f n
    by_cases e:k=n
    · subst e
      have:=S_nonneg k fun i hi=>h i (Nat.lt_succ_of_lt hi)
      omega
    · have:=ih (fun i hi=>h i (Nat.lt_succ_of_lt hi)) (by omega)
      have:=h n (Nat.lt_succ_self n)
      omega
theorem S_comm:∀ (n m:Nat) (f:Nat->Nat->Int),S n (fun i=>S m (fun j=>f i j))=S m (fun j=>S n (fun i=>f i j))
  | 0,m,f=>(S_zero m).symm
  | n+1,m,f=>by
    show S n (fun i=>S m (fun j=>f i j))+S m (fun j=>f n j)=S m (fun j=>S n (fun i=>f i j)+f n j)
    rw [S_comm n m f,S_add m (fun j=>S n (fun i=>f i j)) (fun j=>f n j)]
theorem S_one:∀ (n k:Nat) (f:Nat->Int),k < n->S n (fun i=>if i=k then f i else 0)=f k
  | 0,_,_,h=>by omega
  | n+1,k,f,h=>by
    show S n _+(if n=k then f n else 0)=f k
    by_cases e:n=k
    · subst e
      rw [if_pos rfl,S_congr n (g:=fun _=>0) fun i hi=>if_neg (by omega),S_zero];omega
    · rw [if_neg e,S_one n k f (by omega)];omega
theorem S_out (n k:Nat) (f:Nat->Int) (h:k < n):S n f=f k+S n (fun i=>if i=k then 0 else f i):=by
  have a:=S_add n (fun i=>if i=k then f i else 0) (fun i=>if i=k then 0 else f i)
  rw [S_one n k f h] at a
  rw [<- a]
  exact S_congr n fun i _=>by split <;> omega
theorem argmax:∀ (n:Nat) (c:Nat->Int),0 < n->∃ m,m < n/\∀ i,i < n->c i<=c m
  | 0,_,h=>by omega
  | 1,c,_=>⟨0,by omega,fun i hi=>by (have:i=0:=(by omega));subst this;exact Int.le_refl _⟩
  | n+2,c,_=>by
    obtain ⟨m,hm,h⟩:=argmax (n+1) c (by omega)
    by_cases e:c m<=c (n+1)
    · refine ⟨n+1,by omega,fun i hi=>?_⟩
      by_cases ei:i=n+1
      · subst ei;exact Int.le_refl _
      · exact Int.le_trans (h i (by omega)) e
    · refine ⟨m,by omega,fun i hi=>?_⟩
      by_cases ei:i=n+1
      · subst ei;omega
      · exact h i (by omega)
structure Net (n:Nat) (L:Nat->Nat->Int):Prop where
  sym:∀ i j,i < n->j < n->L i j=L j i
  nn:∀ i j,0<=L i j
  diag:∀ i,L i i=0
def flow (n:Nat) (L:Nat->Nat->Int) (c:Nat->Int) (i:Nat):Int:=S n fun j=>L i j * (c i - c j)
def fire (n:Nat) (L:Nat->Nat->Int) (d c:Nat->Int) (i:Nat):Int:=d i - flow n L c i
section
variable {n:Nat} {L:Nat->Nat->Int}
theorem flow_add (c e:Nat->Int) (i:Nat):flow n L (fun j=>c j+e j) i=flow n L c i+flow n L e i:=by
  unfold flow
  rw [<- S_add]
  exact S_congr n fun j _=>by rw [<- Int.mul_add];congr 1;show c i+e i - (c j+e j)=_;omega
theorem flow_neg (c:Nat->Int) (i:Nat):flow n L (fun j=>- c j) i=- flow n L c i:=by
  unfold flow
  rw [<- S_neg]
  exact S_congr n fun j _=>by rw [<- Int.mul_neg];congr 1;show -c i - -c j=_;omega
theorem flow_mul (k:Int) (c:Nat->Int) (i:Nat):flow n L (fun j=>k * c j) i=k * flow n L c i:=by
  unfold flow
  rw [<- S_mul]
  exact S_congr n fun j _=>by rw [<- Int.mul_sub,Int.mul_left_comm]
theorem flow_const (k:Int) (i:Nat):flow n L (fun _=>k) i=0:=by
  unfold flow
  rw [S_congr n (g:=fun _=>0) fun j _=>by rw [Int.sub_self,Int.mul_zero],S_zero]
theorem flow_congr {c e:Nat->Int} (h:∀ j,j < n->c j=e j) {i:Nat} (hi:i < n):flow n L c i=flow n L e i:=by
  unfold flow
  exact S_congr n fun j hj=>by rw [h i hi,h j hj]
theorem fire_congr {d d' c e:Nat->Int} (hd:∀ j,j < n->d j=d' j) (h:∀ j,j < n->c j=e j) {i:Nat} (hi:i < n):fire n L d c i=fire n L d' e i:=by
  unfold fire;rw [hd i hi,flow_congr h hi]
theorem fire_fire (d c e:Nat->Int) (i:Nat):fire n L (fire n L d c) e i=fire n L d (fun j=>c j+e j) i:=by
  unfold fire;rw [flow_add];omega
theorem fire_back (d c:Nat->Int) (i:Nat):fire n L (fire n L d c) (fun j=>- c j) i=d i:=by
  unfold fire;rw [flow_neg];omega
theorem flow_weigh (N:Net n L) (w c:Nat->Int):S n (fun i=>w i * flow n L c i)=S n (fun i=>c i * flow n L w i):=by
  unfold flow
  have h1:∀ (a b:Nat->Int),S n (fun i=>a i * S n (fun j=>L i j * (b i - b j)))=S n (fun i=>S n fun j=>L i j * (a i * b i)) - S n (fun i=>S n fun j=>L i j * (a i * b j)):=by
    intro a b
    rw [<- S_sub]
    refine S_congr n fun i _=>?_
    rw [<- S_sub,<- S_mul]
    refine S_congr n fun j _=>?_
    rw [Int.mul_sub,Int.mul_sub,Int.mul_left_comm,Int.mul_left_comm (a i)]
  rw [h1,h1]
  congr 1
  · exact S_congr n fun i _=>S_congr n fun j _=>by rw [Int.mul_comm (w i)]
  · rw [S_comm]
    refine S_congr n fun j hj=>S_congr n fun i hi=>?_
    rw [N.sym i j hi hj,Int.mul_comm (w i)]
theorem flow_sum (N:Net n L) (c:Nat->Int):S n (flow n L c)=0:=by
  have:=flow_weigh N (fun _=>1) c
  simp only [flow_const,Int.mul_zero,Int.one_mul,S_zero] at this
  exact this
theorem fire_sum (N:Net n L) (d c:Nat->Int):S n (fire n L d c)=S n d:=by
  unfold fire
  rw [S_sub,show S n (fun i=>flow n L c i)=0 from flow_sum N c];omega
def outOf (n:Nat) (L:Nat->Nat->Int) (A:Nat->Bool) (i:Nat):Int:=S n fun j=>if A j=true then 0 else L i j
def NoDebt (n:Nat) (q:Nat) (d:Nat->Int):Prop:=∀ i,i < n->i≠q->0<=d i
structure Settled (n:Nat) (L:Nat->Nat->Int) (q:Nat) (d:Nat->Int):Prop where
  nodebt:NoDebt n q d
  sets:∀ A:Nat->Bool,A q=false->(∃ i,i < n/\A i=true)->∃ i,i < n/\A i=true/\d i < outOf n L A i
theorem settled_max (N:Net n L) {q:Nat} (hq:q < n) {d c:Nat->Int} (h:Settled n L q d) (h':NoDebt n q (fire n L d c)):∀ i,i < n->c i<=c q:=by
  obtain ⟨m,hm,hmax⟩:=argmax n c (by omega)
  intro i hi
  by_cases e:c m<=c q
  · exact Int.le_trans (hmax i hi) e
  · exfalso
    obtain ⟨k,hk,ek,lt⟩:=h.sets (fun j=>decide (c j=c m)) (by simp;omega) ⟨m,hm,by simp⟩
    have ek:c k=c m:=by simpa using ek
    have kq:k≠q:=fun z=>by subst z;omega
    have ge:=h' k hk kq
    have:outOf n L (fun j=>decide (c j=c m)) k<=flow n L c k:=by
      refine S_le n fun j hj=>?_
      have nn:=N.nn k j
      by_cases ej:c j=c m
      · simp only [ej,decide_true,if_true]
        rw [ek,Int.sub_self,Int.mul_zero];exact Int.le_refl _
      · simp only [ej,decide_false,Bool.false_eq_true,if_false]
        have h1:1<=c k - c j:=by have:=hmax j hj;omega
        have:=Int.mul_le_mul_of_nonneg_left h1 nn
        rwa [Int.mul_one] at this
    unfold fire at ge
    omega
theorem settled_unique (N:Net n L) {q:Nat} (hq:q < n) {d c:Nat->Int} (h:Settled n L q d) (h':Settled n L q (fire n L d c)):∀ i,i < n->c i=c q/\fire n L d c i=d i:=by
  have a:=settled_max N hq h h'.nodebt
  have b:=settled_max N hq h' (c:=fun j=>- c j) fun i hi hiq=>by rw [fire_back];exact h.nodebt i hi hiq
  have e:∀ i,i < n->c i=c q:=fun i hi=>by
    have:=a i hi;have:=b i hi;omega
  refine fun i hi=>⟨e i hi,?_⟩
  unfold fire
  rw [flow_congr (e:=fun _=>c q) (fun j hj=>e j hj) hi,flow_const];omega
end
end M

namespace M
theorem length_le_of_nodup:∀ (n:Nat) (l:List Nat),l.Nodup->(∀ x∈l,x < n)->l.length<=n
  | 0,l,_,h=>by
    cases l with
    | nil=>exact Nat.le_refl _
    | cons x r=>exact absurd (h x List.mem_cons_self) (by omega)
  | n+1,l,nd,h=>by
    by_cases hn:n∈l
    · have h1:=length_le_of_nodup n (l.erase n) (nd.erase n) fun x hx=>by
        have h2:=h x (List.mem_of_mem_erase hx)
        have h3:x≠n:=fun z=>by subst z;exact (List.Nodup.not_mem_erase nd) hx
        omega
      have:=List.length_erase_of_mem hn
      have:0 < l.length:=List.length_pos_of_mem hn
      omega
    · have h1:=length_le_of_nodup n l nd fun x hx=>by
        have h2:=h x hx
        have h3:x≠n:=fun z=>by subst z;exact hn hx
        omega
      omega
def sumL (L:Nat->Nat->Int) (i:Nat) (bs:List Nat):Int:=(bs.map (L i)).sum
theorem sumL_S (n:Nat) (L:Nat->Nat->Int) (i:Nat):∀ (bs:List Nat),bs.Nodup->(∀ x∈bs,x < n)->sumL L i bs=S n (fun j=>if j∈bs then L i j else 0)
  | [],_,_=>by
    show (0:Int)=_
    rw [S_congr n (g:=fun _=>0) fun j _=>if_neg (by simp),S_zero]
  | b::bs,nd,h=>by
    have nb:b∉bs:=(List.nodup_cons.mp nd).1
    show L i b+sumL L i bs=_
    rw [sumL_S n L i bs (List.nodup_cons.mp nd).2 fun x hx=>h x (List.mem_cons_of_mem _ hx)]
    rw [S_out n b (fun j=>if j∈b::bs then L i j else 0) (h b List.mem_cons_self),if_pos List.mem_cons_self]
    congr 1
    refine S_congr n fun j _=>?_
    by_cases e:j=b
    · subst e;rw [if_pos rfl,if_neg nb]
    · rw [if_neg e]
      by_cases m:j∈bs
      · rw [if_pos m,if_pos (List.mem_cons_of_mem _ m)]
      · rw [if_neg m,if_neg (by simp [e,m])]
theorem S_range:∀ (n:Nat) (f:Nat->Int),((List.range n).map f).sum=S n f
  | 0,_=>rfl
  | n+1,f=>by
    rw [List.range_succ,List.map_append,List.sum_append,S_range n f]
    show S n f+(f n+0)=S n f+f n
    omega
def bstep (L:Nat->Nat->Int) (d:Nat->Int) (bs:List Nat) (y:Nat):List Nat:=if y∉bs/\d y < sumL L y bs then bs++[y] else bs
def others (n q:Nat):List Nat:=(List.range n).filter fun y=>decide (y≠q)
def bround (L:Nat->Nat->Int) (d:Nat->Int) (ys bs:List Nat):List Nat:=ys.foldl (bstep L d) bs
def brounds (L:Nat->Nat->Int) (d:Nat->Int) (ys:List Nat):Nat->List Nat->List Nat
  | 0,bs=>bs
  | k+1,bs=>brounds L d ys k (bround L d ys bs)
def burnt (n:Nat) (L:Nat->Nat->Int) (d:Nat->Int) (q:Nat):List Nat:=brounds L d (others n q) n [q]
theorem mem_others {n q y:Nat}:y∈others n q ↔ y < n/\y≠q:=by unfold others;simp
structure BI (n:Nat) (L:Nat->Nat->Int) (d:Nat->Int) (q:Nat) (bs:List Nat):Prop where
  head:bs[0]?=some q
  nd:bs.Nodup
  lt:∀ x∈bs,x < n
  fewer:∀ (k y:Nat),bs[k]?=some y->0 < k->d y < sumL L y (bs.take k)
section
variable {n:Nat} {L:Nat->Nat->Int} {d:Nat->Int} {q:Nat}
theorem BI.start (hq:q < n):BI n L d q [q]:=⟨rfl,by simp,fun x hx=>by simp at hx;omega,fun k y e hk=>by
  cases k with
  | zero=>omega
  | succ k=>simp at e⟩
theorem BI.len {bs:List Nat} (b:BI n L d q bs):bs.length<=n:=length_le_of_nodup n bs b.nd b.lt
theorem BI.step {bs:List Nat} (b:BI n L d q bs) {y:Nat} (hy:y < n):BI n L d q (bstep L d bs y):=by
  unfold bstep
  split
  · rename_i h
    have h0:0 < bs.length:=by
      cases e:bs with
      | nil=>have:=b.head;rw [e] at this;cases this
      | cons x r=>simp
    refine ⟨by rw [List.getElem?_append_left h0];exact b.head,?_,fun x hx=>?_,fun k z e hk=>?_⟩
    · rw [List.nodup_append]
      exact ⟨b.nd,by simp,fun a ha c hc=>by simp at hc;subst hc;exact fun z=>h.1 (z ▸ ha)⟩
    · rcases List.mem_append.mp hx with z | z
      · exact b.lt x z
      · simp at z;omega
    · by_cases hl:k < bs.length
      · rw [List.getElem?_append_left hl] at e
        rw [List.take_append_of_le_length (Nat.le_of_lt hl)]
        exact b.fewer k z e hk
      · have hk':k < (bs++[y]).length:=(List.getElem?_eq_some_iff.mp e).1
        have ek:k=bs.length:=by simp at hk';omega
        subst ek
        have:z=y:=by simpa using e.symm
        subst this
        rw [List.take_left]
        exact h.2
  · exact b
theorem BI.round {ys:List Nat} (hy:∀ y∈ys,y < n):∀ {bs:List Nat},BI n L d q bs->BI n L d q (bround L d ys bs):=by
  induction ys with
  | nil=>exact fun b=>b
  | cons y ys ih =>
    intro bs b
    exact ih (fun z hz=>hy z (List.mem_cons_of_mem _ hz)) (b.step (hy y List.mem_cons_self))
theorem BI.rounds {ys:List Nat} (hy:∀ y∈ys,y < n):∀ (k:Nat) {bs:List Nat},BI n L d q bs->BI n L d q (brounds L d ys k bs)
  | 0,_,b=>b
  | k+1,_,b=>BI.rounds hy k (b.round hy)
def Clos (n:Nat) (L:Nat->Nat->Int) (d:Nat->Int) (bs:List Nat):Prop:=∀ y,y < n->y∉bs->sumL L y bs<=d y
theorem bstep_len (bs:List Nat) (y:Nat):bs.length<=(bstep L d bs y).length:=by
  unfold bstep;split <;> simp
theorem bround_len (ys:List Nat):∀ (bs:List Nat),bs.length<=(bround L d ys bs).length:=by
  induction ys with
  | nil=>exact fun _=>Nat.le_refl _
  | cons y ys ih=>exact fun bs=>Nat.le_trans (bstep_len bs y) (ih _)
theorem bround_same {ys:List Nat}:∀ {bs:List Nat},(bround L d ys bs).length=bs.length->∀ y∈ys,y∉bs->sumL L y bs<=d y:=by
  induction ys with
  | nil=>intro _ _ y hy;cases hy
  | cons z ys ih =>
    intro bs h y hy hn
    have h1:(bstep L d bs z).length=bs.length:=by
      have a:=bstep_len (L:=L) (d:=d) bs z
      have b:=bround_len (L:=L) (d:=d) ys (bstep L d bs z)
      have c:(bround L d ys (bstep L d bs z)).length=bs.length:=h
      omega
    have h2:¬ (z∉bs/\d z < sumL L z bs):=fun w=>by unfold bstep at h1;rw [if_pos w] at h1;simp at h1
    have h3:bstep L d bs z=bs:=if_neg h2
    have h4:(bround L d ys bs).length=bs.length:=by
      have c:(bround L d ys (bstep L d bs z)).length=bs.length:=h
      rwa [h3] at c
    rcases List.mem_cons.mp hy with e | e
    · subst e
      by_cases w:d y < sumL L y bs
      · exact absurd ⟨hn,w⟩ h2
      · omega
    · exact ih h4 y e hn
theorem bround_clos {ys bs:List Nat} (h:∀ y∈ys,y∉bs->sumL L y bs<=d y):bround L d ys bs=bs:=by
  induction ys with
  | nil=>rfl
  | cons z ys ih =>
    have h3:bstep L d bs z=bs:=if_neg fun w=>by have:=h z List.mem_cons_self w.1;omega
    show bround L d ys (bstep L d bs z)=bs
    rw [h3]
    exact ih fun y hy=>h y (List.mem_cons_of_mem _ hy)
theorem brounds_clos {ys:List Nat}:∀ (k:Nat) {bs:List Nat},(∀ y∈ys,y∉bs->sumL L y bs<=d y)->brounds L d ys k bs=bs
  | 0,_,_=>rfl
  | k+1,bs,h=>by show brounds L d ys k (bround L d ys bs)=bs;rw [bround_clos h];exact brounds_clos k h
theorem brounds_end {ys:List Nat}:∀ (k:Nat) (bs:List Nat),(∀ y∈ys,y∉brounds L d ys k bs->sumL L y (brounds L d ys k bs)<=d y)\/bs.length+k<=(brounds L d ys k bs).length
  | 0,bs=>.inr (Nat.le_refl _)
  | k+1,bs=>by
    by_cases e:(bround L d ys bs).length=bs.length
    · left
      have h1:=bround_same e
      have h2:bround L d ys bs=bs:=bround_clos h1
      have h3:brounds L d ys (k+1) bs=bs:=brounds_clos (k+1) h1
      rw [h3];exact h1
    · have:=bround_len (L:=L) (d:=d) ys bs
      rcases brounds_end k (bround L d ys bs) with h | h
      · exact .inl h
      · right
        show bs.length+(k+1)<=(brounds L d ys k (bround L d ys bs)).length
        omega
theorem burnt_bi (hq:q < n):BI n L d q (burnt n L d q):=BI.rounds (fun y hy=>(mem_others.mp hy).1) n (BI.start hq)
theorem burnt_clos (hq:q < n):Clos n L d (burnt n L d q):=by
  intro y hy hn
  have b:=burnt_bi (L:=L) (d:=d) hq
  rcases brounds_end (L:=L) (d:=d) (ys:=others n q) n [q] with h | h
  · refine h y (mem_others.mpr ⟨hy,fun z=>hn ?_⟩) hn
    subst z
    exact List.mem_of_getElem? b.head
  · have:=b.len
    unfold burnt at this
    simp at h
    omega
theorem full_mem:∀ (n:Nat) (l:List Nat),l.Nodup->(∀ x∈l,x < n)->l.length=n->∀ y,y < n->y∈l
  | n,l,nd,h,hl,y,hy=>by
    by_cases m:y∈l
    · exact m
    · have:=length_le_of_nodup n (y::l) (List.nodup_cons.mpr ⟨m,nd⟩) fun x hx=>by
        rcases List.mem_cons.mp hx with z | z
        · omega
        · exact h x z
      simp at this
      omega
theorem sumL_le_out (N:Net n L) (A:Nat->Bool) (i:Nat) {bs:List Nat} (nd:bs.Nodup) (h:∀ x∈bs,x < n) (hA:∀ x∈bs,A x=false):sumL L i bs<=outOf n L A i:=by
  rw [sumL_S n L i bs nd h]
  refine S_le n fun j _=>?_
  by_cases m:j∈bs
  · rw [if_pos m,hA j m];simp
  · rw [if_neg m];split
    · exact Int.le_refl _
    · exact N.nn i j
theorem settled_of_bi (N:Net n L) (hd:NoDebt n q d) {bs:List Nat} (b:BI n L d q bs) (hl:bs.length=n):Settled n L q d:=by
  refine ⟨hd,fun A hA ⟨i,hi,ai⟩=>?_⟩
  have first:∀ (k:Nat),(∀ (j y:Nat),j < k->bs[j]?=some y->A y=false)\/∃ (j y:Nat),bs[j]?=some y/\A y=true/\∀ (j' y':Nat),j' < j->bs[j']?=some y'->A y'=false:=by
    intro k
    induction k with
    | zero=>exact .inl fun j y hj=>absurd hj (by omega)
    | succ k ih =>
      rcases ih with h | h
      · cases e:bs[k]? with
        | none =>
          refine .inl fun j y hj ej=>?_
          · by_cases z:j=k
            · subst z;rw [e] at ej;cases ej
            · exact h j y (by omega) ej
        | some y =>
          cases ay:A y with
          | true=>exact .inr ⟨k,y,e,ay,h⟩
          | false =>
            refine .inl fun j y' hj ej=>?_
            · by_cases z:j=k
              · subst z;rw [e] at ej;cases ej;exact ay
              · exact h j y' (by omega) ej
      · exact .inr h
  rcases first n with h | ⟨k,y,ek,ay,h⟩
  · obtain ⟨j,hj⟩:=List.mem_iff_getElem?.mp (full_mem n bs b.nd b.lt hl i hi)
    have:=h j i (by have:=(List.getElem?_eq_some_iff.mp hj).1;omega) hj
    rw [ai] at this;cases this
  · have hk:0 < k:=by
      cases k with
      | zero=>rw [b.head] at ek;cases ek;rw [hA] at ay;cases ay
      | succ k=>omega
    refine ⟨y,b.lt y (List.mem_of_getElem? ek),ay,Int.lt_of_lt_of_le (b.fewer k y ek hk) (sumL_le_out N A y (b.nd.sublist (List.take_sublist k bs)) (fun x hx=>b.lt x (List.mem_of_mem_take hx)) fun x hx=>?_)⟩
    obtain ⟨j,hj⟩:=List.mem_iff_getElem?.mp hx
    have hjk:j < k:=by
      have:=(List.getElem?_eq_some_iff.mp hj).1
      rw [List.length_take] at this;omega
    rw [List.getElem?_take_of_lt hjk] at hj
    exact h j x hjk hj
theorem out_of_clos {bs:List Nat} (b:BI n L d q bs) (i:Nat):outOf n L (fun j=>decide (j∉bs)) i=sumL L i bs:=by
  rw [sumL_S n L i bs b.nd b.lt]
  refine S_congr n fun j _=>?_
  by_cases m:j∈bs
  · simp [m]
  · simp [m]
theorem BI.q_mem {bs:List Nat} (b:BI n L d q bs):q∈bs:=List.mem_of_getElem? b.head
theorem missing {bs:List Nat} (b:BI n L d q bs) (hl:bs.length≠n):∃ i,i < n/\i∉bs:=by
  apply Classical.byContradiction
  intro h
  have all:∀ y,y < n->y∈bs:=fun y hy=>Classical.byContradiction fun z=>h ⟨y,hy,z⟩
  have:(List.range n).length<=bs.length:=by
    have nd:(List.range n).Nodup:=List.nodup_range
    have key:∀ (l m:List Nat),l.Nodup->(∀ x∈l,x∈m)->l.length<=m.length:=by
      intro l
      induction l with
      | nil=>intro m _ _;simp
      | cons x l ih =>
        intro m nd h
        have hx:=h x List.mem_cons_self
        have:=ih (m.erase x) (List.nodup_cons.mp nd).2 fun y hy=>by
          have hne:y≠x:=fun z=>by subst z;exact (List.nodup_cons.mp nd).1 hy
          exact (List.mem_erase_of_ne hne).mpr (h y (List.mem_cons_of_mem _ hy))
        have e:=List.length_erase_of_mem hx
        have p:=List.length_pos_of_mem hx
        simp
        omega
    exact key _ _ nd fun x hx=>all x (List.mem_range.mp hx)
  have:=b.len
  simp at *
  omega
theorem not_settled (hd:True) {bs:List Nat} (b:BI n L d q bs) (hc:Clos n L d bs) (hl:bs.length≠n):¬ Settled n L q d:=fun s=>by
  obtain ⟨i,hi,m⟩:=missing b hl
  obtain ⟨k,hk,ak,lt⟩:=s.sets (fun j=>decide (j∉bs)) (by simp [b.q_mem]) ⟨i,hi,by simp [m]⟩
  rw [out_of_clos b] at lt
  have:=hc k hk (by simpa using ak)
  omega
theorem burnt_settled (N:Net n L) (hq:q < n) (hd:NoDebt n q d):(burnt n L d q).length=n ↔ Settled n L q d :=
  ⟨fun h=>settled_of_bi N hd (burnt_bi hq) h,fun h=>Classical.byContradiction fun z=>not_settled trivial (burnt_bi hq) (burnt_clos hq) z h⟩
def chi (bs:List Nat) (i:Nat):Int:=if i∈bs then 0 else 1
theorem chi_flow {bs:List Nat} (N:Net n L) (b:BI n L d q bs) (i:Nat) (hi:i < n):flow n L (chi bs) i<=if i∈bs then 0 else sumL L i bs:=by
  unfold flow
  by_cases m:i∈bs
  · rw [if_pos m]
    have:S n (fun _=>(0:Int))=0:=S_zero n
    rw [<- this]
    refine S_le n fun j _=>?_
    have nn:=N.nn i j
    unfold chi
    rw [if_pos m]
    split
    · simp
    · have:L i j * (0 - 1)=- L i j:=by rw [Int.zero_sub,Int.mul_neg,Int.mul_one]
      rw [this];omega
  · rw [if_neg m,sumL_S n L i bs b.nd b.lt]
    refine S_le n fun j _=>?_
    unfold chi
    rw [if_neg m]
    split <;> simp
theorem chi_nodebt {bs:List Nat} (N:Net n L) (b:BI n L d q bs) (hc:Clos n L d bs) (hd:NoDebt n q d):NoDebt n q (fire n L d (chi bs)):=fun i hi hq=>by
  have h1:=chi_flow N b i hi
  unfold fire
  by_cases m:i∈bs
  · rw [if_pos m] at h1
    have:=hd i hi hq
    omega
  · rw [if_neg m] at h1
    have:=hc i hi m
    omega
end
end M

namespace L2
open PySem PySem.W PyProof.Rows
def kok {α:Type} (f:Nat->Nat->Bool) (N:Nat) (P:α->Prop):KasT α->Prop
  | .ret a=>P a
  | .ask i j k=>i < N/\j < N/\kok f N P (k (f i j))
theorem Vn {α β:Type} {f:Nat->Nat->Bool} {N:Nat} {P:β->Prop} {g:α->KasT β}:∀ (t:KasT α),kok f N (fun a=>kok f N P (g a)) t->kok f N P (t.bind g)
  | .ret _,h=>h
  | .ask i j k,h=>⟨h.1,h.2.1,Vn (k (f i j)) h.2.2⟩
theorem Wk {α:Type} {f:Nat->Nat->Bool} {N:Nat} {P P':α->Prop} (hp:∀ a,P a->P' a):∀ (t:KasT α),kok f N P t->kok f N P' t
  | .ret a,h=>hp a h
  | .ask i j k,h=>⟨h.1,h.2.1,Wk hp (k (f i j)) h.2.2⟩
theorem kok_wp {α:Type} {f:Nat->Nat->Bool} {N:Nat} {P:α->Prop} {cmp:Nat->Nat->(Bool->Shared->Prop)->Shared->Prop} {J:Shared->Prop} {Q:α->Shared->Prop}
    (hc:∀ i j C s,i < N->j < N->J s->(∀ s',J s'->C (f i j) s')->cmp i j C s) (hq:∀ a s,P a->J s->Q a s):∀ (t:KasT α) (s:Shared),J s->kok f N P t->t.kasWp cmp Q s
  | .ret a,s,hj,h=>hq a s h hj
  | .ask i j k,s,hj,h=>hc i j _ s h.1 h.2.1 hj fun s' hj'=>kok_wp hc hq (k (f i j)) s' hj' h.2.2
structure KOrd (f:Nat->Nat->Bool) (N:Nat):Prop where
  tr:∀ a b c,a < N->b < N->c < N->f a b=true->f b c=true->f a c=true
  as:∀ a b,a < N->b < N->f a b=true->f b a=false
  tot:∀ a b,a < N->b < N->a≠b->f a b=true\/f b a=true
section
variable {f:Nat->Nat->Bool} {N:Nat}
def ka (p:Array Nat) (i:Nat):Nat:=p.getD i 0
structure KP (N:Nat) (p:Array Nat):Prop where
  size:p.size=N
  lt:∀ i,i < N->ka p i < N
  inj:∀ i j,i < N->j < N->ka p i=ka p j->i=j
def Ris (f:Nat->Nat->Bool) (p:Array Nat) (k:Nat):Prop:=∀ i j,i < j->j < k->f (ka p i) (ka p j)=true
def Fal (f:Nat->Nat->Bool) (p:Array Nat) (k:Nat):Prop:=∀ i j,i < j->j < k->f (ka p j) (ka p i)=true
theorem ka_get {p q:Array Nat} {i j:Nat} (h:p[i]?=q[j]?):ka p i=ka q j:=by
  unfold ka;rw [Array.getD_eq_getD_getElem?,Array.getD_eq_getD_getElem?,h]
theorem Ris.step (o:KOrd f N) {p:Array Nat} (hp:KP N p) {k:Nat} (hk:k < N) (h1:1<=k) (h:Ris f p k) (hl:f (ka p (k - 1)) (ka p k)=true):Ris f p (k+1):=fun i j hij hj=>by
  by_cases e:j=k
  · subst e
    by_cases e2:i=j - 1
    · rw [e2];exact hl
    · exact o.tr _ _ _ (hp.lt i (by omega)) (hp.lt (j - 1) (by omega)) (hp.lt j hk) (h i (j - 1) (by omega) (by omega)) hl
  · exact h i j hij (by omega)
theorem Fal.step (o:KOrd f N) {p:Array Nat} (hp:KP N p) {k:Nat} (hk:k < N) (h1:1<=k) (h:Fal f p k) (hl:f (ka p k) (ka p (k - 1))=true):Fal f p (k+1):=fun i j hij hj=>by
  by_cases e:j=k
  · subst e
    by_cases e2:i=j - 1
    · rw [e2];exact hl
    · exact o.tr _ _ _ (hp.lt j hk) (hp.lt (j - 1) (by omega)) (hp.lt i (by omega)) hl (h i (j - 1) (by omega) (by omega))
  · exact h i j hij (by omega)
theorem asc_ok (o:KOrd f N) {p:Array Nat} (hp:KP N p):∀ (t n:Nat),1<=n->n+t<=N->Ris f p n->kok f N (fun m=>n<=m/\m<=n+t/\Ris f p m/\(m < n+t->f (ka p m) (ka p (m - 1))=true)) (kas_asc p t n)
  | 0,n,h1,h2,h=>⟨Nat.le_refl _,Nat.le_refl _,h,fun z=>absurd z (by omega)⟩
  | t+1,n,h1,h2,h=>by
    refine ⟨hp.lt n (by omega),hp.lt (n - 1) (by omega),?_⟩
    cases e:f (p.getD n 0) (p.getD (n - 1) 0) with
    | true=>exact ⟨Nat.le_refl _,by omega,h,fun _=>e⟩
    | false =>
      have hl:f (ka p (n - 1)) (ka p n)=true:=by
        rcases o.tot (ka p (n - 1)) (ka p n) (hp.lt _ (by omega)) (hp.lt _ (by omega)) (fun z=>by have:=hp.inj _ _ (by omega) (by omega) z;omega) with z | z
        · exact z
        · exact absurd (e.symm.trans z) (by decide)
      show kok f N _ (kas_asc p t (n+1))
      exact Wk (fun m ⟨a,b,c,d⟩=>⟨by omega,by omega,c,fun z=>d (by omega)⟩) _ (asc_ok o hp t (n+1) (by omega) (by omega) (h.step o hp (by omega) h1 hl))
theorem desc_ok (o:KOrd f N) {p:Array Nat} (hp:KP N p):∀ (t n:Nat),1<=n->n+t<=N->Fal f p n->kok f N (fun r=>r.1=p/\r.2.2=0/\n<=r.2.1/\r.2.1<=n+t/\Fal f p r.2.1) (kas_desc t p n 0)
  | 0,n,h1,h2,h=>⟨rfl,rfl,Nat.le_refl _,Nat.le_refl _,h⟩
  | t+1,n,h1,h2,h=>by
    refine ⟨hp.lt n (by omega),hp.lt (n - 1) (by omega),?_⟩
    cases e:f (p.getD n 0) (p.getD (n - 1) 0) with
    | true =>
      show kok f N _ (kas_desc t p (n+1) 0)
      exact Wk (fun m ⟨a,b,c,d,g⟩=>⟨a,b,by omega,by omega,g⟩) _ (desc_ok o hp t (n+1) (by omega) (by omega) (h.step o hp (by omega) h1 e))
    | false =>
      have hl:f (p.getD (n - 1) 0) (p.getD n 0)=true:=by
        rcases o.tot (ka p (n - 1)) (ka p n) (hp.lt _ (by omega)) (hp.lt _ (by omega)) (fun z=>by have:=hp.inj _ _ (by omega) (by omega) z;omega) with z | z
        · exact z
        · exact absurd (e.symm.trans z) (by decide)
      refine ⟨hp.lt (n - 1) (by omega),hp.lt n (by omega),?_⟩
      rw [hl]
      exact ⟨rfl,rfl,Nat.le_refl _,(by show n<=n+(t+1);omega),h⟩
theorem rev_at {p:Array Nat} {n:Nat} (hn:n<=p.size) (k:Nat):ka (kas_rev p 0 n) k=if k < n then ka p (n - 1 - k) else ka p k:=by
  have e:=getElem?_mirror_all (xs:=p) (i:=0) hn k
  unfold kas_rev
  by_cases h:k < n
  · rw [if_pos h]
    rw [if_pos ⟨Nat.zero_le _,h⟩] at e
    exact ka_get (by rw [e];congr 1;omega)
  · rw [if_neg h]
    rw [if_neg (fun z=>h z.2)] at e
    exact ka_get e
theorem rev_kp {p:Array Nat} (hp:KP N p) {n:Nat} (hn:n<=N):KP N (kas_rev p 0 n):=by
  have hs:n<=p.size:=by rw [hp.size];exact hn
  refine ⟨by unfold kas_rev;rw [mirror_size,hp.size],fun i hi=>?_,fun i j hi hj=>?_⟩
  · rw [rev_at hs];split <;> exact hp.lt _ (by omega)
  · rw [rev_at hs,rev_at hs]
    intro e
    split at e <;> split at e
    all_goals
      have:=hp.inj _ _ (by omega) (by omega) e
      omega
theorem rev_ris {p:Array Nat} (hp:KP N p) {n:Nat} (hn:n<=N) (h:Fal f p n):Ris f (kas_rev p 0 n) n:=fun i j hij hj=>by
  have hs:n<=p.size:=by rw [hp.size];exact hn
  rw [rev_at hs,rev_at hs,if_pos (by omega),if_pos hj]
  exact h _ _ (by omega) (by omega)
theorem tail3_ok (o:KOrd f N) {p:Array Nat} (hp:KP N p) {n:Nat} (h1:1<=n) (hn:n<=N) (h:Fal f p n):kok f N (fun r=>1<=r.1/\r.1<=N/\KP N r.2/\Ris f r.2 r.1) (kas_tail3 n N p):=by
  unfold kas_tail3
  refine Vn _ (Wk (fun m ⟨a,b,c,_⟩=>?_) _ (asc_ok o (rev_kp hp hn) (N - n) n h1 (by omega) (rev_ris hp hn h)))
  exact ⟨by omega,by omega,rev_kp hp hn,c⟩
theorem count_ok (o:KOrd f N) {p:Array Nat} (hp:KP N p) (h1:1<=N):kok f N (fun r=>1<=r.1/\r.1<=N/\KP N r.2/\Ris f r.2 r.1) (kas_count N p):=by
  unfold kas_count
  refine Vn _ (Wk (fun m ⟨a,b,c,d⟩=>?_) _ (asc_ok o hp (N - 1) 1 (Nat.le_refl _) (by omega) (fun i j hij hj=>by omega)))
  by_cases e:m=N
  · rw [if_pos (by simpa using e)]
    exact ⟨by omega,by omega,hp,c⟩
  · rw [if_neg (by simpa using e)]
    have d':=d (by omega)
    by_cases e1:m > 1
    · rw [if_pos e1]
      refine ⟨hp.lt 0 (by omega),hp.lt (m - 1) (by omega),?_⟩
      have:f (p.getD 0 0) (p.getD (m - 1) 0)=true:=c 0 (m - 1) (by omega) (by omega)
      rw [this]
      exact ⟨by omega,(by show m<=N;omega),hp,c⟩
    · rw [if_neg e1]
      have em:m=1:=by omega
      subst em
      unfold kas_descPart
      refine Vn _ (Wk (fun r ⟨a1,a2,a3,a4,a5⟩=>?_) _ (desc_ok o hp (N - 2) 2 (by omega) (by omega) ?_))
      · intro i j hij hj
        have ei:i=0:=by omega
        have ej:j=1:=by omega
        subst ei;subst ej
        exact d'
      · rw [if_neg (by omega),a1]
        exact tail3_ok o hp (by omega) (by omega) a5
theorem place_ok {p:Array Nat} (o:KOrd f N) (hp:KP N p) {k:Nat} (hk:k < N) (hr:Ris f p k):∀ (t l r:Nat),r - l<=t->l<=r->r<=k->(∀ i,i < l->f (ka p i) (ka p k)=true)->(∀ i,r<=i->i < k->f (ka p k) (ka p i)=true) ->
    kok f N (fun m=>m<=k/\(∀ i,i < m->f (ka p i) (ka p k)=true)/\(∀ i,m<=i->i < k->f (ka p k) (ka p i)=true)) (kas_place p k t l r)
  | 0,l,r,h0,h1,h2,h3,h4=>⟨by omega,h3,fun i hi hk=>h4 i (by omega) hk⟩
  | t+1,l,r,h0,h1,h2,h3,h4=>by
    unfold kas_place
    by_cases e:l ≥ r
    · rw [if_pos e];exact ⟨by omega,h3,fun i hi hk=>h4 i (by omega) hk⟩
    · rw [if_neg e]
      refine ⟨hp.lt k hk,hp.lt _ (by omega),?_⟩
      cases c:f (p.getD k 0) (p.getD ((l+r) / 2) 0) with
      | true =>
        show kok f N _ (kas_place p k t l ((l+r) / 2))
        refine place_ok o hp hk hr t l _ (by omega) (by omega) (by omega) h3 fun i hi hik=>?_
        by_cases ei:i=(l+r) / 2
        · rw [ei];exact c
        · exact o.tr _ _ _ (hp.lt k hk) (hp.lt ((l+r) / 2) (by omega)) (hp.lt i (by omega)) c (hr _ _ (by omega) hik)
      | false =>
        show kok f N _ (kas_place p k t ((l+r) / 2+1) r)
        have hl:f (ka p ((l+r) / 2)) (ka p k)=true:=by
          rcases o.tot (ka p ((l+r) / 2)) (ka p k) (hp.lt _ (by omega)) (hp.lt _ (by omega)) (fun z=>by have:=hp.inj _ _ (by omega) (by omega) z;omega) with z | z
          · exact z
          · exact absurd (c.symm.trans z) (by decide)
        refine place_ok o hp hk hr t _ r (by omega) (by omega) (by omega) (fun i hi=>?_) h4
        by_cases ei:i=(l+r) / 2
        · rw [ei];exact hl
        · exact o.tr _ _ _ (hp.lt i (by omega)) (hp.lt ((l+r) / 2) (by omega)) (hp.lt k (by omega)) (hr _ _ (by omega) (by omega)) hl
theorem bub_at {p:Array Nat} {k m:Nat} (hk:k < p.size) (hm:m<=k) (i:Nat):ka (bubble p k (k - m)) i=if i=m then ka p k else if m < i/\i<=k then ka p (i - 1) else ka p i:=by
  have e:=getElem?_bubble hk (k - m) (by omega) i
  have em:k - (k - m)=m:=by omega
  rw [em] at e
  split at e
  · rename_i h;rw [if_pos h];exact ka_get e
  · rename_i h
    rw [if_neg h]
    split at e
    · rename_i h2;rw [if_pos h2];exact ka_get e
    · rename_i h2;rw [if_neg h2];exact ka_get e
theorem bin_ok (o:KOrd f N):∀ (t:Nat) (p:Array Nat) (k:Nat),KP N p->k+t=N->Ris f p k->kok f N (fun q=>KP N q/\Ris f q N) (kas_bin t p k)
  | 0,p,k,hp,hk,h=>by
    have:k=N:=by omega
    subst this
    exact ⟨hp,h⟩
  | t+1,p,k,hp,hk,h=>by
    unfold kas_bin
    refine Vn _ (Wk (fun m ⟨a,b,c⟩=>?_) _ (place_ok o hp (by omega) h k 0 k (by omega) (Nat.zero_le _) (Nat.le_refl _) (fun i hi=>absurd hi (by omega)) (fun i hi hk=>absurd hk (by omega))))
    have hs:k < p.size:=by rw [hp.size];omega
    refine bin_ok o t _ (k+1) ⟨by rw [bubble_size,hp.size],fun i hi=>?_,fun i j hi hj e=>?_⟩ (by omega) fun i j hij hj=>?_
    · rw [bub_at hs a]
      split
      · exact hp.lt _ (by omega)
      · split <;> exact hp.lt _ (by omega)
    · rw [bub_at hs a,bub_at hs a] at e
      repeat' split at e
      all_goals
        have:=hp.inj _ _ (by omega) (by omega) e
        omega
    · rw [bub_at hs a,bub_at hs a]
      by_cases hi1:i=m
      · rw [if_pos hi1,if_neg (by omega),if_pos (by omega)]
        exact c _ (by omega) (by omega)
      · rw [if_neg hi1]
        by_cases hj1:j=m
        · rw [if_neg (by omega),if_pos hj1]
          exact b _ (by omega)
        · rw [if_neg hj1]
          by_cases hi2:m < i/\i<=k
          · rw [if_pos hi2,if_pos (by omega)]
            exact h _ _ (by omega) (by omega)
          · rw [if_neg hi2]
            by_cases hj2:m < j/\j<=k
            · rw [if_pos hj2];exact h _ _ (by omega) (by omega)
            · rw [if_neg hj2];exact h _ _ (by omega) (by omega)
theorem Vj (N i:Nat):ka (List.toArray (List.range N)) i=if i < N then i else 0:=by
  unfold ka
  rw [Array.getD_eq_getD_getElem?]
  by_cases h:i < N
  · rw [if_pos h];simp [h]
  · rw [if_neg h];simp [h]
theorem kas_sort_ok (o:KOrd f N) (h1:1<=N):kok f N (fun q=>KP N q/\Ris f q N) (kas_sort N):=by
  unfold kas_sort
  have hp:KP N (List.toArray (List.range N)):=⟨by simp,fun i hi=>by rw [Vj,if_pos hi];exact hi,fun i j hi hj e=>by rw [Vj,Vj,if_pos hi,if_pos hj] at e;exact e⟩
  refine Vn _ (Wk (fun r ⟨a,b,c,d⟩=>?_) _ (count_ok o hp h1))
  by_cases e:r.1 < N
  · rw [if_pos e]
    have em:max r.1 1=r.1:=by omega
    rw [em]
    exact bin_ok o _ _ _ c (by omega) d
  · rw [if_neg e]
    have:r.1=N:=by omega
    rw [this] at d
    exact ⟨c,d⟩
end
end L2

namespace L2
open PySem PySem.W PySem.Spec PyProof.Rows HT
theorem seq_getD {α:Type} (l:List α) (d:α):(List.range l.length).map (fun i=>l.getD i d)=l:=by
  apply List.ext_getElem?
  intro i
  rw [List.getElem?_map]
  by_cases h:i < l.length
  · rw [List.getElem?_range h];simp [h]
  · rw [List.getElem?_eq_none (by simpa using h),List.getElem?_eq_none (by omega)];rfl
theorem kp_range (N:Nat):KP N (List.toArray (List.range N)):=⟨by simp,fun i hi=>by rw [Vj,if_pos hi];exact hi,fun i j hi hj e=>by rw [Vj,Vj,if_pos hi,if_pos hj] at e;exact e⟩
section
variable {prog:Program} {w:World} {A:Around} {E:Value->Shared->Prop} {s:Shared}
def AskOk (prog:Program) (w:World) (A:Around) (s:Shared) (vs:List Value) (lt:Nat->Nat->Bool):Prop:=∃ κ,(∀ Q:SortKind->Shared->Prop,Q κ s->wpAny (model prog w) A (keyKind' vs.toArray) Q (fun _ _=>False) s) /\
  ∀ i j (C:Bool->Shared->Prop),i < vs.length->j < vs.length->C (lt i j) s->kas_ask prog w A κ vs i j C s
theorem list_sort_by {a:Addr} {vs:List Value} {n:Nat} {P:PySem.Fin->Shared->Prop} {lt:Nat->Nat->Bool} (ho:s.heap.get? a=some (seqObj "list" vs.toArray n)) (h64:vs.length < 64) (o:KOrd lt vs.length)
    (hk:2<=vs.length->∀ h':Heap,(∀ b o,b≠a->s.heap.get? b=some o->h'.get? b=some o)->AskOk prog w A { s with heap:=h' } vs lt)
    (h:∀ p:Array Nat,KP vs.length p->Ris lt p vs.length->P (.done (.ret .none)) { s with heap:=sortedHeap s.heap a vs (List.toArray (p.toList.map fun i=>vs.getD i Value.none)) }) :
    wpAny (model prog w) A (Builtin.«list.sort» ⟨[.ref a],[]⟩) P E s:=by
  rw [list_sort_plain]
  have ha:a < s.heap.objs.size:=Heap.lt_size ho
  refine wpAny_bind (listItems_at ho rfl ?_)
  refine wpAny_bind (listUpdate_at ho rfl ?_ (by rw [List.size_toArray,sizeLine_eq];omega) (Nat.zero_le _))
  obtain ⟨e1,ho1⟩:∃ e1,(s.heap.update a (Obj.mapSeq fun _=>(#[]:Array Value))).get? a=some (seqObj "list" #[] e1):=⟨_,get?_update_seq ho fun _=>#[]⟩
  refine wpAny_bind (seqEpoch_at ho1 rfl ?_)
  refine wpAny_bind (wpAny_newTuple ?_ (by show vs.length<=_;rw [sizeLine_eq];omega))
  refine wpAny_bind (wpAny_newList ?_ (Nat.zero_le _))
  refine wpAny_holding ?_
  have ho6:(((s.heap.update a (Obj.mapSeq fun _=>(#[]:Array Value))).push (seqObj "tuple" vs.toArray 0)).push (seqObj "list" #[] 0)).get? a=some (seqObj "list" #[] e1):=by
    rw [Heap.get?_push_ne _ _ _ (by rw [size_push',Heap.size_update];exact Nat.ne_of_lt (Nat.lt_succ_of_lt ha)),Heap.get?_push_ne _ _ _ (by rw [Heap.size_update];exact Nat.ne_of_lt ha)]
    exact ho1
  have keep:∀ b o,b≠a->s.heap.get? b=some o->(((s.heap.update a (Obj.mapSeq fun _=>(#[]:Array Value))).push (seqObj "tuple" vs.toArray 0)).push (seqObj "list" #[] 0)).get? b=some o:=fun b o hb e =>
    Heap.get?_push_of_some _ (Heap.get?_push_of_some _ (((Heap.SameBut.update s.heap a (Obj.mapSeq fun _=>(#[]:Array Value))).2 b hb).trans e))
  show wpAny (model prog w) A _ P E { s with heap:=((s.heap.update a (Obj.mapSeq fun _=>(#[]:Array Value))).push (seqObj "tuple" vs.toArray 0)).push (seqObj "list" #[] 0) }
  dsimp only
  by_cases h2:vs.toArray.size < 2
  · rw [if_pos h2,if_pos h2]
    refine wpAny_bind (wpAny_pure ?_)
    rw [StateT.run_pure]
    refine wpAny_bind (wpAny_pure ?_)
    dsimp only
    have es:(arrOf (SortSt.mk' general' (vs.toArray.zip vs.toArray) #[] 7 none)).map (·.2)=List.toArray ((List.toArray (List.range vs.length)).toList.map fun i=>vs.getD i Value.none):=by
      show (pairsOf vs).map (·.2)=_
      apply Array.toList_inj.mp
      rw [Array.toList_map,pairsOf_toList]
      show (vs.zip vs).map Prod.snd=(List.range vs.length).map fun i=>vs.getD i Value.none
      rw [List.map_snd_zip (Nat.le_refl _),seq_getD]
    rw [es]
    refine wpAny_bind (seqEpoch_at ho6 rfl ?_)
    refine wpAny_bind (listUpdate_at ho6 rfl ?_ (Nat.zero_le _) (by rw [List.size_toArray,List.length_map];simp [sizeLine_eq];omega))
    simp only [bne_self_eq_false,Bool.false_eq_true,if_false]
    refine wpAny_pure (h _ (kp_range _) fun i j hij hj=>?_)
    rw [List.size_toArray] at h2;omega
  · rw [if_neg h2,if_neg h2]
    rw [List.size_toArray] at h2
    obtain ⟨κ,hkk,hask⟩:=hk (by omega) _ keep
    refine wpAny_bind (wpAny_mono (hkk (fun k s'=>k=κ/\s'=_) ⟨rfl,rfl⟩) (fun κ' s0 hk=>?_) fun _ _ x=>x.elim)
    obtain ⟨rfl,rfl⟩:=hk
    refine wpAny_bind (wpAny_mono (kat_run (Q:=fun st' s'=>s'={ s with heap:=((s.heap.update a (Obj.mapSeq fun _=>(#[]:Array Value))).push (seqObj "tuple" vs.toArray 0)).push (seqObj "list" #[] 0) }/\∃ p:Array Nat,arrOf st'=p.map (kas_item (vs.toArray.zip vs.toArray))/\failedOf st'=none/\KP vs.length p/\Ris lt p vs.length)
      (G:=fun p s'=>s'={ s with heap:=((s.heap.update a (Obj.mapSeq fun _=>(#[]:Array Value))).push (seqObj "tuple" vs.toArray 0)).push (seqObj "list" #[] 0) }/\KP vs.length p/\Ris lt p vs.length)
      rfl (by omega) h64 (fun p' st' s' a1 a2 a3 a4=>⟨a4.1,p',a2,a3,a4.2⟩)
      (kok_wp (J:=fun s'=>s'=_) (fun i j C s' hi hj hs hC=>by subst hs;exact hask i j C hi hj (hC _ rfl)) (fun p s' hp hs=>⟨hs,hp⟩) _ _ rfl (kas_sort_ok o (by omega)))) ?_ fun _ _ e=>e)
    rintro ⟨⟨⟩,st'⟩ s' ⟨rfl,p,har,hf,hp,hr⟩
    dsimp only
    have hout:=kat_snds rfl har
    rw [hout]
    refine wpAny_bind (seqEpoch_at ho6 rfl ?_)
    refine wpAny_bind (listUpdate_at ho6 rfl ?_ (Nat.zero_le _) (by rw [List.size_toArray,List.length_map,Array.length_toList,hp.size,sizeLine_eq];omega))
    rw [hf]
    simp only [bne_self_eq_false,Bool.false_eq_true,if_false]
    exact wpAny_pure (h p hp hr)
theorem sorted_by {l:Addr} {vs:List Value} {Q:Value->Shared->Prop} {lt:Nat->Nat->Bool} (hl:s.heap.IsList l vs.toArray) (h64:vs.length < 64) (o:KOrd lt vs.length)
    (hk:2<=vs.length->∀ h':Heap,(∀ b o,s.heap.get? b=some o->h'.get? b=some o)->AskOk prog w A.in1.in1 { s with heap:=h' } vs lt)
    (h:∀ p:Array Nat,KP vs.length p->Ris lt p vs.length->Q (.ref (s.heap.objs.size+1)) { s with heap:=sortedAll s.heap vs (List.toArray (p.toList.map fun i=>vs.getD i Value.none)) }) :
    wpAny (model prog w) A (call (.builtin "sorted") [.ref l]) Q E s:=by
  refine Calls.call_function_entry kind_sorted plain_sorted entry_sorted (args_sorted1 _) ?_
  unfold Builtin.«sorted»
  refine wpAny_bind (m:=checkCount "sorted" 1 1 _) (wpAny_pure ?_)
  refine wpAny_bind (collect_list hl ?_ (by rw [sizeLine_eq];omega))
  refine wpAny_bind (wpAny_newList ?_ (by rw [sizeLine_eq];omega))
  have hsz:((s.heap.push (seqObj "list" #[] 0)).update s.heap.objs.size (Obj.mapSeq (·++vs.toArray))).objs.size=s.heap.objs.size+1:=by
    rw [Heap.size_update,size_push']
  have hoL:(((s.heap.push (seqObj "list" #[] 0)).update s.heap.objs.size (Obj.mapSeq (·++vs.toArray))).push (seqObj "list" vs.toArray 0)).get? (s.heap.objs.size+1)=some (seqObj "list" vs.toArray 0):=by
    rw [<- hsz];exact Heap.get?_push_size _ rfl
  have keep:∀ b o,s.heap.get? b=some o->(((s.heap.push (seqObj "list" #[] 0)).update s.heap.objs.size (Obj.mapSeq (·++vs.toArray))).push (seqObj "list" vs.toArray 0)).get? b=some o:=fun b o q=>by
    have hlt:b < s.heap.objs.size:=Heap.lt_size q
    rw [Heap.get?_push_ne _ _ _ (by rw [hsz];exact Nat.ne_of_lt (Nat.lt_succ_of_lt hlt)),Heap.get?_update_ne _ _ _ _ (Nat.ne_of_lt hlt),Heap.get?_push_ne _ _ _ (Nat.ne_of_lt hlt)]
    exact q
  show wpAny _ _ _ _ _ { s with heap:=((s.heap.push (seqObj "list" #[] 0)).update s.heap.objs.size (Obj.mapSeq (·++vs.toArray))).push (seqObj "list" vs.toArray 0) }
  rw [hsz]
  refine wpAny_bind (wpAny_holding (wpAny_call_entry slot_list_sort ⟨_,hoL,rfl⟩ entry_list_sort (list_sort_by (s:={ s with heap:=((s.heap.push (seqObj "list" #[] 0)).update s.heap.objs.size (Obj.mapSeq (·++vs.toArray))).push (seqObj "list" vs.toArray 0) }) hoL h64 o (fun h2 h' hk'=>hk h2 h' fun b o e=>hk' b o (Nat.ne_of_lt (Nat.lt_succ_of_lt (Heap.lt_size e))) (keep b o e)) fun p hp hr=>⟨_,rfl,?_⟩) (args_list_sort _)))
  exact wpAny_pure ⟨_,rfl,h p hp hr⟩
theorem lex_ints {b:Bool} {Q:Bool->Shared->Prop}:∀ {xs ys:List Value} {as bs:List Int} (i:Nat),IntsAre xs as->IntsAre ys bs->Q (HT.lexLt as bs) s->KatLex prog w A b (decide (xs.length < ys.length)) Q (xs.zip ys) i s
  | [],[],_,_,i,.nil,.nil,h=>h
  | [],_::ys,_,_,i,.nil,.cons n t _,h=>by rw [show decide (([]:List Value).length < (Value.int n t::ys).length)=true by simp];exact h
  | _::xs,[],_,_,i,.cons n t _,.nil,h=>by rw [show decide ((Value.int n t::xs).length < ([]:List Value).length)=false by simp];exact h
  | _::xs,_::ys,_,_,i,.cons m t hx,.cons n u hy,h=>by
    rw [List.zip_cons_cons]
    refine kat_cons (wpAny_eqBool_int ?_)
    have el:decide ((Value.int m t::xs).length < (Value.int n u::ys).length)=decide (xs.length < ys.length):=by simp
    rw [el]
    rw [X5] at h
    by_cases e:m=n
    · rw [show (m == n)=true by simpa using e]
      rw [if_pos e] at h
      exact kat_yes (lex_ints (i+1) hx hy h)
    · rw [show (m == n)=false by simpa using e]
      rw [if_neg e] at h
      refine kat_no ?_
      cases hb:(b && i == 0) with
      | true=>exact oneLt_int h
      | false=>exact kat_one _ _ (lt_int h)
end
end L2

namespace L2
open PySem PySem.W PySem.Spec PyProof.Rows HT
theorem lexLt_irr:∀ a:List Int,HT.lexLt a a=false
  | []=>rfl
  | x::a=>by rw [X5,if_pos rfl];exact lexLt_irr a
theorem W2:∀ a b c:List Int,HT.lexLt a b=true->HT.lexLt b c=true->HT.lexLt a c=true
  | [],[],_,h,_=>by cases h
  | [],_::_,[],_,h=>by cases h
  | [],_::_,_::_,_,_=>rfl
  | _::_,[],_,h,_=>by cases h
  | _::_,_::_,[],_,h=>by cases h
  | x::a,y::b,z::c,h1,h2=>by
    rw [X5] at h1 h2 ⊢
    by_cases e1:x=y
    · rw [if_pos e1] at h1
      by_cases e2:y=z
      · rw [if_pos e2] at h2
        rw [if_pos (e1.trans e2)];exact W2 a b c h1 h2
      · rw [if_neg e2] at h2
        subst e1
        rw [if_neg e2];exact h2
    · rw [if_neg e1] at h1
      have h1':=of_decide_eq_true h1
      by_cases e2:y=z
      · subst e2
        rw [if_neg e1];exact h1
      · rw [if_neg e2] at h2
        have h2':=of_decide_eq_true h2
        rw [if_neg (by omega)];exact decide_eq_true (by omega)
theorem lexLt_asymm {a b:List Int} (h:HT.lexLt a b=true):HT.lexLt b a=false:=by
  cases e:HT.lexLt b a with
  | false=>rfl
  | true=>have:=W2 a b a h e;rw [lexLt_irr] at this;cases this
theorem Wj:∀ a b:List Int,a≠b->HT.lexLt a b=true\/HT.lexLt b a=true
  | [],[],h=>absurd rfl h
  | [],_::_,_=>.inl rfl
  | _::_,[],_=>.inr rfl
  | x::a,y::b,h=>by
    rw [X5,X5]
    by_cases e:x=y
    · subst e
      rw [if_pos rfl,if_pos rfl]
      exact Wj a b fun z=>h (by rw [z])
    · rw [if_neg e,if_neg (fun z=>e z.symm)]
      by_cases l:x < y
      · exact .inl (decide_eq_true l)
      · exact .inr (decide_eq_true (by omega))
def lexLe (a b:List Int):Bool:=!HT.lexLt b a
theorem lexLe_trans (a b c:List Int) (h1:lexLe a b=true) (h2:lexLe b c=true):lexLe a c=true:=by
  unfold lexLe at *
  simp only [Bool.not_eq_true',Bool.not_eq_true] at *
  cases e:HT.lexLt c a with
  | false=>rfl
  | true =>
    by_cases e2:b=c
    · subst e2;rw [e] at h1;cases h1
    · rcases Wj b c e2 with z | z
      · have:=W2 b c a z e;rw [this] at h1;cases h1
      · rw [z] at h2;cases h2
theorem lexLe_total (a b:List Int):(lexLe a b || lexLe b a)=true:=by
  unfold lexLe
  cases e:HT.lexLt b a with
  | false=>rfl
  | true=>rw [lexLt_asymm e];rfl
def Vf (ks:List (List Int)):List (List Int):=ks.mergeSort lexLe
def isort (is:List Int):List Int:=is.mergeSort fun a b=>decide (a<=b)
theorem isort_unique {a b:List Int} (hp:a.Perm b) (hs:a.Pairwise (·<=·)):a=isort b:=by
  refine List.Perm.eq_of_pairwise (le:=fun x y=>x<=y) (fun x y _ _ h1 h2=>Int.le_antisymm h1 h2) hs ?_ (hp.trans (List.mergeSort_perm b _).symm)
  exact (List.pairwise_mergeSort (le:=fun a b=>decide (a<=b)) (fun x y z h1 h2=>decide_eq_true (Int.le_trans (of_decide_eq_true h1) (of_decide_eq_true h2))) (fun x y=>by simp;omega) b).imp fun h=>of_decide_eq_true h
theorem tsort_unique {a b:List (List Int)} (hp:a.Perm b) (hs:a.Pairwise (fun x y=>HT.lexLt x y=true)):a=Vf b:=by
  refine List.Perm.eq_of_pairwise (le:=fun x y=>lexLe x y=true) (fun x y _ _ h1 h2=>?_) (hs.imp fun h=>?_) (List.pairwise_mergeSort lexLe_trans lexLe_total b) (hp.trans (List.mergeSort_perm b _).symm)
  · apply Classical.byContradiction
    intro hne
    unfold lexLe at h1 h2
    rcases Wj x y hne with z | z
    · rw [z] at h2;cases h2
    · rw [z] at h1;cases h1
  · unfold lexLe;rw [lexLt_asymm h];rfl
def tupInts:D->Option (List Int)
  | .tup ds=>X6 ds
  | _=>none
def tupsOf:List D->Option (List (List Int))
  | []=>some []
  | d::ds=>(tupInts d).bind fun k=>(tupsOf ds).bind fun ks=>some (k::ks)
def kT (k:List Int):D:=.tup (k.map D.int)
theorem tupInts_some {d:D} {k:List Int} (h:tupInts d=some k):d=kT k:=by
  cases d with
  | tup ds=>rw [show ds=k.map D.int from Xu h];rfl
  | _=>cases h
theorem tupsOf_some:∀ {ds:List D} {ks:List (List Int)},tupsOf ds=some ks->ds=ks.map kT
  | [],_,h=>by cases h;rfl
  | d::ds,_,h=>by
    obtain ⟨k,e1,h⟩:=bind_some h
    obtain ⟨ks,e2,h⟩:=bind_some h
    cases h
    rw [tupInts_some e1,tupsOf_some e2];rfl
theorem tupInts_kT (k:List Int):tupInts (kT k)=some k:=intsOf_map k
theorem tupsOf_map:∀ ks:List (List Int),tupsOf (ks.map kT)=some ks
  | []=>rfl
  | k::ks=>by rw [List.map_cons];unfold tupsOf;rw [tupInts_kT,tupsOf_map ks];rfl
def Vv:List D->Option D
  | [.lst ds]=>(match X6 ds with
    | some is=>if is.length < 64 then some (.lst ((isort is).map .int)) else none
    | none=>(match tupsOf ds with
      | some ks=>if ks.length < 64/\ks.Nodup/\(∀ k∈ks,k≠[]) then some (.lst ((Vf ks).map kT)) else none
      | none=>none))
  | _=>none
theorem kord_keys {ks:List (List Int)} (nd:ks.Nodup):KOrd (fun i j=>HT.lexLt (ks.getD i []) (ks.getD j [])) ks.length :=
  ⟨fun a b c _ _ _ h1 h2=>W2 _ _ _ h1 h2,fun a b _ _ h=>lexLt_asymm h,fun a b ha hb hne=>Wj _ _ fun z=>hne (by
    have e1:ks.getD a []=ks[a]:=by simp [ha]
    have e2:ks.getD b []=ks[b]:=by simp [hb]
    rw [e1,e2] at z
    exact (List.getElem_inj nd).mp z)⟩
theorem kp_perm {N:Nat} {p:Array Nat} (h:KP N p):p.toList.Perm (List.range N):=by
  have hl:p.toList.length=N:=by rw [Array.length_toList];exact h.size
  have hk:∀ i (hi:i < p.toList.length),p.toList[i]=ka p i:=fun i hi=>by
    unfold ka
    rw [Array.getD_eq_getD_getElem?,Array.getElem?_eq_getElem (by rw [h.size];omega)]
    simp
  have nd:p.toList.Nodup:=by
    rw [List.nodup_iff_pairwise_ne,List.pairwise_iff_getElem]
    intro i j hi hj hij e
    rw [hk,hk] at e
    have:=h.inj i j (by omega) (by omega) e
    omega
  have lt:∀ x∈p.toList,x < N:=fun x hx=>by
    obtain ⟨i,hi,e⟩:=List.getElem_of_mem hx
    rw [<- e,hk];exact h.lt i (by omega)
  exact (List.perm_ext_iff_of_nodup nd List.nodup_range).mpr fun a=>⟨fun ha=>List.mem_range.mpr (lt a ha),fun ha=>M.full_mem N _ nd lt hl a (List.mem_range.mp ha)⟩
theorem kp_sorted {ks:List (List Int)} {p:Array Nat} (h:KP ks.length p) (hr:Ris (fun i j=>HT.lexLt (ks.getD i []) (ks.getD j [])) p ks.length):p.toList.map (fun i=>ks.getD i [])=Vf ks:=by
  refine tsort_unique ?_ ?_
  · have:=(kp_perm h).map (fun i=>ks.getD i [])
    rwa [seq_getD] at this
  · rw [List.pairwise_map,List.pairwise_iff_getElem]
    intro i j hi hj hij
    have hl:p.toList.length=ks.length:=by rw [Array.length_toList];exact h.size
    have hk:∀ i (hi:i < p.toList.length),p.toList[i]=ka p i:=fun i hi=>by
      unfold ka
      rw [Array.getD_eq_getD_getElem?,Array.getElem?_eq_getElem (by rw [h.size];omega)]
      simp
    rw [hk,hk]
    exact hr i j hij (by omega)
section
variable {X:Cx} {pins:List (Addr×Obj)} {σ:St} {H:Hp} {s:Shared}
def Wx (h:Heap):List (List Int)->List Value->Prop
  | [],us=>us=[]
  | k::ks,us=>∃ a its r,us=.ref a::r/\IntsAre its k/\IsTup h a its.toArray/\Wx h ks r
theorem tup_ats (I:ZE X pins σ H s):∀ {ks:List (List Int)} {vs:List V} {us:List Value},Zs X.K H (ks.map kT) vs->ZQ vs us->Wx s.heap ks us
  | [],_,_,r,rv=>by
    have:_=[]:=r
    subst this
    cases rv;rfl
  | k::ks,_,_,⟨v,vr,e,⟨a,xs,ev,ha,rx⟩,t⟩,rv=>by
    subst e;subst ev
    cases rv with
    | cons r1 XX =>
      cases r1
      cases rx.ints
      obtain ⟨its,r2,pl,_⟩:=I.tuple (Wy.of ha)
      exact ⟨a,its,_,rfl,X7 r2,pl,tup_ats I t XX⟩
theorem Wx.keep {h h':Heap} (k:∀ b o,h.get? b=some o->h'.get? b=some o):∀ {ks:List (List Int)} {us:List Value},Wx h ks us->Wx h' ks us
  | [],_,e=>e
  | _::_,_,⟨a,its,r,e,i,t,q⟩=>⟨a,its,r,e,i,t.keeps k,q.keep k⟩
theorem Wx.len {h:Heap}:∀ {ks:List (List Int)} {us:List Value},Wx h ks us->us.length=ks.length
  | [],_,e=>by rw [show _=_ from e];rfl
  | _::_,_,⟨a,its,r,e,i,t,q⟩=>by rw [e,List.length_cons,List.length_cons,q.len]
theorem Wx.get {h:Heap}:∀ {ks:List (List Int)} {us:List Value} {i:Nat},Wx h ks us->i < ks.length->∃ a its,us.getD i Value.none=.ref a/\IntsAre its (ks.getD i [])/\IsTup h a its.toArray
  | _::_,_,0,⟨a,its,r,e,i,t,q⟩,_=>⟨a,its,by rw [e];rfl,by simpa using i,t⟩
  | _::ks,_,j+1,⟨a,its,r,e,i,t,q⟩,hj=>by
    obtain ⟨a',its',h1,h2,h3⟩:=q.get (i:=j) (by simpa using hj)
    exact ⟨a',its',by rw [e];simpa using h1,by simpa using h2,h3⟩
theorem Wx.tups {h:Heap}:∀ {ks:List (List Int)} {us:List Value},Wx h ks us->(∀ k∈ks,k≠[])->∃ fs,KatTups h us fs/\fs.length=ks.length/\∀ f∈fs,∃ n t,f=Value.int n t
  | [],_,e,_=>by rw [show _=_ from e];exact ⟨[],trivial,rfl,fun f hf=>by cases hf⟩
  | k::ks,_,⟨a,its,r,e,i,⟨o,ho,hc,n,hd⟩,q⟩,hne=>by
    obtain ⟨fs,h1,h2,h3⟩:=q.tups fun k hk=>hne k (List.mem_cons_of_mem _ hk)
    cases i with
    | nil=>exact absurd rfl (hne [] List.mem_cons_self)
    | cons m t hx =>
      refine ⟨.int m t::fs,by rw [e];exact KatTups.cons ho hc hd (by simp) h1,by simp [h2],fun f hf=>?_⟩
      rcases List.mem_cons.mp hf with z | z
      · exact ⟨m,t,z⟩
      · exact h3 f z
theorem ask_ok {prog:Program} {w:World} {A:Around} {ks:List (List Int)} {us:List Value} (h:Wx s.heap ks us) (hne:∀ k∈ks,k≠[]) (h2:2<=us.length):AskOk prog w A s us (fun i j=>HT.lexLt (ks.getD i []) (ks.getD j [])):=by
  have hl:=h.len
  obtain ⟨fs,h3,h4,h5⟩:=h.tups hne
  refine ⟨_,fun Q hq=>kat_kind (T:=Value.type "int") h3 (by omega) (fun v hv=>?_) (by decide) hq,fun i j C hi hj hc=>?_⟩
  · obtain ⟨n,t,rfl⟩:=h5 v hv
    exact .now
  · obtain ⟨a,its,e1,i1,⟨o1,ho1,_,n1,hd1⟩⟩:=h.get (i:=i) (by omega)
    obtain ⟨b,jts,e2,i2,⟨o2,ho2,_,n2,hd2⟩⟩:=h.get (i:=j) (by omega)
    unfold kas_ask
    rw [e1,e2]
    refine kat_lt ho1 hd1 ho2 hd2 ?_
    have:=lex_ints (prog:=prog) (w:=w) (A:=A) (b:=(Value.type "int" != Value.type "tuple")) (s:=s) (Q:=C) 0 i1 i2 hc
    simpa using this
theorem reps_getD {K:PySem.W.Frag} {ds:List D} {vs:List V} (r:Zs K H ds vs):∀ (l:List Nat),(∀ i∈l,i < ds.length)->Zs K H (l.map fun i=>ds.getD i .non) (l.map fun i=>vs.getD i .non)
  | [],_=>rfl
  | i::l,h=>by
    have hi:=h i List.mem_cons_self
    obtain ⟨v,e1,e2⟩:=r.get (List.getElem?_eq_getElem hi)
    refine ⟨vs.getD i .non,_,rfl,?_,reps_getD r l fun j hj=>h j (List.mem_cons_of_mem _ hj)⟩
    show Xe K H (ds.getD i .non) _
    rw [List.getD_eq_getElem?_getD,List.getD_eq_getElem?_getD,e1,List.getElem?_eq_getElem hi]
    exact e2
theorem vals_getD {vs:List V} {us:List Value} (r:ZQ vs us):∀ (l:List Nat),(∀ i∈l,i < vs.length)->ZQ (l.map fun i=>vs.getD i .non) (l.map fun i=>us.getD i Value.none)
  | [],_=>.nil
  | i::l,h=>by
    refine .cons ?_ (vals_getD r l fun j hj=>h j (List.mem_cons_of_mem _ hj))
    have hi:=h i List.mem_cons_self
    clear h
    induction r generalizing i with
    | nil=>simp at hi
    | cons a b ih =>
      cases i with
      | zero=>simpa using a
      | succ i=>simpa using ih i (by simpa using hi)
theorem vals_of_ints:∀ {us:List Value} {ns:List Int},IntsAre us ns->ZQ (ns.map V.int) us
  | _,_,.nil=>.nil
  | _,_,.cons n t h=>.cons ⟨t,rfl⟩ (vals_of_ints h)
theorem cd_sorted (hc:X.calm=true) (hu:X.A.units+64 < cLine):Xy X (.builtin "sorted") Vv:=by
  intro pins s σ H xs us Q I rs h
  obtain ⟨O,ds,d,th,rp,e,q⟩:=h
  unfold Vv at e
  split at e
  · rename_i es
    obtain ⟨v,rfl,p,vs,rfl,hp,r2⟩:=reps1 rp
    obtain ⟨u,rfl,ru⟩:=Vd rs
    cases ru
    obtain ⟨its,rv,pl,_⟩:=I.list (Wa.of (Zh _ _ hp))
    split at e
    · rename_i is ei
      split at e
      · rename_i h64
        cases e
        cases Xu ei
        cases r2.ints
        have hi:=X7 rv
        have hl:its.length=is.length:=hi.length
        refine sorted_ints pl.isList hi (by omega) fun out ns' a1 a2 a3=>?_
        obtain ⟨ep,he⟩:=sortedAll_at s.heap its out
        cases isort_unique a2 a3
        refine ⟨.ref (s.heap.objs.size+1),_,I.laid (o:=.lst ((isort is).map V.int)) (fun _ _=>sortedAll_old) (Nat.le_succ _) ⟨?_,out.toList,ep,vals_of_ints a1,he⟩,rfl,q _ _ (Zg.new (I.hok.fresh (Nat.le_succ _))) (YD th (I.hok.fresh (Nat.le_succ _)) (WM _))⟩
        rw [List.length_map,a2.length_eq,sizeLine_eq];omega
      · cases e
    · split at e
      · rename_i ks ek
        split at e
        · rename_i h64
          cases e
          cases tupsOf_some ek
          obtain ⟨h64,nd,hne⟩:=h64
          have rm:=Zs.mono Zh _ _ r2
          have ta:=tup_ats I rm rv
          have hl:=ta.len
          have hvl:=r2.length
          rw [List.length_map] at hvl
          have ko:=kord_keys nd
          rw [<- hl] at ko
          refine sorted_by pl.isList (by omega) ko (fun h2 h' hk=>ask_ok (s:={ s with heap:=h' }) (ta.keep hk) hne h2) fun pm hkp hr=>?_
          rw [hl] at hkp hr
          obtain ⟨ep,he⟩:=sortedAll_at s.heap its (List.toArray (pm.toList.map fun i=>its.getD i Value.none))
          have lt:∀ i∈pm.toList,i < ks.length:=fun i hi=>List.mem_range.mp ((kp_perm hkp).mem_iff.mp hi)
          have r3:=reps_getD r2 pm.toList (fun i hi=>by rw [List.length_map];exact lt i hi)
          have ed:(pm.toList.map fun i=>(ks.map kT).getD i .non)=(Vf ks).map kT:=by
            rw [<- kp_sorted hkp hr,List.map_map]
            refine List.map_congr_left fun i hi=>?_
            have:=lt i hi
            simp [List.getD_eq_getElem?_getD,this]
          rw [ed] at r3
          have v3:=vals_getD rv pm.toList (fun i hi=>by rw [hvl];exact lt i hi)
          refine ⟨.ref (s.heap.objs.size+1),_,I.laid (o:=.lst (pm.toList.map fun i=>vs.getD i .non)) (fun _ _=>sortedAll_old) (Nat.le_succ _) ⟨?_,_,ep,v3,he⟩,rfl,q _ _ (Zg.new (I.hok.fresh (Nat.le_succ _))) (YD th (I.hok.fresh (Nat.le_succ _)) r3)⟩
          rw [List.length_map,Array.length_toList,hkp.size,sizeLine_eq];omega
        · cases e
      · cases e
  · cases e
end
end L2

namespace L2
open PySem PySem.Spec PyProof.Rows
def Ite (K:PySem.W.Frag) (a:Addr):It :=
  ⟨fun i H=>∃ xs x,Wa K H a xs/\xs[i]?=some x,
   fun i H z H'=>∃ T x,z=.ref T/\H T=none/\(∀ xs,Wa K H a xs->xs[i]?=some x)/\H'=YV H T (.tup [.int (i:Int),x]),
   fun i H=>∃ xs,Wa K H a xs/\xs.length<=i⟩
def enumTn (e it l:Addr) (i:Nat) (h:Heap):Prop:=(∃ old,IsEnum h e it i old)/\h.IsListIter it l i
theorem turn_enum {P:Program} {w:World} {K:PySem.W.Frag} {elts:List Expr} {kk:Nat} {pos:Pos} {e it l:Addr} (hei:e≠it) (hle:l≠e) (hli:l≠it) :
    Turn P w K (.Tuple elts kk pos) (Ite K l) [e,it] e (enumTn e it l) where
  mem:=by simp
  obj:=fun i h ⟨⟨old,he⟩,⟨o,ho,_,hd⟩⟩ b hb=>by
    simp only [List.mem_cons,List.not_mem_nil,or_false] at hb
    rcases hb with rfl | rfl
    · exact ⟨_,he,fun v z=>by cases z⟩
    · exact ⟨o,ho,fun v z=>by rw [hd] at z;cases z⟩
  keep:=fun i h h' ⟨⟨old,he⟩,hit⟩ k=>⟨⟨old,k _ (by simp) _ he⟩,hit.at fun o x=>k _ (by simp) o x⟩
  item:=by
    intro X hP hw hK hc i pins s σ H E I hf st hg
    subst hP hw hK
    obtain ⟨⟨old,he⟩,hit⟩:=st
    obtain ⟨xs,x,q1,e1⟩:=hg
    obtain ⟨is,r1,d1,z1⟩:=I.list q1
    obtain ⟨xu,h1,rx⟩:=r1.get e1
    have oit:∃ o,s.heap.get? it=some o:=let ⟨o,ho,_⟩:=hit;⟨o,ho⟩
    refine wpAny_pyNext_enum_item he hit d1.isList (x:=xu) (by simpa using h1) hei fun h' ho hit' hT hsz hk=>?_
    refine ⟨_,rfl,wpAny_letOwnedTupleGo_enum ho fun h'' he' hs'=>?_⟩
    have below:∀ {b o},s.heap.get? b=some o->b≠s.heap.objs.size:=fun e=>Nat.ne_of_lt (Heap.lt_size e)
    have kp:∀ b o,b∉[e,it]->s.heap.get? b=some o->h''.get? b=some o:=fun b o hb q=>by
      simp only [List.mem_cons,List.not_mem_nil,or_false,not_or] at hb
      exact (hs'.2 b hb.1).trans (hk b o hb.1 hb.2 q)
    have ht:IsTup h'' s.heap.objs.size [Value.int (i:Int) s.toks,xu].toArray:=⟨_,(hs'.2 _ (fun z=>below he z.symm)).trans hT,rfl,0,rfl⟩
    refine ⟨.ref s.heap.objs.size,_,I.turnNew (t':=s.toks+1) (vs:=[.int (i:Int),x]) hf kp (by rw [show sizeLine=16777216 from sizeLine_eq];show 2<=16777216;decide) (.cons ⟨_,rfl⟩ (.cons rx .nil)) ht,rfl,?_,?_,?_⟩
    · exact ⟨_,x,rfl,I.hok.fresh (Nat.le_refl _),fun zs hz'=>by rw [I.list_inj hz' q1];exact e1,rfl⟩
    · exact ⟨⟨xu,by simpa using he'⟩,hit'.at fun o y=>(hs'.2 it hei.symm).trans y⟩
    · intro b hb
      rw [ZG]
      · exact (hf b hb).1
      · simp only [List.mem_cons,List.not_mem_nil,or_false] at hb
        obtain ⟨o,w1⟩:=oit
        rcases hb with rfl | rfl
        · exact below he
        · exact below w1
  done:=by
    intro X hP hw hK hc i pins s σ H E I hf st hg
    subst hP hw hK
    obtain ⟨⟨old,he⟩,hit⟩:=st
    obtain ⟨xs,q1,hend⟩:=hg
    obtain ⟨is,r1,d1,z1⟩:=I.list q1
    have l1:=r1.length
    refine wpAny_pyNext_enum_end (I.ok.hd hc) he hit d1.isList (by simp;omega) fun h' k=>⟨rfl,I.turnedAll (t':=s.toks) hf fun b o hb q=>?_⟩
    simp only [List.mem_cons,List.not_mem_nil,or_false,not_or] at hb
    exact k b o hb.2 q
  self:=fun _ _ _ _ _ st h=>let ⟨⟨_,he⟩,_⟩:=st;wpAny_pyIter_enum he h
section
variable {X:Cx} {tg:Expr}
def iEnum (K:PySem.W.Frag) (t:TA):TI:=fun σ H R=>t σ H fun vs H1=>∃ a xs,vs=[.ref a]/\Wa K H1 a xs/\R (Ite K a) H1
theorem pi_enum {elts:List Expr} {kk:Nat} {pos pp p:Pos} {a:Expr} {t:TA} (hm:X.mg "enumerate"=none) (ha:PA X [a] t) (hg:Gl X "enumerate":=by rfl)
    (hs:starEach [a] X.env=[(false,eval a X.env)]:=by rfl) :
    PI X (.Tuple elts kk pos) (.Call (.Name "enumerate" p) [a] [] pp) (iEnum X.K t):=by
  intro pins s σ H R I h
  refine Call_ (ld_blt I hg hm (show bootBuiltins "enumerate"=some (.type "enumerate") by decide +kernel) (PyProof.Rows.callWith_type1 (Y4 (ha pp pins s σ H _ I h) fun us s1 ⟨vs,H1,I1,r1,q1⟩=>?_) (by rw [hs];rfl) (by rfl)))
  obtain ⟨a1,xs,rfl,q1,q⟩:=q1
  cases r1 with
  | cons ra rr =>
    cases rr
    cases ra
    obtain ⟨is,v1,d1,_⟩:=I1.list q1
    obtain ⟨o1,n1,ho1,_⟩:=d1
    have l1:a1 < s1.heap.objs.size:=Heap.lt_size ho1
    refine call_enumerate_list (I1.list q1).choose_spec.2.1.isList fun h' hE hI hsz hk=>?_
    refine wpAny_pyIter_enum hE ?_
    have I2:ZE X pins σ H1 { s1 with heap:=h' }:=I1.kept (t':=s1.toks) hk
    have fr:∀ d,s1.heap.objs.size<=d->FpOk X pins H1 d:=fun d hd=>I1.fpOk hd (I1.hok.fresh hd)
    refine ⟨s1.heap.objs.size+1,[s1.heap.objs.size+1,s1.heap.objs.size],_,_,H1,rfl,I2,turn_enum (l:=a1) (Nat.succ_ne_self _) (Nat.ne_of_lt (Nat.lt_succ_of_lt l1)) (Nat.ne_of_lt l1),⟨⟨_,hE⟩,hI⟩,fun d hd=>?_,q⟩
    refine ⟨(fr d ?_).1,(fr d ?_).2⟩ <;> (simp only [List.mem_cons,List.not_mem_nil,or_false] at hd;rcases hd with rfl | rfl <;> first | exact Nat.le_refl _ | exact Nat.le_add_right _ _)
def XS:Nat->List D->List D
  | _,[]=>[]
  | i,x::xs=>.tup [.int (i:Int),x]::XS (i+1) xs
theorem enumDs_get:∀ {k:Nat} {xs:List D} {i:Nat} {d:D},(XS k xs)[i]?=some d->∃ x,xs[i]?=some x/\d=.tup [.int ((k+i:Nat):Int),x]
  | k,x::xs,0,d,h=>⟨x,rfl,by simpa [XS] using h.symm⟩
  | k,x::xs,i+1,d,h=>by
    obtain ⟨p,h1,h3⟩:=enumDs_get (k:=k+1) (xs:=xs) (i:=i) (d:=d) (by simpa [XS] using h)
    exact ⟨p,by simpa using h1,by rw [h3,show k+1+i=k+(i+1) by omega]⟩
  | _,[],_,_,h=>by simp [XS] at h
theorem enumDs_len:∀ (k:Nat) (xs:List D),(XS k xs).length=xs.length
  | _,[]=>rfl
  | k,x::xs=>by simp only [XS,List.length_cons,enumDs_len (k+1) xs]
def listD:D->Option (List D)
  | .lst ds=>some ds
  | _=>none
def fEnum (a:FE):FA:=fun ρ=>(a ρ).bind fun x=>(listD x).bind fun xs=>some (XS 0 xs)
theorem iv_enum {elts:List Expr} {kk:Nat} {pos pp p:Pos} {a:Expr} {fa:FE} (hm:X.mg "enumerate"=none) (ha:EV X a fa) (hg:Gl X "enumerate":=by rfl)
    (hs:starEach [a] X.env=[(false,eval a X.env)]:=by rfl) :
    IV X (.Tuple elts kk pos) (.Call (.Name "enumerate" p) [a] [] pp) (fEnum fa):=PI.imp (pi_enum hm (WE ha pa_nil (by rw [hs];rfl)) hg hs) fun σ H R ⟨O,ρ,ds,rv,e,q⟩=>by
  obtain ⟨x,e1,e⟩:=bind_some e
  obtain ⟨xs,e3,e⟩:=bind_some e
  cases e
  refine ⟨O,ρ,x,rv,e1,fun v H1 s1 r1=>?_⟩
  cases x with
  | lst es =>
    cases e3
    obtain ⟨a1,vs,rfl,k1,t1⟩:=r1
    refine ⟨a1,vs,rfl,Wa.of (Zh _ _ k1),q _ H1 s1 ?_⟩
    intro H3 O' s3 th i
    have j1:Wa X.K H3 a1 vs:=Zg.seq Zh (Zg.seq s3 (Wa.of k1))
    refine ⟨fun d hd=>?_,fun hl=>⟨vs,j1,?_⟩⟩
    · obtain ⟨p,h1,rfl⟩:=enumDs_get hd
      obtain ⟨vp,g1,g2⟩:=t1.get h1
      refine ⟨⟨vs,vp,j1,g1⟩,fun z H4 ⟨T,x',ez,hT,f1,eh⟩=>?_⟩
      subst ez;subst eh
      have:=f1 vs j1
      rw [g1] at this;cases this
      refine ⟨Zg.new hT,Y5 th hT ?_⟩
      rw [Nat.zero_add]
      exact ⟨_,_,rfl,rfl,_,_,rfl,Xe.mono s3 p _ g2,rfl⟩
    · rw [t1.length];rw [enumDs_len] at hl;exact hl
  | _=>cases e3
end
end L2

namespace L2
open PySem PySem.Spec PyProof.Rows
theorem Zx {P:Program} {w:World} {K:PySem.W.Frag} {mg:Str->Option Value} {base:Heap} {x qual:Str} {st:Stmt} {f:Addr} {fd:FuncData} {N ps:List Str} {k n m:Nat} {F:FS} {G:List D->Option D} (Fu:Wr K x qual st f fd) (S:ZC N ps (Zm st)) (hn:ps.length=n) (hm:N.length=m) (hG:G=Z3 n m F)
    (h:∀ (cdv:Value) (A:Around) (outer:List Env) (s:Shared) (H:Hp) (E:XK),Wq k (A.deeper (envOfC qual (Zm st) s.heap.objs.size f cdv))->SVs (cxOf CX0 P w K mg base N qual (Zm st) f cdv A outer s H E).nox (Wf st) F) :
    VH P w K mg base CX0 (k+1) f fd ps (spD K G):=by
  subst hn hm hG
  exact fn_data Fu S h
end L2

namespace L2
open PySem PySem.Spec PyProof.Rows
section
variable {K:PySem.W.Frag} {B H H':Hp} {O0 O1:List Addr} {ρ:Y1} {σ:St}
theorem same_grow {news:List Addr} (hn:∀ a∈news,H a=none) (s:Zg H H'):Zg (ZK (O0++O1) H) (ZK (O0++(news++O1)) H'):=fun b u q=>by
  have hb:b∉O0++O1:=fun m=>by rw [Ye m] at q;cases q
  rw [Zv hb] at q
  have hbn:b∉news:=fun m=>by rw [hn b m] at q;cases q
  refine (Zv fun m=>?_).trans (s b u q)
  rcases List.mem_append.mp m with z | z
  · exact hb (List.mem_append_left _ z)
  · rcases List.mem_append.mp z with z | z
    · exact hbn z
    · exact hb (List.mem_append_right _ z)
theorem RS.grow (r:RS K B O0 O1 H ρ σ) {news:List Addr} (hn:∀ a∈news,H a=none) (s:Zg H H') (hm:∀ a∈news,∃ o,H' a=some o/\isMut o):RS K B O0 (news++O1) H' ρ σ:=by
  have sm:=same_grow (O0:=O0) (O1:=O1) hn s
  refine ⟨r.len,Zg.trans r.same s,r.thB,fun a ha=>?_,fun a ha=>?_,fun i d e=>let ⟨v,h1,h2⟩:=r.vals i d e;⟨v,h1,Xe.mono sm d v h2⟩,fun i d e=>?_,r.apart⟩
  · rcases List.mem_append.mp ha with z | z
    · cases q:B a with
      | none=>rfl
      | some u=>have:=r.same a u q;rw [hn a z] at this;cases this
    · exact r.new a z
  · rcases List.mem_append.mp ha with z | z
    · exact hm a z
    · obtain ⟨o,e,m⟩:=r.th a z
      exact ⟨o,s _ _ e,m⟩
  · obtain ⟨a,h1,h2,h3⟩:=r.owns i d e
    exact ⟨a,h1,List.mem_append_right _ h2,h3.mono sm fun o q=>s _ _ q⟩
theorem RS.slot (r:RS K B O0 O1 H ρ σ) {i:Nat} {v:V} (hi:∀ c,ρ[i]?≠some (some c)):RS K B O0 O1 H ρ (σ.set i (some v)):=by
  have other:∀ {j:Nat} {c:Cl},ρ[j]?=some (some c)->(σ.set i (some v))[j]?=σ[j]?:=fun {j c} e=>List.getElem?_set_ne fun z=>by subst z;exact hi c e
  refine ⟨by rw [List.length_set];exact r.len,r.same,r.thB,r.new,r.th,fun j d e=>?_,fun j d e=>?_,fun j k d1 d2 a q1 q2 q3 q4=>?_⟩
  · rw [other e];exact r.vals j d e
  · rw [other e];exact r.owns j d e
  · rw [other q1] at q3;rw [other q2] at q4;exact r.apart j k d1 d2 a q1 q2 q3 q4
theorem RS.poke (r:RS K B O0 O1 H ρ σ) {b:Addr} {o:HO} (hb:b∈O1) (hm:isMut o) (hno:∀ (j:Nat) (d:D),ρ[j]?≠some (some (.own d))):RS K B O0 O1 (YV H b o) ρ σ:=by
  have em:ZK (O0++O1) (YV H b o)=ZK (O0++O1) H:=by
    funext c
    by_cases hc:c∈O0++O1
    · rw [Ye hc,Ye hc]
    · rw [Zv hc,Zv hc,ZG (fun z=>hc (by rw [z];exact List.mem_append_right _ hb))]
  refine ⟨r.len,fun c u q=>?_,r.thB,r.new,fun c hc=>?_,fun j d e=>by rw [em];exact r.vals j d e,fun j d e=>absurd e (hno j d),r.apart⟩
  · rw [ZG fun z=>by subst z;rw [r.new c hb] at q;cases q];exact r.same c u q
  · by_cases z:c=b
    · rw [z];exact ⟨o,Z1,hm⟩
    · rw [ZG z];exact r.th c hc
end
def Tb (O1:List Addr) (i:Nat) (M:List (List Int)) (σ:St) (H:Hp):Prop:=∃ (t:Addr) (bs:List Addr),σ[i]?=some (some (.ref t))/\t∈O1/\(∀ b∈bs,b∈O1)/\t∉bs/\bs.Nodup/\H t=some (.lst (bs.map V.ref))/\bs.length=M.length /\
  ∀ (k:Nat) (b:Addr) (row:List Int),bs[k]?=some b->M[k]?=some row->H b=some (.lst (row.map V.int))
def Vs (n:Nat):List Int:=List.replicate n 0
def setM (M:List (List Int)) (a b:Nat) (x:Int):List (List Int):=match M[a]? with
  | some row=>M.set a (row.set b x)
  | none=>M
def inM (M:List (List Int)) (a b:Int):Bool:=decide (0<=a) && decide (0<=b) && match M[a.toNat]? with | some row=>decide (b.toNat < row.length) | none=>false
def fillM:List D->List (List Int)->Option (List (List Int))
  | [],M=>some M
  | .tup [.int a,.int b,.int x]::ds,M=>if inM M a b=true then (let M1:=setM M a.toNat b.toNat x;if inM M1 b a=true then fillM ds (setM M1 b.toNat a.toNat x) else none) else none
  | _::_,_=>none
def mD (M:List (List Int)):D:=.lst (M.map fun r=>.lst (r.map .int))
def sTable (f0:FE) (f1:FA):FS:=fun ρ=>match f0 (Z0 ρ),f1 (Z0 ρ) with
  | some (.int n),some ds=>if 0<=n/\n<=1000 then (match fillM ds (List.replicate n.toNat (Vs n.toNat)) with | some M=>.rt (mD M) | none=>.bad) else .bad
  | _,_=>.bad
theorem inM_row {M:List (List Int)} {a b:Int} (h:inM M a b=true):0<=a/\0<=b/\∃ row,M[a.toNat]?=some row/\b.toNat < row.length:=by
  unfold inM at h
  simp only [Bool.and_eq_true,decide_eq_true_eq] at h
  obtain ⟨⟨h1,h2⟩,h3⟩:=h
  refine ⟨h1,h2,?_⟩
  cases e:M[a.toNat]? with
  | none=>rw [e] at h3;cases h3
  | some row=>rw [e] at h3;exact ⟨row,rfl,of_decide_eq_true h3⟩
section
variable {X:Cx}
theorem tab_store {H:Hp} {σ:St} {O1:List Addr} {i:Nat} {M:List (List Int)} {a b x:Int} (T:Tb O1 i M σ H) (h:inM M a b=true) {Q:Hp->Prop}
    (q:∀ p xs,p∈O1->H p=some (.lst xs)->Tb O1 i (setM M a.toNat b.toNat x) σ (YV H p (.lst (xs.set b.toNat (.int x))))->Q (YV H p (.lst (xs.set b.toNat (.int x))))) :
    ∃ t us,σ[i]?=some (some (.ref t))/\H t=some (.lst us)/\∃ p,atI us a=some (.ref p)/\∃ xs,H p=some (.lst xs)/\ixN xs.length b=some b.toNat/\Q (YV H p (.lst (xs.set b.toNat (.int x)))):=by
  obtain ⟨t,bs,h1,h2,h3,h4,h5,h6,h7,h8⟩:=T
  obtain ⟨a0,b0,row,hrow,hlt⟩:=inM_row h
  have ha:a.toNat < bs.length:=by rw [h7];exact (List.getElem?_eq_some_iff.mp hrow).1
  have hp:bs[a.toNat]?=some bs[a.toNat]:=List.getElem?_eq_getElem ha
  have hH:=h8 a.toNat _ row hp hrow
  have hm:bs[a.toNat]∈bs:=List.getElem_mem ha
  refine ⟨t,_,h1,h6,bs[a.toNat],?_,_,hH,?_,?_⟩
  · unfold atI ixN
    rw [List.length_map,if_pos a0,if_pos (by omega)]
    show (bs.map V.ref)[a.toNat]?=_
    rw [List.getElem?_map,hp];rfl
  · unfold ixN
    rw [if_pos b0,if_pos (by rw [List.length_map];omega)]
  · refine q _ _ (h3 _ hm) hH ⟨t,bs,h1,h2,h3,h4,h5,?_,?_,fun k c r hk hr=>?_⟩
    · rw [ZG fun z=>h4 (by rw [z];exact hm)];exact h6
    · unfold setM;rw [hrow];simpa using h7
    · unfold setM at hr
      rw [hrow] at hr
      dsimp only at hr
      by_cases e:a.toNat=k
      · subst e
        rw [hp] at hk;cases hk
        rw [List.getElem?_set_self (by rw [<- h7];exact ha)] at hr
        cases hr
        rw [Z1,List.map_set]
      · rw [List.getElem?_set_ne e] at hr
        have hne:c≠bs[a.toNat]:=fun z=>by
          subst z
          have hk':=(List.getElem?_eq_some_iff.mp hk)
          exact e ((List.getElem_inj h5).mp (hk'.2.symm))
        rw [ZG hne]
        exact h8 k c r hk hr
noncomputable def repF (fa:FA) (fb:FE):FA:=fun ρ=>(fa ρ).bind fun ds=>(fb ρ).bind fun y=>match y with
  | .int k=>@ite _ (-(2 ^ 63)<=k/\k < 2 ^ 63/\ds.length * k.toNat<=Xi) (Classical.propDecidable _) (some (List.replicate k.toNat ds).flatten) none
  | _=>none
theorem evf_rep {a b:Expr} {fa:FA} {fb:FE} {pos:Pos} (ha:EVF X a fa) (hb:EV X b fb):EVF X (.BinOp a .Mult b pos) (repF fa fb):=PE.imp (pe_op op_rep ha hb) fun σ H Q ⟨O,ρ,ds,rv,e,q⟩=>by
  obtain ⟨es,e1,e⟩:=bind_some e
  obtain ⟨y,e2,e⟩:=bind_some e
  refine ⟨O,ρ,es,rv,e1,fun p vs H1 s1 hn r1=>?_⟩
  have s1':Zg H (YV H1 p (.lst vs)):=Zg.trans s1 (Zg.new hn)
  refine ⟨O,ρ,y,rv.mono s1',e2,fun u H2 s2 r2=>?_⟩
  cases y with
  | int k =>
    dsimp only at e
    split at e
    · rename_i hl
      cases e
      have hp:H2 p=some (.lst vs):=s2 _ _ Z1
      have r3:Zs X.K (ZK O H2) es vs:=Zs.mono (ZH (Zg.trans (Zg.new hn) s2)) es vs r1
      refine ⟨p,k,vs,rfl,r2,hp,hl.1,hl.2.1,?_,fun l hl'=>q l _ H2 (Zg.trans s1' s2) hl' (reps_rep r3 _)⟩
      rw [r3.length];exact XA hl.2.2
    · cases e
  | _=>cases e
theorem reps_zero {K:PySem.W.Frag} {H:Hp} {n:Nat} {vs:List V} (r:Zs K H (List.replicate n [D.int 0]).flatten vs):vs=(Vs n).map V.int:=by
  have e:(List.replicate n [D.int 0]).flatten=(Vs n).map D.int:=by
    clear r
    unfold Vs
    induction n with
    | zero=>rfl
    | succ n ih=>rw [List.replicate_succ,List.flatten_cons,ih,List.replicate_succ];rfl
  rw [e] at r
  exact r.ints
end
end L2

namespace L2
open PySem PySem.Spec PyProof.Rows
section
variable {X:Cx}
def noOwn (ρ:Y1):Bool:=ρ.all fun c=>match c with | some (.own _)=>false | _=>true
theorem noOwn_at {ρ:Y1} (h:noOwn ρ=true) (j:Nat) (d:D):ρ[j]?≠some (some (.own d)):=fun e=>by
  have:=List.all_eq_true.mp h _ (List.mem_of_getElem? e)
  cases this
theorem Tb.mono {O1:List Addr} {i:Nat} {M:List (List Int)} {σ:St} {H H':Hp} (T:Tb O1 i M σ H) (s:Zg H H'):Tb O1 i M σ H':=by
  obtain ⟨t,bs,h1,h2,h3,h4,h5,h6,h7,h8⟩:=T
  exact ⟨t,bs,h1,h2,h3,h4,h5,s _ _ h6,h7,fun k b r hb hr=>s _ _ (h8 k b r hb hr)⟩
abbrev tTab (K:PySem.W.Frag) (i ja jb jx:Nat):TS:=tAsg (tD K (fV jx)) (gSub (tOp (rIxL K) (tVar i) (tD K (fV ja))) (tD K (fV jb)) rSetL)
theorem tab_stmt {K:PySem.W.Frag} {B H:Hp} {O0 O1:List Addr} {ρ:Y1} {σ:St} {i ja jb jx:Nat} {M:List (List Int)} {a b x:Int} {E:Ends} (r:RS K B O0 O1 H ρ σ) (T:Tb O1 i M σ H) (ho:noOwn ρ=true)
    (ea:ρ[ja]?=some (some (.val (.int a)))) (eb:ρ[jb]?=some (some (.val (.int b)))) (ex:ρ[jx]?=some (some (.val (.int x)))) (h:inM M a b=true)
    (k:∀ H',RS K B O0 O1 H' ρ σ->Tb O1 i (setM M a.toNat b.toNat x) σ H'->Zg (ZK (O0++O1) H) (ZK (O0++O1) H')->E.nx σ H'):tTab K i ja jb jx E σ H:=by
  have vw:∀ {j:Nat} {d:D},ρ[j]?=some (some (.val d))->fV j (Z0 ρ)=some d:=fun {j d} e=>by
    unfold fV Z0
    rw [List.getElem?_map,e];rfl
  refine ⟨O0++O1,Z0 ρ,.int x,r.val,vw ex,fun v H1 s1 rx=>?_⟩
  have r1:=r.mono s1
  have T1:=T.mono s1
  have hv:v=.int x:=rx
  subst hv
  obtain ⟨t,us,ht,hu,_⟩:=tab_store (x:=x) (Q:=fun _=>True) T1 h (fun _ _ _ _ _=>trivial)
  refine ⟨.ref t,ht,O0++O1,Z0 ρ,.int a,r1.val,vw ea,fun y H2 s2 ry=>?_⟩
  have hy:y=.int a:=ry
  subst hy
  have r2:=r1.mono s2
  have T2:=T1.mono s2
  obtain ⟨t2,us2,ht2,hu2,p,hp,_⟩:=tab_store (x:=x) (Q:=fun _=>True) T2 h (fun _ _ _ _ _=>trivial)
  rw [ht] at ht2;cases ht2
  refine ⟨t,us2,a,.ref p,rfl,rfl,Wa.of hu2,hp,O0++O1,Z0 ρ,.int b,r2.val,vw eb,fun z H3 s3 rz=>?_⟩
  have hz:z=.int b:=rz
  subst hz
  have r3:=r2.mono s3
  have T3:=T2.mono s3
  obtain ⟨t3,us3,ht3,hu3,p3,hp3,xs,hx,hi,q⟩:=tab_store (x:=x) (Q:=fun H'=>E.nx σ H') T3 h (fun p xs hpO hpx T4=>by
    refine k _ (r3.poke hpO trivial (noOwn_at ho)) T4 fun c u e=>?_
    have hc:c∉O0++O1:=fun m=>by rw [Ye m] at e;cases e
    rw [Zv hc] at e
    rw [Zv hc,ZG fun w=>hc (by rw [w];exact List.mem_append_right _ hpO)]
    exact s3 _ _ (s2 _ _ (s1 _ _ e)))
  rw [ht] at ht3;cases ht3
  have:us3=us2:=by
    have:=s3 _ _ hu2
    rw [hu3] at this;cases this;rfl
  subst this
  rw [hp] at hp3;cases hp3
  exact ⟨p,xs,b,b.toNat,rfl,rfl,hx,hi,q⟩
def blank (ρ:Y1) (i:Nat):Bool:=match ρ[i]? with | some none=>true | _=>false
theorem blank_of {ρ:Y1} {i:Nat} (h:blank ρ i=true):ρ[i]?=some none:=by
  unfold blank at h
  split at h
  · assumption
  · cases h
def sTabl (i:Nat) (f0:FE) (f1:FA):FS:=fun ρ=>if noOwn ρ=true/\blank ρ i=true then sTable f0 f1 ρ else .bad
theorem setS_ne:∀ (ws:List (Nat×D)) (vs:List V) {σ:St} {i:Nat},(∀ w∈ws,w.1≠i)->(setS σ ws vs)[i]?=σ[i]?
  | [],_,_,_,_=>rfl
  | w::ws,[],_,_,_=>rfl
  | w::ws,v::vs,σ,i,h=>by
    show (setS (σ.set w.1 (some v)) ws vs)[i]?=_
    rw [setS_ne ws vs fun z hz=>h z (List.mem_cons_of_mem _ hz),List.getElem?_set_ne (h w List.mem_cons_self)]
theorem Tb.slots {O1:List Addr} {i:Nat} {M:List (List Int)} {σ σ':St} {H:Hp} (T:Tb O1 i M σ H) (e:σ'[i]?=σ[i]?):Tb O1 i M σ' H:=by
  obtain ⟨t,bs,h1,h2⟩:=T
  exact ⟨t,bs,by rw [e];exact h1,h2⟩
theorem noOwn_set {ρ:Y1} (h:noOwn ρ=true) (j:Nat) (d:D):noOwn (ρ.set j (some (.val d)))=true:=by
  unfold noOwn at *
  rw [List.all_eq_true] at *
  intro c hc
  rcases List.mem_or_eq_of_mem_set hc with z | z
  · exact h c z
  · subst z;rfl
theorem fillM_cons {d:D} {ds:List D} {M Mf:List (List Int)} (h:fillM (d::ds) M=some Mf):∃ a b x:Int,d=.tup [.int a,.int b,.int x]/\inM M a b=true/\inM (setM M a.toNat b.toNat x) b a=true/\fillM ds (setM (setM M a.toNat b.toNat x) b.toNat a.toNat x)=some Mf:=by
  unfold fillM at h
  split at h
  · rename_i e;cases e
  · rename_i a b x ds' e
    injection e with e1 e2
    subst e1;subst e2
    split at h
    · rename_i i1
      dsimp only at h
      split at h
      · rename_i i2;exact ⟨a,b,x,rfl,i1,i2,h⟩
      · cases h
    · cases h
  · cases h
theorem svs_table {S1 S3 S4 S5:Stmt} {tg iter:Expr} {i:Nat} {ix:List Nat} {ja jb jx:Nat} {f0 f0':FE} {f1:FA} {pos:Pos}
    (h1:PS X S1 (tAsg (tComp 1 ix (tI X.K (fR Xh (Zc f0 fN))) (tG X.K (gN 0)) (tT X.K Y3) (tF X.K (repF (fR few (Zc (fC (.int 0)) fN)) f0'))) (gName i)))
    (h2:PS X (.For tg iter [S3,S4] [] pos) (tFor (tI X.K f1) (tG X.K (gT [ja,jb,jx])) (tSeq (tTab X.K i ja jb jx) (tTab X.K i jb ja jx))))
    (h5:PS X S5 (tRet (tVar i))) (hrel:∀ (ρ:Wp) (d:D),f0' (XM (env0 1 ix ρ) [(0,d)])=f0 ρ)
    (hd:ja≠jb/\ja≠jx/\jb≠jx/\ja≠i/\jb≠i/\jx≠i) (hN:i < X.N.length/\ja < X.N.length/\jb < X.N.length/\jx < X.N.length) :
    SVs X [S1,.For tg iter [S3,S4] [] pos,S5] (sTabl i f0 f1):=fun pins s σ H E I h=>by
  refine pss_cons h1 (pss_cons h2 (pss_one h5)) pins s σ H E I ?_
  obtain ⟨B,O0,O1,ρ,r,q⟩:=h
  have hlen:σ.length=X.N.length:=I.len
  have hρ:ρ.length=X.N.length:=r.len.trans hlen
  unfold sTabl at q
  split at q
  case isFalse=>exact q.elim
  rename_i hc
  obtain ⟨ho,hib⟩:=hc
  have hi:=blank_of hib
  unfold sTable at q
  split at q
  case h_2=>exact q.elim
  rename_i k ds e0 e1
  split at q
  case isFalse=>exact q.elim
  rename_i hk
  split at q
  case h_2=>exact q.elim
  rename_i Mf hM
  obtain ⟨k0,k1⟩:=hk
  have hrng:fR Xh (Zc f0 fN) (Z0 ρ)=some (Wu 0 k.toNat):=by
    unfold fR Zc fN
    rw [e0]
    show Xh [.int k]=_
    unfold Xh
    dsimp only
    rw [if_pos (by constructor <;> omega)]
  have hrep:∀ (d:D),repF (fR few (Zc (fC (.int 0)) fN)) f0' (XM (env0 1 ix (Z0 ρ)) [(0,d)])=some (List.replicate k.toNat [D.int 0]).flatten:=fun d=>by
    unfold repF
    rw [hrel,e0]
    show (some [D.int 0]).bind _=_
    dsimp only [Option.bind_some]
    rw [if_pos (by refine ⟨?_,?_,?_⟩;omega;omega;show 1 * k.toNat<=65536;omega)]
  refine ⟨O0++O1,Z0 ρ,Wu 0 k.toNat,r.val,hrng,fun J H1 s1 wk=>?_⟩
  have rv1:=r.val.mono s1
  refine ⟨fun c m ys σ' H'=>m=k.toNat - c/\c<=k.toNat/\Zg H1 H'/\σ'.length=1+ix.length/\RV X.K (O0++O1) H' (env0 1 ix (Z0 ρ)) σ'/\∃ bs:List Addr,ys=bs.map V.ref/\bs.length=c/\bs.Nodup/\∀ b∈bs,H1 b=none/\H' b=some (.lst ((Vs k.toNat).map V.int)),
    ⟨k.toNat,by simp,Nat.zero_le _,Zg.refl _,st0_len 1 ix σ,env0_rv rv1,[],rfl,rfl,List.nodup_nil,fun b hb=>by cases hb⟩,?_⟩
  rintro c m ys σ' H' ⟨rfl,hc,s2,hσ,rv',bs,rfl,hbl,hnd,hbs⟩
  have wk':=wk H' (O0++O1) (ZH s2) rv'.th c
  by_cases hlt:c < k.toNat
  · have hg:(Wu 0 k.toNat)[c]?=some (.int (0+(c:Int))):=by unfold Wu;rw [List.getElem?_map,List.getElem?_range hlt];rfl
    obtain ⟨go,yl⟩:=wk'.1 _ hg
    refine .inr ⟨go,by rw [List.length_map,hbl];rw [show sizeLine=16777216 from sizeLine_eq];omega,fun x H2 hy=>?_⟩
    obtain ⟨s3,rx⟩:=yl x H2 hy
    have rv3:=rv'.mono s3
    refine ⟨O0++O1,_,[(0,.int (0+(c:Int)))],rv3.th,rx,rfl,fun vs rs=>?_⟩
    have hl0:(env0 1 ix (Z0 ρ)).length=σ'.length:=by rw [hσ];simp [env0];omega
    obtain ⟨rv4,hl4⟩:=RV.sets [(0,.int (0+(c:Int)))] vs rv3 hl0 rs
    have hσ4:(setS σ' [(0,.int (0+(c:Int)))] vs).length=1+ix.length:=by
      rw [<- hl4];show ((env0 1 ix (Z0 ρ)).set 0 _).length=_;rw [List.length_set,hl0,hσ]
    refine ⟨O0++O1,_,true,rv4,rfl,fun H4 s4=>?_⟩
    dsimp only
    rw [if_pos rfl]
    refine ⟨O0++O1,_,_,rv4.mono s4,hrep _,fun a us H5 s5 hn5 rep=>?_⟩
    cases reps_zero rep
    have s15:Zg H1 H5:=Zg.trans s2 (Zg.trans s3 (Zg.trans s4 s5))
    have s'5:Zg H' H5:=Zg.trans s3 (Zg.trans s4 s5)
    have na:a∉bs:=fun z=>by have:=s'5 _ _ (hbs a z).2;rw [hn5] at this;cases this
    have nH:H1 a=none:=by
      cases w:H1 a with
      | none=>rfl
      | some u=>have:=s15 _ _ w;rw [hn5] at this;cases this
    refine ⟨_,(by omega:k.toNat - (c+1) < k.toNat - c),rfl,hlt,Zg.trans s15 (Zg.new hn5),hσ4,?_,bs++[a],by rw [List.map_append];rfl,by simp [hbl],?_,fun b hb=>?_⟩
    · refine ((rv4.mono (Zg.trans s4 (Zg.trans s5 (Zg.new hn5)))).weak fun j d ej=>?_)
      cases j with
      | zero=>unfold env0 at ej;simp at ej
      | succ j=>show ((env0 1 ix (Z0 ρ)).set 0 _)[j+1]?=_;rw [List.getElem?_set_ne (by omega)];exact ej
    · rw [List.nodup_append]
      exact ⟨hnd,by simp,fun y hy z hz=>by simp at hz;subst hz;exact fun w=>na (w ▸ hy)⟩
    · rcases List.mem_append.mp hb with z | z
      · refine ⟨(hbs b z).1,?_⟩
        rw [ZG (show b≠a from fun w=>na (w ▸ z))]
        exact s'5 _ _ (hbs b z).2
      · simp at z;subst z
        exact ⟨nH,Z1⟩
  · have ec:c=k.toNat:=by omega
    subst ec
    refine .inl ⟨wk'.2 (by rw [rangeD_len];exact Nat.le_refl _),by rw [List.length_map,hbl,show sizeLine=16777216 from sizeLine_eq];omega,fun l hl=>?_⟩
    have s1':Zg H H':=Zg.trans s1 s2
    have none_of:∀ {a:Addr},H1 a=none->H a=none:=fun {a} e=>by
      cases w:H a with
      | none=>rfl
      | some u=>have:=s1 _ _ w;rw [e] at this;cases this
    have lnone:H l=none:=by
      cases w:H l with
      | none=>rfl
      | some u=>have:=s1' _ _ w;rw [hl] at this;cases this
    have lbs:l∉bs:=fun z=>by have:=(hbs l z).2;rw [hl] at this;cases this
    have sN:Zg H (YV H' l (.lst (bs.map V.ref))):=Zg.trans s1' (Zg.new hl)
    have atb:∀ b∈bs,YV H' l (.lst (bs.map V.ref)) b=some (.lst ((Vs k.toNat).map V.int)):=fun b hb=>by
      rw [ZG (show b≠l from fun z=>lbs (z ▸ hb))];exact (hbs b hb).2
    have r1:=r.grow (news:=l::bs) (fun a ha=>by
      rcases List.mem_cons.mp ha with z | z
      · rw [z];exact lnone
      · exact none_of (hbs a z).1) sN (fun a ha=>by
      rcases List.mem_cons.mp ha with z | z
      · rw [z];exact ⟨_,Z1,trivial⟩
      · exact ⟨_,atb a z,trivial⟩)
    have r2:=r1.slot (i:=i) (v:=.ref l) fun c e=>by rw [hi] at e;cases e
    have T:Tb (l::bs++O1) i (List.replicate k.toNat (Vs k.toNat)) (σ.set i (some (.ref l))) (YV H' l (.lst (bs.map V.ref))):=by
      refine ⟨l,bs,List.getElem?_set_self (by omega),by simp,fun b hb=>by simp [hb],lbs,hnd,Z1,by rw [hbl];simp,fun c b row hb hrow=>?_⟩
      rw [List.getElem?_replicate] at hrow
      split at hrow
      · cases hrow;exact atb b (List.mem_of_getElem? hb)
      · cases hrow
    show tFor (tI X.K f1) (tG X.K (gT [ja,jb,jx])) (tSeq (tTab X.K i ja jb jx) (tTab X.K i jb ja jx)) { E with nx:=tRet (tVar i) E } (σ.set i (some (.ref l))) (YV H' l (.lst (bs.map V.ref)))
    refine ⟨O0++(l::bs++O1),Z0 ρ,ds,r2.val,e1,fun J2 H2 t1 wk2=>?_⟩
    have r3:=r2.mono t1
    have T3:=T.mono t1
    refine ⟨fun c m σ2 H3=>m=ds.length - c/\c<=ds.length/\Zg (ZK (O0++(l::bs++O1)) H2) (ZK (O0++(l::bs++O1)) H3)/\∃ ρ2 M,RS X.K B O0 (l::bs++O1) H3 ρ2 σ2/\ρ2.length=X.N.length/\noOwn ρ2=true/\ρ2[i]?=some none/\Tb (l::bs++O1) i M σ2 H3/\fillM (ds.drop c) M=some Mf,
      ⟨ds.length,by simp,Nat.zero_le _,Zg.refl _,ρ,_,r3,hρ,ho,hi,T3,by simpa using hM⟩,?_⟩
    rintro c m σ2 H3 ⟨rfl,hcd,sm,ρ2,M,r4,hl4,ho4,hi4,T4,hf⟩
    have w:=wk2 H3 (O0++(l::bs++O1)) sm r4.val.th c
    by_cases hlt2:c < ds.length
    · have hdr:ds.drop c=ds[c]::ds.drop (c+1):=List.drop_eq_getElem_cons hlt2
      obtain ⟨go,yl⟩:=w.1 _ (List.getElem?_eq_getElem hlt2)
      rw [hdr] at hf
      refine .inr ⟨go,fun σ' H'=>Zg (ZK (O0++(l::bs++O1)) H2) (ZK (O0++(l::bs++O1)) H')/\∃ ρ2 M,RS X.K B O0 (l::bs++O1) H' ρ2 σ'/\ρ2.length=X.N.length/\noOwn ρ2=true/\ρ2[i]?=some none/\Tb (l::bs++O1) i M σ' H'/\fillM (ds.drop (c+1)) M=some Mf,
        fun σ' H' z=>⟨ds.length - (c+1),by omega,rfl,hlt2,z⟩,fun x H4 hy=>?_⟩
      obtain ⟨s4,rx⟩:=yl x H4 hy
      have r5:=r4.mono s4
      have T5:=T4.mono s4
      obtain ⟨a,b,y,ez1,in1,in2,hf⟩:=fillM_cons hf
      rw [ez1] at rx
      refine ⟨O0++(l::bs++O1),_,[(ja,.int a),(jb,.int b),(jx,.int y)],r5.val.th,rx,rfl,fun vs rs=>?_⟩
      have r6:=r5.sets [(ja,.int a),(jb,.int b),(jx,.int y)] vs rs
      obtain ⟨d1,d2,d3,d4,d5,d6⟩:=hd
      obtain ⟨n1,n2,n3,n4⟩:=hN
      have hσi:(setS σ2 [(ja,.int a),(jb,.int b),(jx,.int y)] vs)[i]?=σ2[i]?:=setS_ne _ vs fun z hz=>by
        simp only [List.mem_cons,List.not_mem_nil,or_false] at hz
        rcases hz with rfl | rfl | rfl
        · exact d4
        · exact d5
        · exact d6
      have T6:=T5.slots hσi
      have ho6:noOwn (Xr ρ2 [(ja,.int a),(jb,.int b),(jx,.int y)])=true:=noOwn_set (noOwn_set (noOwn_set ho4 ja _) jb _) jx _
      have gx:(Xr ρ2 [(ja,.int a),(jb,.int b),(jx,.int y)])[jx]?=some (some (.val (.int y))):=List.getElem?_set_self (by simp;omega)
      have gb:(Xr ρ2 [(ja,.int a),(jb,.int b),(jx,.int y)])[jb]?=some (some (.val (.int b))):=by
        show (((ρ2.set ja _).set jb _).set jx _)[jb]?=_
        rw [List.getElem?_set_ne (fun z=>d3 z.symm),List.getElem?_set_self (by simp;omega)]
      have ga:(Xr ρ2 [(ja,.int a),(jb,.int b),(jx,.int y)])[ja]?=some (some (.val (.int a))):=by
        show (((ρ2.set ja _).set jb _).set jx _)[ja]?=_
        rw [List.getElem?_set_ne (fun z=>d2 z.symm),List.getElem?_set_ne (fun z=>d1 z.symm),List.getElem?_set_self (by omega)]
      have gi:(Xr ρ2 [(ja,.int a),(jb,.int b),(jx,.int y)])[i]?=some none:=by
        show (((ρ2.set ja _).set jb _).set jx _)[i]?=_
        rw [List.getElem?_set_ne d6,List.getElem?_set_ne d5,List.getElem?_set_ne d4,hi4]
      refine tab_stmt r6 T6 ho6 ga gb gx in1 fun H5 r7 T7 sm7=>?_
      refine tab_stmt r7 T7 ho6 gb ga gx in2 fun H6 r8 T8 sm8=>?_
      refine ⟨Zg.trans sm (Zg.trans (ZH s4) (Zg.trans sm7 sm8)),_,_,r8,by show (((ρ2.set ja _).set jb _).set jx _).length=_;simp [hl4],ho6,gi,T8,hf⟩
    · have e:c=ds.length:=by omega
      subst e
      rw [List.drop_length] at hf
      cases hf
      refine .inl ⟨w.2 (Nat.le_refl _),?_⟩
      obtain ⟨t,cs,g1,g2,g3,g4,g5,g6,g7,g8⟩:=T4
      refine ⟨.ref t,g1,?_⟩
      refine q _ _ r4.same ?_
      have nO:∀ a∈(l::bs++O1),a∉O0:=fun a ha z=>by
        obtain ⟨o,e,_⟩:=r4.thB a z
        rw [r4.new a ha] at e;cases e
      refine ⟨t,cs.map V.ref,rfl,by rw [Zv (nO t g2)];exact g6,?_⟩
      have rows:∀ (ks:List Addr) (N:List (List Int)),(∀ b∈ks,b∈(l::bs++O1))->ks.length=N.length->(∀ (k:Nat) (b:Addr) (row:List Int),ks[k]?=some b->N[k]?=some row->H3 b=some (.lst (row.map V.int)))->Zs X.K (ZK O0 H3) (N.map fun r=>D.lst (r.map .int)) (ks.map V.ref):=by
        intro ks
        induction ks with
        | nil =>
          intro N _ hl _
          cases N with
          | nil=>rfl
          | cons _ _=>simp at hl
        | cons b ks ih =>
          intro N hm hl hr
          cases N with
          | nil=>simp at hl
          | cons row N =>
            refine ⟨_,_,rfl,⟨b,row.map V.int,rfl,by rw [Zv (nO b (hm b List.mem_cons_self))];exact hr 0 b row rfl rfl,WM row⟩,ih N (fun c hc=>hm c (List.mem_cons_of_mem _ hc)) (by simpa using hl) fun k c r hk hr'=>hr (k+1) c r (by simpa using hk) (by simpa using hr')⟩
      exact rows cs _ g3 g7 g8
end
end L2

namespace L2
open PySem PySem.Spec PyProof.Rows
section
variable {X:Cx}
theorem ZA {k m:Nat} {y:Str} {f:Addr} {fd:FuncData} {ps:List Str} {G:List D->Option D} {p pos:Pos} {e:Expr} {es:List Expr} {fa:FA} (o:Yv X.prog X.w X.K X.mg X.base y k ps G f fd) (hr:Wq m X.A) (ha:AV X (e::es) fa) (hle:k<=m:=by decide)
    (hg:Gl X y:=by rfl) (hdb:(y == ("__debug__":Str))=false:=by decide) (he:starEach (e::es) X.env=(false,eval e X.env)::starEach es X.env:=by rfl) (hpl:(backTo pos (starEach es X.env)).any (·.1)=false:=by rfl) :
    EV X (.Call (.Name y p) (e::es) [] pos) (fL G fa):=ev_call o.ok (hr.mono hle) o.mg o.kp o.bi ha hg hdb he hpl
end
end L2

namespace L2
open PySem PySem.Spec PyProof.Rows
def FH (K:PySem.W.Frag) (x:Str) (st:Stmt):Prop:=∃ f fd,PySem.W.nsIn K mainGlobals x=some (some (.ref f))/\Wr K x x st f fd
theorem fh {K:PySem.W.Frag} {x:Str} {st:Stmt} {f:Addr} {oc:Value} {od an:Option Addr} {osl:Array (Option Value)} {kV doc pm cdv ct:Value} (a:PySem.W.nsIn K mainGlobals x=some (some (.ref f)))
    (l:K.lookup f=some ⟨oc,od,.func (PySem.W.fnOf x x (VG st) (Wf st) (Zm st) .none kV doc pm an cdv ct),osl⟩) (c:PySem.W.codeIn K cdv x=true) (k:PySem.W.keepIn K (.ref f)=true):FH K x st:=⟨f,_,a,fun_mk l c k⟩
end L2

namespace L2
open PySem PySem.Spec PyProof.Rows
section
variable {X:Cx}
def Wd:D->D->Option D
  | x,.lst ds=>if (XY x && ds.all XY)=true then some (.bl (!inV (toV x) (ds.map toV))) else none
  | x,.tup ds=>if (XY x && ds.all XY)=true then some (.bl (!inV (toV x) (ds.map toV))) else none
  | _,_=>none
theorem opd_notinS:OpD X (compareOp .NotIn) Wd:=OpD.of op_notIn_seq fun x y H Q ⟨O,dx,dy,d,th,rx,ry,e,q⟩=>by
  unfold Wd at e
  split at e
  · rename_i ds
    split at e
    · rename_i hf
      rw [Bool.and_eq_true] at hf
      cases e
      obtain ⟨p,vs,rfl,hp,rp⟩:=ry
      obtain ⟨ev,fv⟩:=flat_rep hf.1 rx
      obtain ⟨evs,fvs⟩:=Vp hf.2 rp
      refine ⟨p,vs,rfl,.inl (Wa.of (Zh _ _ hp)),fv,fvs,?_⟩
      rw [ev,evs]
      exact q _ H (Zg.refl _) rfl
    · cases e
  · rename_i ds
    split at e
    · rename_i hf
      rw [Bool.and_eq_true] at hf
      cases e
      obtain ⟨p,vs,rfl,hp,rp⟩:=ry
      obtain ⟨ev,fv⟩:=flat_rep hf.1 rx
      obtain ⟨evs,fvs⟩:=Vp hf.2 rp
      refine ⟨p,vs,rfl,.inr (Wy.of (Zh _ _ hp)),fv,fvs,?_⟩
      rw [ev,evs]
      exact q _ H (Zg.refl _) rfl
    · cases e
  · cases e
def absD:List D->Option D
  | [.int i]=>some (.int (if i < 0 then -i else i))
  | _=>none
theorem cd_abs:Xy X (.builtin "abs") absD:=Xy.of call_abs fun xs H Q ⟨O,ds,d,th,rs,e,q⟩=>by
  unfold absD at e
  split at e
  · cases e
    obtain ⟨v,rfl,rv⟩:=reps1 rs
    rw [show v=_ from rv]
    exact ⟨_,rfl,q _ H (Zg.refl _) rfl⟩
  · cases e
end
end L2

namespace L2
open PySem PySem.Spec PyProof.Rows
section
variable {X:Cx}
end
end L2

namespace L2
open PySem PySem.Spec PyProof.Rows
section
variable {X:Cx}
end
end L2

namespace ZI
open PySem PyProof.Rows ZD
section
variable {prog:Program} {w:World} {A:Around} {E:Value->Shared->Prop} {s:Shared} {d it v:Addr} {es:Array DictEntry} {ep i:Nat} {k0 v0:Value}
end
end ZI

namespace L2
open PySem PySem.Spec PyProof.Rows
structure DOb (o:Obj) (es:Array DictEntry) (ep:Nat):Prop where
  ex:o.ExactDict
  da:o.data=.dict es ep
section
variable {X:Cx} {pins:List (Addr×Obj)} {σ:St} {H:Hp} {s:Shared} {a:Addr} {o:Obj} {kvs:List (List YW×V)} {es:Array DictEntry} {ep:Nat}
theorem ZE.frz (I:ZE X pins σ H s) (h:H a=some (.frz o (.dT kvs))):(a == sysModules)=false/\∃ es ep,DOb o es ep/\ZD.DictR s.heap a es ep:=by
  obtain ⟨g,_,hS,ys,_,o',es,ep,h1,h2,h3,_⟩:=(show YJ X.prog X.w H s.heap a (.frz o (.dT kvs)) from I.hok a _ h)
  rw [g] at h1
  cases h1
  exact ⟨hS,es,ep,⟨h2,h3⟩,o,g,h2,h3⟩
end
section
variable {X:Cx} {tg:Expr}
end
end L2

namespace L2
open PySem PySem.Spec PyProof.Rows
section
variable {X:Cx} {pins:List (Addr×Obj)} {σ:St} {H:Hp} {s:Shared} {a:Addr} {kvs:List (List YW×V)}
end
section
variable {X:Cx} {k v:Expr} {pos:Pos} {tk tv:TE}
end
end L2

namespace L2
open PySem PySem.Spec PyProof.Rows
theorem int_rmul_tup (a:Int) (t:Tok) (l:Addr) (items:Array Value) (n:Nat) (dd:Option Addr) (sl:Array (Option Value)) :
    Meets (Builtin.«int.__rmul__» ⟨[.int a t,.ref l],[]⟩) (fun _ R s=>s.heap.get? l=some { cls:=.type "tuple",dict:=dd,data:=.seq items n,slots:=sl }/\R (.ok (.ret Value.notImplemented)) s) :=
  .of_wp fun prog w A R s h=>by obtain ⟨hp,g,d,tk,os⟩:=s;obtain ⟨hl,h⟩:=h;wp_walk;exact ⟨_,rfl,h⟩
theorem tup_mul1 (l:Addr) (x:Value) (n:Nat) (dd:Option Addr) (sl:Array (Option Value)) (u:Tok) :
    Meets (Builtin.«tuple.__mul__» ⟨[.ref l,.int 1 u],[]⟩) (fun _ R s=>s.heap.get? l=some { cls:=.type "tuple",dict:=dd,data:=.seq #[x] n,slots:=sl }/\R (.ok (.ret (.ref l))) s) :=
  .of_wp fun prog w A R s h=>by obtain ⟨hp,g,d,tk,os⟩:=s;obtain ⟨hl,h⟩:=h;wp_walk;exact ⟨_,rfl,h⟩
theorem tup_mul0 (l:Addr) (x:Value) (n:Nat) (dd:Option Addr) (sl:Array (Option Value)) (k:Int) (u:Tok) (h0:¬ (decide (k < -(2 ^ 63)) || decide (k ≥ 2 ^ 63))=true) (h1:¬ ((#[x]:Array Value).isEmpty || k == 1)=true) (h2:(decide (k<=0) || (#[x]:Array Value).isEmpty)=true) :
    Meets (Builtin.«tuple.__mul__» ⟨[.ref l,.int k u],[]⟩) (fun _ R s=>s.heap.get? l=some { cls:=.type "tuple",dict:=dd,data:=.seq #[x] n,slots:=sl }/\R (.ok (.ret (.ref s.heap.objs.size))) { s with heap:=s.heap.push { cls:=.type "tuple",data:=.seq #[] } }) :=
  .of_wp fun prog w A R s h=>by obtain ⟨hp,g,d,tk,os⟩:=s;obtain ⟨hl,h⟩:=h;wp_walk;rw [if_neg h0];wp_walk;rw [if_neg h1];wp_walk;rw [if_pos h2];wp_walk;exact ⟨_,rfl,h⟩
theorem tup_mul2 (l:Addr) (x:Value) (n:Nat) (dd:Option Addr) (sl:Array (Option Value)) (k:Int) (u:Tok) (h0:¬ (decide (k < -(2 ^ 63)) || decide (k ≥ 2 ^ 63))=true) (h1:¬ ((#[x]:Array Value).isEmpty || k == 1)=true)
    (h2:¬ (decide (k<=0) || (#[x]:Array Value).isEmpty)=true) (h3:¬ ((#[x]:Array Value).size:Int) * k > (2 ^ 63 - 1) / 8) (h4:¬ Builtin.Tuple.tupleTooMany (((#[x]:Array Value).size:Int) * k)=true)
    (h5:¬ ((List.replicate k.toNat #[x]).foldl (·++·) #[]).size > sizeLine) :
    Meets (Builtin.«tuple.__mul__» ⟨[.ref l,.int k u],[]⟩) (fun _ R s=>s.heap.get? l=some { cls:=.type "tuple",dict:=dd,data:=.seq #[x] n,slots:=sl }/\R (.ok (.ret (.ref s.heap.objs.size))) { s with heap:=s.heap.push { cls:=.type "tuple",data:=.seq ((List.replicate k.toNat #[x]).foldl (·++·) #[]) } }) :=
  .of_wp fun prog w A R s h=>by obtain ⟨hp,g,d,tk,os⟩:=s;obtain ⟨hl,h⟩:=h;wp_walk;rw [if_neg h0];wp_walk;rw [if_neg h1];wp_walk;rw [if_neg h2];wp_walk;rw [if_neg h3];wp_walk;rw [if_neg h4];wp_walk;exact ⟨_,rfl,h⟩
theorem noFill_tup_mul:fillsNumberSlot (.type "tuple") "mul"=pure false :=
  PySem.fillsNumberSlot_seq (id:="tuple.__mul__") (r:=some (.builtin "tuple.__rmul__")) F.slot_tuple_mul.lookup (by decide +kernel) F.slot_tuple_rmul.lookup (by decide +kernel)
theorem rep_tup:seqRepeat? (.type "tuple")=pure (some (.builtin "tuple.__mul__")):=by
  unfold seqRepeat?
  rw [PySem.seqSlot_of (T:="tuple") (name:="__mul__") (id:="tuple.__mul__") F.slot_tuple_mul.lookup (by decide +kernel),PySem.seqSlot_of (T:="tuple") (name:="__rmul__") (id:="tuple.__rmul__") F.slot_tuple_rmul.lookup (by decide +kernel)]
  rfl
section
variable {X:Cx}
def rRepT:R2:=fun x y H Q=>∃ l k a,x=.ref l/\y=.int k/\H l=some (.tup [a])/\-65536<=k/\k<=65536/\(k=1->Q (.ref l) H)/\(k≠1->∀ p,H p=none->Q (.ref p) (YV H p (.tup (List.replicate k.toNat a))))
theorem op_repT:OpR X (binaryOp .Mult) rRepT:=by
  intro pins s σ H x y v u Q I rx ry h
  obtain ⟨l,k,a,rfl,rfl,hH,h1,h2,q1,q2⟩:=h
  cases rx
  obtain ⟨t,rfl⟩:=ry
  obtain ⟨_,its,r,⟨o,g1,g2,n,g3⟩⟩:=(show YJ X.prog X.w H s.heap l (.tup [a]) from I.hok l _ hH)
  obtain ⟨av,rfl,ra⟩:=Vd r
  obtain ⟨oc,od,odt,osl⟩:=o
  simp only at g2 g3
  subst g2 g3
  have f0:¬ (decide (k < -(2 ^ 63)) || decide (k ≥ 2 ^ 63))=true:=by simp only [Bool.or_eq_true,decide_eq_true_eq];omega
  have ty:s.TypeIs (.ref l) "tuple":=⟨_,g1,rfl⟩
  have lay:∀ vs us,ZQ vs us->vs.length<=sizeLine->ZE X pins σ (YV H s.heap.objs.size (.tup vs)) { s with heap:=s.heap.push { cls:=.type "tuple",data:=.seq us.toArray } }:=fun vs us rv hl =>
    I.laid (a:=s.heap.objs.size) (o:=.tup vs) (t':=s.toks) (fun _ _ q=>Heap.get?_push_of_some _ q) (Nat.le_refl _) ⟨hl,us,rv,_,Heap.get?_push_size _ rfl,rfl,0,rfl⟩
  refine wpAny_binaryOp_repeat_ref (T:="tuple") (U:="int") (by decide) ty (fun s'=>typeIs_int s' k t) noFill_tup_mul F.fills_int_mul F.slot_int_rmul rep_tup F.slot_int_index.lookup
    (call_meets F.slot_int_rmul (typeIs_int s k t) F.entry_int_rmul (F.args_int_rmul_2 _ _) (int_rmul_tup k t l _ n od osl) ⟨g1,rfl,ty,?_⟩)
  by_cases k1:k=1
  · subst k1
    exact call_meets F.slot_tuple_mul ty F.entry_tuple_mul (F.args_tuple_mul_2 _ _) (tup_mul1 l av n od osl t) ⟨g1,⟨.ref l,H,I,rfl,q1 rfl⟩⟩
  · have f1:¬ ((#[av]:Array Value).isEmpty || k == 1)=true:=by simpa using k1
    by_cases k0:k<=0
    · refine call_meets F.slot_tuple_mul ty F.entry_tuple_mul (F.args_tuple_mul_2 _ _) (tup_mul0 l av n od osl k t f0 f1 (by simp [k0])) ⟨g1,⟨.ref _,_,lay [] [] .nil (Nat.zero_le _),rfl,?_⟩⟩
      have:=q2 k1 _ (I.hok.fresh (Nat.le_refl s.heap.objs.size))
      rw [show k.toNat=0 by omega] at this
      exact this
    · have hs:sizeLine=16777216:=sizeLine_eq
      have hf:∀ m:Nat,List.foldl (fun x1 x2=>x1++x2) #[] (List.replicate m (#[av]:Array Value))=(List.replicate m av).toArray:=fun m=>by
        have:=foldl_rep [av] m []
        rw [List.nil_append] at this
        refine this.trans ?_
        have e:∀ m:Nat,(List.replicate m [av]).flatten=List.replicate m av:=fun m=>by
          induction m with
          | zero=>rfl
          | succ m ih=>rw [List.replicate_succ,List.flatten_cons,ih];rfl
        rw [e]
      have rv:∀ m:Nat,ZQ (List.replicate m a) (List.replicate m av):=fun m=>by
        induction m with
        | zero=>exact .nil
        | succ m ih=>exact .cons ra ih
      refine call_meets F.slot_tuple_mul ty F.entry_tuple_mul (F.args_tuple_mul_2 _ _) (tup_mul2 l av n od osl k t f0 f1 (by simp;omega) ?_ ?_ ?_) ⟨g1,?_⟩
      · show ¬ ((1:Nat):Int) * k > (2 ^ 63 - 1) / 8
        omega
      · unfold Builtin.Tuple.tupleTooMany
        simp only [decide_eq_true_eq]
        show ¬ ((1:Nat):Int) * k > (sizeLine:Int)
        rw [hs];omega
      · rw [hf,List.size_toArray,List.length_replicate,hs];omega
      · rw [hf]
        exact ⟨.ref _,_,lay _ _ (rv k.toNat) (by rw [List.length_replicate,hs];omega),rfl,q2 k1 _ (I.hok.fresh (Nat.le_refl _))⟩
def mulTD:D->D->Option D
  | .tup [a],.int k=>if -65536<=k/\k<=65536 then some (.tup (List.replicate k.toNat a)) else none
  | _,_=>none
theorem opd_mulT:OpD X (binaryOp .Mult) mulTD:=OpD.of op_repT fun x y H Q h=>by
  obtain ⟨O,dx,dy,d,th,rx,ry,e,q⟩:=h
  unfold mulTD at e
  split at e
  · rename_i a k
    split at e
    · rename_i hl
      cases e
      obtain ⟨p,vs,rfl,hp,rp⟩:=rx
      obtain ⟨v,rfl,rv⟩:=reps1 rp
      refine ⟨p,k,v,rfl,ry,Zh _ _ hp,hl.1,hl.2,fun k1=>?_,fun _ r hr=>?_⟩
      · subst k1
        exact q _ H (Zg.refl _) ⟨p,_,rfl,hp,Zs.one rv⟩
      · refine q _ _ (Zg.new hr) (Y5 th hr ?_)
        have:∀ m:Nat,Zs X.K (ZK O H) (List.replicate m a) (List.replicate m v):=fun m=>by
          induction m with
          | zero=>rfl
          | succ m ih=>exact ⟨_,_,rfl,rv,ih⟩
        exact this _
    · cases e
  · cases e
theorem tup_add0 (l b:Addr) (items2:Array Value) (n n2:Nat) (dd dd2:Option Addr) (sl sl2:Array (Option Value)) :
    Meets (Builtin.«tuple.__add__» ⟨[.ref l,.ref b],[]⟩) (fun _ R s=>s.heap.get? l=some { cls:=.type "tuple",dict:=dd,data:=.seq #[] n,slots:=sl } /\
      s.heap.get? b=some { cls:=.type "tuple",dict:=dd2,data:=.seq items2 n2,slots:=sl2 }/\R (.ok (.ret (.ref b))) s) :=
  .of_wp fun prog w A R s h=>by obtain ⟨hp,g,d,tk,os⟩:=s;obtain ⟨hl,hb,h⟩:=h;have f2:=AutoSeq1.sub_tuple_tuple;wp_walk using AutoSeq1.wpAny_loadPart' hl,AutoSeq1.wpAny_loadPart' hb;exact ⟨_,rfl,h⟩
theorem op_cat0:OpR X (binaryOp .Add) (fun x y H Q=>∃ a b ys,x=.ref a/\y=.ref b/\H a=some (.tup [])/\H b=some (.tup ys)/\Q (.ref b) H):=by
  intro pins s σ H x y v u Q I rx ry h
  obtain ⟨a,b,ys,rfl,rfl,ha,hb,q⟩:=h
  cases rx
  cases ry
  obtain ⟨_,its,r1,p1⟩:=(show YJ X.prog X.w H s.heap a (.tup []) from I.hok a _ ha)
  obtain ⟨_,its2,r2,p2⟩:=(show YJ X.prog X.w H s.heap b (.tup ys) from I.hok b _ hb)
  cases r1
  obtain ⟨⟨cls,dd,data,sl⟩,ho,hc,n,hd⟩:=id p1
  obtain ⟨⟨cls2,dd2,data2,sl2⟩,ho2,hc2,n2,hd2⟩:=id p2
  simp only at hc hd hc2 hd2
  subst hc hd hc2 hd2
  exact concat_meets ⟨_,ho,rfl⟩ ⟨_,ho2,rfl⟩ noFill_tuple_add seq_tuple_add PySem.F.slot_tuple_add PySem.F.entry_tuple_add (PySem.F.args_tuple_add_2 _ _) (tup_add0 a b its2.toArray n n2 dd dd2 sl sl2) ⟨ho,ho2,.ref b,H,I,rfl,q⟩
def addTD:D->D->Option D
  | .tup a,.tup b=>if a.length+b.length<=Xi then some (.tup (a++b)) else none
  | _,_=>none
theorem opd_addT:OpD X (binaryOp .Add) addTD:=OpD.of (OpR.or op_catT op_cat0) fun x y H Q h=>by
  obtain ⟨O,dx,dy,d,th,rx,ry,e,q⟩:=h
  unfold addTD at e
  split at e
  · rename_i a b
    split at e
    · rename_i hl
      cases e
      obtain ⟨p,vs,rfl,hp,rp⟩:=rx
      obtain ⟨p2,us,rfl,hp2,rp2⟩:=ry
      have l1:=rp.length
      have l2:=rp2.length
      cases a with
      | nil =>
        have:vs=[]:=rp
        subst this
        exact .inr ⟨p,p2,us,rfl,rfl,Zh _ _ hp,Zh _ _ hp2,q _ H (Zg.refl _) ⟨p2,us,rfl,hp2,rp2⟩⟩
      | cons a0 a =>
        refine .inl ⟨p,p2,vs,us,rfl,rfl,Wy.of (Zh _ _ hp),Wy.of (Zh _ _ hp2),fun z=>?_,?_,fun z=>?_,fun _ r hr=>?_⟩
        · rw [z] at l1;cases l1
        · have:=XA hl;omega
        · subst z
          have:b=[]:=List.eq_nil_of_length_eq_zero (by rw [<- l2];rfl)
          subst this
          rw [List.append_nil] at q
          exact q _ H (Zg.refl _) ⟨p,vs,rfl,hp,rp⟩
        · exact q _ _ (Zg.new hr) (Y5 th hr (rp.append rp2))
    · cases e
  · cases e
end
end L2

namespace L2
open PySem PySem.Spec PyProof.Rows
section
variable {X:Cx}
end
end L2

namespace L2
open PySem PySem.Spec PyProof.Rows
section
variable {X:Cx} {scope:Scope} {elt tg iter:Expr} {ifs:List Expr} {pos:Pos} {fi:FA} {t:FG} {gt:FT} {fe:FE}
end
end L2

namespace L2
open PySem PySem.Spec PyProof.Rows
section
variable {X:Cx} {pos:Pos}
def sExt (i:Nat) (fv:FE):FS:=fun ρ=>match ρ[i]?,fv (Z6 ρ) with
  | some (some (.own (.lst ds))),some (.lst es)=>if imms es=true/\ds.length+es.length<=Xi then .nx (ρ.set i (some (.own (.lst (ds++es))))) else .bad
  | _,_=>.bad
theorem ext_pe {i:Nat} {x:Str} {e:Expr} {fv:FE} {p1 p2 p3:Pos} (he:EV X e fv) (hN:X.N[i]?=some x:=by rfl) (hv:Vis X.env.scope x:=by first | exact Or.inl rfl | exact Or.inr (Or.inl rfl) | exact Or.inr (Or.inr rfl))
    (hd:(x == ("__debug__":Str))=false:=by decide) (hcd:(x == ("__classdict__":Str))=false:=by decide)
    (hbase:attributeBase (.Name x p1) "extend" X.env (eval (.Name x p1) X.env)=eval (.Name x p1) X.env:=by rfl)
    (hfew:((backTo p3 (starEach [e] X.env)).all (fun x=>!x.1) && (backToKw p3 (keywordEach [] X.env)).all (fun x=>x.1.isSome)
      && decide (([e]:List Expr).length+([]:List Keyword).length+(if ([]:List Keyword).isEmpty then 0 else 1) < 30))=true:=by rfl)
    (hline:(p2.endLine == p3.line)=true:=by rfl) (hs:starEach [e] X.env=(false,eval e X.env)::starEach [] X.env:=by rfl) (hplain:(backTo p3 (starEach [] X.env)).any (·.1)=false:=by rfl) :
    PE X (.Call (.Attribute (.Name x p1) "extend" p2) [e] [] p3) (tBM X.K "list" rExtend (tVar i) (tCons (tD X.K fv) tNil)) :=
  pe_bm PySem.F.plainAttrs_list PySem.F.slot_list_extend PySem.F.type_list_extend mt_extend (pe_var hN hv hd hcd) (WE he pa_nil hs) hbase hfew hline hs hplain
theorem sv_ext {i:Nat} {x:Str} {e:Expr} {fv:FE} {p1 p2 p3:Pos} (he:EV X e fv)
    (h1:PE X (.Call (.Attribute (.Name x p1) "extend" p2) [e] [] p3) (tBM X.K "list" rExtend (tVar i) (tCons (tD X.K fv) tNil))) (hs:swapsWith (.Call (.Attribute (.Name x p1) "extend" p2) [e] [] p3) none pos.line X.env=pure false:=by rfl) :
    SV X (.Expr (.Call (.Attribute (.Name x p1) "extend" p2) [e] [] p3) pos) (sExt i fv):=PS.imp (ps_expr h1 hs) fun E σ H h=>by
  obtain ⟨B,O0,O1,ρ,r,q⟩:=h
  unfold sExt at q
  split at q
  · rename_i ds es hi e1
    split at q
    · rename_i hm
      obtain ⟨a,ha',hO,vs,hv',rs⟩:=r.owns i _ hi
      refine ⟨.ref a,ha',.inl ⟨rfl,vs,Wa.of hv'⟩,O0,Z6 ρ,_,r.all,e1,fun v H1 s1 rv1=>?_⟩
      obtain ⟨b,zs,rfl,hb,rb⟩:=rv1
      have r1:=r.mono s1
      have hv1:H1 a=some (.lst vs):=s1 _ _ hv'
      have l1:=rs.length
      have l2:=rb.length
      refine ⟨a,b,vs,zs,rfl,rfl,hv1,Zh _ _ hb,by have:=XA hm.2;omega,?_⟩
      have rd:Zs X.K (ZK (O0++O1) H1) es zs:=reps_imm r1.th es zs hm.1 rb
      have em:ZK (O0++O1) (YV H1 a (.lst (vs++zs)))=ZK (O0++O1) H1:=by
        funext c
        by_cases hc:c∈O0++O1
        · rw [Ye hc,Ye hc]
        · rw [Zv hc,Zv hc,ZG (fun z=>hc (by rw [z];exact List.mem_append_right _ hO))]
      refine q _ _ O1 (r1.write (d':=.lst (ds++es)) hi ha' trivial ⟨vs++zs,Z1,?_⟩)
      rw [em]
      exact Zs.append (Zs.mono (ZH s1) ds vs rs) rd
    · exact q.elim
  · exact q.elim
end
end L2

namespace L2
open PySem PySem.Spec PyProof.Rows
structure Fly (P:Program) (w:World) (base:Heap) (outer:List Env) (H:Hp) (s:Shared) (H':Hp) (a:Addr) (cls a0:Value) (B:Heap) (s':Shared):Prop where
  fl:Heap.FlyingW B outer a cls a0 s'.heap
  bB:base.StaysIn B
  os:s'.os=s.os
  bare:AllBare s'.gens
  cov:∀ b o,s.heap.get? b=some o->H b=none->b∉frs outer->B.get? b=some o
  slot:∀ b o,s.heap.get? b=some o->b∈frs outer->∃ sl,s'.heap.get? b=some { o with slots:=sl }
  free:∀ b o,s.heap.get? b=some o->H b=none->H' b=none
  trk:∀ b o,s.heap.get? b=some o->b∉frs outer->∃ o',B.get? b=some o'
  tups:∀ b xs,H b=some (.tup xs)->H' b=some (.tup xs)
  frzs:∀ b o u,H b=some (.frz o u)->H' b=some (.frz o u)
  tbls:∀ b ps,H b=some (.tbl ps)->∃ more,H' b=some (.tbl (ps++more))
  hok:HOk P w H' B
theorem Fly.un {P:Program} {w:World} {base:Heap} {outer:List Env} {H H':Hp} {s s':Shared} {a:Addr} {cls a0:Value} {B:Heap} (f:Fly P w base outer H s H' a cls a0 B s'):Un (frs outer) [] H H' s.heap s'.heap where
  keep:=fun b o e n hb _=>f.fl.1 b o (f.cov b o e n hb)
  slot:=fun b o e _ hb _=>f.slot b o e hb
  free:=fun b o e n _=>f.free b o e n
  there:=fun b o e _=>by
    by_cases hb:b∈frs outer
    · obtain ⟨sl,e'⟩:=f.slot b o e hb
      exact ⟨_,e'⟩
    · obtain ⟨o',e'⟩:=f.trk b o e hb
      exact ⟨o',f.fl.1 b o' e'⟩
  tups:=f.tups
  frzs:=f.frzs
  tbls:=f.tbls
def CX1 (P:Program) (w:World) (base:Heap):CXT:=fun outer H s E e s'=>∃ a cls a0 B H',e=.ref a/\Fly P w base outer H s H' a cls a0 B s'/\E cls none H'
structure XL (X:Cx) (E:XK):Prop where
  xe:X.xe=fun e s'=>wpAny (model X.prog X.w) X.A (leaving X.env e) (fun _ s''=>CX1 X.prog X.w X.base X.outer X.H₀ X.s₀ E e s'') (fun e' s''=>CX1 X.prog X.w X.base X.outer X.H₀ X.s₀ E e' s'') s'
  stk:X.stack=X.env::X.outer
  fr:X.env.frame=some X.env.locals
  ex:X.ex=[]
section
variable {X:Cx} {E:XK} {pins:List (Addr×Obj)} {σ:St} {H:Hp} {s:Shared}
end
end L2

namespace L2
open PySem PySem.Spec PyProof.Rows
abbrev bmVE:List Value:=[.type "ValueError",.type "Exception",.type "BaseException",.type "object"]
def subIn (K:PySem.W.Frag) (C:Addr) (v:Value):Bool:=match K.lookup C with
  | some ⟨_,_,.cls cd,_⟩=>cd.mro.contains v
  | _=>false
structure OX (K:PySem.W.Frag) (mg:Str->Option Value) (x:Str) (C:Addr):Prop where
  mg:mg x=some (.ref C)
  exc:PySem.W.excIn K C bmVE "ValueError.__new__"=true
theorem OX.obj {K:PySem.W.Frag} {mg:Str->Option Value} {x:Str} {C:Addr} (o:OX K mg x C) {h:Heap} (X:K.In h) :
    ∃ bm N nm q bs hdct sn sub ab col dd k0 k1 k2 k3 k5 mN,h.get? C=some (excClassObj nm q C N bs bm hdct sn sub ab col dd k0 k1 k2 k3 k5 "ValueError.__new__")/\h.Ns N mN/\mN "__init__"=none/\OwnTail h bmVE bm/\∀ v,subIn K C v=(Value.ref C::bm).contains v:=by
  have q:=o.exc
  unfold PySem.W.excIn at q
  split at q
  · rename_i dd cd sl ho
    split at q
    · rename_i C' bm k0 k1 k2 k3 n k5 hm hs
      simp only [Bool.and_eq_true,beq_iff_eq,Bool.not_eq_true'] at q
      obtain ⟨⟨⟨⟨⟨rfl,rfl⟩,hdel⟩,ht⟩,hok⟩,hni⟩:=q
      have hsub:∀ v,subIn K C' v=(Value.ref C'::bm).contains v:=fun v=>by
        unfold subIn;rw [ho];simp only [hm]
      obtain ⟨nm,bs,mro,ns,qn,hd,sn,sub,ab,col,del⟩:=cd
      dsimp only at hm hdel hok hni
      subst hm hdel
      have hsl:sl=#[k0,k1,k2,k3,some (.builtin "ValueError.__new__"),k5]:=by
        obtain ⟨l⟩:=sl
        simp only at hs
        rw [hs]
      subst hsl
      exact ⟨bm,ns,nm,qn,bs,hd,sn,sub,ab,col,dd,k0,k1,k2,k3,k5,_,X _ _ ho,.of_isNs (PySem.W.isNs_of_in X hok),PySem.W.nsMap_none_of_in X hok hni,PySem.W.tail_of_in X ht,hsub⟩
    · cases q
  · cases q
abbrev FX:=Y1->Option Str
section
variable {X:Cx} {ad:Str->Addr} {E:XK} {st:Stmt} {XX:List Stmt} {pos:Pos} {F G:FX}
def spX (K:PySem.W.Frag) (ad:Str->Addr) (G:List D->Option Str):Sp:=fun vs H _ E=>∃ O ds c,YR O H/\Zs K (ZK O H) ds vs/\G ds=some c/\∀ H',Zg H H'->E (.ref (ad c)) none H'
structure DefX (P:Program) (w:World) (K:PySem.W.Frag) (mg:Str->Option Value) (base:Heap) (ad:Str->Addr) (x:Str) (k:Nat) (ps:List Str) (G:List D->Option Str) (f:Addr) (fd:FuncData):Prop where
  ok:VH P w K mg base (CX1 P w base) k f fd ps (spX K ad G)
  mg:mg x=some (.ref f)
  kp:PySem.W.keepIn K (.ref f)=true
  bi:Binds K fd ps []
end
end L2

namespace L2
open PySem PySem.Spec PyProof.Rows
section
variable {X:Cx} {pos:Pos}
end
end L2

namespace L2
open PySem PySem.Spec PyProof.Rows
section
variable {X:Cx} {pos:Pos}
def revD:D->Option D
  | .lst ds=>some (.lst ds.reverse)
  | _=>none
def sFix (j:Nat) (F:FS):FS:=fun ρ=>match ρ[j]? with
  | some (some (.own (.lst ds)))=>F (ρ.set j (some (.val (.lst ds))))
  | _=>.bad
def sExtV (i:Nat) (fv:FE):FS:=fun ρ=>match ρ[i]?,fv (Z0 ρ) with
  | some (some (.own (.lst ds))),some (.lst es)=>if ds.length+es.length<=Xi then .nx (ρ.set i (some (.own (.lst (ds++es))))) else .bad
  | _,_=>.bad
theorem sv_extV {i:Nat} {x:Str} {e:Expr} {fv:FE} {p1 p2 p3:Pos} (he:EV X e fv)
    (h1:PE X (.Call (.Attribute (.Name x p1) "extend" p2) [e] [] p3) (tBM X.K "list" rExtend (tVar i) (tCons (tD X.K fv) tNil))) (hs:swapsWith (.Call (.Attribute (.Name x p1) "extend" p2) [e] [] p3) none pos.line X.env=pure false:=by rfl) :
    SV X (.Expr (.Call (.Attribute (.Name x p1) "extend" p2) [e] [] p3) pos) (sExtV i fv):=PS.imp (ps_expr h1 hs) fun E σ H h=>by
  obtain ⟨B,O0,O1,ρ,r,q⟩:=h
  unfold sExtV at q
  split at q
  · rename_i ds es hi e1
    split at q
    · rename_i hm
      obtain ⟨a,ha',hO,vs,hv',rs⟩:=r.owns i _ hi
      refine ⟨.ref a,ha',.inl ⟨rfl,vs,Wa.of hv'⟩,O0++O1,Z0 ρ,_,r.val,e1,fun v H1 s1 rv1=>?_⟩
      obtain ⟨b,zs,rfl,hb,rb⟩:=rv1
      have r1:=r.mono s1
      have hv1:H1 a=some (.lst vs):=s1 _ _ hv'
      have l1:=rs.length
      have l2:=rb.length
      refine ⟨a,b,vs,zs,rfl,rfl,hv1,Zh _ _ hb,by have:=XA hm;omega,?_⟩
      have em:ZK (O0++O1) (YV H1 a (.lst (vs++zs)))=ZK (O0++O1) H1:=by
        funext c
        by_cases hc:c∈O0++O1
        · rw [Ye hc,Ye hc]
        · rw [Zv hc,Zv hc,ZG (fun z=>hc (by rw [z];exact List.mem_append_right _ hO))]
      refine q _ _ O1 (r1.write (d':=.lst (ds++es)) hi ha' trivial ⟨vs++zs,Z1,?_⟩)
      rw [em]
      exact Zs.append (Zs.mono (ZH s1) ds vs rs) rb
    · exact q.elim
  · exact q.elim
end
end L2

namespace M
def noCol (p:Nat) (rows:List (List Int)):List (List Int):=rows.map fun r=>r.take p++r.drop (p+1)
def withCol (p:Nat) (rows:List (List Int)) (col:List Int):List (List Int):=(rows.zip col).map fun x=>x.1.take p++[x.2]++x.1.drop (p+1)
mutual
def detN:Nat->List (List Int)->Int
  | 0,_=>1
  | _+1,[]=>1
  | k+1,r::rs=>detRow k rs r 0 1
def detRow:Nat->List (List Int)->List Int->Nat->Int->Int
  | _,_,[],_,_=>0
  | k,rs,x::r,p,sg=>sg * x * detN k (noCol p rs)+detRow k rs r (p+1) (-sg)
end
def det (rows:List (List Int)):Int:=detN rows.length rows
def D2 (a b c d:Int):Int:=a * d - b * c
def D3 (a b c d e f g h i:Int):Int:=a * D2 e f h i - b * D2 d f g i+c * D2 d e g h
def D4 (a b c d e f g h i j k l m n o p:Int):Int:=a * D3 f g h j k l n o p - b * D3 e g h i k l m o p+c * D3 e f h i j l m n p - d * D3 e f g i j k m n o
theorem det0:det []=1:=by simp [det,detN]
theorem det1 (a:Int):det [[a]]=a:=by simp [det,detN,detRow]
theorem det2 (a b c d:Int):det [[a,b],[c,d]]=D2 a b c d:=by simp [det,detN,detRow,noCol,D2];grind
theorem det3 (a b c d e f g h i:Int):det [[a,b,c],[d,e,f],[g,h,i]]=D3 a b c d e f g h i:=by simp [det,detN,detRow,noCol,D2,D3];grind
theorem det4 (a b c d e f g h i j k l m n o p:Int):det [[a,b,c,d],[e,f,g,h],[i,j,k,l],[m,n,o,p]]=D4 a b c d e f g h i j k l m n o p:=by
  have h3:=det3
  simp [det,detN,detRow,noCol,D2,D3,D4] at h3 ⊢;grind
theorem cra2 (a b c d u v:Int):a * D2 u b v d+b * D2 a u c v=D2 a b c d * u/\c * D2 u b v d+d * D2 a u c v=D2 a b c d * v:=by
  unfold D2;constructor <;> grind
theorem cra3 (a b c d e f g h i u v w:Int) :
    a * D3 u b c v e f w h i+b * D3 a u c d v f g w i+c * D3 a b u d e v g h w=D3 a b c d e f g h i * u /\
    d * D3 u b c v e f w h i+e * D3 a u c d v f g w i+f * D3 a b u d e v g h w=D3 a b c d e f g h i * v /\
    g * D3 u b c v e f w h i+h * D3 a u c d v f g w i+i * D3 a b u d e v g h w=D3 a b c d e f g h i * w:=by
  unfold D3 D2;refine ⟨?_,?_,?_⟩ <;> grind
theorem cra4_1 (a b c d e f g h i j k l m n o p u v w x:Int) :
    a * D4 u b c d v f g h w j k l x n o p+b * D4 a u c d e v g h i w k l m x o p+c * D4 a b u d e f v h i j w l m n x p+d * D4 a b c u e f g v i j k w m n o x=D4 a b c d e f g h i j k l m n o p * u:=by
  unfold D4 D3 D2;grind
theorem cra4_2 (a b c d e f g h i j k l m n o p u v w x:Int) :
    e * D4 u b c d v f g h w j k l x n o p+f * D4 a u c d e v g h i w k l m x o p+g * D4 a b u d e f v h i j w l m n x p+h * D4 a b c u e f g v i j k w m n o x=D4 a b c d e f g h i j k l m n o p * v:=by
  unfold D4 D3 D2;grind
theorem cra4_3 (a b c d e f g h i j k l m n o p u v w x:Int) :
    i * D4 u b c d v f g h w j k l x n o p+j * D4 a u c d e v g h i w k l m x o p+k * D4 a b u d e f v h i j w l m n x p+l * D4 a b c u e f g v i j k w m n o x=D4 a b c d e f g h i j k l m n o p * w:=by
  unfold D4 D3 D2;grind
theorem cra4_4 (a b c d e f g h i j k l m n o p u v w x:Int) :
    m * D4 u b c d v f g h w j k l x n o p+n * D4 a u c d e v g h i w k l m x o p+o * D4 a b u d e f v h i j w l m n x p+p * D4 a b c u e f g v i j k w m n o x=D4 a b c d e f g h i j k l m n o p * x:=by
  unfold D4 D3 D2;grind
mutual
def T (L:Nat->Nat->Int):Nat->List Nat->(Nat->Int)->Int
  | 0,_,_=>1
  | m+1,vs,s=>Trow L m [] vs s
def Trow (L:Nat->Nat->Int):Nat->List Nat->List Nat->(Nat->Int)->Int
  | _,_,[],_=>0
  | m,pre,v::post,s=>s v * T L m (pre++post) (fun i=>(if i∈pre then 0 else s i)+L v i)+Trow L m (pre++[v]) post s
end
section
variable {L:Nat->Nat->Int} (nn:∀ i j,0<=L i j)
include nn
mutual
theorem T_nonneg:∀ (m:Nat) (vs:List Nat) (s:Nat->Int),(∀ i,0<=s i)->0<=T L m vs s
  | 0,_,_,_=>by simp [T]
  | m+1,vs,s,h=>by unfold T;exact Trow_nonneg m [] vs s h
theorem Trow_nonneg:∀ (m:Nat) (pre post:List Nat) (s:Nat->Int),(∀ i,0<=s i)->0<=Trow L m pre post s
  | _,_,[],_,_=>by simp [Trow]
  | m,pre,v::post,s,h=>by
    unfold Trow
    have a:=T_nonneg m (pre++post) (fun i=>(if i∈pre then 0 else s i)+L v i) fun i=>by
      have:=nn v i;have:=h i
      split <;> omega
    have b:=Trow_nonneg m (pre++[v]) post s h
    have c:=Int.mul_nonneg (h v) a
    omega
end
def Cut (L:Nat->Nat->Int) (vs:List Nat) (s:Nat->Int):Prop:=∀ A:Nat->Bool,(∃ i,i∈vs/\A i=true)->∃ i,i∈vs/\A i=true/\(0 < s i\/∃ j,j∈vs/\A j=false/\0 < L i j)
theorem Trow_pos {m:Nat} {s:Nat->Int} (hs:∀ i,0<=s i) (ih:∀ (vs:List Nat) (s:Nat->Int),vs.length=m->vs.Nodup->(∀ i,0<=s i)->(∀ i j,i∈vs->j∈vs->L i j=L j i)->Cut L vs s->0 < T L m vs s) :
    ∀ (post pre:List Nat),(pre++post).length=m+1->(pre++post).Nodup->(∀ i j,i∈pre++post->j∈pre++post->L i j=L j i)->Cut L (pre++post) s->(∀ i∈pre,s i=0)->0 < Trow L m pre post s
  | [],pre,hl,nd,sy,hc,hz=>by
    exfalso
    have hp:0 < pre.length:=by simp at hl;omega
    obtain ⟨x,hx⟩:=List.exists_mem_of_length_pos hp
    obtain ⟨i,hi,ai,h | ⟨j,hj,aj,_⟩⟩:=hc (fun _=>true) ⟨x,by simp [hx],rfl⟩
    · have:=hz i (by simpa using hi);omega
    · cases aj
  | v::post,pre,hl,nd,sy,hc,hz=>by
    unfold Trow
    by_cases hv:0 < s v
    · have a:=ih (pre++post) (fun i=>(if i∈pre then 0 else s i)+L v i) (by simp at hl ⊢;omega) (nd.sublist (by simp)) (fun i=>by
        have:=nn v i;have:=hs i
        split <;> omega) (fun i j hi hj=>sy i j (by simp at hi ⊢;rcases hi with z | z <;> simp [z]) (by simp at hj ⊢;rcases hj with z | z <;> simp [z])) (fun A ⟨x,hx,ax⟩=>by
          have hvn:v∉pre++post:=fun z=>by
            have:=(List.nodup_append.mp nd).2.2
            have n2:=(List.nodup_cons.mp (List.nodup_append.mp nd).2.1).1
            rcases List.mem_append.mp z with w | w
            · exact this v w v List.mem_cons_self rfl
            · exact n2 w
          have back:∀ {y:Nat},y∈pre++v::post->y≠v->y∈pre++post:=fun {y} hy hne=>by
            simp at hy ⊢
            rcases hy with z | z | z
            · exact .inl z
            · exact absurd z hne
            · exact .inr z
          obtain ⟨i,hi,ai,h⟩:=hc (fun y=>A y && decide (y≠v)) ⟨x,by simp at hx ⊢;rcases hx with z | z <;> simp [z],by simp [ax];exact fun z=>hvn (z ▸ hx)⟩
          simp only [Bool.and_eq_true,decide_eq_true_eq] at ai
          refine ⟨i,back hi ai.2,ai.1,?_⟩
          rcases h with h | ⟨j,hj,aj,hlt⟩
          · left
            have:=nn v i
            show 0 < (if i∈pre then 0 else s i)+L v i
            by_cases hip:i∈pre
            · have:=hz i hip;omega
            · rw [if_neg hip];omega
          · by_cases ej:j=v
            · left
              subst ej
              have:L j i=L i j:=sy j i hj hi
              have:=hs i
              show 0 < (if i∈pre then 0 else s i)+L j i
              split <;> omega
            · exact .inr ⟨j,back hj ej,by simpa [ej] using aj,hlt⟩)
      have b:=Trow_nonneg nn m (pre++[v]) post s hs
      have c:=Int.mul_pos hv a
      omega
    · have hv0:s v=0:=by have:=hs v;omega
      have b:=Trow_pos hs ih post (pre++[v]) (by simpa using hl) (by simpa using nd) (by simpa using sy) (by simpa using hc) fun i hi=>by
        rcases List.mem_append.mp hi with z | z
        · exact hz i z
        · simp at z;subst z;exact hv0
      rw [hv0]
      omega
theorem T_pos:∀ (m:Nat) (vs:List Nat) (s:Nat->Int),vs.length=m->vs.Nodup->(∀ i,0<=s i)->(∀ i j,i∈vs->j∈vs->L i j=L j i)->Cut L vs s->0 < T L m vs s
  | 0,_,_,_,_,_,_,_=>by simp [T]
  | m+1,vs,s,hl,nd,hs,sy,hc=>by
    unfold T
    exact Trow_pos nn hs (T_pos m) vs [] hl nd sy hc fun i hi=>by cases hi
end
theorem Trow_le {L:Nat->Nat->Int} (nn:∀ i j,0<=L i j) (l4:∀ i j,L i j<=4) {m:Nat} {B C:Int} (hB:0<=B) (hC:0<=C) (ih:∀ (vs:List Nat) (s:Nat->Int),(∀ i,0<=s i)->(∀ i,s i<=B+4)->vs.length=m->T L m vs s<=C) :
    ∀ (post pre:List Nat) (s:Nat->Int),(∀ i,0<=s i)->(∀ i,s i<=B)->(pre++post).length=m+1->Trow L m pre post s<=post.length * (B * C)
  | [],_,_,_,_,_=>by simp [Trow]
  | v::post,pre,s,h0,h,hl=>by
    unfold Trow
    have a:=ih (pre++post) (fun i=>(if i∈pre then 0 else s i)+L v i) (fun i=>by
      have:=nn v i;have:=h0 i
      split <;> omega) (fun i=>by
      have:=nn v i;have:=h i;have:=l4 v i
      split <;> omega) (by simp at hl ⊢;omega)
    have a0:=T_nonneg nn m (pre++post) (fun i=>(if i∈pre then 0 else s i)+L v i) (fun i=>by
      have:=nn v i;have:=h0 i
      split <;> omega)
    have b:=Trow_le nn l4 hB hC ih post (pre++[v]) s h0 h (by simpa using hl)
    have c:s v * T L m (pre++post) (fun i=>(if i∈pre then 0 else s i)+L v i)<=B * C:=Int.mul_le_mul (h v) a a0 hB
    rw [List.length_cons,Int.natCast_add,Int.add_mul]
    have:((1:Nat):Int) * (B * C)=B * C:=by simp
    omega
theorem T_le {L:Nat->Nat->Int} (nn:∀ i j,0<=L i j) (l4:∀ i j,L i j<=4) (m:Nat) (hm:m<=4) (vs:List Nat) (s:Nat->Int) (hl:vs.length=m) (h0:∀ i,0<=s i) (h:∀ i,s i<=4):T L m vs s<=147456:=by
  have t0:∀ (vs:List Nat) (s:Nat->Int),T L 0 vs s=1:=fun _ _=>by simp [T]
  have step:∀ (k:Nat) (B C:Int),0<=B->0<=C->(∀ (vs:List Nat) (s:Nat->Int),(∀ i,0<=s i)->(∀ i,s i<=B+4)->vs.length=k->T L k vs s<=C)->∀ (vs:List Nat) (s:Nat->Int),(∀ i,0<=s i)->(∀ i,s i<=B)->vs.length=k+1->T L (k+1) vs s<=((k+1:Nat):Int) * (B * C):=by
    intro k B C hB hC ih vs s h0 h hl
    have:=Trow_le nn l4 hB hC ih vs [] s h0 h hl
    rw [hl] at this
    unfold T;exact this
  have z:∀ (B:Int) (vs:List Nat) (s:Nat->Int),(∀ i,0<=s i)->(∀ i,s i<=B)->vs.length=0->T L 0 vs s<=1:=fun _ vs s _ _ _=>by rw [t0];exact Int.le_refl _
  match m,hm with
  | 0,_=>rw [t0];decide
  | 1,_ =>
    have:T L 1 vs s<=_:=step 0 4 1 (by decide) (by decide) (z _) vs s h0 h hl
    omega
  | 2,_ =>
    have:T L 2 vs s<=_:=step 1 4 8 (by decide) (by decide) (fun vs s a b c=>Int.le_trans (step 0 8 1 (by decide) (by decide) (z _) vs s a b c) (by decide)) vs s h0 h hl
    omega
  | 3,_ =>
    have:T L 3 vs s<=_:=step 2 4 192 (by decide) (by decide) (fun vs s a b c=>Int.le_trans (step 1 8 12 (by decide) (by decide) (fun vs s a b c=>Int.le_trans (step 0 12 1 (by decide) (by decide) (z _) vs s a b c) (by decide)) vs s a b c) (by decide)) vs s h0 h hl
    omega
  | 4,_ =>
    have:T L 4 vs s<=_:=step 3 4 9216 (by decide) (by decide) (fun vs s a b c=>Int.le_trans (step 2 8 384 (by decide) (by decide) (fun vs s a b c=>Int.le_trans (step 1 12 16 (by decide) (by decide) (fun vs s a b c=>Int.le_trans (step 0 16 1 (by decide) (by decide) (z _) vs s a b c) (by decide)) vs s a b c) (by decide)) vs s a b c) (by decide)) vs s h0 h hl
    omega
end M

namespace M
theorem S_filter (P:Nat->Bool) (f:Nat->Int):∀ n:Nat,(((List.range n).filter P).map f).sum=S n (fun i=>if P i=true then f i else 0)
  | 0=>rfl
  | n+1=>by
    rw [List.range_succ,List.filter_append,List.map_append,List.sum_append,S_filter P f n]
    show _=S n _+(if P n=true then f n else 0)
    congr 1
    by_cases h:P n=true
    · simp [h]
    · simp [h]
theorem S_others {n q:Nat} (hq:q < n) (f:Nat->Int):S n f=f q+((others n q).map f).sum:=by
  rw [S_out n q f hq]
  unfold others
  rw [S_filter]
  congr 1
  exact S_congr n fun i _=>by by_cases e:i=q <;> simp [e]
theorem VA (n q:Nat):(others n q).Nodup:=List.nodup_range.filter _
theorem others_len {n q:Nat} (hq:q < n):(others n q).length+1=n:=by
  have h:=S_others hq (fun _=>1)
  have h1:∀ n:Nat,S n (fun _=>1)=(n:Int):=by
    intro n
    induction n with
    | zero=>rfl
    | succ n ih=>show S n _+1=_;rw [ih];omega
  have h2:∀ l:List Nat,(l.map fun _=>(1:Int)).sum=(l.length:Int):=by
    intro l
    induction l with
    | nil=>rfl
    | cons x l ih=>rw [List.map_cons,List.sum_cons,ih,List.length_cons];omega
  rw [h1,h2] at h
  omega
def ent (n:Nat) (L:Nat->Nat->Int) (i j:Nat):Int:=if j=i then S n (L i) else - L i j
def rowsOf (n:Nat) (L:Nat->Nat->Int) (vs:List Nat):List (List Int):=vs.map fun i=>vs.map fun j=>ent n L i j
def part (n:Nat) (L:Nat->Nat->Int) (vs:List Nat) (col:Nat->Int) (k:Nat):Int:=det (withCol k (rowsOf n L vs) (vs.map col))
structure Good (n:Nat) (L:Nat->Nat->Int) (q:Nat) (vs:List Nat):Prop where
  net:Net n L
  le4:∀ i j,L i j<=4
  hq:q < n
  nd:vs.Nodup
  qn:q∉vs
  lt:∀ i∈vs,i < n
  sp:∀ f:Nat->Int,S n f=f q+(vs.map f).sum
def Solves (n:Nat) (L:Nat->Nat->Int) (q:Nat) (vs:List Nat):Prop:=∀ (col p:Nat->Int),p q=0->(∀ k i,vs[k]?=some i->p i=part n L vs col k)->∀ i∈vs,flow n L p i=det (rowsOf n L vs) * col i
section
variable {n:Nat} {L:Nat->Nat->Int} {q:Nat}
theorem solve0 (g:Good n L q []):det (rowsOf n L [])=T L 0 [] (fun i=>L i q)/\Solves n L q []:=by
  refine ⟨by simp [rowsOf,det0,T],fun col p hp hk i hi=>by cases hi⟩
theorem solve1 {a:Nat} (g:Good n L q [a]):det (rowsOf n L [a])=T L 1 [a] (fun i=>L i q)/\Solves n L q [a]:=by
  have nd:=g.nd
  simp only [List.nodup_cons,List.mem_cons,List.not_mem_nil,not_or,or_false,not_false_eq_true,List.nodup_nil,and_true] at nd
  have ea:S n (L a)=L a q+(0):=by have:=g.sp (L a);simp only [List.map_cons,List.map_nil,List.sum_cons,List.sum_nil,g.net.diag a] at this;rw [this];omega
  have er:rowsOf n L [a]=[[S n (L a)]]:=by simp [rowsOf,ent]
  have eDet:det (rowsOf n L [a])=(S n (L a)):=by rw [er,det1]
  refine ⟨?_,fun col p hp hk i hi=>?_⟩
  · rw [eDet,ea]
    simp [T,Trow]
  · have pa:p a=(col a):=by rw [hk 0 a rfl];unfold part;rw [er];simp [withCol];rw [det1]
    rcases List.mem_cons.mp hi with z | hi
    · subst z
      have fl:=g.sp (fun j=>L i j * (p i - p j))
      simp only [List.map_cons,List.map_nil,List.sum_cons,List.sum_nil,hp,g.net.diag] at fl
      unfold flow;rw [fl,eDet,pa,ea];simp [Int.mul_comm]
    cases hi
theorem solve2 {a b:Nat} (g:Good n L q [a,b]):det (rowsOf n L [a,b])=T L 2 [a,b] (fun i=>L i q)/\Solves n L q [a,b]:=by
  have nd:=g.nd
  simp only [List.nodup_cons,List.mem_cons,List.not_mem_nil,not_or,or_false,not_false_eq_true,List.nodup_nil,and_true] at nd
  have nab:a≠b:=by simp [nd]
  have nba:b≠a:=fun z=>nab z.symm
  have ea:S n (L a)=L a q+(L a b):=by have:=g.sp (L a);simp only [List.map_cons,List.map_nil,List.sum_cons,List.sum_nil,g.net.diag a] at this;rw [this];omega
  have eb:S n (L b)=L b q+(L b a):=by have:=g.sp (L b);simp only [List.map_cons,List.map_nil,List.sum_cons,List.sum_nil,g.net.diag b] at this;rw [this];omega
  have sab:L b a=L a b:=g.net.sym b a (g.lt b (by simp)) (g.lt a (by simp))
  have er:rowsOf n L [a,b]=[[S n (L a),-L a b],[-L b a,S n (L b)]]:=by simp [rowsOf,ent,nab,nba]
  have eDet:det (rowsOf n L [a,b])=D2 (S n (L a)) (-L a b) (-L b a) (S n (L b)):=by rw [er,det2]
  refine ⟨?_,fun col p hp hk i hi=>?_⟩
  · rw [eDet,ea,eb]
    simp [T,Trow,nab,nba]
    simp only [sab]
    unfold D2
    grind
  · have pa:p a=D2 (col a) (-L a b) (col b) (S n (L b)):=by rw [hk 0 a rfl];unfold part;rw [er];simp [withCol];rw [det2]
    have pb:p b=D2 (S n (L a)) (col a) (-L b a) (col b):=by rw [hk 1 b rfl];unfold part;rw [er];simp [withCol];rw [det2]
    rcases List.mem_cons.mp hi with z | hi
    · subst z
      have fl:=g.sp (fun j=>L i j * (p i - p j))
      simp only [List.map_cons,List.map_nil,List.sum_cons,List.sum_nil,hp,g.net.diag] at fl
      have cr:=(cra2 (S n (L i)) (-L i b) (-L b i) (S n (L b)) (col i) (col b)).1
      rw [<- pa,<- pb] at cr
      rw [<- eDet] at cr
      unfold flow;rw [fl,<- cr,ea];grind
    rcases List.mem_cons.mp hi with z | hi
    · subst z
      have fl:=g.sp (fun j=>L i j * (p i - p j))
      simp only [List.map_cons,List.map_nil,List.sum_cons,List.sum_nil,hp,g.net.diag] at fl
      have cr:=(cra2 (S n (L a)) (-L a i) (-L i a) (S n (L i)) (col a) (col i)).2
      rw [<- pa,<- pb] at cr
      rw [<- eDet] at cr
      unfold flow;rw [fl,<- cr,eb];grind
    cases hi
theorem solve3 {a b c:Nat} (g:Good n L q [a,b,c]):det (rowsOf n L [a,b,c])=T L 3 [a,b,c] (fun i=>L i q)/\Solves n L q [a,b,c]:=by
  have nd:=g.nd
  simp only [List.nodup_cons,List.mem_cons,List.not_mem_nil,not_or,or_false,not_false_eq_true,List.nodup_nil,and_true] at nd
  have nab:a≠b:=by simp [nd]
  have nba:b≠a:=fun z=>nab z.symm
  have nac:a≠c:=by simp [nd]
  have nca:c≠a:=fun z=>nac z.symm
  have nbc:b≠c:=by simp [nd]
  have ncb:c≠b:=fun z=>nbc z.symm
  have ea:S n (L a)=L a q+(L a b+L a c):=by have:=g.sp (L a);simp only [List.map_cons,List.map_nil,List.sum_cons,List.sum_nil,g.net.diag a] at this;rw [this];omega
  have eb:S n (L b)=L b q+(L b a+L b c):=by have:=g.sp (L b);simp only [List.map_cons,List.map_nil,List.sum_cons,List.sum_nil,g.net.diag b] at this;rw [this];omega
  have ec:S n (L c)=L c q+(L c a+L c b):=by have:=g.sp (L c);simp only [List.map_cons,List.map_nil,List.sum_cons,List.sum_nil,g.net.diag c] at this;rw [this];omega
  have sab:L b a=L a b:=g.net.sym b a (g.lt b (by simp)) (g.lt a (by simp))
  have sac:L c a=L a c:=g.net.sym c a (g.lt c (by simp)) (g.lt a (by simp))
  have sbc:L c b=L b c:=g.net.sym c b (g.lt c (by simp)) (g.lt b (by simp))
  have er:rowsOf n L [a,b,c]=[[S n (L a),-L a b,-L a c],[-L b a,S n (L b),-L b c],[-L c a,-L c b,S n (L c)]]:=by simp [rowsOf,ent,nab,nba,nac,nca,nbc,ncb]
  have eDet:det (rowsOf n L [a,b,c])=D3 (S n (L a)) (-L a b) (-L a c) (-L b a) (S n (L b)) (-L b c) (-L c a) (-L c b) (S n (L c)):=by rw [er,det3]
  refine ⟨?_,fun col p hp hk i hi=>?_⟩
  · rw [eDet,ea,eb,ec]
    simp [T,Trow,nab,nba,nac,nca,nbc,ncb]
    simp only [sab,sac,sbc]
    unfold D3 D2
    grind
  · have pa:p a=D3 (col a) (-L a b) (-L a c) (col b) (S n (L b)) (-L b c) (col c) (-L c b) (S n (L c)):=by rw [hk 0 a rfl];unfold part;rw [er];simp [withCol];rw [det3]
    have pb:p b=D3 (S n (L a)) (col a) (-L a c) (-L b a) (col b) (-L b c) (-L c a) (col c) (S n (L c)):=by rw [hk 1 b rfl];unfold part;rw [er];simp [withCol];rw [det3]
    have pc:p c=D3 (S n (L a)) (-L a b) (col a) (-L b a) (S n (L b)) (col b) (-L c a) (-L c b) (col c):=by rw [hk 2 c rfl];unfold part;rw [er];simp [withCol];rw [det3]
    rcases List.mem_cons.mp hi with z | hi
    · subst z
      have fl:=g.sp (fun j=>L i j * (p i - p j))
      simp only [List.map_cons,List.map_nil,List.sum_cons,List.sum_nil,hp,g.net.diag] at fl
      have cr:=(cra3 (S n (L i)) (-L i b) (-L i c) (-L b i) (S n (L b)) (-L b c) (-L c i) (-L c b) (S n (L c)) (col i) (col b) (col c)).1
      rw [<- pa,<- pb,<- pc] at cr
      rw [<- eDet] at cr
      unfold flow;rw [fl,<- cr,ea];grind
    rcases List.mem_cons.mp hi with z | hi
    · subst z
      have fl:=g.sp (fun j=>L i j * (p i - p j))
      simp only [List.map_cons,List.map_nil,List.sum_cons,List.sum_nil,hp,g.net.diag] at fl
      have cr:=(cra3 (S n (L a)) (-L a i) (-L a c) (-L i a) (S n (L i)) (-L i c) (-L c a) (-L c i) (S n (L c)) (col a) (col i) (col c)).2.1
      rw [<- pa,<- pb,<- pc] at cr
      rw [<- eDet] at cr
      unfold flow;rw [fl,<- cr,eb];grind
    rcases List.mem_cons.mp hi with z | hi
    · subst z
      have fl:=g.sp (fun j=>L i j * (p i - p j))
      simp only [List.map_cons,List.map_nil,List.sum_cons,List.sum_nil,hp,g.net.diag] at fl
      have cr:=(cra3 (S n (L a)) (-L a b) (-L a i) (-L b a) (S n (L b)) (-L b i) (-L i a) (-L i b) (S n (L i)) (col a) (col b) (col i)).2.2
      rw [<- pa,<- pb,<- pc] at cr
      rw [<- eDet] at cr
      unfold flow;rw [fl,<- cr,ec];grind
    cases hi
theorem solve4 {a b c d:Nat} (g:Good n L q [a,b,c,d]):det (rowsOf n L [a,b,c,d])=T L 4 [a,b,c,d] (fun i=>L i q)/\Solves n L q [a,b,c,d]:=by
  have nd:=g.nd
  simp only [List.nodup_cons,List.mem_cons,List.not_mem_nil,not_or,or_false,not_false_eq_true,List.nodup_nil,and_true] at nd
  have nab:a≠b:=by simp [nd]
  have nba:b≠a:=fun z=>nab z.symm
  have nac:a≠c:=by simp [nd]
  have nca:c≠a:=fun z=>nac z.symm
  have nad:a≠d:=by simp [nd]
  have nda:d≠a:=fun z=>nad z.symm
  have nbc:b≠c:=by simp [nd]
  have ncb:c≠b:=fun z=>nbc z.symm
  have nbd:b≠d:=by simp [nd]
  have ndb:d≠b:=fun z=>nbd z.symm
  have ncd:c≠d:=by simp [nd]
  have ndc:d≠c:=fun z=>ncd z.symm
  have ea:S n (L a)=L a q+(L a b+L a c+L a d):=by have:=g.sp (L a);simp only [List.map_cons,List.map_nil,List.sum_cons,List.sum_nil,g.net.diag a] at this;rw [this];omega
  have eb:S n (L b)=L b q+(L b a+L b c+L b d):=by have:=g.sp (L b);simp only [List.map_cons,List.map_nil,List.sum_cons,List.sum_nil,g.net.diag b] at this;rw [this];omega
  have ec:S n (L c)=L c q+(L c a+L c b+L c d):=by have:=g.sp (L c);simp only [List.map_cons,List.map_nil,List.sum_cons,List.sum_nil,g.net.diag c] at this;rw [this];omega
  have ed:S n (L d)=L d q+(L d a+L d b+L d c):=by have:=g.sp (L d);simp only [List.map_cons,List.map_nil,List.sum_cons,List.sum_nil,g.net.diag d] at this;rw [this];omega
  have sab:L b a=L a b:=g.net.sym b a (g.lt b (by simp)) (g.lt a (by simp))
  have sac:L c a=L a c:=g.net.sym c a (g.lt c (by simp)) (g.lt a (by simp))
  have sad:L d a=L a d:=g.net.sym d a (g.lt d (by simp)) (g.lt a (by simp))
  have sbc:L c b=L b c:=g.net.sym c b (g.lt c (by simp)) (g.lt b (by simp))
  have sbd:L d b=L b d:=g.net.sym d b (g.lt d (by simp)) (g.lt b (by simp))
  have scd:L d c=L c d:=g.net.sym d c (g.lt d (by simp)) (g.lt c (by simp))
  have er:rowsOf n L [a,b,c,d]=[[S n (L a),-L a b,-L a c,-L a d],[-L b a,S n (L b),-L b c,-L b d],[-L c a,-L c b,S n (L c),-L c d],[-L d a,-L d b,-L d c,S n (L d)]]:=by simp [rowsOf,ent,nab,nba,nac,nca,nad,nda,nbc,ncb,nbd,ndb,ncd,ndc]
  have eDet:det (rowsOf n L [a,b,c,d])=D4 (S n (L a)) (-L a b) (-L a c) (-L a d) (-L b a) (S n (L b)) (-L b c) (-L b d) (-L c a) (-L c b) (S n (L c)) (-L c d) (-L d a) (-L d b) (-L d c) (S n (L d)):=by rw [er,det4]
  refine ⟨?_,fun col p hp hk i hi=>?_⟩
  · rw [eDet,ea,eb,ec,ed]
    simp [T,Trow,nab,nba,nac,nca,nad,nda,nbc,ncb,nbd,ndb,ncd,ndc]
    simp only [sab,sac,sad,sbc,sbd,scd]
    unfold D4 D3 D2
    grind
  · have pa:p a=D4 (col a) (-L a b) (-L a c) (-L a d) (col b) (S n (L b)) (-L b c) (-L b d) (col c) (-L c b) (S n (L c)) (-L c d) (col d) (-L d b) (-L d c) (S n (L d)):=by rw [hk 0 a rfl];unfold part;rw [er];simp [withCol];rw [det4]
    have pb:p b=D4 (S n (L a)) (col a) (-L a c) (-L a d) (-L b a) (col b) (-L b c) (-L b d) (-L c a) (col c) (S n (L c)) (-L c d) (-L d a) (col d) (-L d c) (S n (L d)):=by rw [hk 1 b rfl];unfold part;rw [er];simp [withCol];rw [det4]
    have pc:p c=D4 (S n (L a)) (-L a b) (col a) (-L a d) (-L b a) (S n (L b)) (col b) (-L b d) (-L c a) (-L c b) (col c) (-L c d) (-L d a) (-L d b) (col d) (S n (L d)):=by rw [hk 2 c rfl];unfold part;rw [er];simp [withCol];rw [det4]
    have pd:p d=D4 (S n (L a)) (-L a b) (-L a c) (col a) (-L b a) (S n (L b)) (-L b c) (col b) (-L c a) (-L c b) (S n (L c)) (col c) (-L d a) (-L d b) (-L d c) (col d):=by rw [hk 3 d rfl];unfold part;rw [er];simp [withCol];rw [det4]
    rcases List.mem_cons.mp hi with z | hi
    · subst z
      have fl:=g.sp (fun j=>L i j * (p i - p j))
      simp only [List.map_cons,List.map_nil,List.sum_cons,List.sum_nil,hp,g.net.diag] at fl
      have cr:=cra4_1 (S n (L i)) (-L i b) (-L i c) (-L i d) (-L b i) (S n (L b)) (-L b c) (-L b d) (-L c i) (-L c b) (S n (L c)) (-L c d) (-L d i) (-L d b) (-L d c) (S n (L d)) (col i) (col b) (col c) (col d)
      rw [<- pa,<- pb,<- pc,<- pd] at cr
      rw [<- eDet] at cr
      unfold flow;rw [fl,<- cr,ea];grind
    rcases List.mem_cons.mp hi with z | hi
    · subst z
      have fl:=g.sp (fun j=>L i j * (p i - p j))
      simp only [List.map_cons,List.map_nil,List.sum_cons,List.sum_nil,hp,g.net.diag] at fl
      have cr:=cra4_2 (S n (L a)) (-L a i) (-L a c) (-L a d) (-L i a) (S n (L i)) (-L i c) (-L i d) (-L c a) (-L c i) (S n (L c)) (-L c d) (-L d a) (-L d i) (-L d c) (S n (L d)) (col a) (col i) (col c) (col d)
      rw [<- pa,<- pb,<- pc,<- pd] at cr
      rw [<- eDet] at cr
      unfold flow;rw [fl,<- cr,eb];grind
    rcases List.mem_cons.mp hi with z | hi
    · subst z
      have fl:=g.sp (fun j=>L i j * (p i - p j))
      simp only [List.map_cons,List.map_nil,List.sum_cons,List.sum_nil,hp,g.net.diag] at fl
      have cr:=cra4_3 (S n (L a)) (-L a b) (-L a i) (-L a d) (-L b a) (S n (L b)) (-L b i) (-L b d) (-L i a) (-L i b) (S n (L i)) (-L i d) (-L d a) (-L d b) (-L d i) (S n (L d)) (col a) (col b) (col i) (col d)
      rw [<- pa,<- pb,<- pc,<- pd] at cr
      rw [<- eDet] at cr
      unfold flow;rw [fl,<- cr,ec];grind
    rcases List.mem_cons.mp hi with z | hi
    · subst z
      have fl:=g.sp (fun j=>L i j * (p i - p j))
      simp only [List.map_cons,List.map_nil,List.sum_cons,List.sum_nil,hp,g.net.diag] at fl
      have cr:=cra4_4 (S n (L a)) (-L a b) (-L a c) (-L a i) (-L b a) (S n (L b)) (-L b c) (-L b i) (-L c a) (-L c b) (S n (L c)) (-L c i) (-L i a) (-L i b) (-L i c) (S n (L i)) (col a) (col b) (col c) (col i)
      rw [<- pa,<- pb,<- pc,<- pd] at cr
      rw [<- eDet] at cr
      unfold flow;rw [fl,<- cr,ed];grind
    cases hi
end
end M

namespace M
structure Gd (n:Nat) (L:Nat->Nat->Int):Prop where
  net:Net n L
  le4:∀ i j,L i j<=4
  pos:1<=n
  le5:n<=5
  par:∀ y,1<=y->y < n->∃ x,x < y/\0 < L x y
theorem least {P:Nat->Prop}:∀ (n:Nat),P n->∃ m,m<=n/\P m/\∀ k,k < m->¬ P k
  | n,h=>by
    induction n using Nat.strongRecOn with
    | _ n ih =>
      by_cases e:∃ k,k < n/\P k
      · obtain ⟨k,hk,pk⟩:=e
        obtain ⟨m,hm,h1,h2⟩:=ih k hk pk
        exact ⟨m,by omega,h1,h2⟩
      · exact ⟨n,Nat.le_refl _,h,fun k hk pk=>e ⟨k,hk,pk⟩⟩
section
variable {n:Nat} {L:Nat->Nat->Int} {q:Nat}
theorem Gd.good (g:Gd n L) (hq:q < n):Good n L q (others n q) :=
  ⟨g.net,g.le4,hq,VA n q,fun z=>(mem_others.mp z).2 rfl,fun i hi=>(mem_others.mp hi).1,S_others hq⟩
theorem Gd.cross (g:Gd n L) (A:Nat->Bool) (h1:∃ i,i < n/\A i=true) (h2:∃ i,i < n/\A i=false):∃ i j,i < n/\j < n/\A i=true/\A j=false/\0 < L i j:=by
  cases a0:A 0 with
  | false =>
    obtain ⟨i,hi,ai⟩:=h1
    obtain ⟨m,hm,am,hl⟩:=least (P:=fun y=>A y=true) i ai
    have m1:1<=m:=by
      cases m with
      | zero=>rw [a0] at am;cases am
      | succ m=>omega
    obtain ⟨x,hx,lx⟩:=g.par m m1 (by omega)
    have ax:A x=false:=by simpa using hl x hx
    exact ⟨m,x,by omega,by omega,am,ax,by rw [g.net.sym m x (by omega) (by omega)];exact lx⟩
  | true =>
    obtain ⟨i,hi,ai⟩:=h2
    obtain ⟨m,hm,am,hl⟩:=least (P:=fun y=>A y=false) i ai
    have m1:1<=m:=by
      cases m with
      | zero=>rw [a0] at am;cases am
      | succ m=>omega
    obtain ⟨x,hx,lx⟩:=g.par m m1 (by omega)
    have ax:A x=true:=by simpa using hl x hx
    exact ⟨x,m,by omega,by omega,ax,am,lx⟩
theorem Gd.cut (g:Gd n L) (hq:q < n):Cut L (others n q) (fun i=>L i q):=by
  intro A ⟨x,hx,ax⟩
  have mx:=mem_others.mp hx
  obtain ⟨i,j,hi,hj,ai,aj,lt⟩:=g.cross (fun y=>A y && decide (y≠q)) ⟨x,mx.1,by simp [ax,mx.2]⟩ ⟨q,hq,by simp⟩
  simp only [Bool.and_eq_true,decide_eq_true_eq] at ai
  refine ⟨i,mem_others.mpr ⟨hi,ai.2⟩,ai.1,?_⟩
  by_cases e:j=q
  · subst e;exact .inl lt
  · exact .inr ⟨j,mem_others.mpr ⟨hj,e⟩,by simpa [e] using aj,lt⟩
theorem solve_all (g:Good n L q vs) (hl:vs.length<=4):det (rowsOf n L vs)=T L vs.length vs (fun i=>L i q)/\Solves n L q vs:=by
  match vs,hl with
  | [],_=>exact solve0 g
  | [_],_=>exact solve1 g
  | [_,_],_=>exact solve2 g
  | [_,_,_],_=>exact solve3 g
  | [_,_,_,_],_=>exact solve4 g
  | _::_::_::_::_::_,h=>simp at h
def whole (n:Nat) (L:Nat->Nat->Int) (q:Nat):Int:=det (rowsOf n L (others n q))
theorem Gd.whole_pos (g:Gd n L) (hq:q < n):0 < whole n L q:=by
  have hl:=others_len hq
  have:=g.le5
  unfold whole
  rw [(solve_all (g.good hq) (by omega)).1]
  exact T_pos g.net.nn _ _ _ rfl (VA n q) (fun i=>g.net.nn i q) (fun i j hi hj=>g.net.sym i j (mem_others.mp hi).1 (mem_others.mp hj).1) (g.cut hq)
theorem Gd.whole_le (g:Gd n L) (hq:q < n):whole n L q<=147456:=by
  have hl:=others_len hq
  have:=g.le5
  unfold whole
  rw [(solve_all (g.good hq) (by omega)).1]
  exact T_le g.net.nn g.le4 _ (by omega) _ _ rfl (fun i=>g.net.nn i q) (fun i=>g.le4 i q)
theorem Gd.solves (g:Gd n L) (hq:q < n):Solves n L q (others n q):=by
  have hl:=others_len hq
  have:=g.le5
  exact (solve_all (g.good hq) (by omega)).2
def num (n:Nat) (L:Nat->Nat->Int) (q:Nat) (col:Nat->Int) (i:Nat):Int:=match (others n q).idxOf? i with
  | some k=>part n L (others n q) col k
  | none=>0
theorem idxOf?_get {l:List Nat} (nd:l.Nodup) {k i:Nat} (h:l[k]?=some i):l.idxOf? i=some k:=by
  induction l generalizing k with
  | nil=>simp at h
  | cons x l ih =>
    cases k with
    | zero=>simp at h;subst h;simp [List.idxOf?_cons]
    | succ k =>
      simp at h
      have hne:(x == i)=false:=by
        have:=(List.nodup_cons.mp nd).1
        simp
        intro z;subst z
        exact this (List.mem_of_getElem? h)
      rw [List.idxOf?_cons,hne]
      simp [ih (List.nodup_cons.mp nd).2 h]
theorem num_at {col:Nat->Int} {k i:Nat} (h:(others n q)[k]?=some i):num n L q col i=part n L (others n q) col k:=by
  unfold num;rw [idxOf?_get (VA n q) h]
theorem num_q {col:Nat->Int}:num n L q col q=0:=by
  unfold num
  have:(others n q).idxOf? q=none:=by
    rw [List.idxOf?_eq_none_iff]
    exact fun z=>(mem_others.mp z).2 rfl
  rw [this]
theorem Gd.num_flow (g:Gd n L) (hq:q < n) (col:Nat->Int) {i:Nat} (hi:i < n) (hiq:i≠q):flow n L (num n L q col) i=whole n L q * col i :=
  g.solves hq col (num n L q col) num_q (fun k i h=>num_at h) i (mem_others.mpr ⟨hi,hiq⟩)
def cnt (n:Nat) (L:Nat->Nat->Int) (q:Nat) (d:Nat->Int) (i:Nat):Int:=num n L q (fun i=>d i - S n (L i)) i / whole n L q
theorem cnt_q {d:Nat->Int}:cnt n L q d q=0:=by unfold cnt;rw [num_q];simp
theorem Gd.cnt_nodebt (g:Gd n L) (hq:q < n) (d:Nat->Int):NoDebt n q (fire n L d (cnt n L q d)):=by
  intro i hi hiq
  have hw:=g.whole_pos hq
  have hf:=g.num_flow hq (fun i=>d i - S n (L i)) hi hiq
  have dec:∀ j,num n L q (fun i=>d i - S n (L i)) j=whole n L q * cnt n L q d j+num n L q (fun i=>d i - S n (L i)) j % whole n L q:=fun j=>by
    unfold cnt
    have:=Int.mul_ediv_add_emod (num n L q (fun i=>d i - S n (L i)) j) (whole n L q)
    omega
  have r0:∀ j,0<=num n L q (fun i=>d i - S n (L i)) j % whole n L q:=fun j=>Int.emod_nonneg _ (by omega)
  have r1:∀ j,num n L q (fun i=>d i - S n (L i)) j % whole n L q < whole n L q:=fun j=>Int.emod_lt_of_pos _ hw
  have e1:flow n L (num n L q (fun i=>d i - S n (L i))) i=whole n L q * flow n L (cnt n L q d) i+flow n L (fun j=>num n L q (fun i=>d i - S n (L i)) j % whole n L q) i:=by
    rw [<- flow_mul,<- flow_add]
    exact flow_congr (fun j _=>dec j) hi
  have e2:- ((whole n L q - 1) * S n (L i))<=flow n L (fun j=>num n L q (fun i=>d i - S n (L i)) j % whole n L q) i:=by
    unfold flow
    rw [<- S_mul,<- S_neg]
    refine S_le n fun j _=>?_
    have h1:- (whole n L q - 1)<=num n L q (fun i=>d i - S n (L i)) i % whole n L q - num n L q (fun i=>d i - S n (L i)) j % whole n L q:=by
      have:=r0 i;have:=r1 j;omega
    have h2:=Int.mul_le_mul_of_nonneg_left h1 (g.net.nn i j)
    rw [Int.mul_neg,Int.mul_comm] at h2
    exact h2
  have s0:0<=S n (L i):=S_nonneg n fun j _=>g.net.nn i j
  have key:whole n L q * fire n L d (cnt n L q d) i=whole n L q * S n (L i)+flow n L (fun j=>num n L q (fun i=>d i - S n (L i)) j % whole n L q) i:=by
    unfold fire
    rw [Int.mul_sub]
    rw [e1,Int.mul_sub] at hf
    omega
  have e3:(whole n L q - 1) * S n (L i)=whole n L q * S n (L i) - S n (L i):=by rw [Int.sub_mul,Int.one_mul]
  have key2:0<=whole n L q * fire n L d (cnt n L q d) i:=by omega
  exact Int.nonneg_of_mul_nonneg_right key2 hw
def wei (n:Nat) (L:Nat->Nat->Int) (q:Nat):Nat->Int:=num n L q (fun _=>1)
theorem Gd.wei_flow (g:Gd n L) (hq:q < n) {i:Nat} (hi:i < n) (hiq:i≠q):1<=flow n L (wei n L q) i:=by
  have:=g.num_flow hq (fun _=>1) hi hiq
  have:=g.whole_pos hq
  unfold wei
  omega
theorem Gd.wei_nonneg (g:Gd n L) (hq:q < n):∀ i,i < n->0<=wei n L q i:=by
  obtain ⟨m,hm,h⟩:=argmax n (fun i=>- wei n L q i) (by omega)
  have h':∀ i,i < n->wei n L q m<=wei n L q i:=fun i hi=>by have:=h i hi;omega
  intro i hi
  refine Int.le_trans ?_ (h' i hi)
  by_cases e:m=q
  · subst e;unfold wei;rw [num_q];exact Int.le_refl _
  · have f1:=g.wei_flow hq hm e
    have f2:flow n L (wei n L q) m<=0:=by
      unfold flow
      rw [<- S_zero n]
      refine S_le n fun j hj=>?_
      have h1:wei n L q m - wei n L q j<=0:=by have:=h' j hj;omega
      have:=Int.mul_le_mul_of_nonneg_left h1 (g.net.nn m j)
      rwa [Int.mul_zero] at this
    omega
def pot (n:Nat) (L:Nat->Nat->Int) (q:Nat) (d:Nat->Int):Int:=S n fun i=>wei n L q i * d i
theorem Gd.pot_nonneg (g:Gd n L) (hq:q < n) {d:Nat->Int} (h:NoDebt n q d):0<=pot n L q d:=by
  refine S_nonneg n fun i hi=>?_
  by_cases e:i=q
  · subst e;unfold wei;rw [num_q,Int.zero_mul];exact Int.le_refl _
  · exact Int.mul_nonneg (g.wei_nonneg hq i hi) (h i hi e)
theorem Gd.pot_falls (g:Gd n L) (hq:q < n) {d:Nat->Int} {bs:List Nat} (b:BI n L d q bs) (hl:bs.length≠n):pot n L q (fire n L d (chi bs))+1<=pot n L q d:=by
  obtain ⟨i,hi,mi⟩:=missing b hl
  have e:pot n L q (fire n L d (chi bs))=pot n L q d - S n (fun i=>chi bs i * flow n L (wei n L q) i):=by
    unfold pot fire
    rw [<- flow_weigh g.net,<- S_sub]
    exact S_congr n fun i _=>by rw [Int.mul_sub]
  have t:∀ i,i < n->0<=chi bs i * flow n L (wei n L q) i:=fun i hi=>by
    unfold chi
    split
    · rw [Int.zero_mul];exact Int.le_refl _
    · rename_i m
      rw [Int.one_mul]
      have:=g.wei_flow hq hi (fun z=>m (z ▸ b.q_mem))
      omega
  have u:=S_ge_term n t hi
  have v:chi bs i * flow n L (wei n L q) i=flow n L (wei n L q) i:=by unfold chi;rw [if_neg mi,Int.one_mul]
  have w:=g.wei_flow hq hi (fun z=>mi (z ▸ b.q_mem))
  omega
end
end M

namespace M
section
variable {n:Nat} {L:Nat->Nat->Int} {q:Nat} {d:Nat->Int}
theorem flow_inj (g:Gd n L) (hq:q < n) {x:Nat->Int} (hx:x q=0) (h:∀ i,i < n->i≠q->flow n L x i=0):∀ i,i < n->x i=0:=by
  have le:∀ (x:Nat->Int),x q=0->(∀ i,i < n->i≠q->flow n L x i=0)->∀ i,i < n->x i<=0:=by
    intro x hx h i hi
    obtain ⟨m,hm,hmax⟩:=argmax n x (by omega)
    by_cases e:x m<=0
    · exact Int.le_trans (hmax i hi) e
    · exfalso
      obtain ⟨a,b,ha,hb,ea,eb,lt⟩:=g.cross (fun y=>decide (x y=x m)) ⟨m,hm,by simp⟩ ⟨q,hq,by simp;omega⟩
      have ea:x a=x m:=by simpa using ea
      have eb:x b≠x m:=by simpa using eb
      have aq:a≠q:=fun z=>by subst z;omega
      have f0:=h a ha aq
      have t:∀ j,j < n->0<=L a j * (x a - x j):=fun j hj=>Int.mul_nonneg (g.net.nn a j) (by have:=hmax j hj;omega)
      have u:=S_ge_term n t hb
      have v:0 < L a b * (x a - x b):=Int.mul_pos lt (by have:=hmax b hb;omega)
      unfold flow at f0
      omega
  intro i hi
  have a:=le x hx h i hi
  have b:=le (fun j=>- x j) (by simp [hx]) (fun i hi hq=>by rw [flow_neg,h i hi hq];rfl) i hi
  omega
end
end M

namespace P
open PySem L2
noncomputable def F_is_number:FS :=
  (Z2 (WT (f1 (isD "int") (fV 0)) (fNot (f1 (isD "bool") (fV 0)))))
noncomputable def Yi:List D->Option D:=Z3 1 1 F_is_number
noncomputable def XT (Yi:List D->Option D):FS :=
  (Z2 (WT (fL Yi (Zc (fV 0) fN)) (Xw (ZY fun i j=>.bl (decide (i<=j))) (ZY fun i j=>.bl (decide (i<=j))) (fV 1) (fV 0) (fV 2))))
noncomputable def Zn:List D->Option D:=Z3 3 3 (XT Yi)
noncomputable def F_is_bundle (Zn:List D->Option D):FS :=
  (Zr (Wt (gOr (XR (Xq (f1 (isD "tuple") (fV 1)))) (gB (f2 Vl (fL Yy (Zc (fV 1) fN)) (fC (.int 3))))) (Z2 (fC (.bl false))) WO)
  (Zr (Wt (XR (Xq (fL Zn (Zc (f2 YY (fV 1) (fC (.int 0))) (Zc (fC (.int 0)) (Zc (f2 (ZY fun i j=>.int (i - j)) (fV 0) (fC (.int 1))) fN)))))) (Z2 (fC (.bl false))) WO)
  (Z2 (WT (fL Zn (Zc (f2 YY (fV 1) (fC (.int 1))) (Zc (f2 ZS (f2 YY (fV 1) (fC (.int 0))) (fC (.int 1))) (Zc (f2 (ZY fun i j=>.int (i - j)) (fV 0) (fC (.int 1))) fN)))) (fL Zn (Zc (f2 YY (fV 1) (fC (.int 2))) (Zc (fC (.int 1)) (Zc (fC (.int 4)) fN))))))))
noncomputable def YT:List D->Option D:=Z3 2 2 (F_is_bundle Zn)
noncomputable def F_is_joined:FS :=
  (Zr (sOwn1 2 0 true)
  (Zr (XE (fR Xh (Zc (fV 0) fN)) (gN 3) (XH (Zq (fV 1)) (gT [4,5,6]) (Wt (gOr (gB (f2 WH (fV 4) (fV 2))) (gB (f2 WH (fV 5) (fV 2)))) (Zr (Xk 2 (fV 4) (fC (.bl true)))
  (Xk 2 (fV 5) (fC (.bl true)))) WO)))
  (Z2 (f2 WK (fL lenKD (Zc (fV 2) fN)) (fV 0)))))
noncomputable def Y7:List D->Option D:=Z3 2 7 F_is_joined
noncomputable def F_do_rise:FS :=
  (Z2 (fL allD (Zc (Z8 2 [] (fZip (fV 0) (fSl (fV 0) (pS (fC (.int 1))) pN)) (gT [0,1]) Y3 (f2 Xt (fSl (fV 0) pN (pS (fC (.int 2)))) (fSl (fV 1) pN (pS (fC (.int 2)))))) fN)))
noncomputable def XV:List D->Option D:=Z3 1 1 F_do_rise
noncomputable def F_is_ground (Zn YT Y7 XV:List D->Option D):FS :=
  (Zr (Wt (gOr (XR (Xq (f1 (isD "tuple") (fV 0)))) (gB (f2 Vl (fL Yy (Zc (fV 0) fN)) (fC (.int 2))))) (Z2 (fC (.bl false))) WO)
  (Zr (Zt 1 (f2 YY (fV 0) (fC (.int 0))))
  (Zr (Zt 2 (f2 YY (fV 0) (fC (.int 1))))
  (Zr (Wt (gOr (XR (Xq (fL Zn (Zc (fV 1) (Zc (fC (.int 1)) (Zc (fC (.int 5)) fN)))))) (XR (Xq (f1 (isD "tuple") (fV 2))))) (Z2 (fC (.bl false))) WO)
  (Zr (Wt (XR (Xq (fL allD (Zc (Z8 1 [1] (Zq (fV 2)) (gN 0) Y3 (fL YT (Zc (fV 1) (Zc (fV 0) fN)))) fN)))) (Z2 (fC (.bl false))) WO)
  (Z2 (WT (fL XV (Zc (fV 2) fN)) (fL Y7 (Zc (fV 1) (Zc (fV 2) fN))))))))))
noncomputable def Y8:List D->Option D:=Z3 1 3 (F_is_ground Zn YT Y7 XV)
noncomputable def F_checked (Y8:List D->Option D):FS :=
  (Zr (Wt (XR (Xq (fL Y8 (Zc (fV 0) fN)))) Vx WO)
  (Z2 (fV 0)))
noncomputable def ZX:List D->Option D:=Z3 1 1 (F_checked Y8)
noncomputable def W0:FS :=
  (Zr (Wt (gB (f2 Xt (fV 1) (fL Yy (Zc (fV 0) fN)))) (Z2 (f2 YY (fV 0) (fV 1))) WO)
  (Zr (Wt (gB (f2 WK (fV 0) (fL Xg fN))) (Z2 (fC (.int 0))) WO)
  (Z2 (f2 ZS (f2 YF (f2 YY (fV 0) (f2 Xp (fV 1) (fL Yy (Zc (fV 0) fN)))) (fC (.int 31))) (fV 1)))))
noncomputable def Yx:List D->Option D:=Z3 2 2 W0
noncomputable def VP (Yx:List D->Option D):FS :=
  (Zr (Zt 3 (f2 Xp (f2 YF (f2 ZS (f2 ZS (fL Yx (Zc (fV 0) (Zc (fV 1) fN))) (f2 YF (fC (.int 7919)) (fV 1))) (fC (.int 1))) (fC (.int 48271))) (fC (.int 2147483647))))
  (Z2 (f2 Xp (f2 Xp (f2 ZS (f2 ZS (f2 YF (fV 3) (fV 3)) (f2 YF (fC (.int 7)) (fV 3))) (fV 1)) (fC (.int 2147483629))) (fV 2))))
noncomputable def Zo:List D->Option D:=Z3 3 4 (VP Yx)
noncomputable def Vc (Zo:List D->Option D):FS :=
  (Zr (Zt 3 (f2 ZS (fC (.int 1)) (fL Zo (Zc (fV 0) (Zc (fV 1) (Zc (fV 2) fN))))))
  (Zr (sOwnT 4)
  (Zr (XE (fR rng2 (Zc (fC (.int 1)) (Zc (fV 3) fN))) (gN 5) (Xk 4 (fL Yn (Zc (fL Zo (Zc (fV 0) (Zc (f2 ZS (fV 1) (fV 5)) (Zc (fV 5) fN)))) (Zc (fV 5) fN))) (f2 ZS (fC (.int 1)) (f2 fdivD (fL Zo (Zc (fV 0) (Zc (f2 ZS (f2 ZS (fV 1) (fC (.int 5))) (fV 5)) (Zc (fC (.int 5)) fN)))) (fC (.int 3))))))
  (Zr (XE (fR Xh (Zc (f2 YF (fL Zo (Zc (fV 0) (Zc (f2 ZS (fV 1) (fC (.int 10))) (Zc (fC (.int 4)) fN)))) (fL intD (Zc (f2 (ZY fun i j=>.bl (decide (j < i))) (fV 3) (fC (.int 1))) fN))) fN)) (gN 6) (Zr (Zt 7 (fL Zo (Zc (fV 0) (Zc (f2 ZS (f2 ZS (fV 1) (fC (.int 11))) (f2 YF (fC (.int 2)) (fV 6))) (Zc (fV 3) fN)))))
  (Zr (Zt 8 (f2 Xp (f2 ZS (f2 ZS (fV 7) (fC (.int 1))) (fL Zo (Zc (fV 0) (Zc (f2 ZS (f2 ZS (fV 1) (fC (.int 12))) (f2 YF (fC (.int 2)) (fV 6))) (Zc (f2 (ZY fun i j=>.int (i - j)) (fV 3) (fC (.int 1))) fN))))) (fV 3)))
  (Zr (Zt 9 (fL Yn (Zc (fL minD (Zc (fV 7) (Zc (fV 8) fN))) (Zc (fL maxD (Zc (fV 7) (Zc (fV 8) fN))) fN))))
  (Xk 4 (fV 9) (f2 ZS (f2 Xp (fDgt (fV 4) (fV 9) (fC (.int 0))) (fC (.int 4))) (fC (.int 1))))))))
  (Z2 (fL Yn (Zc (fV 3) (Zc (fL tupD (Zc (Z8 1 [4] (Zq (fL Vv (Zc (fL listTD (Zc (fV 4) fN)) fN))) (gN 0) Y3 (f2 ZS (fV 0) (fL Yn (Zc (f2 dixD (fV 1) (fV 0)) fN)))) fN)) fN))))))))
noncomputable def Yu:List D->Option D:=Z3 3 10 (Vc Zo)
noncomputable def VO:FS :=
  (Z2 (WT (f1 (isD "int") (fV 0)) (fNot (f1 (isD "bool") (fV 0)))))
noncomputable def YC:List D->Option D:=Z3 1 1 VO
noncomputable def YK (Yi:List D->Option D):FS :=
  (Z2 (WT (f2 WK (fL Yy (Zc (fV 1) fN)) (f2 YY (fV 0) (fC (.int 0)))) (fL allD (Zc (Z8 1 [] (Zq (fV 1)) (gN 0) Y3 (fL Yi (Zc (fV 0) fN))) fN))))
noncomputable def Zz:List D->Option D:=Z3 2 2 (YK Yi)
noncomputable def F_is_load (ZX Zz:List D->Option D):FS :=
  (Zr (WC (fL ZX (Zc (fV 0) fN)))
  (Z2 (WT (f1 (isD "tuple") (fV 1)) (fL Zz (Zc (fV 0) (Zc (fV 1) fN))))))
noncomputable def XU:List D->Option D:=Z3 2 2 (F_is_load ZX Zz)
noncomputable def WY (XU:List D->Option D):FS :=
  (Zr (Wt (XR (Xq (fL XU (Zc (fV 0) (Zc (fV 1) fN))))) Vx WO)
  (Z2 (fV 1)))
noncomputable def Yw:List D->Option D:=Z3 2 2 (WY XU)
noncomputable def F_moved:FS :=
  (Zr (X4 3 (Zq (fV 1)))
  (Zr (XH (Zq (f2 YY (fV 0) (fC (.int 1)))) (gT [4,5,6]) (Zr (Zt 7 (f2 YF (fV 6) (f2 (ZY fun i j=>.int (i - j)) (f2 YY (fV 2) (fV 4)) (f2 YY (fV 2) (fV 5)))))
  (Zr (W7 3 (fV 4) (f2 (ZY fun i j=>.int (i - j)) (f2 YY (fV 3) (fV 4)) (fV 7)))
  (W7 3 (fV 5) (f2 ZS (f2 YY (fV 3) (fV 5)) (fV 7))))))
  (Z2 (fL tupD (Zc (fV 3) fN)))))
noncomputable def XD:List D->Option D:=Z3 3 8 F_moved
noncomputable def WX (ZX Zn:List D->Option D):FS :=
  (Zr (WC (fL ZX (Zc (fV 0) fN)))
  (Zr (Wt (XR (Xq (fL Zn (Zc (fV 1) (Zc (fC (.int 0)) (Zc (f2 (ZY fun i j=>.int (i - j)) (f2 YY (fV 0) (fC (.int 0))) (fC (.int 1))) fN)))))) Vx WO)
  (Z2 (fV 1))))
noncomputable def ZW:List D->Option D:=Z3 2 2 (WX ZX Zn)
noncomputable def VJ:FS :=
  (sTabl 1 (f2 YY (fV 0) (fC (.int 0))) (Zq (f2 YY (fV 0) (fC (.int 1)))))
noncomputable def Zp:List D->Option D:=Z3 1 5 VJ
noncomputable def Wb:FS :=
  (Z2 (Z8 1 [1] (Zq (fV 0)) (gN 0) Y3 (f2 ZS (fSl (fV 0) pN (pS (fV 1))) (fSl (fV 0) (pS (f2 ZS (fV 1) (fC (.int 1)))) pN))))
noncomputable def ZO:List D->Option D:=Z3 2 2 Wb
noncomputable def XJ (Zi ZO:List D->Option D):FS :=
  (Zr (Wt (XR (Xq (fV 0))) (Z2 (fC (.int 1))) WO)
  (Zr (Zt 1 (fC (.int 0)))
  (Zr (Zt 2 (fC (.int 1)))
  (Zr (XH (fEnum (f2 YY (fV 0) (fC (.int 0)))) (gT [3,4]) (Zr (Zt 1 (f2 ZS (fV 1) (f2 YF (f2 YF (fV 2) (fV 4)) (fL Zi (Zc (fL ZO (Zc (fSl (fV 0) (pS (fC (.int 1))) pN) (Zc (fV 3) fN))) fN)))))
  (Zt 2 (f1 Vk (fV 2)))))
  (Z2 (fV 1))))))
noncomputable def Ys:Nat->List D->Option D
  | 0=>fun _=>none
  | k+1=>Z3 1 5 (XJ (Ys k) ZO)
noncomputable def Zi:List D->Option D:=Ys 8
noncomputable def Va:FS :=
  (Z2 (Z8 2 [1] (fZip (fV 0) (fV 2)) (gT [0,1]) Y3 (f2 ZS (f2 ZS (fSl (fV 0) pN (pS (fV 2))) (fL Xg (Zc (fV 1) fN))) (fSl (fV 0) (pS (f2 ZS (fV 2) (fC (.int 1)))) pN))))
noncomputable def YE:List D->Option D:=Z3 3 3 Va
noncomputable def VI (Zi YE:List D->Option D):FS :=
  (Z2 (Z8 1 [0,1] (fR Xh (Zc (fL Yy (Zc (fV 0) fN)) fN)) (gN 0) Y3 (fL Zi (Zc (fL YE (Zc (fV 1) (Zc (fV 0) (Zc (fV 2) fN)))) fN))))
noncomputable def YS:List D->Option D:=Z3 2 2 (VI Zi YE)
noncomputable def Wz:FS :=
  (Z2 (Z8 1 [1] (fR Xh (Zc (fL Yy (Zc (fV 0) fN)) fN)) (gN 0) (gB (f2 Vl (fV 0) (fV 1))) (fV 0)))
noncomputable def Zl:List D->Option D:=Z3 2 2 Wz
noncomputable def F_lines_to:FS :=
  (Z2 (fL Vh (Zc (Z8 1 [0,1] (Zq (fV 2)) (gN 0) Y3 (f2 YY (f2 YY (fV 1) (fV 2)) (fV 0))) fN)))
noncomputable def Yp:List D->Option D:=Z3 3 3 F_lines_to
noncomputable def Vb (Zl Yp:List D->Option D):FS :=
  (Zr (X4 3 (fR few (Zc (fV 2) fN)))
  (Zr (XE (fR Xh (Zc (fL Yy (Zc (fV 0) fN)) fN)) (gN 4) (XH (Zq (fL Zl (Zc (fV 0) (Zc (fV 2) fN)))) (gN 5) (Wt (WJ (gB (f2 Wd (fV 5) (fV 3))) (gB (f2 Xt (f2 YY (fV 1) (fV 5)) (fL Yp (Zc (fV 0) (Zc (fV 5) (Zc (fV 3) fN))))))) (sApp 3 (fV 5)) WO)))
  (Z2 (fV 3))))
noncomputable def ZF:List D->Option D:=Z3 3 6 (Vb Zl Yp)
noncomputable def VN (Zp ZF XD:List D->Option D):FS :=
  (Zr (Zt 4 (fL Zp (Zc (fV 0) fN)))
  (Zr (Zt 5 (fL ZF (Zc (fV 4) (Zc (fL XD (Zc (fV 0) (Zc (fV 1) (Zc (fV 2) fN)))) (Zc (fV 3) fN)))))
  (Zr (Vw (gB (f2 Xt (fL Yy (Zc (fV 5) fN)) (fL Yy (Zc (fV 4) fN)))) (Zr (Zt 2 (Z8 2 [5] (fEnum (fV 2)) (gT [0,1]) Y3 (fIf (gB (f2 WH (fV 0) (fV 2))) (fV 1) (f2 ZS (fV 1) (fC (.int 1))))))
  (Zt 5 (fL ZF (Zc (fV 4) (Zc (fL XD (Zc (fV 0) (Zc (fV 1) (Zc (fV 2) fN)))) (Zc (fV 3) fN)))))))
  (Z2 (fL Yn (Zc (fL XD (Zc (fV 0) (Zc (fV 1) (Zc (fV 2) fN)))) (Zc (fV 2) fN)))))))
noncomputable def YU:List D->Option D:=Z3 4 6 (VN Zp ZF XD)
noncomputable def F_inner_row (Zl:List D->Option D):FS :=
  (Zr (Zt 3 (f2 YY (fV 0) (fV 2)))
  (Z2 (Z8 1 [2,3] (Zq (fL Zl (Zc (fV 0) (Zc (fV 1) fN)))) (gN 0) Y3 (fIf (gB (f2 WK (fV 0) (fV 1))) (fL Vh (Zc (fV 2) fN)) (f1 Vk (f2 YY (fV 2) (fV 0)))))))
noncomputable def Y9:List D->Option D:=Z3 3 4 (F_inner_row Zl)
noncomputable def VM (Zl Y9:List D->Option D):FS :=
  (Z2 (Z8 1 [0,1] (Zq (fL Zl (Zc (fV 0) (Zc (fV 1) fN)))) (gN 0) Y3 (fL Y9 (Zc (fV 1) (Zc (fV 2) (Zc (fV 0) fN))))))
noncomputable def ZN:List D->Option D:=Z3 2 2 (VM Zl Y9)
noncomputable def Xx (ZN Zi YS Zl:List D->Option D):FS :=
  (Zr (Zt 3 (fL ZN (Zc (fV 0) (Zc (fV 2) fN))))
  (Zr (Zt 4 (fL Zi (Zc (fV 3) fN)))
  (Zr (Zt 5 (fL YS (Zc (fV 3) (Zc (Z8 1 [1,0] (Zq (fL Zl (Zc (fV 0) (Zc (fV 2) fN)))) (gN 0) Y3 (f2 (ZY fun i j=>.int (i - j)) (f2 YY (fV 1) (fV 0)) (fL Vh (Zc (f2 YY (fV 2) (fV 0)) fN)))) fN))))
  (Zr (Zt 6 (Z8 1 [4] (Zq (fV 5)) (gN 0) Y3 (f2 fdivD (fV 0) (fV 1))))
  (Z2 (f2 ZS (f2 ZS (fSl (fV 6) pN (pS (fV 2))) (fL Xg (Zc (fC (.int 0)) fN))) (fSl (fV 6) (pS (fV 2)) pN)))))))
noncomputable def ZZ:List D->Option D:=Z3 3 7 (Xx ZN Zi YS Zl)
noncomputable def F_settled (Yw ZW YU ZZ Zp:List D->Option D):FS :=
  (Zr (WC (fL Yw (Zc (fV 0) (Zc (fV 1) fN))))
  (Zr (WC (fL ZW (Zc (fV 0) (Zc (fV 2) fN))))
  (Z2 (fL YU (Zc (fV 0) (Zc (fV 1) (Zc (fL ZZ (Zc (fL Zp (Zc (fV 0) fN)) (Zc (fV 1) (Zc (fV 2) fN)))) (Zc (fV 2) fN))))))))
noncomputable def XC:List D->Option D:=Z3 3 3 (F_settled Yw ZW YU ZZ Zp)
noncomputable def F_lengthened (ZF:List D->Option D):FS :=
  (Zr (X4 3 (fR few fN))
  (Zr (XH (Zq (fV 2)) (gN 4) (Zr (Zt 5 (fL Yy (Zc (fV 4) fN)))
  (XE (fR Xh (Zc (fIf (gB (f2 WK (fV 5) (fV 1))) (fC (.int 1)) (fL Vh (Zc (f2 YY (fV 0) (fV 5)) fN))) fN)) (gN 6) (Zr (Zt 7 (f2 ZS (f2 addTD (fV 4) (fL Yn (Zc (fV 6) fN))) (f2 mulTD (fL Yn (Zc (fC (.int 0)) fN)) (f2 (ZY fun i j=>.int (i - j)) (f2 (ZY fun i j=>.int (i - j)) (fL Yy (Zc (fV 0) fN)) (fV 5)) (fC (.int 1))))))
  (Zr (Wt (gB (f2 Xt (fL Yy (Zc (fL ZF (Zc (fV 0) (Zc (fV 7) (Zc (fV 1) fN)))) fN)) (fL Yy (Zc (fV 0) fN)))) (fun ρ=>.bk ρ) WO)
  (sApp 3 (f2 addTD (fV 4) (fL Yn (Zc (fV 6) fN)))))))))
  (Z2 (fV 3))))
noncomputable def YB:List D->Option D:=Z3 3 8 (F_lengthened ZF)
noncomputable def F_parkings (ZW Zp YB:List D->Option D):FS :=
  (Zr (WC (fL ZW (Zc (fV 0) (Zc (fV 1) fN))))
  (Zr (Zt 2 (fL Zp (Zc (fV 0) fN)))
  (Zr (Zt 3 (fL Xg (Zc (fL Yn fN) fN)))
  (Zr (XE (fR Xh (Zc (fL Yy (Zc (fV 2) fN)) fN)) (gN 4) (Zt 3 (fL YB (Zc (fV 2) (Zc (fV 1) (Zc (fV 3) fN))))))
  (Z2 (fV 3))))))
noncomputable def Y0:List D->Option D:=Z3 2 5 (F_parkings ZW Zp YB)
noncomputable def Wc (ZX Zi ZN Zp:List D->Option D):FS :=
  (Zr (WC (fL ZX (Zc (fV 0) fN)))
  (Z2 (fL Zi (Zc (fL ZN (Zc (fL Zp (Zc (fV 0) fN)) (Zc (fC (.int 0)) fN))) fN))))
noncomputable def Yb:List D->Option D:=Z3 1 1 (Wc ZX Zi ZN Zp)
noncomputable def Vq:FS :=
  (Zr (Zt 1 (fC (.int 0)))
  (Zr (XH (Zq (fV 0)) (gN 2) (Zr (Zt 3 (fL absD (Zc (fV 2) fN)))
  (Vw (Xq (fV 3)) (Zr (Zt 4 (fV 1))
  (Zr (Zt 1 (fV 3))
  (Zt 3 (f2 Xp (fV 4) (fV 3))))))))
  (Z2 (fV 1))))
noncomputable def Yc:List D->Option D:=Z3 1 5 Vq
noncomputable def F_choices (ZB:List D->Option D):FS :=
  (Zr (Wt (gB (f2 WK (fV 1) (fC (.int 0)))) (Z2 (fL Xg (Zc (fL Xg fN) fN))) WO)
  (Zr (X4 2 (fR few fN))
  (Zr (XH (fEnum (fV 0)) (gT [3,4]) (sExtV 2 (Z8 1 [4] (Zq (fL ZB (Zc (fSl (fV 0) (pS (f2 ZS (fV 3) (fC (.int 1)))) pN) (Zc (f2 (ZY fun i j=>.int (i - j)) (fV 1) (fC (.int 1))) fN)))) (gN 0) Y3 (f2 ZS (fL Xg (Zc (fV 1) fN)) (fV 0)))))
  (Z2 (fV 2)))))
noncomputable def R_choices:Nat->List D->Option D
  | 0=>fun _=>none
  | k+1=>Z3 2 5 (F_choices (R_choices k))
noncomputable def ZB:List D->Option D:=R_choices 8
noncomputable def F_column_at:FS :=
  (Z2 (Z8 1 [1] (Zq (fV 0)) (gN 0) Y3 (f2 YY (fV 0) (fV 1))))
noncomputable def Yo:List D->Option D:=Z3 2 2 F_column_at
noncomputable def Xf (ZB Yo Zi:List D->Option D):FS :=
  (Zr (X4 2 (fR few fN))
  (Zr (XH (Zq (fL ZB (Zc (fV 0) (Zc (fV 1) fN)))) (gN 3) (Zr (Zt 4 (Z8 1 [3] (fR Xh (Zc (fL Yy (Zc (fV 0) fN)) fN)) (gN 0) Y3 (fL Yo (Zc (fV 1) (Zc (fV 0) fN)))))
  (sExt 2 (Z8 1 [] (Zq (fL ZB (Zc (fV 4) (Zc (fV 1) fN)))) (gN 0) Y3 (fL Zi (Zc (fV 0) fN))))))
  (Z2 (fV 2))))
noncomputable def Zy:List D->Option D:=Z3 2 5 (Xf ZB Yo Zi)
noncomputable def VL (Yc Zy:List D->Option D):FS :=
  (Zr (Zt 1 (Z8 1 [0] (fR Xh (Zc (f2 ZS (fL Yy (Zc (fV 0) fN)) (fC (.int 1))) fN)) (gN 0) Y3 (fL Yc (Zc (fL Zy (Zc (fV 1) (Zc (fV 0) fN))) fN))))
  (Z2 (Z8 2 [] (fZip (fV 1) (fSl (fV 1) (pS (fC (.int 1))) pN)) (gT [0,1]) Y3 (f2 fdivD (fV 1) (fV 0)))))
noncomputable def Yt:List D->Option D:=Z3 1 2 (VL Yc Zy)
noncomputable def F_knots (ZX Yt ZN Zp:List D->Option D):FS :=
  (Zr (WC (fL ZX (Zc (fV 0) fN)))
  (Z2 (Z8 1 [] (Zq (fL Yt (Zc (fL ZN (Zc (fL Zp (Zc (fV 0) fN)) (Zc (fC (.int 0)) fN))) fN))) (gN 0) (gB (f2 Vl (fV 0) (fC (.int 1)))) (fV 0))))
noncomputable def Wg:List D->Option D:=Z3 1 1 (F_knots ZX Yt ZN Zp)
noncomputable def WZ:FS :=
  (Zr (Vw (gB (f2 Vl (fV 1) (fC (.int 0)))) (Zr (Zt 2 (f2 Xp (fV 0) (fV 1)))
  (Zr (Zt 0 (fV 1))
  (Zt 1 (fV 2)))))
  (Z2 (fV 0)))
noncomputable def Yh:List D->Option D:=Z3 2 3 WZ
end P

namespace L2
open PySem HT
theorem atI_ok {α:Type} {xs:List α} {i:Int} {x:α} (h0:0<=i) (h:xs[i.toNat]?=some x):atI xs i=some x:=by
  have hl:i.toNat < xs.length:=(List.getElem?_eq_some_iff.mp h).1
  unfold atI ixN
  rw [if_pos h0,if_pos (by omega)]
  exact h
theorem ixN_ok {n:Nat} {i:Int} (h0:0<=i) (h:i < n):ixN n i=some i.toNat:=by
  unfold ixN;rw [if_pos h0,if_pos h]
mutual
def dk:D->Bool
  | .non=>true
  | .int _=>true
  | .str x=>PyData.strOk x
  | .tup ds=>dks ds
  | .lst ds=>dks ds
  | _=>false
def dks:List D->Bool
  | []=>true
  | d::ds=>dk d && dks ds
end
mutual
def dep:D->Nat
  | .tup ds=>deps ds+1
  | .lst ds=>deps ds+1
  | _=>0
def deps:List D->Nat
  | []=>0
  | d::ds=>max (dep d) (deps ds)
end
mutual
theorem dk_lay:∀ d:D,dk d=true->(Xo d).canLay0=true/\(Xo d).depth=dep d
  | .non,_=>by simp [Xo,PyData.canLay0,PyData.depth,dep]
  | .int _,_=>by simp [Xo,PyData.canLay0,PyData.depth,dep]
  | .str x,h=>by simp [dk] at h;simp [Xo,PyData.canLay0,PyData.depth,dep,h]
  | .tup ds,h=>by
    have:=dks_lay ds (by simpa [dk] using h)
    simp [Xo,PyData.canLay0,PyData.depth,dep,this.1,this.2]
  | .lst ds,h=>by
    have:=dks_lay ds (by simpa [dk] using h)
    simp [Xo,PyData.canLay0,PyData.depth,dep,this.1,this.2]
  | .bl _,h=>by simp [dk] at h
  | .scr _,h=>by simp [dk] at h
  | .dcK _ _,h=>by simp [dk] at h
  | .dcT _ _,h=>by simp [dk] at h
  | .dcF _ _,h=>by simp [dk] at h
theorem dks_lay:∀ ds:List D,dks ds=true->PyData.canLayAll0 (X0 ds)=true/\PyData.depthAll (X0 ds)=deps ds
  | [],_=>by simp [X0,PyData.canLayAll0,PyData.depthAll,deps]
  | d::ds,h=>by
    simp [dks] at h
    have a:=dk_lay d h.1
    have b:=dks_lay ds h.2
    simp [X0,PyData.canLayAll0,PyData.depthAll,deps,a.1,a.2,b.1,b.2]
end
mutual
theorem dk_eqv:∀ (d e:D),dk d=true->dk e=true->(PyData.eqv (Xo d) (Xo e)=true ↔ d=e)
  | .non,e,_,he=>by cases e <;> simp_all [Xo,PyData.eqv,dk]
  | .int _,e,_,he=>by cases e <;> simp_all [Xo,PyData.eqv,dk]
  | .str _,e,_,he=>by cases e <;> simp_all [Xo,PyData.eqv,dk]
  | .tup ds,e,hd,he=>by
    cases e with
    | tup es =>
      have:=dks_eqv ds es (by simpa [dk] using hd) (by simpa [dk] using he)
      simp only [Xo,PyData.eqv,this,D.tup.injEq]
    | _=>simp_all [Xo,PyData.eqv,dk]
  | .lst ds,e,hd,he=>by
    cases e with
    | lst es =>
      have:=dks_eqv ds es (by simpa [dk] using hd) (by simpa [dk] using he)
      simp only [Xo,PyData.eqv,this,D.lst.injEq]
    | _=>simp_all [Xo,PyData.eqv,dk]
  | .bl _,_,h,_=>by simp [dk] at h
  | .scr _,_,h,_=>by simp [dk] at h
  | .dcK _ _,_,h,_=>by simp [dk] at h
  | .dcT _ _,_,h,_=>by simp [dk] at h
  | .dcF _ _,_,h,_=>by simp [dk] at h
theorem dks_eqv:∀ (ds es:List D),dks ds=true->dks es=true->(PyData.eqvAll (X0 ds) (X0 es)=true ↔ ds=es)
  | [],es,_,_=>by cases es <;> simp [X0,PyData.eqvAll]
  | d::ds,es,hd,he=>by
    cases es with
    | nil=>simp [X0,PyData.eqvAll]
    | cons e es =>
      simp [dks] at hd he
      have a:=dk_eqv d e hd.1 he.1
      have b:=dks_eqv ds es hd.2 he.2
      simp only [X0,PyData.eqvAll,Bool.and_eq_true,a,b,List.cons.injEq]
end
theorem okD_dk {d:D} (h:dk d=true) (h2:dep d<=64):okD d=true:=by
  unfold okD
  have:=dk_lay d h
  rw [this.1,this.2]
  simpa using h2
open Classical in
theorem eqOp_dk {d e:D} (hd:dk d=true) (he:dk e=true) (d2:dep d<=64) (e2:dep e<=64):WK d e=some (.bl (decide (d=e))):=by
  unfold WK
  rw [okD_dk hd d2,okD_dk he e2]
  have:=dk_eqv d e hd he
  simp only [Bool.and_self,if_true]
  congr 2
  by_cases h:d=e
  · rw [this.mpr h];simp [h]
  · have h':PyData.eqv (Xo d) (Xo e)=false:=by
      cases q:PyData.eqv (Xo d) (Xo e) with
      | false=>rfl
      | true=>exact absurd (this.mp q) h
    rw [h'];simp [h]
open Classical in
theorem neOp_dk {d e:D} (hd:dk d=true) (he:dk e=true) (d2:dep d<=64) (e2:dep e<=64):Vl d e=some (.bl (decide (d≠e))):=by
  have:=eqOp_dk hd he d2 e2
  unfold WK at this
  unfold Vl
  rw [okD_dk hd d2,okD_dk he e2] at this ⊢
  simp only [Bool.and_self,if_true,Option.some.injEq,D.bl.injEq] at this ⊢
  rw [this]
  by_cases h:d=e <;> simp [h]
theorem eqOp_int (i j:Int):WK (.int i) (.int j)=some (.bl (decide (i=j))):=by
  rw [eqOp_dk rfl rfl (Nat.zero_le _) (Nat.zero_le _)]
  by_cases h:i=j <;> simp [h]
theorem Wi (i j:Int):Vl (.int i) (.int j)=some (.bl (decide (i≠j))):=by
  rw [neOp_dk rfl rfl (Nat.zero_le _) (Nat.zero_le _)]
  by_cases h:i=j <;> simp [h]
theorem WW:∀ is:List Int,dks (is.map D.int)=true
  | []=>rfl
  | i::is=>by simp [dks,dk,WW is]
theorem X9:∀ is:List Int,deps (is.map D.int)=0
  | []=>rfl
  | i::is=>by simp [deps,dep,X9 is]
theorem map_int_inj {a b:List Int}:a.map D.int=b.map D.int ↔ a=b:=by
  constructor
  · intro h
    induction a generalizing b with
    | nil=>cases b with
      | nil=>rfl
      | cons x b=>cases h
    | cons x a ih=>cases b with
      | nil=>cases h
      | cons y b =>
        simp only [List.map_cons,List.cons.injEq,D.int.injEq] at h
        rw [h.1,ih h.2]
  · intro h;rw [h]
theorem eqOp_tint (a b:List Int):WK (.tup (a.map .int)) (.tup (b.map .int))=some (.bl (decide (a=b))):=by
  rw [eqOp_dk (by simp [dk,WW]) (by simp [dk,WW]) (by simp [dep,X9]) (by simp [dep,X9])]
  by_cases h:a=b <;> simp [h,map_int_inj]
theorem eqOp_lint (a b:List Int):WK (.lst (a.map .int)) (.lst (b.map .int))=some (.bl (decide (a=b))):=by
  rw [eqOp_dk (by simp [dk,WW]) (by simp [dk,WW]) (by simp [dep,X9]) (by simp [dep,X9])]
  by_cases h:a=b <;> simp [h,map_int_inj]
theorem eqOp_scr (ns:List Int):WK (.scr ns) (.lst [])=some (.bl (decide (ns=[]))):=by
  have e:∀ ns:List Int,X0 (ns.map D.int)=ns.map PyData.int:=by
    intro ns
    induction ns with
    | nil=>rfl
    | cons n ns ih=>simp [X0,Xo,ih]
  have h:=eqOp_lint ns []
  have e2:Xo (.scr ns)=Xo (.lst (ns.map .int)):=by simp [Xo,e]
  unfold WK okD at h ⊢
  rw [e2]
  exact h
theorem XF (ds:List D):Yy [.tup ds]=some (.int ds.length):=rfl
theorem Y2 (ds:List D):Yy [.lst ds]=some (.int ds.length):=rfl
theorem XQ (ds:List Int):Yy [.scr ds]=some (.int ds.length):=rfl
theorem WA (ds:List D) (i:Int):YY (.tup ds) (.int i)=atI ds i:=rfl
theorem Wm (ds:List D) (i:Int):YY (.lst ds) (.int i)=atI ds i:=rfl
theorem WS (ds:List Int) (i:Int):YY (.scr ds) (.int i)=(atI ds i).map D.int:=rfl
theorem Xd (i j:Int):ZS (.int i) (.int j)=some (.int (i+j)):=rfl
theorem ZM (F G:FS) (ρ:Y1):Zr F G ρ=oSeq (F ρ) G:=rfl
theorem Zu (ρ:Y1) (G:FS):oSeq (.nx ρ) G=G ρ:=rfl
theorem Xb (d:D) (G:FS):oSeq (.rt d) G=.rt d:=rfl
theorem compD_of {α:Type} {t:FG} {gt:FT} {fe:FE} {ρ:Wp} (enc:α->D) (p:α->Bool) (g:α->D):∀ xs:List α,(∀ x∈xs,∃ ws,t (enc x)=some ws/\gt (XM ρ ws)=some (p x)/\(p x=true->fe (XM ρ ws)=some (g x))) ->
    compD t gt fe ρ (xs.map enc)=some ((xs.filter p).map g)
  | [],_=>rfl
  | x::xs,h=>by
    obtain ⟨ws,h1,h2,h3⟩:=h x List.mem_cons_self
    have ih:=compD_of enc p g xs fun y hy=>h y (List.mem_cons_of_mem _ hy)
    rw [List.map_cons]
    unfold compD
    rw [h1]
    simp only [Option.bind_some]
    rw [h2]
    simp only [Option.bind_some]
    cases hp:p x with
    | true=>rw [if_pos rfl,h3 hp,ih];simp [hp]
    | false=>rw [if_neg (by decide),ih];simp [hp]
theorem fComp_of {α:Type} {n:Nat} {ix:List Nat} {fi:FA} {t:FG} {gt:FT} {fe:FE} {ρ:Wp} (enc:α->D) (p:α->Bool) (g:α->D) (xs:List α) (h:fi ρ=some (xs.map enc)) (hl:xs.length<=65536)
    (h2:∀ x∈xs,∃ ws,t (enc x)=some ws/\gt (XM (env0 n ix ρ) ws)=some (p x)/\(p x=true->fe (XM (env0 n ix ρ) ws)=some (g x))):Z8 n ix fi t gt fe ρ=some (.lst ((xs.filter p).map g)):=by
  unfold Z8
  rw [h]
  simp only [Option.bind_some]
  rw [if_pos (by rw [List.length_map];exact hl),compD_of enc p g xs h2]
  rfl
theorem Z5 {α:Type} {n:Nat} {ix:List Nat} {fi:FA} {t:FG} {fe:FE} {ρ:Wp} (enc:α->D) (g:α->D) (xs:List α) (h:fi ρ=some (xs.map enc)) (hl:xs.length<=65536)
    (h2:∀ x∈xs,∃ ws,t (enc x)=some ws/\fe (XM (env0 n ix ρ) ws)=some (g x)):Z8 n ix fi t Y3 fe ρ=some (.lst (xs.map g)):=by
  rw [fComp_of enc (fun _=>true) g xs h hl fun x hx=>let ⟨ws,a,b⟩:=h2 x hx;⟨ws,a,rfl,fun _=>b⟩]
  rw [List.filter_eq_self.mpr fun _ _=>rfl]
theorem Xs {n:Nat} (h:n<=65536):Xh [.int (n:Int)]=some ((List.range n).map fun k=>D.int (k:Nat)):=by
  unfold Xh
  dsimp only
  rw [if_pos (by constructor <;> omega)]
  unfold Wu
  rw [Int.toNat_natCast]
  congr 1
  exact List.map_congr_left fun k _=>by rw [Int.zero_add]
theorem rng1_of {j:Int} (h0:0<=j) (h:j<=65536):Xh [.int j]=some ((List.range j.toNat).map fun k=>D.int (k:Nat)):=by
  have:=Xs (n:=j.toNat) (by omega)
  rwa [show ((j.toNat:Nat):Int)=j by omega] at this
theorem rng2_of {i j:Int} (h0:0<=i) (h1:i<=65536) (h2:0<=j) (h:j<=65536):rng2 [.int i,.int j]=some ((List.range (j - i).toNat).map fun (k:Nat)=>D.int (i+(k:Int))):=by
  unfold rng2
  dsimp only
  rw [if_pos (by refine ⟨⟨?_,?_⟩,?_,?_⟩ <;> omega)]
  rfl
theorem Vo {t:FG} {F:FS} (P:Nat->Y1->Prop):∀ (ds:List D) (k:Nat) (ρ:Y1),(∀ (i:Nat) (d:D) (ρ:Y1),ds[i]?=some d->P (k+i) ρ->∃ ws ρ',t d=some ws/\F (Xr ρ ws)=.nx ρ'/\P (k+i+1) ρ')->P k ρ ->
    ∃ ρ',YZ t F ds ρ=.nx ρ'/\P (k+ds.length) ρ'
  | [],k,ρ,_,h=>⟨ρ,rfl,h⟩
  | d::ds,k,ρ,step,h=>by
    obtain ⟨ws,ρ',h1,h2,h3⟩:=step 0 d ρ rfl h
    obtain ⟨ρ2,h4,h5⟩:=Vo P ds (k+1) ρ' (fun i e ρ he hp=>by
      have:=step (i+1) e ρ (by simpa using he) (by rw [show k+(i+1)=k+1+i by omega];exact hp)
      rw [show k+1+i+1=k+(i+1)+1 by omega];exact this) h3
    refine ⟨ρ2,?_,by rw [List.length_cons,show k+(ds.length+1)=k+1+ds.length by omega];exact h5⟩
    unfold YZ
    rw [h1]
    dsimp only
    rw [h2]
    exact h4
theorem sumD_ints (is:List Int):Vh [.lst (is.map .int)]=some (.int is.sum):=by simp [Vh,intsOf_map]
theorem sumD_tints (is:List Int):Vh [.tup (is.map .int)]=some (.int is.sum):=by simp [Vh,intsOf_map]
theorem allD_bls (is:List Bool):allD [.lst (is.map .bl)]=some (.bl (is.all id)):=by
  simp only [allD,blsOf_map,Option.bind_some]
end L2

namespace L2
open PySem PySem.Spec PyProof.Rows
structure BU (mg:Str->Option Value):Prop where
  str_:mg "str"=none
  abs_:mg "abs"=none
theorem bb_abs:bootBuiltins ("abs":Str)=some (Value.builtin "abs"):=by decide +kernel
section
variable {X:Cx} {pos:Pos}
end
end L2

namespace P
open PySem L2
noncomputable def F_law (Yu Wg YC Yb Zo Yh Y0 XC:List D->Option D):FS :=
  (Zr (Zt 1 (fL Yu (Zc (fV 0) (Zc (fC (.int 0)) (Zc (fC (.int 4)) fN)))))
  (Zr (Zt 2 (fL Wg (Zc (fV 1) fN)))
  (Zr (Wt (XR (Xq (f1 (isD "list") (fV 2)))) (Z2 (fC (.bl false))) WO)
  (Zr (Zt 3 (fC (.int 1)))
  (Zr (XE (fR Xh (Zc (fL Yy (Zc (fV 2) fN)) fN)) (gN 4) (Zr (Wt (gOr (XR (Xq (fL YC (Zc (f2 YY (fV 2) (fV 4)) fN)))) (gOr (gB (f2 Xt (f2 YY (fV 2) (fV 4)) (fC (.int 2)))) (WJ (gB (f2 (ZY fun i j=>.bl (decide (j < i))) (fV 4) (fC (.int 0)))) (gB (f2 Vl (f2 Xp (f2 YY (fV 2) (fV 4)) (f2 YY (fV 2) (f2 (ZY fun i j=>.int (i - j)) (fV 4) (fC (.int 1))))) (fC (.int 0))))))) (Z2 (fC (.bl false))) WO)
  (Zt 3 (f2 YF (fV 3) (f2 YY (fV 2) (fV 4))))))
  (Zr (Wt (gB (f2 Vl (fV 3) (fL Yb (Zc (fV 1) fN)))) (Z2 (fC (.bl false))) WO)
  (Zr (Zt 5 (f2 ZS (fC (.int 1)) (fL Zo (Zc (fV 0) (Zc (fC (.int 30)) (Zc (fC (.int 12)) fN))))))
  (Zr (Zt 6 (fC (.int 1)))
  (Zr (XH (Zq (fV 2)) (gN 7) (Zt 6 (f2 YF (fV 6) (fL Yh (Zc (fV 5) (Zc (fV 7) fN))))))
  (Zr (Zt 8 (fL tupD (Zc (Z8 1 [] (fR Xh (Zc (f2 YY (fV 1) (fC (.int 0))) fN)) (gN 0) Y3 (fC (.int 0))) fN)))
  (Zr (Zt 9 (fC (.int 0)))
  (Zr (XH (Zq (fL Y0 (Zc (fV 1) (Zc (fC (.int 0)) fN)))) (gN 10) (Zr (Zt 11 (f2 ZS (fL Yn (Zc (f2 YF (fV 5) (f2 (ZY fun i j=>.int (i - j)) (f2 YY (fV 10) (fC (.int 0))) (fL Vh (Zc (fV 10) fN)))) fN)) (fL tupD (Zc (Z8 1 [5] (Zq (fSl (fV 10) (pS (fC (.int 1))) pN)) (gN 0) Y3 (f2 YF (fV 1) (fV 0))) fN))))
  (Zt 9 (f2 ZS (fV 9) (fL intD (Zc (f2 WK (f2 YY (fL XC (Zc (fV 1) (Zc (fV 11) (Zc (fC (.int 0)) fN)))) (fC (.int 0))) (fV 8)) fN))))))
  (Z2 (f2 WK (fV 9) (fV 6)))))))))))))))
noncomputable def G_law:List D->Option D:=Z3 1 12 (F_law Yu Wg YC Yb Zo Yh Y0 XC)
end P

namespace P
open PySem L2 HT
local macro_rules | `(tactic| simp! only [$ts,*]) => `(tactic| simp only [Z3, Z7, ZM, Zu, Xb, Xt, WO, Zt, WN, Z2, Wt, WC, X4, Vx, fV, fC, f1, f2, fN, Zc, fL, fIf, WT, fOr, fNot, gB, WJ, gOr, XR, Xq, Xw, Zq, fR, fFr, fSl, pN, pS, Z6, Z0, XM, Xr, gN, gT, env0, List.map_cons, List.map_nil, List.length_cons, List.length_nil, List.replicate, List.cons_append, List.nil_append, List.getElem?_cons_zero, List.getElem?_cons_succ, List.getElem?_nil, List.set_cons_zero, List.set_cons_succ, Option.getD_some, Option.getD_none, Option.bind_some, Option.bind_none, Option.map_some, Nat.reduceAdd, Nat.reduceSub, Nat.reduceEqDiff, if_true, if_false, reduceIte, Bool.false_eq_true, XF, Y2, XQ, ZY, Xd, Xp, WA, Wm, WS, Yn, Xg, few, truD, Vk, decide_true, decide_false, Bool.not_true, Bool.not_false, decide_not, ne_eq, not_true_eq_false, not_false_eq_true, Int.reduceEq, Int.cast_ofNat_Int, Int.natCast_add, Int.reduceAdd, Int.cast_ofNat_Int, $ts,*])
def cell (ns:List Int) (k:Int):Int:=if k < ns.length then (ns[k.toNat]?).getD 0 else if ns=[] then 0 else (ns[(k % ns.length).toNat]?).getD 0 * 31+k
theorem get_scr {ns:List Int} {i:Int} (h0:0<=i) (h:i < ns.length):(atI ns i).map D.int=some (.int ((ns[i.toNat]?).getD 0)):=by
  have hl:i.toNat < ns.length:=by omega
  rw [atI_ok (x:=ns[i.toNat]) h0 (List.getElem?_eq_getElem hl),List.getElem?_eq_getElem hl]
  rfl
theorem YG {i:Int} (h0:-(2 ^ 64) < i) (h:i < 2 ^ 64):W1 i=true:=@decide_eq_true _ (Classical.propDecidable _) ⟨h0,h⟩
theorem WQ {i j:Int} (h:W1 i=true):YF (.int i) (.int j)=some (.int (i * j)):=by simp [YF,h]
theorem mulD_r {i j:Int} (h:W1 j=true):YF (.int i) (.int j)=some (.int (i * j)):=by simp [YF,h]
theorem g_cell (ns:List Int) {k:Int} (hk:0<=k):Yx [.scr ns,.int k]=some (.int (cell ns k)):=by
  unfold Yx W0 cell
  simp! only []
  by_cases h:k < ns.length
  · simp only [h,Z3,Z7,ZM,Zu,Xb,Xt,WO,Zt,WN,Z2,Wt,WC,X4,Vx,fV,fC,f1,f2,fN,Zc,fL,fIf,WT,fOr,fNot,gB,WJ,gOr,XR,Xq,Xw,Zq,fR,fFr,fSl,pN,pS,Z6,Z0,XM,Xr,gN,gT,env0,List.map_cons,List.map_nil,List.length_cons,List.length_nil,List.replicate,List.cons_append,List.nil_append,List.getElem?_cons_zero,List.getElem?_cons_succ,List.getElem?_nil,List.set_cons_zero,List.set_cons_succ,Option.getD_some,Option.getD_none,Option.bind_some,Option.bind_none,Option.map_some,Nat.reduceAdd,Nat.reduceSub,Nat.reduceEqDiff,if_true,if_false,reduceIte,Bool.false_eq_true,XF,Y2,XQ,ZY,Xd,Xp,WA,Wm,WS,Yn,Xg,few,truD,Vk,decide_true,decide_false,Bool.not_true,Bool.not_false,decide_not,ne_eq,not_true_eq_false,not_false_eq_true,Int.reduceEq,Int.cast_ofNat_Int,Int.natCast_add,Int.reduceAdd,Int.cast_ofNat_Int]
    rw [get_scr hk h]
    rfl
  · simp only [h,Z3,Z7,ZM,Zu,Xb,Xt,WO,Zt,WN,Z2,Wt,WC,X4,Vx,fV,fC,f1,f2,fN,Zc,fL,fIf,WT,fOr,fNot,gB,WJ,gOr,XR,Xq,Xw,Zq,fR,fFr,fSl,pN,pS,Z6,Z0,XM,Xr,gN,gT,env0,List.map_cons,List.map_nil,List.length_cons,List.length_nil,List.replicate,List.cons_append,List.nil_append,List.getElem?_cons_zero,List.getElem?_cons_succ,List.getElem?_nil,List.set_cons_zero,List.set_cons_succ,Option.getD_some,Option.getD_none,Option.bind_some,Option.bind_none,Option.map_some,Nat.reduceAdd,Nat.reduceSub,Nat.reduceEqDiff,if_true,if_false,reduceIte,Bool.false_eq_true,XF,Y2,XQ,ZY,Xd,Xp,WA,Wm,WS,Yn,Xg,few,truD,Vk,decide_true,decide_false,Bool.not_true,Bool.not_false,decide_not,ne_eq,not_true_eq_false,not_false_eq_true,Int.reduceEq,Int.cast_ofNat_Int,Int.natCast_add,Int.reduceAdd,Int.cast_ofNat_Int,List.length_nil,Nat.zero_le,eqOp_scr]
    by_cases e:ns=[]
    · simp only [e,Z3,Z7,ZM,Zu,Xb,Xt,WO,Zt,WN,Z2,Wt,WC,X4,Vx,fV,fC,f1,f2,fN,Zc,fL,fIf,WT,fOr,fNot,gB,WJ,gOr,XR,Xq,Xw,Zq,fR,fFr,fSl,pN,pS,Z6,Z0,XM,Xr,gN,gT,env0,List.map_cons,List.map_nil,List.length_cons,List.length_nil,List.replicate,List.cons_append,List.nil_append,List.getElem?_cons_zero,List.getElem?_cons_succ,List.getElem?_nil,List.set_cons_zero,List.set_cons_succ,Option.getD_some,Option.getD_none,Option.bind_some,Option.bind_none,Option.map_some,Nat.reduceAdd,Nat.reduceSub,Nat.reduceEqDiff,if_true,if_false,reduceIte,Bool.false_eq_true,XF,Y2,XQ,ZY,Xd,Xp,WA,Wm,WS,Yn,Xg,few,truD,Vk,decide_true,decide_false,Bool.not_true,Bool.not_false,decide_not,ne_eq,not_true_eq_false,not_false_eq_true,Int.reduceEq,Int.cast_ofNat_Int,Int.natCast_add,Int.reduceAdd,Int.cast_ofNat_Int]
    · have hp:0 < ns.length:=List.length_pos_iff.mpr e
      have h1:(0:Int) < (ns.length:Int):=by omega
      simp only [e,Z3,Z7,ZM,Zu,Xb,Xt,WO,Zt,WN,Z2,Wt,WC,X4,Vx,fV,fC,f1,f2,fN,Zc,fL,fIf,WT,fOr,fNot,gB,WJ,gOr,XR,Xq,Xw,Zq,fR,fFr,fSl,pN,pS,Z6,Z0,XM,Xr,gN,gT,env0,List.map_cons,List.map_nil,List.length_cons,List.length_nil,List.replicate,List.cons_append,List.nil_append,List.getElem?_cons_zero,List.getElem?_cons_succ,List.getElem?_nil,List.set_cons_zero,List.set_cons_succ,Option.getD_some,Option.getD_none,Option.bind_some,Option.bind_none,Option.map_some,Nat.reduceAdd,Nat.reduceSub,Nat.reduceEqDiff,if_true,if_false,reduceIte,Bool.false_eq_true,XF,Y2,XQ,ZY,Xd,Xp,WA,Wm,WS,Yn,Xg,few,truD,Vk,decide_true,decide_false,Bool.not_true,Bool.not_false,decide_not,ne_eq,not_true_eq_false,not_false_eq_true,Int.reduceEq,Int.cast_ofNat_Int,Int.natCast_add,Int.reduceAdd,Int.cast_ofNat_Int,h1]
      rw [get_scr (Int.emod_nonneg _ (by omega)) (Int.emod_lt_of_pos _ h1)]
      simp! only [mulD_r (YG (i:=31) (by decide) (by decide))]
def drawn (ns:List Int) (k:Int):Int:=(cell ns k+7919 * k+1) * 48271 % 2147483647
def mix (ns:List Int) (k m:Int):Int:=(drawn ns k * drawn ns k+7 * drawn ns k+k) % 2147483629 % m
theorem mix_lo {ns:List Int} {k m:Int} (hm:0 < m):0<=mix ns k m:=Int.emod_nonneg _ (by omega)
theorem mix_hi {ns:List Int} {k m:Int} (hm:0 < m):mix ns k m < m:=Int.emod_lt_of_pos _ hm
theorem W3 (ns:List Int) {k m:Int} (hk:0<=k) (hm:0 < m):Zo [.scr ns,.int k,.int m]=some (.int (mix ns k m)):=by
  have d0:0<=drawn ns k:=Int.emod_nonneg _ (by decide)
  have d1:drawn ns k < 2147483647:=Int.emod_lt_of_pos _ (by decide)
  have p1:(0:Int) < 2147483647:=by decide
  have p2:(0:Int) < 2147483629:=by decide
  unfold Zo VP
  simp! only [g_cell ns hk,WQ (YG (i:=7919) (by decide) (by decide)),mulD_r (YG (i:=48271) (by decide) (by decide)),p1]
  rw [show (cell ns k+7919 * k+1) * 48271 % 2147483647=drawn ns k from rfl]
  simp! only [WQ (YG (i:=drawn ns k) (by omega) (by omega)),WQ (YG (i:=7) (by decide) (by decide)),p2,hm]
  rfl
def tab (n:Nat) (f:Nat->Int):List Int:=(List.range n).map f
theorem XW (n:Nat) (f:Nat->Int):(tab n f).length=n:=by simp [tab]
theorem WB {n:Nat} {f:Nat->Int} {i:Nat} (h:i < n):(tab n f)[i]?=some (f i):=by simp [tab,h]
theorem WL {n:Nat} {f g:Nat->Int} (h:∀ i,i < n->f i=g i):tab n f=tab n g:=List.map_congr_left fun i hi=>h i (List.mem_range.mp hi)
theorem tab_inj {n:Nat} {f g:Nat->Int} (h:tab n f=tab n g):∀ i,i < n->f i=g i:=fun i hi=>by
  have a:=WB (f:=f) hi
  rw [h,WB hi] at a
  exact (Option.some.inj a).symm
theorem tab_set {n:Nat} {f:Nat->Int} {i:Nat} {v:Int}:(tab n f).set i v=tab n (fun k=>if k=i then v else f k):=by
  apply List.ext_getElem?
  intro k
  by_cases hk:k < n
  · rw [WB hk,List.getElem?_set]
    by_cases e:i=k
    · subst e
      rw [if_pos rfl,XW,if_pos hk,if_pos rfl]
    · rw [if_neg e,WB hk,if_neg (fun z=>e z.symm)]
  · rw [List.getElem?_eq_none (by rw [List.length_set,XW];omega),List.getElem?_eq_none (by rw [XW];omega)]
theorem tab_sum (n:Nat) (f:Nat->Int):(tab n f).sum=M.S n f:=M.S_range n f
theorem tab_of (l:List Int):l=tab l.length (fun i=>(l[i]?).getD 0):=by
  apply List.ext_getElem?
  intro k
  by_cases hk:k < l.length
  · rw [WB hk,List.getElem?_eq_getElem hk];rfl
  · rw [List.getElem?_eq_none (by omega),List.getElem?_eq_none (by rw [XW];omega)]
def tD (n:Nat) (f:Nat->Int):D:=.tup ((tab n f).map .int)
def lD (n:Nat) (f:Nat->Int):D:=.lst ((tab n f).map .int)
theorem at_tab {n:Nat} {f:Nat->Int} {i:Int} (h0:0<=i) (h:i < n):atI ((tab n f).map D.int) i=some (.int (f i.toNat)) :=
  atI_ok h0 (by rw [List.getElem?_map,WB (by omega)];rfl)
theorem lD_eq (n:Nat) (f:Nat->Int):D.lst ((List.range n).map (fun i=>D.int (f i)))=lD n f:=by
  unfold lD tab
  rw [List.map_map]
  rfl
theorem range_len {n:Nat} (h:n<=1000):(List.range n).length<=65536:=by rw [List.length_range];omega
abbrev Bd:=Int×Int×Int
structure Gr where
  n:Nat
  bs:List Bd
def bD (b:Bd):D:=.tup [.int b.1,.int b.2.1,.int b.2.2]
def gD (g:Gr):D:=.tup [.int g.n,.tup (g.bs.map bD)]
structure GOk (g:Gr):Prop where
  n1:1<=g.n
  n5:g.n<=5
  rg:∀ b∈g.bs,0<=b.1/\b.1 < b.2.1/\b.2.1 < g.n/\1<=b.2.2/\b.2.2<=4
  rise:g.bs.Pairwise (fun x y=>HT.lexLt [x.1,x.2.1] [y.1,y.2.1]=true)
  par:∀ y:Nat,1<=y->y < g.n->∃ b∈g.bs,b.2.1=y
  few:g.bs.length<=10
theorem isInt_int (i:Int):isD "int" (.int i)=some (.bl true):=by simp [isD,isK,kindD]
theorem isBool_int (i:Int):isD "bool" (.int i)=some (.bl false):=by simp [isD,isK,kindD]
theorem isTup_tup (ds:List D):isD "tuple" (.tup ds)=some (.bl true):=by simp [isD,isK,kindD]
theorem isLst_lst (ds:List D):isD "list" (.lst ds)=some (.bl true):=by simp [isD,isK,kindD]
theorem g_is_number (i:Int):Yi [.int i]=some (.bl true):=by
  unfold Yi F_is_number
  simp! only [isInt_int,isBool_int]
theorem g_within (i lo hi:Int):Zn [.int i,.int lo,.int hi]=some (.bl (decide (lo<=i/\i<=hi))):=by
  unfold Zn XT
  simp! only [g_is_number]
  by_cases h:lo<=i
  · simp only [h,Z3,Z7,ZM,Zu,Xb,Xt,WO,Zt,WN,Z2,Wt,WC,X4,Vx,fV,fC,f1,f2,fN,Zc,fL,fIf,WT,fOr,fNot,gB,WJ,gOr,XR,Xq,Xw,Zq,fR,fFr,fSl,pN,pS,Z6,Z0,XM,Xr,gN,gT,env0,List.map_cons,List.map_nil,List.length_cons,List.length_nil,List.replicate,List.cons_append,List.nil_append,List.getElem?_cons_zero,List.getElem?_cons_succ,List.getElem?_nil,List.set_cons_zero,List.set_cons_succ,Option.getD_some,Option.getD_none,Option.bind_some,Option.bind_none,Option.map_some,Nat.reduceAdd,Nat.reduceSub,Nat.reduceEqDiff,if_true,if_false,reduceIte,Bool.false_eq_true,XF,Y2,XQ,ZY,Xd,Xp,WA,Wm,WS,Yn,Xg,few,truD,Vk,decide_true,decide_false,Bool.not_true,Bool.not_false,decide_not,ne_eq,not_true_eq_false,not_false_eq_true,Int.reduceEq,Int.cast_ofNat_Int,Int.natCast_add,Int.reduceAdd,Int.cast_ofNat_Int,true_and]
  · simp only [h,Z3,Z7,ZM,Zu,Xb,Xt,WO,Zt,WN,Z2,Wt,WC,X4,Vx,fV,fC,f1,f2,fN,Zc,fL,fIf,WT,fOr,fNot,gB,WJ,gOr,XR,Xq,Xw,Zq,fR,fFr,fSl,pN,pS,Z6,Z0,XM,Xr,gN,gT,env0,List.map_cons,List.map_nil,List.length_cons,List.length_nil,List.replicate,List.cons_append,List.nil_append,List.getElem?_cons_zero,List.getElem?_cons_succ,List.getElem?_nil,List.set_cons_zero,List.set_cons_succ,Option.getD_some,Option.getD_none,Option.bind_some,Option.bind_none,Option.map_some,Nat.reduceAdd,Nat.reduceSub,Nat.reduceEqDiff,if_true,if_false,reduceIte,Bool.false_eq_true,XF,Y2,XQ,ZY,Xd,Xp,WA,Wm,WS,Yn,Xg,few,truD,Vk,decide_true,decide_false,Bool.not_true,Bool.not_false,decide_not,ne_eq,not_true_eq_false,not_false_eq_true,Int.reduceEq,Int.cast_ofNat_Int,Int.natCast_add,Int.reduceAdd,Int.cast_ofNat_Int,false_and]
theorem len_tab (n:Nat) (f:Nat->Int):((tab n f).map D.int).length=n:=by rw [List.length_map,XW]
theorem numbers_aux {X:List D->D} (hX:X=D.tup\/X=D.lst) (g:Gr) (f:Nat->Int) (hn:g.n<=5):Zz [gD g,X ((tab g.n f).map .int)]=some (.bl true):=by
  have hi:W8 (X ((tab g.n f).map .int))=some ((tab g.n f).map .int):=by rcases hX with h | h <;> subst h <;> rfl
  have hl:Yy [X ((tab g.n f).map .int)]=some (.int (g.n:Int)):=by rcases hX with h | h <;> subst h <;> simp only [XF,Y2,len_tab]
  unfold Zz YK gD
  have e0:atI [D.int (g.n:Int),.tup (g.bs.map bD)] 0=some (.int g.n):=rfl
  simp! only [hl,e0,eqOp_int]
  rw [Z5 D.int (fun _=>.bl true) (tab g.n f) (by simp! only [hi]) (by rw [XW];omega)]
  · simp! only []
    rw [show ((tab g.n f).map fun _=>D.bl true)=((tab g.n f).map fun _=>true).map .bl by rw [List.map_map];rfl,allD_bls]
    simp [List.all_map]
  · intro x _
    refine ⟨_,rfl,?_⟩
    simp! only [g_is_number]
theorem g_numbersT (g:Gr) (f:Nat->Int) (hn:g.n<=5):Zz [gD g,tD g.n f]=some (.bl true):=numbers_aux (.inl rfl) g f hn
theorem b_at0 (b:Bd):atI [D.int b.1,.int b.2.1,.int b.2.2] 0=some (.int b.1):=rfl
theorem b_at1 (b:Bd):atI [D.int b.1,.int b.2.1,.int b.2.2] 1=some (.int b.2.1):=rfl
theorem b_at2 (b:Bd):atI [D.int b.1,.int b.2.1,.int b.2.2] 2=some (.int b.2.2):=rfl
theorem g_is_bundle {n:Nat} {b:Bd} (h:0<=b.1/\b.1 < b.2.1/\b.2.1 < n/\1<=b.2.2/\b.2.2<=4):YT [.int n,bD b]=some (.bl true):=by
  have h1:(0<=b.1/\b.1<=(n:Int) - 1):=by omega
  have h2:(b.1+1<=b.2.1/\b.2.1<=(n:Int) - 1):=by omega
  have h3:(1<=b.2.2/\b.2.2<=4):=by omega
  unfold YT F_is_bundle bD
  simp! only [isTup_tup,Wi,b_at0,b_at1,b_at2,g_within,h1,h2,h3,and_self]
theorem cut_take (ds:List D) (k:Nat):cutD ds none (some (k:Int))=ds.take k:=by
  unfold cutD
  rw [sIx_none,sIx_nat]
  simp
theorem cut_drop (ds:List D) (k:Nat):cutD ds (some (k:Int)) none=ds.drop k:=by
  unfold cutD
  rw [sIx_none,sIx_nat]
  by_cases h:k<=ds.length
  · rw [Nat.min_eq_left h,List.take_of_length_le (by rw [List.length_drop];omega)]
  · rw [Nat.min_eq_right (by omega),List.drop_eq_nil_of_le (by omega),List.drop_eq_nil_of_le (by omega)];simp
def zipB:List Bd->List (Bd×Bd)
  | a::b::r=>(a,b)::zipB (b::r)
  | _=>[]
theorem zip_bs:∀ bs:List Bd,XZ (bs.map bD) ((bs.map bD).drop 1)=(zipB bs).map fun p=>.tup [bD p.1,bD p.2]
  | []=>rfl
  | [_]=>rfl
  | a::b::r=>by
    have:=zip_bs (b::r)
    simp only [List.map_cons,List.drop_succ_cons,List.drop_zero,XZ,zipB] at this ⊢
    rw [this]
theorem zipB_len:∀ bs:List Bd,(zipB bs).length<=bs.length
  | []=>Nat.le_refl _
  | [_]=>Nat.zero_le _
  | a::b::r=>by
    have:=zipB_len (b::r)
    simp only [zipB,List.length_cons] at this ⊢
    omega
theorem zipB_rise:∀ {bs:List Bd},bs.Pairwise (fun x y=>HT.lexLt [x.1,x.2.1] [y.1,y.2.1]=true)->∀ p∈zipB bs,HT.lexLt [p.1.1,p.1.2.1] [p.2.1,p.2.2.1]=true
  | [],_,p,hp=>by cases hp
  | [_],_,p,hp=>by cases hp
  | a::b::r,h,p,hp=>by
    simp only [zipB,List.mem_cons] at hp
    rcases hp with z | z
    · subst z;exact (List.pairwise_cons.mp h).1 b List.mem_cons_self
    · exact zipB_rise (List.pairwise_cons.mp h).2 p z
theorem take2_bD (b:Bd):cutD [D.int b.1,.int b.2.1,.int b.2.2] none (some 2)=[D.int b.1,.int b.2.1]:=cut_take _ 2
theorem lt_bD (a b:Bd):Xt (.tup [D.int a.1,.int a.2.1]) (.tup [D.int b.1,.int b.2.1])=some (.bl (HT.lexLt [a.1,a.2.1] [b.1,b.2.1])):=rfl
theorem g_do_rise {g:Gr} (h:GOk g):XV [.tup (g.bs.map bD)]=some (.bl true):=by
  unfold XV F_do_rise
  simp! only []
  rw [Z5 (fun p:Bd×Bd=>.tup [bD p.1,bD p.2]) (fun _=>.bl true) (zipB g.bs) (by simp! only [fZip,slD,W8,cut_drop (g.bs.map bD) 1,show (some (1:Int))=some ((1:Nat):Int) from rfl,zip_bs]) (by have:=zipB_len g.bs;have:=h.few;omega)]
  · simp! only []
    rw [show ((zipB g.bs).map fun _=>D.bl true)=((zipB g.bs).map fun _=>true).map .bl by rw [List.map_map];rfl,allD_bls]
    simp [List.all_map]
  · intro p hp
    refine ⟨_,rfl,?_⟩
    have hr:=zipB_rise h.rise p hp
    unfold bD
    simp! only [List.zip_cons_cons,List.zip_nil_left,slD,take2_bD,X6,lt_bD,hr]
def kN (l:List Nat):List YW:=l.map fun (i:Nat)=>Sum.inl (i:Int)
def tN (l:List Nat):List D:=l.map fun _=>.bl true
def putN (l:List Nat) (i:Nat):List Nat:=if i∈l then l else l++[i]
theorem kN_mem {l:List Nat} {i:Nat}:(Sum.inl (i:Int):YW)∈kN l ↔ i∈l:=by
  unfold kN
  constructor
  · intro h
    obtain ⟨j,hj,e⟩:=List.mem_map.mp h
    have:(j:Int)=(i:Int):=Sum.inl.inj e
    rw [show i=j by omega];exact hj
  · intro h;exact List.mem_map.mpr ⟨i,h,rfl⟩
theorem lk_kN:∀ (l:List Nat) (i:Nat),(lkD (kN l) (tN l) (Sum.inl (i:Int):YW)).isSome=decide (i∈l)
  | [],i=>by simp [kN,tN,lkD]
  | j::l,i=>by
    have ih:=lk_kN l i
    unfold kN tN at ih ⊢
    simp only [List.map_cons,lkD]
    by_cases e:j=i
    · subst e;simp
    · have:¬ ((Sum.inl (j:Int):YW)=Sum.inl (i:Int)):=fun z=>e (by have:=Sum.inl.inj z;omega)
      rw [if_neg this,ih]
      have:i≠j:=fun z=>e z.symm
      simp [this]
theorem putKs_kN (l:List Nat) (i:Nat):putKs (kN l) (Sum.inl (i:Int):YW)=kN (putN l i):=by
  unfold putKs putN
  by_cases h:i∈l
  · rw [if_pos (kN_mem.mpr h),if_pos h]
  · rw [if_neg (fun z=>h (kN_mem.mp z)),if_neg h];simp [kN]
theorem zip_tN:∀ (l:List Nat) (x:YW),((kN l).zip (tN l)).map (fun p=>if p.1=x then (.bl true:D) else p.2)=tN l
  | [],_=>rfl
  | j::l,x=>by
    have ih:=zip_tN l x
    unfold kN tN at ih ⊢
    simp only [List.map_cons,List.zip_cons_cons,ih]
    split <;> rfl
theorem putDs_kN (l:List Nat) (i:Nat):putDs (kN l) (tN l) (Sum.inl (i:Int):YW) (.bl true)=tN (putN l i):=by
  unfold putDs putN
  by_cases h:i∈l
  · rw [if_pos (kN_mem.mpr h),if_pos h,zip_tN]
  · rw [if_neg (fun z=>h (kN_mem.mp z)),if_neg h];simp [tN]
theorem Vm {l:List Nat} {i j:Nat}:j∈putN l i ↔ j∈l\/j=i:=by
  unfold putN
  by_cases h:i∈l
  · rw [if_pos h]
    constructor
    · exact .inl
    · rintro (z | z)
      · exact z
      · subst z;exact h
  · rw [if_neg h];simp
theorem putN_nodup {l:List Nat} {i:Nat} (h:l.Nodup):(putN l i).Nodup:=by
  unfold putN
  by_cases e:i∈l
  · rw [if_pos e];exact h
  · rw [if_neg e,List.nodup_append]
    exact ⟨h,by simp,fun a ha b hb=>by simp at hb;subst hb;exact fun z=>e (z ▸ ha)⟩
structure Rch (n:Nat) (l:List Nat):Prop where
  nd:l.Nodup
  lt:∀ i∈l,i < n
theorem Rch.put {n:Nat} {l:List Nat} {i:Nat} (h:Rch n l) (hi:i < n):Rch n (putN l i):=⟨putN_nodup h.nd,fun j hj=>by
  rcases Vm.mp hj with z | z
  · exact h.lt j z
  · omega⟩
theorem Rch.len {n:Nat} {l:List Nat} (h:Rch n l):l.length<=n:=M.length_le_of_nodup n l h.nd h.lt
def Wl (g:Gr) (l:List Nat) (x:List (Option Cl)):Y1:=some (.val (.int g.n))::some (.val (.tup (g.bs.map bD)))::some (.own (.dcK (kN l) (tN l)))::x
theorem jstore {g:Gr} {l:List Nat} {a b c:Option Cl} {i:Nat} (k:Nat) (hl:l.length<=5) {x:List (Option Cl)} (hx:(Z6 (Wl g l x))[k]?=some (some (.int (i:Int)))) :
    Xk 2 (fV k) (fC (.bl true)) (Wl g l x)=.nx (Wl g (putN l i) x):=by
  have e1:fV k (Z6 (Wl g l x))=some (.int (i:Int)):=by unfold fV;rw [hx];rfl
  have e2:fC (.bl true) (Z6 (Wl g l x))=some (.bl true):=rfl
  have e3:(Wl g l x)[2]?=some (some (.own (.dcK (kN l) (tN l)))):=rfl
  unfold Xk
  rw [e1,e2,e3]
  dsimp only [keyK]
  rw [if_pos ⟨rfl,by unfold kN Xi;rw [List.length_map];omega⟩,putKs_kN,putDs_kN]
  rfl
theorem jturn {g:Gr} {l:List Nat} {x3:Option Cl} {a b:Nat} {k:Int} (hl:l.length<=4\/l.length<=5) (hl5:(putN l a).length<=5) :
    Wt (gOr (gB (f2 WH (fV 4) (fV 2))) (gB (f2 WH (fV 5) (fV 2)))) (Zr (Xk 2 (fV 4) (fC (.bl true))) (Xk 2 (fV 5) (fC (.bl true)))) WO (Wl g l [x3,some (.val (.int a)),some (.val (.int b)),some (.val (.int k))]) =
      .nx (Wl g (if a∈l\/b∈l then putN (putN l a) b else l) [x3,some (.val (.int a)),some (.val (.int b)),some (.val (.int k))]):=by
  have e4:gB (f2 WH (fV 4) (fV 2)) (Z6 (Wl g l [x3,some (.val (.int a)),some (.val (.int b)),some (.val (.int k))]))=some (decide (a∈l)):=by
    unfold Wl
    simp! only [WH,dLook,keyK,lk_kN]
  have e5:gB (f2 WH (fV 5) (fV 2)) (Z6 (Wl g l [x3,some (.val (.int a)),some (.val (.int b)),some (.val (.int k))]))=some (decide (b∈l)):=by
    unfold Wl
    simp! only [WH,dLook,keyK,lk_kN]
  have put:Zr (Xk 2 (fV 4) (fC (.bl true))) (Xk 2 (fV 5) (fC (.bl true))) (Wl g l [x3,some (.val (.int a)),some (.val (.int b)),some (.val (.int k))])=.nx (Wl g (putN (putN l a) b) [x3,some (.val (.int a)),some (.val (.int b)),some (.val (.int k))]):=by
    rw [ZM,jstore (a:=none) (b:=none) (c:=none) (i:=a) 4 (by omega) rfl,Zu,jstore (a:=none) (b:=none) (c:=none) (i:=b) 5 hl5 rfl]
  unfold Wt gOr
  rw [e4,e5]
  by_cases ha:a∈l
  · simp only [ha,decide_true,Option.bind_some,if_true,true_or];exact put
  · by_cases hb:b∈l
    · simp only [ha,hb,decide_true,decide_false,Option.bind_some,Bool.false_eq_true,if_false,if_true,or_true];exact put
    · simp only [ha,hb,decide_false,Option.bind_some,Bool.false_eq_true,if_false,or_self];rfl
theorem g_is_joined {g:Gr} (h:GOk g):Y7 [.int g.n,.tup (g.bs.map bD)]=some (.bl true):=by
  have n5:=h.n5
  have n1:=h.n1
  have inner:∀ (r:Nat) (l:List Nat) (x3 x4 x5 x6:Option Cl),Rch g.n l->(∀ i,i<=r->i < g.n->i∈l) ->
      ∃ l' x4' x5' x6',XH (Zq (fV 1)) (gT [4,5,6]) (Wt (gOr (gB (f2 WH (fV 4) (fV 2))) (gB (f2 WH (fV 5) (fV 2)))) (Zr (Xk 2 (fV 4) (fC (.bl true))) (Xk 2 (fV 5) (fC (.bl true)))) WO) (Wl g l [x3,x4,x5,x6])=.nx (Wl g l' [x3,x4',x5',x6']) /\
        Rch g.n l'/\∀ i,i<=r+1->i < g.n->i∈l':=by
    intro r l x3 x4 x5 x6 hR hr
    have hf:Zq (fV 1) (Z0 (Wl g l [x3,x4,x5,x6]))=some (g.bs.map bD):=rfl
    unfold XH
    rw [hf]
    dsimp only
    obtain ⟨ρ',e,⟨l',y4,y5,y6,rfl,h1,h2,h3⟩⟩:=Vo (t:=gT [4,5,6]) (F:=Wt (gOr (gB (f2 WH (fV 4) (fV 2))) (gB (f2 WH (fV 5) (fV 2)))) (Zr (Xk 2 (fV 4) (fC (.bl true))) (Xk 2 (fV 5) (fC (.bl true)))) WO)
      (fun k ρ=>∃ l' y4 y5 y6,ρ=Wl g l' [x3,y4,y5,y6]/\Rch g.n l'/\(∀ i∈l,i∈l')/\∀ (m:Nat) (b:Bd),m < k->g.bs[m]?=some b->b.1<=r->b.2.1.toNat∈l') (g.bs.map bD) 0 (Wl g l [x3,x4,x5,x6]) (fun i d ρ hd hP=>by
        obtain ⟨l',y4,y5,y6,rfl,h1,h2,h3⟩:=hP
        rw [List.getElem?_map] at hd
        cases hb:g.bs[i]? with
        | none=>rw [hb] at hd;cases hd
        | some b =>
          rw [hb] at hd
          cases hd
          obtain ⟨r0,r1,r2,_,_⟩:=h.rg b (List.mem_of_getElem? hb)
          have ea:b.1=((b.1.toNat:Nat):Int):=by omega
          have eb:b.2.1=((b.2.1.toNat:Nat):Int):=by omega
          have ra:=h1.put (i:=b.1.toNat) (by omega)
          refine ⟨_,_,rfl,?_,⟨if b.1.toNat∈l'\/b.2.1.toNat∈l' then putN (putN l' b.1.toNat) b.2.1.toNat else l',some (.val (.int b.1.toNat)),some (.val (.int b.2.1.toNat)),some (.val (.int b.2.2)),rfl,?_,?_,?_⟩⟩
          · have:=jturn (g:=g) (l:=l') (x3:=x3) (a:=b.1.toNat) (b:=b.2.1.toNat) (k:=b.2.2) (.inr (by have:=h1.len;omega)) (by have:=ra.len;omega)
            rw [<- this]
            show _=Wt _ _ _ _
            congr 1
            unfold Wl
            simp! only [List.zip_cons_cons,List.zip_nil_left]
            rw [<- ea,<- eb]
          · split
            · exact ra.put (by omega)
            · exact h1
          · intro j hj
            split
            · exact Vm.mpr (.inl (Vm.mpr (.inl (h2 j hj))))
            · exact h2 j hj
          · intro m c hm hc hcr
            by_cases em:m=i
            · subst em
              rw [hb] at hc;cases hc
              have hal:b.1.toNat∈l':=h2 _ (hr _ (by omega) (by omega))
              rw [if_pos (.inl hal)]
              exact Vm.mpr (.inr rfl)
            · have:=h3 m c (by omega) hc hcr
              split
              · exact Vm.mpr (.inl (Vm.mpr (.inl this)))
              · exact this) ⟨l,x4,x5,x6,rfl,hR,fun i hi=>hi,fun m b hm=>absurd hm (by omega)⟩
    refine ⟨l',y4,y5,y6,e,h1,fun i hi hin=>?_⟩
    by_cases ei:i<=r
    · exact h2 i (hr i ei hin)
    · have:i=r+1:=by omega
      subst this
      obtain ⟨b,hb,eb⟩:=h.par (r+1) (by omega) hin
      obtain ⟨m,hm⟩:=List.mem_iff_getElem?.mp hb
      have:=h3 m b (by have:=(List.getElem?_eq_some_iff.mp hm).1;simpa using this) hm (by have:=h.rg b hb;omega)
      rwa [eb] at this
  unfold Y7 F_is_joined
  have es:Z7 2 7 [D.int g.n,.tup (g.bs.map bD)]=[some (.val (.int g.n)),some (.val (.tup (g.bs.map bD))),none,none,none,none,none]:=rfl
  unfold Z3
  rw [if_pos (show ([D.int g.n,.tup (g.bs.map bD)]:List D).length=2 from rfl),es]
  have e1:sOwn1 2 0 true [some (.val (.int g.n)),some (.val (.tup (g.bs.map bD))),none,none,none,none,none]=.nx (Wl g [0] [none,none,none,none]):=rfl
  rw [ZM,e1,Zu,ZM]
  have hf:∀ x,fR Xh (Zc (fV 0) fN) (Z6 (Wl g [0] x))=some ((List.range g.n).map fun k=>D.int (k:Nat)):=fun x=>by
    unfold Wl
    simp! only [Xs (show g.n<=65536 by omega)]
  unfold XE
  rw [hf]
  dsimp only
  obtain ⟨ρ',e,⟨l',y3,y4,y5,y6,rfl,h1,h2⟩⟩:=Vo (t:=gN 3) (F:=XH (Zq (fV 1)) (gT [4,5,6]) (Wt (gOr (gB (f2 WH (fV 4) (fV 2))) (gB (f2 WH (fV 5) (fV 2)))) (Zr (Xk 2 (fV 4) (fC (.bl true))) (Xk 2 (fV 5) (fC (.bl true)))) WO))
    (fun k ρ=>∃ l' y3 y4 y5 y6,ρ=Wl g l' [y3,y4,y5,y6]/\Rch g.n l'/\∀ i,i<=k->i < g.n->i∈l') ((List.range g.n).map fun k=>D.int (k:Nat)) 0 (Wl g [0] [none,none,none,none]) (fun i d ρ hd hP=>by
      obtain ⟨l',y3,y4,y5,y6,rfl,h1,h2⟩:=hP
      obtain ⟨l2,z4,z5,z6,e2,h3,h4⟩:=inner (0+i) l' (some (.val d)) y4 y5 y6 h1 h2
      exact ⟨_,_,rfl,e2,l2,_,z4,z5,z6,rfl,h3,h4⟩) ⟨[0],none,none,none,none,rfl,⟨by simp,fun i hi=>by simp at hi;omega⟩,fun i hi _=>by simp;omega⟩
  rw [e,Zu]
  have hl:l'.length=g.n:=by
    have a:=h1.len
    have b:(List.range g.n).length<=l'.length:=by
      have key:∀ (l m:List Nat),l.Nodup->(∀ x∈l,x∈m)->l.length<=m.length:=by
        intro l
        induction l with
        | nil=>intro m _ _;simp
        | cons x l ih =>
          intro m nd h
          have hx:=h x List.mem_cons_self
          have:=ih (m.erase x) (List.nodup_cons.mp nd).2 fun y hy=>by
            have hne:y≠x:=fun z=>by subst z;exact (List.nodup_cons.mp nd).1 hy
            exact (List.mem_erase_of_ne hne).mpr (h y (List.mem_cons_of_mem _ hy))
          have e:=List.length_erase_of_mem hx
          have p:=List.length_pos_of_mem hx
          simp
          omega
      refine key _ _ List.nodup_range fun x hx=>h2 x ?_ (List.mem_range.mp hx)
      have:=List.mem_range.mp hx
      simp;omega
    simp at b
    omega
  unfold Wl
  simp! only [lenKD,eqOp_int]
  unfold kN
  rw [List.length_map,hl]
  simp
theorem gD_at0 (g:Gr):YY (gD g) (.int 0)=some (.int g.n):=rfl
theorem gD_at1 (g:Gr):YY (gD g) (.int 1)=some (.tup (g.bs.map bD)):=rfl
theorem g_is_ground {g:Gr} (h:GOk g):Y8 [gD g]=some (.bl true):=by
  have n5:=h.n5
  have n1:=h.n1
  have w:(1<=(g.n:Int)/\(g.n:Int)<=5):=by omega
  have hc:Z8 1 [1] (Zq (fV 2)) (gN 0) Y3 (fL YT (Zc (fV 1) (Zc (fV 0) fN))) [some (gD g),some (.int g.n),some (.tup (g.bs.map bD))]=some (.lst (g.bs.map fun _=>.bl true)):=by
    refine Z5 bD (fun _=>.bl true) g.bs rfl (by have:=h.few;omega) fun b hb=>⟨_,rfl,?_⟩
    simp! only [g_is_bundle (h.rg b hb)]
  have ha:allD [.lst (g.bs.map fun _=>D.bl true)]=some (.bl true):=by
    rw [show (g.bs.map fun _=>D.bl true)=(g.bs.map fun _=>true).map .bl by rw [List.map_map];rfl,allD_bls]
    simp [List.all_map]
  have et:isD "tuple" (gD g)=some (.bl true):=rfl
  have el:Yy [gD g]=some (.int 2):=rfl
  unfold Y8 F_is_ground
  simp! only [et,el,Wi,gD_at0,gD_at1,g_within,w,and_self,isTup_tup,hc,ha,g_do_rise h,g_is_joined h]
theorem g_checked {g:Gr} (h:GOk g):ZX [gD g]=some (gD g):=by
  unfold ZX F_checked
  simp! only [g_is_ground h]
theorem g_is_load {g:Gr} (h:GOk g) (f:Nat->Int):XU [gD g,tD g.n f]=some (.bl true):=by
  have et:isD "tuple" (tD g.n f)=some (.bl true):=rfl
  unfold XU F_is_load
  simp! only [g_checked h,et,g_numbersT g f h.n5]
theorem g_checked_load {g:Gr} (h:GOk g) (f:Nat->Int):Yw [gD g,tD g.n f]=some (tD g.n f):=by
  unfold Yw WY
  simp! only [g_is_load h f]
def ln (bs:List Bd) (i j:Nat):Int:=(bs.map fun b=>if b.1=((min i j:Nat):Int)/\b.2.1=((max i j:Nat):Int) then b.2.2 else 0).sum
theorem mapD_sum {α:Type} (f:α->Int) (xs:List α):Vh [.lst (xs.map fun x=>D.int (f x))]=some (.int (xs.map f).sum):=by
  rw [show (xs.map fun x=>D.int (f x))=(xs.map f).map .int by rw [List.map_map];rfl,sumD_ints]
theorem minD_nat (i j:Nat):minD [.int i,.int j]=some (.int (min i j:Nat)):=by
  unfold minD
  dsimp only
  by_cases h:(j:Int) < i
  · rw [if_pos h,Nat.min_eq_right (by omega)]
  · rw [if_neg h,Nat.min_eq_left (by omega)]
theorem maxD_nat (i j:Nat):maxD [.int i,.int j]=some (.int (max i j:Nat)):=by
  unfold maxD
  dsimp only
  by_cases h:(j:Int) > i
  · rw [if_pos h,Nat.max_eq_right (by omega)]
  · rw [if_neg h,Nat.max_eq_left (by omega)]
def fl (c:Nat->Int) (k:Nat) (b:Bd):Int:=(if b.1=(k:Int) then b.2.2 * (c b.1.toNat - c b.2.1.toNat) else 0) - (if b.2.1=(k:Int) then b.2.2 * (c b.1.toNat - c b.2.1.toNat) else 0)
theorem S_lists {α:Type} (n:Nat) (h:α->Nat->Int):∀ xs:List α,M.S n (fun j=>(xs.map fun x=>h x j).sum)=(xs.map fun x=>M.S n (h x)).sum
  | []=>M.S_zero n
  | x::xs=>by
    simp only [List.map_cons,List.sum_cons]
    rw [M.S_add,S_lists n h xs]
theorem sum_map_mul {α:Type} (f:α->Int) (k:Int):∀ xs:List α,(xs.map f).sum * k=(xs.map fun x=>f x * k).sum
  | []=>by simp
  | x::xs=>by simp only [List.map_cons,List.sum_cons,Int.add_mul,sum_map_mul f k xs]
theorem flow_fl {n:Nat} {bs:List Bd} (h:∀ b∈bs,0<=b.1/\b.1 < b.2.1/\b.2.1 < n/\1<=b.2.2/\b.2.2<=4) (c:Nat->Int) {k:Nat} (hk:k < n):M.flow n (ln bs) c k=(bs.map (fl c k)).sum:=by
  unfold M.flow ln
  rw [M.S_congr n (g:=fun j=>(bs.map fun b=>(if b.1=((min k j:Nat):Int)/\b.2.1=((max k j:Nat):Int) then b.2.2 else 0) * (c k - c j)).sum) fun j _=>sum_map_mul _ _ _,S_lists]
  congr 1
  refine List.map_congr_left fun b hb=>?_
  obtain ⟨h0,h1,h2,_,_⟩:=h b hb
  unfold fl
  by_cases ea:b.1=(k:Int)
  · rw [if_pos ea,if_neg (by omega)]
    rw [M.S_congr n (g:=fun j=>if j=b.2.1.toNat then b.2.2 * (c k - c j) else 0) fun j _=>?_,M.S_one n b.2.1.toNat _ (by omega)]
    · rw [show b.1.toNat=k by omega];omega
    · by_cases e:j=b.2.1.toNat
      · rw [if_pos e,if_pos (by omega)]
      · rw [if_neg e,if_neg (by omega),Int.zero_mul]
  · rw [if_neg ea]
    by_cases eb:b.2.1=(k:Int)
    · rw [if_pos eb]
      rw [M.S_congr n (g:=fun j=>if j=b.1.toNat then b.2.2 * (c k - c j) else 0) fun j _=>?_,M.S_one n b.1.toNat _ (by omega)]
      · rw [show b.2.1.toNat=k by omega,Int.mul_sub,Int.mul_sub];omega
      · by_cases e:j=b.1.toNat
        · rw [if_pos e,if_pos (by omega)]
        · rw [if_neg e,if_neg (by omega),Int.zero_mul]
    · rw [if_neg eb]
      rw [M.S_congr n (g:=fun _=>0) fun j _=>?_,M.S_zero]
      · rfl
      · rw [if_neg (by omega),Int.zero_mul]
theorem lD_congr {n:Nat} {f g:Nat->Int} (h:∀ i,i < n->f i=g i):lD n f=lD n g:=by unfold lD;rw [WL h]
theorem ix_lD {n:Nat} {f:Nat->Int} {i:Int} (h0:0<=i) (h:i < n):YY (lD n f) (.int i)=some (.int (f i.toNat)):=at_tab h0 h
theorem ix_tD {n:Nat} {f:Nat->Int} {i:Int} (h0:0<=i) (h:i < n):YY (tD n f) (.int i)=some (.int (f i.toNat)):=at_tab h0 h
theorem sStore_lD {ρ:Y1} {i:Nat} {fk fv:FE} {n:Nat} {f:Nat->Int} {k v:Int} (h:ρ[i]?=some (some (.own (lD n f)))) (hv:fv (Z6 ρ)=some (.int v)) (hk:fk (Z6 ρ)=some (.int k)) (h0:0<=k) (h1:k < n) :
    W7 i fk fv ρ=.nx (ρ.set i (some (.own (lD n fun j=>if j=k.toNat then v else f j)))):=by
  unfold W7
  rw [h]
  unfold lD
  dsimp only
  rw [hv,hk]
  dsimp only
  rw [if_pos (show imm (.int v)=true from rfl),show ixN ((tab n f).map D.int).length k=some k.toNat from ixN_ok h0 (by rw [List.length_map,XW];exact h1)]
  dsimp only
  rw [<- List.map_set,tab_set]
theorem g_moved {g:Gr} (h:GOk g) (d c:Nat->Int):XD [gD g,tD g.n d,lD g.n c]=some (tD g.n (M.fire g.n (ln g.bs) d c)):=by
  have es:Z7 3 8 [gD g,tD g.n d,lD g.n c]=[some (.val (gD g)),some (.val (tD g.n d)),some (.val (lD g.n c)),none,none,none,none,none]:=rfl
  have turn:∀ (b:Bd) (f:Nat->Int) (x:Option Cl),(0<=b.1/\b.1 < b.2.1/\b.2.1 < g.n/\1<=b.2.2/\b.2.2<=4) ->
      (Zr (Zt 7 (f2 YF (fV 6) (f2 (ZY fun i j=>.int (i - j)) (f2 YY (fV 2) (fV 4)) (f2 YY (fV 2) (fV 5)))))
        (Zr (W7 3 (fV 4) (f2 (ZY fun i j=>.int (i - j)) (f2 YY (fV 3) (fV 4)) (fV 7))) (W7 3 (fV 5) (f2 ZS (f2 YY (fV 3) (fV 5)) (fV 7)))))
        [some (.val (gD g)),some (.val (tD g.n d)),some (.val (lD g.n c)),some (.own (lD g.n f)),some (.val (.int b.1)),some (.val (.int b.2.1)),some (.val (.int b.2.2)),x] =
      .nx [some (.val (gD g)),some (.val (tD g.n d)),some (.val (lD g.n c)),some (.own (lD g.n fun k=>f k - fl c k b)),some (.val (.int b.1)),some (.val (.int b.2.1)),some (.val (.int b.2.2)),some (.val (.int (b.2.2 * (c b.1.toNat - c b.2.1.toNat))))]:=by
    intro b f x ⟨h0,h1,h2,h3,h4⟩
    rw [ZM]
    have e0:Zt 7 (f2 YF (fV 6) (f2 (ZY fun i j=>.int (i - j)) (f2 YY (fV 2) (fV 4)) (f2 YY (fV 2) (fV 5)))) [some (.val (gD g)),some (.val (tD g.n d)),some (.val (lD g.n c)),some (.own (lD g.n f)),some (.val (.int b.1)),some (.val (.int b.2.1)),some (.val (.int b.2.2)),x] =
        .nx [some (.val (gD g)),some (.val (tD g.n d)),some (.val (lD g.n c)),some (.own (lD g.n f)),some (.val (.int b.1)),some (.val (.int b.2.1)),some (.val (.int b.2.2)),some (.val (.int (b.2.2 * (c b.1.toNat - c b.2.1.toNat))))]:=by
      simp! only [ix_lD h0 (show b.1 < (g.n:Int) by omega),ix_lD (show 0<=b.2.1 by omega) h2,WQ (YG (i:=b.2.2) (by omega) (by omega))]
    rw [e0,Zu,ZM]
    rw [sStore_lD (n:=g.n) (f:=f) (k:=b.1) (v:=f b.1.toNat - b.2.2 * (c b.1.toNat - c b.2.1.toNat)) rfl (by simp! only [ix_lD h0 (show b.1 < (g.n:Int) by omega)]) rfl h0 (by omega),Zu]
    rw [sStore_lD (n:=g.n) (k:=b.2.1) (v:=f b.2.1.toNat+b.2.2 * (c b.1.toNat - c b.2.1.toNat)) rfl (by
      simp! only [ix_lD (show 0<=b.2.1 by omega) h2]
      rw [if_neg (by omega)]) rfl (by omega) h2]
    simp! only []
    have key:∀ k,k < g.n->(if k=b.2.1.toNat then f b.2.1.toNat+b.2.2 * (c b.1.toNat - c b.2.1.toNat) else if k=b.1.toNat then f b.1.toNat - b.2.2 * (c b.1.toNat - c b.2.1.toNat) else f k)=f k - fl c k b:=?_
    · rw [lD_congr key]
    intro k _
    unfold fl
    by_cases e1:k=b.2.1.toNat
    · rw [if_pos e1,if_neg (by omega),if_pos (by omega),e1];omega
    · rw [if_neg e1]
      by_cases e2:k=b.1.toNat
      · rw [if_pos e2,if_pos (by omega),if_neg (by omega),e2];omega
      · rw [if_neg e2,if_neg (by omega),if_neg (by omega)];omega
  unfold XD F_moved Z3
  rw [if_pos (show ([gD g,tD g.n d,lD g.n c]:List D).length=3 from rfl),es,ZM]
  have e1:X4 3 (Zq (fV 1)) [some (.val (gD g)),some (.val (tD g.n d)),some (.val (lD g.n c)),none,none,none,none,none]=.nx [some (.val (gD g)),some (.val (tD g.n d)),some (.val (lD g.n c)),some (.own (lD g.n d)),none,none,none,none]:=rfl
  rw [e1,Zu,ZM]
  have hf:Zq (f2 YY (fV 0) (fC (.int 1))) (Z0 [some (.val (gD g)),some (.val (tD g.n d)),some (.val (lD g.n c)),some (.own (lD g.n d)),none,none,none,none])=some (g.bs.map bD):=rfl
  unfold XH
  rw [hf]
  dsimp only
  obtain ⟨ρ',e,⟨x4,x5,x6,x7,rfl⟩⟩:=Vo (t:=gT [4,5,6]) (F:=Zr (Zt 7 (f2 YF (fV 6) (f2 (ZY fun i j=>.int (i - j)) (f2 YY (fV 2) (fV 4)) (f2 YY (fV 2) (fV 5)))))
        (Zr (W7 3 (fV 4) (f2 (ZY fun i j=>.int (i - j)) (f2 YY (fV 3) (fV 4)) (fV 7))) (W7 3 (fV 5) (f2 ZS (f2 YY (fV 3) (fV 5)) (fV 7)))))
    (fun i ρ=>∃ x4 x5 x6 x7,ρ=[some (.val (gD g)),some (.val (tD g.n d)),some (.val (lD g.n c)),some (.own (lD g.n fun k=>d k - ((g.bs.take i).map (fl c k)).sum)),x4,x5,x6,x7]) (g.bs.map bD) 0
    [some (.val (gD g)),some (.val (tD g.n d)),some (.val (lD g.n c)),some (.own (lD g.n d)),none,none,none,none] (fun i e ρ he hP=>by
      obtain ⟨x4,x5,x6,x7,rfl⟩:=hP
      rw [List.getElem?_map] at he
      cases hb:g.bs[i]? with
      | none=>rw [hb] at he;cases he
      | some b =>
        rw [hb] at he;cases he
        have key:∀ k,k < g.n->d k - ((g.bs.take (0+i)).map (fl c k)).sum - fl c k b=d k - ((g.bs.take (0+i+1)).map (fl c k)).sum:=fun k _=>by
          have:g.bs.take (0+i+1)=g.bs.take (0+i)++[b]:=by
            rw [Nat.zero_add,List.take_add_one,hb];rfl
          rw [this,List.map_append,List.sum_append]
          simp only [List.map_cons,List.map_nil,List.sum_cons,List.sum_nil]
          omega
        refine ⟨_,_,rfl,turn b _ x7 (h.rg b (List.mem_of_getElem? hb)),some (.val (.int b.1)),some (.val (.int b.2.1)),some (.val (.int b.2.2)),some (.val (.int (b.2.2 * (c b.1.toNat - c b.2.1.toNat)))),?_⟩
        rw [lD_congr key]) ⟨none,none,none,none,by
          rw [lD_congr (f:=d) fun k _=>?_]
          simp⟩
  rw [e,Zu]
  simp! only []
  show some (D.tup _)=some (tD _ _)
  unfold tD
  congr 3
  refine WL fun k hk=>?_
  unfold M.fire
  rw [flow_fl h.rg c hk,List.length_map,Nat.zero_add,List.take_length]
theorem ln_sym (bs:List Bd) (i j:Nat):ln bs i j=ln bs j i:=by unfold ln;rw [Nat.min_comm,Nat.max_comm]
def hits (i j:Nat) (b:Bd):Bool:=decide (b.1=((min i j:Nat):Int)/\b.2.1=((max i j:Nat):Int))
theorem ln_none {bs:List Bd} {i j:Nat} (h:∀ b∈bs,hits i j b=false):ln bs i j=0:=by
  unfold ln
  induction bs with
  | nil=>rfl
  | cons b bs ih =>
    have h0:=h b List.mem_cons_self
    unfold hits at h0
    rw [List.map_cons,List.sum_cons,ih fun c hc=>h c (List.mem_cons_of_mem _ hc),if_neg (of_decide_eq_false h0)];rfl
theorem ln_cons (b:Bd) (bs:List Bd) (i j:Nat):ln (b::bs) i j=(if hits i j b=true then b.2.2 else 0)+ln bs i j:=by
  unfold ln hits
  rw [List.map_cons,List.sum_cons]
  simp only [decide_eq_true_eq]
theorem rise_ne {b c:Bd} (h:HT.lexLt [b.1,b.2.1] [c.1,c.2.1]=true) {i j:Nat} (hb:hits i j b=true):hits i j c=false:=by
  unfold hits at *
  have hb:=of_decide_eq_true hb
  refine decide_eq_false fun hc=>?_
  rw [hb.1,hb.2,hc.1,hc.2,lexLt_irr] at h
  cases h
theorem ln_nn {bs:List Bd} (h:∀ b∈bs,0<=b.2.2) (i j:Nat):0<=ln bs i j:=by
  induction bs with
  | nil=>exact Int.le_refl _
  | cons b bs ih =>
    have h0:=h b List.mem_cons_self
    have:=ih fun c hc=>h c (List.mem_cons_of_mem _ hc)
    rw [ln_cons]
    split <;> omega
theorem ln_diag {n:Nat} {bs:List Bd} (h:∀ b∈bs,0<=b.1/\b.1 < b.2.1/\b.2.1 < n/\1<=b.2.2/\b.2.2<=4) (i:Nat):ln bs i i=0:=ln_none fun b hb=>decide_eq_false fun z=>by
  have:=h b hb
  rw [Nat.min_self,Nat.max_self] at z
  omega
theorem ln_le4:∀ {bs:List Bd},bs.Pairwise (fun x y=>HT.lexLt [x.1,x.2.1] [y.1,y.2.1]=true)->(∀ b∈bs,b.2.2<=4)->∀ i j,ln bs i j<=4
  | [],_,_,i,j=>by show (0:Int)<=4;decide
  | b::bs,hr,h,i,j=>by
    rw [ln_cons]
    cases e:hits i j b with
    | true =>
      rw [ln_none fun c hc=>rise_ne ((List.pairwise_cons.mp hr).1 c hc) e,if_pos rfl]
      have:=h b List.mem_cons_self;omega
    | false =>
      have:=ln_le4 (List.pairwise_cons.mp hr).2 (fun c hc=>h c (List.mem_cons_of_mem _ hc)) i j
      rw [if_neg (by decide)];omega
theorem ln_mem {bs:List Bd} (h:∀ b∈bs,0<=b.2.2) {b:Bd} (hb:b∈bs) {i j:Nat} (hh:hits i j b=true):b.2.2<=ln bs i j:=by
  induction bs with
  | nil=>cases hb
  | cons c bs ih =>
    rw [ln_cons]
    have n1:=ln_nn (fun c hc=>h c (List.mem_cons_of_mem _ hc)) i j
    have n2:=h c List.mem_cons_self
    rcases List.mem_cons.mp hb with z | z
    · subst z;rw [if_pos hh];omega
    · have:=ih (fun c hc=>h c (List.mem_cons_of_mem _ hc)) z
      split <;> omega
theorem GOk.gd {g:Gr} (h:GOk g):M.Gd g.n (ln g.bs) where
  net:=⟨fun i j _ _=>ln_sym g.bs i j,ln_nn fun b hb=>by have:=h.rg b hb;omega,ln_diag h.rg⟩
  le4:=ln_le4 h.rise fun b hb=>(h.rg b hb).2.2.2.2
  pos:=h.n1
  le5:=h.n5
  par:=fun y h1 hy=>by
    obtain ⟨b,hb,eb⟩:=h.par y h1 hy
    obtain ⟨r0,r1,r2,r3,r4⟩:=h.rg b hb
    refine ⟨b.1.toNat,by omega,?_⟩
    have:=ln_mem (i:=b.1.toNat) (j:=y) (fun b hb=>by have:=h.rg b hb;omega) hb (decide_eq_true (by rw [Nat.min_eq_left (by omega),Nat.max_eq_right (by omega)];omega))
    omega
abbrev Jn:=(Nat×Nat)×Int
def jk (p:Nat×Nat):List YW:=[Sum.inl (p.1:Int),Sum.inl (p.2:Int)]
def ki (p:Nat×Nat):List Int:=[(p.1:Int),(p.2:Int)]
def kJ (js:List Jn):List (List YW):=js.map fun j=>jk j.1
def dJ (js:List Jn):List D:=js.map fun j=>.int j.2
def putJ (js:List Jn) (p:Nat×Nat) (v:Int):List Jn:=if p∈js.map (·.1) then js.map (fun j=>if j.1=p then (p,v) else j) else js++[(p,v)]
theorem jk_inj {p q:Nat×Nat}:jk p=jk q ↔ p=q:=by
  constructor
  · intro h
    unfold jk at h
    simp only [List.cons.injEq,Sum.inl.injEq,and_true] at h
    exact Prod.ext (by omega) (by omega)
  · intro h;rw [h]
theorem kJ_mem {js:List Jn} {p:Nat×Nat}:jk p∈kJ js ↔ p∈js.map (·.1):=by
  unfold kJ
  simp only [List.mem_map]
  constructor
  · rintro ⟨j,hj,e⟩;exact ⟨j,hj,jk_inj.mp e⟩
  · rintro ⟨j,hj,e⟩;exact ⟨j,hj,by rw [e]⟩
theorem putKs_J (js:List Jn) (p:Nat×Nat) (v:Int):putKs (kJ js) (jk p)=kJ (putJ js p v):=by
  unfold putKs putJ
  by_cases h:p∈js.map (·.1)
  · rw [if_pos (kJ_mem.mpr h),if_pos h]
    unfold kJ
    rw [List.map_map]
    refine List.map_congr_left fun j _=>?_
    show jk j.1=jk (if j.1=p then (p,v) else j).1
    split
    · rename_i e;rw [e]
    · rfl
  · rw [if_neg (fun z=>h (kJ_mem.mp z)),if_neg h];simp [kJ]
theorem zip_J:∀ (js:List Jn) (p:Nat×Nat) (v:Int),((kJ js).zip (dJ js)).map (fun q=>if q.1=jk p then (.int v:D) else q.2)=dJ (js.map fun j=>if j.1=p then (p,v) else j)
  | [],_,_=>rfl
  | j::js,p,v=>by
    have ih:=zip_J js p v
    unfold kJ dJ at ih ⊢
    simp only [List.map_cons,List.zip_cons_cons,ih]
    congr 1
    by_cases e:j.1=p
    · rw [if_pos (by rw [e]),if_pos e]
    · rw [if_neg (fun z=>e (jk_inj.mp z)),if_neg e]
theorem putDs_J (js:List Jn) (p:Nat×Nat) (v:Int):putDs (kJ js) (dJ js) (jk p) (.int v)=dJ (putJ js p v):=by
  unfold putDs putJ
  by_cases h:p∈js.map (·.1)
  · rw [if_pos (kJ_mem.mpr h),if_pos h,zip_J]
  · rw [if_neg (fun z=>h (kJ_mem.mp z)),if_neg h];simp [dJ]
def lkJ (js:List Jn) (p:Nat×Nat):Option Int:=(js.find? fun j=>decide (j.1=p)).map (·.2)
theorem lk_J:∀ (js:List Jn) (p:Nat×Nat),lkD (kJ js) (dJ js) (jk p)=(lkJ js p).map .int
  | [],p=>rfl
  | j::js,p=>by
    have ih:=lk_J js p
    unfold kJ dJ at ih ⊢
    unfold lkJ at ih ⊢
    simp only [List.map_cons,lkD,List.find?_cons]
    by_cases e:j.1=p
    · rw [if_pos (by rw [e])];simp [e]
    · rw [if_neg (fun z=>e (jk_inj.mp z)),ih];simp [e]
structure JOk (n m:Nat) (js:List Jn):Prop where
  nd:(js.map (·.1)).Nodup
  rg:∀ j∈js,j.1.1 < j.1.2/\j.1.2 < n/\1<=j.2/\j.2<=4
  par:∀ y,1<=y->y < m->∃ j∈js,j.1.2=y
theorem putJ_keys {js:List Jn} {p:Nat×Nat} {v:Int}:(putJ js p v).map (·.1)=if p∈js.map (·.1) then js.map (·.1) else js.map (·.1)++[p]:=by
  unfold putJ
  by_cases h:p∈js.map (·.1)
  · rw [if_pos h,if_pos h,List.map_map]
    refine List.map_congr_left fun j _=>?_
    show (if j.1=p then (p,v) else j).1=j.1
    split
    · rename_i e;exact e.symm
    · rfl
  · rw [if_neg h,if_neg h];simp
theorem putJ_len {js:List Jn} {p:Nat×Nat} {v:Int}:(putJ js p v).length<=js.length+1:=by
  have:=congrArg List.length (putJ_keys (js:=js) (p:=p) (v:=v))
  rw [List.length_map] at this
  rw [this]
  split <;> simp
theorem JOk.put {n m m':Nat} {js:List Jn} (h:JOk n m js) {p:Nat×Nat} {v:Int} (h1:p.1 < p.2) (h2:p.2 < n) (h3:1<=v) (h4:v<=4) (hm:m'<=m\/(m'=m+1/\p.2=m)):JOk n m' (putJ js p v):=by
  have keys:=putJ_keys (js:=js) (p:=p) (v:=v)
  refine ⟨?_,fun j hj=>?_,fun y y1 ym=>?_⟩
  · rw [keys]
    split
    · exact h.nd
    · rename_i hn
      rw [List.nodup_append]
      exact ⟨h.nd,by simp,fun a ha b hb=>by simp at hb;subst hb;exact fun z=>hn (z ▸ ha)⟩
  · unfold putJ at hj
    split at hj
    · obtain ⟨i,hi,e⟩:=List.mem_map.mp hj
      split at e
      · subst e;exact ⟨h1,h2,h3,h4⟩
      · subst e;exact h.rg i hi
    · rcases List.mem_append.mp hj with z | z
      · exact h.rg j z
      · simp at z;subst z;exact ⟨h1,h2,h3,h4⟩
  · have mem:∀ {q:Nat×Nat},q∈(putJ js p v).map (·.1)->∃ j∈putJ js p v,j.1=q:=fun {q} hq=>by
      obtain ⟨j,hj,e⟩:=List.mem_map.mp hq;exact ⟨j,hj,e⟩
    by_cases e:y < m
    · obtain ⟨j,hj,ej⟩:=h.par y y1 e
      have:j.1∈(putJ js p v).map (·.1):=by
        rw [keys]
        have hj':j.1∈js.map (·.1):=List.mem_map.mpr ⟨j,hj,rfl⟩
        split
        · exact hj'
        · exact List.mem_append_left _ hj'
      obtain ⟨i,hi,ei⟩:=mem this
      exact ⟨i,hi,by rw [ei];exact ej⟩
    · have ey:y=p.2:=by omega
      have:p∈(putJ js p v).map (·.1):=by
        rw [keys]
        split
        · rename_i z;exact z
        · simp
      obtain ⟨i,hi,ei⟩:=mem this
      exact ⟨i,hi,by rw [ei];exact ey.symm⟩
theorem lkJ_rg {n m:Nat} {js:List Jn} (h:JOk n m js) {p:Nat×Nat} {v:Int} (e:lkJ js p=some v):1<=v/\v<=4:=by
  unfold lkJ at e
  cases q:js.find? fun j=>decide (j.1=p) with
  | none=>rw [q] at e;cases e
  | some j =>
    rw [q] at e;cases e
    exact (h.rg j (List.mem_of_find?_eq_some q)).2.2
theorem lkJ_some {js:List Jn} {p:Nat×Nat} (h:p∈js.map (·.1)):∃ v,lkJ js p=some v:=by
  obtain ⟨j,hj,e⟩:=List.mem_map.mp h
  unfold lkJ
  cases q:js.find? fun j=>decide (j.1=p) with
  | none =>
    have:=List.find?_eq_none.mp q j hj
    simp [e] at this
  | some i=>exact ⟨i.2,rfl⟩
def Xv (ns:List Int) (a t:Int) (n:Nat) (js:List Jn) (x:List (Option Cl)):Y1:=some (.val (.scr ns))::some (.val (.int a))::some (.val (.int t))::some (.val (.int n))::some (.own (.dcT (kJ js) (dJ js)))::x
theorem keyT_jk (p:Nat×Nat):keyT (.tup [.int p.1,.int p.2])=some (jk p):=rfl
theorem gput {ns:List Int} {a t:Int} {n:Nat} {js:List Jn} {x:List (Option Cl)} {fk fv:FE} {p:Nat×Nat} {v:Int} (hk:fk (Z6 (Xv ns a t n js x))=some (.tup [.int p.1,.int p.2])) (hv:fv (Z6 (Xv ns a t n js x))=some (.int v)) (hl:js.length < 60000) :
    Xk 4 fk fv (Xv ns a t n js x)=.nx (Xv ns a t n (putJ js p v) x):=by
  have e3:(Xv ns a t n js x)[4]?=some (some (.own (.dcT (kJ js) (dJ js)))):=rfl
  unfold Xk
  rw [hk,hv,e3]
  dsimp only
  rw [keyT_jk]
  dsimp only
  rw [if_pos ⟨rfl,by unfold kJ Xi;rw [List.length_map];omega⟩,putKs_J js p v,putDs_J]
  rfl
theorem fdivD_ok {i j:Int} (h0:0 < j) (h:j < 1073741824):fdivD (.int i) (.int j)=some (.int (i / j)):=@if_pos _ (Classical.propDecidable _) ⟨h0,h⟩ _ _ _
theorem addD_tt {a b:List D} (h:a≠[]) (hl:a.length+b.length<=65536):ZS (.tup a) (.tup b)=some (.tup (a++b)):=by
  unfold ZS
  dsimp only
  rw [if_pos ⟨by cases a with | nil=>exact absurd rfl h | cons _ _=>rfl,hl⟩]
theorem sortedD_tups {ks:List (List Int)} (hl:ks.length < 64) (nd:ks.Nodup) (hne:∀ k∈ks,k≠[]):Vv [.lst (ks.map kT)]=some (.lst ((Vf ks).map kT)):=by
  cases ks with
  | nil=>simp [Vv,X6,isort,Vf]
  | cons k ks =>
    have hi:X6 ((k::ks).map kT)=none:=rfl
    unfold Vv
    dsimp only
    rw [hi]
    dsimp only
    rw [tupsOf_map]
    dsimp only
    rw [if_pos ⟨hl,nd,hne⟩]
theorem Ve {ks:List (List Int)} {k:List Int}:k∈Vf ks ↔ k∈ks:=(List.mergeSort_perm ks _).mem_iff
theorem tsort_len {ks:List (List Int)}:(Vf ks).length=ks.length:=(List.mergeSort_perm ks _).length_eq
theorem tsort_rise {ks:List (List Int)} (nd:ks.Nodup):(Vf ks).Pairwise (fun a b=>HT.lexLt a b=true):=by
  have h1:=List.pairwise_mergeSort lexLe_trans lexLe_total ks
  have h2:(Vf ks).Nodup:=(List.mergeSort_perm ks _).nodup_iff.mpr nd
  have h3:=h1.and (List.nodup_iff_pairwise_ne.mp h2)
  refine h3.imp fun {a b} ⟨l,ne⟩=>?_
  rcases Wj a b ne with z | z
  · exact z
  · unfold lexLe at l;rw [z] at l;cases l
def bsOf (js:List Jn):List Bd:=(Vf (js.map fun j=>ki j.1)).map fun k=>(k.getD 0 0,k.getD 1 0,(lkJ js ((k.getD 0 0).toNat,(k.getD 1 0).toNat)).getD 0)
theorem ki_inj {p q:Nat×Nat} (h:ki p=ki q):p=q:=by
  unfold ki at h
  simp only [List.cons.injEq,and_true] at h
  exact Prod.ext (by omega) (by omega)
theorem ki_nodup {js:List Jn} (h:(js.map (·.1)).Nodup):(js.map fun j=>ki j.1).Nodup:=by
  rw [show (js.map fun j=>ki j.1)=(js.map (·.1)).map ki by rw [List.map_map];rfl]
  rw [List.nodup_iff_pairwise_ne] at h ⊢
  rw [List.pairwise_map]
  exact h.imp fun ne z=>ne (ki_inj z)
theorem jok_gok {n:Nat} {js:List Jn} (h:JOk n n js) (h1:1<=n) (h5:n<=5) (hl:js.length<=10):GOk ⟨n,bsOf js⟩:=by
  have key:∀ b∈bsOf js,∃ j∈js,b.1=(j.1.1:Int)/\b.2.1=(j.1.2:Int)/\1<=b.2.2/\b.2.2<=4:=fun b hb=>by
    unfold bsOf at hb
    obtain ⟨k,hk,e⟩:=List.mem_map.mp hb
    obtain ⟨j,hj,ek⟩:=List.mem_map.mp (Ve.mp hk)
    subst e;subst ek
    obtain ⟨v,hv⟩:=lkJ_some (js:=js) (p:=j.1) (List.mem_map.mpr ⟨j,hj,rfl⟩)
    have rv:=lkJ_rg h hv
    refine ⟨j,hj,rfl,rfl,?_⟩
    show 1<=(lkJ js (((j.1.1:Int)).toNat,((j.1.2:Int)).toNat)).getD 0/\(lkJ js (((j.1.1:Int)).toNat,((j.1.2:Int)).toNat)).getD 0<=4
    rw [Int.toNat_natCast,Int.toNat_natCast,show ((j.1.1,j.1.2):Nat×Nat)=j.1 from rfl,hv]
    exact rv
  refine ⟨h1,h5,fun b hb=>?_,?_,fun y y1 yn=>?_,by show (bsOf js).length<=10;unfold bsOf;rw [List.length_map,tsort_len,List.length_map];exact hl⟩
  · obtain ⟨j,hj,e1,e2,e3,e4⟩:=key b hb
    have:=h.rg j hj
    show 0<=b.1/\b.1 < b.2.1/\b.2.1 < (n:Int)/\_
    omega
  · show (bsOf js).Pairwise _
    unfold bsOf
    rw [List.pairwise_map]
    have hr:=tsort_rise (ki_nodup h.nd)
    refine List.Pairwise.imp_of_mem (fun {a b} ha hb hab=>?_) hr
    obtain ⟨i,_,rfl⟩:=List.mem_map.mp (Ve.mp ha)
    obtain ⟨j,_,rfl⟩:=List.mem_map.mp (Ve.mp hb)
    exact hab
  · obtain ⟨j,hj,e⟩:=h.par y y1 yn
    refine ⟨_,List.mem_map.mpr ⟨ki j.1,Ve.mpr (List.mem_map.mpr ⟨j,hj,rfl⟩),rfl⟩,?_⟩
    show ((j.1.2:Nat):Int)=y
    omega
theorem g_ground (ns:List Int) {a:Int} {t:Nat} (ha:0<=a) (ht:1<=t) (h5:t<=5):∃ g,GOk g/\g.n<=t/\Yu [.scr ns,.int a,.int t]=some (gD g):=by
  have tp:(0:Int) < (t:Int):=by omega
  obtain ⟨n,hn⟩:∃ n:Nat,1+mix ns a t=(n:Int):=⟨(1+mix ns a t).toNat,by have:=mix_lo (ns:=ns) (k:=a) tp;omega⟩
  have m0:=mix_lo (ns:=ns) (k:=a) tp
  have m1:=mix_hi (ns:=ns) (k:=a) tp
  have n1:1<=n:=by omega
  have nt:n<=t:=by omega
  have es:Z7 3 10 [D.scr ns,.int a,.int t]=[some (.val (.scr ns)),some (.val (.int a)),some (.val (.int t)),none,none,none,none,none,none,none]:=rfl
  have e1:Zt 3 (f2 ZS (fC (.int 1)) (fL Zo (Zc (fV 0) (Zc (fV 1) (Zc (fV 2) fN))))) [some (.val (.scr ns)),some (.val (.int a)),some (.val (.int t)),none,none,none,none,none,none,none] =
      .nx [some (.val (.scr ns)),some (.val (.int a)),some (.val (.int t)),some (.val (.int n)),none,none,none,none,none,none]:=by
    simp! only [W3 ns ha tp,hn]
  have e2:sOwnT 4 [some (.val (.scr ns)),some (.val (.int a)),some (.val (.int t)),some (.val (.int n)),none,none,none,none,none,none]=.nx (Xv ns a t n [] [none,none,none,none,none]):=rfl
  have loop1:∃ js x,XE (fR rng2 (Zc (fC (.int 1)) (Zc (fV 3) fN))) (gN 5) (Xk 4 (fL Yn (Zc (fL Zo (Zc (fV 0) (Zc (f2 ZS (fV 1) (fV 5)) (Zc (fV 5) fN)))) (Zc (fV 5) fN))) (f2 ZS (fC (.int 1)) (f2 fdivD (fL Zo (Zc (fV 0) (Zc (f2 ZS (f2 ZS (fV 1) (fC (.int 5))) (fV 5)) (Zc (fC (.int 5)) fN)))) (fC (.int 3)))))
      (Xv ns a t n [] [none,none,none,none,none])=.nx (Xv ns a t n js [x,none,none,none,none])/\JOk n n js/\js.length<=4:=by
    have hr:fR rng2 (Zc (fC (.int 1)) (Zc (fV 3) fN)) (Z6 (Xv ns a t n [] [none,none,none,none,none]))=some ((List.range (n - 1)).map fun (k:Nat)=>D.int (1+(k:Int))):=by
      unfold Xv
      simp! only [rng2_of (i:=1) (j:=n) (by omega) (by omega) (by omega) (by omega)]
      rw [show ((n:Int) - 1).toNat=n - 1 by omega]
    unfold XE
    rw [hr]
    dsimp only
    obtain ⟨ρ',e,⟨js,x,rfl,h1,h2⟩⟩:=Vo (t:=gN 5) (F:=Xk 4 (fL Yn (Zc (fL Zo (Zc (fV 0) (Zc (f2 ZS (fV 1) (fV 5)) (Zc (fV 5) fN)))) (Zc (fV 5) fN))) (f2 ZS (fC (.int 1)) (f2 fdivD (fL Zo (Zc (fV 0) (Zc (f2 ZS (f2 ZS (fV 1) (fC (.int 5))) (fV 5)) (Zc (fC (.int 5)) fN)))) (fC (.int 3)))))
      (fun m ρ=>∃ js x,ρ=Xv ns a t n js [x,none,none,none,none]/\JOk n (m+1) js/\js.length<=m) ((List.range (n - 1)).map fun (k:Nat)=>D.int (1+(k:Int))) 0 (Xv ns a t n [] [none,none,none,none,none]) (fun m e ρ he hP=>by
        obtain ⟨js,x,rfl,h1,h2⟩:=hP
        rw [List.getElem?_map] at he
        have hm:m < n - 1:=by
          cases q:(List.range (n - 1))[m]? with
          | none=>rw [q] at he;cases he
          | some z=>have:=(List.getElem?_eq_some_iff.mp q).1;simpa using this
        rw [List.getElem?_range hm] at he
        cases he
        have y0:(0:Int) < 1+(m:Int):=by omega
        have k0:=mix_lo (ns:=ns) (k:=a+(1+(m:Int))) y0
        have k1:=mix_hi (ns:=ns) (k:=a+(1+(m:Int))) y0
        have v0:=mix_lo (ns:=ns) (k:=a+5+(1+(m:Int))) (show (0:Int) < 5 by decide)
        have v1:=mix_hi (ns:=ns) (k:=a+5+(1+(m:Int))) (show (0:Int) < 5 by decide)
        refine ⟨_,_,rfl,gput (js:=js) (p:=((mix ns (a+(1+(m:Int))) (1+(m:Int))).toNat,m+1)) (v:=1+mix ns (a+5+(1+(m:Int))) 5 / 3) (x:=[some (.val (.int (1+(m:Int)))),none,none,none,none]) ?_ ?_ (by omega),_,some (.val (.int (1+(m:Int)))),rfl,?_,?_⟩
        · unfold Xv
          simp! only [W3 ns (show 0<=a+(1+(m:Int)) by omega) y0,Xi,Nat.reduceLeDiff]
          rw [show (((mix ns (a+(1+(m:Int))) (1+(m:Int))).toNat:Nat):Int)=mix ns (a+(1+(m:Int))) (1+(m:Int)) by omega,Int.add_comm (m:Int) 1]
        · unfold Xv
          simp! only [W3 ns (show 0<=a+5+(1+(m:Int)) by omega) (show (0:Int) < 5 by decide),fdivD_ok (show (0:Int) < 3 by decide) (show (3:Int) < 1073741824 by decide)]
        · exact h1.put (by show _ < m+1;omega) (by show m+1 < n;omega) (by omega) (by omega) (.inr ⟨by omega,by show m+1=0+m+1;omega⟩)
        · have:=putJ_len (js:=js) (p:=((mix ns (a+(1+(m:Int))) (1+(m:Int))).toNat,m+1)) (v:=1+mix ns (a+5+(1+(m:Int))) 5 / 3)
          omega) ⟨[],none,rfl,⟨by simp,fun j hj=>(by cases hj),fun y y1 ym=>(by omega)⟩,Nat.le_refl _⟩
    refine ⟨js,x,e,?_,?_⟩
    · rw [List.length_map,List.length_range,show 0+(n - 1)+1=n by omega] at h1;exact h1
    · rw [List.length_map,List.length_range] at h2;omega
  obtain ⟨js1,x1,l1,ok1,len1⟩:=loop1
  have loop2:∃ js x,XE (fR Xh (Zc (f2 YF (fL Zo (Zc (fV 0) (Zc (f2 ZS (fV 1) (fC (.int 10))) (Zc (fC (.int 4)) fN)))) (fL intD (Zc (f2 (ZY fun i j=>.bl (decide (j < i))) (fV 3) (fC (.int 1))) fN))) fN)) (gN 6) (Zr (Zt 7 (fL Zo (Zc (fV 0) (Zc (f2 ZS (f2 ZS (fV 1) (fC (.int 11))) (f2 YF (fC (.int 2)) (fV 6))) (Zc (fV 3) fN)))))
  (Zr (Zt 8 (f2 Xp (f2 ZS (f2 ZS (fV 7) (fC (.int 1))) (fL Zo (Zc (fV 0) (Zc (f2 ZS (f2 ZS (fV 1) (fC (.int 12))) (f2 YF (fC (.int 2)) (fV 6))) (Zc (f2 (ZY fun i j=>.int (i - j)) (fV 3) (fC (.int 1))) fN))))) (fV 3)))
  (Zr (Zt 9 (fL Yn (Zc (fL minD (Zc (fV 7) (Zc (fV 8) fN))) (Zc (fL maxD (Zc (fV 7) (Zc (fV 8) fN))) fN))))
  (Xk 4 (fV 9) (f2 ZS (f2 Xp (fDgt (fV 4) (fV 9) (fC (.int 0))) (fC (.int 4))) (fC (.int 1)))))))
      (Xv ns a t n js1 [x1,none,none,none,none])=.nx (Xv ns a t n js x)/\JOk n n js/\js.length<=8:=by
    have q0:=mix_lo (ns:=ns) (k:=a+10) (show (0:Int) < 4 by decide)
    have q1:=mix_hi (ns:=ns) (k:=a+10) (show (0:Int) < 4 by decide)
    obtain ⟨r,hr4,hrn,hr⟩:∃ r:Nat,r<=4/\(0 < r->1 < n)/\fR Xh (Zc (f2 YF (fL Zo (Zc (fV 0) (Zc (f2 ZS (fV 1) (fC (.int 10))) (Zc (fC (.int 4)) fN)))) (fL intD (Zc (f2 (ZY fun i j=>.bl (decide (j < i))) (fV 3) (fC (.int 1))) fN))) fN) (Z6 (Xv ns a t n js1 [x1,none,none,none,none]))=some ((List.range r).map fun k=>D.int (k:Nat)):=by
      have sm:∀ z,YF (.int (mix ns (a+10) 4)) (.int z)=some (.int (mix ns (a+10) 4 * z)):=fun z=>WQ (YG (by omega) (by omega))
      by_cases hn1:(1:Int) < n
      · refine ⟨(mix ns (a+10) 4).toNat,by omega,fun _=>by omega,?_⟩
        unfold Xv
        simp! only [W3 ns (show 0<=a+10 by omega) (show (0:Int) < 4 by decide),hn1,intD,sm,Int.mul_one,rng1_of q0 (show mix ns (a+10) 4<=65536 by omega)]
      · refine ⟨0,by omega,fun z=>absurd z (by omega),?_⟩
        unfold Xv
        simp! only [W3 ns (show 0<=a+10 by omega) (show (0:Int) < 4 by decide),hn1,intD,sm,Int.mul_zero,rng1_of (j:=0) (by decide) (by decide)]
        rfl
    unfold XE
    rw [hr]
    dsimp only
    obtain ⟨ρ',e,⟨js,x5,x6,x7,x8,x9,rfl,h1,h2⟩⟩:=Vo (t:=gN 6) (F:=Zr (Zt 7 (fL Zo (Zc (fV 0) (Zc (f2 ZS (f2 ZS (fV 1) (fC (.int 11))) (f2 YF (fC (.int 2)) (fV 6))) (Zc (fV 3) fN)))))
  (Zr (Zt 8 (f2 Xp (f2 ZS (f2 ZS (fV 7) (fC (.int 1))) (fL Zo (Zc (fV 0) (Zc (f2 ZS (f2 ZS (fV 1) (fC (.int 12))) (f2 YF (fC (.int 2)) (fV 6))) (Zc (f2 (ZY fun i j=>.int (i - j)) (fV 3) (fC (.int 1))) fN))))) (fV 3)))
  (Zr (Zt 9 (fL Yn (Zc (fL minD (Zc (fV 7) (Zc (fV 8) fN))) (Zc (fL maxD (Zc (fV 7) (Zc (fV 8) fN))) fN))))
  (Xk 4 (fV 9) (f2 ZS (f2 Xp (fDgt (fV 4) (fV 9) (fC (.int 0))) (fC (.int 4))) (fC (.int 1)))))))
      (fun m ρ=>∃ js x5 x6 x7 x8 x9,ρ=Xv ns a t n js [x5,x6,x7,x8,x9]/\JOk n n js/\js.length<=m+4) ((List.range r).map fun k=>D.int (k:Nat)) 0 (Xv ns a t n js1 [x1,none,none,none,none]) (fun m e ρ he hP=>by
        obtain ⟨js,x5,x6,x7,x8,x9,rfl,h1,h2⟩:=hP
        rw [List.getElem?_map] at he
        have hm:m < r:=by
          cases q:(List.range r)[m]? with
          | none=>rw [q] at he;cases he
          | some z=>have:=(List.getElem?_eq_some_iff.mp q).1;simpa using this
        rw [List.getElem?_range hm] at he
        cases he
        have n2:=hrn (by omega)
        have np:(0:Int) < (n:Int):=by omega
        have np1:(0:Int) < (n:Int) - 1:=by omega
        obtain ⟨i,hi⟩:∃ i:Nat,mix ns (a+11+2 * (m:Int)) n=(i:Int):=⟨(mix ns (a+11+2 * (m:Int)) n).toNat,by have:=mix_lo (ns:=ns) (k:=a+11+2 * (m:Int)) np;omega⟩
        have iN:i < n:=by have:=mix_hi (ns:=ns) (k:=a+11+2 * (m:Int)) np;omega
        have u0:=mix_lo (ns:=ns) (k:=a+12+2 * (m:Int)) np1
        have u1:=mix_hi (ns:=ns) (k:=a+12+2 * (m:Int)) np1
        obtain ⟨j,hj⟩:∃ j:Nat,((i:Int)+1+mix ns (a+12+2 * (m:Int)) ((n:Int) - 1)) % (n:Int)=(j:Int):=⟨(((i:Int)+1+mix ns (a+12+2 * (m:Int)) ((n:Int) - 1)) % (n:Int)).toNat,by have:=Int.emod_nonneg ((i:Int)+1+mix ns (a+12+2 * (m:Int)) ((n:Int) - 1)) (show (n:Int)≠0 by omega);omega⟩
        have jN:j < n:=by have:=Int.emod_lt_of_pos ((i:Int)+1+mix ns (a+12+2 * (m:Int)) ((n:Int) - 1)) np;omega
        have ij:i≠j:=fun z=>by
          subst z
          by_cases w:(i:Int)+1+mix ns (a+12+2 * (m:Int)) ((n:Int) - 1) < n
          · rw [Int.emod_eq_of_lt (by omega) w] at hj;omega
          · have:((i:Int)+1+mix ns (a+12+2 * (m:Int)) ((n:Int) - 1)) % (n:Int)=(i:Int)+1+mix ns (a+12+2 * (m:Int)) ((n:Int) - 1) - n:=by
              rw [<- Int.sub_emod_right,Int.emod_eq_of_lt (by omega) (by omega)]
            omega
        have s7:Zt 7 (fL Zo (Zc (fV 0) (Zc (f2 ZS (f2 ZS (fV 1) (fC (.int 11))) (f2 YF (fC (.int 2)) (fV 6))) (Zc (fV 3) fN)))) (Xv ns a t n js [x5,some (.val (.int (m:Int))),x7,x8,x9])=.nx (Xv ns a t n js [x5,some (.val (.int (m:Int))),some (.val (.int i)),x8,x9]):=by
          unfold Xv
          simp! only [WQ (YG (i:=2) (by decide) (by decide)),W3 ns (show 0<=a+11+2 * (m:Int) by omega) np,hi]
        have s8:Zt 8 (f2 Xp (f2 ZS (f2 ZS (fV 7) (fC (.int 1))) (fL Zo (Zc (fV 0) (Zc (f2 ZS (f2 ZS (fV 1) (fC (.int 12))) (f2 YF (fC (.int 2)) (fV 6))) (Zc (f2 (ZY fun i j=>.int (i - j)) (fV 3) (fC (.int 1))) fN))))) (fV 3)) (Xv ns a t n js [x5,some (.val (.int (m:Int))),some (.val (.int i)),x8,x9])=.nx (Xv ns a t n js [x5,some (.val (.int (m:Int))),some (.val (.int i)),some (.val (.int j)),x9]):=by
          unfold Xv
          simp! only [WQ (YG (i:=2) (by decide) (by decide)),W3 ns (show 0<=a+12+2 * (m:Int) by omega) np1,np,hj]
        have s9:Zt 9 (fL Yn (Zc (fL minD (Zc (fV 7) (Zc (fV 8) fN))) (Zc (fL maxD (Zc (fV 7) (Zc (fV 8) fN))) fN))) (Xv ns a t n js [x5,some (.val (.int (m:Int))),some (.val (.int i)),some (.val (.int j)),x9])=.nx (Xv ns a t n js [x5,some (.val (.int (m:Int))),some (.val (.int i)),some (.val (.int j)),some (.val (.tup [.int (min i j:Nat),.int (max i j:Nat)]))]):=by
          unfold Xv
          simp! only [minD_nat,maxD_nat,Xi,Nat.reduceLeDiff]
        obtain ⟨v,hv⟩:∃ v:Int,(match lkJ js (min i j,max i j) with | some v=>v | none=>0)=v:=⟨_,rfl⟩
        have sv:(f2 ZS (f2 Xp (fDgt (fV 4) (fV 9) (fC (.int 0))) (fC (.int 4))) (fC (.int 1))) (Z6 (Xv ns a t n js [x5,some (.val (.int (m:Int))),some (.val (.int i)),some (.val (.int j)),some (.val (.tup [.int (min i j:Nat),.int (max i j:Nat)]))]))=some (.int (v % 4+1)):=by
          unfold Xv
          have p4:(0:Int) < 4:=by decide
          have kt:=keyT_jk (min i j,max i j)
          dsimp only at kt
          simp! only [fDgt,dLook,kt,lk_J]
          cases w:lkJ js (min i j,max i j) with
          | none =>
            rw [w] at hv
            dsimp only at hv
            subst hv
            simp only [Option.map_none,Z3,Z7,ZM,Zu,Xb,Xt,WO,Zt,WN,Z2,Wt,WC,X4,Vx,fV,fC,f1,f2,fN,Zc,fL,fIf,WT,fOr,fNot,gB,WJ,gOr,XR,Xq,Xw,Zq,fR,fFr,fSl,pN,pS,Z6,Z0,XM,Xr,gN,gT,env0,List.map_cons,List.map_nil,List.length_cons,List.length_nil,List.replicate,List.cons_append,List.nil_append,List.getElem?_cons_zero,List.getElem?_cons_succ,List.getElem?_nil,List.set_cons_zero,List.set_cons_succ,Option.getD_some,Option.getD_none,Option.bind_some,Option.bind_none,Option.map_some,Nat.reduceAdd,Nat.reduceSub,Nat.reduceEqDiff,if_true,if_false,reduceIte,Bool.false_eq_true,XF,Y2,XQ,ZY,Xd,Xp,WA,Wm,WS,Yn,Xg,few,truD,Vk,decide_true,decide_false,Bool.not_true,Bool.not_false,decide_not,ne_eq,not_true_eq_false,not_false_eq_true,Int.reduceEq,Int.cast_ofNat_Int,Int.natCast_add,Int.reduceAdd,Int.cast_ofNat_Int,p4]
          | some u =>
            rw [w] at hv
            dsimp only at hv
            subst hv
            simp! only [p4]
        refine ⟨_,Xv ns a t n (putJ js (min i j,max i j) (v % 4+1)) [x5,some (.val (.int (m:Int))),some (.val (.int i)),some (.val (.int j)),some (.val (.tup [.int (min i j:Nat),.int (max i j:Nat)]))],rfl,?_,_,_,_,_,_,_,rfl,?_,?_⟩
        · show oSeq (Zt 7 _ (Xv ns a t n js [x5,some (.val (.int (m:Int))),x7,x8,x9])) _=_
          rw [s7,Zu,ZM,s8,Zu,ZM,s9,Zu]
          exact gput (p:=(min i j,max i j)) rfl sv (by omega)
        · have:0<=v % 4:=Int.emod_nonneg _ (by decide)
          have:v % 4 < 4:=Int.emod_lt_of_pos _ (by decide)
          exact h1.put (by show min i j < max i j;omega) (by show max i j < n;omega) (by omega) (by omega) (.inl (Nat.le_refl _))
        · have:=putJ_len (js:=js) (p:=(min i j,max i j)) (v:=v % 4+1)
          omega) ⟨js1,x1,none,none,none,none,rfl,ok1,by omega⟩
    refine ⟨js,_,e,h1,?_⟩
    rw [List.length_map,List.length_range] at h2
    omega
  obtain ⟨js,x,l2,ok2,len2⟩:=loop2
  refine ⟨⟨n,bsOf js⟩,jok_gok ok2 n1 (by omega) (by omega),nt,?_⟩
  unfold Yu Vc Z3
  rw [if_pos (show ([D.scr ns,.int a,.int t]:List D).length=3 from rfl),es,ZM,e1,Zu,ZM,e2,Zu,ZM,l1,Zu,ZM,l2,Zu]
  have hs:Vv [.lst ((kJ js).map fun k=>.tup (k.map kD))]=some (.lst ((Vf (js.map fun j=>ki j.1)).map kT)):=by
    have:((kJ js).map fun k=>D.tup (k.map kD))=(js.map fun j=>ki j.1).map kT:=by
      unfold kJ
      rw [List.map_map,List.map_map]
      rfl
    rw [this]
    refine sortedD_tups (by rw [List.length_map];omega) (ki_nodup ok2.nd) fun k hk=>?_
    obtain ⟨j,_,rfl⟩:=List.mem_map.mp hk
    unfold ki;simp
  unfold Xv
  simp! only []
  rw [Z5 kT (fun k=>bD (k.getD 0 0,k.getD 1 0,(lkJ js ((k.getD 0 0).toNat,(k.getD 1 0).toNat)).getD 0)) (Vf (js.map fun j=>ki j.1)) (by simp! only [listTD,hs,W8]) (by rw [tsort_len,List.length_map];omega)]
  · simp! only [tupD,Xi,Nat.reduceLeDiff]
    unfold gD bsOf
    rw [List.map_map]
    rfl
  · intro k hk
    refine ⟨_,rfl,?_⟩
    obtain ⟨j,hj,rfl⟩:=List.mem_map.mp (Ve.mp hk)
    obtain ⟨v,hv⟩:=lkJ_some (js:=js) (p:=j.1) (List.mem_map.mpr ⟨j,hj,rfl⟩)
    have kt:=keyT_jk j.1
    have ek:kT (ki j.1)=.tup [.int j.1.1,.int j.1.2]:=rfl
    have e0:(lkJ js (((ki j.1).getD 0 0).toNat,((ki j.1).getD 1 0).toNat)).getD 0=v:=by
      show (lkJ js (((j.1.1:Nat):Int).toNat,((j.1.2:Nat):Int).toNat)).getD 0=v
      rw [Int.toNat_natCast,Int.toNat_natCast,show ((j.1.1,j.1.2):Nat×Nat)=j.1 from rfl,hv];rfl
    rw [e0]
    simp! only [ek,dixD,dLook,kt,lk_J,hv,Xi,Nat.reduceLeDiff]
    rfl
theorem sum_tD (n:Nat) (f:Nat->Int):Vh [tD n f]=some (.int (M.S n f)):=by unfold tD;rw [sumD_tints,tab_sum]
theorem neOp_same (i:Int):Vl (.int i) (.int i)=some (.bl false):=by rw [Wi];simp
def tabM (n:Nat) (f:Nat->Nat->Int):List (List Int):=(List.range n).map fun i=>tab n (f i)
def XO (n:Nat) (f:Nat->Nat->Int):D:=mD (tabM n f)
theorem Vg {n:Nat} {f:Nat->Nat->Int} {i:Nat} (h:i < n):(tabM n f)[i]?=some (tab n (f i)):=by simp [tabM,h]
theorem tabM_len (n:Nat) (f:Nat->Nat->Int):(tabM n f).length=n:=by simp [tabM]
theorem tabM_congr {n:Nat} {f g:Nat->Nat->Int} (h:∀ i j,i < n->j < n->f i j=g i j):tabM n f=tabM n g:=List.map_congr_left fun i hi=>WL fun j hj=>h i j (List.mem_range.mp hi) hj
theorem setM_tab {n:Nat} {f:Nat->Nat->Int} {a b:Nat} {x:Int} (ha:a < n):setM (tabM n f) a b x=tabM n (fun i j=>if i=a/\j=b then x else f i j):=by
  unfold setM
  rw [Vg ha]
  dsimp only
  rw [tab_set]
  apply List.ext_getElem?
  intro k
  by_cases hk:k < n
  · rw [Vg hk,List.getElem?_set]
    by_cases e:a=k
    · subst e
      rw [if_pos rfl,tabM_len,if_pos hk]
      congr 1
      refine WL fun j _=>?_
      by_cases ej:j=b <;> simp [ej]
    · rw [if_neg e,Vg hk]
      congr 1
      refine WL fun j _=>?_
      rw [if_neg fun z=>e z.1.symm]
  · rw [List.getElem?_eq_none (by rw [List.length_set,tabM_len];omega),List.getElem?_eq_none (by rw [tabM_len];omega)]
theorem inM_tab {n:Nat} {f:Nat->Nat->Int} {a b:Int} (ha:0<=a) (ha':a < n) (hb:0<=b) (hb':b < n):inM (tabM n f) a b=true:=by
  unfold inM
  rw [Vg (show a.toNat < n by omega)]
  dsimp only
  rw [XW]
  simp only [Bool.and_eq_true,decide_eq_true_eq]
  omega
theorem hits_iff {i j:Nat} {b:Bd} (h:0<=b.1/\b.1 < b.2.1):hits i j b=true ↔ (i=b.1.toNat/\j=b.2.1.toNat)\/(i=b.2.1.toNat/\j=b.1.toNat):=by
  unfold hits
  rw [decide_eq_true_eq]
  omega
theorem ln_app (bs cs:List Bd) (i j:Nat):ln (bs++cs) i j=ln bs i j+ln cs i j:=by unfold ln;rw [List.map_append,List.sum_append]
theorem fill_tab {n:Nat}:∀ (bs done:List Bd),(∀ b∈done++bs,0<=b.1/\b.1 < b.2.1/\b.2.1 < n/\1<=b.2.2/\b.2.2<=4)->(done++bs).Pairwise (fun x y=>HT.lexLt [x.1,x.2.1] [y.1,y.2.1]=true) ->
    fillM (bs.map bD) (tabM n (ln done))=some (tabM n (ln (done++bs)))
  | [],done,_,_=>by rw [List.append_nil];rfl
  | b::bs,done,h,hr=>by
    obtain ⟨h0,h1,h2,h3,h4⟩:=h b (by simp)
    have e:done++b::bs=(done++[b])++bs:=by simp
    have ih:=fill_tab bs (done++[b]) (by rw [<- e];exact h) (by rw [<- e];exact hr)
    rw [e,<- ih,List.map_cons]
    show (if inM (tabM n (ln done)) b.1 b.2.1=true then (if inM (setM (tabM n (ln done)) b.1.toNat b.2.1.toNat b.2.2) b.2.1 b.1=true then fillM (bs.map bD) (setM (setM (tabM n (ln done)) b.1.toNat b.2.1.toNat b.2.2) b.2.1.toNat b.1.toNat b.2.2) else none) else none)=fillM (bs.map bD) (tabM n (ln (done++[b])))
    rw [if_pos (inM_tab h0 (by omega) (by omega) h2),setM_tab (by omega),if_pos (inM_tab (by omega) h2 h0 (by omega)),setM_tab (by omega)]
    congr 1
    refine tabM_congr fun i j _ _=>?_
    rw [ln_app]
    have hb1:ln [b] i j=if hits i j b=true then b.2.2 else 0:=by rw [ln_cons];show _+0=_;omega
    rw [hb1]
    have z:hits i j b=true->ln done i j=0:=fun hh=>ln_none fun c hc=>by
      have hp:=List.pairwise_append.mp hr
      have:=hp.2.2 c hc b List.mem_cons_self
      cases q:hits i j c with
      | false=>rfl
      | true=>have:=rise_ne this q;rw [hh] at this;cases this
    by_cases e1:i=b.2.1.toNat/\j=b.1.toNat
    · rw [if_pos e1]
      have hh:=(hits_iff ⟨h0,h1⟩).mpr (.inr e1)
      rw [z hh,if_pos hh];omega
    · rw [if_neg e1]
      by_cases e2:i=b.1.toNat/\j=b.2.1.toNat
      · rw [if_pos e2]
        have hh:=(hits_iff ⟨h0,h1⟩).mpr (.inl e2)
        rw [z hh,if_pos hh];omega
      · rw [if_neg e2,if_neg fun hh=>by
          rcases (hits_iff ⟨h0,h1⟩).mp hh with w | w
          · exact e2 w
          · exact e1 w]
        omega
theorem rep_tab (n:Nat):List.replicate n (Vs n)=tabM n (ln []):=by
  apply List.ext_getElem?
  intro k
  by_cases hk:k < n
  · rw [Vg hk,List.getElem?_replicate,if_pos hk]
    congr 1
    unfold Vs
    apply List.ext_getElem?
    intro j
    by_cases hj:j < n
    · rw [WB hj,List.getElem?_replicate,if_pos hj];rfl
    · rw [List.getElem?_eq_none (by simp;omega),List.getElem?_eq_none (by rw [XW];omega)]
  · rw [List.getElem?_eq_none (by simp;omega),List.getElem?_eq_none (by rw [tabM_len];omega)]
theorem g_table {g:Gr} (h:GOk g):Zp [gD g]=some (XO g.n (ln g.bs)):=by
  have n5:=h.n5
  unfold Zp VJ Z3
  rw [if_pos (show ([gD g]:List D).length=1 from rfl)]
  have es:Z7 1 5 [gD g]=[some (.val (gD g)),none,none,none,none]:=rfl
  rw [es]
  have e0:(f2 YY (fV 0) (fC (.int 0))) (Z0 [some (.val (gD g)),none,none,none,none])=some (.int g.n):=rfl
  have e1:(Zq (f2 YY (fV 0) (fC (.int 1)))) (Z0 [some (.val (gD g)),none,none,none,none])=some (g.bs.map bD):=rfl
  unfold sTabl
  rw [if_pos ⟨rfl,rfl⟩]
  unfold sTable
  rw [e0,e1]
  dsimp only
  rw [if_pos (by omega),Int.toNat_natCast,rep_tab,fill_tab g.bs [] h.rg h.rise]
  rfl
def nL (bs:List Nat):D:=.lst (bs.map fun i=>D.int ((i:Nat):Int))
theorem mTab_at {n:Nat} {f:Nat->Nat->Int} {i:Nat} (h:i < n):YY (XO n f) (.int (i:Int))=some (lD n (f i)):=by
  unfold XO mD
  rw [Wm]
  exact atI_ok (by omega) (by rw [List.getElem?_map,Int.toNat_natCast,Vg h];rfl)
theorem WR (n:Nat) (f:Nat->Nat->Int):Yy [XO n f]=some (.int n):=by
  unfold XO mD
  rw [Y2,List.length_map,tabM_len]
theorem lD_at {n:Nat} {f:Nat->Int} {i:Nat} (h:i < n):YY (lD n f) (.int (i:Int))=some (.int (f i)):=by rw [ix_lD (by omega) (by omega)];rfl
theorem tD_at {n:Nat} {f:Nat->Int} {i:Nat} (h:i < n):YY (tD n f) (.int (i:Int))=some (.int (f i)):=by rw [ix_tD (by omega) (by omega)];rfl
theorem g_yards {n:Nat} {f:Nat->Nat->Int} (hn:n<=1000) (q:Nat):Zl [XO n f,.int (q:Int)]=some (nL (M.others n q)):=by
  unfold Zl Wz
  simp! only []
  rw [fComp_of (fun (i:Nat)=>D.int ((i:Nat):Int)) (fun i=>decide (i≠q)) (fun i=>D.int ((i:Nat):Int)) (List.range n) (by simp! only [WR,Xs (show n<=65536 by omega)]) (range_len hn)]
  · rfl
  · intro x _
    refine ⟨_,rfl,?_,fun _=>rfl⟩
    simp! only [Wi]
    by_cases e:x=q
    · simp [e]
    · have:(x:Int)≠(q:Int):=by omega
      simp [e,this]
theorem g_lines_to {n:Nat} {f:Nat->Nat->Int} {y:Nat} (hy:y < n) {bs:List Nat} (hb:∀ b∈bs,b < n) (hl:bs.length<=1000):Yp [XO n f,.int (y:Int),nL bs]=some (.int (M.sumL f y bs)):=by
  unfold Yp F_lines_to
  simp! only []
  rw [Z5 (fun (i:Nat)=>D.int ((i:Nat):Int)) (fun i=>D.int (f y i)) bs rfl (by omega)]
  · simp! only []
    rw [mapD_sum]
    rfl
  · intro x hx
    refine ⟨_,rfl,?_⟩
    simp! only [mTab_at hy,lD_at (hb x hx)]
theorem inV_nats (x:Nat):∀ bs:List Nat,inV (.int (x:Int)) ((bs.map fun i=>D.int ((i:Nat):Int)).map toV)=decide (x∈bs)
  | []=>rfl
  | b::bs=>by
    have ih:=inV_nats x bs
    unfold inV at ih ⊢
    have h1:eqV (toV (D.int ((b:Nat):Int))) (.int (x:Int))=decide (x=b):=by
      show ((b:Int) == (x:Int))=decide (x=b)
      by_cases e:x=b
      · subst e;simp
      · have:¬ ((b:Int)=(x:Int)):=by omega
        simp [e,this]
    rw [List.map_cons,List.map_cons,List.any_cons,ih,h1]
    simp
theorem flat_nats:∀ bs:List Nat,(bs.map fun i=>D.int ((i:Nat):Int)).all XY=true
  | []=>rfl
  | b::bs=>by simp only [List.map_cons,List.all_cons,XY,flat_nats bs,Bool.and_self]
theorem notin_nats (x:Nat) (bs:List Nat):Wd (.int (x:Int)) (nL bs)=some (.bl (!decide (x∈bs))):=by
  unfold Wd nL
  dsimp only
  rw [flat_nats]
  simp only [XY,Bool.and_self,if_true,toV,inV_nats]
theorem in_nats (x:Nat) (bs:List Nat):WH (.int (x:Int)) (nL bs)=some (.bl (decide (x∈bs))):=by
  unfold WH nL
  dsimp only
  rw [flat_nats]
  simp only [XY,Bool.and_self,if_true,toV,inV_nats]
def Wh (n:Nat) (L:Nat->Nat->Int) (ld:D) (q:Nat) (bs:List Nat) (x:List (Option Cl)):Y1:=some (.val (XO n L))::some (.val ld)::some (.val (.int (q:Int)))::some (.own (nL bs))::x
theorem g_burnt {n:Nat} {L:Nat->Nat->Int} {d:Nat->Int} {q:Nat} (hn:n<=5) (hq:q < n) {ld:D} (hld:∀ i,i < n->YY ld (.int ((i:Nat):Int))=some (.int (d i))):ZF [XO n L,ld,.int (q:Int)]=some (nL (M.burnt n L d q)):=by
  have step:∀ (y:Nat) (bs:List Nat) (x4:Option Cl),y < n->M.BI n L d q bs ->
      Wt (WJ (gB (f2 Wd (fV 5) (fV 3))) (gB (f2 Xt (f2 YY (fV 1) (fV 5)) (fL Yp (Zc (fV 0) (Zc (fV 5) (Zc (fV 3) fN))))))) (sApp 3 (fV 5)) WO (Wh n L ld q bs [x4,some (.val (.int (y:Int)))]) =
        .nx (Wh n L ld q (M.bstep L d bs y) [x4,some (.val (.int (y:Int)))]):=by
    intro y bs x4 hy hb
    have hl:=hb.len
    have e1:gB (f2 Wd (fV 5) (fV 3)) (Z6 (Wh n L ld q bs [x4,some (.val (.int (y:Int)))]))=some (!decide (y∈bs)):=by
      unfold Wh
      simp! only [notin_nats]
    have e2:gB (f2 Xt (f2 YY (fV 1) (fV 5)) (fL Yp (Zc (fV 0) (Zc (fV 5) (Zc (fV 3) fN))))) (Z6 (Wh n L ld q bs [x4,some (.val (.int (y:Int)))]))=some (decide (d y < M.sumL L y bs)):=by
      unfold Wh
      simp! only [hld y hy,g_lines_to hy hb.lt (show bs.length<=1000 by omega)]
    have e3:sApp 3 (fV 5) (Wh n L ld q bs [x4,some (.val (.int (y:Int)))])=.nx (Wh n L ld q (bs++[y]) [x4,some (.val (.int (y:Int)))]):=by
      unfold sApp
      have a1:(Wh n L ld q bs [x4,some (.val (.int (y:Int)))])[3]?=some (some (.own (.lst (bs.map fun i=>D.int ((i:Nat):Int))))):=rfl
      have a2:fV 5 (Z6 (Wh n L ld q bs [x4,some (.val (.int (y:Int)))]))=some (.int (y:Int)):=rfl
      rw [a1,a2]
      dsimp only
      rw [if_pos ⟨rfl,by rw [List.length_map];show bs.length < 65536;omega⟩]
      unfold Wh nL
      rw [List.map_append]
      rfl
    unfold Wt WJ
    rw [e1,e2]
    unfold M.bstep
    by_cases m:y∈bs
    · rw [if_neg (fun w=>w.1 m)]
      simp only [m,decide_true,Bool.not_true,Option.bind_some,Bool.false_eq_true,if_false]
      rfl
    · by_cases l:d y < M.sumL L y bs
      · rw [if_pos ⟨m,l⟩]
        simp only [m,l,decide_true,decide_false,Bool.not_false,Option.bind_some,if_true]
        exact e3
      · rw [if_neg (fun w=>l w.2)]
        simp only [m,l,decide_false,Bool.not_false,Option.bind_some,if_true]
        rfl
  have round:∀ (bs:List Nat) (x4 x5:Option Cl),M.BI n L d q bs->∃ x5',XH (Zq (fL Zl (Zc (fV 0) (Zc (fV 2) fN)))) (gN 5) (Wt (WJ (gB (f2 Wd (fV 5) (fV 3))) (gB (f2 Xt (f2 YY (fV 1) (fV 5)) (fL Yp (Zc (fV 0) (Zc (fV 5) (Zc (fV 3) fN))))))) (sApp 3 (fV 5)) WO) (Wh n L ld q bs [x4,x5]) =
      .nx (Wh n L ld q (M.bround L d (M.others n q) bs) [x4,x5']):=by
    intro bs x4 x5 hb
    have hf:Zq (fL Zl (Zc (fV 0) (Zc (fV 2) fN))) (Z0 (Wh n L ld q bs [x4,x5]))=some ((M.others n q).map fun i=>D.int ((i:Nat):Int)):=by
      unfold Wh
      simp! only [g_yards (show n<=1000 by omega)]
      rfl
    unfold XH
    rw [hf]
    dsimp only
    have go:∀ (ys bs:List Nat) (x5:Option Cl),(∀ y∈ys,y < n)->M.BI n L d q bs->∃ x5',YZ (gN 5) (Wt (WJ (gB (f2 Wd (fV 5) (fV 3))) (gB (f2 Xt (f2 YY (fV 1) (fV 5)) (fL Yp (Zc (fV 0) (Zc (fV 5) (Zc (fV 3) fN))))))) (sApp 3 (fV 5)) WO) (ys.map fun i=>D.int ((i:Nat):Int)) (Wh n L ld q bs [x4,x5]) =
        .nx (Wh n L ld q (M.bround L d ys bs) [x4,x5']):=by
      intro ys
      induction ys with
      | nil=>intro bs x5 _ _;exact ⟨x5,rfl⟩
      | cons y ys ih =>
        intro bs x5 hy hb
        have hyn:=hy y List.mem_cons_self
        obtain ⟨x5',e⟩:=ih (M.bstep L d bs y) (some (.val (.int (y:Int)))) (fun z hz=>hy z (List.mem_cons_of_mem _ hz)) (hb.step hyn)
        refine ⟨x5',?_⟩
        rw [List.map_cons]
        unfold YZ
        have eg:gN 5 (D.int ((y:Nat):Int))=some [(5,D.int ((y:Nat):Int))]:=rfl
        rw [eg]
        dsimp only
        have es:Xr (Wh n L ld q bs [x4,x5]) [(5,D.int ((y:Nat):Int))]=Wh n L ld q bs [x4,some (.val (.int (y:Int)))]:=rfl
        rw [es,step y bs x4 hyn hb]
        exact e
    exact go _ bs x5 (fun y hy=>(M.mem_others.mp hy).1) hb
  unfold ZF Vb Z3
  rw [if_pos (show ([XO n L,ld,.int (q:Int)]:List D).length=3 from rfl)]
  have es:Z7 3 6 [XO n L,ld,.int (q:Int)]=[some (.val (XO n L)),some (.val ld),some (.val (.int (q:Int))),none,none,none]:=rfl
  rw [es,ZM]
  have e1:X4 3 (fR few (Zc (fV 2) fN)) [some (.val (XO n L)),some (.val ld),some (.val (.int (q:Int))),none,none,none]=.nx (Wh n L ld q [q] [none,none]):=rfl
  rw [e1,Zu,ZM]
  have hf:fR Xh (Zc (fL Yy (Zc (fV 0) fN)) fN) (Z6 (Wh n L ld q [q] [none,none]))=some ((List.range n).map fun k=>D.int (k:Nat)):=by
    unfold Wh
    simp! only [WR,Xs (show n<=65536 by omega)]
  unfold XE
  rw [hf]
  dsimp only
  have go:∀ (ks:List Nat) (bs:List Nat) (x4 x5:Option Cl),M.BI n L d q bs->∃ x4' x5',YZ (gN 4) (XH (Zq (fL Zl (Zc (fV 0) (Zc (fV 2) fN)))) (gN 5) (Wt (WJ (gB (f2 Wd (fV 5) (fV 3))) (gB (f2 Xt (f2 YY (fV 1) (fV 5)) (fL Yp (Zc (fV 0) (Zc (fV 5) (Zc (fV 3) fN))))))) (sApp 3 (fV 5)) WO)) (ks.map fun i=>D.int ((i:Nat):Int)) (Wh n L ld q bs [x4,x5]) =
      .nx (Wh n L ld q (M.brounds L d (M.others n q) ks.length bs) [x4',x5']):=by
    intro ks
    induction ks with
    | nil=>intro bs x4 x5 _;exact ⟨x4,x5,rfl⟩
    | cons k ks ih =>
      intro bs x4 x5 hb
      obtain ⟨x5',e⟩:=round bs (some (.val (.int (k:Int)))) x5 hb
      obtain ⟨y4,y5,e2⟩:=ih (M.bround L d (M.others n q) bs) (some (.val (.int (k:Int)))) x5' (hb.round fun y hy=>(M.mem_others.mp hy).1)
      refine ⟨y4,y5,?_⟩
      rw [List.map_cons]
      unfold YZ
      have eg:gN 4 (D.int ((k:Nat):Int))=some [(4,D.int ((k:Nat):Int))]:=rfl
      rw [eg]
      dsimp only
      have es:Xr (Wh n L ld q bs [x4,x5]) [(4,D.int ((k:Nat):Int))]=Wh n L ld q bs [some (.val (.int (k:Int))),x5]:=rfl
      rw [es,e]
      exact e2
  obtain ⟨y4,y5,e⟩:=go (List.range n) [q] none none (M.BI.start hq)
  rw [e,Zu]
  rw [List.length_range]
  rfl
theorem addD_ll {a b:List D} (hl:a.length+b.length<=65536):ZS (.lst a) (.lst b)=some (.lst (a++b)):=by
  unfold ZS
  dsimp only
  rw [if_pos (show a.length+b.length<=Xi from hl)]
theorem cut_drop' (ds:List D) {i:Int} {k:Nat} (h:i=(k:Int)):cutD ds (some i) none=ds.drop k:=by rw [h];exact cut_drop ds k
def rD (r:List Int):D:=.lst (r.map .int)
theorem mD_eq (rows:List (List Int)):mD rows=.lst (rows.map rD):=rfl
theorem slR_take (r:List Int) (p:Nat):slD (rD r) none (some (p:Int))=some (rD (r.take p)):=by
  unfold slD rD
  dsimp only
  rw [cut_take,List.map_take]
theorem slR_drop (r:List Int) (p:Nat):slD (rD r) (some (p:Int)) none=some (rD (r.drop p)):=by
  unfold slD rD
  dsimp only
  rw [cut_drop,List.map_drop]
theorem slR_drop1 (r:List Int) (p:Nat):slD (rD r) (some ((p:Int)+1)) none=some (rD (r.drop (p+1))):=slR_drop r (p+1)
theorem addR {a b:List Int} (h:a.length+b.length<=65536):ZS (rD a) (rD b)=some (rD (a++b)):=by
  unfold rD
  rw [addD_ll (by rw [List.length_map,List.length_map];exact h),List.map_append]
theorem g_without {rows:List (List Int)} {p:Nat} (hl:rows.length<=1000) (hr:∀ r∈rows,r.length<=1000):ZO [mD rows,.int (p:Int)]=some (mD (M.noCol p rows)):=by
  unfold ZO Wb
  simp! only []
  rw [Z5 rD (fun r=>rD (r.take p++r.drop (p+1))) rows rfl (by omega)]
  · simp! only []
    unfold M.noCol
    rw [mD_eq,List.map_map]
    rfl
  · intro r hx
    have:=hr r hx
    refine ⟨_,rfl,?_⟩
    simp! only [slR_take,slR_drop1]
    exact addR (by simp;omega)
def Sml (rows:List (List Int)):Prop:=∀ r∈rows,∀ x∈r,-(2 ^ 62) < x/\x < 2 ^ 62
theorem noCol_sml {rows:List (List Int)} {p:Nat} (h:Sml rows):Sml (M.noCol p rows):=fun r hr x hx=>by
  unfold M.noCol at hr
  obtain ⟨r0,h0,e⟩:=List.mem_map.mp hr
  subst e
  rcases List.mem_append.mp hx with z | z
  · exact h r0 h0 x (List.mem_of_mem_take z)
  · exact h r0 h0 x (List.mem_of_mem_drop z)
theorem rD_at {r:List Int} {i:Nat} {x:Int} (h:r[i]?=some x):YY (rD r) (.int (i:Int))=some (.int x):=by
  unfold rD
  rw [Wm]
  exact atI_ok (by omega) (by rw [List.getElem?_map,Int.toNat_natCast,h];rfl)
theorem detRow_cons (k:Nat) (rs:List (List Int)) (x:Int) (xs:List Int) (p:Nat) (sg:Int):M.detRow k rs (x::xs) p sg=sg * x * M.detN k (M.noCol p rs)+M.detRow k rs xs (p+1) (-sg):=by rw [M.detRow]
theorem g_det:∀ (k:Nat) (rows:List (List Int)),k<=100->rows.length=k->(∀ r∈rows,r.length=k)->Sml rows->∀ f,k < f->Ys f [mD rows]=some (.int (M.detN k rows))
  | 0,rows,_,hl,_,_,0,h=>by omega
  | 0,rows,_,hl,_,_,f+1,_=>by
    have:rows=[]:=List.eq_nil_of_length_eq_zero hl
    subst this
    unfold Ys XJ
    have e:mD []=.lst []:=rfl
    simp only [e,Z3,Z7,ZM,Zu,Xb,Xt,WO,Zt,WN,Z2,Wt,WC,X4,Vx,fV,fC,f1,f2,fN,Zc,fL,fIf,WT,fOr,fNot,gB,WJ,gOr,XR,Xq,Xw,Zq,fR,fFr,fSl,pN,pS,Z6,Z0,XM,Xr,gN,gT,env0,List.map_cons,List.map_nil,List.length_cons,List.length_nil,List.replicate,List.cons_append,List.nil_append,List.getElem?_cons_zero,List.getElem?_cons_succ,List.getElem?_nil,List.set_cons_zero,List.set_cons_succ,Option.getD_some,Option.getD_none,Option.bind_some,Option.bind_none,Option.map_some,Nat.reduceAdd,Nat.reduceSub,Nat.reduceEqDiff,if_true,if_false,reduceIte,Bool.false_eq_true,XF,Y2,XQ,ZY,Xd,Xp,WA,Wm,WS,Yn,Xg,few,truD,Vk,decide_true,decide_false,Bool.not_true,Bool.not_false,decide_not,ne_eq,not_true_eq_false,not_false_eq_true,Int.reduceEq,Int.cast_ofNat_Int,Int.natCast_add,Int.reduceAdd,Int.cast_ofNat_Int,List.isEmpty_nil]
    unfold M.detN
    rfl
  | k+1,[],_,hl,_,_,_,_=>by simp at hl
  | k+1,r::rs,hk,hl,hr,hs,0,h=>by omega
  | k+1,r::rs,hk,hl,hr,hs,f+1,h=>by
    have hrl:=hr r List.mem_cons_self
    have hsl:rs.length=k:=by simpa using hl
    have sub:∀ p,p < k+1->Ys f [mD (M.noCol p rs)]=some (.int (M.detN k (M.noCol p rs))):=fun p hp =>
      g_det k (M.noCol p rs) (by omega) (by unfold M.noCol;rw [List.length_map];exact hsl) (fun r' h'=>by
        unfold M.noCol at h'
        obtain ⟨r0,h0,e⟩:=List.mem_map.mp h'
        subst e
        have:=hr r0 (List.mem_cons_of_mem _ h0)
        simp;omega) (noCol_sml fun r' h'=>hs r' (List.mem_cons_of_mem _ h')) f (by omega)
    have body:∀ (xs:List Int) (p:Nat) (t sg:Int) (x3 x4:Option Cl),p+xs.length=k+1->(sg=1\/sg=-1)->(∀ x∈xs,-(2 ^ 62) < x/\x < 2 ^ 62) ->
        ∃ sg' x3' x4',YZ (gT [3,4]) (Zr (Zt 1 (f2 ZS (fV 1) (f2 YF (f2 YF (fV 2) (fV 4)) (fL (Ys f) (Zc (fL ZO (Zc (fSl (fV 0) (pS (fC (.int 1))) pN) (Zc (fV 3) fN))) fN))))) (Zt 2 (f1 Vk (fV 2)))) (XS p (xs.map .int))
          [some (.val (mD (r::rs))),some (.val (.int t)),some (.val (.int sg)),x3,x4]=.nx [some (.val (mD (r::rs))),some (.val (.int (t+M.detRow k rs xs p sg))),some (.val (.int sg')),x3',x4']:=by
      intro xs
      induction xs with
      | nil =>
        intro p t sg x3 x4 _ _ _
        refine ⟨sg,x3,x4,?_⟩
        show Out.nx _=_
        unfold M.detRow
        rw [Int.add_zero]
      | cons x xs ih =>
        intro p t sg x3 x4 hp hsg hx
        obtain ⟨b0,b1⟩:=hx x List.mem_cons_self
        have s1:W1 sg=true:=YG (by omega) (by omega)
        have s2:W1 (sg * x)=true:=by rcases hsg with z | z <;> (subst z;exact YG (by omega) (by omega))
        obtain ⟨sg',y3,y4,e⟩:=ih (p+1) (t+sg * x * M.detN k (M.noCol p rs)) (-sg) (some (.val (.int (p:Int)))) (some (.val (.int x))) (by simp at hp;omega) (by rcases hsg with z | z <;> subst z <;> simp) fun y hy=>hx y (List.mem_cons_of_mem _ hy)
        refine ⟨sg',y3,y4,?_⟩
        rw [List.map_cons]
        unfold XS YZ
        have eg:gT [3,4] (.tup [.int (p:Int),.int x])=some [(3,.int (p:Int)),(4,.int x)]:=rfl
        rw [eg]
        dsimp only
        have e1:slD (mD (r::rs)) (some 1) none=some (mD rs):=by
          show some (D.lst (cutD _ _ _))=_
          rw [cut_drop' _ (i:=1) (k:=1) rfl]
          rfl
        have st:Zr (Zt 1 (f2 ZS (fV 1) (f2 YF (f2 YF (fV 2) (fV 4)) (fL (Ys f) (Zc (fL ZO (Zc (fSl (fV 0) (pS (fC (.int 1))) pN) (Zc (fV 3) fN))) fN))))) (Zt 2 (f1 Vk (fV 2)))
            (Xr [some (.val (mD (r::rs))),some (.val (.int t)),some (.val (.int sg)),x3,x4] [(3,.int (p:Int)),(4,.int x)])=.nx [some (.val (mD (r::rs))),some (.val (.int (t+sg * x * M.detN k (M.noCol p rs)))),some (.val (.int (-sg))),some (.val (.int (p:Int))),some (.val (.int x))]:=by
          simp! only [e1,g_without (rows:=rs) (p:=p) (by omega) (fun r' h'=>by have:=hr r' (List.mem_cons_of_mem _ h');omega),sub p (by simp at hp;omega),WQ s1,WQ s2]
        rw [st]
        dsimp only
        rw [e,detRow_cons,Int.add_assoc]
    obtain ⟨sg',y3,y4,e⟩:=body r 0 0 1 none none (by omega) (.inl rfl) (hs r List.mem_cons_self)
    have et:truD (mD (r::rs))=some true:=rfl
    have ef:fEnum (f2 YY (fV 0) (fC (.int 0))) (Z0 [some (.val (mD (r::rs))),some (.val (.int 0)),some (.val (.int 1)),none,none])=some (XS 0 (r.map .int)):=by
      have e0:atI ((r::rs).map rD) 0=some (rD r):=atI_ok (by decide) rfl
      simp! only [fEnum,mD_eq,e0]
      simp only [List.map_cons,Z3,Z7,ZM,Zu,Xb,Xt,WO,Zt,WN,Z2,Wt,WC,X4,Vx,fV,fC,f1,f2,fN,Zc,fL,fIf,WT,fOr,fNot,gB,WJ,gOr,XR,Xq,Xw,Zq,fR,fFr,fSl,pN,pS,Z6,Z0,XM,Xr,gN,gT,env0,List.map_cons,List.map_nil,List.length_cons,List.length_nil,List.replicate,List.cons_append,List.nil_append,List.getElem?_cons_zero,List.getElem?_cons_succ,List.getElem?_nil,List.set_cons_zero,List.set_cons_succ,Option.getD_some,Option.getD_none,Option.bind_some,Option.bind_none,Option.map_some,Nat.reduceAdd,Nat.reduceSub,Nat.reduceEqDiff,if_true,if_false,reduceIte,Bool.false_eq_true,XF,Y2,XQ,ZY,Xd,Xp,WA,Wm,WS,Yn,Xg,few,truD,Vk,decide_true,decide_false,Bool.not_true,Bool.not_false,decide_not,ne_eq,not_true_eq_false,not_false_eq_true,Int.reduceEq,Int.cast_ofNat_Int,Int.natCast_add,Int.reduceAdd,Int.cast_ofNat_Int] at e0 ⊢
      rw [e0]
      rfl
    unfold Ys XJ Z3
    rw [if_pos (show ([mD (r::rs)]:List D).length=1 from rfl)]
    have es:Z7 1 5 [mD (r::rs)]=[some (.val (mD (r::rs))),none,none,none,none]:=rfl
    rw [es,ZM]
    have i1:Wt (XR (Xq (fV 0))) (Z2 (fC (.int 1))) WO [some (.val (mD (r::rs))),none,none,none,none]=.nx [some (.val (mD (r::rs))),none,none,none,none]:=rfl
    rw [i1,Zu,ZM]
    have i2:Zt 1 (fC (.int 0)) [some (.val (mD (r::rs))),none,none,none,none]=.nx [some (.val (mD (r::rs))),some (.val (.int 0)),none,none,none]:=rfl
    rw [i2,Zu,ZM]
    have i3:Zt 2 (fC (.int 1)) [some (.val (mD (r::rs))),some (.val (.int 0)),none,none,none]=.nx [some (.val (mD (r::rs))),some (.val (.int 0)),some (.val (.int 1)),none,none]:=rfl
    rw [i3,Zu,ZM]
    unfold XH
    rw [ef]
    dsimp only
    rw [e,Zu,Int.zero_add]
    unfold M.detN
    rfl
theorem We {rows:List (List Int)} {k:Nat} (hk:k<=4) (hl:rows.length=k) (hr:∀ r∈rows,r.length=k) (hs:Sml rows):Zi [mD rows]=some (.int (M.det rows)):=by
  unfold Zi M.det
  rw [hl]
  exact g_det k rows (by omega) hl hr hs 8 (by omega)
theorem zip_rows:∀ (rows:List (List Int)) (col:List Int),XZ (rows.map rD) (col.map .int)=(rows.zip col).map fun p=>.tup [rD p.1,.int p.2]
  | [],_=>by cases (inferInstance:Inhabited Nat);rfl
  | _::_,[]=>rfl
  | r::rows,c::col=>by
    simp only [List.map_cons,XZ,List.zip_cons_cons,zip_rows rows col]
theorem g_with {rows:List (List Int)} {col:List Int} {p:Nat} (hl:rows.length<=1000) (hr:∀ r∈rows,r.length<=1000):YE [mD rows,.int (p:Int),rD col]=some (mD (M.withCol p rows col)):=by
  unfold YE Va
  simp! only []
  rw [Z5 (fun q:List Int×Int=>.tup [rD q.1,.int q.2]) (fun q=>rD (q.1.take p++[q.2]++q.1.drop (p+1))) (rows.zip col) (by
    simp! only [fZip,mD_eq]
    show (some (XZ (rows.map rD) (col.map .int)))=_
    rw [zip_rows]) (by rw [List.length_zip];omega)]
  · simp! only []
    unfold M.withCol
    rw [mD_eq,List.map_map]
    rfl
  · intro q hx
    have:=hr q.1 (List.of_mem_zip (show (q.1,q.2)∈_ from hx)).1
    refine ⟨_,rfl,?_⟩
    have e1:D.lst [.int q.2]=rD [q.2]:=rfl
    simp! only [List.zip_cons_cons,List.zip_nil_left,slR_take,slR_drop1,Xi,Nat.reduceLeDiff,e1]
    rw [addR (by simp;omega)]
    simp! only []
    exact addR (by simp;omega)
theorem with_len {rows:List (List Int)} {col:List Int} {p k:Nat} (hl:rows.length=k) (hc:col.length=k) (hr:∀ r∈rows,r.length=k) (hp:p < k):(M.withCol p rows col).length=k/\∀ r∈M.withCol p rows col,r.length=k:=by
  unfold M.withCol
  refine ⟨by rw [List.length_map,List.length_zip];omega,fun r h=>?_⟩
  obtain ⟨q,hq,e⟩:=List.mem_map.mp h
  subst e
  have:=hr q.1 (List.of_mem_zip (show (q.1,q.2)∈_ from hq)).1
  simp;omega
theorem with_sml {rows:List (List Int)} {col:List Int} {p:Nat} (hs:Sml rows) (hc:∀ x∈col,-(2 ^ 62) < x/\x < 2 ^ 62):Sml (M.withCol p rows col):=fun r h x hx=>by
  unfold M.withCol at h
  obtain ⟨q,hq,e⟩:=List.mem_map.mp h
  subst e
  have m:=List.of_mem_zip (show (q.1,q.2)∈_ from hq)
  rcases List.mem_append.mp hx with z | z
  · rcases List.mem_append.mp z with z | z
    · exact hs q.1 m.1 x (List.mem_of_mem_take z)
    · simp at z;subst z;exact hc _ m.2
  · exact hs q.1 m.1 x (List.mem_of_mem_drop z)
theorem g_numerators {rows:List (List Int)} {col:List Int} {k:Nat} (hk:k<=4) (hl:rows.length=k) (hcl:col.length=k) (hr:∀ r∈rows,r.length=k) (hs:Sml rows) (hc:∀ x∈col,-(2 ^ 62) < x/\x < 2 ^ 62) :
    YS [mD rows,rD col]=some (rD ((List.range k).map fun p=>M.det (M.withCol p rows col))):=by
  unfold YS VI
  have el:Yy [mD rows]=some (.int (k:Int)):=by rw [mD_eq,Y2,List.length_map,hl]
  simp! only []
  rw [Z5 (fun (i:Nat)=>D.int ((i:Nat):Int)) (fun p=>D.int (M.det (M.withCol p rows col))) (List.range k) (by simp! only [el,Xs (show k<=65536 by omega)]) (range_len (by omega))]
  · simp! only []
    unfold rD
    rw [List.map_map]
    rfl
  · intro p hp
    have hpk:=List.mem_range.mp hp
    have wl:=with_len (p:=p) hl hcl hr hpk
    refine ⟨_,rfl,?_⟩
    simp! only [g_with (rows:=rows) (col:=col) (p:=p) (by omega) (fun r h=>by have:=hr r h;omega),We hk wl.1 wl.2 (with_sml hs hc)]
theorem eqOp_nat (i j:Nat):WK (.int (i:Int)) (.int (j:Int))=some (.bl (decide (i=j))):=by
  rw [eqOp_int]
  by_cases e:i=j
  · simp [e]
  · have:(i:Int)≠(j:Int):=by omega
    simp [e,this]
theorem sum_lD (n:Nat) (f:Nat->Int):Vh [lD n f]=some (.int (M.S n f)):=by unfold lD;rw [sumD_ints,tab_sum]
theorem rD_map {α:Type} (f:α->Int) (xs:List α):D.lst (xs.map fun x=>D.int (f x))=rD (xs.map f):=by unfold rD;rw [List.map_map];rfl
theorem items_nL (bs:List Nat):W8 (nL bs)=some (bs.map fun i=>D.int ((i:Nat):Int)):=rfl
theorem oth_len {n q:Nat} (hn:n<=1000):(M.others n q).length<=1000:=by
  unfold M.others
  exact Nat.le_trans (List.length_filter_le _ _) (by rw [List.length_range];exact hn)
theorem g_inner_row {n:Nat} {L:Nat->Nat->Int} {q y:Nat} (hn:n<=1000) (hy:y < n):Y9 [XO n L,.int (q:Int),.int (y:Int)]=some (rD ((M.others n q).map fun j=>M.ent n L y j)):=by
  unfold Y9 F_inner_row
  simp! only [mTab_at hy]
  rw [Z5 (fun (i:Nat)=>D.int ((i:Nat):Int)) (fun j=>D.int (M.ent n L y j)) (M.others n q) (by simp! only [g_yards hn,items_nL]) (by have:=oth_len (q:=q) hn;omega)]
  · simp! only [rD_map]
  · intro x hx
    have hxn:=(M.mem_others.mp hx).1
    refine ⟨_,rfl,?_⟩
    simp! only [eqOp_nat]
    unfold M.ent
    by_cases e:x=y
    · simp only [e,Z3,Z7,ZM,Zu,Xb,Xt,WO,Zt,WN,Z2,Wt,WC,X4,Vx,fV,fC,f1,f2,fN,Zc,fL,fIf,WT,fOr,fNot,gB,WJ,gOr,XR,Xq,Xw,Zq,fR,fFr,fSl,pN,pS,Z6,Z0,XM,Xr,gN,gT,env0,List.map_cons,List.map_nil,List.length_cons,List.length_nil,List.replicate,List.cons_append,List.nil_append,List.getElem?_cons_zero,List.getElem?_cons_succ,List.getElem?_nil,List.set_cons_zero,List.set_cons_succ,Option.getD_some,Option.getD_none,Option.bind_some,Option.bind_none,Option.map_some,Nat.reduceAdd,Nat.reduceSub,Nat.reduceEqDiff,if_true,if_false,reduceIte,Bool.false_eq_true,XF,Y2,XQ,ZY,Xd,Xp,WA,Wm,WS,Yn,Xg,few,truD,Vk,decide_true,decide_false,Bool.not_true,Bool.not_false,decide_not,ne_eq,not_true_eq_false,not_false_eq_true,Int.reduceEq,Int.cast_ofNat_Int,Int.natCast_add,Int.reduceAdd,Int.cast_ofNat_Int,sum_lD]
    · simp only [e,Z3,Z7,ZM,Zu,Xb,Xt,WO,Zt,WN,Z2,Wt,WC,X4,Vx,fV,fC,f1,f2,fN,Zc,fL,fIf,WT,fOr,fNot,gB,WJ,gOr,XR,Xq,Xw,Zq,fR,fFr,fSl,pN,pS,Z6,Z0,XM,Xr,gN,gT,env0,List.map_cons,List.map_nil,List.length_cons,List.length_nil,List.replicate,List.cons_append,List.nil_append,List.getElem?_cons_zero,List.getElem?_cons_succ,List.getElem?_nil,List.set_cons_zero,List.set_cons_succ,Option.getD_some,Option.getD_none,Option.bind_some,Option.bind_none,Option.map_some,Nat.reduceAdd,Nat.reduceSub,Nat.reduceEqDiff,if_true,if_false,reduceIte,Bool.false_eq_true,XF,Y2,XQ,ZY,Xd,Xp,WA,Wm,WS,Yn,Xg,few,truD,Vk,decide_true,decide_false,Bool.not_true,Bool.not_false,decide_not,ne_eq,not_true_eq_false,not_false_eq_true,Int.reduceEq,Int.cast_ofNat_Int,Int.natCast_add,Int.reduceAdd,Int.cast_ofNat_Int,lD_at hxn]
theorem VF {n:Nat} {L:Nat->Nat->Int} {q:Nat} (hn:n<=1000):ZN [XO n L,.int (q:Int)]=some (mD (M.rowsOf n L (M.others n q))):=by
  unfold ZN VM
  simp! only []
  rw [Z5 (fun (i:Nat)=>D.int ((i:Nat):Int)) (fun y=>rD ((M.others n q).map fun j=>M.ent n L y j)) (M.others n q) (by simp! only [g_yards hn,items_nL]) (by have:=oth_len (q:=q) hn;omega)]
  · simp! only []
    unfold M.rowsOf
    rw [mD_eq,List.map_map]
    rfl
  · intro x hx
    refine ⟨_,rfl,?_⟩
    simp! only [g_inner_row (q:=q) hn (M.mem_others.mp hx).1]
theorem S_bound {n:Nat} {f:Nat->Int} {B:Int} (h:∀ i,i < n->f i<=B):M.S n f<=n * B:=by
  induction n with
  | zero=>simp [M.S]
  | succ n ih =>
    have a:=ih fun i hi=>h i (by omega)
    have b:=h n (by omega)
    show M.S n f+f n<=((n+1:Nat):Int) * B
    rw [Int.natCast_add,Int.add_mul]
    omega
theorem rows_sml {n:Nat} {L:Nat->Nat->Int} (g:M.Gd n L) (vs:List Nat):Sml (M.rowsOf n L vs):=fun r hr x hx=>by
  unfold M.rowsOf at hr
  obtain ⟨i,_,e⟩:=List.mem_map.mp hr
  subst e
  obtain ⟨j,_,e⟩:=List.mem_map.mp hx
  subst e
  have n5:=g.le5
  unfold M.ent
  split
  · have a:=M.S_nonneg n (f:=L i) fun j _=>g.net.nn i j
    have b:=S_bound (n:=n) (f:=L i) (B:=4) fun j _=>g.le4 i j
    omega
  · have a:=g.net.nn i j
    have b:=g.le4 i j
    omega
theorem rows_dim {n:Nat} {L:Nat->Nat->Int} {vs:List Nat}:(M.rowsOf n L vs).length=vs.length/\∀ r∈M.rowsOf n L vs,r.length=vs.length:=by
  unfold M.rowsOf
  refine ⟨by simp,fun r hr=>?_⟩
  obtain ⟨i,_,e⟩:=List.mem_map.mp hr
  subst e
  simp
theorem others_eq {n q:Nat} (hq:q < n):M.others n q=List.range q++(List.range (n - 1 - q)).map (fun k=>q+1+k):=by
  have h:∀ m,M.others (q+1+m) q=List.range q++(List.range m).map (fun k=>q+1+k):=by
    intro m
    induction m with
    | zero =>
      unfold M.others
      rw [Nat.add_zero,List.range_succ,List.filter_append]
      have:(List.range q).filter (fun y=>decide (y≠q))=List.range q:=List.filter_eq_self.mpr fun y hy=>by have:=List.mem_range.mp hy;simp;omega
      rw [this];simp
    | succ m ih =>
      unfold M.others at ih ⊢
      rw [<- Nat.add_assoc,List.range_succ,List.filter_append,ih,List.range_succ,List.map_append,List.append_assoc]
      congr 2
      have:decide (q+1+m≠q)=true:=decide_eq_true (by omega)
      rw [List.filter_cons,this]
      rfl
  have:=h (n - 1 - q)
  rwa [show q+1+(n - 1 - q)=n by omega] at this
theorem others_get {n q k:Nat} (hq:q < n) (hk:k < n - 1):(M.others n q)[k]?=some (if k < q then k else k+1):=by
  rw [others_eq hq]
  by_cases e:k < q
  · rw [List.getElem?_append_left (by simpa using e),List.getElem?_range e,if_pos e]
  · rw [List.getElem?_append_right (by simp;omega),List.length_range,List.getElem?_map,List.getElem?_range (by omega),if_neg e]
    show some (q+1+(k - q))=_
    congr 1;omega
theorem ins_tab {n q:Nat} (hq:q < n) {c:List Int} (hc:c.length=n - 1) {f:Nat->Int} (h:∀ k,k < n - 1->c[k]?=some (f (if k < q then k else k+1))) (h0:f q=0):c.take q++[0]++c.drop q=tab n f:=by
  apply List.ext_getElem?
  intro i
  by_cases hi:i < n
  · rw [WB hi]
    by_cases e1:i < q
    · rw [List.append_assoc,List.getElem?_append_left (by simp;omega),List.getElem?_take_of_lt e1,h i (by omega),if_pos e1]
    · by_cases e2:i=q
      · subst e2
        rw [List.append_assoc,List.getElem?_append_right (by rw [List.length_take];omega),List.length_take,Nat.min_eq_left (by omega),Nat.sub_self,h0];rfl
      · rw [List.getElem?_append_right (by simp;omega),List.getElem?_drop]
        have:q+(i - (List.take q c++[0]).length)=i - 1:=by simp;omega
        rw [this,h (i - 1) (by omega),if_neg (by omega)]
        congr 2;omega
  · rw [List.getElem?_eq_none (by simp;omega),List.getElem?_eq_none (by rw [XW];omega)]
def Bnd (n:Nat) (d:Nat->Int):Prop:=∀ i,i < n->-(2 ^ 60) < d i/\d i < 2 ^ 60
theorem g_counts {n:Nat} {L:Nat->Nat->Int} {d:Nat->Int} {q:Nat} (g:M.Gd n L) (hq:q < n) {ld:D} (hld:∀ i,i < n->YY ld (.int ((i:Nat):Int))=some (.int (d i))) (hb:Bnd n d) :
    ZZ [XO n L,ld,.int (q:Int)]=some (lD n (M.cnt n L q d)):=by
  have n5:=g.le5
  have hol:=M.others_len hq
  have rd:=rows_dim (n:=n) (L:=L) (vs:=M.others n q)
  have rs:=rows_sml g (M.others n q)
  have wp:=g.whole_pos hq
  have wl:=g.whole_le hq
  have ed:Zi [mD (M.rowsOf n L (M.others n q))]=some (.int (M.whole n L q)):=We (by omega) rd.1 rd.2 rs
  have cb:∀ x∈(M.others n q).map (fun i=>d i - M.S n (L i)),-(2 ^ 62) < x/\x < 2 ^ 62:=fun x hx=>by
    obtain ⟨i,hi,e⟩:=List.mem_map.mp hx
    subst e
    have a:=hb i (M.mem_others.mp hi).1
    have b:=M.S_nonneg n (f:=L i) fun j _=>g.net.nn i j
    have c:=S_bound (n:=n) (f:=L i) (B:=4) fun j _=>g.le4 i j
    omega
  have en:=g_numerators (k:=(M.others n q).length) (by omega) rd.1 (by rw [List.length_map]) rd.2 rs cb
  have ec:Z8 1 [1,0] (Zq (fL Zl (Zc (fV 0) (Zc (fV 2) fN)))) (gN 0) Y3 (f2 (ZY fun i j=>.int (i - j)) (f2 YY (fV 1) (fV 0)) (fL Vh (Zc (f2 YY (fV 2) (fV 0)) fN))) [some (XO n L),some ld,some (.int (q:Int)),some (mD (M.rowsOf n L (M.others n q))),some (.int (M.whole n L q)),none,none]=some (rD ((M.others n q).map fun i=>d i - M.S n (L i))):=by
    rw [Z5 (fun (i:Nat)=>D.int ((i:Nat):Int)) (fun i=>D.int (d i - M.S n (L i))) (M.others n q) (by simp! only [g_yards (show n<=1000 by omega),items_nL]) (by omega)]
    · rw [rD_map]
    · intro x hx
      have hxn:=(M.mem_others.mp hx).1
      refine ⟨_,rfl,?_⟩
      simp! only [hld x hxn,mTab_at hxn,sum_lD]
  unfold ZZ Xx
  simp! only [VF (show n<=1000 by omega),ed]
  rw [ec]
  simp! only [en]
  rw [Z5 D.int (fun x=>D.int (x / M.whole n L q)) ((List.range (M.others n q).length).map fun p=>M.det (M.withCol p (M.rowsOf n L (M.others n q)) ((M.others n q).map fun i=>d i - M.S n (L i)))) rfl (by simp;omega) fun x _=>⟨_,rfl,by simp! only [fdivD_ok wp (show M.whole n L q < 1073741824 by omega)]⟩]
  simp! only [rD_map]
  have e0:D.lst [.int 0]=rD [0]:=rfl
  simp! only [slR_take,slR_drop,Xi,Nat.reduceLeDiff,e0]
  rw [addR (by simp;omega)]
  simp! only []
  rw [addR (by simp;omega)]
  simp! only []
  congr 1
  unfold rD lD
  congr 2
  refine ins_tab hq (by simp;omega) (fun k hk=>?_) M.cnt_q
  have hk':k < (M.others n q).length:=by omega
  rw [List.getElem?_map,List.getElem?_map,List.getElem?_range hk']
  have:=M.num_at (L:=L) (col:=fun i=>d i - M.S n (L i)) (others_get hq hk)
  unfold M.cnt
  rw [this]
  rfl
theorem g_checked_yard {g:Gr} (h:GOk g) {q:Nat} (hq:q < g.n):ZW [gD g,.int (q:Int)]=some (.int (q:Int)):=by
  have w:(0<=(q:Int)/\(q:Int)<=(g.n:Int) - 1):=by omega
  unfold ZW WX
  simp! only [g_checked h,gD_at0,g_within,w,and_self]
theorem enum_tab:∀ (xs:List Int) (p:Nat),XS p (xs.map .int)=(List.range xs.length).map fun i=>.tup [.int ((p+i:Nat):Int),.int ((xs[i]?).getD 0)]
  | [],p=>rfl
  | x::xs,p=>by
    have ih:=enum_tab xs (p+1)
    rw [List.map_cons]
    unfold XS
    rw [ih,List.length_cons,List.range_succ_eq_map,List.map_cons,List.map_map]
    congr 1
    refine List.map_congr_left fun i _=>?_
    show D.tup [.int ((p+1+i:Nat):Int),.int ((xs[i]?).getD 0)]=D.tup [.int ((p+(i+1):Nat):Int),.int (((x::xs)[i+1]?).getD 0)]
    rw [show p+1+i=p+(i+1) by omega,List.getElem?_cons_succ]
theorem enum_lD {n:Nat} {c:Nat->Int}:XS 0 ((tab n c).map .int)=(List.range n).map fun (i:Nat)=>D.tup [.int ((i:Nat):Int),.int (c i)]:=by
  rw [enum_tab,XW]
  refine List.map_congr_left fun i hi=>?_
  rw [WB (List.mem_range.mp hi),Nat.zero_add]
  rfl
def wEnv (g:Gr) (d c:Nat->Int) (q:Nat):Y1:=[some (.val (gD g)),some (.val (tD g.n d)),some (.val (lD g.n c)),some (.val (.int (q:Int))),some (.val (XO g.n (ln g.bs))),some (.val (nL (M.burnt g.n (ln g.bs) (M.fire g.n (ln g.bs) d c) q)))]
theorem nL_len (bs:List Nat):Yy [nL bs]=some (.int (bs.length:Int)):=by unfold nL;rw [Y2,List.length_map]
theorem g_down {g:Gr} (h:GOk g) {q:Nat} (hq:q < g.n) (d c:Nat->Int) (hc:M.NoDebt g.n q (M.fire g.n (ln g.bs) d c)) :
    ∃ c':Nat->Int,c' q=c q/\M.NoDebt g.n q (M.fire g.n (ln g.bs) d c')/\(M.burnt g.n (ln g.bs) (M.fire g.n (ln g.bs) d c') q).length=g.n /\
      YU [gD g,tD g.n d,lD g.n c,.int (q:Int)]=some (.tup [tD g.n (M.fire g.n (ln g.bs) d c'),lD g.n c']):=by
  have n5:=h.n5
  have gd:=h.gd
  have bu:∀ c,ZF [XO g.n (ln g.bs),tD g.n (M.fire g.n (ln g.bs) d c),.int (q:Int)]=some (nL (M.burnt g.n (ln g.bs) (M.fire g.n (ln g.bs) d c) q)):=fun c=>g_burnt h.n5 hq fun i hi=>tD_at hi
  have loop:∀ (N:Nat) (c:Nat->Int),M.NoDebt g.n q (M.fire g.n (ln g.bs) d c)->M.pot g.n (ln g.bs) q (M.fire g.n (ln g.bs) d c)<=N ->
      ∃ (k:Nat) (c':Nat->Int),c' q=c q/\M.NoDebt g.n q (M.fire g.n (ln g.bs) d c')/\(M.burnt g.n (ln g.bs) (M.fire g.n (ln g.bs) d c') q).length=g.n /\
        Yl (gB (f2 Xt (fL Yy (Zc (fV 5) fN)) (fL Yy (Zc (fV 4) fN)))) (Zr (Zt 2 (Z8 2 [5] (fEnum (fV 2)) (gT [0,1]) Y3 (fIf (gB (f2 WH (fV 0) (fV 2))) (fV 1) (f2 ZS (fV 1) (fC (.int 1))))))
          (Zt 5 (fL ZF (Zc (fV 4) (Zc (fL XD (Zc (fV 0) (Zc (fV 1) (Zc (fV 2) fN)))) (Zc (fV 3) fN)))))) k (wEnv g d c q)=.nx (wEnv g d c' q):=by
    intro N
    induction N with
    | zero =>
      intro c hc hp
      have bi:=M.burnt_bi (L:=ln g.bs) (d:=M.fire g.n (ln g.bs) d c) hq
      by_cases hl:(M.burnt g.n (ln g.bs) (M.fire g.n (ln g.bs) d c) q).length=g.n
      · refine ⟨1,c,rfl,hc,hl,?_⟩
        have et:gB (f2 Xt (fL Yy (Zc (fV 5) fN)) (fL Yy (Zc (fV 4) fN))) (Z6 (wEnv g d c q))=some false:=by
          unfold wEnv
          simp! only [nL_len,WR,hl]
          simp
        unfold Yl
        rw [et]
      · exfalso
        have a:=gd.pot_falls hq bi hl
        have b:=gd.pot_nonneg hq (M.chi_nodebt gd.net bi (M.burnt_clos hq) hc)
        omega
    | succ N ih =>
      intro c hc hp
      have bi:=M.burnt_bi (L:=ln g.bs) (d:=M.fire g.n (ln g.bs) d c) hq
      by_cases hl:(M.burnt g.n (ln g.bs) (M.fire g.n (ln g.bs) d c) q).length=g.n
      · refine ⟨1,c,rfl,hc,hl,?_⟩
        have et:gB (f2 Xt (fL Yy (Zc (fV 5) fN)) (fL Yy (Zc (fV 4) fN))) (Z6 (wEnv g d c q))=some false:=by
          unfold wEnv
          simp! only [nL_len,WR,hl]
          simp
        unfold Yl
        rw [et]
      · have hlt:=bi.len
        have fe:∀ i,M.fire g.n (ln g.bs) (M.fire g.n (ln g.bs) d c) (M.chi (M.burnt g.n (ln g.bs) (M.fire g.n (ln g.bs) d c) q)) i=M.fire g.n (ln g.bs) d (fun j=>c j+M.chi (M.burnt g.n (ln g.bs) (M.fire g.n (ln g.bs) d c) q) j) i:=fun i=>M.fire_fire d c _ i
        have nd:=M.chi_nodebt gd.net bi (M.burnt_clos hq) hc
        have pf:=gd.pot_falls hq bi hl
        have epot:M.pot g.n (ln g.bs) q (M.fire g.n (ln g.bs) d (fun j=>c j+M.chi (M.burnt g.n (ln g.bs) (M.fire g.n (ln g.bs) d c) q) j))=M.pot g.n (ln g.bs) q (M.fire g.n (ln g.bs) (M.fire g.n (ln g.bs) d c) (M.chi (M.burnt g.n (ln g.bs) (M.fire g.n (ln g.bs) d c) q))):=by
          unfold M.pot
          exact M.S_congr g.n fun i _=>by rw [fe i]
        obtain ⟨k,c',e1,e2,e3,e4⟩:=ih (fun j=>c j+M.chi (M.burnt g.n (ln g.bs) (M.fire g.n (ln g.bs) d c) q) j) (fun i hi hiq=>by rw [<- fe i];exact nd i hi hiq) (by rw [epot];omega)
        have cq:M.chi (M.burnt g.n (ln g.bs) (M.fire g.n (ln g.bs) d c) q) q=0:=if_pos bi.q_mem
        refine ⟨k+1,c',by rw [e1];show c q+_=c q;rw [cq];omega,e2,e3,?_⟩
        have et:gB (f2 Xt (fL Yy (Zc (fV 5) fN)) (fL Yy (Zc (fV 4) fN))) (Z6 (wEnv g d c q))=some true:=by
          unfold wEnv
          simp! only [nL_len,WR]
          congr 1
          exact decide_eq_true (by omega)
        have hcomp:Z8 2 [5] (fEnum (fV 2)) (gT [0,1]) Y3 (fIf (gB (f2 WH (fV 0) (fV 2))) (fV 1) (f2 ZS (fV 1) (fC (.int 1)))) (Z0 (wEnv g d c q))=some (lD g.n fun j=>c j+M.chi (M.burnt g.n (ln g.bs) (M.fire g.n (ln g.bs) d c) q) j):=by
          rw [Z5 (fun (i:Nat)=>D.tup [.int ((i:Nat):Int),.int (c i)]) (fun i=>D.int (c i+M.chi (M.burnt g.n (ln g.bs) (M.fire g.n (ln g.bs) d c) q) i)) (List.range g.n) (by
            unfold wEnv
            simp! only [fEnum]
            show some (XS 0 ((tab g.n c).map .int))=_
            rw [enum_lD]) (range_len (by omega))]
          · rw [lD_eq]
          · intro i hi
            refine ⟨_,rfl,?_⟩
            unfold wEnv
            simp! only [List.zip_cons_cons,List.zip_nil_left,in_nats]
            unfold M.chi
            by_cases m:i∈M.burnt g.n (ln g.bs) (M.fire g.n (ln g.bs) d c) q
            · simp only [m,decide_true,if_true,Int.add_zero]
            · simp only [m,decide_false,Bool.false_eq_true,if_false]
        have st:Zr (Zt 2 (Z8 2 [5] (fEnum (fV 2)) (gT [0,1]) Y3 (fIf (gB (f2 WH (fV 0) (fV 2))) (fV 1) (f2 ZS (fV 1) (fC (.int 1))))))
          (Zt 5 (fL ZF (Zc (fV 4) (Zc (fL XD (Zc (fV 0) (Zc (fV 1) (Zc (fV 2) fN)))) (Zc (fV 3) fN))))) (wEnv g d c q)=.nx (wEnv g d (fun j=>c j+M.chi (M.burnt g.n (ln g.bs) (M.fire g.n (ln g.bs) d c) q) j) q):=by
          have s1:Zt 2 (Z8 2 [5] (fEnum (fV 2)) (gT [0,1]) Y3 (fIf (gB (f2 WH (fV 0) (fV 2))) (fV 1) (f2 ZS (fV 1) (fC (.int 1))))) (wEnv g d c q)=.nx ((wEnv g d c q).set 2 (some (.val (lD g.n fun j=>c j+M.chi (M.burnt g.n (ln g.bs) (M.fire g.n (ln g.bs) d c) q) j)))):=by
            unfold Zt
            rw [hcomp]
          rw [ZM,s1,Zu]
          unfold wEnv
          simp! only [g_moved h,bu]
        unfold Yl
        rw [et]
        dsimp only
        rw [st]
        exact e4
  obtain ⟨k,c',e1,e2,e3,e4⟩:=loop (M.pot g.n (ln g.bs) q (M.fire g.n (ln g.bs) d c)).toNat c hc (by have:=gd.pot_nonneg hq hc;omega)
  refine ⟨c',e1,e2,e3,?_⟩
  unfold YU VN Z3
  rw [if_pos (show ([gD g,tD g.n d,lD g.n c,.int (q:Int)]:List D).length=4 from rfl)]
  have es:Z7 4 6 [gD g,tD g.n d,lD g.n c,.int (q:Int)]=[some (.val (gD g)),some (.val (tD g.n d)),some (.val (lD g.n c)),some (.val (.int (q:Int))),none,none]:=rfl
  rw [es,ZM]
  have s1:Zt 4 (fL Zp (Zc (fV 0) fN)) [some (.val (gD g)),some (.val (tD g.n d)),some (.val (lD g.n c)),some (.val (.int (q:Int))),none,none]=.nx [some (.val (gD g)),some (.val (tD g.n d)),some (.val (lD g.n c)),some (.val (.int (q:Int))),some (.val (XO g.n (ln g.bs))),none]:=by
    simp! only [g_table h]
  rw [s1,Zu,ZM]
  have s2:Zt 5 (fL ZF (Zc (fV 4) (Zc (fL XD (Zc (fV 0) (Zc (fV 1) (Zc (fV 2) fN)))) (Zc (fV 3) fN)))) [some (.val (gD g)),some (.val (tD g.n d)),some (.val (lD g.n c)),some (.val (.int (q:Int))),some (.val (XO g.n (ln g.bs))),none]=.nx (wEnv g d c q):=by
    simp! only [g_moved h,bu]
    rfl
  rw [s2,Zu,ZM,sWhile_eq k e4 (fun z=>by cases z),Zu]
  unfold wEnv
  simp! only [g_moved h,Xi,Nat.reduceLeDiff]
theorem g_settled {g:Gr} (h:GOk g) {q:Nat} (hq:q < g.n) (d:Nat->Int) (hb:Bnd g.n d) :
    ∃ c:Nat->Int,c q=0/\M.NoDebt g.n q (M.fire g.n (ln g.bs) d c)/\(M.burnt g.n (ln g.bs) (M.fire g.n (ln g.bs) d c) q).length=g.n /\
      XC [gD g,tD g.n d,.int (q:Int)]=some (.tup [tD g.n (M.fire g.n (ln g.bs) d c),lD g.n c]):=by
  obtain ⟨c,e1,e2,e3,e4⟩:=g_down h hq d (M.cnt g.n (ln g.bs) q d) (h.gd.cnt_nodebt hq d)
  refine ⟨c,by rw [e1];exact M.cnt_q,e2,e3,?_⟩
  unfold XC F_settled
  simp! only [g_checked_load h,g_checked_yard h hq,g_table h,g_counts h.gd hq (fun i hi=>tD_at hi) hb,e4]
theorem g_whole (i:Int):YC [.int i]=some (.bl true):=by
  unfold YC VO
  simp! only [isInt_int,isBool_int]
theorem at2_0 (a b:D):atI [a,b] 0=some a:=rfl
theorem imms_map {α:Type} {f:α->D} (h:∀ x,imm (f x)=true):∀ xs:List α,imms (xs.map f)=true
  | []=>rfl
  | x::xs=>by rw [List.map_cons];unfold imms;rw [h x,imms_map h xs];rfl
theorem lim0':(0<=Xi)=True:=by simp
theorem lim1':(1<=Xi)=True:=by unfold Xi;simp
def la (l:Bd):Nat:=l.1.toNat
def lb (l:Bd):Nat:=l.2.1.toNat
def lo (f:Nat->Int) (l:Bd):Int:=if f (lb l) < f (la l) then f (lb l) else f (la l)
def mrg (f:Nat->Int) (l:Bd) (i:Nat):Int:=if f i=f (la l)\/f i=f (lb l) then lo f l else f i
def zer (n:Nat) (f:Nat->Int):Bool:=(List.range n).all fun i=>f i == 0
structure Rp (n:Nat) (f:Nat->Int):Prop where
  nn:∀ i,i < n->0<=f i
  le:∀ i,i < n->f i<=i
  id:∀ i,i < n->f (f i).toNat=f i
def cnt (n:Nat) (f:Nat->Int):Nat:=(List.range n).countP fun i=>decide (i≠0/\f i=i)
theorem in2 (x p q:Int):WH (.int x) (.tup [.int p,.int q])=some (.bl (decide (x=p\/x=q))):=by
  simp only [WH,XY,List.all_cons,List.all_nil,Bool.and_self,if_true,toV,List.map_cons,List.map_nil,inV,List.any_cons,List.any_nil,eqV,Bool.or_false]
  congr 2
  rw [Bool.eq_iff_iff]
  simp only [Bool.or_eq_true,beq_iff_eq,decide_eq_true_eq]
  omega
def LOk (n:Nat) (l:Bd):Prop:=0<=l.1/\l.1 < n/\0<=l.2.1/\l.2.1 < n
theorem LOk.r {n:Nat} {l:Bd} (h:LOk n l):la l < n/\lb l < n:=by
  obtain ⟨a,b,c,d⟩:=h
  unfold la lb;omega
section
variable {g:Gr} (h:GOk g)
include h
end
end P

namespace P
def sN:Nat->(Nat->Nat)->Nat
  | 0,_=>0
  | n+1,f=>sN n f+f n
theorem ZV {n:Nat} {f g:Nat->Nat} (h:∀ i,i < n->f i=g i):sN n f=sN n g:=by
  induction n with
  | zero=>rfl
  | succ n ih=>unfold sN;rw [ih fun i hi=>h i (by omega),h n (by omega)]
theorem sN_split (m k:Nat) (f:Nat->Nat):sN (m+k) f=sN m f+sN k (fun i=>f (m+i)):=by
  induction k with
  | zero=>rfl
  | succ k ih=>show sN (m+k) f+f (m+k)=sN m f+(sN k (fun i=>f (m+i))+f (m+k));rw [ih];omega
theorem WP (n c:Nat):sN n (fun _=>c)=n * c:=by
  induction n with
  | zero=>simp [sN]
  | succ n ih=>unfold sN;rw [ih,Nat.succ_mul]
theorem sN_add (n:Nat) (f g:Nat->Nat):sN n (fun i=>f i+g i)=sN n f+sN n g:=by
  induction n with
  | zero=>rfl
  | succ n ih=>show sN n (fun i=>f i+g i)+(f n+g n)=(sN n f+f n)+(sN n g+g n);rw [ih];omega
theorem sN_swap (n m:Nat) (f:Nat->Nat->Nat):sN n (fun i=>sN m (f i))=sN m (fun j=>sN n fun i=>f i j):=by
  induction n with
  | zero=>show 0=_;rw [show (fun j=>sN 0 fun i=>f i j)=fun _=>0 from rfl,WP];omega
  | succ n ih =>
    show sN n (fun i=>sN m (f i))+sN m (f n)=_
    rw [ih,<- sN_add];rfl
def i9 (p:Prop) [Decidable p]:Nat:=if p then 1 else 0
theorem YA {p q:Prop} [Decidable p] [Decidable q] (h:p ↔ q):i9 p=i9 q:=by
  unfold i9;by_cases hp:p
  · rw [if_pos hp,if_pos (h.mp hp)]
  · rw [if_neg hp,if_neg fun z=>hp (h.mpr z)]
theorem i9_no {p:Prop} [Decidable p] (h:¬ p):i9 p=0:=if_neg h
theorem i9_yes {p:Prop} [Decidable p] (h:p):i9 p=1:=if_pos h
def B2 (p q r y z:Nat):Prop:=(y < p/\z < q+r)\/(z < q/\y < p+r)
instance (p q r y z:Nat):Decidable (B2 p q r y z):=by unfold B2;infer_instance
def N2 (p q r:Nat):Nat:=sN (p+r) fun y=>sN (q+r) fun z=>i9 (B2 p q r y z)
theorem N2_eq (p q r:Nat):N2 p q r=p * (q+r)+r * q:=by
  unfold N2
  rw [sN_split]
  have h1:sN p (fun y=>sN (q+r) fun z=>i9 (B2 p q r y z))=p * (q+r):=by
    rw [ZV (g:=fun _=>q+r) fun y hy=>?_,WP]
    rw [ZV (g:=fun _=>1) fun z hz=>i9_yes (by unfold B2;omega),WP];omega
  have h2:sN r (fun i=>sN (q+r) fun z=>i9 (B2 p q r (p+i) z))=r * q:=by
    rw [ZV (g:=fun _=>q) fun y hy=>?_,WP]
    rw [sN_split,ZV (g:=fun _=>1) fun z hz=>i9_yes (by unfold B2;omega),WP,ZV (n:=r) (g:=fun _=>0) fun z hz=>i9_no (by unfold B2;omega),WP];omega
  rw [h1,h2]
end P

namespace P
def T4 (a b c d e f:Nat):Nat:=a * ((b+d) * (c+e+f)+f * (c+e))+b * (d * (c+f+e)+e * (c+f))+c * (e * (f+d)+d * f)
end P

namespace P
open PySem L2 HT
def tcS (T:List Bd->(Nat->Int)->Nat) (f:Nat->Int):List Bd->Nat
  | []=>0
  | b::r=>(if f (la b)=f (lb b) then 0 else b.2.2.toNat * T r (mrg f b))+tcS T f r
def tc (n:Nat):Nat->List Bd->(Nat->Int)->Nat
  | 0,_,_=>0
  | k+1,bs,f=>if zer n f=true then 1 else tcS (tc n k) f bs
def pw (W:Nat->Nat->Int) (ps:List (Nat×Nat)):List Bd:=ps.map fun p=>(((p.1:Int),((p.2:Int),W p.1 p.2)):Bd)
def pf (p:List Int) (i:Nat):Int:=p.getD i 0
def NN (p:List Int):Prop:=∀ c∈p,0<=c
theorem pf_nn {p:List Int} (h:NN p) (i:Nat):0<=pf p i:=by
  unfold pf
  rw [List.getD_eq_getElem?_getD]
  cases e:p[i]? with
  | none=>exact Int.le_refl 0
  | some c=>exact h c (List.mem_of_getElem? e)
theorem pf_app {p:List Int} {c:Int} (i:Nat):pf (p++[c]) i=if i=p.length then c else pf p i:=by
  unfold pf
  rw [List.getD_eq_getElem?_getD,List.getD_eq_getElem?_getD]
  by_cases h:i < p.length
  · rw [List.getElem?_append_left h,if_neg (by omega)]
  · by_cases e:i=p.length
    · rw [if_pos e,e];simp
    · rw [if_neg e,List.getElem?_eq_none (by simp;omega),List.getElem?_eq_none (by omega)]
section
variable {n:Nat} {L:Nat->Nat->Int} {q:Nat}
def Bn (n:Nat) (L:Nat->Nat->Int) (q:Nat) (p:List Int):Bool:=decide ((M.burnt n L (pf p) q).length=n)
theorem bn_iff (N:M.Net n L) (hq:q < n) {p:List Int} (h:NN p):Bn n L q p=true ↔ M.Settled n L q (pf p):=by
  unfold Bn
  rw [decide_eq_true_eq]
  exact M.burnt_settled N hq fun i _ _=>pf_nn h i
theorem settled_le {d d':Nat->Int} (h:M.Settled n L q d) (h0:∀ i,0<=d' i) (hl:∀ i,d' i<=d i):M.Settled n L q d' :=
  ⟨fun i _ _=>h0 i,fun A hA hne=>by
    obtain ⟨i,hi,ha,hlt⟩:=h.sets A hA hne
    exact ⟨i,hi,ha,by have:=hl i;omega⟩⟩
theorem nn_app {p:List Int} {c:Int} (h:NN p) (hc:0<=c):NN (p++[c]):=fun x hx=>by
  rcases List.mem_append.mp hx with z | z
  · exact h x z
  · rw [List.mem_singleton.mp z];exact hc
theorem bn_less (N:M.Net n L) (hq:q < n) {p:List Int} (h:NN p) {c c':Int} (hc:0<=c) (hcc:c<=c') (hb:Bn n L q (p++[c'])=true):Bn n L q (p++[c])=true:=by
  rw [bn_iff N hq (nn_app h hc)]
  refine settled_le ((bn_iff N hq (nn_app h (by omega))).mp hb) (pf_nn (nn_app h hc)) fun i=>?_
  rw [pf_app,pf_app];split <;> omega
theorem bn_pre (N:M.Net n L) (hq:q < n) {p:List Int} (h:NN p) {c:Int} (hc:0<=c) (hb:Bn n L q (p++[c])=true):Bn n L q p=true:=by
  rw [bn_iff N hq h]
  refine settled_le ((bn_iff N hq (nn_app h hc)).mp hb) (pf_nn h) fun i=>?_
  rw [pf_app]
  split
  · rename_i e
    have:pf p i=0:=by unfold pf;rw [List.getD_eq_getElem?_getD,List.getElem?_eq_none (by omega)];rfl
    omega
  · exact Int.le_refl _
theorem tw_filter {P:Nat->Bool} (h:∀ c c',c<=c'->P c'=true->P c=true):∀ m s,(List.range' s m).takeWhile P=(List.range' s m).filter P:=by
  intro m
  induction m with
  | zero=>intro s;rfl
  | succ m ih =>
    intro s
    rw [List.range'_succ]
    cases hp:P s with
    | true=>rw [List.takeWhile_cons_of_pos hp,List.filter_cons_of_pos hp,ih]
    | false =>
      rw [List.takeWhile_cons_of_neg (by rw [hp];decide),List.filter_cons_of_neg (by rw [hp];decide)]
      symm
      rw [List.filter_eq_nil_iff]
      intro c hc hP
      have:=List.mem_range'_1.mp hc
      rw [h s c (by omega) hP] at hp
      cases hp
def ext9 (n:Nat) (L:Nat->Nat->Int) (q m:Nat) (p:List Int):List (List Int):=((List.range m).takeWhile fun (c:Nat)=>Bn n L q (p++[(c:Int)])).map fun (c:Nat)=>p++[(c:Int)]
def pk (n:Nat) (L:Nat->Nat->Int) (q:Nat) (m:Nat->Nat):Nat->List (List Int)
  | 0=>[[]]
  | y+1=>(pk n L q m y).flatMap (ext9 n L q (m y))
def rws (m:Nat->Nat):Nat->List (List Int)
  | 0=>[[]]
  | y+1=>(rws m y).flatMap fun r=>(List.range (m y)).map fun (c:Nat)=>r++[(c:Int)]
theorem rws_nn {m:Nat->Nat}:∀ y,∀ r∈rws m y,NN r/\r.length=y:=by
  intro y
  induction y with
  | zero=>intro r hr;rw [List.mem_singleton.mp hr];exact ⟨fun c hc=>(by cases hc),rfl⟩
  | succ y ih =>
    intro r hr
    obtain ⟨r0,h0,h1⟩:=List.mem_flatMap.mp hr
    obtain ⟨c,_,rfl⟩:=List.mem_map.mp h1
    obtain ⟨a,b⟩:=ih r0 h0
    exact ⟨nn_app a (by omega),by rw [List.length_append,b];rfl⟩
theorem pk_filter (N:M.Net n L) (hq:q < n) (m:Nat->Nat) (h0:Bn n L q []=true):∀ y,pk n L q m y=(rws m y).filter (Bn n L q):=by
  intro y
  induction y with
  | zero=>unfold pk rws;rw [List.filter_cons_of_pos h0];rfl
  | succ y ih =>
    unfold pk rws
    rw [ih]
    have hn:=rws_nn (m:=m) y
    generalize rws m y=rs at hn
    induction rs with
    | nil=>rfl
    | cons r rs ihr =>
      have ihr:=ihr fun x hx=>hn x (List.mem_cons_of_mem _ hx)
      obtain ⟨nn,_⟩:=hn r List.mem_cons_self
      have e1:ext9 n L q (m y) r=(((List.range (m y)).map fun (c:Nat)=>r++[(c:Int)])).filter (Bn n L q):=by
        unfold ext9
        rw [List.range_eq_range',tw_filter (P:=fun (c:Nat)=>Bn n L q (r++[(c:Int)])) (fun c c' hcc hP=>bn_less N hq nn (by omega) (by omega) hP),List.filter_map];rfl
      rw [List.flatMap_cons,List.filter_append]
      cases hb:Bn n L q r with
      | true=>rw [List.filter_cons_of_pos hb,List.flatMap_cons,ihr,e1]
      | false =>
        rw [List.filter_cons_of_neg (by rw [hb];decide),ihr]
        have:(((List.range (m y)).map fun (c:Nat)=>r++[(c:Int)])).filter (Bn n L q)=[]:=by
          rw [List.filter_eq_nil_iff]
          intro x hx hP
          obtain ⟨c,_,rfl⟩:=List.mem_map.mp hx
          rw [bn_pre N hq nn (by omega) hP] at hb
          cases hb
        rw [this,List.nil_append]
def nst:List Nat->(List Int->Bool)->Nat
  | [],P=>if P []=true then 1 else 0
  | m::ms,P=>sN m fun x=>nst ms fun r=>P ((x:Int)::r)
def rwl:List Nat->List (List Int)
  | []=>[[]]
  | m::ms=>(List.range m).flatMap fun (x:Nat)=>(rwl ms).map fun r=>(x:Int)::r
theorem sum_range (m:Nat) (f:Nat->Nat):((List.range m).map f).sum=sN m f:=by
  induction m with
  | zero=>rfl
  | succ m ih=>rw [List.range_succ,List.map_append,List.sum_append,ih];simp [sN]
theorem rwl_count:∀ (ms:List Nat) (P:List Int->Bool),((rwl ms).filter P).length=nst ms P:=by
  intro ms
  induction ms with
  | nil=>intro P;unfold rwl nst;cases h:P [] <;> simp [h]
  | cons m ms ih =>
    intro P
    unfold rwl nst
    rw [List.filter_flatMap,List.length_flatMap,<- sum_range]
    congr 1
    refine List.map_congr_left fun x _=>?_
    rw [List.filter_map,List.length_map]
    exact ih _
theorem rwl_snoc:∀ (ms:List Nat) (m:Nat),rwl (ms++[m])=(rwl ms).flatMap fun r=>(List.range m).map fun (c:Nat)=>r++[(c:Int)]:=by
  intro ms
  induction ms with
  | nil =>
    intro m
    simp only [List.nil_append,rwl,List.map_cons,List.map_nil,List.flatMap_cons,List.flatMap_nil,List.append_nil]
    rw [List.flatMap_def]
    induction (List.range m) with
    | nil=>rfl
    | cons a l ih=>simp [ih]
  | cons a ms ih =>
    intro m
    rw [List.cons_append]
    show (List.range a).flatMap _=((List.range a).flatMap _).flatMap _
    rw [List.flatMap_assoc]
    congr 1
    funext x
    rw [ih,List.map_flatMap,List.flatMap_map]
    congr 1
    funext r
    rw [List.map_map];rfl
theorem rws_rwl (m:Nat->Nat):∀ y,rws m y=rwl ((List.range y).map m):=by
  intro y
  induction y with
  | zero=>rfl
  | succ y ih=>rw [List.range_succ,List.map_append,List.map_singleton,rwl_snoc,<- ih];rfl
end
end P

namespace P
section
variable {n:Nat} {L:Nat->Nat->Int} {d:Nat->Int} {q u v w:Nat}
end
section
variable {L:Nat->Nat->Int}
def W9 (L:Nat->Nat->Int) (i j:Nat):Nat:=(L i j).toNat
theorem w9 {n:Nat} (N:M.Net n L) (i j:Nat):L i j=(W9 L i j:Int):=by have:=N.nn i j;unfold W9;omega
theorem w9s {n:Nat} (N:M.Net n L) {i j:Nat} (hi:i < n) (hj:j < n):W9 L i j=W9 L j i:=by unfold W9;rw [N.sym i j hi hj]
def mB (n:Nat) (L:Nat->Nat->Int) (q y:Nat):Nat:=if y=q then 1 else (M.S n (L y)).toNat
def T9 (n:Nat) (L:Nat->Nat->Int):Nat:=if n=1 then 1 else if n=2 then W9 L 0 1 else if n=3 then N2 (W9 L 0 1) (W9 L 0 2) (W9 L 1 2) else T4 (W9 L 0 1) (W9 L 0 2) (W9 L 0 3) (W9 L 1 2) (W9 L 1 3) (W9 L 2 3)
theorem sN_1 (f:Nat->Nat):sN 1 f=f 0:=by simp [sN]
theorem det9 {n:Nat} (N:M.Net n L) (h1:1<=n) (h4:n<=4):M.det (M.rowsOf n L (M.others n 0))=(T9 n L:Int):=by
  have cs:n=1\/n=2\/n=3\/n=4:=by omega
  have hW:=w9 N
  have z:∀ y,W9 L y y=0:=fun y=>by unfold W9;rw [N.diag y];rfl
  rcases cs with rfl | rfl | rfl | rfl
  · show M.det []=_;rw [M.det0];rfl
  · have s10:=w9s N (i:=1) (j:=0) (by omega) (by omega)
    show M.det [[M.S 2 (L 1)]]=((W9 L 0 1:Nat):Int)
    rw [M.det1]
    simp only [M.S,hW,s10,z];omega
  · have s10:=w9s N (i:=1) (j:=0) (by omega) (by omega)
    have s20:=w9s N (i:=2) (j:=0) (by omega) (by omega)
    have s21:=w9s N (i:=2) (j:=1) (by omega) (by omega)
    show M.det [[M.S 3 (L 1),- L 1 2],[- L 2 1,M.S 3 (L 2)]]=((N2 (W9 L 0 1) (W9 L 0 2) (W9 L 1 2):Nat):Int)
    rw [M.det2,N2_eq]
    unfold M.D2
    simp only [M.S,hW,s10,s20,s21,z,Int.natCast_add,Int.natCast_mul]
    grind
  · have s10:=w9s N (i:=1) (j:=0) (by omega) (by omega)
    have s20:=w9s N (i:=2) (j:=0) (by omega) (by omega)
    have s30:=w9s N (i:=3) (j:=0) (by omega) (by omega)
    have s21:=w9s N (i:=2) (j:=1) (by omega) (by omega)
    have s31:=w9s N (i:=3) (j:=1) (by omega) (by omega)
    have s32:=w9s N (i:=3) (j:=2) (by omega) (by omega)
    show M.det [[M.S 4 (L 1),- L 1 2,- L 1 3],[- L 2 1,M.S 4 (L 2),- L 2 3],[- L 3 1,- L 3 2,M.S 4 (L 3)]]=((T4 (W9 L 0 1) (W9 L 0 2) (W9 L 0 3) (W9 L 1 2) (W9 L 1 3) (W9 L 2 3):Nat):Int)
    rw [M.det3]
    unfold M.D3 M.D2 T4
    simp only [M.S,hW,s10,s20,s30,s21,s31,s32,z,Int.natCast_add,Int.natCast_mul]
    grind
end
end P

namespace P
section
variable {L:Nat->Nat->Int}
end
end P

namespace P
open PySem L2 HT
local macro_rules | `(tactic| simp! only [$ts,*]) => `(tactic| simp only [Z3, Z7, ZM, Zu, Xb, Xt, WO, Zt, WN, Z2, Wt, WC, X4, Vx, fV, fC, f1, f2, fN, Zc, fL, fIf, WT, fOr, fNot, gB, WJ, gOr, XR, Xq, Xw, Zq, fR, fFr, fSl, pN, pS, Z6, Z0, XM, Xr, gN, gT, env0, List.map_cons, List.map_nil, List.length_cons, List.length_nil, List.replicate, List.cons_append, List.nil_append, List.getElem?_cons_zero, List.getElem?_cons_succ, List.getElem?_nil, List.set_cons_zero, List.set_cons_succ, Option.getD_some, Option.getD_none, Option.bind_some, Option.bind_none, Option.map_some, Nat.reduceAdd, Nat.reduceSub, Nat.reduceEqDiff, if_true, if_false, reduceIte, Bool.false_eq_true, XF, Y2, XQ, ZY, Xd, Xp, WA, Wm, WS, Yn, Xg, few, truD, Vk, decide_true, decide_false, Bool.not_true, Bool.not_false, decide_not, ne_eq, not_true_eq_false, not_false_eq_true, Int.reduceEq, Int.cast_ofNat_Int, Int.natCast_add, Int.reduceAdd, Int.cast_ofNat_Int, $ts,*])
def pT (p:List Int):D:=.tup (p.map .int)
theorem pT_add (p:List Int) (c:Int) (h:p.length<=1000):addTD (pT p) (.tup [.int c])=some (pT (p++[c])):=by
  unfold pT addTD
  dsimp only
  rw [if_pos (by simp only [List.length_map,List.length_cons,List.length_nil];unfold Xi;omega),List.map_append];rfl
theorem imm_pT (p:List Int):imm (pT p)=true:=by unfold pT;unfold imm;exact imms_map (fun _=>rfl) _
def ldD (n:Nat) (p:List Int):D:=.tup (p.map .int++List.replicate (n - p.length) (.int 0))
theorem ldD_at {n:Nat} {p:List Int} {i:Nat} (hi:i < n):YY (ldD n p) (.int (i:Int))=some (.int (pf p i)):=by
  unfold ldD
  rw [WA]
  refine atI_ok (by omega) ?_
  rw [Int.toNat_natCast]
  unfold pf
  rw [List.getD_eq_getElem?_getD]
  by_cases h:i < p.length
  · rw [List.getElem?_append_left (by rw [List.length_map];exact h),List.getElem?_map,List.getElem?_eq_getElem h];rfl
  · rw [List.getElem?_append_right (by rw [List.length_map];omega),List.length_map,List.getElem?_replicate,if_pos (by omega),List.getElem?_eq_none (by omega)];rfl
noncomputable def lnB:FS:=(Zr (Zt 7 (f2 ZS (f2 addTD (fV 4) (fL Yn (Zc (fV 6) fN))) (f2 mulTD (fL Yn (Zc (fC (.int 0)) fN)) (f2 (ZY fun i j=>.int (i - j)) (f2 (ZY fun i j=>.int (i - j)) (fL Yy (Zc (fV 0) fN)) (fV 5)) (fC (.int 1))))))
  (Zr (Wt (gB (f2 Xt (fL Yy (Zc (fL ZF (Zc (fV 0) (Zc (fV 7) (Zc (fV 1) fN)))) fN)) (fL Yy (Zc (fV 0) fN)))) (fun ρ=>.bk ρ) WO)
  (sApp 3 (f2 addTD (fV 4) (fL Yn (Zc (fV 6) fN))))))
section
variable {n:Nat} {L:Nat->Nat->Int} {q:Nat}
def lnE (n:Nat) (L:Nat->Nat->Int) (q:Nat) (bg:D) (found:List (List Int)) (x:List (Option Cl)):Y1:=some (.val (XO n L))::some (.val (.int (q:Int)))::some (.val bg)::some (.own (.lst (found.map pT)))::x
theorem ln_step (hn:n<=5) (hq:q < n) {p:List Int} (hy:p.length < n) {bg:D} (c:Nat) (found:List (List Int)) (x7:Option Cl) (hl:found.length < 65000) :
    lnB (lnE n L q bg found [some (.val (pT p)),some (.val (.int (p.length:Int))),some (.val (.int (c:Int))),x7]) =
      if Bn n L q (p++[(c:Int)])=true then .nx (lnE n L q bg (found++[p++[(c:Int)]]) [some (.val (pT p)),some (.val (.int (p.length:Int))),some (.val (.int (c:Int))),some (.val (ldD n (p++[(c:Int)])))])
      else .bk (lnE n L q bg found [some (.val (pT p)),some (.val (.int (p.length:Int))),some (.val (.int (c:Int))),some (.val (ldD n (p++[(c:Int)])))]):=by
  have e1:mulTD (.tup [.int 0]) (.int ((n:Int) - (p.length:Int) - 1))=some (.tup (List.replicate (n - (p++[(c:Int)]).length) (.int 0))):=by
    show (if _ then _ else _)=_
    rw [if_pos (by omega),List.length_append,List.length_singleton,show ((n:Int) - (p.length:Int) - 1).toNat=n - (p.length+1) by omega]
  have e2:ZS (pT (p++[(c:Int)])) (.tup (List.replicate (n - (p++[(c:Int)]).length) (.int 0)))=some (ldD n (p++[(c:Int)])):=by
    unfold pT ldD
    exact addD_tt (by simp) (by simp;omega)
  have e3:=g_burnt (L:=L) (d:=pf (p++[(c:Int)])) hn hq (ld:=ldD n (p++[(c:Int)])) fun i hi=>ldD_at hi
  have bl:=(M.burnt_bi (L:=L) (d:=pf (p++[(c:Int)])) hq).len
  have e4:=pT_add p (c:Int) (by omega)
  unfold lnB lnE
  simp! only [lim1',e4,WR,e1,e2,e3,nL_len]
  have e5:decide (((M.burnt n L (pf (p++[(c:Int)])) q).length:Int) < (n:Int))=!Bn n L q (p++[(c:Int)]):=by
    unfold Bn
    by_cases h:(M.burnt n L (pf (p++[(c:Int)])) q).length=n
    · rw [decide_eq_true h,decide_eq_false (by omega)];rfl
    · rw [decide_eq_false h,decide_eq_true (by omega)];rfl
  rw [e5]
  cases hB:Bn n L q (p++[(c:Int)]) with
  | false =>
    simp only [Bool.not_false,Bool.false_eq_true,if_false];rfl
  | true =>
    simp only [Bool.not_true,if_true]
    simp! only [sApp,lim1',e4,imm_pT,List.length_map]
    rw [if_pos ⟨trivial,by unfold Xi;omega⟩,List.map_append];rfl
theorem ln_loop (hn:n<=5) (hq:q < n) {p:List Int} (hy:p.length < n) {bg:D}:∀ (cs:List Nat) (found:List (List Int)) (x6 x7:Option Cl),found.length+cs.length<=65000->∃ x6' x7',
    YZ (gN 6) lnB (cs.map fun (c:Nat)=>D.int (c:Int)) (lnE n L q bg found [some (.val (pT p)),some (.val (.int (p.length:Int))),x6,x7]) =
      .nx (lnE n L q bg (found++(cs.takeWhile fun (c:Nat)=>Bn n L q (p++[(c:Int)])).map fun (c:Nat)=>p++[(c:Int)]) [some (.val (pT p)),some (.val (.int (p.length:Int))),x6',x7']):=by
  intro cs
  induction cs with
  | nil=>intro found x6 x7 _;exact ⟨x6,x7,by simp [YZ]⟩
  | cons c cs ih =>
    intro found x6 x7 hl
    simp only [List.length_cons] at hl
    have st:=ln_step (L:=L) hn hq hy (bg:=bg) c found x7 (by omega)
    rw [List.map_cons]
    unfold YZ
    have eg:gN 6 (D.int ((c:Nat):Int))=some [(6,D.int ((c:Nat):Int))]:=rfl
    rw [eg]
    dsimp only
    have es:Xr (lnE n L q bg found [some (.val (pT p)),some (.val (.int (p.length:Int))),x6,x7]) [(6,D.int ((c:Nat):Int))]=lnE n L q bg found [some (.val (pT p)),some (.val (.int (p.length:Int))),some (.val (.int (c:Int))),x7]:=rfl
    rw [es,st]
    cases hB:Bn n L q (p++[(c:Int)]) with
    | true =>
      obtain ⟨x6',x7',e⟩:=ih (found++[p++[(c:Int)]]) (some (.val (.int (c:Int)))) (some (.val (ldD n (p++[(c:Int)])))) (by rw [List.length_append,List.length_singleton];omega)
      refine ⟨x6',x7',?_⟩
      rw [if_pos rfl]
      dsimp only
      rw [e,List.takeWhile_cons_of_pos (p:=fun (c:Nat)=>Bn n L q (p++[(c:Int)])) hB,List.map_cons,List.append_assoc];rfl
    | false =>
      refine ⟨some (.val (.int (c:Int))),some (.val (ldD n (p++[(c:Int)]))),?_⟩
      rw [if_neg (by decide),List.takeWhile_cons_of_neg (p:=fun (c:Nat)=>Bn n L q (p++[(c:Int)])) (by rw [hB];decide),List.map_nil,List.append_nil]
noncomputable def lnC:FS:=(Zr (Zt 5 (fL Yy (Zc (fV 4) fN)))
  (XE (fR Xh (Zc (fIf (gB (f2 WK (fV 5) (fV 1))) (fC (.int 1)) (fL Vh (Zc (f2 YY (fV 0) (fV 5)) fN))) fN)) (gN 6) lnB))
theorem ext9_len {m:Nat} {p:List Int}:(ext9 n L q m p).length<=m:=by
  unfold ext9
  rw [List.length_map]
  have:=(List.takeWhile_sublist (l:=List.range m) fun (c:Nat)=>Bn n L q (p++[(c:Int)])).length_le
  rw [List.length_range] at this;exact this
theorem ln_one (hn:n<=5) (hq:q < n) {y:Nat} (hyn:y < n) (hm:mB n L q y<=20) (h0:0<=M.S n (L y)) {bg:D} {p:List Int} (hp:p.length=y) (found:List (List Int)) (x5 x6 x7:Option Cl) (hl:found.length<=64000):∃ x5' x6' x7',
    lnC (lnE n L q bg found [some (.val (pT p)),x5,x6,x7])=.nx (lnE n L q bg (found++ext9 n L q (mB n L q y) p) [some (.val (pT p)),x5',x6',x7']):=by
  subst hp
  obtain ⟨x6',x7',e⟩:=ln_loop (L:=L) hn hq hyn (bg:=bg) (List.range (mB n L q p.length)) found x6 x7 (by rw [List.length_range];omega)
  refine ⟨some (.val (.int (p.length:Int))),x6',x7',?_⟩
  · unfold lnC
    rw [ZM]
    have e1:Zt 5 (fL Yy (Zc (fV 4) fN)) (lnE n L q bg found [some (.val (pT p)),x5,x6,x7])=.nx (lnE n L q bg found [some (.val (pT p)),some (.val (.int (p.length:Int))),x6,x7]):=by
      unfold lnE pT
      simp! only [List.length_map]
    rw [e1,Zu]
    unfold XE
    have e2:fR Xh (Zc (fIf (gB (f2 WK (fV 5) (fV 1))) (fC (.int 1)) (fL Vh (Zc (f2 YY (fV 0) (fV 5)) fN))) fN) (Z6 (lnE n L q bg found [some (.val (pT p)),some (.val (.int (p.length:Int))),x6,x7]))=some ((List.range (mB n L q p.length)).map fun (k:Nat)=>D.int (k:Int)):=by
      have hr:=Xs (n:=mB n L q p.length) (by omega)
      unfold lnE
      simp! only [eqOp_nat,mTab_at hyn,sum_lD]
      by_cases hc:p.length=q
      · have e3:mB n L q p.length=1:=by unfold mB;rw [if_pos hc]
        rw [e3] at hr ⊢
        simp only [hc,decide_true,if_true,Option.bind_some]
        exact hr
      · have e3:((mB n L q p.length:Nat):Int)=M.S n (L p.length):=by unfold mB;rw [if_neg hc];omega
        rw [e3] at hr
        simp only [hc,decide_false,Bool.false_eq_true,if_false,Option.bind_some]
        exact hr
    rw [e2]
    dsimp only
    rw [e];rfl
theorem ln_all (hn:n<=5) (hq:q < n) {y:Nat} (hyn:y < n) (hm:mB n L q y<=20) (h0:0<=M.S n (L y)) {bg:D}:∀ (ps found:List (List Int)) (x4 x5 x6 x7:Option Cl),(∀ p∈ps,p.length=y)->found.length+20 * ps.length<=64000->∃ x4' x5' x6' x7',
    YZ (gN 4) lnC (ps.map pT) (lnE n L q bg found [x4,x5,x6,x7])=.nx (lnE n L q bg (found++ps.flatMap (ext9 n L q (mB n L q y))) [x4',x5',x6',x7']):=by
  intro ps
  induction ps with
  | nil=>intro found x4 x5 x6 x7 _ _;exact ⟨x4,x5,x6,x7,by simp [YZ]⟩
  | cons p ps ih =>
    intro found x4 x5 x6 x7 hp hl
    simp only [List.length_cons] at hl
    obtain ⟨y5,y6,y7,e1⟩:=ln_one (L:=L) hn hq hyn hm h0 (bg:=bg) (hp p List.mem_cons_self) found x5 x6 x7 (by omega)
    have hx:=ext9_len (n:=n) (L:=L) (q:=q) (m:=mB n L q y) (p:=p)
    obtain ⟨z4,z5,z6,z7,e2⟩:=ih (found++ext9 n L q (mB n L q y) p) (some (.val (pT p))) y5 y6 y7 (fun r hr=>hp r (List.mem_cons_of_mem _ hr)) (by rw [List.length_append];omega)
    refine ⟨z4,z5,z6,z7,?_⟩
    rw [List.map_cons]
    unfold YZ
    have eg:gN 4 (pT p)=some [(4,pT p)]:=rfl
    rw [eg]
    dsimp only
    have es:Xr (lnE n L q bg found [x4,x5,x6,x7]) [(4,pT p)]=lnE n L q bg found [some (.val (pT p)),x5,x6,x7]:=rfl
    rw [es,e1]
    dsimp only
    rw [e2,List.flatMap_cons,List.append_assoc]
theorem g_lengthened (hn:n<=5) (hq:q < n) {y:Nat} (hyn:y < n) (hm:mB n L q y<=20) (h0:0<=M.S n (L y)) {ps:List (List Int)} (hp:∀ p∈ps,p.length=y) (hl:ps.length<=3000) :
    YB [XO n L,.int (q:Int),.lst (ps.map pT)]=some (.lst ((ps.flatMap (ext9 n L q (mB n L q y))).map pT)):=by
  obtain ⟨x4,x5,x6,x7,e⟩:=ln_all (L:=L) hn hq hyn hm h0 (bg:=.lst (ps.map pT)) ps [] none none none none hp (by simp;omega)
  have hb:YB=Z3 3 8 (Zr (X4 3 (fR few fN)) (Zr (XH (Zq (fV 2)) (gN 4) lnC) (Z2 (fV 3)))):=rfl
  have hf:∀ F:FS,XH (Zq (fV 2)) (gN 4) F (lnE n L q (.lst (ps.map pT)) [] [none,none,none,none])=YZ (gN 4) F (ps.map pT) (lnE n L q (.lst (ps.map pT)) [] [none,none,none,none]):=fun F=>rfl
  rw [hb]
  unfold Z3
  rw [if_pos (show ([XO n L,.int (q:Int),.lst (ps.map pT)]:List D).length=3 from rfl)]
  have es:Z7 3 8 [XO n L,.int (q:Int),.lst (ps.map pT)]=[some (.val (XO n L)),some (.val (.int (q:Int))),some (.val (.lst (ps.map pT))),none,none,none,none,none]:=rfl
  have eo:X4 3 (fR few fN) [some (.val (XO n L)),some (.val (.int (q:Int))),some (.val (.lst (ps.map pT))),none,none,none,none,none]=.nx (lnE n L q (.lst (ps.map pT)) [] [none,none,none,none]):=rfl
  rw [es,ZM,eo,Zu,ZM,hf,e,Zu]
  rw [List.nil_append];rfl
end
section
variable {n:Nat} {L:Nat->Nat->Int} {q:Nat}
theorem mB_le (N:M.Net n L) (h4:∀ i j,L i j<=4) (hn:n<=4) {y:Nat} (hy:y < n):mB n L q y<=12:=by
  unfold mB
  split
  · omega
  · have d:=N.diag y
    have a:=h4 y 0
    have b:=h4 y 1
    have c:=h4 y 2
    have e:=h4 y 3
    have cs:n=1\/n=2\/n=3\/n=4:=by omega
    rcases cs with rfl | rfl | rfl | rfl <;> simp only [M.S]
    · omega
    · omega
    · omega
    · have cy:y=0\/y=1\/y=2\/y=3:=by omega
      rcases cy with rfl | rfl | rfl | rfl <;> omega
theorem S_nn (N:M.Net n L) (y:Nat):0<=M.S n (L y):=by
  have key:∀ k,0<=M.S k (L y):=by
    intro k
    induction k with
    | zero=>exact Int.le_refl 0
    | succ k ih=>show 0<=M.S k (L y)+L y k;have:=N.nn y k;omega
  exact key n
theorem rws_len {m:Nat->Nat} {k:Nat} (hm:∀ y,y < k->m y<=12):∀ y,y<=k->(rws m y).length<=12 ^ y:=by
  intro y
  induction y with
  | zero=>intro _;exact Nat.le_refl 1
  | succ y ih =>
    intro hk
    have ih:=ih (by omega)
    unfold rws
    have:∀ rs:List (List Int),(rs.flatMap fun r=>(List.range (m y)).map fun (c:Nat)=>r++[(c:Int)]).length<=rs.length * 12:=by
      intro rs
      induction rs with
      | nil=>simp
      | cons r rs ihr =>
        rw [List.flatMap_cons,List.length_append,List.length_map,List.length_range,List.length_cons]
        have:=hm y (by omega)
        omega
    have:=this (rws m y)
    rw [Nat.pow_succ];omega
theorem pk_sub (N:M.Net n L) (hq:q < n) (h0:Bn n L q []=true) (m:Nat->Nat) (y:Nat):(∀ p∈pk n L q m y,p.length=y)/\(pk n L q m y).length<=(rws m y).length:=by
  rw [pk_filter N hq m h0]
  exact ⟨fun p hp=>(rws_nn y p (List.mem_filter.mp hp).1).2,List.length_filter_le _ _⟩
theorem S_pos {f:Nat->Int} {j:Nat}:∀ {n:Nat},j < n->(∀ k,0<=f k)->0 < f j->0 < M.S n f:=by
  intro n hj h0 hp
  have nn:∀ k,0<=M.S k f:=by
    intro k
    induction k with
    | zero=>exact Int.le_refl 0
    | succ k ih=>show 0<=M.S k f+f k;have:=h0 k;omega
  induction n with
  | zero=>omega
  | succ n ih =>
    show 0 < M.S n f+f n
    by_cases e:j=n
    · have:=nn n;rw [<- e] at this ⊢;omega
    · have:=ih (by omega);have:=h0 n;omega
end
theorem bn_nil {g:Gr} (h:GOk g) {q:Nat} (hq:q < g.n):Bn g.n (ln g.bs) q []=true:=by
  have N:=h.gd.net
  rw [bn_iff N hq (fun c hc=>by cases hc)]
  have z:∀ i,pf [] i=0:=fun i=>by unfold pf;simp
  refine ⟨fun i _ _=>by rw [z];exact Int.le_refl 0,fun A hA hne=>?_⟩
  obtain ⟨i,j,hi,hj,ai,aj,l⟩:=h.gd.cross A hne ⟨q,hq,hA⟩
  refine ⟨i,hi,ai,?_⟩
  rw [z]
  refine S_pos (j:=j) hj (fun k=>?_) ?_
  · show 0<=if A k=true then 0 else ln g.bs i k
    split
    · exact Int.le_refl 0
    · exact N.nn i k
  · show 0 < if A j=true then 0 else ln g.bs i j
    rw [aj];exact l
theorem g_parkings {g:Gr} (h:GOk g) (h4:g.n<=4) {q:Nat} (hq:q < g.n):Y0 [gD g,.int (q:Int)]=some (.lst ((pk g.n (ln g.bs) q (mB g.n (ln g.bs) q) g.n).map pT)):=by
  have N:=h.gd.net
  have l4:=h.gd.le4
  have n5:=h.n5
  have h0:=bn_nil h hq
  have key:∀ (k y:Nat) (x4:Option Cl),y+k=g.n->∃ x4',YZ (gN 4) (Zt 3 (fL YB (Zc (fV 2) (Zc (fV 1) (Zc (fV 3) fN))))) ((List.range' y k).map fun (i:Nat)=>D.int (i:Int)) [some (.val (gD g)),some (.val (.int (q:Int))),some (.val (XO g.n (ln g.bs))),some (.val (.lst ((pk g.n (ln g.bs) q (mB g.n (ln g.bs) q) y).map pT))),x4] =
      .nx [some (.val (gD g)),some (.val (.int (q:Int))),some (.val (XO g.n (ln g.bs))),some (.val (.lst ((pk g.n (ln g.bs) q (mB g.n (ln g.bs) q) g.n).map pT))),x4']:=by
    intro k
    induction k with
    | zero=>intro y x4 e;rw [show y=g.n by omega];exact ⟨x4,rfl⟩
    | succ k ih =>
      intro y x4 e
      obtain ⟨x4',e2⟩:=ih (y+1) (some (.val (.int (y:Int)))) (by omega)
      refine ⟨x4',?_⟩
      obtain ⟨s1,s2⟩:=pk_sub N hq h0 (mB g.n (ln g.bs) q) y
      have s3:=rws_len (m:=mB g.n (ln g.bs) q) (k:=g.n) (fun y hy=>mB_le (q:=q) N l4 h4 hy) y (by omega)
      have s4:12 ^ y<=12 ^ 3:=Nat.pow_le_pow_right (by omega) (by omega)
      have e3:=g_lengthened (L:=ln g.bs) n5 hq (y:=y) (by omega) (by have:=mB_le (q:=q) N l4 h4 (show y < g.n by omega);omega) (S_nn N y) s1 (by omega)
      rw [List.range'_succ,List.map_cons]
      unfold YZ
      have eg:gN 4 (D.int ((y:Nat):Int))=some [(4,D.int ((y:Nat):Int))]:=rfl
      rw [eg]
      simp! only [e3]
      exact e2
  obtain ⟨x4,e⟩:=key g.n 0 none (by omega)
  rw [<- List.range_eq_range'] at e
  have hf:∀ (F:FS) a,XE (fR Xh (Zc (fL Yy (Zc (fV 2) fN)) fN)) (gN 4) F [some (.val (gD g)),some (.val (.int (q:Int))),some (.val (XO g.n (ln g.bs))),some (.val a),none]=YZ (gN 4) F ((List.range g.n).map fun (i:Nat)=>D.int (i:Int)) [some (.val (gD g)),some (.val (.int (q:Int))),some (.val (XO g.n (ln g.bs))),some (.val a),none]:=fun F a=>by
    unfold XE
    simp! only [WR,Xs (show g.n<=65536 by omega)]
  have hz:(.lst [.tup []]:D)=.lst ((pk g.n (ln g.bs) q (mB g.n (ln g.bs) q) 0).map pT):=rfl
  unfold Y0 F_parkings
  simp! only [g_checked_yard h hq,g_table h,lim0',lim1',hf,hz,e]
theorem pT_tD {n:Nat} {p:List Int} (h:p.length=n):pT p=tD n (pf p):=by
  subst h
  unfold pT tD
  rw [show tab p.length (pf p)=p from ?_]
  have:=tab_of p
  unfold pf
  simp only [List.getD_eq_getElem?_getD]
  exact this.symm
section
variable {g:Gr} (h:GOk g) {q:Nat}
include h
end
theorem g_many {g:Gr} (h:GOk g) (h4:g.n<=4):Yb [gD g]=some (.int (T9 g.n (ln g.bs):Nat)):=by
  have e1:=VF (n:=g.n) (L:=ln g.bs) (q:=0) (by omega)
  obtain ⟨d1,d2⟩:=rows_dim (n:=g.n) (L:=ln g.bs) (vs:=M.others g.n 0)
  have ol:(M.others g.n 0).length<=3:=by
    have:=others_eq (n:=g.n) (q:=0) (by have:=h.n1;omega)
    rw [this];simp;omega
  have e2:=We (rows:=M.rowsOf g.n (ln g.bs) (M.others g.n 0)) (k:=(M.others g.n 0).length) (by omega) d1 d2 (rows_sml h.gd _)
  rw [det9 h.gd.net h.n1 h4] at e2
  rw [show ((0:Nat):Int)=0 from rfl] at e1
  unfold Yb Wc
  simp only [Z3,Z7,ZM,Zu,Xb,Xt,WO,Zt,WN,Z2,Wt,WC,X4,Vx,fV,fC,f1,f2,fN,Zc,fL,fIf,WT,fOr,fNot,gB,WJ,gOr,XR,Xq,Xw,Zq,fR,fFr,fSl,pN,pS,Z6,Z0,XM,Xr,gN,gT,env0,List.map_cons,List.map_nil,List.length_cons,List.length_nil,List.replicate,List.cons_append,List.nil_append,List.getElem?_cons_zero,List.getElem?_cons_succ,List.getElem?_nil,List.set_cons_zero,List.set_cons_succ,Option.getD_some,Option.getD_none,Option.bind_some,Option.bind_none,Option.map_some,Nat.reduceAdd,Nat.reduceSub,Nat.reduceEqDiff,if_true,if_false,reduceIte,Bool.false_eq_true,XF,Y2,XQ,ZY,Xd,Xp,WA,Wm,WS,Yn,Xg,few,truD,Vk,decide_true,decide_false,Bool.not_true,Bool.not_false,decide_not,ne_eq,not_true_eq_false,not_false_eq_true,Int.reduceEq,Int.cast_ofNat_Int,Int.natCast_add,Int.reduceAdd,Int.cast_ofNat_Int,g_checked h,g_table h,e1,e2]
end P

namespace P
theorem sN_mul (n c:Nat) (f:Nat->Nat):sN n (fun i=>c * f i)=c * sN n f:=by
  induction n with
  | zero=>simp [sN]
  | succ n ih=>show sN n (fun i=>c * f i)+c * f n=c * (sN n f+f n);rw [ih,Nat.mul_add]
theorem sh_nat {m:Nat} {h:Int->Nat} (hp:∀ u,h (u+m)=h u):∀ t:Nat,sN m (fun x=>h ((x:Int)+(t:Int)))=sN m (fun x=>h (x:Int)):=by
  have one:∀ g:Int->Nat,(∀ u,g (u+m)=g u)->sN m (fun x=>g ((x:Int)+1))=sN m (fun x=>g (x:Int)):=by
    intro g hg
    have key:∀ k:Nat,sN k (fun x=>g ((x:Int)+1))+g 0=sN k (fun x=>g (x:Int))+g (k:Int):=by
      intro k
      induction k with
      | zero=>rfl
      | succ k ih =>
        show sN k (fun x=>g ((x:Int)+1))+g ((k:Int)+1)+g 0=sN k (fun x=>g (x:Int))+g (k:Int)+g ((k+1:Nat):Int)
        rw [show ((k+1:Nat):Int)=(k:Int)+1 by omega];omega
    have:=key m
    have e:=hg 0
    rw [Int.zero_add] at e
    omega
  intro t
  induction t with
  | zero=>simp
  | succ t ih =>
    rw [<- ih,<- one (fun u=>h (u+t)) (fun u=>by rw [show u+(m:Int)+t=(u+t)+m by omega,hp])]
    exact ZV fun x _=>by congr 1;omega
theorem sh_int {m:Nat} {h:Int->Nat} (hp:∀ u,h (u+m)=h u) (t:Int):sN m (fun x=>h ((x:Int)+t))=sN m (fun x=>h (x:Int)):=by
  by_cases ht:0<=t
  · have:=sh_nat hp t.toNat
    rw [show ((t.toNat:Nat):Int)=t by omega] at this;exact this
  · have:=sh_nat (m:=m) (h:=fun u=>h (u+t)) (fun u=>by rw [show u+(m:Int)+t=(u+t)+m by omega,hp]) (-t).toNat
    rw [show (((-t).toNat:Nat):Int)=-t by omega] at this
    rw [<- this]
    exact ZV fun x _=>by congr 1;omega
def T3 (m:Nat) (g:Int->Int->Int->Nat):Nat:=sN m fun x=>sN m fun y=>sN m fun z=>g x y z
theorem YI {m:Nat} {g g':Int->Int->Int->Nat} (h:∀ x y z,g x y z=g' x y z):T3 m g=T3 m g' :=
  ZV fun x _=>ZV fun y _=>ZV fun z _=>h x y z
theorem T3_12 (m:Nat) (g:Int->Int->Int->Nat):T3 m (fun x y z=>g y x z)=T3 m g:=by
  unfold T3
  exact sN_swap m m fun i j=>sN m fun z=>g j i z
theorem T3_23 (m:Nat) (g:Int->Int->Int->Nat):T3 m (fun x y z=>g x z y)=T3 m g:=by
  unfold T3
  exact ZV fun x _=>sN_swap m m fun i j=>g x j i
theorem T3_13 (m:Nat) (g:Int->Int->Int->Nat):T3 m (fun x y z=>g z y x)=T3 m g :=
  (T3_12 m fun x y z=>g z x y).trans ((T3_23 m fun x y z=>g y x z).trans (T3_12 m g))
theorem T3_s (m:Nat) (g:Int->Int->Int->Nat) (hp:∀ x y z,g x y (z+m)=g x y z) (t:Int->Int->Int):T3 m (fun x y z=>g x y (z+t x y))=T3 m g :=
  ZV fun x _=>ZV fun y _=>sh_int (h:=g x y) (hp x y) (t x y)
structure M3 where
  a:Int
  b:Int
  c:Int
  d:Int
  e:Int
  f:Int
  g:Int
  h:Int
  k:Int
def Xn (a b c x y z:Int):Int:=a * x+b * y+c * z
def G3 (m:Nat) (A:M3) (x y z:Int):Nat:=i9 ((m:Int) ∣ Xn A.a A.b A.c x y z/\(m:Int) ∣ Xn A.d A.e A.f x y z/\(m:Int) ∣ Xn A.g A.h A.k x y z)
def N9 (m:Nat) (A:M3):Nat:=T3 m (G3 m A)
inductive Op9 where
  | r12 (q:Int) | r13 (q:Int) | r21 (q:Int) | r31 (q:Int) | r23 (q:Int) | r32 (q:Int) | s12 | s13 | s23 | c12 (q:Int) | c13 (q:Int) | c23 (q:Int) | d12 | d13 | d23
def ap9 (A:M3):Op9->M3
  | .r12 q=>⟨A.a,A.b,A.c,A.d+q * A.a,A.e+q * A.b,A.f+q * A.c,A.g,A.h,A.k⟩
  | .r13 q=>⟨A.a,A.b,A.c,A.d,A.e,A.f,A.g+q * A.a,A.h+q * A.b,A.k+q * A.c⟩
  | .r21 q=>⟨A.a+q * A.d,A.b+q * A.e,A.c+q * A.f,A.d,A.e,A.f,A.g,A.h,A.k⟩
  | .r31 q=>⟨A.a+q * A.g,A.b+q * A.h,A.c+q * A.k,A.d,A.e,A.f,A.g,A.h,A.k⟩
  | .r23 q=>⟨A.a,A.b,A.c,A.d,A.e,A.f,A.g+q * A.d,A.h+q * A.e,A.k+q * A.f⟩
  | .r32 q=>⟨A.a,A.b,A.c,A.d+q * A.g,A.e+q * A.h,A.f+q * A.k,A.g,A.h,A.k⟩
  | .s12=>⟨A.d,A.e,A.f,A.a,A.b,A.c,A.g,A.h,A.k⟩
  | .s13=>⟨A.g,A.h,A.k,A.d,A.e,A.f,A.a,A.b,A.c⟩
  | .s23=>⟨A.a,A.b,A.c,A.g,A.h,A.k,A.d,A.e,A.f⟩
  | .c12 q=>⟨A.a,A.b+q * A.a,A.c,A.d,A.e+q * A.d,A.f,A.g,A.h+q * A.g,A.k⟩
  | .c13 q=>⟨A.a,A.b,A.c+q * A.a,A.d,A.e,A.f+q * A.d,A.g,A.h,A.k+q * A.g⟩
  | .c23 q=>⟨A.a,A.b,A.c+q * A.b,A.d,A.e,A.f+q * A.e,A.g,A.h,A.k+q * A.h⟩
  | .d12=>⟨A.b,A.a,A.c,A.e,A.d,A.f,A.h,A.g,A.k⟩
  | .d13=>⟨A.c,A.b,A.a,A.f,A.e,A.d,A.k,A.h,A.g⟩
  | .d23=>⟨A.a,A.c,A.b,A.d,A.f,A.e,A.g,A.k,A.h⟩
theorem XG {m u v q:Int} (h:m ∣ u):m ∣ v+q * u ↔ m ∣ v:=by
  rw [Int.dvd_add_left (Int.dvd_mul_of_dvd_right h)]
theorem lin_add (a b c d e f q x y z:Int):Xn (d+q * a) (e+q * b) (f+q * c) x y z=Xn d e f x y z+q * Xn a b c x y z:=by unfold Xn;grind
theorem ap_N (m:Nat) (A:M3) (o:Op9):N9 m (ap9 A o)=N9 m A:=by
  unfold N9
  cases o with
  | r12 q=>exact YI fun x y z=>YA (by simp only [ap9,lin_add];exact ⟨fun ⟨p,r,s⟩=>⟨p,(XG p).mp r,s⟩,fun ⟨p,r,s⟩=>⟨p,(XG p).mpr r,s⟩⟩)
  | r13 q=>exact YI fun x y z=>YA (by simp only [ap9,lin_add];exact ⟨fun ⟨p,r,s⟩=>⟨p,r,(XG p).mp s⟩,fun ⟨p,r,s⟩=>⟨p,r,(XG p).mpr s⟩⟩)
  | r21 q=>exact YI fun x y z=>YA (by simp only [ap9,lin_add];exact ⟨fun ⟨p,r,s⟩=>⟨(XG r).mp p,r,s⟩,fun ⟨p,r,s⟩=>⟨(XG r).mpr p,r,s⟩⟩)
  | r31 q=>exact YI fun x y z=>YA (by simp only [ap9,lin_add];exact ⟨fun ⟨p,r,s⟩=>⟨(XG s).mp p,r,s⟩,fun ⟨p,r,s⟩=>⟨(XG s).mpr p,r,s⟩⟩)
  | r23 q=>exact YI fun x y z=>YA (by simp only [ap9,lin_add];exact ⟨fun ⟨p,r,s⟩=>⟨p,r,(XG r).mp s⟩,fun ⟨p,r,s⟩=>⟨p,r,(XG r).mpr s⟩⟩)
  | r32 q=>exact YI fun x y z=>YA (by simp only [ap9,lin_add];exact ⟨fun ⟨p,r,s⟩=>⟨p,(XG s).mp r,s⟩,fun ⟨p,r,s⟩=>⟨p,(XG s).mpr r,s⟩⟩)
  | s12=>exact YI fun x y z=>YA (by simp only [ap9];exact ⟨fun ⟨p,r,s⟩=>⟨r,p,s⟩,fun ⟨p,r,s⟩=>⟨r,p,s⟩⟩)
  | s13=>exact YI fun x y z=>YA (by simp only [ap9];exact ⟨fun ⟨p,r,s⟩=>⟨s,r,p⟩,fun ⟨p,r,s⟩=>⟨s,r,p⟩⟩)
  | s23=>exact YI fun x y z=>YA (by simp only [ap9];exact ⟨fun ⟨p,r,s⟩=>⟨p,s,r⟩,fun ⟨p,r,s⟩=>⟨p,s,r⟩⟩)
  | d12=>rw [<- T3_12];exact YI fun x y z=>YA (by simp only [ap9];rw [show ∀ a b c,Xn b a c y x z=Xn a b c x y z from fun a b c=>by unfold Xn;omega,show ∀ a b c,Xn b a c y x z=Xn a b c x y z from fun a b c=>by unfold Xn;omega,show ∀ a b c,Xn b a c y x z=Xn a b c x y z from fun a b c=>by unfold Xn;omega])
  | d13=>rw [<- T3_13];exact YI fun x y z=>YA (by simp only [ap9];rw [show ∀ a b c,Xn c b a z y x=Xn a b c x y z from fun a b c=>by unfold Xn;omega,show ∀ a b c,Xn c b a z y x=Xn a b c x y z from fun a b c=>by unfold Xn;omega,show ∀ a b c,Xn c b a z y x=Xn a b c x y z from fun a b c=>by unfold Xn;omega])
  | d23=>rw [<- T3_23];exact YI fun x y z=>YA (by simp only [ap9];rw [show ∀ a b c,Xn a c b x z y=Xn a b c x y z from fun a b c=>by unfold Xn;omega,show ∀ a b c,Xn a c b x z y=Xn a b c x y z from fun a b c=>by unfold Xn;omega,show ∀ a b c,Xn a c b x z y=Xn a b c x y z from fun a b c=>by unfold Xn;omega])
  | c12 q =>
    rw [<- T3_13 m (G3 m A),<- T3_s m (fun x y z=>G3 m A z y x) (fun x y z=>?_) (fun x y=>q * y),<- T3_13]
    · exact YI fun x y z=>YA (by
        have e:∀ a b c x y z:Int,Xn a (b+q * a) c x y z=Xn a b c (x+q * y) y z:=fun a b c x y z=>by unfold Xn;grind
        simp only [ap9,e])
    · show G3 m A (z+m) y x=G3 m A z y x
      have key:∀ a b c:Int,(m:Int) ∣ Xn a b c (z+m) y x ↔ (m:Int) ∣ Xn a b c z y x:=fun a b c=>by
        rw [show Xn a b c (z+m) y x=Xn a b c z y x+a * m by unfold Xn;grind,XG (Int.dvd_refl _)]
      exact YA (by rw [key,key,key])
  | c13 q =>
    rw [<- T3_13 m (G3 m A),<- T3_s m (fun x y z=>G3 m A z y x) (fun x y z=>?_) (fun x y=>q * x),<- T3_13]
    · exact YI fun x y z=>YA (by
        have e:∀ a b c x y z:Int,Xn a b (c+q * a) x y z=Xn a b c (x+q * z) y z:=fun a b c x y z=>by unfold Xn;grind
        simp only [ap9,e])
    · show G3 m A (z+m) y x=G3 m A z y x
      have key:∀ a b c:Int,(m:Int) ∣ Xn a b c (z+m) y x ↔ (m:Int) ∣ Xn a b c z y x:=fun a b c=>by
        rw [show Xn a b c (z+m) y x=Xn a b c z y x+a * m by unfold Xn;grind,XG (Int.dvd_refl _)]
      exact YA (by rw [key,key,key])
  | c23 q =>
    rw [<- T3_23 m (G3 m A),<- T3_s m (fun x y z=>G3 m A x z y) (fun x y z=>?_) (fun x y=>q * y),<- T3_23]
    · exact YI fun x y z=>YA (by
        have e:∀ a b c x y z:Int,Xn a b (c+q * b) x y z=Xn a b c x (y+q * z) z:=fun a b c x y z=>by unfold Xn;grind
        simp only [ap9,e])
    · show G3 m A x (z+m) y=G3 m A x z y
      have key:∀ a b c:Int,(m:Int) ∣ Xn a b c x (z+m) y ↔ (m:Int) ∣ Xn a b c x z y:=fun a b c=>by
        rw [show Xn a b c x (z+m) y=Xn a b c x z y+b * m by unfold Xn;grind,XG (Int.dvd_refl _)]
      exact YA (by rw [key,key,key])
def iz:Int->Bool
  | .ofNat n=>Nat.beq n 0
  | .negSucc _=>false
theorem iz_iff {x:Int}:iz x=true ↔ x=0:=by
  cases x with
  | ofNat n=>show Nat.beq n 0=true ↔ _;rw [Nat.beq_eq];constructor <;> intro h <;> simp_all
  | negSucc n=>constructor <;> intro h <;> cases h
def ndv (x y:Int):Bool:=!(iz (Int.emod x y))
noncomputable def fN9 {α:Type} (n:Nat) (k:Nat->α):α:=Nat.rec (k 0) (fun m _=>k (Nat.succ m)) n
theorem fN9_eq {α:Type} (n:Nat) (k:Nat->α):fN9 n k=k n:=by cases n <;> rfl
noncomputable def fI9 {α:Type} (x:Int) (k:Int->α):α:=Int.rec (fun n=>fN9 n fun n=>k (.ofNat n)) (fun n=>fN9 n fun n=>k (.negSucc n)) x
theorem YH {α:Type} (x:Int) (k:Int->α):fI9 x k=k x:=by
  cases x with
  | ofNat n=>exact fN9_eq n fun n=>k (.ofNat n)
  | negSucc n=>exact fN9_eq n fun n=>k (.negSucc n)
noncomputable def go9 (K:Int->Int->Int->Bool):Nat->Int->Int->Int->Int->Int->Int->Int->Int->Int->Bool
  | 0,_,_,_,_,_,_,_,_,_=>false
  | n+1,a,b,c,d,e,f,g,h,k =>
  bif iz d then
  bif iz g then
  bif iz b then
  bif iz c then
  bif ndv e a || ndv f a then go9 K n a e f d e f g h k
  else bif ndv h a || ndv k a then go9 K n a h k d e f g h k
  else bif iz h then
    bif iz f then (bif ndv k e then go9 K n a b c d e k g h k else K a e k)
    else fI9 (Int.neg (Int.ediv f e)) fun q=>bif iz q then go9 K n a c b d f e g k h else fI9 (Int.add f (Int.mul q e)) fun f=>fI9 (Int.add k (Int.mul q h)) fun k=>go9 K n a b c d e f g h k
  else fI9 (Int.neg (Int.ediv h e)) fun q=>bif iz q then go9 K n a b c g h k d e f else fI9 (Int.add h (Int.mul q e)) fun h=>fI9 (Int.add k (Int.mul q f)) fun k=>go9 K n a b c d e f g h k
  else fI9 (Int.neg (Int.ediv c a)) fun q=>bif iz q then go9 K n c b a f e d k h g else fI9 (Int.add c (Int.mul q a)) fun c=>fI9 (Int.add f (Int.mul q d)) fun f=>fI9 (Int.add k (Int.mul q g)) fun k=>go9 K n a b c d e f g h k
  else fI9 (Int.neg (Int.ediv b a)) fun q=>bif iz q then go9 K n b a c e d f h g k else fI9 (Int.add b (Int.mul q a)) fun b=>fI9 (Int.add e (Int.mul q d)) fun e=>fI9 (Int.add h (Int.mul q g)) fun h=>go9 K n a b c d e f g h k
  else fI9 (Int.neg (Int.ediv g a)) fun q=>bif iz q then go9 K n g h k d e f a b c else fI9 (Int.add g (Int.mul q a)) fun g=>fI9 (Int.add h (Int.mul q b)) fun h=>fI9 (Int.add k (Int.mul q c)) fun k=>go9 K n a b c d e f g h k
  else fI9 (Int.neg (Int.ediv d a)) fun q=>bif iz q then go9 K n d e f a b c g h k else fI9 (Int.add d (Int.mul q a)) fun d=>fI9 (Int.add e (Int.mul q b)) fun e=>fI9 (Int.add f (Int.mul q c)) fun f=>go9 K n a b c d e f g h k
theorem go_ok (m:Nat) (K:Int->Int->Int->Bool):∀ (n:Nat) (a b c d e f g h k:Int),go9 K n a b c d e f g h k=true->∃ x y z,N9 m ⟨a,b,c,d,e,f,g,h,k⟩=N9 m ⟨x,0,0,0,y,0,0,0,z⟩/\K x y z=true:=by
  intro n
  induction n with
  | zero=>intro a b c d e f g h k H;cases H
  | succ n ih =>
    intro a b c d e f g h k H
    have st:∀ (o:Op9) (a' b' c' d' e' f' g' h' k':Int),ap9 ⟨a,b,c,d,e,f,g,h,k⟩ o=⟨a',b',c',d',e',f',g',h',k'⟩->go9 K n a' b' c' d' e' f' g' h' k'=true->∃ x y z,N9 m ⟨a,b,c,d,e,f,g,h,k⟩=N9 m ⟨x,0,0,0,y,0,0,0,z⟩/\K x y z=true:=by
      intro o a' b' c' d' e' f' g' h' k' he hg
      obtain ⟨x,y,z,e1,e2⟩:=ih _ _ _ _ _ _ _ _ _ hg
      exact ⟨x,y,z,by rw [<- e1,<- he,ap_N],e2⟩
    unfold go9 at H
    cases hd:iz d with
    | false =>
      rw [hd,cond_false,YH] at H
      cases hq:iz (Int.neg (Int.ediv d a)) with
      | true=>rw [hq,cond_true] at H;exact st .s12 _ _ _ _ _ _ _ _ _ rfl H
      | false=>rw [hq,cond_false,YH,YH,YH] at H;exact st (.r12 (Int.neg (Int.ediv d a))) _ _ _ _ _ _ _ _ _ rfl H
    | true =>
    rw [hd,cond_true] at H
    cases hg:iz g with
    | false =>
      rw [hg,cond_false,YH] at H
      cases hq:iz (Int.neg (Int.ediv g a)) with
      | true=>rw [hq,cond_true] at H;exact st .s13 _ _ _ _ _ _ _ _ _ rfl H
      | false=>rw [hq,cond_false,YH,YH,YH] at H;exact st (.r13 (Int.neg (Int.ediv g a))) _ _ _ _ _ _ _ _ _ rfl H
    | true =>
    rw [hg,cond_true] at H
    cases hb:iz b with
    | false =>
      rw [hb,cond_false,YH] at H
      cases hq:iz (Int.neg (Int.ediv b a)) with
      | true=>rw [hq,cond_true] at H;exact st .d12 _ _ _ _ _ _ _ _ _ rfl H
      | false=>rw [hq,cond_false,YH,YH,YH] at H;exact st (.c12 (Int.neg (Int.ediv b a))) _ _ _ _ _ _ _ _ _ rfl H
    | true =>
    rw [hb,cond_true] at H
    cases hc:iz c with
    | false =>
      rw [hc,cond_false,YH] at H
      cases hq:iz (Int.neg (Int.ediv c a)) with
      | true=>rw [hq,cond_true] at H;exact st .d13 _ _ _ _ _ _ _ _ _ rfl H
      | false=>rw [hq,cond_false,YH,YH,YH] at H;exact st (.c13 (Int.neg (Int.ediv c a))) _ _ _ _ _ _ _ _ _ rfl H
    | true =>
    rw [hc,cond_true] at H
    have d0:=iz_iff.mp hd
    have g0:=iz_iff.mp hg
    have b0:=iz_iff.mp hb
    have c0:=iz_iff.mp hc
    cases h1:(ndv e a || ndv f a) with
    | true =>
      rw [h1,cond_true] at H
      exact st (.r21 1) a e f d e f g h k (by simp [ap9,d0,b0,c0]) H
    | false =>
    rw [h1,cond_false] at H
    cases h2:(ndv h a || ndv k a) with
    | true =>
      rw [h2,cond_true] at H
      exact st (.r31 1) a h k d e f g h k (by simp [ap9,g0,b0,c0]) H
    | false =>
    rw [h2,cond_false] at H
    cases hh:iz h with
    | false =>
      rw [hh,cond_false,YH] at H
      cases hq:iz (Int.neg (Int.ediv h e)) with
      | true=>rw [hq,cond_true] at H;exact st .s23 _ _ _ _ _ _ _ _ _ rfl H
      | false =>
        rw [hq,cond_false,YH,YH] at H
        exact st (.r23 (Int.neg (Int.ediv h e))) a b c d e f g _ _ (by simp only [ap9,d0,g0,Int.mul_zero,Int.add_zero];rfl) H
    | true =>
    rw [hh,cond_true] at H
    cases hf:iz f with
    | false =>
      rw [hf,cond_false,YH] at H
      cases hq:iz (Int.neg (Int.ediv f e)) with
      | true=>rw [hq,cond_true] at H;exact st .d23 _ _ _ _ _ _ _ _ _ rfl H
      | false =>
        rw [hq,cond_false,YH,YH] at H
        exact st (.c23 (Int.neg (Int.ediv f e))) a b c d e _ g h _ (by simp only [ap9,b0,c0,Int.mul_zero,Int.add_zero];rfl) H
    | true =>
    rw [hf,cond_true] at H
    have h0:=iz_iff.mp hh
    have f0:=iz_iff.mp hf
    cases h3:ndv k e with
    | true =>
      rw [h3,cond_true] at H
      exact st (.r32 1) a b c d e k g h k (by simp [ap9,d0,g0,f0,h0]) H
    | false =>
      rw [h3,cond_false] at H
      refine ⟨a,e,k,?_,H⟩
      rw [d0,g0,b0,c0,h0,f0]
def cg9 (m:Nat) (a:Int):Nat:=sN m fun x=>i9 ((m:Int) ∣ a * (x:Int))
theorem i9_and {p q:Prop} [Decidable p] [Decidable q]:i9 (p/\q)=i9 p * i9 q:=by
  unfold i9
  by_cases hp:p <;> by_cases hq:q <;> simp [hp,hq]
theorem diag_N (m:Nat) (a e k:Int):N9 m ⟨a,0,0,0,e,0,0,0,k⟩=cg9 m a * (cg9 m e * cg9 m k):=by
  have h:∀ x y z,G3 m ⟨a,0,0,0,e,0,0,0,k⟩ x y z=i9 ((m:Int) ∣ a * x) * (i9 ((m:Int) ∣ e * y) * i9 ((m:Int) ∣ k * z)):=fun x y z=>by
    unfold G3
    rw [<- i9_and,<- i9_and]
    exact YA (by simp [Xn])
  unfold N9 T3
  simp only [h,sN_mul]
  show sN m (fun x=>i9 ((m:Int) ∣ a * (x:Int)) * sN m fun y=>i9 ((m:Int) ∣ e * (y:Int)) * cg9 m k)=_
  have c1:sN m (fun y=>i9 ((m:Int) ∣ e * (y:Int)) * cg9 m k)=cg9 m e * cg9 m k:=by
    rw [show (fun (y:Nat)=>i9 ((m:Int) ∣ e * (y:Int)) * cg9 m k)=fun (y:Nat)=>cg9 m k * i9 ((m:Int) ∣ e * (y:Int)) from funext fun y=>Nat.mul_comm _ _,sN_mul,Nat.mul_comm];rfl
  rw [c1,show (fun (x:Nat)=>i9 ((m:Int) ∣ a * (x:Int)) * (cg9 m e * cg9 m k))=fun (x:Nat)=>(cg9 m e * cg9 m k) * i9 ((m:Int) ∣ a * (x:Int)) from funext fun y=>Nat.mul_comm _ _,sN_mul,Nat.mul_comm];rfl
theorem cg_fin:∀ m,m < 13->0 < m->∀ r,r < m->cg9 m (r:Nat)=Nat.gcd m r:=by decide +kernel
theorem gcd_mod9 (m:Nat) (a:Int):Nat.gcd m a.natAbs=Nat.gcd m (a % m).natAbs:=by
  have h:=Int.emod_add_mul_ediv a m
  have key:∀ (g:Nat) (b:Int),(g:Int) ∣ b ↔ g ∣ b.natAbs:=fun g b=>Int.ofNat_dvd_left
  refine Nat.dvd_antisymm (Nat.dvd_gcd (Nat.gcd_dvd_left _ _) ?_) (Nat.dvd_gcd (Nat.gcd_dvd_left _ _) ?_)
  · have a1:((Nat.gcd m a.natAbs:Nat):Int) ∣ a:=(key _ _).mpr (Nat.gcd_dvd_right _ _)
    have a2:((Nat.gcd m a.natAbs:Nat):Int) ∣ (m:Int):=Int.ofNat_dvd.mpr (Nat.gcd_dvd_left _ _)
    refine (key _ _).mp ?_
    have:a % m=a - m * (a / m):=by omega
    rw [this]
    exact Int.dvd_sub a1 (Int.dvd_mul_of_dvd_left a2)
  · have a1:((Nat.gcd m (a % m).natAbs:Nat):Int) ∣ a % m:=(key _ _).mpr (Nat.gcd_dvd_right _ _)
    have a2:((Nat.gcd m (a % m).natAbs:Nat):Int) ∣ (m:Int):=Int.ofNat_dvd.mpr (Nat.gcd_dvd_left _ _)
    refine (key _ _).mp ?_
    have:=Int.dvd_add a1 (Int.dvd_mul_of_dvd_left (c:=a / m) a2)
    rw [h] at this
    exact this
theorem cg_eq {m:Nat} (h0:0 < m) (h:m<=12) (a:Int):cg9 m a=Nat.gcd m a.natAbs:=by
  have hm:(0:Int) < (m:Int):=by omega
  have r0:=Int.emod_nonneg a (show (m:Int)≠0 by omega)
  have r1:=Int.emod_lt_of_pos a hm
  have e1:cg9 m a=cg9 m (((a % m).toNat:Nat):Int):=by
    refine ZV fun x _=>YA ?_
    rw [show (((a % m).toNat:Nat):Int)=a % m by omega]
    have:a * (x:Int)=(a % m) * x+((a / m) * x) * m:=by
      have:=Int.emod_add_mul_ediv a m
      grind
    rw [this,XG (Int.dvd_refl _)]
  rw [e1,cg_fin m (by omega) h0 _ (by omega)]
  have e2:(a % m).natAbs=(a % m).toNat:=by omega
  rw [<- e2,<- gcd_mod9]
def WG (a b c d e f:Int):M3:=⟨a+d+e,-d,-e,-d,b+d+f,-f,-e,-f,c+e+f⟩
def dt9 (A:M3):Int:=A.a * (A.e * A.k - A.f * A.h) - A.b * (A.d * A.k - A.f * A.g)+A.c * (A.d * A.h - A.e * A.g)
def Wv (l:List Int):Nat:=l.foldl (fun d x=>Nat.gcd d x.natAbs) 0
def g19 (A:M3):Nat:=Wv [A.a,A.b,A.c,A.d,A.e,A.f,A.g,A.h,A.k]
def g29 (A:M3):Nat:=Wv [A.a * A.e - A.b * A.d,A.a * A.f - A.c * A.d,A.b * A.f - A.c * A.e,A.a * A.h - A.b * A.g,A.a * A.k - A.c * A.g,A.b * A.k - A.c * A.h,A.d * A.h - A.e * A.g,A.d * A.k - A.f * A.g,A.e * A.k - A.f * A.h]
noncomputable def ck9 (A:M3):Bool :=
  fI9 A.a fun a=>fI9 A.b fun b=>fI9 A.c fun c=>fI9 A.d fun d=>fI9 A.e fun e=>fI9 A.f fun f=>fI9 A.g fun g=>fI9 A.h fun h=>fI9 A.k fun k =>
  fI9 (dt9 ⟨a,b,c,d,e,f,g,h,k⟩) fun dt=>bif iz dt then true else
  fN9 (g19 ⟨a,b,c,d,e,f,g,h,k⟩) fun p=>fN9 (g29 ⟨a,b,c,d,e,f,g,h,k⟩) fun q=>fN9 (q / p) fun y=>fN9 (dt.natAbs / q) fun z =>
  Nat.blt p 1000000 && Nat.blt q 1000000 && Nat.blt 0 p && Nat.blt 0 y && Nat.blt 0 z && Nat.beq (y % p) 0 && Nat.beq (z % y) 0 && iz (Int.sub ((p * y * z:Nat):Int) dt) &&
  go9 (fun u v w=>Nat.beq u.natAbs p && Nat.beq v.natAbs y && Nat.beq w.natAbs z) 60 a b c d e f g h k
def Wo (P:Nat->Bool):Bool:=P 0 && P 1 && P 2 && P 3 && P 4
theorem Yk {P:Nat->Bool} (h:Wo P=true) {i:Nat} (hi:i<=4):P i=true:=by
  unfold Wo at h
  simp only [Bool.and_eq_true] at h
  obtain ⟨⟨⟨⟨h0,h1⟩,h2⟩,h3⟩,h4⟩:=h
  have cs:i=0\/i=1\/i=2\/i=3\/i=4:=by omega
  rcases cs with rfl | rfl | rfl | rfl | rfl <;> assumption
structure Sm9 (A:M3) (p y z:Nat):Prop where
  pl:p < 1000000
  ql:g29 A < 1000000
  p0:0 < p
  y0:0 < y
  z0:0 < z
  py:y % p=0
  yz:z % y=0
  pr:((p * y * z:Nat):Int)=dt9 A
  cn:∀ m,0 < m->m<=12->N9 m A=Nat.gcd m p * (Nat.gcd m y * Nat.gcd m z)
theorem ck_ok {A:M3} (h:ck9 A=true) (hd:dt9 A≠0):Sm9 A (g19 A) (g29 A / g19 A) ((dt9 A).natAbs / g29 A):=by
  obtain ⟨a,b,c,d,e,f,g,hh,k⟩:=A
  unfold ck9 at h
  simp only [YH,fN9_eq] at h
  have hz:iz (dt9 ⟨a,b,c,d,e,f,g,hh,k⟩)=false:=by
    cases z:iz (dt9 ⟨a,b,c,d,e,f,g,hh,k⟩) with
    | false=>rfl
    | true=>exact absurd (iz_iff.mp z) hd
  rw [hz,cond_false] at h
  simp only [Bool.and_eq_true,Nat.blt_eq,Nat.beq_eq] at h
  obtain ⟨⟨⟨⟨⟨⟨⟨⟨l1,l2⟩,h1⟩,h2⟩,h3⟩,h4⟩,h5⟩,h6⟩,h7⟩:=h
  refine ⟨l1,l2,h1,h2,h3,h4,h5,?_,fun m m0 m1=>?_⟩
  · have:=iz_iff.mp h6
    have e:∀ x y:Int,Int.sub x y=x - y:=fun _ _=>rfl
    rw [e] at this
    omega
  · obtain ⟨x,y,z,e1,e2⟩:=go_ok m _ 60 _ _ _ _ _ _ _ _ _ h7
    simp only [Bool.and_eq_true,Nat.beq_eq] at e2
    obtain ⟨⟨x1,x2⟩,x3⟩:=e2
    rw [e1,diag_N,cg_eq m0 m1,cg_eq m0 m1,cg_eq m0 m1,x1,x2,x3]
end P

namespace P
theorem ck_1:(Wo fun b=>Wo fun c=>Wo fun d=>Wo fun e=>Wo fun f=>ck9 (WG (1:Nat) b c d e f))=true:=by decide +kernel
theorem ck_2:(Wo fun b=>Wo fun c=>Wo fun d=>Wo fun e=>Wo fun f=>ck9 (WG (2:Nat) b c d e f))=true:=by decide +kernel
theorem ck_3:(Wo fun b=>Wo fun c=>Wo fun d=>Wo fun e=>Wo fun f=>ck9 (WG (3:Nat) b c d e f))=true:=by decide +kernel
theorem ck_4:(Wo fun b=>Wo fun c=>Wo fun d=>Wo fun e=>Wo fun f=>ck9 (WG (4:Nat) b c d e f))=true:=by decide +kernel
theorem ck_at {a b c d e f:Nat} (a1:1<=a) (a4:a<=4) (b4:b<=4) (c4:c<=4) (d4:d<=4) (e4:e<=4) (f4:f<=4):ck9 (WG a b c d e f)=true:=by
  have cs:a=1\/a=2\/a=3\/a=4:=by omega
  rcases cs with rfl | rfl | rfl | rfl
  · exact Yk (Yk (Yk (Yk (Yk ck_1 b4) c4) d4) e4) f4
  · exact Yk (Yk (Yk (Yk (Yk ck_2 b4) c4) d4) e4) f4
  · exact Yk (Yk (Yk (Yk (Yk ck_3 b4) c4) d4) e4) f4
  · exact Yk (Yk (Yk (Yk (Yk ck_4 b4) c4) d4) e4) f4
theorem ck_3x:(Wo fun a=>Wo fun b=>Wo fun d=>Nat.beq (g19 (WG a b (1:Nat) d (0:Nat) (0:Nat))) 1 && Nat.beq (g29 (WG a b (1:Nat) d (0:Nat) (0:Nat))) (Wv [(a:Int)+d,-d,-d,(b:Int)+d]))=true:=by decide +kernel
theorem ck_2x:(Wo fun a=>Nat.beq (g19 (WG a (1:Nat) (1:Nat) (0:Nat) (0:Nat) (0:Nat))) 1 && Nat.beq (g29 (WG a (1:Nat) (1:Nat) (0:Nat) (0:Nat) (0:Nat))) 1)=true:=by decide +kernel
end P

namespace P
theorem len_le9 {α β:Type} {R:α->β->Prop}:∀ (xs:List α) (ys:List β),xs.Nodup->(∀ x∈xs,∃ y∈ys,R x y)->(∀ x∈xs,∀ x'∈xs,∀ y,R x y->R x' y->x=x')->xs.length<=ys.length:=by
  intro xs
  induction xs with
  | nil=>intro ys _ _ _;exact Nat.zero_le _
  | cons x xs ih =>
    intro ys nd h1 h2
    obtain ⟨nx,nd'⟩:=List.nodup_cons.mp nd
    obtain ⟨y,hy,r⟩:=h1 x List.mem_cons_self
    obtain ⟨a,b,rfl⟩:=List.append_of_mem hy
    have:=ih (a++b) nd' (fun x' hx'=>by
      obtain ⟨y',hy',r'⟩:=h1 x' (List.mem_cons_of_mem _ hx')
      refine ⟨y',?_,r'⟩
      rcases List.mem_append.mp hy' with z | z
      · exact List.mem_append_left _ z
      · rcases List.mem_cons.mp z with rfl | z
        · exact absurd (h2 x List.mem_cons_self x' (List.mem_cons_of_mem _ hx') _ r r') fun e=>nx (e ▸ hx')
        · exact List.mem_append_right _ z) (fun u hu v hv y ru rv=>h2 u (List.mem_cons_of_mem _ hu) v (List.mem_cons_of_mem _ hv) y ru rv)
    simp only [List.length_append,List.length_cons] at this ⊢
    omega
theorem rws_mem {m:Nat->Nat}:∀ (y:Nat) (r:List Int),r∈rws m y ↔ r.length=y/\∀ i,i < y->0<=pf r i/\pf r i < (m i:Int):=by
  intro y
  induction y with
  | zero =>
    intro r
    constructor
    · intro h;rw [List.mem_singleton.mp h];exact ⟨rfl,fun i hi=>absurd hi (Nat.not_lt_zero _)⟩
    · intro h;rw [List.length_eq_zero_iff.mp h.1];exact List.mem_singleton.mpr rfl
  | succ y ih =>
    intro r
    constructor
    · intro h
      obtain ⟨r0,h0,h1⟩:=List.mem_flatMap.mp h
      obtain ⟨c,hc,rfl⟩:=List.mem_map.mp h1
      have hc:=List.mem_range.mp hc
      obtain ⟨l,b⟩:=(ih r0).mp h0
      refine ⟨by rw [List.length_append,l];rfl,fun i hi=>?_⟩
      rw [pf_app,l]
      split
      · rename_i e;subst e;omega
      · exact b i (by omega)
    · intro ⟨l,b⟩
      have ne:r≠[]:=fun e=>by rw [e] at l;cases l
      have e:=List.dropLast_concat_getLast ne
      generalize r.dropLast=s at e
      generalize r.getLast ne=c at e
      subst e
      have ls:s.length=y:=by simp at l;omega
      have hc:=b y (by omega)
      rw [pf_app,if_pos ls.symm] at hc
      refine List.mem_flatMap.mpr ⟨s,(ih s).mpr ⟨ls,fun i hi=>?_⟩,List.mem_map.mpr ⟨c.toNat,List.mem_range.mpr (by omega),by rw [show ((c.toNat:Nat):Int)=c by omega]⟩⟩
      have:=b i (by omega)
      rw [pf_app,if_neg (by omega)] at this
      exact this
theorem rws_nd {m:Nat->Nat}:∀ y,(rws m y).Nodup:=by
  intro y
  induction y with
  | zero=>simp [rws]
  | succ y ih =>
    unfold rws List.Nodup
    rw [List.pairwise_flatMap]
    refine ⟨fun r _=>?_,?_⟩
    · rw [List.pairwise_map]
      refine List.Pairwise.imp ?_ (List.nodup_range (n:=m y))
      intro a b hab e
      have:=List.append_cancel_left e
      simp at this
      exact hab (by omega)
    · refine List.Pairwise.imp ?_ ih
      intro r r' hrr x hx y hy e
      obtain ⟨c,_,rfl⟩:=List.mem_map.mp hx
      obtain ⟨c',_,rfl⟩:=List.mem_map.mp hy
      have:=List.append_inj' e rfl
      exact hrr this.1
theorem of_pf {r r':List Int} {n:Nat} (l:r.length=n) (l':r'.length=n) (h:∀ i,i < n->pf r i=pf r' i):r=r':=by
  refine List.ext_getElem (by omega) fun i h1 h2=>?_
  have:=h i (by omega)
  unfold pf at this
  rw [List.getD_eq_getElem?_getD,List.getD_eq_getElem?_getD,List.getElem?_eq_getElem h1,List.getElem?_eq_getElem h2] at this
  exact this
def mk9 (n:Nat) (f:Nat->Int):List Int:=(List.range n).map f
theorem mk9_pf {n:Nat} {f:Nat->Int} {i:Nat} (hi:i < n):pf (mk9 n f) i=f i:=by
  unfold pf mk9
  rw [List.getD_eq_getElem?_getD,List.getElem?_map,List.getElem?_range hi];rfl
theorem mk9_len (n:Nat) (f:Nat->Int):(mk9 n f).length=n:=by simp [mk9]
section
variable {n:Nat} {L:Nat->Nat->Int}
theorem settle9 (g:M.Gd n L) (hq:0 < n) (d:Nat->Int):∃ c:Nat->Int,M.Settled n L 0 (M.fire n L d c):=by
  have loop:∀ (k:Nat) (c:Nat->Int),M.NoDebt n 0 (M.fire n L d c)->M.pot n L 0 (M.fire n L d c)<=k->∃ c:Nat->Int,M.Settled n L 0 (M.fire n L d c):=by
    intro k
    induction k with
    | zero =>
      intro c hc hp
      have bi:=M.burnt_bi (L:=L) (d:=M.fire n L d c) hq
      by_cases hl:(M.burnt n L (M.fire n L d c) 0).length=n
      · exact ⟨c,(M.burnt_settled g.net hq hc).mp hl⟩
      · have a:=g.pot_falls hq bi hl
        have b:=g.pot_nonneg hq (M.chi_nodebt g.net bi (M.burnt_clos hq) hc)
        omega
    | succ k ih =>
      intro c hc hp
      have bi:=M.burnt_bi (L:=L) (d:=M.fire n L d c) hq
      by_cases hl:(M.burnt n L (M.fire n L d c) 0).length=n
      · exact ⟨c,(M.burnt_settled g.net hq hc).mp hl⟩
      · have a:=g.pot_falls hq bi hl
        have b:=M.chi_nodebt g.net bi (M.burnt_clos hq) hc
        have e:M.fire n L (M.fire n L d c) (M.chi (M.burnt n L (M.fire n L d c) 0))=M.fire n L d (fun j=>c j+M.chi (M.burnt n L (M.fire n L d c) 0) j):=funext fun i=>M.fire_fire d c _ i
        rw [e] at a b
        exact ih _ b (by omega)
  have h0:=g.cnt_nodebt hq d
  exact loop (M.pot n L 0 (M.fire n L d (M.cnt n L 0 d))).toNat _ h0 (by have:=g.pot_nonneg hq h0;omega)
theorem settled_off {d e:Nat->Int} (h:M.Settled n L 0 d) (he:∀ i,i < n->i≠0->d i=e i):M.Settled n L 0 e :=
  ⟨fun i hi h0=>by rw [<- he i hi h0];exact h.nodebt i hi h0,fun A hA hne=>by
    obtain ⟨i,hi,ha,hl⟩:=h.sets A hA hne
    have h0:i≠0:=fun z=>by rw [z,hA] at ha;cases ha
    exact ⟨i,hi,ha,by rw [<- he i hi h0];exact hl⟩⟩
def Z9 (n:Nat) (L:Nat->Nat->Int) (m:Nat) (p:List Int):Prop:=∃ c:Nat->Int,c 0=0/\∀ i,i < n->i≠0->M.flow n L c i=m * pf p i
def Q9 (n:Nat) (L:Nat->Nat->Int) (m:Nat) (c:List Int):Bool:=(List.range n).all fun i=>decide (i=0\/(m:Int) ∣ M.flow n L (pf c) i)
theorem Q9_iff {m:Nat} {c:List Int}:Q9 n L m c=true ↔ ∀ i,i < n->i≠0->(m:Int) ∣ M.flow n L (pf c) i:=by
  unfold Q9
  rw [List.all_eq_true]
  constructor
  · intro h i hi h0
    rcases of_decide_eq_true (h i (List.mem_range.mpr hi)) with z | z
    · exact absurd z h0
    · exact z
  · intro h i hi
    refine decide_eq_true ?_
    by_cases h0:i=0
    · exact .inl h0
    · exact .inr (h i (List.mem_range.mp hi) h0)
def m9 (m y:Nat):Nat:=if y=0 then 1 else m
theorem tors9 (g:M.Gd n L) {m:Nat} (hm:0 < m) {Z:List Int->Bool} (hZ:∀ p,p∈rws (mB n L 0) n->(Z p=true ↔ Z9 n L m p)) :
    (((rws (mB n L 0) n).filter (Bn n L 0)).filter Z).length=((rws (m9 m) n).filter (Q9 n L m)).length:=by
  have hn:0 < n:=g.pos
  have N:=g.net
  have mi:(0:Int) < (m:Int):=by omega
  have lhs:∀ p,p∈((rws (mB n L 0) n).filter (Bn n L 0)).filter Z ↔ (p.length=n/\∀ i,i < n->0<=pf p i/\pf p i < (mB n L 0 i:Int))/\M.Settled n L 0 (pf p)/\Z9 n L m p:=by
    intro p
    rw [List.mem_filter,List.mem_filter]
    constructor
    · rintro ⟨⟨a,b⟩,c⟩
      exact ⟨(rws_mem n p).mp a,(bn_iff N hn (rws_nn n p a).1).mp b,(hZ p a).mp c⟩
    · rintro ⟨a,b,c⟩
      have a:=(rws_mem n p).mpr a
      exact ⟨⟨a,(bn_iff N hn (rws_nn n p a).1).mpr b⟩,(hZ p a).mpr c⟩
  have rhs:∀ c,c∈(rws (m9 m) n).filter (Q9 n L m) ↔ (c.length=n/\∀ i,i < n->0<=pf c i/\pf c i < (m9 m i:Int))/\∀ i,i < n->i≠0->(m:Int) ∣ M.flow n L (pf c) i:=by
    intro c;rw [List.mem_filter,rws_mem,Q9_iff]
  have nd1:(((rws (mB n L 0) n).filter (Bn n L 0)).filter Z).Nodup:=((rws_nd n).filter _).filter _
  have nd2:((rws (m9 m) n).filter (Q9 n L m)).Nodup:=(rws_nd n).filter _
  have m90:m9 m 0=1:=rfl
  have m9s:∀ i,i≠0->m9 m i=m:=fun i h=>if_neg h
  have z0:∀ c∈(rws (m9 m) n).filter (Q9 n L m),pf c 0=0:=fun c hc=>by
    have:=((rhs c).mp hc).1.2 0 hn
    rw [m90] at this;omega
  have z1:∀ p∈((rws (mB n L 0) n).filter (Bn n L 0)).filter Z,pf p 0=0:=fun p hp=>by
    have:=((lhs p).mp hp).1.2 0 hn
    rw [show mB n L 0 0=1 from rfl] at this;omega
  let R:List Int->List Int->Prop:=fun p c=>∃ z:Nat->Int,z 0=0/\∀ i,i < n->i≠0->M.flow n L (pf c) i+m * M.flow n L z i=m * pf p i
  have inj1:∀ p∈((rws (mB n L 0) n).filter (Bn n L 0)).filter Z,∀ p'∈((rws (mB n L 0) n).filter (Bn n L 0)).filter Z,∀ c,R p c->R p' c->p=p':=by
    rintro p hp p' hp' c ⟨z,hz,e⟩ ⟨z',hz',e'⟩
    obtain ⟨⟨l,_⟩,s,_⟩:=(lhs p).mp hp
    obtain ⟨⟨l',_⟩,s',_⟩:=(lhs p').mp hp'
    have key:∀ i,i < n->i≠0->M.fire n L (pf p) (fun j=>z j+- z' j) i=pf p' i:=fun i hi h0=>by
      have a:=e i hi h0
      have b:=e' i hi h0
      unfold M.fire
      rw [M.flow_add,M.flow_neg]
      have:(m:Int) * (pf p i - pf p' i)=m * (M.flow n L z i - M.flow n L z' i):=by rw [Int.mul_sub,Int.mul_sub];omega
      have:=Int.eq_of_mul_eq_mul_left (by omega) this
      omega
    have u:=M.settled_unique N hn s (c:=fun j=>z j+- z' j) (settled_off s' fun i hi h0=>(key i hi h0).symm)
    refine of_pf l l' fun i hi=>?_
    by_cases h0:i=0
    · subst h0;rw [z1 p hp,z1 p' hp']
    · rw [<- key i hi h0];exact (u i hi).2.symm
  have inj2:∀ c∈(rws (m9 m) n).filter (Q9 n L m),∀ c'∈(rws (m9 m) n).filter (Q9 n L m),∀ p,R p c->R p c'->c=c':=by
    rintro c hc c' hc' p ⟨z,hz,e⟩ ⟨z',hz',e'⟩
    obtain ⟨⟨l,r⟩,_⟩:=(rhs c).mp hc
    obtain ⟨⟨l',r'⟩,_⟩:=(rhs c').mp hc'
    have key:=M.flow_inj g hn (x:=fun j=>(pf c j+- pf c' j)+m * (z j+- z' j)) (by simp only [z0 c hc,z0 c' hc',hz,hz'];omega) (fun i hi h0=>by
      have a:=e i hi h0
      have b:=e' i hi h0
      rw [M.flow_add,M.flow_add,M.flow_neg,M.flow_mul,M.flow_add,M.flow_neg,Int.mul_add,Int.mul_neg]
      omega)
    refine of_pf l l' fun i hi=>?_
    by_cases h0:i=0
    · subst h0;rw [z0 c hc,z0 c' hc']
    · have k:=key i hi
      have a:=r i hi
      have b:=r' i hi
      rw [m9s i h0] at a b
      have dv:(m:Int) ∣ pf c i - pf c' i:=⟨-(z i+- z' i),by rw [Int.mul_neg];omega⟩
      obtain ⟨t,ht⟩:=dv
      have t0:t=0:=by
        rcases Int.lt_trichotomy t 0 with q | q | q
        · have:(m:Int) * t<=m * (-1):=Int.mul_le_mul_of_nonneg_left (by omega) (by omega)
          omega
        · exact q
        · have:(m:Int) * 1<=m * t:=Int.mul_le_mul_of_nonneg_left (by omega) (by omega)
          omega
      rw [t0] at ht;omega
  refine Nat.le_antisymm (len_le9 (R:=R) _ _ nd1 (fun p hp=>?_) inj1) (len_le9 (R:=fun c p=>R p c) _ _ nd2 (fun c hc=>?_) inj2)
  · obtain ⟨_,_,c,c0,e⟩:=(lhs p).mp hp
    have dec:∀ j,c j=c j % m+m * (c j / m):=fun j=>(Int.emod_add_mul_ediv (c j) m).symm
    have fl:∀ i,i < n->M.flow n L c i=M.flow n L (pf (mk9 n fun j=>c j % m)) i+m * M.flow n L (fun j=>c j / m) i:=fun i hi=>by
      rw [<- M.flow_mul,<- M.flow_add]
      exact M.flow_congr (fun j hj=>by rw [mk9_pf hj];exact dec j) hi
    refine ⟨mk9 n fun j=>c j % m,(rhs _).mpr ⟨⟨mk9_len n _,fun i hi=>?_⟩,fun i hi h0=>?_⟩,fun j=>c j / m,by simp only [c0,Int.zero_ediv],fun i hi h0=>?_⟩
    · rw [mk9_pf hi]
      by_cases h0:i=0
      · subst h0;rw [c0,m90];simp
      · rw [m9s i h0];exact ⟨Int.emod_nonneg _ (by omega),Int.emod_lt_of_pos _ mi⟩
    · refine ⟨pf p i - M.flow n L (fun j=>c j / m) i,?_⟩
      have:=fl i hi
      rw [e i hi h0] at this
      rw [Int.mul_sub];omega
    · rw [<- fl i hi];exact e i hi h0
  · obtain ⟨⟨l,r⟩,dv⟩:=(rhs c).mp hc
    have ex:∀ i,∃ w:Int,i < n->i≠0->M.flow n L (pf c) i=m * w:=fun i=>by
      by_cases hi:i < n/\i≠0
      · obtain ⟨w,hw⟩:=dv i hi.1 hi.2;exact ⟨w,fun _ _=>hw⟩
      · exact ⟨0,fun a b=>absurd ⟨a,b⟩ hi⟩
    obtain ⟨w,hw⟩:∃ w:Nat->Int,∀ i,i < n->i≠0->M.flow n L (pf c) i=m * w i:=⟨fun i=>Classical.choose (ex i),fun i=>Classical.choose_spec (ex i)⟩
    obtain ⟨x,sx⟩:=settle9 g hn w
    have fx:∀ i,M.flow n L (fun j=>x 0+- x j) i=- M.flow n L x i:=fun i=>by
      rw [M.flow_add,M.flow_neg,M.flow_const];omega
    have pe:∀ i,i < n->i≠0->pf (mk9 n fun i=>if i=0 then 0 else M.fire n L w x i) i=M.fire n L w x i:=fun i hi h0=>by rw [mk9_pf hi];exact if_neg h0
    have sp:M.Settled n L 0 (pf (mk9 n fun i=>if i=0 then 0 else M.fire n L w x i)):=settled_off sx fun i hi h0=>(pe i hi h0).symm
    have eq:∀ i,i < n->i≠0->M.flow n L (pf c) i+m * M.flow n L (fun j=>x 0+- x j) i=m * pf (mk9 n fun i=>if i=0 then 0 else M.fire n L w x i) i:=fun i hi h0=>by
      rw [pe i hi h0,hw i hi h0,fx]
      unfold M.fire
      rw [Int.mul_sub,Int.mul_neg];omega
    refine ⟨mk9 n fun i=>if i=0 then 0 else M.fire n L w x i,(lhs _).mpr ⟨⟨mk9_len n _,fun i hi=>?_⟩,sp,fun j=>pf c j+m * (x 0+- x j),?_,fun i hi h0=>?_⟩,fun j=>x 0+- x j,by simp only;omega,eq⟩
    · by_cases h0:i=0
      · subst h0;rw [mk9_pf hn,show mB n L 0 0=1 from rfl];simp
      · refine ⟨sp.nodebt i hi h0,?_⟩
        obtain ⟨k,hk,ak,lt⟩:=sp.sets (fun j=>decide (j=i)) (decide_eq_false fun z=>h0 z.symm) ⟨i,hi,decide_eq_true rfl⟩
        have:k=i:=of_decide_eq_true ak
        subst this
        have o:M.outOf n L (fun j=>decide (j=k)) k=M.S n (L k):=by
          unfold M.outOf
          refine M.S_congr n fun j _=>?_
          by_cases h:j=k
          · subst h;rw [if_pos (decide_eq_true rfl),N.diag]
          · rw [if_neg (by simp [h])]
        rw [o] at lt
        have nn:=sp.nodebt k hi h0
        unfold mB
        rw [if_neg h0];omega
    · show pf c 0+m * (x 0+- x 0)=0
      rw [z0 c hc,Int.add_right_neg,Int.mul_zero];rfl
    · rw [M.flow_add,M.flow_mul];exact eq i hi h0
end
end P

namespace P
section
variable {L:Nat->Nat->Int}
def Y6 (n:Nat) (L:Nat->Nat->Int):M3:=if n=1 then WG 1 1 1 0 0 0 else if n=2 then WG (W9 L 0 1) 1 1 0 0 0 else if n=3 then WG (W9 L 0 1) (W9 L 0 2) 1 (W9 L 1 2) 0 0 else WG (W9 L 0 1) (W9 L 0 2) (W9 L 0 3) (W9 L 1 2) (W9 L 1 3) (W9 L 2 3)
theorem one_z {m:Nat} (hm:0 < m) (p:Prop) [Decidable p]:sN m (fun z=>i9 (p/\(m:Int) ∣ (z:Int)))=i9 p:=by
  obtain ⟨k,rfl⟩:∃ k,m=1+k:=⟨m - 1,by omega⟩
  have no:∀ i,i < k->¬ (p/\((1+k:Nat):Int) ∣ ((1+i:Nat):Int)):=by
    rintro i hi ⟨_,t,ht⟩
    have:0 < t:=by
      rcases Int.lt_trichotomy t 0 with q | q | q
      · have:((1+k:Nat):Int) * t<=((1+k:Nat):Int) * 0:=Int.mul_le_mul_of_nonneg_left (by omega) (by omega)
        omega
      · subst q;omega
      · exact q
    have:((1+k:Nat):Int) * 1<=((1+k:Nat):Int) * t:=Int.mul_le_mul_of_nonneg_left (by omega) (by omega)
    omega
  rw [sN_split,sN_1,ZV (n:=k) (g:=fun _=>0) (fun i hi=>i9_no (no i hi)),WP,Nat.mul_zero,Nat.add_zero]
  exact YA ⟨fun h=>h.1,fun h=>⟨h,0,rfl⟩⟩
theorem nst_q {n m:Nat} {r:List Int} {p:Prop} [Decidable p] (h:(∀ i,i < n->i≠0->(m:Int) ∣ M.flow n L (pf r) i) ↔ p):(if Q9 n L m r=true then 1 else 0)=i9 p:=by
  have:(Q9 n L m r=true) ↔ p:=Q9_iff.trans h
  unfold i9
  by_cases hp:p
  · rw [if_pos hp,if_pos (this.mpr hp)]
  · rw [if_neg hp,if_neg fun z=>hp (this.mp z)]
theorem c4_9 (N:M.Net 4 L) {m:Nat}:((rws (m9 m) 4).filter (Q9 4 L m)).length=N9 m (Y6 4 L):=by
  rw [rws_rwl,rwl_count]
  have s10:=w9s N (i:=1) (j:=0) (by omega) (by omega)
  have s20:=w9s N (i:=2) (j:=0) (by omega) (by omega)
  have s30:=w9s N (i:=3) (j:=0) (by omega) (by omega)
  have s21:=w9s N (i:=2) (j:=1) (by omega) (by omega)
  have s31:=w9s N (i:=3) (j:=1) (by omega) (by omega)
  have s32:=w9s N (i:=3) (j:=2) (by omega) (by omega)
  have hW:=w9 N
  have r4:(List.range 4).map (m9 m)=[1,m,m,m]:=rfl
  rw [r4]
  simp only [nst,sN_1]
  unfold N9 T3
  refine ZV fun x _=>ZV fun y _=>ZV fun z _=>?_
  rw [nst_q (p:=(m:Int) ∣ Xn (Y6 4 L).a (Y6 4 L).b (Y6 4 L).c x y z/\(m:Int) ∣ Xn (Y6 4 L).d (Y6 4 L).e (Y6 4 L).f x y z/\(m:Int) ∣ Xn (Y6 4 L).g (Y6 4 L).h (Y6 4 L).k x y z)]
  · rfl
  · have f1:M.flow 4 L (pf [((0:Nat):Int),(x:Int),(y:Int),(z:Int)]) 1=Xn (Y6 4 L).a (Y6 4 L).b (Y6 4 L).c x y z:=by
      show 0+L 1 0 * ((x:Int) - ((0:Nat):Int))+L 1 1 * ((x:Int) - x)+L 1 2 * ((x:Int) - y)+L 1 3 * ((x:Int) - z)=((W9 L 0 1:Nat)+(W9 L 1 2:Nat)+(W9 L 1 3:Nat):Int) * x+(- (W9 L 1 2:Nat):Int) * y+(- (W9 L 1 3:Nat):Int) * z
      rw [hW 1 0,hW 1 2,hW 1 3,s10];grind
    have f2:M.flow 4 L (pf [((0:Nat):Int),(x:Int),(y:Int),(z:Int)]) 2=Xn (Y6 4 L).d (Y6 4 L).e (Y6 4 L).f x y z:=by
      show 0+L 2 0 * ((y:Int) - ((0:Nat):Int))+L 2 1 * ((y:Int) - x)+L 2 2 * ((y:Int) - y)+L 2 3 * ((y:Int) - z)=(- (W9 L 1 2:Nat):Int) * x+((W9 L 0 2:Nat)+(W9 L 1 2:Nat)+(W9 L 2 3:Nat):Int) * y+(- (W9 L 2 3:Nat):Int) * z
      rw [hW 2 0,hW 2 1,hW 2 3,s20,s21];grind
    have f3:M.flow 4 L (pf [((0:Nat):Int),(x:Int),(y:Int),(z:Int)]) 3=Xn (Y6 4 L).g (Y6 4 L).h (Y6 4 L).k x y z:=by
      show 0+L 3 0 * ((z:Int) - ((0:Nat):Int))+L 3 1 * ((z:Int) - x)+L 3 2 * ((z:Int) - y)+L 3 3 * ((z:Int) - z)=(- (W9 L 1 3:Nat):Int) * x+(- (W9 L 2 3:Nat):Int) * y+((W9 L 0 3:Nat)+(W9 L 1 3:Nat)+(W9 L 2 3:Nat):Int) * z
      rw [hW 3 0,hW 3 1,hW 3 2,s30,s31,s32];grind
    rw [<- f1,<- f2,<- f3]
    constructor
    · intro h;exact ⟨h 1 (by decide) (by decide),h 2 (by decide) (by decide),h 3 (by decide) (by decide)⟩
    · rintro ⟨a,b,c⟩ i hi h0
      have cs:i=1\/i=2\/i=3:=by omega
      rcases cs with rfl | rfl | rfl <;> assumption
theorem c3_9 (N:M.Net 3 L) {m:Nat} (hm:0 < m):((rws (m9 m) 3).filter (Q9 3 L m)).length=N9 m (Y6 3 L):=by
  rw [rws_rwl,rwl_count]
  have s10:=w9s N (i:=1) (j:=0) (by omega) (by omega)
  have s20:=w9s N (i:=2) (j:=0) (by omega) (by omega)
  have s21:=w9s N (i:=2) (j:=1) (by omega) (by omega)
  have hW:=w9 N
  have r3:(List.range 3).map (m9 m)=[1,m,m]:=rfl
  rw [r3]
  simp only [nst,sN_1]
  unfold N9 T3
  refine ZV fun x _=>ZV fun y _=>?_
  have f1:M.flow 3 L (pf [((0:Nat):Int),(x:Int),(y:Int)]) 1=((W9 L 0 1:Nat)+(W9 L 1 2:Nat):Int) * x+(- (W9 L 1 2:Nat):Int) * y:=by
    show 0+L 1 0 * ((x:Int) - ((0:Nat):Int))+L 1 1 * ((x:Int) - x)+L 1 2 * ((x:Int) - y)=_
    rw [hW 1 0,hW 1 2,s10];grind
  have f2:M.flow 3 L (pf [((0:Nat):Int),(x:Int),(y:Int)]) 2=(- (W9 L 1 2:Nat):Int) * x+((W9 L 0 2:Nat)+(W9 L 1 2:Nat):Int) * y:=by
    show 0+L 2 0 * ((y:Int) - ((0:Nat):Int))+L 2 1 * ((y:Int) - x)+L 2 2 * ((y:Int) - y)=_
    rw [hW 2 0,hW 2 1,s20,s21];grind
  rw [nst_q (p:=(m:Int) ∣ M.flow 3 L (pf [((0:Nat):Int),(x:Int),(y:Int)]) 1/\(m:Int) ∣ M.flow 3 L (pf [((0:Nat):Int),(x:Int),(y:Int)]) 2),<- one_z hm]
  · refine ZV fun z _=>YA ?_
    have g1:Xn (Y6 3 L).a (Y6 3 L).b (Y6 3 L).c x y z=M.flow 3 L (pf [((0:Nat):Int),(x:Int),(y:Int)]) 1:=by
      rw [f1]
      show ((W9 L 0 1:Nat)+(W9 L 1 2:Nat)+0:Int) * x+(- (W9 L 1 2:Nat):Int) * y+(-0:Int) * z=_
      grind
    have g2:Xn (Y6 3 L).d (Y6 3 L).e (Y6 3 L).f x y z=M.flow 3 L (pf [((0:Nat):Int),(x:Int),(y:Int)]) 2:=by
      rw [f2]
      show (- (W9 L 1 2:Nat):Int) * x+((W9 L 0 2:Nat)+(W9 L 1 2:Nat)+0:Int) * y+(-0:Int) * z=_
      grind
    have g3:Xn (Y6 3 L).g (Y6 3 L).h (Y6 3 L).k x y z=z:=by
      show (-0:Int) * x+(-0:Int) * y+(1+0+0:Int) * z=z
      grind
    rw [g1,g2,g3,and_assoc]
  · constructor
    · intro h;exact ⟨h 1 (by decide) (by decide),h 2 (by decide) (by decide)⟩
    · rintro ⟨a,b⟩ i hi h0
      have cs:i=1\/i=2:=by omega
      rcases cs with rfl | rfl <;> assumption
theorem c2_9 (N:M.Net 2 L) {m:Nat} (hm:0 < m):((rws (m9 m) 2).filter (Q9 2 L m)).length=N9 m (Y6 2 L):=by
  rw [rws_rwl,rwl_count]
  have s10:=w9s N (i:=1) (j:=0) (by omega) (by omega)
  have hW:=w9 N
  have r2:(List.range 2).map (m9 m)=[1,m]:=rfl
  rw [r2]
  simp only [nst,sN_1]
  unfold N9 T3
  refine ZV fun x _=>?_
  have f1:M.flow 2 L (pf [((0:Nat):Int),(x:Int)]) 1=(W9 L 0 1:Nat) * x:=by
    show 0+L 1 0 * ((x:Int) - ((0:Nat):Int))+L 1 1 * ((x:Int) - x)=_
    rw [hW 1 0,s10];grind
  rw [nst_q (p:=(m:Int) ∣ M.flow 2 L (pf [((0:Nat):Int),(x:Int)]) 1),<- one_z hm]
  · refine ZV fun y _=>?_
    rw [<- one_z hm]
    refine ZV fun z _=>YA ?_
    have g1:Xn (Y6 2 L).a (Y6 2 L).b (Y6 2 L).c x y z=M.flow 2 L (pf [((0:Nat):Int),(x:Int)]) 1:=by
      rw [f1]
      show ((W9 L 0 1:Nat)+0+0:Int) * x+(-0:Int) * y+(-0:Int) * z=_
      grind
    have g2:Xn (Y6 2 L).d (Y6 2 L).e (Y6 2 L).f x y z=y:=by
      show (-0:Int) * x+(1+0+0:Int) * y+(-0:Int) * z=y
      grind
    have g3:Xn (Y6 2 L).g (Y6 2 L).h (Y6 2 L).k x y z=z:=by
      show (-0:Int) * x+(-0:Int) * y+(1+0+0:Int) * z=z
      grind
    rw [g1,g2,g3,and_assoc]
  · constructor
    · intro h;exact h 1 (by decide) (by decide)
    · intro a i hi h0
      obtain rfl:i=1:=by omega
      exact a
theorem c1_9 {m:Nat} (hm:0 < m):((rws (m9 m) 1).filter (Q9 1 L m)).length=N9 m (Y6 1 L):=by
  rw [rws_rwl,rwl_count]
  have r1:(List.range 1).map (m9 m)=[1]:=rfl
  rw [r1]
  simp only [nst,sN_1]
  unfold N9 T3
  rw [nst_q (p:=True)]
  · symm
    have t:i9 True=sN m (fun x=>i9 (True/\(m:Int) ∣ (x:Int))):=(one_z hm True).symm
    rw [t]
    refine ZV fun x _=>?_
    rw [<- one_z hm]
    refine ZV fun y _=>?_
    rw [<- one_z hm]
    refine ZV fun z _=>YA ?_
    have g1:Xn (Y6 1 L).a (Y6 1 L).b (Y6 1 L).c x y z=x:=by
      show (1+0+0:Int) * x+(-0:Int) * y+(-0:Int) * z=x
      grind
    have g2:Xn (Y6 1 L).d (Y6 1 L).e (Y6 1 L).f x y z=y:=by
      show (-0:Int) * x+(1+0+0:Int) * y+(-0:Int) * z=y
      grind
    have g3:Xn (Y6 1 L).g (Y6 1 L).h (Y6 1 L).k x y z=z:=by
      show (-0:Int) * x+(-0:Int) * y+(1+0+0:Int) * z=z
      grind
    rw [g1,g2,g3,true_and,and_assoc]
  · exact iff_true_intro fun i hi h0=>by omega
theorem c_9 {n:Nat} (N:M.Net n L) (h1:1<=n) (h4:n<=4) {m:Nat} (hm:0 < m):((rws (m9 m) n).filter (Q9 n L m)).length=N9 m (Y6 n L):=by
  have cs:n=1\/n=2\/n=3\/n=4:=by omega
  rcases cs with rfl | rfl | rfl | rfl
  · exact c1_9 hm
  · exact c2_9 N hm
  · exact c3_9 N hm
  · exact c4_9 N
end
end P

namespace P
open PySem L2 HT
local macro_rules | `(tactic| simp! only [$ts,*]) => `(tactic| simp only [Z3, Z7, ZM, Zu, Xb, Xt, WO, Zt, WN, Z2, Wt, WC, X4, Vx, fV, fC, f1, f2, fN, Zc, fL, fIf, WT, fOr, fNot, gB, WJ, gOr, XR, Xq, Xw, Zq, fR, fFr, fSl, pN, pS, Z6, Z0, XM, Xr, gN, gT, env0, List.map_cons, List.map_nil, List.length_cons, List.length_nil, List.replicate, List.cons_append, List.nil_append, List.getElem?_cons_zero, List.getElem?_cons_succ, List.getElem?_nil, List.set_cons_zero, List.set_cons_succ, Option.getD_some, Option.getD_none, Option.bind_some, Option.bind_none, Option.map_some, Nat.reduceAdd, Nat.reduceSub, Nat.reduceEqDiff, if_true, if_false, reduceIte, Bool.false_eq_true, XF, Y2, XQ, ZY, Xd, Xp, WA, Wm, WS, Yn, Xg, few, truD, Vk, decide_true, decide_false, Bool.not_true, Bool.not_false, decide_not, ne_eq, not_true_eq_false, not_false_eq_true, Int.reduceEq, Int.cast_ofNat_Int, Int.natCast_add, Int.reduceAdd, Int.cast_ofNat_Int, $ts,*])
theorem abs9 (x:Int):absD [.int x]=some (.int (x.natAbs:Int)):=by
  show some (D.int (if x < 0 then -x else x))=_
  congr 2
  split <;> omega
noncomputable def cdW:FS:=(Zr (Zt 4 (fV 1)) (Zr (Zt 1 (fV 3)) (Zt 3 (f2 Xp (fV 4) (fV 3)))))
theorem cd_while {x0 x2:Option Cl}:∀ (N r d:Nat) (x4:Option Cl),r<=N->∃ (k:Nat) (x4':Option Cl),Yl (Xq (fV 3)) cdW k [x0,some (.val (.int (d:Int))),x2,some (.val (.int (r:Int))),x4]=.nx [x0,some (.val (.int (Nat.gcd d r:Nat))),x2,some (.val (.int ((0:Nat):Int))),x4']:=by
  intro N
  induction N with
  | zero =>
    intro r d x4 hr
    obtain rfl:r=0:=by omega
    exact ⟨1,x4,by rw [Nat.gcd_zero_right];rfl⟩
  | succ N ih =>
    intro r d x4 hr
    by_cases h0:r=0
    · subst h0
      exact ⟨1,x4,by rw [Nat.gcd_zero_right];rfl⟩
    · have lt:=Nat.mod_lt d (show 0 < r by omega)
      obtain ⟨k,x4',e⟩:=ih (d % r) r (some (.val (.int (d:Int)))) (by omega)
      refine ⟨k+1,x4',?_⟩
      unfold Yl
      have t:Xq (fV 3) (Z6 [x0,some (.val (.int (d:Int))),x2,some (.val (.int (r:Int))),x4])=some true:=by
        show some (((r:Int) != 0))=some true
        have:(r:Int)≠0:=by omega
        simp [h0]
      have b:cdW [x0,some (.val (.int (d:Int))),x2,some (.val (.int (r:Int))),x4]=.nx [x0,some (.val (.int (r:Int))),x2,some (.val (.int ((d % r:Nat):Int))),some (.val (.int (d:Int)))]:=by
        unfold cdW
        have hp:(0:Int) < (r:Int):=by omega
        simp! only [hp,Int.natCast_emod]
      rw [t,b]
      dsimp only
      rw [e,show Nat.gcd r (d % r)=Nat.gcd d r by rw [Nat.gcd_comm r (d % r),<- Nat.gcd_rec,Nat.gcd_comm]]
theorem g_common (ns:List Int):Yc [rD ns]=some (.int (Wv ns:Nat)):=by
  have loop:∀ (xs:List Int) (d:Nat) (x2 x3 x4:Option Cl),∃ x2' x3' x4',YZ (gN 2) (Zr (Zt 3 (fL absD (Zc (fV 2) fN))) (Vw (Xq (fV 3)) cdW)) (xs.map .int) [some (.val (rD ns)),some (.val (.int (d:Int))),x2,x3,x4] =
      .nx [some (.val (rD ns)),some (.val (.int (xs.foldl (fun d x=>Nat.gcd d x.natAbs) d:Nat))),x2',x3',x4']:=by
    intro xs
    induction xs with
    | nil=>intro d x2 x3 x4;exact ⟨x2,x3,x4,rfl⟩
    | cons x xs ih =>
      intro d x2 x3 x4
      obtain ⟨k,x4',e⟩:=cd_while (x0:=some (.val (rD ns))) (x2:=some (.val (.int x))) x.natAbs x.natAbs d x4 (Nat.le_refl _)
      obtain ⟨y2,y3,y4,e2⟩:=ih (Nat.gcd d x.natAbs) (some (.val (.int x))) (some (.val (.int ((0:Nat):Int)))) x4'
      refine ⟨y2,y3,y4,?_⟩
      rw [List.map_cons]
      unfold YZ
      have eg:gN 2 (D.int x)=some [(2,D.int x)]:=rfl
      rw [eg]
      dsimp only
      have es:Xr [some (.val (rD ns)),some (.val (.int (d:Int))),x2,x3,x4] [(2,D.int x)]=[some (.val (rD ns)),some (.val (.int (d:Int))),some (.val (.int x)),x3,x4]:=rfl
      have e3:Zt 3 (fL absD (Zc (fV 2) fN)) [some (.val (rD ns)),some (.val (.int (d:Int))),some (.val (.int x)),x3,x4]=.nx [some (.val (rD ns)),some (.val (.int (d:Int))),some (.val (.int x)),some (.val (.int (x.natAbs:Int))),x4]:=by
        simp! only [abs9]
      rw [es,ZM,e3,Zu,sWhile_eq k e (fun z=>by cases z)]
      exact e2
  obtain ⟨x2,x3,x4,e⟩:=loop ns 0 none none none
  have hb:Yc=Z3 1 5 (Zr (Zt 1 (fC (.int 0))) (Zr (XH (Zq (fV 0)) (gN 2) (Zr (Zt 3 (fL absD (Zc (fV 2) fN))) (Vw (Xq (fV 3)) cdW))) (Z2 (fV 1)))):=rfl
  have hf:∀ F:FS,XH (Zq (fV 0)) (gN 2) F [some (.val (rD ns)),some (.val (.int ((0:Nat):Int))),none,none,none]=YZ (gN 2) F (ns.map .int) [some (.val (rD ns)),some (.val (.int ((0:Nat):Int))),none,none,none]:=fun F=>rfl
  rw [hb]
  unfold Z3
  rw [if_pos (show ([rD ns]:List D).length=1 from rfl)]
  have es:Z7 1 5 [rD ns]=[some (.val (rD ns)),none,none,none,none]:=rfl
  have eo:Zt 1 (fC (.int 0)) [some (.val (rD ns)),none,none,none,none]=.nx [some (.val (rD ns)),some (.val (.int ((0:Nat):Int))),none,none,none]:=rfl
  rw [es,ZM,eo,Zu,ZM,hf,e,Zu]
  rfl
theorem dv_while:∀ (N b a:Nat) (x2:Option Cl),b<=N->∃ (k:Nat) (x2':Option Cl),Yl (gB (f2 Vl (fV 1) (fC (.int 0)))) (Zr (Zt 2 (f2 Xp (fV 0) (fV 1))) (Zr (Zt 0 (fV 1)) (Zt 1 (fV 2)))) k [some (.val (.int (a:Int))),some (.val (.int (b:Int))),x2]=.nx [some (.val (.int (Nat.gcd a b:Nat))),some (.val (.int ((0:Nat):Int))),x2']:=by
  intro N
  induction N with
  | zero =>
    intro b a x2 hb
    obtain rfl:b=0:=by omega
    refine ⟨1,x2,?_⟩
    rw [Nat.gcd_zero_right]
    unfold Yl
    have t:gB (f2 Vl (fV 1) (fC (.int 0))) (Z6 [some (.val (.int (a:Int))),some (.val (.int ((0:Nat):Int))),x2])=some false:=by
      simp! only [Wi,Int.natCast_zero]
      try rfl
    rw [t]
  | succ N ih =>
    intro b a x2 hb
    by_cases h0:b=0
    · subst h0
      refine ⟨1,x2,?_⟩
      rw [Nat.gcd_zero_right]
      unfold Yl
      have t:gB (f2 Vl (fV 1) (fC (.int 0))) (Z6 [some (.val (.int (a:Int))),some (.val (.int ((0:Nat):Int))),x2])=some false:=by
        simp! only [Wi,Int.natCast_zero]
        try rfl
      rw [t]
    · have lt:=Nat.mod_lt a (show 0 < b by omega)
      obtain ⟨k,x2',e⟩:=ih (a % b) b (some (.val (.int ((a % b:Nat):Int)))) (by omega)
      refine ⟨k+1,x2',?_⟩
      unfold Yl
      have hz:¬ (b:Int)=0:=by omega
      have t:gB (f2 Vl (fV 1) (fC (.int 0))) (Z6 [some (.val (.int (a:Int))),some (.val (.int (b:Int))),x2])=some true:=by
        simp! only [Wi,hz]
      have bd:(Zr (Zt 2 (f2 Xp (fV 0) (fV 1))) (Zr (Zt 0 (fV 1)) (Zt 1 (fV 2)))) [some (.val (.int (a:Int))),some (.val (.int (b:Int))),x2]=.nx [some (.val (.int (b:Int))),some (.val (.int ((a % b:Nat):Int))),some (.val (.int ((a % b:Nat):Int)))]:=by
        have hp:(0:Int) < (b:Int):=by omega
        simp! only [hp,Int.natCast_emod]
      rw [t,bd]
      dsimp only
      rw [e,show Nat.gcd b (a % b)=Nat.gcd a b by rw [Nat.gcd_comm b (a % b),<- Nat.gcd_rec,Nat.gcd_comm]]
theorem g_divisor (a b:Nat):Yh [.int (a:Int),.int (b:Int)]=some (.int (Nat.gcd a b:Nat)):=by
  obtain ⟨k,x2,e⟩:=dv_while b b a none (Nat.le_refl _)
  unfold Yh WZ Z3
  rw [if_pos (show ([.int (a:Int),.int (b:Int)]:List D).length=2 from rfl)]
  have es:Z7 2 3 [.int (a:Int),.int (b:Int)]=[some (.val (.int (a:Int))),some (.val (.int (b:Int))),none]:=rfl
  rw [es,ZM,sWhile_eq k e (fun z=>by cases z),Zu]
  rfl
theorem pf_at {r:List Int} {i:Nat} (h:i < r.length):r[i]?=some (pf r i):=by
  unfold pf
  rw [List.getD_eq_getElem?_getD,List.getElem?_eq_getElem h];rfl
theorem g_column {rows:List (List Int)} {p:Nat} (h:∀ r∈rows,p < r.length) (hl:rows.length<=1000):Yo [mD rows,.int (p:Int)]=some (rD (rows.map fun r=>pf r p)):=by
  have e:=Z5 (n:=1) (ix:=[1]) (fi:=Zq (fV 0)) (t:=gN 0) (fe:=f2 YY (fV 0) (fV 1)) (ρ:=[some (mD rows),some (.int (p:Int))]) rD (fun r=>D.int (pf r p)) rows rfl (by omega) fun r hr=>⟨_,rfl,?_⟩
  · unfold Yo F_column_at
    simp! only [e,rD_map]
  · simp! only [rD_at (pf_at (h r hr))]
def W4 (k:Nat) (s:List (List Int)):List (List Int):=(List.range k).map fun p=>s.map fun r=>pf r p
theorem mD_map (rows:List (List Int)):mD rows=.lst (rows.map rD):=rfl
theorem g_smaller {k:Nat} {rows:List (List Int)} {size:Nat} {cs:List (List (List Int))} {ds:List (List Int)->List (List (List Int))} {dt:List (List Int)->Int} (hk:k<=100) (hl:rows.length=k)
    (h1:ZB [mD rows,.int (size:Int)]=some (.lst (cs.map mD))) (h2:∀ s∈cs,s.length<=100/\(∀ r∈s,r.length=k)/\(ds s).length<=100/\ZB [mD (W4 k s),.int (size:Int)]=some (.lst ((ds s).map mD)))
    (h3:∀ s∈cs,∀ t∈ds s,Zi [mD t]=some (.int (dt t))) (hc:cs.length<=100):Zy [mD rows,.int (size:Int)]=some (rD (cs.flatMap fun s=>(ds s).map dt)):=by
  have loop:∀ (ss:List (List (List Int))) (found:List Int) (x3 x4:Option Cl),(∀ s∈ss,s∈cs)->found.length+100 * ss.length<=60000->∃ x3' x4',
      YZ (gN 3) (Zr (Zt 4 (Z8 1 [3] (fR Xh (Zc (fL Yy (Zc (fV 0) fN)) fN)) (gN 0) Y3 (fL Yo (Zc (fV 1) (Zc (fV 0) fN))))) (sExt 2 (Z8 1 [] (Zq (fL ZB (Zc (fV 4) (Zc (fV 1) fN)))) (gN 0) Y3 (fL Zi (Zc (fV 0) fN)))))
        (ss.map mD) [some (.val (mD rows)),some (.val (.int (size:Int))),some (.own (rD found)),x3,x4]=.nx [some (.val (mD rows)),some (.val (.int (size:Int))),some (.own (rD (found++ss.flatMap fun s=>(ds s).map dt))),x3',x4']:=by
    intro ss
    induction ss with
    | nil=>intro found x3 x4 _ _;exact ⟨x3,x4,by simp [YZ]⟩
    | cons s ss ih =>
      intro found x3 x4 hs hf
      simp only [List.length_cons] at hf
      have sm:=hs s List.mem_cons_self
      obtain ⟨a1,a2,a3,a4⟩:=h2 s sm
      obtain ⟨x3',x4',e⟩:=ih (found++(ds s).map dt) (some (.val (mD s))) (some (.val (mD (W4 k s)))) (fun u hu=>hs u (List.mem_cons_of_mem _ hu)) (by rw [List.length_append,List.length_map];omega)
      refine ⟨x3',x4',?_⟩
      have hr:Xh [.int (rows.length:Int)]=some ((List.range k).map fun (p:Nat)=>D.int (p:Int)):=by rw [hl];exact Xs (by omega)
      have e1:∀ u w,Z8 1 [3] (fR Xh (Zc (fL Yy (Zc (fV 0) fN)) fN)) (gN 0) Y3 (fL Yo (Zc (fV 1) (Zc (fV 0) fN))) [some (mD rows),some (.int (size:Int)),u,some (mD s),w]=some (mD (W4 k s)):=by
        intro u w
        have e:=Z5 (n:=1) (ix:=[3]) (fi:=fR Xh (Zc (fL Yy (Zc (fV 0) fN)) fN)) (t:=gN 0) (fe:=fL Yo (Zc (fV 1) (Zc (fV 0) fN))) (ρ:=[some (mD rows),some (.int (size:Int)),u,some (mD s),w])
          (fun (p:Nat)=>D.int (p:Int)) (fun (p:Nat)=>rD (s.map fun r=>pf r p)) (List.range k) (by simp! only [mD_map,List.length_map,hr]) (by rw [List.length_range];omega) fun p hp=>⟨_,rfl,?_⟩
        · rw [e,mD_map];unfold W4;rw [List.map_map];rfl
        · have:=List.mem_range.mp hp
          simp! only [g_column (rows:=s) (p:=p) (fun r hr=>by rw [a2 r hr];exact this) (by omega)]
      have e2:∀ u,Z8 1 [] (Zq (fL ZB (Zc (fV 4) (Zc (fV 1) fN)))) (gN 0) Y3 (fL Zi (Zc (fV 0) fN)) [some (mD rows),some (.int (size:Int)),u,some (mD s),some (mD (W4 k s))]=some (rD ((ds s).map dt)):=by
        intro u
        have e:=Z5 (n:=1) (ix:=[]) (fi:=Zq (fL ZB (Zc (fV 4) (Zc (fV 1) fN)))) (t:=gN 0) (fe:=fL Zi (Zc (fV 0) fN)) (ρ:=[some (mD rows),some (.int (size:Int)),u,some (mD s),some (mD (W4 k s))])
          mD (fun t=>D.int (dt t)) (ds s) (by simp! only [a4];rfl) (by omega) fun t ht=>⟨_,rfl,?_⟩
        · rw [e,rD_map]
        · simp! only [h3 s sm t ht]
      rw [List.map_cons]
      unfold YZ
      have eg:gN 3 (mD s)=some [(3,mD s)]:=rfl
      rw [eg]
      dsimp only
      have es:Xr [some (.val (mD rows)),some (.val (.int (size:Int))),some (.own (rD found)),x3,x4] [(3,mD s)]=[some (.val (mD rows)),some (.val (.int (size:Int))),some (.own (rD found)),some (.val (mD s)),x4]:=rfl
      have e3:Zt 4 (Z8 1 [3] (fR Xh (Zc (fL Yy (Zc (fV 0) fN)) fN)) (gN 0) Y3 (fL Yo (Zc (fV 1) (Zc (fV 0) fN)))) [some (.val (mD rows)),some (.val (.int (size:Int))),some (.own (rD found)),some (.val (mD s)),x4]=.nx [some (.val (mD rows)),some (.val (.int (size:Int))),some (.own (rD found)),some (.val (mD s)),some (.val (mD (W4 k s)))]:=by
        simp! only [e1]
      have e4:sExt 2 (Z8 1 [] (Zq (fL ZB (Zc (fV 4) (Zc (fV 1) fN)))) (gN 0) Y3 (fL Zi (Zc (fV 0) fN))) [some (.val (mD rows)),some (.val (.int (size:Int))),some (.own (rD found)),some (.val (mD s)),some (.val (mD (W4 k s)))]=.nx [some (.val (mD rows)),some (.val (.int (size:Int))),some (.own (rD (found++(ds s).map dt))),some (.val (mD s)),some (.val (mD (W4 k s)))]:=by
        have i0:imms (((ds s).map dt).map D.int)=true:=imms_map (fun _=>rfl) _
        have c:=e2 (some (rD found))
        unfold rD at c ⊢
        simp! only [sExt,c,i0]
        rw [if_pos ⟨trivial,by rw [List.length_map,List.length_map,List.length_map];unfold Xi;omega⟩,<- List.map_append]
      rw [es,ZM,e3,Zu,e4]
      dsimp only
      rw [e,List.flatMap_cons,List.append_assoc]
  obtain ⟨x3,x4,e⟩:=loop cs [] none none (fun _ h=>h) (by simp;omega)
  unfold Zy Xf Z3
  rw [if_pos (show ([mD rows,.int (size:Int)]:List D).length=2 from rfl)]
  have es:Z7 2 5 [mD rows,.int (size:Int)]=[some (.val (mD rows)),some (.val (.int (size:Int))),none,none,none]:=rfl
  have eo:X4 2 (fR few fN) [some (.val (mD rows)),some (.val (.int (size:Int))),none,none,none]=.nx [some (.val (mD rows)),some (.val (.int (size:Int))),some (.own (rD [])),none,none]:=rfl
  have hf:∀ F:FS,XH (Zq (fL ZB (Zc (fV 0) (Zc (fV 1) fN)))) (gN 3) F [some (.val (mD rows)),some (.val (.int (size:Int))),some (.own (rD [])),none,none]=YZ (gN 3) F (cs.map mD) [some (.val (mD rows)),some (.val (.int (size:Int))),some (.own (rD [])),none,none]:=fun F=>by
    unfold XH
    simp! only [h1]
    rfl
  rw [es,ZM,eo,Zu,ZM,hf,e,Zu,List.nil_append]
  rfl
theorem zip_nxt (f:Nat->Int):∀ (k a:Nat),XZ ((List.range' a (k+1)).map fun i=>D.int (f i)) (((List.range' a (k+1)).map fun i=>D.int (f i)).drop 1)=(List.range' a k).map fun i=>D.tup [.int (f i),.int (f (i+1))]:=by
  intro k
  induction k with
  | zero=>intro a;rfl
  | succ k ih =>
    intro a
    have:=ih (a+1)
    rw [List.range'_succ] at this ⊢
    rw [List.range'_succ (s:=a) (n:=k)]
    rw [List.range'_succ (s:=a+1) (n:=k)]
    simp only [List.map_cons,List.drop_succ_cons,List.drop_zero,XZ] at this ⊢
    exact congrArg _ this
theorem WI {k:Nat} {rows:List (List Int)} {sd:Nat->List Int} (hk:k<=100) (hl:rows.length=k) (h:∀ i,i<=k->Zy [mD rows,.int (i:Int)]=some (rD (sd i))) (hp:∀ i,i < k->0 < Wv (sd i)/\Wv (sd i) < 1000000) :
    Yt [mD rows]=some (rD ((List.range k).map fun i=>((Wv (sd (i+1)) / Wv (sd i):Nat):Int))):=by
  have e1:=Z5 (n:=1) (ix:=[0]) (fi:=fR Xh (Zc (f2 ZS (fL Yy (Zc (fV 0) fN)) (fC (.int 1))) fN)) (t:=gN 0) (fe:=fL Yc (Zc (fL Zy (Zc (fV 1) (Zc (fV 0) fN))) fN)) (ρ:=[some (mD rows),none])
    (fun (i:Nat)=>D.int (i:Int)) (fun (i:Nat)=>D.int ((Wv (sd i):Nat):Int)) (List.range (k+1)) (by
      have hr:=Xs (n:=k+1) (by omega)
      rw [show ((k+1:Nat):Int)=(k:Int)+1 by omega] at hr
      simp! only [mD_map,List.length_map,hl,hr]) (by rw [List.length_range];omega) fun i hi=>⟨_,rfl,by
      have:=List.mem_range.mp hi
      simp! only [h i (by omega),g_common]⟩
  have e2:=Z5 (n:=2) (ix:=[]) (fi:=fZip (fV 1) (fSl (fV 1) (pS (fC (.int 1))) pN)) (t:=gT [0,1]) (fe:=f2 fdivD (fV 1) (fV 0)) (ρ:=[some (mD rows),some (.lst ((List.range (k+1)).map fun (i:Nat)=>D.int ((Wv (sd i):Nat):Int)))])
    (fun (i:Nat)=>D.tup [.int ((Wv (sd i):Nat):Int),.int ((Wv (sd (i+1)):Nat):Int)]) (fun (i:Nat)=>D.int (((Wv (sd (i+1)) / Wv (sd i):Nat):Nat):Int)) (List.range k) (by
      have:=zip_nxt (fun i=>((Wv (sd i):Nat):Int)) k 0
      rw [<- List.range_eq_range',<- List.range_eq_range'] at this
      simp! only [fZip,W8,slD,cut_drop' _ (show (1:Int)=((1:Nat):Int) from rfl),this]) (by rw [List.length_range];omega) fun i hi=>⟨_,rfl,by
      have:=hp i (List.mem_range.mp hi)
      show fdivD (D.int ((Wv (sd (i+1)):Nat):Int)) (D.int ((Wv (sd i):Nat):Int))=_
      rw [fdivD_ok (by omega) (by omega),Int.natCast_ediv]⟩
  unfold Yt VL
  simp! only [e1,e2]
  rw [rD_map]
def ch9 {α:Type}:List α->Nat->List (List α)
  | _,0=>[[]]
  | [],_+1=>[]
  | x::xs,k+1=>(ch9 xs k).map (x::·)++ch9 xs (k+1)
theorem ch9_mem {α:Type}:∀ (xs:List α) (k:Nat),∀ t∈ch9 xs k,t.length=k/\∀ x∈t,x∈xs:=by
  intro xs
  induction xs with
  | nil =>
    intro k t ht
    cases k with
    | zero=>rw [List.mem_singleton.mp ht];exact ⟨rfl,fun x hx=>by cases hx⟩
    | succ k=>cases ht
  | cons y xs ih =>
    intro k t ht
    cases k with
    | zero=>rw [List.mem_singleton.mp ht];exact ⟨rfl,fun x hx=>by cases hx⟩
    | succ k =>
      rcases List.mem_append.mp ht with h | h
      · obtain ⟨u,hu,rfl⟩:=List.mem_map.mp h
        obtain ⟨a,b⟩:=ih k u hu
        refine ⟨by rw [List.length_cons,a],fun x hx=>?_⟩
        rcases List.mem_cons.mp hx with rfl | hx
        · exact List.mem_cons_self
        · exact List.mem_cons_of_mem _ (b x hx)
      · obtain ⟨a,b⟩:=ih (k+1) t h
        exact ⟨a,fun x hx=>List.mem_cons_of_mem _ (b x hx)⟩
theorem ch9_map {α β:Type} (f:α->β):∀ (xs:List α) (k:Nat),ch9 (xs.map f) k=(ch9 xs k).map (·.map f):=by
  intro xs
  induction xs with
  | nil=>intro k;cases k <;> rfl
  | cons y xs ih =>
    intro k
    cases k with
    | zero=>rfl
    | succ k =>
      show (ch9 (xs.map f) k).map (f y::·)++ch9 (xs.map f) (k+1)=((ch9 xs k).map (y::·)++ch9 xs (k+1)).map (·.map f)
      rw [ih,ih,List.map_append,List.map_map,List.map_map];rfl
theorem ch9_len {α:Type}:∀ (xs:List α) (k:Nat),(ch9 xs k).length<=2 ^ xs.length:=by
  intro xs
  induction xs with
  | nil=>intro k;cases k <;> simp [ch9]
  | cons y xs ih =>
    intro k
    cases k with
    | zero=>exact Nat.one_le_two_pow
    | succ k =>
      show ((ch9 xs k).map (y::·)++ch9 xs (k+1)).length<=2 ^ (xs.length+1)
      rw [List.length_append,List.length_map,Nat.pow_succ]
      have:=ih k
      have:=ih (k+1)
      omega
theorem ch_0_0:ZB [.lst [],.int 0]=some (.lst [.lst []]):=by rfl
theorem ch_1_0 (x:D):ZB [.lst [x],.int 0]=some (.lst [.lst []]):=by rfl
theorem ch_1_1 (x:D):ZB [.lst [x],.int 1]=some (.lst [.lst [x]]):=by rfl
theorem ch_2_0 (x y:D):ZB [.lst [x,y],.int 0]=some (.lst [.lst []]):=by rfl
theorem ch_2_1 (x y:D):ZB [.lst [x,y],.int 1]=some (.lst [.lst [x],.lst [y]]):=by rfl
theorem ch_2_2 (x y:D):ZB [.lst [x,y],.int 2]=some (.lst [.lst [x,y]]):=by rfl
theorem ch_3_0 (x y z:D):ZB [.lst [x,y,z],.int 0]=some (.lst [.lst []]):=by rfl
theorem ch_3_1 (x y z:D):ZB [.lst [x,y,z],.int 1]=some (.lst [.lst [x],.lst [y],.lst [z]]):=by rfl
theorem ch_3_2 (x y z:D):ZB [.lst [x,y,z],.int 2]=some (.lst [.lst [x,y],.lst [x,z],.lst [y,z]]):=by rfl
theorem ch_3_3 (x y z:D):ZB [.lst [x,y,z],.int 3]=some (.lst [.lst [x,y,z]]):=by rfl
theorem g_choices {xs:List D} {k:Nat} (h:k<=xs.length) (h3:xs.length<=3):ZB [.lst xs,.int (k:Int)]=some (.lst ((ch9 xs k).map .lst)):=by
  have cx:xs=[]\/(∃ x,xs=[x])\/(∃ x y,xs=[x,y])\/∃ x y z,xs=[x,y,z]:=by
    cases xs with
    | nil=>exact .inl rfl
    | cons x xs =>
      cases xs with
      | nil=>exact .inr (.inl ⟨x,rfl⟩)
      | cons y xs =>
        cases xs with
        | nil=>exact .inr (.inr (.inl ⟨x,y,rfl⟩))
        | cons z xs =>
          cases xs with
          | nil=>exact .inr (.inr (.inr ⟨x,y,z,rfl⟩))
          | cons w xs=>simp at h3
  rcases cx with rfl | ⟨x,rfl⟩ | ⟨x,y,rfl⟩ | ⟨x,y,z,rfl⟩
  · obtain rfl:k=0:=by simpa using h
    exact ch_0_0
  · have:k=0\/k=1:=by simp at h;omega
    rcases this with rfl | rfl
    · exact ch_1_0 x
    · exact ch_1_1 x
  · have:k=0\/k=1\/k=2:=by simp at h;omega
    rcases this with rfl | rfl | rfl
    · exact ch_2_0 x y
    · exact ch_2_1 x y
    · exact ch_2_2 x y
  · have:k=0\/k=1\/k=2\/k=3:=by simp at h;omega
    rcases this with rfl | rfl | rfl | rfl
    · exact ch_3_0 x y z
    · exact ch_3_1 x y z
    · exact ch_3_2 x y z
    · exact ch_3_3 x y z
theorem g_choicesM {rows:List (List Int)} {k:Nat} (h:k<=rows.length) (h3:rows.length<=3):ZB [mD rows,.int (k:Int)]=some (.lst ((ch9 rows k).map mD)):=by
  have:=g_choices (xs:=rows.map rD) (k:=k) (by rw [List.length_map];exact h) (by rw [List.length_map];exact h3)
  rw [ch9_map,List.map_map] at this
  exact this
def sd9 (rows:List (List Int)) (i:Nat):List Int:=(ch9 rows i).flatMap fun s=>(ch9 (W4 rows.length s) i).map M.det
theorem VE {rows:List (List Int)} (h3:rows.length<=3) (hr:∀ r∈rows,r.length=rows.length) (hs:Sml rows) {i:Nat} (hi:i<=rows.length):Zy [mD rows,.int (i:Int)]=some (rD (sd9 rows i)):=by
  have p8:2 ^ rows.length<=2 ^ 3:=Nat.pow_le_pow_right (by omega) h3
  have cl:∀ s,(W4 rows.length s).length=rows.length:=fun s=>by unfold W4;simp
  refine g_smaller (k:=rows.length) (ds:=fun s=>ch9 (W4 rows.length s) i) (by omega) rfl (g_choicesM hi h3) (fun s hsm=>?_) (fun s hsm t ht=>?_) (by have:=ch9_len rows i;omega)
  · obtain ⟨a,b⟩:=ch9_mem rows i s hsm
    refine ⟨by omega,fun r h=>hr r (b r h),?_,g_choicesM (by rw [cl];exact hi) (by rw [cl];exact h3)⟩
    have:=ch9_len (W4 rows.length s) i
    rw [cl] at this
    omega
  · obtain ⟨a,b⟩:=ch9_mem rows i s hsm
    obtain ⟨c,d⟩:=ch9_mem _ i t ht
    refine We (k:=i) (by omega) c (fun r h=>?_) (fun r h x hx=>?_)
    · obtain ⟨p,_,rfl⟩:=List.mem_map.mp (d r h)
      rw [List.length_map,a]
    · obtain ⟨p,hp,rfl⟩:=List.mem_map.mp (d r h)
      obtain ⟨u,hu,rfl⟩:=List.mem_map.mp hx
      have hl:=hr u (b u hu)
      have hp:=List.mem_range.mp hp
      exact hs u (b u hu) _ (List.mem_of_getElem? (pf_at (by omega)))
theorem gl9_1:Wv [1]=1:=by decide
theorem sd_3 (A:M3):Wv (sd9 [[A.a,A.b,A.c],[A.d,A.e,A.f],[A.g,A.h,A.k]] 0)=1/\Wv (sd9 [[A.a,A.b,A.c],[A.d,A.e,A.f],[A.g,A.h,A.k]] 1)=g19 A/\Wv (sd9 [[A.a,A.b,A.c],[A.d,A.e,A.f],[A.g,A.h,A.k]] 2)=g29 A/\Wv (sd9 [[A.a,A.b,A.c],[A.d,A.e,A.f],[A.g,A.h,A.k]] 3)=(dt9 A).natAbs:=by
  refine ⟨?_,?_,?_,?_⟩
  · show Wv [M.det []]=1
    rw [M.det0];exact gl9_1
  · show Wv [M.det [[A.a]],M.det [[A.b]],M.det [[A.c]],M.det [[A.d]],M.det [[A.e]],M.det [[A.f]],M.det [[A.g]],M.det [[A.h]],M.det [[A.k]]]=_
    simp only [M.det1];rfl
  · show Wv [M.det [[A.a,A.d],[A.b,A.e]],M.det [[A.a,A.d],[A.c,A.f]],M.det [[A.b,A.e],[A.c,A.f]],M.det [[A.a,A.g],[A.b,A.h]],M.det [[A.a,A.g],[A.c,A.k]],M.det [[A.b,A.h],[A.c,A.k]],M.det [[A.d,A.g],[A.e,A.h]],M.det [[A.d,A.g],[A.f,A.k]],M.det [[A.e,A.h],[A.f,A.k]]]=_
    simp only [M.det2,M.D2]
    rw [Int.mul_comm A.d A.b,Int.mul_comm A.d A.c,Int.mul_comm A.e A.c,Int.mul_comm A.g A.b,Int.mul_comm A.g A.c,Int.mul_comm A.h A.c,Int.mul_comm A.g A.e,Int.mul_comm A.g A.f,Int.mul_comm A.h A.f];rfl
  · show Wv [M.det [[A.a,A.d,A.g],[A.b,A.e,A.h],[A.c,A.f,A.k]]]=_
    rw [M.det3,show M.D3 A.a A.d A.g A.b A.e A.h A.c A.f A.k=dt9 A by unfold M.D3 M.D2 dt9;grind]
    show Nat.gcd 0 _=_
    rw [Nat.gcd_zero_left]
theorem sd_2 (a b c d:Int):Wv (sd9 [[a,b],[c,d]] 0)=1/\Wv (sd9 [[a,b],[c,d]] 1)=Wv [a,b,c,d]/\Wv (sd9 [[a,b],[c,d]] 2)=(a * d - b * c).natAbs:=by
  refine ⟨?_,?_,?_⟩
  · show Wv [M.det []]=1
    rw [M.det0];exact gl9_1
  · show Wv [M.det [[a]],M.det [[b]],M.det [[c]],M.det [[d]]]=_
    simp only [M.det1]
  · show Wv [M.det [[a,c],[b,d]]]=_
    rw [M.det2,show M.D2 a c b d=a * d - b * c by unfold M.D2;grind]
    show Nat.gcd 0 _=_
    rw [Nat.gcd_zero_left]
theorem sd_1 (a:Int):Wv (sd9 [[a]] 0)=1/\Wv (sd9 [[a]] 1)=a.natAbs:=by
  refine ⟨?_,?_⟩
  · show Wv [M.det []]=1
    rw [M.det0];exact gl9_1
  · show Wv [M.det [[a]]]=_
    rw [M.det1]
    show Nat.gcd 0 _=_
    rw [Nat.gcd_zero_left]
structure KOk (n:Nat) (L:Nat->Nat->Int) (ks:List Nat):Prop where
  pos:∀ k∈ks,0 < k/\k < 1000000
  pw:ks.Pairwise fun x y=>y % x=0
  pr:ks.foldl (fun a k=>a * k) 1=T9 n L
  cn:∀ m,0 < m->m<=12->ks.foldl (fun a k=>a * Nat.gcd m k) 1=N9 m (Y6 n L)
  few:ks.length<=3
section
variable {L:Nat->Nat->Int}
theorem T9_pos {n:Nat} (g:M.Gd n L) (h4:n<=4):0 < T9 n L/\T9 n L < 1000000:=by
  have a:=g.whole_pos g.pos
  have b:=g.whole_le g.pos
  unfold M.whole at a b
  rw [det9 g.net g.pos h4] at a b
  omega
theorem dt_la {n:Nat} (h1:1<=n) (h4:n<=4):dt9 (Y6 n L)=(T9 n L:Nat):=by
  have cs:n=1\/n=2\/n=3\/n=4:=by omega
  rcases cs with rfl | rfl | rfl | rfl
  · show dt9 (WG 1 1 1 0 0 0)=1
    decide
  · show dt9 (WG (W9 L 0 1) 1 1 0 0 0)=((W9 L 0 1:Nat):Int)
    unfold dt9 WG
    grind
  · show dt9 (WG (W9 L 0 1) (W9 L 0 2) 1 (W9 L 1 2) 0 0)=((N2 (W9 L 0 1) (W9 L 0 2) (W9 L 1 2):Nat):Int)
    rw [N2_eq]
    unfold dt9 WG
    simp only [Int.natCast_add,Int.natCast_mul]
    grind
  · show dt9 (WG (W9 L 0 1) (W9 L 0 2) (W9 L 0 3) (W9 L 1 2) (W9 L 1 3) (W9 L 2 3))=((T4 (W9 L 0 1) (W9 L 0 2) (W9 L 0 3) (W9 L 1 2) (W9 L 1 3) (W9 L 2 3):Nat):Int)
    unfold dt9 WG T4
    simp only [Int.natCast_add,Int.natCast_mul]
    grind
theorem w9_le {n:Nat} (g:M.Gd n L) (i j:Nat):W9 L i j<=4:=by have:=g.le4 i j;unfold W9;omega
theorem w9_01 {n:Nat} (g:M.Gd n L) (h:2<=n):1<=W9 L 0 1:=by
  obtain ⟨x,hx,l⟩:=g.par 1 (by omega) (by omega)
  obtain rfl:x=0:=by omega
  unfold W9;omega
theorem sm_la {n:Nat} (g:M.Gd n L) (h4:n<=4):Sm9 (Y6 n L) (g19 (Y6 n L)) (g29 (Y6 n L) / g19 (Y6 n L)) (T9 n L / g29 (Y6 n L)):=by
  have t:=T9_pos g h4
  have e:=dt_la (L:=L) g.pos h4
  have ck:ck9 (Y6 n L)=true:=by
    have p:=g.pos
    have cs:n=1\/n=2\/n=3\/n=4:=by omega
    have W:=w9_le g
    rcases cs with rfl | rfl | rfl | rfl
    · exact ck_at (a:=1) (b:=1) (c:=1) (d:=0) (e:=0) (f:=0) (by omega) (by omega) (by omega) (by omega) (by omega) (by omega) (by omega)
    · exact ck_at (a:=W9 L 0 1) (b:=1) (c:=1) (d:=0) (e:=0) (f:=0) (w9_01 g (by omega)) (W _ _) (by omega) (by omega) (by omega) (by omega) (by omega)
    · exact ck_at (a:=W9 L 0 1) (b:=W9 L 0 2) (c:=1) (d:=W9 L 1 2) (e:=0) (f:=0) (w9_01 g (by omega)) (W _ _) (W _ _) (by omega) (W _ _) (by omega) (by omega)
    · exact ck_at (w9_01 g (by omega)) (W _ _) (W _ _) (W _ _) (W _ _) (W _ _) (W _ _)
  have:=ck_ok ck (by rw [e];omega)
  rw [e,Int.natAbs_natCast] at this
  exact this
end
theorem g_inv9 {g:Gr} (h:GOk g) (h4:g.n<=4):∃ ks:List Nat,KOk g.n (ln g.bs) ks/\Yt [mD (M.rowsOf g.n (ln g.bs) (M.others g.n 0))]=some (rD (ks.map fun k=>((k:Nat):Int))):=by
  have gd:=h.gd
  have N:=gd.net
  have sm:=sm_la gd h4
  have t:=T9_pos gd h4
  have sml:=rows_sml gd (M.others g.n 0)
  have hW:=w9 N
  have z:∀ y,W9 (ln g.bs) y y=0:=fun y=>by unfold W9;rw [N.diag y];rfl
  have n1:=h.n1
  obtain ⟨n,bs⟩:=g
  simp only at *
  have cs:n=1\/n=2\/n=3\/n=4:=by omega
  rcases cs with rfl | rfl | rfl | rfl
  · refine ⟨[],⟨fun k hk=>(by cases hk),List.Pairwise.nil,rfl,fun m m0 m1=>?_,by simp⟩,?_⟩
    · rw [sm.cn m m0 m1]
      have:(Y6 1 (ln bs))=WG 1 1 1 0 0 0:=rfl
      rw [show g19 (Y6 1 (ln bs))=1 by rw [this];decide,show g29 (Y6 1 (ln bs))=1 by rw [this];decide,show T9 1 (ln bs)=1 from rfl]
      simp
    · exact WI (k:=0) (rows:=[]) (sd:=sd9 []) (by omega) rfl (fun i hi=>VE (by simp) (fun r hr=>(by cases hr)) (fun r hr=>(by cases hr)) (by simp;omega)) (fun i hi=>(by omega))
  · have s10:=w9s N (i:=1) (j:=0) (by omega) (by omega)
    have c2:=Yk ck_2x (w9_le gd 0 1)
    simp only [Bool.and_eq_true,Nat.beq_eq] at c2
    have l2:Y6 2 (ln bs)=WG (W9 (ln bs) 0 1) (1:Nat) (1:Nat) (0:Nat) (0:Nat) (0:Nat):=rfl
    rw [<- l2] at c2
    rw [c2.1,c2.2] at sm
    have rw2:M.rowsOf 2 (ln bs) (M.others 2 0)=[[((T9 2 (ln bs):Nat):Int)]]:=by
      show [[M.S 2 (ln bs 1)]]=[[((W9 (ln bs) 0 1:Nat):Int)]]
      simp only [M.S,hW,s10,z];simp
    rw [rw2] at sml ⊢
    obtain ⟨q0,q1⟩:=sd_1 ((T9 2 (ln bs):Nat):Int)
    refine ⟨[T9 2 (ln bs)],⟨fun k hk=>by rw [List.mem_singleton.mp hk];exact t,List.pairwise_singleton _ _,by simp,fun m m0 m1=>?_,by simp⟩,?_⟩
    · rw [sm.cn m m0 m1];simp
    · have hp2:∀ i,i < 1->0 < Wv (sd9 [[((T9 2 (ln bs):Nat):Int)]] i)/\Wv (sd9 [[((T9 2 (ln bs):Nat):Int)]] i) < 1000000:=by
        intro i hi
        obtain rfl:i=0:=by omega
        rw [q0];omega
      have e:=WI (k:=1) (rows:=[[((T9 2 (ln bs):Nat):Int)]]) (sd:=sd9 [[((T9 2 (ln bs):Nat):Int)]]) (by omega) rfl (fun i hi=>VE (by simp) (fun r hr=>by simp at hr;rw [hr];rfl) sml (by simp;omega)) hp2
      rw [e]
      show some (rD [((Wv (sd9 [[((T9 2 (ln bs):Nat):Int)]] 1) / Wv (sd9 [[((T9 2 (ln bs):Nat):Int)]] 0):Nat):Int)])=_
      rw [q0,q1,Int.natAbs_natCast,Nat.div_one];rfl
  · have s10:=w9s N (i:=1) (j:=0) (by omega) (by omega)
    have s20:=w9s N (i:=2) (j:=0) (by omega) (by omega)
    have s21:=w9s N (i:=2) (j:=1) (by omega) (by omega)
    have c3:=Yk (Yk (Yk ck_3x (w9_le gd 0 1)) (w9_le gd 0 2)) (w9_le gd 1 2)
    simp only [Bool.and_eq_true,Nat.beq_eq] at c3
    have l3:Y6 3 (ln bs)=WG (W9 (ln bs) 0 1) (W9 (ln bs) 0 2) (1:Nat) (W9 (ln bs) 1 2) (0:Nat) (0:Nat):=rfl
    rw [<- l3] at c3
    obtain ⟨c31,c32⟩:=c3
    rw [c31] at sm
    have rw3:M.rowsOf 3 (ln bs) (M.others 3 0)=[[(W9 (ln bs) 0 1:Int)+W9 (ln bs) 1 2,- (W9 (ln bs) 1 2:Int)],[- (W9 (ln bs) 1 2:Int),(W9 (ln bs) 0 2:Int)+W9 (ln bs) 1 2]]:=by
      show [[M.S 3 (ln bs 1),- ln bs 1 2],[- ln bs 2 1,M.S 3 (ln bs 2)]]=_
      simp only [M.S,hW,s10,s20,s21,z];simp
    rw [rw3] at sml ⊢
    obtain ⟨q0,q1,q2⟩:=sd_2 ((W9 (ln bs) 0 1:Int)+W9 (ln bs) 1 2) (- (W9 (ln bs) 1 2:Int)) (- (W9 (ln bs) 1 2:Int)) ((W9 (ln bs) 0 2:Int)+W9 (ln bs) 1 2)
    rw [<- c32] at q1
    have dt:(((W9 (ln bs) 0 1:Int)+W9 (ln bs) 1 2) * ((W9 (ln bs) 0 2:Int)+W9 (ln bs) 1 2) - (- (W9 (ln bs) 1 2:Int)) * (- (W9 (ln bs) 1 2:Int))).natAbs=T9 3 (ln bs):=by
      have e:=dt_la (n:=3) (L:=ln bs) (by omega) (by omega)
      rw [show (((W9 (ln bs) 0 1:Int)+W9 (ln bs) 1 2) * ((W9 (ln bs) 0 2:Int)+W9 (ln bs) 1 2) - (- (W9 (ln bs) 1 2:Int)) * (- (W9 (ln bs) 1 2:Int)))=dt9 (Y6 3 (ln bs)) by rw [l3];unfold dt9 WG;grind,e,Int.natAbs_natCast]
    rw [dt] at q2
    have y0:=sm.y0
    have z0:=sm.z0
    have pr:=sm.pr
    have ql:=sm.ql
    rw [dt_la (L:=ln bs) (by omega) (by omega)] at pr
    rw [Nat.div_one] at sm y0 pr
    refine ⟨[g29 (Y6 3 (ln bs)),T9 3 (ln bs) / g29 (Y6 3 (ln bs))],⟨fun k hk=>?_,?_,?_,fun m m0 m1=>?_,by simp⟩,?_⟩
    · rcases List.mem_cons.mp hk with rfl | hk
      · exact ⟨y0,ql⟩
      · rw [List.mem_singleton.mp hk]
        exact ⟨z0,Nat.lt_of_le_of_lt (Nat.div_le_self _ _) t.2⟩
    · refine List.pairwise_cons.mpr ⟨fun y hy=>?_,List.pairwise_singleton _ _⟩
      rw [List.mem_singleton.mp hy];exact sm.yz
    · show 1 * _ * _=_
      omega
    · rw [sm.cn m m0 m1]
      show 1 * _ * _=_
      rw [Nat.gcd_one_right];grind
    · have e:=WI (k:=2) (sd:=sd9 [[(W9 (ln bs) 0 1:Int)+W9 (ln bs) 1 2,- (W9 (ln bs) 1 2:Int)],[- (W9 (ln bs) 1 2:Int),(W9 (ln bs) 0 2:Int)+W9 (ln bs) 1 2]]) (rows:=[[(W9 (ln bs) 0 1:Int)+W9 (ln bs) 1 2,- (W9 (ln bs) 1 2:Int)],[- (W9 (ln bs) 1 2:Int),(W9 (ln bs) 0 2:Int)+W9 (ln bs) 1 2]]) (by omega) rfl (fun i hi=>VE (by simp) (fun r hr=>by simp at hr;rcases hr with rfl | rfl <;> rfl) sml (by simp;omega)) (fun i hi=>by
        have:i=0\/i=1:=by omega
        rcases this with rfl | rfl
        · rw [q0];omega
        · rw [q1];exact ⟨y0,ql⟩)
      rw [e]
      show some (rD [((Wv (sd9 _ 1) / Wv (sd9 _ 0):Nat):Int),((Wv (sd9 _ 2) / Wv (sd9 _ 1):Nat):Int)])=_
      rw [q0,q1,q2,Nat.div_one];rfl
  · have s10:=w9s N (i:=1) (j:=0) (by omega) (by omega)
    have s20:=w9s N (i:=2) (j:=0) (by omega) (by omega)
    have s30:=w9s N (i:=3) (j:=0) (by omega) (by omega)
    have s21:=w9s N (i:=2) (j:=1) (by omega) (by omega)
    have s31:=w9s N (i:=3) (j:=1) (by omega) (by omega)
    have s32:=w9s N (i:=3) (j:=2) (by omega) (by omega)
    have rw4:M.rowsOf 4 (ln bs) (M.others 4 0)=[[(Y6 4 (ln bs)).a,(Y6 4 (ln bs)).b,(Y6 4 (ln bs)).c],[(Y6 4 (ln bs)).d,(Y6 4 (ln bs)).e,(Y6 4 (ln bs)).f],[(Y6 4 (ln bs)).g,(Y6 4 (ln bs)).h,(Y6 4 (ln bs)).k]]:=by
      show [[M.S 4 (ln bs 1),- ln bs 1 2,- ln bs 1 3],[- ln bs 2 1,M.S 4 (ln bs 2),- ln bs 2 3],[- ln bs 3 1,- ln bs 3 2,M.S 4 (ln bs 3)]]=[[(W9 (ln bs) 0 1:Int)+W9 (ln bs) 1 2+W9 (ln bs) 1 3,- (W9 (ln bs) 1 2:Int),- (W9 (ln bs) 1 3:Int)],[- (W9 (ln bs) 1 2:Int),(W9 (ln bs) 0 2:Int)+W9 (ln bs) 1 2+W9 (ln bs) 2 3,- (W9 (ln bs) 2 3:Int)],[- (W9 (ln bs) 1 3:Int),- (W9 (ln bs) 2 3:Int),(W9 (ln bs) 0 3:Int)+W9 (ln bs) 1 3+W9 (ln bs) 2 3]]
      simp only [M.S,hW,s10,s20,s30,s21,s31,s32,z];simp
    rw [rw4] at sml ⊢
    obtain ⟨q0,q1,q2,q3⟩:=sd_3 (Y6 4 (ln bs))
    have e4:=dt_la (n:=4) (L:=ln bs) (by omega) (by omega)
    rw [e4,Int.natAbs_natCast] at q3
    have pr:=sm.pr
    rw [e4] at pr
    have qp:0 < g29 (Y6 4 (ln bs)):=by
      have:=sm.y0
      rcases Nat.eq_zero_or_pos (g29 (Y6 4 (ln bs))) with e | e
      · rw [e,Nat.zero_div] at this;omega
      · exact e
    generalize hA:Y6 4 (ln bs)=A at *
    refine ⟨[g19 A,g29 A / g19 A,T9 4 (ln bs) / g29 A],⟨fun k hk=>?_,?_,?_,fun m m0 m1=>?_,by simp⟩,?_⟩
    · rcases List.mem_cons.mp hk with rfl | hk
      · exact ⟨sm.p0,sm.pl⟩
      · rcases List.mem_cons.mp hk with rfl | hk
        · exact ⟨sm.y0,Nat.lt_of_le_of_lt (Nat.div_le_self _ _) sm.ql⟩
        · rw [List.mem_singleton.mp hk]
          exact ⟨sm.z0,Nat.lt_of_le_of_lt (Nat.div_le_self _ _) t.2⟩
    · have a:=Nat.dvd_of_mod_eq_zero sm.py
      have b:=Nat.dvd_of_mod_eq_zero sm.yz
      refine List.pairwise_cons.mpr ⟨fun y hy=>?_,List.pairwise_cons.mpr ⟨fun y hy=>?_,List.pairwise_singleton _ _⟩⟩
      · rcases List.mem_cons.mp hy with rfl | hy
        · exact sm.py
        · rw [List.mem_singleton.mp hy];exact Nat.mod_eq_zero_of_dvd (Nat.dvd_trans a b)
      · rw [List.mem_singleton.mp hy];exact sm.yz
    · show 1 * _ * _ * _=_
      rw [Nat.one_mul];omega
    · rw [hA,sm.cn m m0 m1]
      show 1 * _ * _ * _=_
      grind
    · have e:=WI (k:=3) (sd:=sd9 [[A.a,A.b,A.c],[A.d,A.e,A.f],[A.g,A.h,A.k]]) (rows:=[[A.a,A.b,A.c],[A.d,A.e,A.f],[A.g,A.h,A.k]]) (by omega) rfl (fun i hi=>VE (by simp) (fun r hr=>by simp at hr;rcases hr with rfl | rfl | rfl <;> rfl) sml (by simp;omega)) (fun i hi=>by
        have:i=0\/i=1\/i=2:=by omega
        rcases this with rfl | rfl | rfl
        · rw [q0];omega
        · rw [q1];exact ⟨sm.p0,sm.pl⟩
        · rw [q2];exact ⟨qp,sm.ql⟩)
      rw [e]
      show some (rD [((Wv (sd9 _ 1) / Wv (sd9 _ 0):Nat):Int),((Wv (sd9 _ 2) / Wv (sd9 _ 1):Nat):Int),((Wv (sd9 _ 3) / Wv (sd9 _ 2):Nat):Int)])=_
      rw [q0,q1,q2,q3,Nat.div_one];rfl
structure KF (n:Nat) (L:Nat->Nat->Int) (ks:List Nat):Prop where
  pos:∀ k∈ks,2<=k/\k < 1000000
  pw:ks.Pairwise fun x y=>y % x=0
  pr:ks.foldl (fun a k=>a * k) 1=T9 n L
  cn:∀ m,0 < m->m<=12->ks.foldl (fun a k=>a * Nat.gcd m k) 1=N9 m (Y6 n L)
  few:ks.length<=3
theorem fold_f {f:Nat->Nat} (h1:f 1=1):∀ (ks:List Nat) (c:Nat),(ks.filter fun k=>decide (k≠1)).foldl (fun a k=>a * f k) c=ks.foldl (fun a k=>a * f k) c:=by
  intro ks
  induction ks with
  | nil=>intro c;rfl
  | cons k ks ih =>
    intro c
    by_cases h:k=1
    · subst h
      rw [List.filter_cons_of_neg (by simp),ih,List.foldl_cons,h1,Nat.mul_one]
    · rw [List.filter_cons_of_pos (by simp [h]),List.foldl_cons,List.foldl_cons,ih]
theorem g_knots {g:Gr} (h:GOk g) (h4:g.n<=4):∃ ks:List Nat,KF g.n (ln g.bs) ks/\Wg [gD g]=some (rD (ks.map fun k=>((k:Nat):Int))):=by
  obtain ⟨ks,ok,e⟩:=g_inv9 h h4
  have e2:=fComp_of (n:=1) (ix:=[]) (fi:=Zq (fL Yt (Zc (fL ZN (Zc (fL Zp (Zc (fV 0) fN)) (Zc (fC (.int 0)) fN))) fN))) (t:=gN 0) (gt:=gB (f2 Vl (fV 0) (fC (.int 1)))) (fe:=fV 0) (ρ:=[some (gD g)])
    (fun (k:Nat)=>D.int (k:Int)) (fun k=>decide (k≠1)) (fun (k:Nat)=>D.int (k:Int)) ks (by
      have i:=VF (n:=g.n) (L:=ln g.bs) (q:=0) (by omega)
      rw [show ((0:Nat):Int)=0 from rfl] at i
      simp! only [g_table h,i,e]
      rw [rD,List.map_map];rfl) (by have:=ok.few;omega) fun k hk=>⟨_,rfl,by
      simp! only [Wi]
      congr 1
      by_cases hk1:k=1
      · subst hk1;simp
      · have:¬ (k:Int)=1:=by omega
        simp [hk1,this],fun _=>rfl⟩
  refine ⟨ks.filter fun k=>decide (k≠1),⟨fun k hk=>?_,ok.pw.filter _,?_,fun m m0 m1=>?_,Nat.le_trans (List.length_filter_le _ _) ok.few⟩,?_⟩
  · obtain ⟨a,b⟩:=List.mem_filter.mp hk
    have:=ok.pos k a
    have:=of_decide_eq_true b
    omega
  · rw [fold_f (f:=fun k=>k) rfl];exact ok.pr
  · rw [fold_f (f:=fun k=>Nat.gcd m k) (Nat.gcd_one_right m)];exact ok.cn m m0 m1
  · unfold Wg F_knots
    simp! only [g_checked h,e2,rD_map]
def ld9 (m:Nat) (n:Nat) (p:List Int) (i:Nat):Int:=if i=0 then - (m * M.S n (pf p)) else m * pf p i
theorem ld_sum {n m:Nat} (hn:0 < n) {p:List Int} (h0:pf p 0=0):M.S n (ld9 m n p)=0:=by
  have key:∀ k,M.S (k+1) (ld9 m n p)=- (m * M.S n (pf p))+m * M.S (k+1) (pf p):=by
    intro k
    induction k with
    | zero =>
      show 0+ld9 m n p 0=_+m * (0+pf p 0)
      rw [h0,show ld9 m n p 0=- (m * M.S n (pf p)) from rfl];simp
    | succ k ih =>
      show M.S (k+1) (ld9 m n p)+ld9 m n p (k+1)=_+m * (M.S (k+1) (pf p)+pf p (k+1))
      rw [ih,show ld9 m n p (k+1)=m * pf p (k+1) from rfl,Int.mul_add];omega
  obtain ⟨k,rfl⟩:∃ k,n=k+1:=⟨n - 1,by omega⟩
  rw [key];omega
theorem told_iff {g:Gr} (h:GOk g) {m:Nat} {p:List Int} (h0:pf p 0=0) {c:Nat->Int} (nd:M.NoDebt g.n 0 (M.fire g.n (ln g.bs) (ld9 m g.n p) c)) (bl:(M.burnt g.n (ln g.bs) (M.fire g.n (ln g.bs) (ld9 m g.n p) c) 0).length=g.n) :
    (∀ i,i < g.n->M.fire g.n (ln g.bs) (ld9 m g.n p) c i=0) ↔ Z9 g.n (ln g.bs) m p:=by
  have gd:=h.gd
  have N:=gd.net
  have hn:0 < g.n:=gd.pos
  have st:=(M.burnt_settled N hn nd).mp bl
  constructor
  · intro z
    refine ⟨fun j=>c j+- c 0,by simp only;omega,fun i hi hi0=>?_⟩
    have e:=z i hi
    unfold M.fire at e
    rw [M.flow_add,M.flow_const]
    rw [show ld9 m g.n p i=m * pf p i from if_neg hi0] at e
    omega
  · rintro ⟨x,x0,e⟩
    have z:∀ i,i < g.n->M.fire g.n (ln g.bs) (ld9 m g.n p) x i=0:=by
      have off:∀ i,i < g.n->i≠0->M.fire g.n (ln g.bs) (ld9 m g.n p) x i=0:=fun i hi hi0=>by
        unfold M.fire
        rw [e i hi hi0,show ld9 m g.n p i=m * pf p i from if_neg hi0];omega
      have sm:=M.fire_sum N (ld9 m g.n p) x
      rw [ld_sum hn h0] at sm
      have key:∀ k,k+1<=g.n->M.S (k+1) (M.fire g.n (ln g.bs) (ld9 m g.n p) x)=M.fire g.n (ln g.bs) (ld9 m g.n p) x 0:=by
        intro k
        induction k with
        | zero=>intro _;exact Int.zero_add _
        | succ k ih =>
          intro hk
          show M.S (k+1) _+_=_
          rw [ih (by omega),off (k+1) (by omega) (by omega)];omega
      intro i hi
      by_cases hi0:i=0
      · subst hi0
        have:=key (g.n - 1) (by omega)
        rw [show g.n - 1+1=g.n by omega,sm] at this
        omega
      · exact off i hi hi0
    have zs:M.Settled g.n (ln g.bs) 0 (pf []):=(bn_iff N hn (fun c hc=>by cases hc)).mp (bn_nil h hn)
    have p0:∀ i,pf [] i=0:=fun i=>by unfold pf;simp
    have u:=M.settled_unique N hn st (c:=fun j=>- c j+x j) ⟨fun i hi hi0=>?_,fun A hA hne=>?_⟩
    · intro i hi
      rw [<- (u i hi).2]
      rw [M.fire_fire,M.fire_congr (d':=ld9 m g.n p) (e:=x) (fun _ _=>rfl) (fun j _=>by omega) hi]
      exact z i hi
    · rw [M.fire_fire,M.fire_congr (d':=ld9 m g.n p) (e:=x) (fun _ _=>rfl) (fun j _=>by omega) hi,z i hi]
      exact Int.le_refl 0
    · obtain ⟨i,hi,ha,hl⟩:=zs.sets A hA hne
      refine ⟨i,hi,ha,?_⟩
      rw [M.fire_fire,M.fire_congr (d':=ld9 m g.n p) (e:=x) (fun _ _=>rfl) (fun j _=>by omega) hi,z i hi]
      rw [p0] at hl
      exact hl
section
variable {x0 x1:Option Cl}
noncomputable def l1B:FS:=(Zr (Wt (gOr (XR (Xq (fL YC (Zc (f2 YY (fV 2) (fV 4)) fN)))) (gOr (gB (f2 Xt (f2 YY (fV 2) (fV 4)) (fC (.int 2)))) (WJ (gB (f2 (ZY fun i j=>.bl (decide (j < i))) (fV 4) (fC (.int 0)))) (gB (f2 Vl (f2 Xp (f2 YY (fV 2) (fV 4)) (f2 YY (fV 2) (f2 (ZY fun i j=>.int (i - j)) (fV 4) (fC (.int 1))))) (fC (.int 0))))))) (Z2 (fC (.bl false))) WO)
  (Zt 3 (f2 YF (fV 3) (f2 YY (fV 2) (fV 4)))))
def kI (ks:List Nat):D:=rD (ks.map fun k=>((k:Nat):Int))
theorem kI_at {ks:List Nat} {i k:Nat} (h:ks[i]?=some k):YY (kI ks) (.int (i:Int))=some (.int (k:Int)):=by
  refine rD_at ?_
  rw [List.getElem?_map,h];rfl
theorem l1_step {n:Nat} {L:Nat->Nat->Int} {ks:List Nat} (ok:KF n L ks) {i k:Nat} (h:ks[i]?=some k) (w:Nat) {r:List (Option Cl)} :
    l1B (x0::x1::some (.val (kI ks))::some (.val (.int (w:Int)))::some (.val (.int (i:Int)))::r)=.nx (x0::x1::some (.val (kI ks))::some (.val (.int ((w * k:Nat):Int)))::some (.val (.int (i:Int)))::r):=by
  have km:=ok.pos k (List.mem_of_getElem? h)
  have e:=kI_at h
  have lt:¬ (k:Int) < 2:=by omega
  have ms:YF (.int (w:Int)) (.int (k:Int))=some (.int ((w * k:Nat):Int)):=by
    rw [mulD_r (YG (by omega) (by omega)),Int.natCast_mul]
  unfold l1B
  by_cases hi:i=0
  · subst hi
    have z':¬ (0:Int) < 0:=by omega
    rw [show ((0:Nat):Int)=0 from rfl] at e ⊢
    simp! only [e,g_whole,lt,z',ms]
  · have prev:∃ j,ks[i - 1]?=some j:=by
      have hl:=(List.getElem?_eq_some_iff.mp h).1
      exact ⟨ks[i - 1],List.getElem?_eq_getElem (by omega)⟩
    obtain ⟨j,hj⟩:=prev
    have jm:=ok.pos j (List.mem_of_getElem? hj)
    have md:k % j=0:=by
      obtain ⟨h1,e1⟩:=List.getElem?_eq_some_iff.mp h
      obtain ⟨h2,e2⟩:=List.getElem?_eq_some_iff.mp hj
      have:=List.pairwise_iff_getElem.mp ok.pw (i - 1) i h2 h1 (by omega)
      rw [e1,e2] at this
      exact this
    have e':=kI_at hj
    rw [show (((i - 1:Nat):Nat):Int)=(i:Int) - 1 by omega] at e'
    have z:(0:Int) < (i:Int):=by omega
    have jp:(0:Int) < (j:Int):=by omega
    have mo:(k:Int) % (j:Int)=0:=by rw [<- Int.natCast_emod,md];rfl
    simp! only [e,e',g_whole,lt,z,ms,jp,mo,neOp_same]
theorem l1_loop {n:Nat} {L:Nat->Nat->Int} {ks:List Nat} (ok:KF n L ks) {r:List (Option Cl)}:∀ (todo done:List Nat) (x4:Option Cl),done++todo=ks->∃ x4',YZ (gN 4) l1B ((List.range' done.length todo.length).map fun (i:Nat)=>D.int (i:Int)) (x0::x1::some (.val (kI ks))::some (.val (.int ((done.foldl (fun a k=>a * k) 1:Nat):Int)))::x4::r) =
    .nx (x0::x1::some (.val (kI ks))::some (.val (.int ((ks.foldl (fun a k=>a * k) 1:Nat):Int)))::x4'::r):=by
  intro todo
  induction todo with
  | nil=>intro done x4 e;rw [<- e,List.append_nil];exact ⟨x4,rfl⟩
  | cons k todo ih =>
    intro done x4 e
    obtain ⟨x4',e2⟩:=ih (done++[k]) (some (.val (.int (done.length:Int)))) (by rw [<- e,List.append_assoc];rfl)
    refine ⟨x4',?_⟩
    have hk:ks[done.length]?=some k:=by rw [<- e,List.getElem?_append_right (Nat.le_refl _)];simp
    rw [List.length_cons,List.range'_succ,List.map_cons]
    unfold YZ
    have eg:gN 4 (D.int ((done.length:Nat):Int))=some [(4,D.int ((done.length:Nat):Int))]:=rfl
    rw [eg]
    dsimp only
    have es:∀ a b c,Xr (a::b::some (.val (kI ks))::c::x4::r) [(4,D.int ((done.length:Nat):Int))]=(a::b::some (.val (kI ks))::c::some (.val (.int (done.length:Int)))::r):=fun a b c=>rfl
    rw [es,l1_step ok hk]
    rw [List.length_append,List.length_singleton,List.foldl_append] at e2
    exact e2
theorem l2_loop {m:Nat} {x2 x3 x4:Option Cl} {r:List (Option Cl)}:∀ (ks:List Nat) (w:Nat) (x7:Option Cl),(∀ k∈ks,k < 1000000)->0 < m->m<=12->∃ x7',YZ (gN 7) (Zt 6 (f2 YF (fV 6) (fL Yh (Zc (fV 5) (Zc (fV 7) fN))))) (ks.map fun (k:Nat)=>D.int (k:Int)) (x0::x1::x2::x3::x4::some (.val (.int (m:Int)))::some (.val (.int (w:Int)))::x7::r) =
    .nx (x0::x1::x2::x3::x4::some (.val (.int (m:Int)))::some (.val (.int ((ks.foldl (fun a k=>a * Nat.gcd m k) w:Nat):Int)))::x7'::r):=by
  intro ks
  induction ks with
  | nil=>intro w x7 _ _ _;exact ⟨x7,rfl⟩
  | cons k ks ih =>
    intro w x7 hk m0 m1
    obtain ⟨x7',e⟩:=ih (w * Nat.gcd m k) (some (.val (.int (k:Int)))) (fun j hj=>hk j (List.mem_cons_of_mem _ hj)) m0 m1
    refine ⟨x7',?_⟩
    have gl:Nat.gcd m k<=m:=Nat.le_of_dvd m0 (Nat.gcd_dvd_left _ _)
    have ms:YF (.int (w:Int)) (.int ((Nat.gcd m k:Nat):Int))=some (.int ((w * Nat.gcd m k:Nat):Int)):=by
      rw [mulD_r (YG (by omega) (by omega)),Int.natCast_mul]
    rw [List.map_cons]
    unfold YZ
    have eg:gN 7 (D.int ((k:Nat):Int))=some [(7,D.int ((k:Nat):Int))]:=rfl
    rw [eg]
    simp! only [g_divisor,ms]
    exact e
end
noncomputable def l3B:FS:=(Zr (Zt 11 (f2 ZS (fL Yn (Zc (f2 YF (fV 5) (f2 (ZY fun i j=>.int (i - j)) (f2 YY (fV 10) (fC (.int 0))) (fL Vh (Zc (fV 10) fN)))) fN)) (fL tupD (Zc (Z8 1 [5] (Zq (fSl (fV 10) (pS (fC (.int 1))) pN)) (gN 0) Y3 (f2 YF (fV 1) (fV 0))) fN))))
  (Zt 9 (f2 ZS (fV 9) (fL intD (Zc (f2 WK (f2 YY (fL XC (Zc (fV 1) (Zc (fV 11) (Zc (fC (.int 0)) fN)))) (fC (.int 0))) (fV 8)) fN)))))
def E12 (a:D) (g:Gr) (k w x4 m du x7:Option Cl) (t:Int) (x10 x11:Option Cl):Y1:=[some (.val a),some (.val (gD g)),k,w,x4,m,du,x7,some (.val (tD g.n fun _=>0)),some (.val (.int t)),x10,x11]
open Classical in
noncomputable def Zb (n:Nat) (L:Nat->Nat->Int) (m:Nat) (p:List Int):Bool:=decide (Z9 n L m p)
theorem load_tD {n m:Nat} (hn:0 < n) {p:List Int} (hl:p.length=n):D.tup (.int (- (m * M.S n (pf p)))::(p.drop 1).map fun x=>.int (m * x))=tD n (ld9 m n p):=by
  unfold tD tab
  congr 1
  refine List.ext_getElem (by simp;omega) fun i h1 h2=>?_
  rw [List.getElem_map,List.getElem_map,List.getElem_range]
  cases i with
  | zero=>rfl
  | succ i =>
    rw [List.getElem_cons_succ,List.getElem_map,List.getElem_drop]
    simp at h1
    have hi:1+i < p.length:=by omega
    show D.int (m * p[1+i])=D.int (m * pf p (i+1))
    have:=pf_at (r:=p) (i:=1+i) hi
    rw [List.getElem?_eq_getElem hi] at this
    rw [show i+1=1+i by omega]
    injection this with this
    rw [this]
theorem eq_zero {n:Nat} (f:Nat->Int):WK (tD n f) (tD n fun _=>0)=some (.bl (@decide (∀ i,i < n->f i=0) (Classical.propDecidable _))):=by
  unfold tD
  rw [eqOp_dk (by simp [dk,WW]) (by simp [dk,WW]) (by simp [dep,X9]) (by simp [dep,X9])]
  congr 2
  by_cases h:∀ i,i < n->f i=0
  · rw [WL (g:=fun _=>0) h,@decide_eq_true _ (Classical.propDecidable _) h]
    exact @decide_eq_true _ (Classical.propDecidable _) rfl
  · rw [@decide_eq_false _ (Classical.propDecidable _) h]
    refine @decide_eq_false _ (Classical.propDecidable _) fun e=>h ?_
    simp only [D.tup.injEq] at e
    have e:=(List.map_inj_right (fun a b hab=>by injection hab)).mp e
    exact tab_inj e
theorem l3_step {g:Gr} (h:GOk g) (h4:g.n<=4) {m:Nat} (m0:0 < m) (m1:m<=12) {p:List Int} (hp:p∈rws (mB g.n (ln g.bs) 0) g.n) {a:D} {k w x4 du x7 x11:Option Cl} (t:Int) :
    ∃ x11',l3B (E12 a g k w x4 (some (.val (.int (m:Int)))) du x7 t (some (.val (pT p))) x11)=.nx (E12 a g k w x4 (some (.val (.int (m:Int)))) du x7 (t+if Zb g.n (ln g.bs) m p=true then 1 else 0) (some (.val (pT p))) x11'):=by
  obtain ⟨hl,hr⟩:=(rws_mem g.n p).mp hp
  have gd:=h.gd
  have N:=gd.net
  have hn:0 < g.n:=gd.pos
  have p0:pf p 0=0:=by have:=hr 0 hn;rw [show mB g.n (ln g.bs) 0 0=1 from rfl] at this;omega
  have pb:∀ i,i < g.n->0<=pf p i/\pf p i<=12:=fun i hi=>by have:=hr i hi;have:=mB_le (q:=0) N gd.le4 h4 hi;omega
  have Sb:0<=M.S g.n (pf p)/\M.S g.n (pf p)<=100:=by
    have key:∀ k,k<=g.n->0<=M.S k (pf p)/\M.S k (pf p)<=12 * k:=by
      intro k
      induction k with
      | zero=>intro _;exact ⟨Int.le_refl 0,by simp [M.S]⟩
      | succ k ih =>
        intro hk
        have:=ih (by omega)
        have:=pb k (by omega)
        show 0<=M.S k (pf p)+pf p k/\M.S k (pf p)+pf p k<=_
        omega
    have:=key g.n (Nat.le_refl _)
    omega
  have bnd:Bnd g.n (ld9 m g.n p):=fun i hi=>by
    have b:=pb i hi
    have ms:(0:Int)<=m * M.S g.n (pf p)/\(m:Int) * M.S g.n (pf p)<=12 * 100:=⟨Int.mul_nonneg (by omega) Sb.1,Int.mul_le_mul (by omega) Sb.2 Sb.1 (by omega)⟩
    have mp:(0:Int)<=m * pf p i/\(m:Int) * pf p i<=12 * 12:=⟨Int.mul_nonneg (by omega) b.1,Int.mul_le_mul (by omega) b.2 b.1 (by omega)⟩
    unfold ld9
    split <;> omega
  obtain ⟨c,c0,nd,bl,e⟩:=g_settled h hn (ld9 m g.n p) bnd
  rw [show ((0:Nat):Int)=0 from rfl] at e
  have iff:=told_iff h p0 nd bl
  have ep:=pT_tD hl
  have at0:YY (pT p) (.int 0)=some (.int 0):=by
    have:=tD_at (f:=pf p) hn
    rw [ep];rw [show ((0:Nat):Int)=0 from rfl,p0] at this;exact this
  have sm:Vh [pT p]=some (.int (M.S g.n (pf p))):=by rw [ep,sum_tD]
  have ms:YF (.int (m:Int)) (.int (0 - M.S g.n (pf p)))=some (.int (- (m * M.S g.n (pf p)))):=by
    rw [WQ (YG (by omega) (by omega)),Int.zero_sub,Int.mul_neg]
  have hc:∀ u0 u2 u3 u4 u6 u7 u8 u9 u11,Z8 1 [5] (Zq (fSl (fV 10) (pS (fC (.int 1))) pN)) (gN 0) Y3 (f2 YF (fV 1) (fV 0)) [u0,some (gD g),u2,u3,u4,some (.int (m:Int)),u6,u7,u8,u9,some (pT p),u11]=some (.lst ((p.drop 1).map fun x=>.int (m * x))):=by
    intro u0 u2 u3 u4 u6 u7 u8 u9 u11
    refine Z5 (fun (x:Int)=>D.int x) (fun x=>D.int (m * x)) (p.drop 1) ?_ (by simp;omega) fun x _=>⟨_,rfl,?_⟩
    · unfold pT
      simp! only [slD,W8,cut_drop' _ (show (1:Int)=((1:Nat):Int) from rfl),List.map_drop]
    · simp! only [WQ (YG (i:=(m:Int)) (by omega) (by omega))]
  have ad:ZS (.tup [.int (- (m * M.S g.n (pf p)))]) (.tup ((p.drop 1).map fun x=>.int (m * x)))=some (tD g.n (ld9 m g.n p)):=by
    rw [addD_tt (by simp) (by simp;omega),<- load_tD hn hl];rfl
  have tl:tupD [.lst ((p.drop 1).map fun x=>.int (m * x))]=some (.tup ((p.drop 1).map fun x=>.int (m * x))):=rfl
  refine ⟨some (.val (tD g.n (ld9 m g.n p))),?_⟩
  unfold l3B E12
  rw [ZM]
  have e1:Zt 11 (f2 ZS (fL Yn (Zc (f2 YF (fV 5) (f2 (ZY fun i j=>.int (i - j)) (f2 YY (fV 10) (fC (.int 0))) (fL Vh (Zc (fV 10) fN)))) fN)) (fL tupD (Zc (Z8 1 [5] (Zq (fSl (fV 10) (pS (fC (.int 1))) pN)) (gN 0) Y3 (f2 YF (fV 1) (fV 0))) fN))) [some (.val a),some (.val (gD g)),k,w,x4,some (.val (.int (m:Int))),du,x7,some (.val (tD g.n fun _=>0)),some (.val (.int t)),some (.val (pT p)),x11] =
      .nx [some (.val a),some (.val (gD g)),k,w,x4,some (.val (.int (m:Int))),du,x7,some (.val (tD g.n fun _=>0)),some (.val (.int t)),some (.val (pT p)),some (.val (tD g.n (ld9 m g.n p)))]:=by
    simp! only [at0,sm,ms,hc,tl,lim1',ad]
  rw [e1,Zu]
  have eq0:(@decide (∀ i,i < g.n->M.fire g.n (ln g.bs) (ld9 m g.n p) c i=0) (Classical.propDecidable _))=Zb g.n (ln g.bs) m p:=by
    unfold Zb
    by_cases z:Z9 g.n (ln g.bs) m p
    · rw [@decide_eq_true _ (Classical.propDecidable _) (iff.mpr z),@decide_eq_true _ (Classical.propDecidable _) z]
    · rw [@decide_eq_false _ (Classical.propDecidable _) fun y=>z (iff.mp y),@decide_eq_false _ (Classical.propDecidable _) z]
  have i9':∀ b:Bool,intD [.bl b]=some (.int (if b=true then 1 else 0)):=fun b=>by cases b <;> rfl
  simp! only [e,at2_0,eq_zero,eq0,i9']
theorem l3_loop {g:Gr} (h:GOk g) (h4:g.n<=4) {m:Nat} (m0:0 < m) (m1:m<=12) {a:D} {k w x4 du x7:Option Cl}:∀ (ps:List (List Int)) (t:Int) (x10 x11:Option Cl),(∀ p∈ps,p∈rws (mB g.n (ln g.bs) 0) g.n)->∃ x10' x11',
    YZ (gN 10) l3B (ps.map pT) (E12 a g k w x4 (some (.val (.int (m:Int)))) du x7 t x10 x11)=.nx (E12 a g k w x4 (some (.val (.int (m:Int)))) du x7 (t+((ps.filter (Zb g.n (ln g.bs) m)).length:Int)) x10' x11'):=by
  intro ps
  induction ps with
  | nil=>intro t x10 x11 _;exact ⟨x10,x11,by simp [YZ]⟩
  | cons p ps ih =>
    intro t x10 x11 hp
    obtain ⟨y11,e1⟩:=l3_step h h4 m0 m1 (hp p List.mem_cons_self) (a:=a) (k:=k) (w:=w) (x4:=x4) (du:=du) (x7:=x7) (x11:=x11) t
    obtain ⟨z10,z11,e2⟩:=ih (t+if Zb g.n (ln g.bs) m p=true then 1 else 0) (some (.val (pT p))) y11 (fun q hq=>hp q (List.mem_cons_of_mem _ hq))
    refine ⟨z10,z11,?_⟩
    rw [List.map_cons]
    unfold YZ
    have eg:gN 10 (pT p)=some [(10,pT p)]:=rfl
    rw [eg]
    dsimp only
    have es:Xr (E12 a g k w x4 (some (.val (.int (m:Int)))) du x7 t x10 x11) [(10,pT p)]=E12 a g k w x4 (some (.val (.int (m:Int)))) du x7 t (some (.val (pT p))) x11:=rfl
    rw [es,e1]
    dsimp only
    rw [e2]
    congr 2
    cases hz:Zb g.n (ln g.bs) m p with
    | true=>rw [List.filter_cons_of_pos hz,if_pos rfl,List.length_cons];omega
    | false=>rw [List.filter_cons_of_neg (by rw [hz];decide),if_neg (by decide)];omega
theorem g_law (ns:List Int):G_law [.scr ns]=some (.bl true):=by
  obtain ⟨g,hg,h4,eG⟩:=g_ground ns (a:=0) (t:=4) (by decide) (by decide) (by decide)
  rw [show ((4:Nat):Int)=4 from rfl] at eG
  have n1:=hg.n1
  have hn:0 < g.n:=by omega
  obtain ⟨ks,ok,eK⟩:=g_knots hg h4
  have m0:=mix_lo (ns:=ns) (k:=30) (m:=12) (by decide)
  have m1:=mix_hi (ns:=ns) (k:=30) (m:=12) (by decide)
  have eM:=W3 ns (k:=30) (m:=12) (by decide) (by decide)
  obtain ⟨m,hm⟩:∃ m:Nat,1+mix ns 30 12=(m:Int):=⟨(1+mix ns 30 12).toNat,by omega⟩
  have mp:0 < m:=by omega
  have ml:m<=12:=by omega
  have eP:=g_parkings hg h4 hn
  rw [show ((0:Nat):Int)=0 from rfl,pk_filter hg.gd.net hn (mB g.n (ln g.bs) 0) (bn_nil hg hn) g.n] at eP
  have kl:Yy [kI ks]=some (.int (ks.length:Int)):=by unfold kI rD;rw [Y2,List.length_map,List.length_map]
  have cnt:((((rws (mB g.n (ln g.bs) 0) g.n).filter (Bn g.n (ln g.bs) 0)).filter (Zb g.n (ln g.bs) m)).length:Int)=((ks.foldl (fun a k=>a * Nat.gcd m k) 1:Nat):Int):=by
    rw [tors9 hg.gd mp (fun p _=>?_),c_9 hg.gd.net n1 h4 mp,ok.cn m mp ml]
    unfold Zb
    rw [@decide_eq_true_eq _ (Classical.propDecidable _)]
  obtain ⟨y4,L1⟩:=l1_loop (x0:=some (.val (.scr ns))) (x1:=some (.val (gD g))) ok (r:=[none,none,none,none,none,none,none]) ks [] none rfl
  rw [List.length_nil,<- List.range_eq_range',ok.pr] at L1
  obtain ⟨y7,L2⟩:=l2_loop (x0:=some (.val (.scr ns))) (x1:=some (.val (gD g))) (x2:=some (.val (kI ks))) (x3:=some (.val (.int ((T9 g.n (ln g.bs):Nat):Int)))) (x4:=y4) (m:=m) (r:=[none,none,none,none]) ks 1 none (fun k hk=>(ok.pos k hk).2) mp ml
  obtain ⟨y10,y11,L3⟩:=l3_loop hg h4 mp ml (a:=.scr ns) (k:=some (.val (kI ks))) (w:=some (.val (.int ((T9 g.n (ln g.bs):Nat):Int)))) (x4:=y4) (du:=some (.val (.int ((ks.foldl (fun a k=>a * Nat.gcd m k) 1:Nat):Int)))) (x7:=y7) ((rws (mB g.n (ln g.bs) 0) g.n).filter (Bn g.n (ln g.bs) 0)) 0 none none (fun p hp=>(List.mem_filter.mp hp).1)
  rw [cnt,Int.zero_add] at L3
  have hz:∀ ρ:Wp,Z8 1 [] (fR Xh (Zc (f2 YY (fV 1) (fC (.int 0))) fN)) (gN 0) Y3 (fC (.int 0)) (some (.scr ns)::some (gD g)::ρ)=some (lD g.n fun _=>0):=fun ρ=>by
    rw [Z5 (fun (i:Nat)=>D.int (i:Int)) (fun _=>D.int 0) (List.range g.n) (by simp! only [gD_at0,Xs (show g.n<=65536 by omega)]) (by rw [List.length_range];omega) fun i _=>⟨_,rfl,rfl⟩,lD_eq]
  have hb:G_law=Z3 1 12 (Zr (Zt 1 (fL Yu (Zc (fV 0) (Zc (fC (.int 0)) (Zc (fC (.int 4)) fN)))))
    (Zr (Zt 2 (fL Wg (Zc (fV 1) fN)))
    (Zr (Wt (XR (Xq (f1 (isD "list") (fV 2)))) (Z2 (fC (.bl false))) WO)
    (Zr (Zt 3 (fC (.int 1)))
    (Zr (XE (fR Xh (Zc (fL Yy (Zc (fV 2) fN)) fN)) (gN 4) l1B)
    (Zr (Wt (gB (f2 Vl (fV 3) (fL Yb (Zc (fV 1) fN)))) (Z2 (fC (.bl false))) WO)
    (Zr (Zt 5 (f2 ZS (fC (.int 1)) (fL Zo (Zc (fV 0) (Zc (fC (.int 30)) (Zc (fC (.int 12)) fN))))))
    (Zr (Zt 6 (fC (.int 1)))
    (Zr (XH (Zq (fV 2)) (gN 7) (Zt 6 (f2 YF (fV 6) (fL Yh (Zc (fV 5) (Zc (fV 7) fN))))))
    (Zr (Zt 8 (fL tupD (Zc (Z8 1 [] (fR Xh (Zc (f2 YY (fV 1) (fC (.int 0))) fN)) (gN 0) Y3 (fC (.int 0))) fN)))
    (Zr (Zt 9 (fC (.int 0)))
    (Zr (XH (Zq (fL Y0 (Zc (fV 1) (Zc (fC (.int 0)) fN)))) (gN 10) l3B)
    (Z2 (f2 WK (fV 9) (fV 6))))))))))))))):=rfl
  have f1':∀ F:FS,XE (fR Xh (Zc (fL Yy (Zc (fV 2) fN)) fN)) (gN 4) F [some (.val (.scr ns)),some (.val (gD g)),some (.val (kI ks)),some (.val (.int 1)),none,none,none,none,none,none,none,none]=YZ (gN 4) F ((List.range ks.length).map fun (i:Nat)=>D.int (i:Int)) [some (.val (.scr ns)),some (.val (gD g)),some (.val (kI ks)),some (.val (.int 1)),none,none,none,none,none,none,none,none]:=fun F=>by
    unfold XE
    simp! only [kl,Xs (show ks.length<=65536 by have:=ok.few;omega)]
  have f2':∀ (F:FS) x3 x4 x5 x6,XH (Zq (fV 2)) (gN 7) F [some (.val (.scr ns)),some (.val (gD g)),some (.val (kI ks)),x3,x4,x5,x6,none,none,none,none,none]=YZ (gN 7) F (ks.map fun (k:Nat)=>D.int (k:Int)) [some (.val (.scr ns)),some (.val (gD g)),some (.val (kI ks)),x3,x4,x5,x6,none,none,none,none,none]:=fun F x3 x4 x5 x6=>by
    unfold XH kI rD
    rw [List.map_map];rfl
  have f3':∀ (F:FS) x3 x4 x5 x6 x7,XH (Zq (fL Y0 (Zc (fV 1) (Zc (fC (.int 0)) fN)))) (gN 10) F (E12 (.scr ns) g (some (.val (kI ks))) x3 x4 x5 x6 x7 0 none none)=YZ (gN 10) F (((rws (mB g.n (ln g.bs) 0) g.n).filter (Bn g.n (ln g.bs) 0)).map pT) (E12 (.scr ns) g (some (.val (kI ks))) x3 x4 x5 x6 x7 0 none none):=fun F x3 x4 x5 x6 x7=>by
    unfold XH E12
    simp! only [eP]
    rfl
  have tz:tupD [lD g.n fun _=>0]=some (tD g.n fun _=>0):=rfl
  have one:((([]:List Nat).foldl (fun a k=>a * k) 1:Nat):Int)=1:=rfl
  rw [one] at L1
  have one':((1:Nat):Int)=1:=rfl
  rw [one'] at L2
  have isl:isD "list" (kI ks)=some (.bl true):=isLst_lst _
  have eK':Wg [gD g]=some (kI ks):=eK
  have en:∀ x3 x4 x5 x6 x7,[some (.val (.scr ns)),some (.val (gD g)),some (.val (kI ks)),x3,x4,x5,x6,x7,some (.val (tD g.n fun _=>0)),some (.val (.int 0)),none,none]=E12 (.scr ns) g (some (.val (kI ks))) x3 x4 x5 x6 x7 0 none none:=fun _ _ _ _ _=>rfl
  rw [hb]
  simp! only [eG,eK',isl,f1',L1,g_many hg h4,neOp_same,eM,hm,f2',L2,hz,tz,en,f3',L3]
  unfold E12
  simp! only [eqOp_int]
end P

namespace K12
open PySem L2 P
variable {Pr:Program} {w:World} {K:PySem.W.Frag} {mg:Str->Option Value} {base:Heap} {f:Addr} {fd:FuncData}
def Vr (i:Nat):Stmt:=PySem.Challenge.pw_chipyard_k12_whole_knots.main.body.getD i (.Pass ⟨0,0,0,0⟩)
abbrev s0:Stmt:=Vr 46
theorem t0:ZC ["_law_script","_law_k"] ["_law_script","_law_k"] (Zm s0):=⟨rfl,rfl,rfl,by decide +kernel,rfl,by decide +kernel,by decide +kernel⟩
theorem d0 (Fu:Wr K "_law_cell_at" "_law_cell_at" s0 f fd) (hm:mg "_law_cell_at"=some (.ref f)) (Bt:BT mg) (Bu:BU mg) :
    Yv Pr w K mg base "_law_cell_at" 1 ["_law_script","_law_k"] Yx f fd:=by
  have nd:=t0.nd
  refine ⟨Zx (k:=0) (F:=W0) Fu t0 rfl rfl rfl fun cdv A outer s H E hr=>?_,hm,Fu.kp,Fu.binds (ps:=["_law_script","_law_k"]) fun _ _ _ _ _ _ us hl=>match us,hl with | [_,_],_=>rfl⟩
  exact (Zf (X1 (YX (opd_ltX hr.units0) (Za 1) (ZR Xj Bt.len_ Xc (Zd (Za 0) Ze))) (Zk (ZJ (Yq (Za 0) (Za 1)))) YL)
    (Zf (X1 (YX (opd_eq hr.units) (Za 0) (ev_lst Ze)) (Zk (ZJ Zj)) YL)
    (Zk (ZJ (Zw ZL (Zw Xa (Yq (Za 0) (Zw WF (Za 1) (ZR Xj Bt.len_ Xc (Zd (Za 0) Ze)))) Zj) (Za 1))))))
abbrev s1:Stmt:=Vr 47
theorem t1:ZC ["_law_script","_law_k","_law_many","_law_drawn"] ["_law_script","_law_k","_law_many"] (Zm s1):=⟨rfl,rfl,rfl,by decide +kernel,rfl,by decide +kernel,by decide +kernel⟩
theorem d1 (Fu:Wr K "_law_mixed" "_law_mixed" s1 f fd) (hm:mg "_law_mixed"=some (.ref f)) (Bt:BT mg) (Bu:BU mg)
    {f0:Addr} {e0:FuncData} (o0:Yv Pr w K mg base "_law_cell_at" 1 ["_law_script","_law_k"] Yx f0 e0) :
    Yv Pr w K mg base "_law_mixed" 2 ["_law_script","_law_k","_law_many"] Zo f fd:=by
  have nd:=t1.nd
  refine ⟨Zx (k:=1) (F:=VP Yx) Fu t1 rfl rfl rfl fun cdv A outer s H E hr=>?_,hm,Fu.kp,Fu.binds (ps:=["_law_script","_law_k","_law_many"]) fun _ _ _ _ _ _ us hl=>match us,hl with | [_,_,_],_=>rfl⟩
  exact (Zf (ZU (i:=3) nd (Zw WF (Zw Xa (Zw ZL (Zw ZL (ZA o0 hr (Zd (Za 0) (Zd (Za 1) Ze))) (Zw Xa Zj (Za 1))) Zj) Zj) Zj))
    (Zk (ZJ (Zw WF (Zw WF (Zw ZL (Zw ZL (Zw Xa (Za 3) (Za 3)) (Zw Xa Zj (Za 3))) (Za 1)) Zj) (Za 2)))))
abbrev s2:Stmt:=Vr 48
theorem t2:ZC ["_law_script","_law_at","_law_most","_law_many","_law_joins","_law_yard","_law_k","_law_one","_law_other","_law_pair"] ["_law_script","_law_at","_law_most"] (Zm s2):=⟨rfl,rfl,rfl,by decide +kernel,rfl,by decide +kernel,by decide +kernel⟩
theorem n2_1:(["_law_pair","_law_joins"]:List Str).Nodup:=by decide +kernel
theorem d2 (Fu:Wr K "_law_ground" "_law_ground" s2 f fd) (hm:mg "_law_ground"=some (.ref f)) (Bt:BT mg) (Bu:BU mg)
    {f1:Addr} {e1:FuncData} (o1:Yv Pr w K mg base "_law_mixed" 2 ["_law_script","_law_k","_law_many"] Zo f1 e1) :
    Yv Pr w K mg base "_law_ground" 3 ["_law_script","_law_at","_law_most"] Yu f fd:=by
  have nd:=t2.nd
  refine ⟨Zx (k:=2) (F:=Vc Zo) Fu t2 rfl rfl rfl fun cdv A outer s H E hr=>?_,hm,Fu.kp,Fu.binds (ps:=["_law_script","_law_at","_law_most"]) fun _ _ _ _ _ _ us hl=>match us,hl with | [_,_,_],_=>rfl⟩
  exact (Zf (ZU (i:=3) nd (Zw ZL Zj (ZA o1 hr (Zd (Za 0) (Zd (Za 1) (Zd (Za 2) Ze))))))
    (Zf (sv_ownT (i:=4) nd)
    (Zf (Vt PassesOwn.never rfl (iv_range2 Bt.range_ (Zd Zj (Zd (Za 3) Ze))) (ZT (i:=5) nd) (Zk (sv_dset (i:=4) hr.units (WU (Zd (ZA o1 hr (Zd (Za 0) (Zd (Zw ZL (Za 1) (Za 5)) (Zd (Za 5) Ze)))) (Zd (Za 5) Ze))) (Zw ZL Zj (Zw opd_fdiv (ZA o1 hr (Zd (Za 0) (Zd (Zw ZL (Zw ZL (Za 1) Zj) (Za 5)) (Zd Zj Ze)))) Zj)))))
    (Zf (Vt PassesOwn.never rfl (YN Bt.range_ (Zd (Zw Xa (ZA o1 hr (Zd (Za 0) (Zd (Zw ZL (Za 1) Zj) (Zd Zj Ze)))) (X8 cd_int Bt.int_ bb_int (Zd (ev_cmp opd_gt (Za 3) Zj) Ze))) Ze)) (ZT (i:=6) nd) (Zf (ZU (i:=7) nd (ZA o1 hr (Zd (Za 0) (Zd (Zw ZL (Zw ZL (Za 1) Zj) (Zw Xa Zj (Za 6))) (Zd (Za 3) Ze)))))
    (Zf (ZU (i:=8) nd (Zw WF (Zw ZL (Zw ZL (Za 7) Zj) (ZA o1 hr (Zd (Za 0) (Zd (Zw ZL (Zw ZL (Za 1) Zj) (Zw Xa Zj (Za 6))) (Zd (Zw Xz (Za 3) Zj) Ze))))) (Za 3)))
    (Zf (ZU (i:=9) nd (WU (Zd (ZR (cd_min rfl) Bt.min_ bb_min (Zd (Za 7) (Zd (Za 8) Ze))) (Zd (ZR (cd_max rfl) Bt.max_ bb_max (Zd (Za 7) (Zd (Za 8) Ze))) Ze))))
    (Zk (sv_dset (i:=4) hr.units (Za 9) (Zw ZL (Zw WF (ev_dgt hr.units (Za 4) (Za 9) Zj) Zj) Zj)))))))
    (Zk (ZJ (WU (Zd (Za 3) (Zd (X8 cd_tuple Bt.tuple_ Wn (Zd (Yr ["_law_pair","_law_joins"] 1 [4] (XI (by decide)) rfl (Yz (ZR (cd_sorted rfl hr.units) Bt.sorted_ bb_sorted (Zd (X8 (cd_listT rfl) Bt.list_ bb_list (Zd (Za 4) Ze)) Ze))) (fun _ _ _ _ _=>(ZT (i:=0) n2_1)) (fun _ _ _ _ _=>Yj) (fun _ _ _ _ _=>(Zw ZL (Za 0) (WU (Zd (ev_dix hr.units (Za 1) (Za 0)) Ze))))) Ze)) Ze)))))))))
abbrev s3:Stmt:=Vr 14
theorem t3:ZC ["thing"] ["thing"] (Zm s3):=⟨rfl,rfl,rfl,by decide +kernel,rfl,by decide +kernel,by decide +kernel⟩
theorem d3 (Fu:Wr K "is_number" "is_number" s3 f fd) (hm:mg "is_number"=some (.ref f)) (Bt:BT mg) (Bu:BU mg) :
    Yv Pr w K mg base "is_number" 1 ["thing"] Yi f fd:=by
  have nd:=t3.nd
  refine ⟨Zx (k:=0) (F:=F_is_number) Fu t3 rfl rfl rfl fun cdv A outer s H E hr=>?_,hm,Fu.kp,Fu.binds (ps:=["thing"]) fun _ _ _ _ _ _ us hl=>match us,hl with | [_],_=>rfl⟩
  exact (Zk (ZJ (ev_and (XB kits_int (Za 0) Bt.isinstance Bt.int_ bb_int) (ev_one (ev_not (XB kits_bool (Za 0) Bt.isinstance Bt.bool_ bb_bool))))))
abbrev s4:Stmt:=Vr 15
theorem t4:ZC ["thing","least","most"] ["thing","least","most"] (Zm s4):=⟨rfl,rfl,rfl,by decide +kernel,rfl,by decide +kernel,by decide +kernel⟩
theorem d4 (Fu:Wr K "is_number_within" "is_number_within" s4 f fd) (hm:mg "is_number_within"=some (.ref f)) (Bt:BT mg) (Bu:BU mg)
    {f3:Addr} {e3:FuncData} (o3:Yv Pr w K mg base "is_number" 1 ["thing"] Yi f3 e3) :
    Yv Pr w K mg base "is_number_within" 2 ["thing","least","most"] Zn f fd:=by
  have nd:=t4.nd
  refine ⟨Zx (k:=1) (F:=XT Yi) Fu t4 rfl rfl rfl fun cdv A outer s H E hr=>?_,hm,Fu.kp,Fu.binds (ps:=["thing","least","most"]) fun _ _ _ _ _ _ us hl=>match us,hl with | [_,_,_],_=>rfl⟩
  exact (Zk (ZJ (ev_and (ZA o3 hr (Zd (Za 0) Ze)) (ev_one (ev_chain opd_le opd_le (Za 1) (Za 0) (Za 2))))))
abbrev s5:Stmt:=Vr 18
theorem t5:ZC ["many","thing"] ["many","thing"] (Zm s5):=⟨rfl,rfl,rfl,by decide +kernel,rfl,by decide +kernel,by decide +kernel⟩
theorem d5 (Fu:Wr K "is_bundle" "is_bundle" s5 f fd) (hm:mg "is_bundle"=some (.ref f)) (Bt:BT mg) (Bu:BU mg)
    {f4:Addr} {e4:FuncData} (o4:Yv Pr w K mg base "is_number_within" 2 ["thing","least","most"] Zn f4 e4)
    (c_MOST_LINES:∃ t,mg "MOST_LINES"=some (.int 4 t)) :
    Yv Pr w K mg base "is_bundle" 3 ["many","thing"] YT f fd:=by
  have nd:=t5.nd
  refine ⟨Zx (k:=2) (F:=F_is_bundle Zn) Fu t5 rfl rfl rfl fun cdv A outer s H E hr=>?_,hm,Fu.kp,Fu.binds (ps:=["many","thing"]) fun _ _ _ _ _ _ us hl=>match us,hl with | [_,_],_=>rfl⟩
  exact (Zf (X1 (WV.tv (wv_or (Ws (X3 (XB VC (Za 1) Bt.isinstance Bt.tuple_ Wn))) (wv_or1 (YX (opd_ne hr.units) (ZR Xj Bt.len_ Xc (Zd (Za 1) Ze)) Zj)))) (Zk (ZJ ev_bl)) YL)
    (Zf (X1 (Ws (X3 (ZA o4 hr (Zd (Yq (Za 1) Zj) (Zd Zj (Zd (Zw Xz (Za 0) Zj) Ze)))))) (Zk (ZJ ev_bl)) YL)
    (Zk (ZJ (ev_and (ZA o4 hr (Zd (Yq (Za 1) Zj) (Zd (Zw ZL (Yq (Za 1) Zj) Zj) (Zd (Zw Xz (Za 0) Zj) Ze)))) (ev_one (ZA o4 hr (Zd (Yq (Za 1) Zj) (Zd Zj (Zd (ev_gint c_MOST_LINES) Ze))))))))))
abbrev s6:Stmt:=Vr 20
theorem t6:ZC ["many","bundles","reached","round_number","a","b","number"] ["many","bundles"] (Zm s6):=⟨rfl,rfl,rfl,by decide +kernel,rfl,by decide +kernel,by decide +kernel⟩
theorem d6 (Fu:Wr K "is_joined" "is_joined" s6 f fd) (hm:mg "is_joined"=some (.ref f)) (Bt:BT mg) (Bu:BU mg) :
    Yv Pr w K mg base "is_joined" 1 ["many","bundles"] Y7 f fd:=by
  have nd:=t6.nd
  refine ⟨Zx (k:=0) (F:=F_is_joined) Fu t6 rfl rfl rfl fun cdv A outer s H E hr=>?_,hm,Fu.kp,Fu.binds (ps:=["many","bundles"]) fun _ _ _ _ _ _ us hl=>match us,hl with | [_,_],_=>rfl⟩
  exact (Zf (sv_own1 (i:=2) nd)
    (Zf (Vt PassesOwn.never rfl (YN Bt.range_ (Zd (Za 0) Ze)) (ZT (i:=3) nd) (Zk (W6 PassesOwn.never rfl (Yz (Za 1)) (VD (ix:=[4,5,6]) rfl (Yf (Yg 4 nd) (Yf (Yg 5 nd) (Yf (Yg 6 nd) WD)))) (Zk (X1 (WV.tv (wv_or (YX (opd_in hr.units) (Za 4) (Za 2)) (wv_or1 (YX (opd_in hr.units) (Za 5) (Za 2))))) (Zf (sv_dset (i:=2) hr.units (Za 4) ev_bl)
    (Zk (sv_dset (i:=2) hr.units (Za 5) ev_bl))) YL)))))
    (Zk (ZJ (ev_cmp (opd_eq hr.units) (ZR cd_lenK Bt.len_ Xc (Zd (Za 2) Ze)) (Za 0))))))
abbrev s7:Stmt:=Vr 19
theorem t7:ZC ["bundles"] ["bundles"] (Zm s7):=⟨rfl,rfl,rfl,by decide +kernel,rfl,by decide +kernel,by decide +kernel⟩
theorem n7_1:(["one","other"]:List Str).Nodup:=by decide +kernel
theorem d7 (Fu:Wr K "do_rise" "do_rise" s7 f fd) (hm:mg "do_rise"=some (.ref f)) (Bt:BT mg) (Bu:BU mg) :
    Yv Pr w K mg base "do_rise" 1 ["bundles"] XV f fd:=by
  have nd:=t7.nd
  refine ⟨Zx (k:=0) (F:=F_do_rise) Fu t7 rfl rfl rfl fun cdv A outer s H E hr=>?_,hm,Fu.kp,Fu.binds (ps:=["bundles"]) fun _ _ _ _ _ _ us hl=>match us,hl with | [_],_=>rfl⟩
  exact (Zk (ZJ (ZR (cd_all rfl) Bt.all_ bb_all (Zd (Yr ["one","other"] 2 [] (gT_ok rfl) rfl (iv_zip Bt.zip_ (Za 0) (YQ (Za 0) (Xl Zj) Xm)) (fun _ _ _ _ _=>(VD (ix:=[0,1]) rfl (Yf (Yg 0 n7_1) (Yf (Yg 1 n7_1) WD)))) (fun _ _ _ _ _=>Yj) (fun _ _ _ _ _=>(ev_cmp (opd_ltX hr.units0) (YQ (Za 0) Xm (Xl Zj)) (YQ (Za 1) Xm (Xl Zj))))) Ze))))
abbrev s8:Stmt:=Vr 17
theorem t8:ZC ["thing","many","bundles"] ["thing"] (Zm s8):=⟨rfl,rfl,rfl,by decide +kernel,rfl,by decide +kernel,by decide +kernel⟩
theorem n8_1:(["bundle","many"]:List Str).Nodup:=by decide +kernel
theorem d8 (Fu:Wr K "is_ground" "is_ground" s8 f fd) (hm:mg "is_ground"=some (.ref f)) (Bt:BT mg) (Bu:BU mg)
    {f4:Addr} {e4:FuncData} (o4:Yv Pr w K mg base "is_number_within" 2 ["thing","least","most"] Zn f4 e4)
    {f5:Addr} {e5:FuncData} (o5:Yv Pr w K mg base "is_bundle" 3 ["many","thing"] YT f5 e5)
    {f6:Addr} {e6:FuncData} (o6:Yv Pr w K mg base "is_joined" 1 ["many","bundles"] Y7 f6 e6)
    {f7:Addr} {e7:FuncData} (o7:Yv Pr w K mg base "do_rise" 1 ["bundles"] XV f7 e7)
    (c_MOST_YARDS:∃ t,mg "MOST_YARDS"=some (.int 5 t)) :
    Yv Pr w K mg base "is_ground" 4 ["thing"] Y8 f fd:=by
  have nd:=t8.nd
  refine ⟨Zx (k:=3) (F:=F_is_ground Zn YT Y7 XV) Fu t8 rfl rfl rfl fun cdv A outer s H E hr=>?_,hm,Fu.kp,Fu.binds (ps:=["thing"]) fun _ _ _ _ _ _ us hl=>match us,hl with | [_],_=>rfl⟩
  exact (Zf (X1 (WV.tv (wv_or (Ws (X3 (XB VC (Za 0) Bt.isinstance Bt.tuple_ Wn))) (wv_or1 (YX (opd_ne hr.units) (ZR Xj Bt.len_ Xc (Zd (Za 0) Ze)) Zj)))) (Zk (ZJ ev_bl)) YL)
    (Zf (ZU (i:=1) nd (Yq (Za 0) Zj))
    (Zf (ZU (i:=2) nd (Yq (Za 0) Zj))
    (Zf (X1 (WV.tv (wv_or (Ws (X3 (ZA o4 hr (Zd (Za 1) (Zd Zj (Zd (ev_gint c_MOST_YARDS) Ze)))))) (wv_or1 (Ws (X3 (XB VC (Za 2) Bt.isinstance Bt.tuple_ Wn)))))) (Zk (ZJ ev_bl)) YL)
    (Zf (X1 (Ws (X3 (ZR (cd_all rfl) Bt.all_ bb_all (Zd (Yr ["bundle","many"] 1 [1] (XI (by decide)) rfl (Yz (Za 2)) (fun _ _ _ _ _=>(ZT (i:=0) n8_1)) (fun _ _ _ _ _=>Yj) (fun _ _ _ _ _=>(ZA o5 hr (Zd (Za 1) (Zd (Za 0) Ze))))) Ze)))) (Zk (ZJ ev_bl)) YL)
    (Zk (ZJ (ev_and (ZA o7 hr (Zd (Za 2) Ze)) (ev_one (ZA o6 hr (Zd (Za 1) (Zd (Za 2) Ze))))))))))))
abbrev s9:Stmt:=Vr 8
theorem t9:ZC ["ground"] ["ground"] (Zm s9):=⟨rfl,rfl,rfl,by decide +kernel,rfl,by decide +kernel,by decide +kernel⟩
theorem d9 (Fu:Wr K "checked" "checked" s9 f fd) (hm:mg "checked"=some (.ref f)) (Bt:BT mg) (Bu:BU mg)
    {f8:Addr} {e8:FuncData} (o8:Yv Pr w K mg base "is_ground" 4 ["thing"] Y8 f8 e8) :
    Yv Pr w K mg base "checked" 5 ["ground"] ZX f fd:=by
  have nd:=t9.nd
  refine ⟨Zx (k:=4) (F:=F_checked Y8) Fu t9 rfl rfl rfl fun cdv A outer s H E hr=>?_,hm,Fu.kp,Fu.binds (ps:=["ground"]) fun _ _ _ _ _ _ us hl=>match us,hl with | [_],_=>rfl⟩
  exact (Zf (X1 (Ws (X3 (ZA o8 hr (Zd (Za 0) Ze)))) svs_bad YL)
    (Zk (ZJ (Za 0))))
abbrev s10:Stmt:=Vr 27
theorem t10:ZC ["numbers","divisor","number","rest","before"] ["numbers"] (Zm s10):=⟨rfl,rfl,rfl,by decide +kernel,rfl,by decide +kernel,by decide +kernel⟩
theorem d10 (Fu:Wr K "common_divisor" "common_divisor" s10 f fd) (hm:mg "common_divisor"=some (.ref f)) (Bt:BT mg) (Bu:BU mg) :
    Yv Pr w K mg base "common_divisor" 1 ["numbers"] Yc f fd:=by
  have nd:=t10.nd
  refine ⟨Zx (k:=0) (F:=Vq) Fu t10 rfl rfl rfl fun cdv A outer s H E hr=>?_,hm,Fu.kp,Fu.binds (ps:=["numbers"]) fun _ _ _ _ _ _ us hl=>match us,hl with | [_],_=>rfl⟩
  exact (Zf (ZU (i:=1) nd Zj)
    (Zf (W6 PassesOwn.never rfl (Yz (Za 0)) (ZT (i:=2) nd) (Zf (ZU (i:=3) nd (ZR cd_abs Bu.abs_ bb_abs (Zd (Za 2) Ze)))
    (Zk (sv_loop PassesOwn.never (X3 (Za 3)) (Zf (ZU (i:=4) nd (Za 1))
    (Zf (ZU (i:=1) nd (Za 3))
    (Zk (ZU (i:=3) nd (Zw WF (Za 4) (Za 3))))))))))
    (Zk (ZJ (Za 1)))))
abbrev s11:Stmt:=Vr 26
theorem t11:ZC ["things","many","found","place","thing"] ["things","many"] (Zm s11):=⟨rfl,rfl,rfl,by decide +kernel,rfl,by decide +kernel,by decide +kernel⟩
theorem n11_1:(["others","thing"]:List Str).Nodup:=by decide +kernel
theorem e_choices (Fu:Wr K "choices" "choices" s11 f fd) (hm:mg "choices"=some (.ref f)) (Bt:BT mg) (Bu:BU mg) {kd:Nat} (hk:0<=kd) {ZB:List D->Option D} (o11:Yv Pr w K mg base "choices" kd ["things","many"] ZB f fd) :
    Yv Pr w K mg base "choices" (kd+1) ["things","many"] (Z3 2 5 (F_choices ZB)) f fd:=by
  have nd:=t11.nd
  refine ⟨Zx (k:=kd) (F:=F_choices ZB) Fu t11 rfl rfl rfl fun cdv A outer s H E hr=>?_,hm,Fu.kp,Fu.binds (ps:=["things","many"]) fun _ _ _ _ _ _ us hl=>match us,hl with | [_,_],_=>rfl⟩
  exact (Zf (X1 (YX (opd_eq hr.units) (Za 1) Zj) (Zk (ZJ (ev_lst (Zd (ev_lst Ze) Ze)))) YL)
    (Zf (sv_own (i:=2) nd (evf_lst Ze))
    (Zf (W6 PassesOwn.never rfl (iv_enum Bt.enumerate_ (Za 0)) (VD (ix:=[3,4]) rfl (Yf (Yg 3 nd) (Yf (Yg 4 nd) WD))) (Zk (sv_extV (i:=2) (Yr ["others","thing"] 1 [4] (XI (by decide)) rfl (Yz (ZA o11 hr (Zd (YQ (Za 0) (Xl (Zw ZL (Za 3) Zj)) Xm) (Zd (Zw Xz (Za 1) Zj) Ze)) (Nat.le_refl _))) (fun _ _ _ _ _=>(ZT (i:=0) n11_1)) (fun _ _ _ _ _=>Yj) (fun _ _ _ _ _=>(Zw ZL (ev_lst (Zd (Za 1) Ze)) (Za 0)))) (h1:=ext_pe (i:=2) (Yr ["others","thing"] 1 [4] (XI (by decide)) rfl (Yz (ZA o11 hr (Zd (YQ (Za 0) (Xl (Zw ZL (Za 3) Zj)) Xm) (Zd (Zw Xz (Za 1) Zj) Ze)) (Nat.le_refl _))) (fun _ _ _ _ _=>(ZT (i:=0) n11_1)) (fun _ _ _ _ _=>Yj) (fun _ _ _ _ _=>(Zw ZL (ev_lst (Zd (Za 1) Ze)) (Za 0))))))))
    (Zk (ZJ (Za 2))))))
theorem r_choices (Fu:Wr K "choices" "choices" s11 f fd) (hm:mg "choices"=some (.ref f)) (Bt:BT mg) (Bu:BU mg):∀ k:Nat,Yv Pr w K mg base "choices" (0+k) ["things","many"] (R_choices k) f fd
  | 0=>⟨⟨fun vs H Q E h=>(by obtain ⟨_,_,_,_,_,z,_⟩:=h;cases z),fun A outer s H args us vs Q E _ _ _ _ h=>(by obtain ⟨_,_,_,_,_,z,_⟩:=h;cases z)⟩,hm,Fu.kp,Fu.binds (ps:=["things","many"]) fun _ _ _ _ _ _ us hl=>match us,hl with | [_,_],_=>rfl⟩
  | k+1=>e_choices Fu hm Bt Bu (Nat.le_add_right _ _) (r_choices Fu hm Bt Bu k)
theorem d11 (Fu:Wr K "choices" "choices" s11 f fd) (hm:mg "choices"=some (.ref f)) (Bt:BT mg) (Bu:BU mg):Yv Pr w K mg base "choices" 8 ["things","many"] ZB f fd:=r_choices Fu hm Bt Bu 8
abbrev s12:Stmt:=Vr 28
theorem t12:ZC ["rows","place"] ["rows","place"] (Zm s12):=⟨rfl,rfl,rfl,by decide +kernel,rfl,by decide +kernel,by decide +kernel⟩
theorem n12_1:(["row","place"]:List Str).Nodup:=by decide +kernel
theorem d12 (Fu:Wr K "column_at" "column_at" s12 f fd) (hm:mg "column_at"=some (.ref f)) (Bt:BT mg) (Bu:BU mg) :
    Yv Pr w K mg base "column_at" 1 ["rows","place"] Yo f fd:=by
  have nd:=t12.nd
  refine ⟨Zx (k:=0) (F:=F_column_at) Fu t12 rfl rfl rfl fun cdv A outer s H E hr=>?_,hm,Fu.kp,Fu.binds (ps:=["rows","place"]) fun _ _ _ _ _ _ us hl=>match us,hl with | [_,_],_=>rfl⟩
  exact (Zk (ZJ (Yr ["row","place"] 1 [1] (XI (by decide)) rfl (Yz (Za 0)) (fun _ _ _ _ _=>(ZT (i:=0) n12_1)) (fun _ _ _ _ _=>Yj) (fun _ _ _ _ _=>(Yq (Za 0) (Za 1))))))
abbrev s13:Stmt:=Vr 29
theorem t13:ZC ["rows","place"] ["rows","place"] (Zm s13):=⟨rfl,rfl,rfl,by decide +kernel,rfl,by decide +kernel,by decide +kernel⟩
theorem n13_1:(["row","place"]:List Str).Nodup:=by decide +kernel
theorem d13 (Fu:Wr K "without_column" "without_column" s13 f fd) (hm:mg "without_column"=some (.ref f)) (Bt:BT mg) (Bu:BU mg) :
    Yv Pr w K mg base "without_column" 1 ["rows","place"] ZO f fd:=by
  have nd:=t13.nd
  refine ⟨Zx (k:=0) (F:=Wb) Fu t13 rfl rfl rfl fun cdv A outer s H E hr=>?_,hm,Fu.kp,Fu.binds (ps:=["rows","place"]) fun _ _ _ _ _ _ us hl=>match us,hl with | [_,_],_=>rfl⟩
  exact (Zk (ZJ (Yr ["row","place"] 1 [1] (XI (by decide)) rfl (Yz (Za 0)) (fun _ _ _ _ _=>(ZT (i:=0) n13_1)) (fun _ _ _ _ _=>Yj) (fun _ _ _ _ _=>(Zw ZL (YQ (Za 0) Xm (Xl (Za 1))) (YQ (Za 0) (Xl (Zw ZL (Za 1) Zj)) Xm))))))
abbrev s14:Stmt:=Vr 22
theorem t14:ZC ["rows","total","sign","place","number"] ["rows"] (Zm s14):=⟨rfl,rfl,rfl,by decide +kernel,rfl,by decide +kernel,by decide +kernel⟩
theorem e_determinant (Fu:Wr K "determinant" "determinant" s14 f fd) (hm:mg "determinant"=some (.ref f)) (Bt:BT mg) (Bu:BU mg)
    {f13:Addr} {e13:FuncData} (o13:Yv Pr w K mg base "without_column" 1 ["rows","place"] ZO f13 e13) {kd:Nat} (hk:1<=kd) {Zi:List D->Option D} (o14:Yv Pr w K mg base "determinant" kd ["rows"] Zi f fd) :
    Yv Pr w K mg base "determinant" (kd+1) ["rows"] (Z3 1 5 (XJ Zi ZO)) f fd:=by
  have nd:=t14.nd
  refine ⟨Zx (k:=kd) (F:=XJ Zi ZO) Fu t14 rfl rfl rfl fun cdv A outer s H E hr=>?_,hm,Fu.kp,Fu.binds (ps:=["rows"]) fun _ _ _ _ _ _ us hl=>match us,hl with | [_],_=>rfl⟩
  exact (Zf (X1 (Ws (X3 (Za 0))) (Zk (ZJ Zj)) YL)
    (Zf (ZU (i:=1) nd Zj)
    (Zf (ZU (i:=2) nd Zj)
    (Zf (W6 PassesOwn.never rfl (iv_enum Bt.enumerate_ (Yq (Za 0) Zj)) (VD (ix:=[3,4]) rfl (Yf (Yg 3 nd) (Yf (Yg 4 nd) WD))) (Zf (ZU (i:=1) nd (Zw ZL (Za 1) (Zw Xa (Zw Xa (Za 2) (Za 4)) (ZA o14 hr (Zd (ZA o13 hr (Zd (YQ (Za 0) (Xl Zj) Xm) (Zd (Za 3) Ze)) (Nat.le_trans (by decide) hk)) Ze) (Nat.le_refl _)))))
    (Zk (ZU (i:=2) nd (ev_neg un_neg (Za 2))))))
    (Zk (ZJ (Za 1)))))))
theorem r_determinant (Fu:Wr K "determinant" "determinant" s14 f fd) (hm:mg "determinant"=some (.ref f)) (Bt:BT mg) (Bu:BU mg)
    {f13:Addr} {e13:FuncData} (o13:Yv Pr w K mg base "without_column" 1 ["rows","place"] ZO f13 e13):∀ k:Nat,Yv Pr w K mg base "determinant" (1+k) ["rows"] (Ys k) f fd
  | 0=>⟨⟨fun vs H Q E h=>(by obtain ⟨_,_,_,_,_,z,_⟩:=h;cases z),fun A outer s H args us vs Q E _ _ _ _ h=>(by obtain ⟨_,_,_,_,_,z,_⟩:=h;cases z)⟩,hm,Fu.kp,Fu.binds (ps:=["rows"]) fun _ _ _ _ _ _ us hl=>match us,hl with | [_],_=>rfl⟩
  | k+1=>e_determinant Fu hm Bt Bu o13 (Nat.le_add_right _ _) (r_determinant Fu hm Bt Bu o13 k)
theorem d14 (Fu:Wr K "determinant" "determinant" s14 f fd) (hm:mg "determinant"=some (.ref f)) (Bt:BT mg) (Bu:BU mg)
    {f13:Addr} {e13:FuncData} (o13:Yv Pr w K mg base "without_column" 1 ["rows","place"] ZO f13 e13):Yv Pr w K mg base "determinant" 9 ["rows"] Zi f fd:=r_determinant Fu hm Bt Bu o13 8
abbrev s15:Stmt:=Vr 25
theorem t15:ZC ["rows","size","found","some","columns"] ["rows","size"] (Zm s15):=⟨rfl,rfl,rfl,by decide +kernel,rfl,by decide +kernel,by decide +kernel⟩
theorem n15_1:(["place","some"]:List Str).Nodup:=by decide +kernel
theorem n15_2:(["chosen"]:List Str).Nodup:=by decide +kernel
theorem d15 (Fu:Wr K "smaller_determinants" "smaller_determinants" s15 f fd) (hm:mg "smaller_determinants"=some (.ref f)) (Bt:BT mg) (Bu:BU mg)
    {f11:Addr} {e11:FuncData} (o11:Yv Pr w K mg base "choices" 8 ["things","many"] ZB f11 e11)
    {f12:Addr} {e12:FuncData} (o12:Yv Pr w K mg base "column_at" 1 ["rows","place"] Yo f12 e12)
    {f14:Addr} {e14:FuncData} (o14:Yv Pr w K mg base "determinant" 9 ["rows"] Zi f14 e14) :
    Yv Pr w K mg base "smaller_determinants" 10 ["rows","size"] Zy f fd:=by
  have nd:=t15.nd
  refine ⟨Zx (k:=9) (F:=Xf ZB Yo Zi) Fu t15 rfl rfl rfl fun cdv A outer s H E hr=>?_,hm,Fu.kp,Fu.binds (ps:=["rows","size"]) fun _ _ _ _ _ _ us hl=>match us,hl with | [_,_],_=>rfl⟩
  exact (Zf (sv_own (i:=2) nd (evf_lst Ze))
    (Zf (W6 PassesOwn.never rfl (Yz (ZA o11 hr (Zd (Za 0) (Zd (Za 1) Ze)))) (ZT (i:=3) nd) (Zf (sv_setC (i:=4) ["place","some"] 1 [3] (XI (by decide)) nd rfl (IVA.iv (YN Bt.range_ (Zd (ZR Xj Bt.len_ Xc (Zd (Za 0) Ze)) Ze))) (fun _ _ _ _ _=>(ZT (i:=0) n15_1)) (fun _ _ _ _ _=>Yj) (fun _ _ _ _ _=>(ZA o12 hr (Zd (Za 1) (Zd (Za 0) Ze)))))
    (Zk (sv_ext (i:=2) (Yr ["chosen"] 1 [] (XI (by decide)) rfl (Yz (ZA o11 hr (Zd (Za 4) (Zd (Za 1) Ze)))) (fun _ _ _ _ _=>(ZT (i:=0) n15_2)) (fun _ _ _ _ _=>Yj) (fun _ _ _ _ _=>(ZA o14 hr (Zd (Za 0) Ze)))) (h1:=ext_pe (i:=2) (Yr ["chosen"] 1 [] (XI (by decide)) rfl (Yz (ZA o11 hr (Zd (Za 4) (Zd (Za 1) Ze)))) (fun _ _ _ _ _=>(ZT (i:=0) n15_2)) (fun _ _ _ _ _=>Yj) (fun _ _ _ _ _=>(ZA o14 hr (Zd (Za 0) Ze)))))))))
    (Zk (ZJ (Za 2)))))
abbrev s16:Stmt:=Vr 24
theorem t16:ZC ["rows","divisors"] ["rows"] (Zm s16):=⟨rfl,rfl,rfl,by decide +kernel,rfl,by decide +kernel,by decide +kernel⟩
theorem n16_1:(["size","rows"]:List Str).Nodup:=by decide +kernel
theorem n16_2:(["before","further"]:List Str).Nodup:=by decide +kernel
theorem d16 (Fu:Wr K "invariants" "invariants" s16 f fd) (hm:mg "invariants"=some (.ref f)) (Bt:BT mg) (Bu:BU mg)
    {f10:Addr} {e10:FuncData} (o10:Yv Pr w K mg base "common_divisor" 1 ["numbers"] Yc f10 e10)
    {f15:Addr} {e15:FuncData} (o15:Yv Pr w K mg base "smaller_determinants" 10 ["rows","size"] Zy f15 e15) :
    Yv Pr w K mg base "invariants" 11 ["rows"] Yt f fd:=by
  have nd:=t16.nd
  refine ⟨Zx (k:=10) (F:=VL Yc Zy) Fu t16 rfl rfl rfl fun cdv A outer s H E hr=>?_,hm,Fu.kp,Fu.binds (ps:=["rows"]) fun _ _ _ _ _ _ us hl=>match us,hl with | [_],_=>rfl⟩
  exact (Zf (sv_setC (i:=1) ["size","rows"] 1 [0] (XI (by decide)) nd rfl (IVA.iv (YN Bt.range_ (Zd (Zw ZL (ZR Xj Bt.len_ Xc (Zd (Za 0) Ze)) Zj) Ze))) (fun _ _ _ _ _=>(ZT (i:=0) n16_1)) (fun _ _ _ _ _=>Yj) (fun _ _ _ _ _=>(ZA o10 hr (Zd (ZA o15 hr (Zd (Za 1) (Zd (Za 0) Ze))) Ze))))
    (Zk (ZJ (Yr ["before","further"] 2 [] (gT_ok rfl) rfl (iv_zip Bt.zip_ (Za 1) (YQ (Za 1) (Xl Zj) Xm)) (fun _ _ _ _ _=>(VD (ix:=[0,1]) rfl (Yf (Yg 0 n16_2) (Yf (Yg 1 n16_2) WD)))) (fun _ _ _ _ _=>Yj) (fun _ _ _ _ _=>(Zw opd_fdiv (Za 1) (Za 0)))))))
abbrev s17:Stmt:=Vr 39
theorem t17:ZC ["table","bank"] ["table","bank"] (Zm s17):=⟨rfl,rfl,rfl,by decide +kernel,rfl,by decide +kernel,by decide +kernel⟩
theorem n17_1:(["yard","bank"]:List Str).Nodup:=by decide +kernel
theorem d17 (Fu:Wr K "yards_without" "yards_without" s17 f fd) (hm:mg "yards_without"=some (.ref f)) (Bt:BT mg) (Bu:BU mg) :
    Yv Pr w K mg base "yards_without" 1 ["table","bank"] Zl f fd:=by
  have nd:=t17.nd
  refine ⟨Zx (k:=0) (F:=Wz) Fu t17 rfl rfl rfl fun cdv A outer s H E hr=>?_,hm,Fu.kp,Fu.binds (ps:=["table","bank"]) fun _ _ _ _ _ _ us hl=>match us,hl with | [_,_],_=>rfl⟩
  exact (Zk (ZJ (Yr ["yard","bank"] 1 [1] (XI (by decide)) rfl (IVA.iv (YN Bt.range_ (Zd (ZR Xj Bt.len_ Xc (Zd (Za 0) Ze)) Ze))) (fun _ _ _ _ _=>(ZT (i:=0) n17_1)) (fun _ _ _ _ _=>(tvs_one (YX (opd_ne hr.units) (Za 0) (Za 1)))) (fun _ _ _ _ _=>(Za 0)))))
abbrev s18:Stmt:=Vr 36
theorem t18:ZC ["table","bank","yard","lines"] ["table","bank","yard"] (Zm s18):=⟨rfl,rfl,rfl,by decide +kernel,rfl,by decide +kernel,by decide +kernel⟩
theorem n18_1:(["other","yard","lines"]:List Str).Nodup:=by decide +kernel
theorem d18 (Fu:Wr K "inner_row" "inner_row" s18 f fd) (hm:mg "inner_row"=some (.ref f)) (Bt:BT mg) (Bu:BU mg)
    {f17:Addr} {e17:FuncData} (o17:Yv Pr w K mg base "yards_without" 1 ["table","bank"] Zl f17 e17) :
    Yv Pr w K mg base "inner_row" 2 ["table","bank","yard"] Y9 f fd:=by
  have nd:=t18.nd
  refine ⟨Zx (k:=1) (F:=F_inner_row Zl) Fu t18 rfl rfl rfl fun cdv A outer s H E hr=>?_,hm,Fu.kp,Fu.binds (ps:=["table","bank","yard"]) fun _ _ _ _ _ _ us hl=>match us,hl with | [_,_,_],_=>rfl⟩
  exact (Zf (ZU (i:=3) nd (Yq (Za 0) (Za 2)))
    (Zk (ZJ (Yr ["other","yard","lines"] 1 [2,3] (XI (by decide)) rfl (Yz (ZA o17 hr (Zd (Za 0) (Zd (Za 1) Ze)))) (fun _ _ _ _ _=>(ZT (i:=0) n18_1)) (fun _ _ _ _ _=>Yj) (fun _ _ _ _ _=>(ev_if (YX (opd_eq hr.units) (Za 0) (Za 1)) (ZR (cd_sum rfl) Bt.sum_ bb_sum (Zd (Za 2) Ze)) (ev_neg un_neg (Yq (Za 2) (Za 0)))))))))
abbrev s19:Stmt:=Vr 35
theorem t19:ZC ["table","bank"] ["table","bank"] (Zm s19):=⟨rfl,rfl,rfl,by decide +kernel,rfl,by decide +kernel,by decide +kernel⟩
theorem n19_1:(["yard","table","bank"]:List Str).Nodup:=by decide +kernel
theorem d19 (Fu:Wr K "inner_rows" "inner_rows" s19 f fd) (hm:mg "inner_rows"=some (.ref f)) (Bt:BT mg) (Bu:BU mg)
    {f17:Addr} {e17:FuncData} (o17:Yv Pr w K mg base "yards_without" 1 ["table","bank"] Zl f17 e17)
    {f18:Addr} {e18:FuncData} (o18:Yv Pr w K mg base "inner_row" 2 ["table","bank","yard"] Y9 f18 e18) :
    Yv Pr w K mg base "inner_rows" 3 ["table","bank"] ZN f fd:=by
  have nd:=t19.nd
  refine ⟨Zx (k:=2) (F:=VM Zl Y9) Fu t19 rfl rfl rfl fun cdv A outer s H E hr=>?_,hm,Fu.kp,Fu.binds (ps:=["table","bank"]) fun _ _ _ _ _ _ us hl=>match us,hl with | [_,_],_=>rfl⟩
  exact (Zk (ZJ (Yr ["yard","table","bank"] 1 [0,1] (XI (by decide)) rfl (Yz (ZA o17 hr (Zd (Za 0) (Zd (Za 1) Ze)))) (fun _ _ _ _ _=>(ZT (i:=0) n19_1)) (fun _ _ _ _ _=>Yj) (fun _ _ _ _ _=>(ZA o18 hr (Zd (Za 1) (Zd (Za 2) (Zd (Za 0) Ze))))))))
abbrev s20:Stmt:=Vr 13
theorem t20:ZC ["ground","table","a","b","number"] ["ground"] (Zm s20):=⟨rfl,rfl,rfl,by decide +kernel,rfl,by decide +kernel,by decide +kernel⟩
theorem n20_1:(["yard","ground"]:List Str).Nodup:=by decide +kernel
theorem d20 (Fu:Wr K "line_table" "line_table" s20 f fd) (hm:mg "line_table"=some (.ref f)) (Bt:BT mg) (Bu:BU mg) :
    Yv Pr w K mg base "line_table" 1 ["ground"] Zp f fd:=by
  have nd:=t20.nd
  refine ⟨Zx (k:=0) (F:=VJ) Fu t20 rfl rfl rfl fun cdv A outer s H E hr=>?_,hm,Fu.kp,Fu.binds (ps:=["ground"]) fun _ _ _ _ _ _ us hl=>match us,hl with | [_],_=>rfl⟩
  exact (svs_table (ps_setC (i:=1) ["yard","ground"] 1 [0] nd rfl (by first | exact Or.inl rfl | exact Or.inr rfl) rfl (IVA.iv (YN Bt.range_ (Zd (Yq (Za 0) Zj) Ze))) (fun _ _ _ _ _=>(ZT (i:=0) n20_1)) (fun _ _ _ _ _=>Yj) (fun _ _ _ _ _=>(evf_rep (evf_lst (Zd Zj Ze)) (Yq (Za 1) Zj)))) (ps_for PassesOwn.never rfl (Yz (Yq (Za 0) Zj)) (VD (ix:=[2,3,4]) rfl (Yf (Yg 2 nd) (Yf (Yg 3 nd) (Yf (Yg 4 nd) WD)))) (pss_cons (ps_asg (Za 4) (pg_sub (pe_ix ix_list (pe_var (i:=1) rfl (by first | exact Or.inl rfl | exact Or.inr (Or.inl rfl) | exact Or.inr (Or.inr rfl))) (Za 2) (fun _ _=>rfl)) (Za 3) set_list (by intro _;rfl))) (pss_one (ps_asg (Za 4) (pg_sub (pe_ix ix_list (pe_var (i:=1) rfl (by first | exact Or.inl rfl | exact Or.inr (Or.inl rfl) | exact Or.inr (Or.inr rfl))) (Za 3) (fun _ _=>rfl)) (Za 2) set_list (by intro _;rfl)))))) (ps_ret (pe_var (i:=1) rfl (by first | exact Or.inl rfl | exact Or.inr (Or.inl rfl) | exact Or.inr (Or.inr rfl)))) (fun _ _=>rfl) (by decide) ⟨Nat.le_of_ble_eq_true rfl,Nat.le_of_ble_eq_true rfl,Nat.le_of_ble_eq_true rfl,Nat.le_of_ble_eq_true rfl⟩)
abbrev s21:Stmt:=Vr 43
theorem t21:ZC ["ground"] ["ground"] (Zm s21):=⟨rfl,rfl,rfl,by decide +kernel,rfl,by decide +kernel,by decide +kernel⟩
theorem n21_1:(["number"]:List Str).Nodup:=by decide +kernel
theorem d21 (Fu:Wr K "knots" "knots" s21 f fd) (hm:mg "knots"=some (.ref f)) (Bt:BT mg) (Bu:BU mg)
    {f9:Addr} {e9:FuncData} (o9:Yv Pr w K mg base "checked" 5 ["ground"] ZX f9 e9)
    {f16:Addr} {e16:FuncData} (o16:Yv Pr w K mg base "invariants" 11 ["rows"] Yt f16 e16)
    {f19:Addr} {e19:FuncData} (o19:Yv Pr w K mg base "inner_rows" 3 ["table","bank"] ZN f19 e19)
    {f20:Addr} {e20:FuncData} (o20:Yv Pr w K mg base "line_table" 1 ["ground"] Zp f20 e20) :
    Yv Pr w K mg base "knots" 12 ["ground"] Wg f fd:=by
  have nd:=t21.nd
  refine ⟨Zx (k:=11) (F:=F_knots ZX Yt ZN Zp) Fu t21 rfl rfl rfl fun cdv A outer s H E hr=>?_,hm,Fu.kp,Fu.binds (ps:=["ground"]) fun _ _ _ _ _ _ us hl=>match us,hl with | [_],_=>rfl⟩
  exact (Zf (Vu (ZA o9 hr (Zd (Za 0) Ze)))
    (Zk (ZJ (Yr ["number"] 1 [] (XI (by decide)) rfl (Yz (ZA o16 hr (Zd (ZA o19 hr (Zd (ZA o20 hr (Zd (Za 0) Ze)) (Zd Zj Ze))) Ze))) (fun _ _ _ _ _=>(ZT (i:=0) n21_1)) (fun _ _ _ _ _=>(tvs_one (YX (opd_ne hr.units) (Za 0) Zj))) (fun _ _ _ _ _=>(Za 0))))))
abbrev s22:Stmt:=Vr 49
theorem t22:ZC ["_law_found"] ["_law_found"] (Zm s22):=⟨rfl,rfl,rfl,by decide +kernel,rfl,by decide +kernel,by decide +kernel⟩
theorem d22 (Fu:Wr K "_law_whole" "_law_whole" s22 f fd) (hm:mg "_law_whole"=some (.ref f)) (Bt:BT mg) (Bu:BU mg) :
    Yv Pr w K mg base "_law_whole" 1 ["_law_found"] YC f fd:=by
  have nd:=t22.nd
  refine ⟨Zx (k:=0) (F:=VO) Fu t22 rfl rfl rfl fun cdv A outer s H E hr=>?_,hm,Fu.kp,Fu.binds (ps:=["_law_found"]) fun _ _ _ _ _ _ us hl=>match us,hl with | [_],_=>rfl⟩
  exact (Zk (ZJ (ev_and (XB kits_int (Za 0) Bt.isinstance Bt.int_ bb_int) (ev_one (ev_not (XB kits_bool (Za 0) Bt.isinstance Bt.bool_ bb_bool))))))
abbrev s23:Stmt:=Vr 42
theorem t23:ZC ["ground"] ["ground"] (Zm s23):=⟨rfl,rfl,rfl,by decide +kernel,rfl,by decide +kernel,by decide +kernel⟩
theorem d23 (Fu:Wr K "how_many_trees" "how_many_trees" s23 f fd) (hm:mg "how_many_trees"=some (.ref f)) (Bt:BT mg) (Bu:BU mg)
    {f9:Addr} {e9:FuncData} (o9:Yv Pr w K mg base "checked" 5 ["ground"] ZX f9 e9)
    {f14:Addr} {e14:FuncData} (o14:Yv Pr w K mg base "determinant" 9 ["rows"] Zi f14 e14)
    {f19:Addr} {e19:FuncData} (o19:Yv Pr w K mg base "inner_rows" 3 ["table","bank"] ZN f19 e19)
    {f20:Addr} {e20:FuncData} (o20:Yv Pr w K mg base "line_table" 1 ["ground"] Zp f20 e20) :
    Yv Pr w K mg base "how_many_trees" 10 ["ground"] Yb f fd:=by
  have nd:=t23.nd
  refine ⟨Zx (k:=9) (F:=Wc ZX Zi ZN Zp) Fu t23 rfl rfl rfl fun cdv A outer s H E hr=>?_,hm,Fu.kp,Fu.binds (ps:=["ground"]) fun _ _ _ _ _ _ us hl=>match us,hl with | [_],_=>rfl⟩
  exact (Zf (Vu (ZA o9 hr (Zd (Za 0) Ze)))
    (Zk (ZJ (ZA o14 hr (Zd (ZA o19 hr (Zd (ZA o20 hr (Zd (Za 0) Ze)) (Zd Zj Ze))) Ze)))))
abbrev s24:Stmt:=Vr 50
theorem t24:ZC ["_law_a","_law_b","_law_left"] ["_law_a","_law_b"] (Zm s24):=⟨rfl,rfl,rfl,by decide +kernel,rfl,by decide +kernel,by decide +kernel⟩
theorem d24 (Fu:Wr K "_law_divisor" "_law_divisor" s24 f fd) (hm:mg "_law_divisor"=some (.ref f)) (Bt:BT mg) (Bu:BU mg) :
    Yv Pr w K mg base "_law_divisor" 1 ["_law_a","_law_b"] Yh f fd:=by
  have nd:=t24.nd
  refine ⟨Zx (k:=0) (F:=WZ) Fu t24 rfl rfl rfl fun cdv A outer s H E hr=>?_,hm,Fu.kp,Fu.binds (ps:=["_law_a","_law_b"]) fun _ _ _ _ _ _ us hl=>match us,hl with | [_,_],_=>rfl⟩
  exact (Zf (sv_loop PassesOwn.never (YX (opd_ne hr.units) (Za 1) Zj) (Zf (ZU (i:=2) nd (Zw WF (Za 0) (Za 1)))
    (Zf (ZU (i:=0) nd (Za 1))
    (Zk (ZU (i:=1) nd (Za 2))))))
    (Zk (ZJ (Za 0))))
abbrev s25:Stmt:=Vr 11
theorem t25:ZC ["ground","yard"] ["ground","yard"] (Zm s25):=⟨rfl,rfl,rfl,by decide +kernel,rfl,by decide +kernel,by decide +kernel⟩
theorem d25 (Fu:Wr K "checked_yard" "checked_yard" s25 f fd) (hm:mg "checked_yard"=some (.ref f)) (Bt:BT mg) (Bu:BU mg)
    {f9:Addr} {e9:FuncData} (o9:Yv Pr w K mg base "checked" 5 ["ground"] ZX f9 e9)
    {f4:Addr} {e4:FuncData} (o4:Yv Pr w K mg base "is_number_within" 2 ["thing","least","most"] Zn f4 e4) :
    Yv Pr w K mg base "checked_yard" 6 ["ground","yard"] ZW f fd:=by
  have nd:=t25.nd
  refine ⟨Zx (k:=5) (F:=WX ZX Zn) Fu t25 rfl rfl rfl fun cdv A outer s H E hr=>?_,hm,Fu.kp,Fu.binds (ps:=["ground","yard"]) fun _ _ _ _ _ _ us hl=>match us,hl with | [_,_],_=>rfl⟩
  exact (Zf (Vu (ZA o9 hr (Zd (Za 0) Ze)))
    (Zf (X1 (Ws (X3 (ZA o4 hr (Zd (Za 1) (Zd Zj (Zd (Zw Xz (Yq (Za 0) Zj) Zj) Ze)))))) svs_bad YL)
    (Zk (ZJ (Za 1)))))
abbrev s26:Stmt:=Vr 38
theorem t26:ZC ["table","yard","others"] ["table","yard","others"] (Zm s26):=⟨rfl,rfl,rfl,by decide +kernel,rfl,by decide +kernel,by decide +kernel⟩
theorem n26_1:(["other","table","yard"]:List Str).Nodup:=by decide +kernel
theorem d26 (Fu:Wr K "lines_to" "lines_to" s26 f fd) (hm:mg "lines_to"=some (.ref f)) (Bt:BT mg) (Bu:BU mg) :
    Yv Pr w K mg base "lines_to" 1 ["table","yard","others"] Yp f fd:=by
  have nd:=t26.nd
  refine ⟨Zx (k:=0) (F:=F_lines_to) Fu t26 rfl rfl rfl fun cdv A outer s H E hr=>?_,hm,Fu.kp,Fu.binds (ps:=["table","yard","others"]) fun _ _ _ _ _ _ us hl=>match us,hl with | [_,_,_],_=>rfl⟩
  exact (Zk (ZJ (ZR (cd_sum rfl) Bt.sum_ bb_sum (Zd (Yr ["other","table","yard"] 1 [0,1] (XI (by decide)) rfl (Yz (Za 2)) (fun _ _ _ _ _=>(ZT (i:=0) n26_1)) (fun _ _ _ _ _=>Yj) (fun _ _ _ _ _=>(Yq (Yq (Za 1) (Za 2)) (Za 0)))) Ze))))
abbrev s27:Stmt:=Vr 37
theorem t27:ZC ["table","load","bank","burnt","round_number","yard"] ["table","load","bank"] (Zm s27):=⟨rfl,rfl,rfl,by decide +kernel,rfl,by decide +kernel,by decide +kernel⟩
theorem d27 (Fu:Wr K "burnt_yards" "burnt_yards" s27 f fd) (hm:mg "burnt_yards"=some (.ref f)) (Bt:BT mg) (Bu:BU mg)
    {f17:Addr} {e17:FuncData} (o17:Yv Pr w K mg base "yards_without" 1 ["table","bank"] Zl f17 e17)
    {f26:Addr} {e26:FuncData} (o26:Yv Pr w K mg base "lines_to" 1 ["table","yard","others"] Yp f26 e26) :
    Yv Pr w K mg base "burnt_yards" 2 ["table","load","bank"] ZF f fd:=by
  have nd:=t27.nd
  refine ⟨Zx (k:=1) (F:=Vb Zl Yp) Fu t27 rfl rfl rfl fun cdv A outer s H E hr=>?_,hm,Fu.kp,Fu.binds (ps:=["table","load","bank"]) fun _ _ _ _ _ _ us hl=>match us,hl with | [_,_,_],_=>rfl⟩
  exact (Zf (sv_own (i:=3) nd (evf_lst (Zd (Za 2) Ze)))
    (Zf (Vt PassesOwn.never rfl (YN Bt.range_ (Zd (ZR Xj Bt.len_ Xc (Zd (Za 0) Ze)) Ze)) (ZT (i:=4) nd) (Zk (W6 PassesOwn.never rfl (Yz (ZA o17 hr (Zd (Za 0) (Zd (Za 2) Ze)))) (ZT (i:=5) nd) (Zk (X1 (WV.tv (wv_and (YX opd_notinS (Za 5) (Za 3)) (wv_and1 (YX (opd_ltX hr.units0) (Yq (Za 1) (Za 5)) (ZA o26 hr (Zd (Za 0) (Zd (Za 5) (Zd (Za 3) Ze)))))))) (Zk (sv_app (i:=3) (Za 5) (h1:=app_pe (i:=3) (Za 5)))) YL)))))
    (Zk (ZJ (Za 3)))))
abbrev s28:Stmt:=Vr 44
theorem t28:ZC ["table","bank","begun","found","start","yard","chips","load"] ["table","bank","begun"] (Zm s28):=⟨rfl,rfl,rfl,by decide +kernel,rfl,by decide +kernel,by decide +kernel⟩
theorem d28 (Fu:Wr K "lengthened" "lengthened" s28 f fd) (hm:mg "lengthened"=some (.ref f)) (Bt:BT mg) (Bu:BU mg)
    {f27:Addr} {e27:FuncData} (o27:Yv Pr w K mg base "burnt_yards" 2 ["table","load","bank"] ZF f27 e27) :
    Yv Pr w K mg base "lengthened" 3 ["table","bank","begun"] YB f fd:=by
  have nd:=t28.nd
  refine ⟨Zx (k:=2) (F:=F_lengthened ZF) Fu t28 rfl rfl rfl fun cdv A outer s H E hr=>?_,hm,Fu.kp,Fu.binds (ps:=["table","bank","begun"]) fun _ _ _ _ _ _ us hl=>match us,hl with | [_,_,_],_=>rfl⟩
  exact (Zf (sv_own (i:=3) nd (evf_lst Ze))
    (Zf (W6 PassesOwn.never rfl (Yz (Za 2)) (ZT (i:=4) nd) (Zf (ZU (i:=5) nd (ZR Xj Bt.len_ Xc (Zd (Za 4) Ze)))
    (Zk (Vt PassesOwn.never rfl (YN Bt.range_ (Zd (ev_if (YX (opd_eq hr.units) (Za 5) (Za 1)) Zj (ZR (cd_sum rfl) Bt.sum_ bb_sum (Zd (Yq (Za 0) (Za 5)) Ze))) Ze)) (ZT (i:=6) nd) (Zf (ZU (i:=7) nd (Zw ZL (Zw opd_addT (Za 4) (WU (Zd (Za 6) Ze))) (Zw opd_mulT (WU (Zd Zj Ze)) (Zw Xz (Zw Xz (ZR Xj Bt.len_ Xc (Zd (Za 0) Ze)) (Za 5)) Zj))))
    (Zf (X1 (YX (opd_ltX hr.units0) (ZR Xj Bt.len_ Xc (Zd (ZA o27 hr (Zd (Za 0) (Zd (Za 7) (Zd (Za 1) Ze)))) Ze)) (ZR Xj Bt.len_ Xc (Zd (Za 0) Ze))) (Zk sv_break) YL)
    (Zk (sv_app (i:=3) (Zw opd_addT (Za 4) (WU (Zd (Za 6) Ze))) (h1:=app_pe (i:=3) (Zw opd_addT (Za 4) (WU (Zd (Za 6) Ze))))))))))))
    (Zk (ZJ (Za 3)))))
abbrev s29:Stmt:=Vr 41
theorem t29:ZC ["ground","bank","table","begun","yard"] ["ground","bank"] (Zm s29):=⟨rfl,rfl,rfl,by decide +kernel,rfl,by decide +kernel,by decide +kernel⟩
theorem d29 (Fu:Wr K "parkings" "parkings" s29 f fd) (hm:mg "parkings"=some (.ref f)) (Bt:BT mg) (Bu:BU mg)
    {f25:Addr} {e25:FuncData} (o25:Yv Pr w K mg base "checked_yard" 6 ["ground","yard"] ZW f25 e25)
    {f20:Addr} {e20:FuncData} (o20:Yv Pr w K mg base "line_table" 1 ["ground"] Zp f20 e20)
    {f28:Addr} {e28:FuncData} (o28:Yv Pr w K mg base "lengthened" 3 ["table","bank","begun"] YB f28 e28) :
    Yv Pr w K mg base "parkings" 7 ["ground","bank"] Y0 f fd:=by
  have nd:=t29.nd
  refine ⟨Zx (k:=6) (F:=F_parkings ZW Zp YB) Fu t29 rfl rfl rfl fun cdv A outer s H E hr=>?_,hm,Fu.kp,Fu.binds (ps:=["ground","bank"]) fun _ _ _ _ _ _ us hl=>match us,hl with | [_,_],_=>rfl⟩
  exact (Zf (Vu (ZA o25 hr (Zd (Za 0) (Zd (Za 1) Ze))))
    (Zf (ZU (i:=2) nd (ZA o20 hr (Zd (Za 0) Ze)))
    (Zf (ZU (i:=3) nd (ev_lst (Zd (WU Ze) Ze)))
    (Zf (Vt PassesOwn.never rfl (YN Bt.range_ (Zd (ZR Xj Bt.len_ Xc (Zd (Za 2) Ze)) Ze)) (ZT (i:=4) nd) (Zk (ZU (i:=3) nd (ZA o28 hr (Zd (Za 2) (Zd (Za 1) (Zd (Za 3) Ze)))))))
    (Zk (ZJ (Za 3)))))))
abbrev s30:Stmt:=Vr 16
theorem t30:ZC ["ground","things"] ["ground","things"] (Zm s30):=⟨rfl,rfl,rfl,by decide +kernel,rfl,by decide +kernel,by decide +kernel⟩
theorem n30_1:(["thing"]:List Str).Nodup:=by decide +kernel
theorem d30 (Fu:Wr K "has_number_for_each_yard" "has_number_for_each_yard" s30 f fd) (hm:mg "has_number_for_each_yard"=some (.ref f)) (Bt:BT mg) (Bu:BU mg)
    {f3:Addr} {e3:FuncData} (o3:Yv Pr w K mg base "is_number" 1 ["thing"] Yi f3 e3) :
    Yv Pr w K mg base "has_number_for_each_yard" 2 ["ground","things"] Zz f fd:=by
  have nd:=t30.nd
  refine ⟨Zx (k:=1) (F:=YK Yi) Fu t30 rfl rfl rfl fun cdv A outer s H E hr=>?_,hm,Fu.kp,Fu.binds (ps:=["ground","things"]) fun _ _ _ _ _ _ us hl=>match us,hl with | [_,_],_=>rfl⟩
  exact (Zk (ZJ (ev_and (ev_cmp (opd_eq hr.units) (ZR Xj Bt.len_ Xc (Zd (Za 1) Ze)) (Yq (Za 0) Zj)) (ev_one (ZR (cd_all rfl) Bt.all_ bb_all (Zd (Yr ["thing"] 1 [] (XI (by decide)) rfl (Yz (Za 1)) (fun _ _ _ _ _=>(ZT (i:=0) n30_1)) (fun _ _ _ _ _=>Yj) (fun _ _ _ _ _=>(ZA o3 hr (Zd (Za 0) Ze)))) Ze))))))
abbrev s31:Stmt:=Vr 9
theorem t31:ZC ["ground","thing"] ["ground","thing"] (Zm s31):=⟨rfl,rfl,rfl,by decide +kernel,rfl,by decide +kernel,by decide +kernel⟩
theorem d31 (Fu:Wr K "is_load" "is_load" s31 f fd) (hm:mg "is_load"=some (.ref f)) (Bt:BT mg) (Bu:BU mg)
    {f9:Addr} {e9:FuncData} (o9:Yv Pr w K mg base "checked" 5 ["ground"] ZX f9 e9)
    {f30:Addr} {e30:FuncData} (o30:Yv Pr w K mg base "has_number_for_each_yard" 2 ["ground","things"] Zz f30 e30) :
    Yv Pr w K mg base "is_load" 6 ["ground","thing"] XU f fd:=by
  have nd:=t31.nd
  refine ⟨Zx (k:=5) (F:=F_is_load ZX Zz) Fu t31 rfl rfl rfl fun cdv A outer s H E hr=>?_,hm,Fu.kp,Fu.binds (ps:=["ground","thing"]) fun _ _ _ _ _ _ us hl=>match us,hl with | [_,_],_=>rfl⟩
  exact (Zf (Vu (ZA o9 hr (Zd (Za 0) Ze)))
    (Zk (ZJ (ev_and (XB VC (Za 1) Bt.isinstance Bt.tuple_ Wn) (ev_one (ZA o30 hr (Zd (Za 0) (Zd (Za 1) Ze))))))))
abbrev s32:Stmt:=Vr 10
theorem t32:ZC ["ground","load"] ["ground","load"] (Zm s32):=⟨rfl,rfl,rfl,by decide +kernel,rfl,by decide +kernel,by decide +kernel⟩
theorem d32 (Fu:Wr K "checked_load" "checked_load" s32 f fd) (hm:mg "checked_load"=some (.ref f)) (Bt:BT mg) (Bu:BU mg)
    {f31:Addr} {e31:FuncData} (o31:Yv Pr w K mg base "is_load" 6 ["ground","thing"] XU f31 e31) :
    Yv Pr w K mg base "checked_load" 7 ["ground","load"] Yw f fd:=by
  have nd:=t32.nd
  refine ⟨Zx (k:=6) (F:=WY XU) Fu t32 rfl rfl rfl fun cdv A outer s H E hr=>?_,hm,Fu.kp,Fu.binds (ps:=["ground","load"]) fun _ _ _ _ _ _ us hl=>match us,hl with | [_,_],_=>rfl⟩
  exact (Zf (X1 (Ws (X3 (ZA o31 hr (Zd (Za 0) (Zd (Za 1) Ze))))) svs_bad YL)
    (Zk (ZJ (Za 1))))
abbrev s33:Stmt:=Vr 12
theorem t33:ZC ["ground","load","counts","chips","a","b","number","sent"] ["ground","load","counts"] (Zm s33):=⟨rfl,rfl,rfl,by decide +kernel,rfl,by decide +kernel,by decide +kernel⟩
theorem d33 (Fu:Wr K "moved" "moved" s33 f fd) (hm:mg "moved"=some (.ref f)) (Bt:BT mg) (Bu:BU mg) :
    Yv Pr w K mg base "moved" 1 ["ground","load","counts"] XD f fd:=by
  have nd:=t33.nd
  refine ⟨Zx (k:=0) (F:=F_moved) Fu t33 rfl rfl rfl fun cdv A outer s H E hr=>?_,hm,Fu.kp,Fu.binds (ps:=["ground","load","counts"]) fun _ _ _ _ _ _ us hl=>match us,hl with | [_,_,_],_=>rfl⟩
  exact (Zf (sv_own (i:=3) nd (evf_list (Za 1) Bt.list_ bb_list))
    (Zf (W6 PassesOwn.never rfl (Yz (Yq (Za 0) Zj)) (VD (ix:=[4,5,6]) rfl (Yf (Yg 4 nd) (Yf (Yg 5 nd) (Yf (Yg 6 nd) WD)))) (Zf (ZU (i:=7) nd (Zw Xa (Za 6) (Zw Xz (Yq (Za 2) (Za 4)) (Yq (Za 2) (Za 5)))))
    (Zf (sv_store (i:=3) (Za 4) (Zw Xz (Yq (Za 3) (Za 4)) (Za 7)))
    (Zk (sv_store (i:=3) (Za 5) (Zw ZL (Yq (Za 3) (Za 5)) (Za 7)))))))
    (Zk (ZJ (X8 cd_tuple Bt.tuple_ Wn (Zd (Za 3) Ze))))))
abbrev s34:Stmt:=Vr 34
theorem t34:ZC ["ground","load","counts","bank","table","burnt"] ["ground","load","counts","bank"] (Zm s34):=⟨rfl,rfl,rfl,by decide +kernel,rfl,by decide +kernel,by decide +kernel⟩
theorem n34_1:(["yard","count","burnt"]:List Str).Nodup:=by decide +kernel
theorem d34 (Fu:Wr K "burnt_down" "burnt_down" s34 f fd) (hm:mg "burnt_down"=some (.ref f)) (Bt:BT mg) (Bu:BU mg)
    {f20:Addr} {e20:FuncData} (o20:Yv Pr w K mg base "line_table" 1 ["ground"] Zp f20 e20)
    {f27:Addr} {e27:FuncData} (o27:Yv Pr w K mg base "burnt_yards" 2 ["table","load","bank"] ZF f27 e27)
    {f33:Addr} {e33:FuncData} (o33:Yv Pr w K mg base "moved" 1 ["ground","load","counts"] XD f33 e33) :
    Yv Pr w K mg base "burnt_down" 3 ["ground","load","counts","bank"] YU f fd:=by
  have nd:=t34.nd
  refine ⟨Zx (k:=2) (F:=VN Zp ZF XD) Fu t34 rfl rfl rfl fun cdv A outer s H E hr=>?_,hm,Fu.kp,Fu.binds (ps:=["ground","load","counts","bank"]) fun _ _ _ _ _ _ us hl=>match us,hl with | [_,_,_,_],_=>rfl⟩
  exact (Zf (ZU (i:=4) nd (ZA o20 hr (Zd (Za 0) Ze)))
    (Zf (ZU (i:=5) nd (ZA o27 hr (Zd (Za 4) (Zd (ZA o33 hr (Zd (Za 0) (Zd (Za 1) (Zd (Za 2) Ze)))) (Zd (Za 3) Ze)))))
    (Zf (sv_loop PassesOwn.never (YX (opd_ltX hr.units0) (ZR Xj Bt.len_ Xc (Zd (Za 5) Ze)) (ZR Xj Bt.len_ Xc (Zd (Za 4) Ze))) (Zf (sv_setC (i:=2) ["yard","count","burnt"] 2 [5] (gT_ok rfl) nd rfl (iv_enum Bt.enumerate_ (Za 2)) (fun _ _ _ _ _=>(VD (ix:=[0,1]) rfl (Yf (Yg 0 n34_1) (Yf (Yg 1 n34_1) WD)))) (fun _ _ _ _ _=>Yj) (fun _ _ _ _ _=>(ev_if (YX (opd_in hr.units) (Za 0) (Za 2)) (Za 1) (Zw ZL (Za 1) Zj))))
    (Zk (ZU (i:=5) nd (ZA o27 hr (Zd (Za 4) (Zd (ZA o33 hr (Zd (Za 0) (Zd (Za 1) (Zd (Za 2) Ze)))) (Zd (Za 3) Ze))))))))
    (Zk (ZJ (WU (Zd (ZA o33 hr (Zd (Za 0) (Zd (Za 1) (Zd (Za 2) Ze)))) (Zd (Za 2) Ze))))))))
abbrev s35:Stmt:=Vr 30
theorem t35:ZC ["rows","place","column"] ["rows","place","column"] (Zm s35):=⟨rfl,rfl,rfl,by decide +kernel,rfl,by decide +kernel,by decide +kernel⟩
theorem n35_1:(["row","number","place"]:List Str).Nodup:=by decide +kernel
theorem d35 (Fu:Wr K "with_column" "with_column" s35 f fd) (hm:mg "with_column"=some (.ref f)) (Bt:BT mg) (Bu:BU mg) :
    Yv Pr w K mg base "with_column" 1 ["rows","place","column"] YE f fd:=by
  have nd:=t35.nd
  refine ⟨Zx (k:=0) (F:=Va) Fu t35 rfl rfl rfl fun cdv A outer s H E hr=>?_,hm,Fu.kp,Fu.binds (ps:=["rows","place","column"]) fun _ _ _ _ _ _ us hl=>match us,hl with | [_,_,_],_=>rfl⟩
  exact (Zk (ZJ (Yr ["row","number","place"] 2 [1] (gT_ok rfl) rfl (iv_zip Bt.zip_ (Za 0) (Za 2)) (fun _ _ _ _ _=>(VD (ix:=[0,1]) rfl (Yf (Yg 0 n35_1) (Yf (Yg 1 n35_1) WD)))) (fun _ _ _ _ _=>Yj) (fun _ _ _ _ _=>(Zw ZL (Zw ZL (YQ (Za 0) Xm (Xl (Za 2))) (ev_lst (Zd (Za 1) Ze))) (YQ (Za 0) (Xl (Zw ZL (Za 2) Zj)) Xm))))))
abbrev s36:Stmt:=Vr 23
theorem t36:ZC ["rows","column"] ["rows","column"] (Zm s36):=⟨rfl,rfl,rfl,by decide +kernel,rfl,by decide +kernel,by decide +kernel⟩
theorem n36_1:(["place","rows","column"]:List Str).Nodup:=by decide +kernel
theorem d36 (Fu:Wr K "numerators" "numerators" s36 f fd) (hm:mg "numerators"=some (.ref f)) (Bt:BT mg) (Bu:BU mg)
    {f14:Addr} {e14:FuncData} (o14:Yv Pr w K mg base "determinant" 9 ["rows"] Zi f14 e14)
    {f35:Addr} {e35:FuncData} (o35:Yv Pr w K mg base "with_column" 1 ["rows","place","column"] YE f35 e35) :
    Yv Pr w K mg base "numerators" 10 ["rows","column"] YS f fd:=by
  have nd:=t36.nd
  refine ⟨Zx (k:=9) (F:=VI Zi YE) Fu t36 rfl rfl rfl fun cdv A outer s H E hr=>?_,hm,Fu.kp,Fu.binds (ps:=["rows","column"]) fun _ _ _ _ _ _ us hl=>match us,hl with | [_,_],_=>rfl⟩
  exact (Zk (ZJ (Yr ["place","rows","column"] 1 [0,1] (XI (by decide)) rfl (IVA.iv (YN Bt.range_ (Zd (ZR Xj Bt.len_ Xc (Zd (Za 0) Ze)) Ze))) (fun _ _ _ _ _=>(ZT (i:=0) n36_1)) (fun _ _ _ _ _=>Yj) (fun _ _ _ _ _=>(ZA o14 hr (Zd (ZA o35 hr (Zd (Za 1) (Zd (Za 0) (Zd (Za 2) Ze)))) Ze))))))
abbrev s37:Stmt:=Vr 33
theorem t37:ZC ["table","load","bank","rows","whole","parts","counts"] ["table","load","bank"] (Zm s37):=⟨rfl,rfl,rfl,by decide +kernel,rfl,by decide +kernel,by decide +kernel⟩
theorem n37_1:(["yard","load","table"]:List Str).Nodup:=by decide +kernel
theorem n37_2:(["part","whole"]:List Str).Nodup:=by decide +kernel
theorem d37 (Fu:Wr K "counts_out_of_debt" "counts_out_of_debt" s37 f fd) (hm:mg "counts_out_of_debt"=some (.ref f)) (Bt:BT mg) (Bu:BU mg)
    {f19:Addr} {e19:FuncData} (o19:Yv Pr w K mg base "inner_rows" 3 ["table","bank"] ZN f19 e19)
    {f14:Addr} {e14:FuncData} (o14:Yv Pr w K mg base "determinant" 9 ["rows"] Zi f14 e14)
    {f36:Addr} {e36:FuncData} (o36:Yv Pr w K mg base "numerators" 10 ["rows","column"] YS f36 e36)
    {f17:Addr} {e17:FuncData} (o17:Yv Pr w K mg base "yards_without" 1 ["table","bank"] Zl f17 e17) :
    Yv Pr w K mg base "counts_out_of_debt" 11 ["table","load","bank"] ZZ f fd:=by
  have nd:=t37.nd
  refine ⟨Zx (k:=10) (F:=Xx ZN Zi YS Zl) Fu t37 rfl rfl rfl fun cdv A outer s H E hr=>?_,hm,Fu.kp,Fu.binds (ps:=["table","load","bank"]) fun _ _ _ _ _ _ us hl=>match us,hl with | [_,_,_],_=>rfl⟩
  exact (Zf (ZU (i:=3) nd (ZA o19 hr (Zd (Za 0) (Zd (Za 2) Ze))))
    (Zf (ZU (i:=4) nd (ZA o14 hr (Zd (Za 3) Ze)))
    (Zf (ZU (i:=5) nd (ZA o36 hr (Zd (Za 3) (Zd (Yr ["yard","load","table"] 1 [1,0] (XI (by decide)) rfl (Yz (ZA o17 hr (Zd (Za 0) (Zd (Za 2) Ze)))) (fun _ _ _ _ _=>(ZT (i:=0) n37_1)) (fun _ _ _ _ _=>Yj) (fun _ _ _ _ _=>(Zw Xz (Yq (Za 1) (Za 0)) (ZR (cd_sum rfl) Bt.sum_ bb_sum (Zd (Yq (Za 2) (Za 0)) Ze))))) Ze))))
    (Zf (sv_setC (i:=6) ["part","whole"] 1 [4] (XI (by decide)) nd rfl (Yz (Za 5)) (fun _ _ _ _ _=>(ZT (i:=0) n37_2)) (fun _ _ _ _ _=>Yj) (fun _ _ _ _ _=>(Zw opd_fdiv (Za 0) (Za 1))))
    (Zk (ZJ (Zw ZL (Zw ZL (YQ (Za 6) Xm (Xl (Za 2))) (ev_lst (Zd Zj Ze))) (YQ (Za 6) (Xl (Za 2)) Xm))))))))
abbrev s38:Stmt:=Vr 32
theorem t38:ZC ["ground","load","bank"] ["ground","load","bank"] (Zm s38):=⟨rfl,rfl,rfl,by decide +kernel,rfl,by decide +kernel,by decide +kernel⟩
theorem d38 (Fu:Wr K "settled" "settled" s38 f fd) (hm:mg "settled"=some (.ref f)) (Bt:BT mg) (Bu:BU mg)
    {f32:Addr} {e32:FuncData} (o32:Yv Pr w K mg base "checked_load" 7 ["ground","load"] Yw f32 e32)
    {f25:Addr} {e25:FuncData} (o25:Yv Pr w K mg base "checked_yard" 6 ["ground","yard"] ZW f25 e25)
    {f34:Addr} {e34:FuncData} (o34:Yv Pr w K mg base "burnt_down" 3 ["ground","load","counts","bank"] YU f34 e34)
    {f37:Addr} {e37:FuncData} (o37:Yv Pr w K mg base "counts_out_of_debt" 11 ["table","load","bank"] ZZ f37 e37)
    {f20:Addr} {e20:FuncData} (o20:Yv Pr w K mg base "line_table" 1 ["ground"] Zp f20 e20) :
    Yv Pr w K mg base "settled" 12 ["ground","load","bank"] XC f fd:=by
  have nd:=t38.nd
  refine ⟨Zx (k:=11) (F:=F_settled Yw ZW YU ZZ Zp) Fu t38 rfl rfl rfl fun cdv A outer s H E hr=>?_,hm,Fu.kp,Fu.binds (ps:=["ground","load","bank"]) fun _ _ _ _ _ _ us hl=>match us,hl with | [_,_,_],_=>rfl⟩
  exact (Zf (Vu (ZA o32 hr (Zd (Za 0) (Zd (Za 1) Ze))))
    (Zf (Vu (ZA o25 hr (Zd (Za 0) (Zd (Za 2) Ze))))
    (Zk (ZJ (ZA o34 hr (Zd (Za 0) (Zd (Za 1) (Zd (ZA o37 hr (Zd (ZA o20 hr (Zd (Za 0) Ze)) (Zd (Za 1) (Zd (Za 2) Ze)))) (Zd (Za 2) Ze)))))))))
abbrev s39:Stmt:=Vr 51
theorem t39:ZC ["_law_script","_law_ground_here","_law_found","_law_whole_here","_law_k","_law_many","_law_due","_law_knot","_law_noughts","_law_told","_law_parking","_law_load"] ["_law_script"] (Zm s39):=⟨rfl,rfl,rfl,by decide +kernel,rfl,by decide +kernel,by decide +kernel⟩
theorem n39_1:(["_law_yard"]:List Str).Nodup:=by decide +kernel
theorem n39_2:(["_law_number","_law_many"]:List Str).Nodup:=by decide +kernel
theorem d39 (Fu:Wr K "law" "law" s39 f fd) (hm:mg "law"=some (.ref f)) (Bt:BT mg) (Bu:BU mg)
    {f2:Addr} {e2:FuncData} (o2:Yv Pr w K mg base "_law_ground" 3 ["_law_script","_law_at","_law_most"] Yu f2 e2)
    {f21:Addr} {e21:FuncData} (o21:Yv Pr w K mg base "knots" 12 ["ground"] Wg f21 e21)
    {f22:Addr} {e22:FuncData} (o22:Yv Pr w K mg base "_law_whole" 1 ["_law_found"] YC f22 e22)
    {f23:Addr} {e23:FuncData} (o23:Yv Pr w K mg base "how_many_trees" 10 ["ground"] Yb f23 e23)
    {f1:Addr} {e1:FuncData} (o1:Yv Pr w K mg base "_law_mixed" 2 ["_law_script","_law_k","_law_many"] Zo f1 e1)
    {f24:Addr} {e24:FuncData} (o24:Yv Pr w K mg base "_law_divisor" 1 ["_law_a","_law_b"] Yh f24 e24)
    {f29:Addr} {e29:FuncData} (o29:Yv Pr w K mg base "parkings" 7 ["ground","bank"] Y0 f29 e29)
    {f38:Addr} {e38:FuncData} (o38:Yv Pr w K mg base "settled" 12 ["ground","load","bank"] XC f38 e38) :
    Yv Pr w K mg base "law" 13 ["_law_script"] G_law f fd:=by
  have nd:=t39.nd
  refine ⟨Zx (k:=12) (F:=F_law Yu Wg YC Yb Zo Yh Y0 XC) Fu t39 rfl rfl rfl fun cdv A outer s H E hr=>?_,hm,Fu.kp,Fu.binds (ps:=["_law_script"]) fun _ _ _ _ _ _ us hl=>match us,hl with | [_],_=>rfl⟩
  exact (Zf (ZU (i:=1) nd (ZA o2 hr (Zd (Za 0) (Zd Zj (Zd Zj Ze)))))
    (Zf (ZU (i:=2) nd (ZA o21 hr (Zd (Za 1) Ze)))
    (Zf (X1 (Ws (X3 (XB kits_list (Za 2) Bt.isinstance Bt.list_ bb_list))) (Zk (ZJ ev_bl)) YL)
    (Zf (ZU (i:=3) nd Zj)
    (Zf (Vt PassesOwn.never rfl (YN Bt.range_ (Zd (ZR Xj Bt.len_ Xc (Zd (Za 2) Ze)) Ze)) (ZT (i:=4) nd) (Zf (X1 (WV.tv (wv_or (Ws (X3 (ZA o22 hr (Zd (Yq (Za 2) (Za 4)) Ze)))) (wv_or (YX (opd_ltX hr.units0) (Yq (Za 2) (Za 4)) Zj) (wv_or1 (WV.tv (wv_and (YX opd_gt (Za 4) Zj) (wv_and1 (YX (opd_ne hr.units) (Zw WF (Yq (Za 2) (Za 4)) (Yq (Za 2) (Zw Xz (Za 4) Zj))) Zj)))))))) (Zk (ZJ ev_bl)) YL)
    (Zk (ZU (i:=3) nd (Zw Xa (Za 3) (Yq (Za 2) (Za 4)))))))
    (Zf (X1 (YX (opd_ne hr.units) (Za 3) (ZA o23 hr (Zd (Za 1) Ze))) (Zk (ZJ ev_bl)) YL)
    (Zf (ZU (i:=5) nd (Zw ZL Zj (ZA o1 hr (Zd (Za 0) (Zd Zj (Zd Zj Ze))))))
    (Zf (ZU (i:=6) nd Zj)
    (Zf (W6 PassesOwn.never rfl (Yz (Za 2)) (ZT (i:=7) nd) (Zk (ZU (i:=6) nd (Zw Xa (Za 6) (ZA o24 hr (Zd (Za 5) (Zd (Za 7) Ze)))))))
    (Zf (ZU (i:=8) nd (X8 cd_tuple Bt.tuple_ Wn (Zd (Yr ["_law_yard"] 1 [] (XI (by decide)) rfl (IVA.iv (YN Bt.range_ (Zd (Yq (Za 1) Zj) Ze))) (fun _ _ _ _ _=>(ZT (i:=0) n39_1)) (fun _ _ _ _ _=>Yj) (fun _ _ _ _ _=>Zj)) Ze)))
    (Zf (ZU (i:=9) nd Zj)
    (Zf (W6 PassesOwn.never rfl (Yz (ZA o29 hr (Zd (Za 1) (Zd Zj Ze)))) (ZT (i:=10) nd) (Zf (ZU (i:=11) nd (Zw ZL (WU (Zd (Zw Xa (Za 5) (Zw Xz (Yq (Za 10) Zj) (ZR (cd_sum rfl) Bt.sum_ bb_sum (Zd (Za 10) Ze)))) Ze)) (X8 cd_tuple Bt.tuple_ Wn (Zd (Yr ["_law_number","_law_many"] 1 [5] (XI (by decide)) rfl (Yz (YQ (Za 10) (Xl Zj) Xm)) (fun _ _ _ _ _=>(ZT (i:=0) n39_2)) (fun _ _ _ _ _=>Yj) (fun _ _ _ _ _=>(Zw Xa (Za 1) (Za 0)))) Ze))))
    (Zk (ZU (i:=9) nd (Zw ZL (Za 9) (X8 cd_int Bt.int_ bb_int (Zd (ev_cmp (opd_eq hr.units) (Yq (ZA o38 hr (Zd (Za 1) (Zd (Za 11) (Zd Zj Ze)))) Zj) (Za 8)) Ze)))))))
    (Zk (ZJ (ev_cmp (opd_eq hr.units) (Za 9) (Za 6))))))))))))))))
def spLaw (K:PySem.W.Frag):Sp:=fun vs H Q _=>∃ (a:Addr) (ns:List Int),vs=[.ref a]/\Wa K H a (ns.map V.int)/\ns.length<=63/\∀ H',Q (.bl true) H'
theorem all_mk {L:PySem.W.OpenLaw} {w:World} {K:PySem.W.Frag} {h:Heap} {mg:Str->Option Value} {fa f:Addr} (X:K.In h) (G:h.Ns mainGlobals mg) (hfa:mg "law"=some (.ref fa)) {od an:Option Addr} {sl:Array (Option Value)} {oc kV dc pm cd ct:Value} {t_MOST_LINES:Tok} {t_MOST_YARDS:Tok}
    (h0:FH K "_law_cell_at" s0)
    (h1:FH K "_law_mixed" s1)
    (h2:FH K "_law_ground" s2)
    (h3:FH K "is_number" s3)
    (h4:FH K "is_number_within" s4)
    (h5:FH K "is_bundle" s5)
    (h6:FH K "is_joined" s6)
    (h7:FH K "do_rise" s7)
    (h8:FH K "is_ground" s8)
    (h9:FH K "checked" s9)
    (h10:FH K "common_divisor" s10)
    (h11:FH K "choices" s11)
    (h12:FH K "column_at" s12)
    (h13:FH K "without_column" s13)
    (h14:FH K "determinant" s14)
    (h15:FH K "smaller_determinants" s15)
    (h16:FH K "invariants" s16)
    (h17:FH K "yards_without" s17)
    (h18:FH K "inner_row" s18)
    (h19:FH K "inner_rows" s19)
    (h20:FH K "line_table" s20)
    (h21:FH K "knots" s21)
    (h22:FH K "_law_whole" s22)
    (h23:FH K "how_many_trees" s23)
    (h24:FH K "_law_divisor" s24)
    (h25:FH K "checked_yard" s25)
    (h26:FH K "lines_to" s26)
    (h27:FH K "burnt_yards" s27)
    (h28:FH K "lengthened" s28)
    (h29:FH K "parkings" s29)
    (h30:FH K "has_number_for_each_yard" s30)
    (h31:FH K "is_load" s31)
    (h32:FH K "checked_load" s32)
    (h33:FH K "moved" s33)
    (h34:FH K "burnt_down" s34)
    (h35:FH K "with_column" s35)
    (h36:FH K "numerators" s36)
    (h37:FH K "counts_out_of_debt" s37)
    (h38:FH K "settled" s38)
    (a:PySem.W.nsIn K mainGlobals "law"=some (some (.ref f))) (l:K.lookup f=some ⟨oc,od,.func (PySem.W.fnOf "law" "law" (VG s39) (Wf s39) (Zm s39) .none kV dc pm an cd ct),sl⟩) (c:PySem.W.codeIn K cd "law"=true) (k:PySem.W.keepIn K (.ref f)=true)
    (z_len:PySem.W.nsIn K mainGlobals "len"=some none)
    (z_range:PySem.W.nsIn K mainGlobals "range"=some none)
    (z_sum:PySem.W.nsIn K mainGlobals "sum"=some none)
    (z_all:PySem.W.nsIn K mainGlobals "all"=some none)
    (z_any:PySem.W.nsIn K mainGlobals "any"=some none)
    (z_min:PySem.W.nsIn K mainGlobals "min"=some none)
    (z_max:PySem.W.nsIn K mainGlobals "max"=some none)
    (z_sorted:PySem.W.nsIn K mainGlobals "sorted"=some none)
    (z_zip:PySem.W.nsIn K mainGlobals "zip"=some none)
    (z_enumerate:PySem.W.nsIn K mainGlobals "enumerate"=some none)
    (z_isinstance:PySem.W.nsIn K mainGlobals "isinstance"=some none)
    (z_tuple:PySem.W.nsIn K mainGlobals "tuple"=some none)
    (z_list:PySem.W.nsIn K mainGlobals "list"=some none)
    (z_int:PySem.W.nsIn K mainGlobals "int"=some none)
    (z_bool:PySem.W.nsIn K mainGlobals "bool"=some none)
    (z_set:PySem.W.nsIn K mainGlobals "set"=some none)
    (z_str:PySem.W.nsIn K mainGlobals "str"=some none)
    (z_abs:PySem.W.nsIn K mainGlobals "abs"=some none)
    (y_MOST_LINES:PySem.W.nsIn K mainGlobals "MOST_LINES"=some (some (.int 4 t_MOST_LINES)))
    (y_MOST_YARDS:PySem.W.nsIn K mainGlobals "MOST_YARDS"=some (some (.int 5 t_MOST_YARDS)))
    : ∃ fd:FuncData,(∀ (s:Shared) (v:Value),BindsTo s fd ⟨[v],[]⟩ [("_law_script",v)])/\∀ base:Heap,K.In base->base.Ns mainGlobals mg->VH L.prog w K mg base CX0 13 fa fd ["_law_script"] (spLaw K):=by
  have e:=hfa.symm.trans (PySem.W.mg_of X G a)
  cases e
  have Bt:BT mg:=⟨PySem.W.mg_none_of X G z_len,PySem.W.mg_none_of X G z_range,PySem.W.mg_none_of X G z_sum,PySem.W.mg_none_of X G z_all,PySem.W.mg_none_of X G z_any,PySem.W.mg_none_of X G z_min,PySem.W.mg_none_of X G z_max,PySem.W.mg_none_of X G z_sorted,PySem.W.mg_none_of X G z_zip,PySem.W.mg_none_of X G z_enumerate,PySem.W.mg_none_of X G z_isinstance,PySem.W.mg_none_of X G z_tuple,PySem.W.mg_none_of X G z_list,PySem.W.mg_none_of X G z_int,PySem.W.mg_none_of X G z_bool,PySem.W.mg_none_of X G z_set⟩
  have Bu:BU mg:=⟨PySem.W.mg_none_of X G z_str,PySem.W.mg_none_of X G z_abs⟩
  refine ⟨PySem.W.fnOf "law" "law" (VG s39) (Wf s39) (Zm s39) .none kV dc pm an cd ct,fun s v=>.of_eq rfl,fun base _ _=>?_⟩
  obtain ⟨_,_,a0,u0⟩:=h0
  have o0:=d0 (Pr:=L.prog) (w:=w) (base:=base) u0 (PySem.W.mg_of X G a0) Bt Bu
  obtain ⟨_,_,a1,u1⟩:=h1
  have o1:=d1 (Pr:=L.prog) (w:=w) (base:=base) u1 (PySem.W.mg_of X G a1) Bt Bu o0
  obtain ⟨_,_,a2,u2⟩:=h2
  have o2:=d2 (Pr:=L.prog) (w:=w) (base:=base) u2 (PySem.W.mg_of X G a2) Bt Bu o1
  obtain ⟨_,_,a3,u3⟩:=h3
  have o3:=d3 (Pr:=L.prog) (w:=w) (base:=base) u3 (PySem.W.mg_of X G a3) Bt Bu
  obtain ⟨_,_,a4,u4⟩:=h4
  have o4:=d4 (Pr:=L.prog) (w:=w) (base:=base) u4 (PySem.W.mg_of X G a4) Bt Bu o3
  obtain ⟨_,_,a5,u5⟩:=h5
  have o5:=d5 (Pr:=L.prog) (w:=w) (base:=base) u5 (PySem.W.mg_of X G a5) Bt Bu o4 ⟨_,PySem.W.mg_of X G y_MOST_LINES⟩
  obtain ⟨_,_,a6,u6⟩:=h6
  have o6:=d6 (Pr:=L.prog) (w:=w) (base:=base) u6 (PySem.W.mg_of X G a6) Bt Bu
  obtain ⟨_,_,a7,u7⟩:=h7
  have o7:=d7 (Pr:=L.prog) (w:=w) (base:=base) u7 (PySem.W.mg_of X G a7) Bt Bu
  obtain ⟨_,_,a8,u8⟩:=h8
  have o8:=d8 (Pr:=L.prog) (w:=w) (base:=base) u8 (PySem.W.mg_of X G a8) Bt Bu o4 o5 o6 o7 ⟨_,PySem.W.mg_of X G y_MOST_YARDS⟩
  obtain ⟨_,_,a9,u9⟩:=h9
  have o9:=d9 (Pr:=L.prog) (w:=w) (base:=base) u9 (PySem.W.mg_of X G a9) Bt Bu o8
  obtain ⟨_,_,a10,u10⟩:=h10
  have o10:=d10 (Pr:=L.prog) (w:=w) (base:=base) u10 (PySem.W.mg_of X G a10) Bt Bu
  obtain ⟨_,_,a11,u11⟩:=h11
  have o11:=d11 (Pr:=L.prog) (w:=w) (base:=base) u11 (PySem.W.mg_of X G a11) Bt Bu
  obtain ⟨_,_,a12,u12⟩:=h12
  have o12:=d12 (Pr:=L.prog) (w:=w) (base:=base) u12 (PySem.W.mg_of X G a12) Bt Bu
  obtain ⟨_,_,a13,u13⟩:=h13
  have o13:=d13 (Pr:=L.prog) (w:=w) (base:=base) u13 (PySem.W.mg_of X G a13) Bt Bu
  obtain ⟨_,_,a14,u14⟩:=h14
  have o14:=d14 (Pr:=L.prog) (w:=w) (base:=base) u14 (PySem.W.mg_of X G a14) Bt Bu o13
  obtain ⟨_,_,a15,u15⟩:=h15
  have o15:=d15 (Pr:=L.prog) (w:=w) (base:=base) u15 (PySem.W.mg_of X G a15) Bt Bu o11 o12 o14
  obtain ⟨_,_,a16,u16⟩:=h16
  have o16:=d16 (Pr:=L.prog) (w:=w) (base:=base) u16 (PySem.W.mg_of X G a16) Bt Bu o10 o15
  obtain ⟨_,_,a17,u17⟩:=h17
  have o17:=d17 (Pr:=L.prog) (w:=w) (base:=base) u17 (PySem.W.mg_of X G a17) Bt Bu
  obtain ⟨_,_,a18,u18⟩:=h18
  have o18:=d18 (Pr:=L.prog) (w:=w) (base:=base) u18 (PySem.W.mg_of X G a18) Bt Bu o17
  obtain ⟨_,_,a19,u19⟩:=h19
  have o19:=d19 (Pr:=L.prog) (w:=w) (base:=base) u19 (PySem.W.mg_of X G a19) Bt Bu o17 o18
  obtain ⟨_,_,a20,u20⟩:=h20
  have o20:=d20 (Pr:=L.prog) (w:=w) (base:=base) u20 (PySem.W.mg_of X G a20) Bt Bu
  obtain ⟨_,_,a21,u21⟩:=h21
  have o21:=d21 (Pr:=L.prog) (w:=w) (base:=base) u21 (PySem.W.mg_of X G a21) Bt Bu o9 o16 o19 o20
  obtain ⟨_,_,a22,u22⟩:=h22
  have o22:=d22 (Pr:=L.prog) (w:=w) (base:=base) u22 (PySem.W.mg_of X G a22) Bt Bu
  obtain ⟨_,_,a23,u23⟩:=h23
  have o23:=d23 (Pr:=L.prog) (w:=w) (base:=base) u23 (PySem.W.mg_of X G a23) Bt Bu o9 o14 o19 o20
  obtain ⟨_,_,a24,u24⟩:=h24
  have o24:=d24 (Pr:=L.prog) (w:=w) (base:=base) u24 (PySem.W.mg_of X G a24) Bt Bu
  obtain ⟨_,_,a25,u25⟩:=h25
  have o25:=d25 (Pr:=L.prog) (w:=w) (base:=base) u25 (PySem.W.mg_of X G a25) Bt Bu o9 o4
  obtain ⟨_,_,a26,u26⟩:=h26
  have o26:=d26 (Pr:=L.prog) (w:=w) (base:=base) u26 (PySem.W.mg_of X G a26) Bt Bu
  obtain ⟨_,_,a27,u27⟩:=h27
  have o27:=d27 (Pr:=L.prog) (w:=w) (base:=base) u27 (PySem.W.mg_of X G a27) Bt Bu o17 o26
  obtain ⟨_,_,a28,u28⟩:=h28
  have o28:=d28 (Pr:=L.prog) (w:=w) (base:=base) u28 (PySem.W.mg_of X G a28) Bt Bu o27
  obtain ⟨_,_,a29,u29⟩:=h29
  have o29:=d29 (Pr:=L.prog) (w:=w) (base:=base) u29 (PySem.W.mg_of X G a29) Bt Bu o25 o20 o28
  obtain ⟨_,_,a30,u30⟩:=h30
  have o30:=d30 (Pr:=L.prog) (w:=w) (base:=base) u30 (PySem.W.mg_of X G a30) Bt Bu o3
  obtain ⟨_,_,a31,u31⟩:=h31
  have o31:=d31 (Pr:=L.prog) (w:=w) (base:=base) u31 (PySem.W.mg_of X G a31) Bt Bu o9 o30
  obtain ⟨_,_,a32,u32⟩:=h32
  have o32:=d32 (Pr:=L.prog) (w:=w) (base:=base) u32 (PySem.W.mg_of X G a32) Bt Bu o31
  obtain ⟨_,_,a33,u33⟩:=h33
  have o33:=d33 (Pr:=L.prog) (w:=w) (base:=base) u33 (PySem.W.mg_of X G a33) Bt Bu
  obtain ⟨_,_,a34,u34⟩:=h34
  have o34:=d34 (Pr:=L.prog) (w:=w) (base:=base) u34 (PySem.W.mg_of X G a34) Bt Bu o20 o27 o33
  obtain ⟨_,_,a35,u35⟩:=h35
  have o35:=d35 (Pr:=L.prog) (w:=w) (base:=base) u35 (PySem.W.mg_of X G a35) Bt Bu
  obtain ⟨_,_,a36,u36⟩:=h36
  have o36:=d36 (Pr:=L.prog) (w:=w) (base:=base) u36 (PySem.W.mg_of X G a36) Bt Bu o14 o35
  obtain ⟨_,_,a37,u37⟩:=h37
  have o37:=d37 (Pr:=L.prog) (w:=w) (base:=base) u37 (PySem.W.mg_of X G a37) Bt Bu o19 o14 o36 o17
  obtain ⟨_,_,a38,u38⟩:=h38
  have o38:=d38 (Pr:=L.prog) (w:=w) (base:=base) u38 (PySem.W.mg_of X G a38) Bt Bu o32 o25 o34 o37 o20
  have o39:=d39 (Pr:=L.prog) (w:=w) (base:=base) (fun_mk (st:=s39) l c k) (PySem.W.mg_of X G a) Bt Bu o2 o21 o22 o23 o1 o24 o29 o38
  refine o39.ok.imp fun vs H Q E hs=>?_
  obtain ⟨a,ns,rfl,hS,h63,q⟩:=hs
  refine ⟨[],[.scr ns],.bl true,fun a m=>(by cases m),⟨_,_,rfl,⟨a,rfl,by rw [mask_nil];exact hS⟩,rfl⟩,g_law ns,fun v H' s r=>?_⟩
  have:v=.bl true:=r
  subst this
  exact q H'
theorem walk {l:PySem.W.OpenLaw} {q:Program} {loose:List Str} {XP:(Str->Option Value)->Heap->Prop} {YP:World->Heap->Prop} {d:DefRec} {K:Params->PySem.W.Frag} (hn:l.most=some 63) (hdf:d.params.defaults=[])
    (hY:∀ (w:World) (h:Heap),YP w h->(K w.params).In h)
    (F:∀ (w:World) (mg:Str->Option Value) (fa:Addr) (h:Heap),(K w.params).In h->h.Ns mainGlobals mg->mg d.name=some (.ref fa) ->
      ∃ fd:FuncData,(∀ (s:Shared) (u:Value),BindsTo s fd ⟨[u],[]⟩ [("_law_script",u)])/\∀ base:Heap,(K w.params).In base->base.Ns mainGlobals mg->VH l.prog w (K w.params) mg base CX0 13 fa fd ["_law_script"] (spLaw (K w.params))) :
    PySem.W.WalkO q loose XP YP l.row.toRowW d [] (fun f vs=>PySem.call f vs) :=
  L2.walk_of (n:=63) (k:=13) (x:="_law_script") (CX:=fun _=>CX0) (sp:=fun w=>spLaw (K w.params)) hn (by decide) hdf ⟨rfl,by decide,by decide⟩ hY F (fun _ _ a ns hl _ hS=>⟨a,ns,rfl,hS,hl,fun _=>rfl⟩) fun _ _ _ _ _ z=>z
end K12

end
-- stand-ins: the head of the last proof goes without these twins, and the built file stays small
def PySem.W.Fast.tw14641020691795256398 : Unit := ()
def PySem.W.Fast.tw4055528398290163999 : Unit := ()
def PySem.W.Fast.tw4986789915714866368 : Unit := ()
def PySem.W.Fast.tw2467407711133660474 : Unit := ()
def PySem.W.Fast.tw471762595406549817 : Unit := ()
def PySem.W.Fast.tw10328696940568747682 : Unit := ()
def PySem.W.Fast.tw6932068977030580063 : Unit := ()
def PySem.W.Fast.tw4119727219338494085 : Unit := ()
def PySem.W.Fast.tw8930931570258219943 : Unit := ()
def PySem.W.Fast.tw5099068117895203297 : Unit := ()
def PySem.W.Fast.tw4224221930527618149 : Unit := ()
def PySem.W.Fast.tw8690221353421949718 : Unit := ()
def PySem.W.Fast.tw9333025628687153892 : Unit := ()
def PySem.W.Fast.tw17519358472138666654 : Unit := ()
def PySem.W.Fast.tw12793473901512322208 : Unit := ()
open PySem PySem.W PyProof.Rows
set_option maxRecDepth 100000 in
set_option maxHeartbeats 0 in
theorem PySem.Challenge.cw_chipyard_k12_whole_knots_holds : PySem.Challenge.rw_chipyard_k12_whole_knots.Holds := by
  w_on;o_law;k_head;(case hw=>w_witness2)
  k_fill
  refine K12.walk (l:=PySem.Challenge.rw_chipyard_k12_whole_knots) rfl rfl (fun w h Y=>PySem.W.kIn_of Y) ?F
  case F =>
    intro w mg fa h KX G hmg
    refine' K12.all_mk KX G hmg (L2.fh ?a0 ?l0 ?c0 ?k0) (L2.fh ?a1 ?l1 ?c1 ?k1) (L2.fh ?a2 ?l2 ?c2 ?k2) (L2.fh ?a3 ?l3 ?c3 ?k3) (L2.fh ?a4 ?l4 ?c4 ?k4) (L2.fh ?a5 ?l5 ?c5 ?k5) (L2.fh ?a6 ?l6 ?c6 ?k6) (L2.fh ?a7 ?l7 ?c7 ?k7) (L2.fh ?a8 ?l8 ?c8 ?k8) (L2.fh ?a9 ?l9 ?c9 ?k9) (L2.fh ?a10 ?l10 ?c10 ?k10) (L2.fh ?a11 ?l11 ?c11 ?k11) (L2.fh ?a12 ?l12 ?c12 ?k12) (L2.fh ?a13 ?l13 ?c13 ?k13) (L2.fh ?a14 ?l14 ?c14 ?k14) (L2.fh ?a15 ?l15 ?c15 ?k15) (L2.fh ?a16 ?l16 ?c16 ?k16) (L2.fh ?a17 ?l17 ?c17 ?k17) (L2.fh ?a18 ?l18 ?c18 ?k18) (L2.fh ?a19 ?l19 ?c19 ?k19) (L2.fh ?a20 ?l20 ?c20 ?k20) (L2.fh ?a21 ?l21 ?c21 ?k21) (L2.fh ?a22 ?l22 ?c22 ?k22) (L2.fh ?a23 ?l23 ?c23 ?k23) (L2.fh ?a24 ?l24 ?c24 ?k24) (L2.fh ?a25 ?l25 ?c25 ?k25) (L2.fh ?a26 ?l26 ?c26 ?k26) (L2.fh ?a27 ?l27 ?c27 ?k27) (L2.fh ?a28 ?l28 ?c28 ?k28) (L2.fh ?a29 ?l29 ?c29 ?k29) (L2.fh ?a30 ?l30 ?c30 ?k30) (L2.fh ?a31 ?l31 ?c31 ?k31) (L2.fh ?a32 ?l32 ?c32 ?k32) (L2.fh ?a33 ?l33 ?c33 ?k33) (L2.fh ?a34 ?l34 ?c34 ?k34) (L2.fh ?a35 ?l35 ?c35 ?k35) (L2.fh ?a36 ?l36 ?c36 ?k36) (L2.fh ?a37 ?l37 ?c37 ?k37) (L2.fh ?a38 ?l38 ?c38 ?k38) ?a ?l ?c ?k ?z160 ?z161 ?z162 ?z163 ?z164 ?z165 ?z166 ?z167 ?z168 ?z169 ?z170 ?z171 ?z172 ?z173 ?z174 ?z175 ?z176 ?z177 ?z178 ?z179
    (case a0=>k_is)
    (case l0=>k_is)
    (case c0=>k_is)
    (case k0=>k_is)
    (case a1=>k_is)
    (case l1=>k_is)
    (case c1=>k_is)
    (case k1=>k_is)
    (case a2=>k_is)
    (case l2=>k_is)
    (case c2=>k_is)
    (case k2=>k_is)
    (case a3=>k_is)
    (case l3=>k_is)
    (case c3=>k_is)
    (case k3=>k_is)
    (case a4=>k_is)
    (case l4=>k_is)
    (case c4=>k_is)
    (case k4=>k_is)
    (case a5=>k_is)
    (case l5=>k_is)
    (case c5=>k_is)
    (case k5=>k_is)
    (case a6=>k_is)
    (case l6=>k_is)
    (case c6=>k_is)
    (case k6=>k_is)
    (case a7=>k_is)
    (case l7=>k_is)
    (case c7=>k_is)
    (case k7=>k_is)
    (case a8=>k_is)
    (case l8=>k_is)
    (case c8=>k_is)
    (case k8=>k_is)
    (case a9=>k_is)
    (case l9=>k_is)
    (case c9=>k_is)
    (case k9=>k_is)
    (case a10=>k_is)
    (case l10=>k_is)
    (case c10=>k_is)
    (case k10=>k_is)
    (case a11=>k_is)
    (case l11=>k_is)
    (case c11=>k_is)
    (case k11=>k_is)
    (case a12=>k_is)
    (case l12=>k_is)
    (case c12=>k_is)
    (case k12=>k_is)
    (case a13=>k_is)
    (case l13=>k_is)
    (case c13=>k_is)
    (case k13=>k_is)
    (case a14=>k_is)
    (case l14=>k_is)
    (case c14=>k_is)
    (case k14=>k_is)
    (case a15=>k_is)
    (case l15=>k_is)
    (case c15=>k_is)
    (case k15=>k_is)
    (case a16=>k_is)
    (case l16=>k_is)
    (case c16=>k_is)
    (case k16=>k_is)
    (case a17=>k_is)
    (case l17=>k_is)
    (case c17=>k_is)
    (case k17=>k_is)
    (case a18=>k_is)
    (case l18=>k_is)
    (case c18=>k_is)
    (case k18=>k_is)
    (case a19=>k_is)
    (case l19=>k_is)
    (case c19=>k_is)
    (case k19=>k_is)
    (case a20=>k_is)
    (case l20=>k_is)
    (case c20=>k_is)
    (case k20=>k_is)
    (case a21=>k_is)
    (case l21=>k_is)
    (case c21=>k_is)
    (case k21=>k_is)
    (case a22=>k_is)
    (case l22=>k_is)
    (case c22=>k_is)
    (case k22=>k_is)
    (case a23=>k_is)
    (case l23=>k_is)
    (case c23=>k_is)
    (case k23=>k_is)
    (case a24=>k_is)
    (case l24=>k_is)
    (case c24=>k_is)
    (case k24=>k_is)
    (case a25=>k_is)
    (case l25=>k_is)
    (case c25=>k_is)
    (case k25=>k_is)
    (case a26=>k_is)
    (case l26=>k_is)
    (case c26=>k_is)
    (case k26=>k_is)
    (case a27=>k_is)
    (case l27=>k_is)
    (case c27=>k_is)
    (case k27=>k_is)
    (case a28=>k_is)
    (case l28=>k_is)
    (case c28=>k_is)
    (case k28=>k_is)
    (case a29=>k_is)
    (case l29=>k_is)
    (case c29=>k_is)
    (case k29=>k_is)
    (case a30=>k_is)
    (case l30=>k_is)
    (case c30=>k_is)
    (case k30=>k_is)
    (case a31=>k_is)
    (case l31=>k_is)
    (case c31=>k_is)
    (case k31=>k_is)
    (case a32=>k_is)
    (case l32=>k_is)
    (case c32=>k_is)
    (case k32=>k_is)
    (case a33=>k_is)
    (case l33=>k_is)
    (case c33=>k_is)
    (case k33=>k_is)
    (case a34=>k_is)
    (case l34=>k_is)
    (case c34=>k_is)
    (case k34=>k_is)
    (case a35=>k_is)
    (case l35=>k_is)
    (case c35=>k_is)
    (case k35=>k_is)
    (case a36=>k_is)
    (case l36=>k_is)
    (case c36=>k_is)
    (case k36=>k_is)
    (case a37=>k_is)
    (case l37=>k_is)
    (case c37=>k_is)
    (case k37=>k_is)
    (case a38=>k_is)
    (case l38=>k_is)
    (case c38=>k_is)
    (case k38=>k_is)
    (case a=>k_is)
    (case l=>k_is)
    (case c=>k_is)
    (case k=>k_is)
    (case z160=>k_is)
    (case z161=>k_is)
    (case z162=>k_is)
    (case z163=>k_is)
    (case z164=>k_is)
    (case z165=>k_is)
    (case z166=>k_is)
    (case z167=>k_is)
    (case z168=>k_is)
    (case z169=>k_is)
    (case z170=>k_is)
    (case z171=>k_is)
    (case z172=>k_is)
    (case z173=>k_is)
    (case z174=>k_is)
    (case z175=>k_is)
    (case z176=>k_is)
    (case z177=>k_is)
    (case z178=>k_is)
    (case z179=>k_is)

