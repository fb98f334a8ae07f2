import PyProof.Rows.All
import Wide.All
import OpenK.AllK
import Wide.FinOn
import PySem.Challenge.RW_chipyard_k01_grounds
import Lean
import PyProof.EqAt
import PyProof.EqKinds
import PyProof.TupleCall
set_option Elab.async false
set_option linter.all false
set_option Elab.async false
set_option linter.all false
set_option maxRecDepth 100000
noncomputable section
namespace L2
open PySem PySem.Spec PyProof.Rows
abbrev Key:=Sum Int Str
def keyIs:Key->Value->Bool
  | .inl k,v=>Value.isInt k v
  | .inr x,v=>Value.isStrOf x v
def keyH (w:World):Key->Int
  | .inl k=>hashInt k
  | .inr x=>hashStr w x
theorem keyIs_shape:∀ {k:Key} {v:Value},keyIs k v=true->(∃ i t,k=Sum.inl i/\v=Value.int i t)\/(∃ x t,k=Sum.inr x/\v=Value.str x t)
  | .inl i,v,h=>by
    obtain ⟨t,e⟩:=Value.isInt_shape (k:=i) (v:=v) h
    exact .inl ⟨i,t,rfl,e⟩
  | .inr x,v,h=>by
    obtain ⟨t,e⟩:=Value.isStrOf_shape (x:=x) (v:=v) h
    exact .inr ⟨x,t,rfl,e⟩
theorem keyIs_int (i:Int) (t:Tok):keyIs (.inl i) (.int i t)=true:=by simp [keyIs,Value.isInt]
theorem keyIs_str (x:Str) (t:Tok):keyIs (.inr x) (.str x t)=true:=by simp [keyIs,Value.isStrOf]
theorem key_ll (a b:Int):decide ((Sum.inl a:Key)=Sum.inl b)=(a == b):=by
  by_cases e:a=b
  · subst e;simp
  · have h:¬ (Sum.inl a:Key)=Sum.inl b:=fun q=>e (Sum.inl.inj q)
    rw [decide_eq_false h]
    exact (beq_eq_false_iff_ne.mpr e).symm
theorem key_rr (a b:Str):decide ((Sum.inr a:Key)=Sum.inr b)=decide (a=b):=by
  by_cases e:a=b
  · subst e;simp
  · have h:¬ (Sum.inr a:Key)=Sum.inr b:=fun q=>e (Sum.inr.inj q)
    rw [decide_eq_false h,decide_eq_false e]
theorem key_lr (a:Int) (b:Str):decide ((Sum.inl a:Key)=Sum.inr b)=false:=decide_eq_false (fun q=>nomatch q)
theorem key_rl (a:Str) (b:Int):decide ((Sum.inr a:Key)=Sum.inl b)=false:=decide_eq_false (fun q=>nomatch q)
def mixKind (prog:Program) (w:World):PySem.KeyKind prog w Key where
  is:=keyIs
  hash:=keyH w
  inj:=fun v a b ha hb=>by
    rcases keyIs_shape ha with ⟨i,t,rfl,rfl⟩ | ⟨x,t,rfl,rfl⟩
    · rcases keyIs_shape hb with ⟨j,u,rfl,e⟩ | ⟨y,u,rfl,e⟩
      · injection e with e1 _;rw [e1]
      · exact nomatch e
    · rcases keyIs_shape hb with ⟨j,u,rfl,e⟩ | ⟨y,u,rfl,e⟩
      · exact nomatch e
      · injection e with e1 _;rw [e1]
  byValue:=fun k v h=>by
    rcases keyIs_shape h with ⟨i,t,rfl,rfl⟩ | ⟨x,t,rfl,rfl⟩ <;> rfl
  pyHash:=fun hv h=>by
    rcases keyIs_shape hv with ⟨i,t,rfl,rfl⟩ | ⟨x,t,rfl,rfl⟩
    · exact wpAny_pyHash_int h
    · exact wpAny_pyHash_str h
  eqBool:=fun hu hv h=>by
    rcases keyIs_shape hu with ⟨i,t,rfl,rfl⟩ | ⟨x,t,rfl,rfl⟩
    · rcases keyIs_shape hv with ⟨j,u,rfl,rfl⟩ | ⟨y,u,rfl,rfl⟩
      · rw [key_ll] at h;exact wpAny_eqBool_int h
      · rw [key_lr] at h;exact SeqAt.EqAt.int_str i t y u _ _ _ _ h
    · rcases keyIs_shape hv with ⟨j,u,rfl,rfl⟩ | ⟨y,u,rfl,rfl⟩
      · rw [key_rl] at h;exact SeqAt.EqAt.str_int x t j u _ _ _ _ h
      · rw [key_rr] at h;exact wpAny_eqBool_str h
  «strs»:=fun k x t v h=>by
    rcases keyIs_shape h with ⟨i,u,rfl,e⟩ | ⟨y,u,rfl,e⟩
    · exact nomatch e
    · injection e with e1 _
      subst e1
      cases v <;> rfl
theorem mixKind_int (prog:Program) (w:World) (i:Int) (t:Tok):(mixKind prog w).is (.inl i) (.int i t)=true:=keyIs_int i t
theorem mixKind_str (prog:Program) (w:World) (x:Str) (t:Tok):(mixKind prog w).is (.inr x) (.str x t)=true:=keyIs_str x t
end L2
namespace L2
open PySem PySem.Spec PyProof.Rows
inductive V where
  | non | bl (b:Bool) | int (i:Int) | str (x:Str) | byt (b:Array UInt8) | flt (b:UInt64) | ref (a:Addr) | ty (n:String)
  deriving DecidableEq
def RelV:V->Value->Prop
  | .non,u=>u=Value.none
  | .bl b,u=>u=Value.bool b
  | .int i,u=>∃ t,u=Value.int i t
  | .str x,u=>∃ t,u=Value.str x t
  | .byt b,u=>∃ t,u=Value.bytes b t
  | .flt b,u=>∃ t,u=Value.float b t
  | .ref a,u=>u=Value.ref a
  | .ty n,u=>u=Value.type n
abbrev Vals:List V->List Value->Prop:=Paired RelV
theorem Vals.length {xs:List V} {us:List Value} (r:Vals xs us):xs.length=us.length:=Paired.length r
theorem Vals.get:∀ {xs:List V} {us:List Value} {i:Nat} {x:V},Vals xs us->xs[i]?=some x->∃ u,us[i]?=some u/\RelV x u
  | _,_,_,_,.nil,e=>by simp at e
  | _,_,0,_,.cons r _,e=>by simp at e;subst e;exact ⟨_,rfl,r⟩
  | _,_,i+1,x,.cons _ t,e=>by
    obtain ⟨u,h1,h2⟩:=Vals.get (i:=i) (x:=x) t (by simpa using e)
    exact ⟨u,by simpa using h1,h2⟩
theorem Vals.set {x:V} {u:Value} (r:RelV x u):∀ {xs:List V} {us:List Value} (i:Nat),Vals xs us->Vals (xs.set i x) (us.set i u)
  | _,_,_,.nil=>.nil
  | _,_,0,.cons _ t=>.cons r t
  | _,_,i+1,.cons q t=>.cons q (Vals.set r i t)
theorem Vals.append:∀ {xs ys:List V} {us ws:List Value},Vals xs us->Vals ys ws->Vals (xs++ys) (us++ws)
  | _,_,_,_,.nil,s=>s
  | _,_,_,_,.cons r t,s=>.cons r (Vals.append t s)
theorem Vals.take:∀ {xs:List V} {us:List Value} (n:Nat),Vals xs us->Vals (xs.take n) (us.take n)
  | _,_,0,_=>.nil
  | _,_,_+1,.nil=>.nil
  | _,_,n+1,.cons r t=>.cons r (Vals.take n t)
theorem Vals.drop:∀ {xs:List V} {us:List Value} (n:Nat),Vals xs us->Vals (xs.drop n) (us.drop n)
  | _,_,0,r=>r
  | _,_,_+1,.nil=>.nil
  | _,_,n+1,.cons _ t=>Vals.drop n t
def RelO:Option V->Option Value->Prop
  | some v,some u=>RelV v u
  | none,none=>True
  | _,_=>False
def KV {κ:Type}:List (κ×V)->List (κ×Value)->Prop:=Paired fun (p:κ×V) (q:κ×Value)=>p.1=q.1/\RelV p.2 q.2
def kV:Key->V
  | .inl i=>.int i
  | .inr x=>.str x
inductive HO where
    | lst (xs:List V)
    | tup (xs:List V)
    | dK (kvs:List (Key×V)) | dT (kvs:List (List Key×V))
    | set (S:Int->Bool) (n:Nat)
    | ins (C dx:Addr) (fs:List (Str×V))
    | own (x:Addr)
    | xd (fs:List (Str×V))
    | met (f x:Addr)
    | rng (lo hi:Int)
    | frz (o:Obj) (u:HO)
    | tbl (ps:Array Value)
    | ext (φ:Heap->Prop)
abbrev Hp:=Addr->Option HO
def upd (H:Hp) (a:Addr) (o:HO):Hp:=fun b=>if b=a then some o else H b
theorem upd_same {H:Hp} {a:Addr} {o:HO}:upd H a o a=some o:=by unfold upd;rw [if_pos rfl]
theorem upd_ne {H:Hp} {a b:Addr} {o:HO} (h:b≠a):upd H a o b=H b:=by unfold upd;rw [if_neg h]
theorem upd_upd {H:Hp} {a:Addr} {o u:HO}:upd (upd H a o) a u=upd H a u:=by
  funext b;unfold upd;split <;> rfl
theorem ne_of {H:Hp} {a b:Addr} {o u:HO} (h:H a=some o) (h':H b=some u) (d:o≠u):a≠b:=by
  intro e;subst e;rw [h] at h';exact d (Option.some.inj h')
theorem ne_of_none {H:Hp} {a b:Addr} {o:HO} (h:H a=some o) (h':H b=none):a≠b:=by
  intro e;subst e;rw [h] at h';cases h'
section
variable (P:Program) (w:World)
def ObjOk (H:Hp) (h:Heap) (a:Addr):HO->Prop
  | .lst xs=>xs.length<=sizeLine/\∃ (its:List Value) (n:Nat),Vals xs its/\h.get? a=some { cls:=.type "list",data:=.seq its.toArray n }
  | .tup xs=>xs.length<=sizeLine/\∃ its:List Value,Vals xs its/\IsTup h a its.toArray
  | .dK kvs=>kvs.length<=sizeLine/\(a == sysModules)=false/\∃ vs,KV kvs vs/\h.DictOf (mixKind P w) a vs
  | .dT kvs=>kvs.length<=sizeLine/\(a == sysModules)=false/\∃ xs:List (List Key×Addr×Value),
      Paired (fun (p:List Key×V) (q:List Key×Addr×Value)=>p.1=q.1/\H q.2.1=some (.tup (p.1.map kV))/\RelV p.2 q.2.2) kvs xs /\
      ∃ o es ep,h.get? a=some o/\o.ExactDict/\o.data=.dict es ep/\es.toList=xs.map (entryOfKey (tupleKind (mixKind P w)))/\(xs.map (·.1)).Nodup
  | .set S n=>h.SetOf (intKind P w) a S n
  | .ins C dx fs=>H dx=some (.own a)/\fs.length<=1000/\dx≠a/\h.get? a=some (PySem.W.instObj C dx) /\
      ∃ mA,h.Ns1 dx mA/\(∀ f,RelO (fs.lookup f) (mA f))/\PySem.Within mA (fs.map (·.1))
  | .own _=>∃ o,h.get? a=some o
  | .xd fs=>∃ mA,h.Ns1 a mA/\∀ f,RelO (fs.lookup f) (mA f)
  | .rng lo hi=>∃ t u v,h.get? a=some { cls:=.type "range",data:=.fields #[.int lo t,.int hi u,.int 1 v] }
  | .frz o u=>h.get? a=some o/\ObjOk H h a u
  | .tbl ps=>h.get? a=some { cls:=.none,data:=.fields ps }
  | .met f x=>h.get? a=some (PySem.W.methodObj (.ref f) (.ref x))
  | .ext φ=>φ h/\(∃ o,h.get? a=some o)/\∀ h1 h2:Heap,φ h1->(∀ o,h1.get? a=some o->h2.get? a=some o)->φ h2
def HOk (H:Hp) (h:Heap):Prop:=∀ a o,H a=some o->ObjOk P w H h a o
end
section
variable {P:Program} {w:World} {H H':Hp} {h h':Heap} {a:Addr} {o:HO}
theorem ObjOk.lt (x:ObjOk P w H h a o):a < h.objs.size:=by
  cases o with
  | lst xs=>obtain ⟨_,_,_,_,e⟩:=x;exact Heap.lt_size e
  | tup xs=>obtain ⟨_,_,_,p⟩:=x;exact p.lt
  | dK kvs=>obtain ⟨_,_,_,_,o,_,_,e,_⟩:=x;exact Heap.lt_size e
  | dT kvs=>obtain ⟨_,_,_,_,o,_,_,e,_⟩:=x;exact Heap.lt_size e
  | set S n=>obtain ⟨o,_,_,_,e,_⟩:=x;exact Heap.lt_size e
  | ins C dx fs=>obtain ⟨_,_,_,e,_⟩:=x;exact Heap.lt_size e
  | own y=>obtain ⟨_,e⟩:=x;exact Heap.lt_size e
  | xd fs=>obtain ⟨_,⟨_,_,_,e,_⟩,_⟩:=x;exact Heap.lt_size e
  | rng lo hi=>obtain ⟨_,_,_,e⟩:=x;exact Heap.lt_size e
  | frz ob u=>obtain ⟨e,_⟩:=x;exact Heap.lt_size e
  | tbl ps=>exact Heap.lt_size (show h.get? a=some _ from x)
  | met f y=>exact Heap.lt_size (show h.get? a=some _ from x)
  | ext φ=>obtain ⟨_,⟨_,e⟩,_⟩:=x;exact Heap.lt_size e
theorem Paired.mapP {α β:Type} {F G:α->β->Prop}:∀ {l₁:List α} {l₂:List β},Paired F l₁ l₂->(∀ a b,F a b->G a b)->Paired G l₁ l₂
  | _,_,.nil,_=>.nil
  | _,_,.cons r t,f=>.cons (f _ _ r) (Paired.mapP t f)
theorem ObjOk.stay (x:ObjOk P w H h a o) (k:∀ b u,(b=a\/H b=some (.own a))->h.get? b=some u->h'.get? b=some u)
    (ho:∀ b,H b=some (.own a)->H' b=some (.own a)) (ht:∀ b xs,H b=some (.tup xs)->H' b=some (.tup xs)):ObjOk P w H' h' a o:=by
  induction o with
  | lst xs=>obtain ⟨z,its,n,r,e⟩:=x;exact ⟨z,its,n,r,k _ _ (.inl rfl) e⟩
  | tup xs=>obtain ⟨z,its,r,ob,e,c⟩:=x;exact ⟨z,its,r,ob,k _ _ (.inl rfl) e,c⟩
  | dK kvs=>obtain ⟨z,y,vs,r,ob,es,ep,e,c⟩:=x;exact ⟨z,y,vs,r,ob,es,ep,k _ _ (.inl rfl) e,c⟩
  | dT kvs =>
    obtain ⟨z,y,xs,r,ob,es,ep,e,c⟩:=x
    exact ⟨z,y,xs,Paired.mapP r fun p q z=>⟨z.1,ht _ _ z.2.1,z.2.2⟩,ob,es,ep,k _ _ (.inl rfl) e,c⟩
  | set S n=>obtain ⟨ob,es,ep,t,e,c⟩:=x;exact ⟨ob,es,ep,t,k _ _ (.inl rfl) e,c⟩
  | ins C dx fs =>
    obtain ⟨d,z,ne,e,mA,⟨od,es,ep,e2,c⟩,r⟩:=x
    exact ⟨ho _ d,z,ne,k _ _ (.inl rfl) e,mA,⟨od,es,ep,k _ _ (.inr d) e2,c⟩,r⟩
  | own y=>obtain ⟨ob,e⟩:=x;exact ⟨ob,k _ _ (.inl rfl) e⟩
  | xd fs=>obtain ⟨mA,⟨od,es,ep,e,c⟩,r⟩:=x;exact ⟨mA,⟨od,es,ep,k _ _ (.inl rfl) e,c⟩,r⟩
  | rng lo hi=>obtain ⟨t,u,v,e⟩:=x;exact ⟨t,u,v,k _ _ (.inl rfl) e⟩
  | frz ob u ih=>obtain ⟨e,q⟩:=x;exact ⟨k _ _ (.inl rfl) e,ih q⟩
  | tbl ps =>
    have e:h.get? a=some { cls:=.none,data:=.fields ps }:=x
    show h'.get? a=some { cls:=.none,data:=.fields ps }
    exact k a _ (.inl rfl) e
  | met f y =>
    have e:h.get? a=some (PySem.W.methodObj (.ref f) (.ref y)):=x
    show h'.get? a=some (PySem.W.methodObj (.ref f) (.ref y))
    exact k a _ (.inl rfl) e
  | ext φ=>obtain ⟨p,⟨o,e⟩,st⟩:=x;exact ⟨st _ _ p fun o q=>k _ _ (.inl rfl) q,⟨o,k _ _ (.inl rfl) e⟩,st⟩
theorem HOk.lt (x:HOk P w H h) (e:H a=some o):a < h.objs.size:=(x a o e).lt
theorem HOk.fresh (x:HOk P w H h) (e:h.objs.size<=a):H a=none:=by
  cases q:H a with
  | none=>rfl
  | some u=>exact absurd (Nat.lt_of_lt_of_le (x.lt q) e) (Nat.lt_irrefl _)
theorem HOk.kept (x:HOk P w H h) (k:∀ b u,h.get? b=some u->h'.get? b=some u):HOk P w H h':=fun a o e =>
  (x a o e).stay (fun b u _ q=>k b u q) (fun _ q=>q) fun _ _ q=>q
theorem HOk.laid (x:HOk P w H h) (k:∀ b u,h.get? b=some u->h'.get? b=some u) (hp:h.objs.size<=a) (new:ObjOk P w (upd H a o) h' a o):HOk P w (upd H a o) h':=fun b u e=>by
  have hn:=x.fresh hp
  by_cases hb:b=a
  · subst hb;rw [upd_same] at e;cases e;exact new
  · rw [upd_ne hb] at e
    exact (x b u e).stay (fun c v _ q=>k c v q) (fun c q=>by rw [upd_ne (ne_of_none q hn)];exact q) fun c xs q=>by rw [upd_ne (ne_of_none q hn)];exact q
end
def Rd (H:Hp) (a:Addr) (u:HO):Prop:=H a=some u\/∃ o,H a=some (.frz o u)
theorem Rd.of {H:Hp} {a:Addr} {u:HO} (h:H a=some u):Rd H a u:=.inl h
theorem Rd.ok {P:Program} {w:World} {H:Hp} {h:Heap} {a:Addr} {u:HO} (r:Rd H a u) (x:HOk P w H h):ObjOk P w H h a u:=by
  rcases r with r | ⟨o,r⟩
  · exact x a u r
  · obtain ⟨_,q⟩:=x a _ r
    exact q
def Mut:Option HO->Prop
  | some (.lst _)=>True
  | some (.dK _)=>True
  | some (.dT _)=>True
  | some (.set _ _)=>True
  | some (.ins _ _ _)=>True
  | some (.ext _)=>True
  | _=>False
section
variable {P:Program} {w:World} {H:Hp} {h h':Heap} {x e:Addr} {o':HO}
theorem HOk.write (ok:HOk P w H h) (mu:Mut (H x)) (he:e=x\/H e=some (.own x)) (k:∀ b u,b≠e->h.get? b=some u->h'.get? b=some u) (heo:∃ u,h'.get? e=some u)
    (new:ObjOk P w (upd H x o') h' x o'):HOk P w (upd H x o') h':=fun b u q=>by
  have nown:∀ c y,H c=some (.own y)->c≠x:=fun c y r z=>by subst z;rw [r] at mu;exact mu
  have ntup:∀ c xs,H c=some (.tup xs)->c≠x:=fun c xs r z=>by subst z;rw [r] at mu;exact mu
  by_cases hb:b=x
  · subst hb;rw [upd_same] at q;cases q;exact new
  · rw [upd_ne hb] at q
    by_cases hbe:b=e
    · have q':H b=some (.own x):=by
        rcases he with z | z
        · exact absurd (hbe.trans z) hb
        · rw [hbe];exact z
      rw [q] at q';cases q'
      obtain ⟨v,hv⟩:=heo
      exact ⟨v,by rw [hbe];exact hv⟩
    · refine (ok b u q).stay (fun c v hc r=>k c v ?_ r) (fun c r=>by rw [upd_ne (nown c b r)];exact r) fun c xs r=>by rw [upd_ne (ntup c xs r)];exact r
      rcases hc with rfl | hc
      · exact hbe
      · rintro rfl
        rcases he with z | z
        · exact nown c b hc z
        · rw [hc] at z;cases z;exact hb rfl
end
structure Un (fs ex:List Addr) (H H':Hp) (h h':Heap):Prop where
  keep:∀ b o,h.get? b=some o->H b=none->b∉fs->b∉ex->h'.get? b=some o
  slot:∀ b o,h.get? b=some o->H b=none->b∈fs->b∉ex->∃ sl,h'.get? b=some { o with slots:=sl }
  free:∀ b o,h.get? b=some o->H b=none->b∉ex->H' b=none
  there:∀ b o,h.get? b=some o->b∉ex->∃ o',h'.get? b=some o'
  tups:∀ b xs,H b=some (.tup xs)->H' b=some (.tup xs)
  frzs:∀ b o u,H b=some (.frz o u)->H' b=some (.frz o u)
  tbls:∀ b ps,H b=some (.tbl ps)->∃ more,H' b=some (.tbl (ps++more))
section
variable {fs fs' ex ex':List Addr} {H H1 H2:Hp} {h h1 h2 h':Heap} {a x e:Addr} {o:HO}
theorem Un.any (u:Un fs ex H H1 h h1) {b:Addr} {ob:Obj} (q:h.get? b=some ob) (n:H b=none) (hx:b∉ex):∃ sl,h1.get? b=some { ob with slots:=sl }:=by
  by_cases hb:b∈fs
  · exact u.slot b ob q n hb hx
  · exact ⟨ob.slots,u.keep b ob q n hb hx⟩
theorem Un.trans (a:Un fs ex H H1 h h1) (b:Un fs ex H1 H2 h1 h2):Un fs ex H H2 h h2 where
  keep:=fun c ob q n hc hx=>b.keep c ob (a.keep c ob q n hc hx) (a.free c ob q n hx) hc hx
  slot:=fun c ob q n hc hx=>by
    obtain ⟨sl,e1⟩:=a.slot c ob q n hc hx
    obtain ⟨sl',e2⟩:=b.slot c _ e1 (a.free c ob q n hx) hc hx
    exact ⟨sl',e2⟩
  free:=fun c ob q n hx=>by
    obtain ⟨o',e1⟩:=a.there c ob q hx
    exact b.free c o' e1 (a.free c ob q n hx) hx
  there:=fun c ob q hx=>by
    obtain ⟨o',e1⟩:=a.there c ob q hx
    exact b.there c o' e1 hx
  tups:=fun c xs q=>b.tups c xs (a.tups c xs q)
  frzs:=fun c ob xs q=>b.frzs c ob xs (a.frzs c ob xs q)
  tbls:=fun c ps q=>by
    obtain ⟨m1,e1⟩:=a.tbls c ps q
    obtain ⟨m2,e2⟩:=b.tbls c _ e1
    exact ⟨m1++m2,by rw [e2,Array.append_assoc]⟩
theorem Un.kept (k:∀ b u,h.get? b=some u->h'.get? b=some u):Un fs ex H H h h' :=
  ⟨fun b ob q _ _ _=>k b ob q,fun b ob q _ _ _=>⟨ob.slots,k b ob q⟩,fun _ _ _ n _=>n,fun b ob q _=>⟨ob,k b ob q⟩,fun _ _ q=>q,fun _ _ _ q=>q,fun _ ps q=>⟨#[],by rw [q];simp⟩⟩
theorem Un.refl:Un fs ex H H h h:=Un.kept fun _ _ q=>q
theorem Un.laid (k:∀ b u,h.get? b=some u->h'.get? b=some u) (hp:h.objs.size<=a) (hn:H a=none):Un fs ex H (upd H a o) h h' where
  keep:=fun b u q _ _ _=>k b u q
  slot:=fun b u q _ _ _=>⟨u.slots,k b u q⟩
  free:=fun b u q n _=>by rw [upd_ne (Nat.ne_of_lt (Nat.lt_of_lt_of_le (Heap.lt_size q) hp))];exact n
  there:=fun b u q _=>⟨u,k b u q⟩
  tups:=fun b xs q=>by rw [upd_ne (ne_of_none q hn)];exact q
  frzs:=fun b u xs q=>by rw [upd_ne (ne_of_none q hn)];exact q
  tbls:=fun b ps q=>⟨#[],by rw [upd_ne (ne_of_none q hn),q];simp⟩
theorem Un.write (mu:Mut (H x)) (he:e=x\/H e=some (.own x)) (k:∀ b u,b≠e->h.get? b=some u->h'.get? b=some u) (heo:∃ u,h'.get? e=some u):Un fs ex H (upd H x o) h h':=by
  have hx:∀ b,H b=none->b≠x:=fun b n z=>by subst z;rw [n] at mu;exact mu
  have hb:∀ b,H b=none->b≠e:=fun b n z=>by
    subst z
    rcases he with r | r
    · exact hx b n r
    · rw [n] at r;cases r
  have hm:∀ b u,H b=some u->¬ Mut (some u)->b≠x:=fun b u q nm z=>by subst z;rw [q] at mu;exact nm mu
  refine ⟨fun b u q n _ _=>k b u (hb b n) q,fun b u q n _ _=>⟨u.slots,k b u (hb b n) q⟩,fun b u q n _=>by rw [upd_ne (hx b n)];exact n,fun b u q _=>?_,
    fun b xs q=>by rw [upd_ne (hm b _ q fun z=>z)];exact q,fun b u xs q=>by rw [upd_ne (hm b _ q fun z=>z)];exact q,fun b ps q=>⟨#[],by rw [upd_ne (hm b _ q fun z=>z),q];simp⟩⟩
  by_cases hbe:b=e
  · subst hbe;exact heo
  · exact ⟨u,k b u hbe q⟩
theorem Un.mono (u:Un fs ex H H1 h h1) (hs:∀ b∈fs,b∈fs') (hx:∀ b∈ex,b∈ex'):Un fs' ex' H H1 h h1 :=
  ⟨fun b ob q n hb he=>u.keep b ob q n (fun z=>hb (hs b z)) fun z=>he (hx b z),fun _ _ q n _ he=>u.any q n fun z=>he (hx _ z),fun b ob q n he=>u.free b ob q n fun z=>he (hx b z),fun b ob q he=>u.there b ob q fun z=>he (hx b z),u.tups,u.frzs,u.tbls⟩
end
def trk (h:Heap) (H:Hp):List Addr:=(List.range h.objs.size).filter fun a=>(H a).isSome
def hidT (h:Heap) (H:Hp):Heap:=PySem.W.hideAll h (trk h H)
theorem hidT_size (h:Heap) (H:Hp):(hidT h H).objs.size=h.objs.size:=PySem.W.hideAll_size _ _
theorem hidT_get {h:Heap} {H:Hp} {b:Addr} {o:Obj} (e:h.get? b=some o) (n:H b=none):(hidT h H).get? b=some o :=
  PySem.W.hideAll_get _ e fun hm=>by
    have q:(H b).isSome=true:=(List.mem_filter.mp hm).2
    rw [n] at q;simp at q
theorem of_hidT {h:Heap} {H:Hp} {b:Addr} {o:Obj} (e:(hidT h H).get? b=some o):h.get? b=some o/\H b=none:=by
  have e':h.get? b=some o:=PySem.W.of_hideAll (trk h H) e
  refine ⟨e',?_⟩
  cases q:H b with
  | none=>rfl
  | some x =>
    have hm:b∈trk h H:=List.mem_filter.mpr ⟨List.mem_range.mpr (Heap.lt_size e'),by simp [q]⟩
    have z:(hidT h H).get? b=none:=PySem.W.hideAll_none (trk h H) hm
    rw [z] at e;cases e
def allNews (g h:Heap) (L:Addr):List (Addr×Obj):=(List.range h.objs.size).filterMap fun a=>if a=L\/(g.get? a).isSome=true then none else (h.get? a).map fun o=>(a,o)
def rest (g h:Heap) (L d:Addr):List (Addr×Obj):=(allNews g h L).filter fun p=>decide (p.1≠d)
end L2
namespace L2
open PySem PySem.Spec PyProof.Rows
structure Mod (K:PySem.W.Frag) (mg:Str->Option Value) (base:Heap):Prop where
  kin:K.In base
  glob:base.Ns mainGlobals mg
  blt:∃ mb,base.Ns builtinsNs mb/\∀ x:Str,x≠"__name__"->mb x=bootBuiltins x
  nolimit:base.NoLimit
structure Cx where
  prog:Program
  w:World
  K:PySem.W.Frag
  mg:Str->Option Value
  base:Heap
  A:Around
  N:List Str
  s₀:Shared
  H₀:Hp
  env:Env
  outer:List Env
  stack:List Env
  ex:List Addr
  fn:Str->Bool
  calm:Bool
  pn:List (Addr×Obj)
  xe:Value->Shared->Prop
def frs (l:List Env):List Addr:=l.filterMap (·.frame)
abbrev Cx.fs (X:Cx):List Addr:=frs X.outer
def Vis (sc:Scope) (x:Str):Prop:=sc.names.lookup x=some .local\/sc.names.lookup x=some .cell\/sc.names.lookup x=some .free
def Loc (sc:Scope) (x:Str):Prop:=sc.names.lookup x=some .local\/sc.names.lookup x=some .cell
def Look (env:Env) (h:Heap) (m:Str->Option Value) (x:Str) (u:Value):Prop :=
  (env.kindOf x=some .local/\m x=some u)\/((env.kindOf x=some .cell\/env.kindOf x=some .free)/\∃ c,env.cells.lookup x=some c/\h.IsCell c (some u))
structure Cx.Ok (X:Cx):Prop where
  mod:Mod X.K X.mg X.base
  kind:X.env.scope.kind=.function
  glob:X.env.globals=mainGlobals
  blt:X.env.builtins=builtinsNs
  above:X.s₀.heap.objs.size<=X.env.locals
  inj:∀ x y c,X.env.cells.lookup x=some c->X.env.cells.lookup y=some c->x=y
  has:∀ x,(X.env.kindOf x=some .cell\/X.env.kindOf x=some .free)->∃ c,X.env.cells.lookup x=some c
  cab:∀ x c,X.fn x=true->X.env.cells.lookup x=some c->X.s₀.heap.objs.size<=c
  hd:X.calm=true->X.A.handled=none
  frames:X.A.frames=some X.stack
  stk:X.stack=X.outer\/(X.stack=X.env::X.outer/\X.env.frame=some X.env.locals)
  exf:∀ b∈X.ex,b≠X.env.locals/\∀ x c,X.env.cells.lookup x=some c->c≠b
  bs:∀ b o,X.base.get? b=some o->X.s₀.heap.get? b=some o/\X.H₀ b=none
  bsz:X.base.objs.size<=X.s₀.heap.objs.size
  noex:∀ b o,X.base.get? b=some o->b∉X.ex
  exfs:∀ b∈X.ex,b∉X.fs
  funs:X.s₀.heap.FunFrames X.base X.outer
  frf:∀ b∈X.fs,X.H₀ b=none
structure Inv (X:Cx) (pins:List (Addr×Obj)) (σ:List (Option V)) (H:Hp) (s:Shared):Prop where
  ok:X.Ok
  os:s.os=X.s₀.os
  bare:AllBare s.gens
  base:Un X.fs X.ex X.H₀ H X.s₀.heap s.heap
  loc:∃ m,s.heap.Ns X.env.locals m/\∀ (i:Nat) (x:Str) (v:V),X.N[i]?=some x->σ[i]?=some (some v)->Vis X.env.scope x->∃ u,RelV v u/\Look X.env s.heap m x u
  cell:∀ x c,X.env.cells.lookup x=some c->∃ v,s.heap.IsCell c v
  free:H X.env.locals=none
  freeC:∀ x c,X.env.cells.lookup x=some c->H c=none
  pin:∀ p∈X.pn++pins,s.heap.get? p.1=some p.2/\H p.1=none/\p.1≠X.env.locals/\p.1∉X.fs/\∀ v,p.2.data≠.cell v
  hok:HOk X.prog X.w H s.heap
  len:σ.length=X.N.length
section
variable {X:Cx} {pins:List (Addr×Obj)} {σ:List (Option V)} {H H':Hp} {s:Shared} {h':Heap}
theorem Cx.Ok.nofr (ok:X.Ok) {b:Addr} {o:Obj} (e:X.base.get? b=some o):b∉X.fs:=fun hb=>by
  have:=(ok.funs.mem hb).1
  rw [e] at this;cases this
theorem Inv.bs (I:Inv X pins σ H s):∀ b o,X.base.get? b=some o->s.heap.get? b=some o/\H b=none:=fun b o e =>
  ⟨I.base.keep b o (I.ok.bs b o e).1 (I.ok.bs b o e).2 (I.ok.nofr e) (I.ok.noex b o e),I.base.free b o (I.ok.bs b o e).1 (I.ok.bs b o e).2 (I.ok.noex b o e)⟩
theorem Inv.bk (I:Inv X pins σ H s):∀ b o,X.base.get? b=some o->s.heap.get? b=some o:=fun b o e=>(I.bs b o e).1
theorem Inv.mod (I:Inv X pins σ H s):Mod X.K X.mg X.base:=I.ok.mod
theorem Inv.kIn (I:Inv X pins σ H s):X.K.In s.heap:=I.ok.mod.kin.keeps I.bk
theorem Inv.nolimit (I:Inv X pins σ H s):s.heap.NoLimit:=I.ok.mod.nolimit.keeps I.bk
theorem Inv.fr (I:Inv X pins σ H s):∃ m,Fr X.base X.env.locals s.heap m :=
  let ⟨m,hn,_⟩:=I.loc
  ⟨m,hn,I.bk,Nat.le_trans I.ok.bsz I.ok.above⟩
theorem Inv.lt (I:Inv X pins σ H s):X.env.locals < s.heap.objs.size:=let ⟨_,hn,_⟩:=I.loc;hn.lt
theorem Inv.sz (I:Inv X pins σ H s):X.s₀.heap.objs.size<=s.heap.objs.size:=Nat.le_trans I.ok.above (Nat.le_of_lt I.lt)
theorem Inv.nofs (I:Inv X pins σ H s) {a:Addr} (h:s.heap.objs.size<=a):a∉X.fs:=fun hb=>by
  obtain ⟨_,o,ho,_⟩:=I.ok.funs.mem hb
  exact absurd (Nat.lt_of_lt_of_le (Heap.lt_size ho) (Nat.le_trans I.sz h)) (Nat.lt_irrefl _)
theorem Inv.cne (I:Inv X pins σ H s):∀ x c,X.env.cells.lookup x=some c->c≠X.env.locals:=fun x c e z=>by
  obtain ⟨v,o,ho,hd⟩:=I.cell x c e
  obtain ⟨m,⟨o',es,ep,ho',hd',_⟩,_⟩:=I.loc
  rw [z,ho'] at ho;cases ho;rw [hd'] at hd;cases hd
theorem Inv.funs (I:Inv X pins σ H s):s.heap.FunFrames X.base X.outer:=by
  have all:∀ (l:List Env),(∀ b∈frs l,b∈X.fs)->X.s₀.heap.FunFrames X.base l->s.heap.FunFrames X.base l:=by
    intro l
    induction l with
    | nil=>intro _ _;trivial
    | cons env r ih =>
      intro hs hl
      obtain ⟨hk,⟨L,o,hf,hn,ho,hd⟩,hr⟩:=hl
      have hL:L∈X.fs:=hs L (by unfold frs;rw [List.filterMap_cons,hf];exact List.mem_cons_self)
      obtain ⟨sl,e⟩:=I.base.slot L o ho (I.ok.frf L hL) hL fun z=>I.ok.exfs L z hL
      exact ⟨hk,⟨L,_,hf,hn,e,hd⟩,ih (fun b hb=>hs b (by unfold frs;rw [List.filterMap_cons,hf];exact List.mem_cons_of_mem _ hb)) hr⟩
  exact all X.outer (fun _ hb=>hb) I.ok.funs
theorem Inv.stack (I:Inv X pins σ H s):s.heap.FunFrames X.base X.stack:=by
  rcases I.ok.stk with e | ⟨e,hf⟩
  · rw [e];exact I.funs
  · rw [e]
    obtain ⟨m,hn,_⟩:=I.loc
    refine .cons (by rw [I.ok.kind];decide) hf hn ?_ I.funs
    exact Heap.get?_none_of_le (Nat.le_trans I.ok.bsz I.ok.above)
theorem Inv.stkSub (I:Inv X pins σ H s):∀ b∈frs X.stack,b∈X.env.locals::X.fs:=fun b hb=>by
  rcases I.ok.stk with e | ⟨e,hf⟩
  · rw [e] at hb;exact List.mem_cons_of_mem _ hb
  · rw [e] at hb
    unfold frs at hb
    rw [List.filterMap_cons,hf] at hb
    exact hb
theorem Inv.stkFree (I:Inv X pins σ H s):∀ b∈frs X.stack,H b=none:=fun b hb=>by
  rcases List.mem_cons.mp (I.stkSub b hb) with e | hb
  · rw [e];exact I.free
  · obtain ⟨_,o,ho,_⟩:=I.ok.funs.mem hb
    exact I.base.free b o ho (I.ok.frf b hb) fun z=>I.ok.exfs b z hb
theorem Inv.step {g':Array GenState} {t':Nat} {d':Drawn} {ch:List Addr} (I:Inv X pins σ H s)
    (hch:∀ b∈ch,(b∈X.ex\/X.s₀.heap.objs.size<=b)/\b≠X.env.locals/\(∀ x c,X.env.cells.lookup x=some c->c≠b)/\∀ p∈X.pn++pins,p.1≠b)
    (keep:∀ b o,b≠X.env.locals->b∉X.fs->b∉ch->s.heap.get? b=some o->H b=none->h'.get? b=some o)
    (slot:∀ b o,b≠X.env.locals->b∈X.fs->b∉ch->s.heap.get? b=some o->H b=none->∃ sl,h'.get? b=some { o with slots:=sl }) (free:∀ b o,b∉ch->s.heap.get? b=some o->H b=none->H' b=none)
    (there:∀ b o,b∉ch->s.heap.get? b=some o->∃ o',h'.get? b=some o')
    (tups:∀ b xs,H b=some (.tup xs)->H' b=some (.tup xs)) (frzs:∀ b o u,H b=some (.frz o u)->H' b=some (.frz o u)) (tbls:∀ b ps,H b=some (.tbl ps)->∃ more,H' b=some (.tbl (ps++more)))
    (ns:∀ m,s.heap.Ns X.env.locals m->h'.Ns X.env.locals m) (hok:HOk X.prog X.w H' h') (hg:AllBare g') :
    Inv X pins σ H' { s with heap:=h',gens:=g',drawn:=d',toks:=t' }:=by
  have neL:∀ b o,X.s₀.heap.get? b=some o->b≠X.env.locals:=fun b o e=>Nat.ne_of_lt (Nat.lt_of_lt_of_le (Heap.lt_size e) I.ok.above)
  have neC:∀ b o,X.s₀.heap.get? b=some o->b∉X.ex->b∉ch:=fun b o e hx hb=>by
    rcases (hch b hb).1 with z | z
    · exact hx z
    · exact absurd (Nat.lt_of_lt_of_le (Heap.lt_size e) z) (Nat.lt_irrefl _)
  have cellK:∀ x c,X.env.cells.lookup x=some c->∀ v,s.heap.IsCell c v->h'.IsCell c v:=fun x c e v ⟨o,ho,hd⟩=>by
    have nch:c∉ch:=fun z=>(hch c z).2.2.1 x c e rfl
    by_cases hc:c∈X.fs
    · obtain ⟨sl,q⟩:=slot c o (I.cne x c e) hc nch ho (I.freeC x c e)
      exact ⟨_,q,hd⟩
    · exact ⟨o,keep c o (I.cne x c e) hc nch ho (I.freeC x c e),hd⟩
  refine ⟨I.ok,I.os,hg,⟨fun b o e n hb hx=>?_,fun b o e n hb hx=>?_,fun b o e n hx=>?_,fun b o e hx=>?_,fun b xs e=>tups b xs (I.base.tups b xs e),fun b o xs e=>frzs b o xs (I.base.frzs b o xs e),fun b ps e=>?_⟩,?_,fun x c e=>?_,?_,fun x c e=>?_,fun p hp=>?_,hok,I.len⟩
  · exact keep b o (neL b o e) hb (neC b o e hx) (I.base.keep b o e n hb hx) (I.base.free b o e n hx)
  · obtain ⟨sl,e1⟩:=I.base.slot b o e n hb hx
    obtain ⟨sl',e2⟩:=slot b _ (neL b o e) hb (neC b o e hx) e1 (I.base.free b o e n hx)
    exact ⟨sl',e2⟩
  · obtain ⟨o',e1⟩:=I.base.there b o e hx
    exact free b o' (neC b o e hx) e1 (I.base.free b o e n hx)
  · obtain ⟨o',e1⟩:=I.base.there b o e hx
    exact there b o' (neC b o e hx) e1
  · obtain ⟨m1,e1⟩:=I.base.tbls b ps e
    obtain ⟨m2,e2⟩:=tbls b _ e1
    exact ⟨m1++m2,by rw [e2,Array.append_assoc]⟩
  · obtain ⟨m,hn,hl⟩:=I.loc
    refine ⟨m,ns m hn,fun i x v e1 e2 e3=>?_⟩
    obtain ⟨u,r,l⟩:=hl i x v e1 e2 e3
    refine ⟨u,r,?_⟩
    rcases l with l | ⟨k,c,e,z⟩
    · exact .inl l
    · exact .inr ⟨k,c,e,cellK x c e _ z⟩
  · obtain ⟨v,z⟩:=I.cell x c e
    exact ⟨v,cellK x c e v z⟩
  · obtain ⟨m,⟨o,_,_,ho,_⟩,_⟩:=I.loc
    exact free _ o (fun z=>(hch _ z).2.1 rfl) ho I.free
  · obtain ⟨v,o,ho,hd⟩:=I.cell x c e
    exact free c o (fun z=>(hch c z).2.2.1 x c e rfl) ho (I.freeC x c e)
  · obtain ⟨e,n,ne,nf,d⟩:=I.pin p hp
    have nch:p.1∉ch:=fun z=>(hch p.1 z).2.2.2 p hp rfl
    exact ⟨keep p.1 p.2 ne nf nch e n,free p.1 p.2 nch e n,ne,nf,d⟩
theorem Inv.un {t':Nat} (I:Inv X pins σ H s) (u:Un X.fs [] H H' s.heap h') (hok:HOk X.prog X.w H' h'):Inv X pins σ H' { s with heap:=h',toks:=t' }:=by
  obtain ⟨m,⟨o,es,ep,ho,r⟩,_⟩:=id I.loc
  obtain ⟨sl,hL⟩:=u.any ho I.free (by simp)
  exact I.step (g':=s.gens) (d':=s.drawn) (ch:=[]) (fun _ z=>nomatch z) (fun b o _ hb _ e n=>u.keep b o e n hb (by simp)) (fun b o _ hb _ e n=>u.slot b o e n hb (by simp)) (fun b o _ e n=>u.free b o e n (by simp)) (fun b o _ e=>u.there b o e (by simp)) u.tups u.frzs u.tbls (fun m' hm=>by
    obtain ⟨o',es',ep',ho',r'⟩:=hm
    rw [ho] at ho';cases ho'
    exact ⟨_,es',ep',hL,r'⟩) hok I.bare
theorem Inv.call {g':Array GenState} {t':Nat} {d':Drawn} {ch:List Addr} (I:Inv X pins σ H s) (u:Un (frs X.stack) ch H H' s.heap h') (hok:HOk X.prog X.w H' h') (hg:AllBare g')
    (hch:∀ b∈ch,(b∈X.ex\/X.s₀.heap.objs.size<=b)/\b≠X.env.locals/\(∀ x c,X.env.cells.lookup x=some c->c≠b)/\∀ p∈X.pn++pins,p.1≠b) :
    Inv X pins σ H' { s with heap:=h',gens:=g',drawn:=d',toks:=t' }:=by
  obtain ⟨m,⟨o,es,ep,ho,r⟩,_⟩:=id I.loc
  obtain ⟨sl,hL⟩:=u.any ho I.free fun z=>(hch _ z).2.1 rfl
  exact I.step (ch:=ch) hch (fun b o hL hb hc e n=>u.keep b o e n (fun z=>(List.mem_cons.mp (I.stkSub b z)).elim hL hb) hc) (fun b o _ _ hc e n=>u.any e n hc) (fun b o hc e n=>u.free b o e n hc) (fun b o hc e=>u.there b o e hc) u.tups u.frzs u.tbls (fun m' hm=>by
    obtain ⟨o',es',ep',ho',r'⟩:=hm
    rw [ho] at ho';cases ho'
    exact ⟨_,es',ep',hL,r'⟩) hok hg
theorem Inv.turned {t':Nat} {it:Addr} (I:Inv X pins σ H s) (k:∀ b o,b≠it->s.heap.get? b=some o->h'.get? b=some o) (hn:H it=none) (hL:it≠X.env.locals)
    (h1:it∈X.ex\/X.s₀.heap.objs.size<=it) (h2:∀ x c,X.env.cells.lookup x=some c->c≠it) (h3:∀ p∈X.pn++pins,p.1≠it):Inv X pins σ H { s with heap:=h',toks:=t' }:=by
  have nit:∀ b u,H b=some u->b≠it:=fun b u e z=>by rw [z,hn] at e;cases e
  refine I.step (g':=s.gens) (d':=s.drawn) (ch:=[it]) (fun b hb=>?_) (fun b o _ _ hc e _=>k b o (fun z=>hc (by simp [z])) e) (fun b o _ _ hc e _=>⟨o.slots,k b o (fun z=>hc (by simp [z])) e⟩) (fun _ _ _ _ n=>n)
    (fun b o hc e=>⟨o,k b o (fun z=>hc (by simp [z])) e⟩) (fun _ _ e=>e) (fun _ _ _ e=>e) (fun b ps e=>⟨#[],by rw [e];simp⟩) (fun m hm=>?_) (fun b u e=>?_) I.bare
  · have e:b=it:=by simpa using hb
    subst e
    exact ⟨h1,hL,h2,h3⟩
  · obtain ⟨o,es,ep,ho,r⟩:=hm
    exact ⟨o,es,ep,k _ o (Ne.symm hL) ho,r⟩
  · refine (I.hok b u e).stay (fun c v hc q=>k c v ?_ q) (fun _ q=>q) fun _ _ q=>q
    rcases hc with z | z
    · rw [z];exact nit b u e
    · exact nit c _ z
theorem Inv.tok (I:Inv X pins σ H s) (t:Nat):Inv X pins σ H { s with toks:=t }:=I.un (h':=s.heap) (t':=t) Un.refl I.hok
theorem Inv.kept {t':Nat} (I:Inv X pins σ H s) (k:∀ b u,s.heap.get? b=some u->h'.get? b=some u):Inv X pins σ H { s with heap:=h',toks:=t' }:=I.un (Un.kept k) (I.hok.kept k)
theorem Inv.laid {a:Addr} {o:HO} {t':Nat} (I:Inv X pins σ H s) (k:∀ b u,s.heap.get? b=some u->h'.get? b=some u) (hp:s.heap.objs.size<=a) (new:ObjOk X.prog X.w (upd H a o) h' a o) :
    Inv X pins σ (upd H a o) { s with heap:=h',toks:=t' }:=I.un (Un.laid k hp (I.hok.fresh hp)) (I.hok.laid k hp new)
theorem Inv.write {x e:Addr} {o:HO} {t':Nat} (I:Inv X pins σ H s) (mu:Mut (H x)) (he:e=x\/H e=some (.own x)) (k:∀ b u,b≠e->s.heap.get? b=some u->h'.get? b=some u) (heo:∃ u,h'.get? e=some u)
    (new:ObjOk X.prog X.w (upd H x o) h' x o):Inv X pins σ (upd H x o) { s with heap:=h',toks:=t' }:=I.un (Un.write mu he k heo) (I.hok.write mu he k heo new)
theorem Inv.weak {σ':List (Option V)} (I:Inv X pins σ H s) (hl:σ'.length=σ.length) (w:∀ (i:Nat) v,σ'[i]?=some (some v)->σ[i]?=some (some v)):Inv X pins σ' H s :=
  ⟨I.ok,I.os,I.bare,I.base,let ⟨m,hn,hl'⟩:=I.loc;⟨m,hn,fun i x v e1 e2 e3=>hl' i x v e1 (w i v e2) e3⟩,I.cell,I.free,I.freeC,I.pin,I.hok,hl.trans I.len⟩
theorem Inv.pins_of {pins':List (Addr×Obj)} (I:Inv X pins σ H s) (h:∀ p∈pins',s.heap.get? p.1=some p.2/\H p.1=none/\p.1≠X.env.locals/\p.1∉X.fs/\∀ v,p.2.data≠.cell v):Inv X pins' σ H s :=
  ⟨I.ok,I.os,I.bare,I.base,I.loc,I.cell,I.free,I.freeC,fun p hp=>(List.mem_append.mp hp).elim (fun z=>I.pin p (List.mem_append_left _ z)) (h p),I.hok,I.len⟩
theorem nodup_ix {N:List Str} (hN:N.Nodup) {i j:Nat} {x:Str} (a:N[i]?=some x) (b:N[j]?=some x):i=j:=by
  obtain ⟨h1,e1⟩:=List.getElem?_eq_some_iff.mp a
  obtain ⟨h2,e2⟩:=List.getElem?_eq_some_iff.mp b
  exact (List.getElem_inj hN).mp (e1.trans e2.symm)
theorem store_ok2 {M:Model} {A:Around} {E:Value->Shared->Prop} {i:Nat} {x:Str} {v:V} {u:Value} {Q:Unit->Shared->Prop} (I:Inv X pins σ H s) (hN:X.N.Nodup) (hi:X.N[i]?=some x) (hx:Loc X.env.scope x) (r:RelV v u)
    (h:∀ s',Inv X pins (σ.set i (some v)) H s'->(∃ a,Heap.SameBut a s.heap s'.heap/\(a=X.env.locals\/X.env.cells.lookup x=some a))->Q () s') (hf:X.fn x=true\/X.env.scope.names.lookup x=some .local:=by first | exact .inl rfl | exact .inr rfl | assumption):wpAny M A (storeName X.env x u) Q E s:=by
  obtain ⟨m,hn,hl⟩:=id I.loc
  have hcls:(X.env.scope.kind == .class || (X.env.scope.kind == .module && X.env.locals != X.env.globals))=false:=by rw [I.ok.kind];rfl
  have hiσ:i < σ.length:=by rw [I.len];exact (List.getElem?_eq_some_iff.mp hi).1
  have cne:=I.cne
  have tracked:∀ {a:Addr} {h':Heap},(∃ o,s.heap.get? a=some o/\H a=none)->Heap.SameBut a s.heap h'->HOk X.prog X.w H h':=fun {a h'} ha hs b ob e=>by
    obtain ⟨_,_,hfree⟩:=ha
    refine (I.hok b ob e).stay (fun c w' hc q=>(hs.2 c ?_).trans q) (fun _ q=>q) fun _ _ q=>q
    rintro rfl
    rcases hc with rfl | hc
    · rw [hfree] at e;cases e
    · rw [hfree] at hc;cases hc
  rcases hx with hk | hk
  · refine wpAny_storeName_local hk hn (fun h' hn' hs=>?_) hcls
    obtain ⟨oL,_,_,hoL,_⟩:=id hn
    refine h _ ⟨I.ok,I.os,I.bare,⟨fun b o e n hb hx=>?_,fun b o e n hb hx=>?_,I.base.free,fun b o e hx=>?_,I.base.tups,I.base.frzs,I.base.tbls⟩,⟨_,hn',fun j y v' e1 e2 e3=>?_⟩,fun y c e=>?_,I.free,I.freeC,fun p hp=>?_,tracked ⟨oL,hoL,I.free⟩ hs,by simpa using I.len⟩ ⟨_,hs,.inl rfl⟩
    · exact (hs.2 b (Nat.ne_of_lt (Nat.lt_of_lt_of_le (Heap.lt_size e) I.ok.above))).trans (I.base.keep b o e n hb hx)
    · obtain ⟨sl,e1⟩:=I.base.slot b o e n hb hx
      exact ⟨sl,(hs.2 b (Nat.ne_of_lt (Nat.lt_of_lt_of_le (Heap.lt_size e) I.ok.above))).trans e1⟩
    · obtain ⟨o',e1⟩:=I.base.there b o e hx
      exact ⟨o',(hs.2 b (Nat.ne_of_lt (Nat.lt_of_lt_of_le (Heap.lt_size e) I.ok.above))).trans e1⟩
    · by_cases hj:j=i
      · subst hj
        rw [hi] at e1;cases e1
        rw [List.getElem?_set_self hiσ] at e2
        cases e2
        exact ⟨u,r,.inl ⟨hk,by simp⟩⟩
      · rw [List.getElem?_set_ne (Ne.symm hj)] at e2
        obtain ⟨u',r',q⟩:=hl j y v' e1 e2 e3
        refine ⟨u',r',?_⟩
        rcases q with ⟨k,e⟩ | ⟨k,c,e,z⟩
        · refine .inl ⟨k,?_⟩
          have:y≠x:=fun e=>hj (nodup_ix hN e1 (e ▸ hi))
          simp [this,e]
        · exact .inr ⟨k,c,e,z.sameBut hs (cne y c e)⟩
    · obtain ⟨w',z⟩:=I.cell y c e
      exact ⟨w',z.sameBut hs (cne y c e)⟩
    · obtain ⟨e,n,ne,nf,d⟩:=I.pin p hp
      exact ⟨(hs.2 p.1 ne).trans e,n,ne,nf,d⟩
  · have hfn:X.fn x=true:=by
      rcases hf with z | z
      · exact z
      · rw [z] at hk;cases hk
    obtain ⟨c,hc⟩:=I.ok.has x (.inl hk)
    obtain ⟨w',z⟩:=I.cell x c hc
    refine wpAny_storeName_cell I.ok.kind hk hc z (fun h' hc' hs=>?_)
    obtain ⟨oc,hoc,hocd⟩:=id z
    refine h { s with heap:=h' } ⟨I.ok,I.os,I.bare,⟨fun b o e n hb hx=>?_,fun b o e n hb hx=>?_,I.base.free,fun b o e hx=>?_,I.base.tups,I.base.frzs,I.base.tbls⟩,⟨m,hn.sameBut hs (Ne.symm (cne x c hc)),fun j y v' e1 e2 e3=>?_⟩,fun y c' e=>?_,I.free,I.freeC,fun p hp=>?_,tracked ⟨oc,hoc,I.freeC x c hc⟩ hs,by simpa using I.len⟩ ⟨c,hs,.inr hc⟩
    · exact (hs.2 b (Nat.ne_of_lt (Nat.lt_of_lt_of_le (Heap.lt_size e) (I.ok.cab x c hfn hc)))).trans (I.base.keep b o e n hb hx)
    · obtain ⟨sl,e1⟩:=I.base.slot b o e n hb hx
      exact ⟨sl,(hs.2 b (Nat.ne_of_lt (Nat.lt_of_lt_of_le (Heap.lt_size e) (I.ok.cab x c hfn hc)))).trans e1⟩
    · obtain ⟨o',e1⟩:=I.base.there b o e hx
      exact ⟨o',(hs.2 b (Nat.ne_of_lt (Nat.lt_of_lt_of_le (Heap.lt_size e) (I.ok.cab x c hfn hc)))).trans e1⟩
    · by_cases hj:j=i
      · subst hj
        rw [hi] at e1;cases e1
        rw [List.getElem?_set_self hiσ] at e2
        cases e2
        exact ⟨u,r,.inr ⟨.inl hk,c,hc,hc'⟩⟩
      · rw [List.getElem?_set_ne (Ne.symm hj)] at e2
        obtain ⟨u',r',q⟩:=hl j y v' e1 e2 e3
        refine ⟨u',r',?_⟩
        rcases q with q | ⟨k,c',e,z'⟩
        · exact .inl q
        · refine .inr ⟨k,c',e,z'.sameBut hs ?_⟩
          rintro rfl
          exact hj (nodup_ix hN e1 (I.ok.inj _ _ _ e hc ▸ hi))
    · by_cases hcc:c'=c
      · subst hcc;exact ⟨_,hc'⟩
      · obtain ⟨w2,z2⟩:=I.cell y c' e
        exact ⟨w2,z2.sameBut hs hcc⟩
    · obtain ⟨e,n,ne,nf,d⟩:=I.pin p hp
      refine ⟨(hs.2 p.1 ?_).trans e,n,ne,nf,d⟩
      intro q
      rw [q,hoc] at e
      have q':oc=p.2:=Option.some.inj e
      exact d w' (by rw [<- q'];exact hocd)
theorem store_ok {M:Model} {A:Around} {E:Value->Shared->Prop} {i:Nat} {x:Str} {v:V} {u:Value} {Q:Unit->Shared->Prop} (I:Inv X pins σ H s) (hN:X.N.Nodup) (hi:X.N[i]?=some x) (hx:Loc X.env.scope x) (r:RelV v u)
    (h:∀ s',Inv X pins (σ.set i (some v)) H s'->Q () s') (hf:X.fn x=true\/X.env.scope.names.lookup x=some .local:=by first | exact .inl rfl | exact .inr rfl | assumption):wpAny M A (storeName X.env x u) Q E s :=
  store_ok2 I hN hi hx r (fun s' I' _=>h s' I') hf
theorem Inv.call' {s':Shared} {ch:List Addr} (I:Inv X pins σ H s) (ho:s'.os=s.os) (u:Un (frs X.stack) ch H H' s.heap s'.heap) (hok:HOk X.prog X.w H' s'.heap) (hg:AllBare s'.gens)
    (hch:∀ b∈ch,(b∈X.ex\/X.s₀.heap.objs.size<=b)/\b≠X.env.locals/\(∀ x c,X.env.cells.lookup x=some c->c≠b)/\∀ p∈X.pn++pins,p.1≠b):Inv X pins σ H' s':=by
  obtain ⟨h',g',d',t',o'⟩:=s'
  have e:o'=s.os:=ho
  subst e
  exact I.call (g':=g') (t':=t') (d':=d') u hok hg hch
end
abbrev XK:=Value->Option Addr->Hp->Prop
abbrev St:=List (Option V)
abbrev VK:=V->Hp->Prop
abbrev TE:=St->Hp->VK->Prop
abbrev TT:=St->Hp->(Bool->Hp->Prop)->Prop
abbrev TA:=St->Hp->(List V->Hp->Prop)->Prop
structure Ends where
  nx:St->Hp->Prop
  rt:VK
  bk:St->Hp->Prop:=fun _ _=>False
  ct:St->Hp->Prop:=fun _ _=>False
abbrev TS:=Ends->St->Hp->Prop
def EP (X:Cx) (pins:List (Addr×Obj)) (σ:St) (Q:VK) (u:Value) (s':Shared):Prop:=∃ v H',Inv X pins σ H' s'/\RelV v u/\Q v H'
def TP (X:Cx) (pins:List (Addr×Obj)) (σ:St) (Q:Bool->Hp->Prop) (b:Bool) (s':Shared):Prop:=∃ H',Inv X pins σ H' s'/\Q b H'
def AP (X:Cx) (pins:List (Addr×Obj)) (σ:St) (Q:List V->Hp->Prop) (us:List Value) (s':Shared):Prop:=∃ vs H',Inv X pins σ H' s'/\Vals vs us/\Q vs H'
def SP (X:Cx) (pins:List (Addr×Obj)) (D:Ends) (f:Flow) (s':Shared):Prop :=
  match f with
  | .next=>∃ σ' H',Inv X pins σ' H' s'/\D.nx σ' H'
  | .brk=>∃ σ' H',Inv X pins σ' H' s'/\D.bk σ' H'
  | .cont=>∃ σ' H',Inv X pins σ' H' s'/\D.ct σ' H'
  | .ret u=>∃ v σ' H',Inv X pins σ' H' s'/\RelV v u/\D.rt v H'
def PE (X:Cx) (e:Expr) (t:TE):Prop :=
  ∀ (pins:List (Addr×Obj)) (s:Shared) (σ:St) (H:Hp) (Q:VK),Inv X pins σ H s->t σ H Q->wpAny (model X.prog X.w) X.A (eval e X.env) (EP X pins σ Q) X.xe s
def PT (X:Cx) (e:Expr) (t:TT):Prop :=
  ∀ (pins:List (Addr×Obj)) (s:Shared) (σ:St) (H:Hp) (Q:Bool->Hp->Prop),Inv X pins σ H s->t σ H Q->wpAny (model X.prog X.w) X.A (isTrue e X.env (eval e X.env)) (TP X pins σ Q) X.xe s
def PW (X:Cx) (e:Expr) (t:TT):Prop :=
  ∀ (whole:Sem Value) (pins:List (Addr×Obj)) (s:Shared) (σ:St) (H:Hp) (Q:Bool->Hp->Prop),Inv X pins σ H s->t σ H Q->wpAny (model X.prog X.w) X.A (isTrue e X.env whole) (TP X pins σ Q) X.xe s
theorem PW.pt {X:Cx} {e:Expr} {t:TT} (h:PW X e t):PT X e t:=h _
def PA (X:Cx) (es:List Expr) (t:TA):Prop :=
  ∀ (pos:Pos) (pins:List (Addr×Obj)) (s:Shared) (σ:St) (H:Hp) (Q:List V->Hp->Prop),Inv X pins σ H s->t σ H Q->wpAny (model X.prog X.w) X.A (spliced (backTo pos (starEach es X.env))) (AP X pins σ Q) X.xe s
def PS (X:Cx) (st:Stmt) (t:TS):Prop :=
  ∀ (pins:List (Addr×Obj)) (s:Shared) (σ:St) (H:Hp) (D:Ends),Inv X pins σ H s->t D σ H->wpAny (model X.prog X.w) X.A (exec st X.env) (SP X pins D) X.xe s
def PSs (X:Cx) (st:List Stmt) (t:TS):Prop :=
  ∀ (pins:List (Addr×Obj)) (s:Shared) (σ:St) (H:Hp) (D:Ends),Inv X pins σ H s->t D σ H->wpAny (model X.prog X.w) X.A (execs st X.env) (SP X pins D) X.xe s
theorem thn {α:Type} {t:Sem α} {Q Q':α->Shared->Prop} {M:Model} {A:Around} {E:Value->Shared->Prop} {s:Shared} (h:wpAny M A t Q E s) (hQ:∀ a s,Q a s->Q' a s):wpAny M A t Q' E s:=wpAny_mono h hQ fun _ _ x=>x
end L2
namespace L2
open PySem PySem.Spec PyProof.Rows
section
variable {X:Cx}
theorem bin {a b:Expr} {ta tb:TE} (ha:PE X a ta) (hb:PE X b tb) {pins:List (Addr×Obj)} {s:Shared} {σ:St} {H:Hp} {R:V->V->Hp->Prop} (I:Inv X pins σ H s) (h:ta σ H fun x H1=>tb σ H1 fun y H2=>R x y H2)
    {α:Type} {Q:α->Shared->Prop} {f:Value->Value->Sem α}
    (hf:∀ v u s2 x y H2,Inv X pins σ H2 s2->RelV x v->RelV y u->R x y H2->wpAny (model X.prog X.w) X.A (f v u) Q X.xe s2) :
    wpAny (model X.prog X.w) X.A (eval a X.env) (fun v s₁=>wpAny (model X.prog X.w) X.A (eval b X.env) (fun u s₂=>wpAny (model X.prog X.w) X.A (f v u) Q X.xe s₂) X.xe s₁) X.xe s:=by
  refine thn (ha pins s σ H _ I h) fun v s1 ⟨x,H1,I1,r1,q1⟩=>?_
  refine thn (hb pins s1 σ H1 _ I1 q1) fun u s2 ⟨y,H2,I2,r2,q2⟩=>?_
  exact hf v u s2 x y H2 I2 r1 r2 q2
def tVar (i:Nat):TE:=fun σ H Q=>∃ v,σ[i]?=some (some v)/\Q v H
def tC (v:V):TE:=fun _ H Q=>Q v H
theorem pe_var {i:Nat} {x:Str} {pos:Pos} (hN:X.N[i]?=some x) (hv:Vis X.env.scope x) (hd:(x == ("__debug__":Str))=false:=by decide) (hcd:(x == ("__classdict__":Str))=false:=by decide):PE X (.Name x pos) (tVar i):=by
  intro pins s σ H Q I h
  obtain ⟨v,e,h⟩:=h
  obtain ⟨m,hn,hl⟩:=I.loc
  obtain ⟨u,r,l⟩:=hl i x v hN e hv
  have fin:EP X pins σ Q u s:=⟨v,H,I,r,h⟩
  rcases l with ⟨hk,hm⟩ | ⟨hk,c,hc,hcell⟩
  · exact wpAny_Name (wpAny_loadName_local I.ok.kind hk hn hm fin) hd
  · rcases hk with hk | hk
    · exact wpAny_Name (wpAny_loadName_cell I.ok.kind hk hc hcell fin) hd
    · exact wpAny_Name (wpAny_loadName_free I.ok.kind hk hc hcell fin hcd) hd
theorem pe_int {i j pos}:PE X (.Constant (.int i) j pos) (tC (.int i)):=fun _ _ _ H _ I h=>wpAny_Constant_int ⟨.int i,H,I.tok _,⟨_,rfl⟩,h⟩
theorem pe_bl {b j pos}:PE X (.Constant (.bool b) j pos) (tC (.bl b)):=fun _ _ _ H _ I h=>Constant_bool ⟨.bl b,H,I,rfl,h⟩
theorem pe_non {j pos}:PE X (.Constant .none j pos) (tC .non):=fun _ _ _ H _ I h=>Constant_none ⟨.non,H,I,rfl,h⟩
theorem pe_str {x j pos}:PE X (.Constant (.str x) j pos) (tC (.str x)):=fun _ _ _ H _ I h=>Calls.Constant_str ⟨.str x,H,I.tok _,⟨_,rfl⟩,h⟩
def Gl (X:Cx) (x:Str):Prop:=X.env.kindOf x=some .globalImplicit
theorem ld_glob {E:Value->Shared->Prop} {pins:List (Addr×Obj)} {s:Shared} {σ:St} {H:Hp} {x:Str} {u:Value} {pos:Pos} {Q:Value->Shared->Prop} (I:Inv X pins σ H s) (hg:Gl X x) (hm:X.mg x=some u) (h:Q u s)
    (hd:(x == ("__debug__":Str))=false:=by decide):wpAny (model X.prog X.w) X.A (eval (.Name x pos) X.env) Q E s :=
  Calls.Name_function_global I.ok.kind hg (Calls.loadGlobal_global (by rw [I.ok.glob];exact I.mod.glob.keeps I.bk) hm h) hd
theorem ld_blt {E:Value->Shared->Prop} {pins:List (Addr×Obj)} {s:Shared} {σ:St} {H:Hp} {x:Str} {u:Value} {pos:Pos} {Q:Value->Shared->Prop} (I:Inv X pins σ H s) (hg:Gl X x) (hm:X.mg x=none) (hv:bootBuiltins x=some u) (h:Q u s)
    (hn:x≠"__name__":=by decide) (hd:(x == ("__debug__":Str))=false:=by decide):wpAny (model X.prog X.w) X.A (eval (.Name x pos) X.env) Q E s:=by
  obtain ⟨mb,h1,h2⟩:=I.mod.blt
  exact Calls.Name_function_global I.ok.kind hg (Calls.loadGlobal_builtin (by rw [I.ok.glob];exact I.mod.glob.keeps I.bk) hm (by rw [I.ok.blt];exact h1.keeps I.bk) ((h2 x hn).trans hv) h) hd
theorem pe_glob {x:Str} {v:V} {u:Value} {pos:Pos} (hg:Gl X x) (hm:X.mg x=some u) (r:RelV v u) (hd:(x == ("__debug__":Str))=false:=by decide):PE X (.Name x pos) (tC v) :=
  fun _ _ _ H _ I h=>ld_glob I hg hm ⟨v,H,I,r,h⟩ hd
theorem pe_bltn {x:Str} {v:V} {u:Value} {pos:Pos} (hg:Gl X x) (hm:X.mg x=none) (hv:bootBuiltins x=some u) (r:RelV v u) (hn:x≠"__name__":=by decide) (hd:(x == ("__debug__":Str))=false:=by decide):PE X (.Name x pos) (tC v) :=
  fun _ _ _ H _ I h=>ld_blt I hg hm hv ⟨v,H,I,r,h⟩ hn hd
variable {a b:Expr} {ta tb:TE} {pos:Pos}
variable {tA tB':TT} {rest:List Expr}
def tOr (t u:TT):TT:=fun σ H Q=>t σ H fun c H1=>if c=true then Q true H1 else u σ H1 Q
def tNot (t:TT):TT:=fun σ H Q=>t σ H fun c H1=>Q (!c) H1
theorem pw_or1 (ha:PT X a tA):PW X (.BoolOp .Or [a] pos) tA:=by
  intro wh pins s σ H Q I h
  refine isTrue_or (thn (ha pins s σ H Q I h) fun c s1 e=>?_)
  cases c with
  | false=>exact isTrue_or_nil e
  | true=>exact e
theorem pw_or (ha:PT X a tA) (hb:PW X (.BoolOp .Or (b::rest) pos) tB'):PW X (.BoolOp .Or (a::b::rest) pos) (tOr tA tB'):=by
  intro wh pins s σ H Q I h
  refine isTrue_or (thn (ha pins s σ H _ I h) fun c s1 ⟨H1,I1,q1⟩=>?_)
  cases c with
  | true=>exact ⟨H1,I1,q1⟩
  | false=>exact hb wh pins s1 σ H1 Q I1 q1
theorem pt_not (ha:PT X a tA):PT X (.UnaryOp .Not a pos) (tNot tA):=by
  intro pins s σ H Q I h
  exact isTrue_not (ha pins s σ H (fun c H1=>Q (!c) H1) I h)
def tAndV (ta tb:TE):TE:=fun σ H Q=>ta σ H fun x H1=>∃ c,x=.bl c/\if c=true then tb σ H1 Q else Q (.bl false) H1
def tNotV (ta:TE):TE:=fun σ H Q=>ta σ H fun x H1=>∃ c,x=.bl c/\Q (.bl (!c)) H1
theorem pe_one {op} {t:TE} (h:PE X a t):PE X (.BoolOp op [a] pos) t:=fun pins s σ H Q I hw=>BoolOp_one (h pins s σ H Q I hw)
theorem pe_and (ha:PE X a ta) (hb:PE X (.BoolOp .And (b::rest) pos) tb):PE X (.BoolOp .And (a::b::rest) pos) (tAndV ta tb):=by
  intro pins s σ H Q I h
  refine BoolOp_and (thn (ha pins s σ H _ I h) fun v s1 ⟨x,H1,I1,r1,q1⟩=>?_)
  obtain ⟨c,rfl,q1⟩:=q1
  cases r1
  refine wpAny_truthy_bool ?_
  cases c with
  | true=>exact hb pins s1 σ H1 Q I1 q1
  | false=>exact ⟨.bl false,H1,I1,rfl,q1⟩
theorem pe_not (ha:PE X a ta):PE X (.UnaryOp .Not a pos) (tNotV ta):=by
  intro pins s σ H Q I h
  refine UnaryOp_ (thn (ha pins s σ H _ I h) fun v s1 ⟨x,H1,I1,r1,q1⟩=>?_)
  obtain ⟨c,rfl,q1⟩:=q1
  cases r1
  exact not_of (wpAny_truthy_bool ⟨.bl (!c),H1,I1,rfl,q1⟩)
end
end L2
namespace L2
open PySem PySem.Spec PyProof.Rows
def SqL (K:PySem.W.Frag) (H:Hp) (a:Addr) (xs:List V):Prop :=
  Rd H a (.lst xs) \/
    ∃ (o:Obj) (its:Array Value) (n:Nat),K.lookup a=some o/\o.cls=.type "list"/\o.dict=none/\o.data=.seq its n/\its.size<=sizeLine/\Vals xs its.toList
def SqT (K:PySem.W.Frag) (H:Hp) (a:Addr) (xs:List V):Prop :=
  Rd H a (.tup xs) \/
    ∃ (o:Obj) (its:Array Value) (n:Nat),K.lookup a=some o/\o.cls=.type "tuple"/\o.data=.seq its n/\its.size<=sizeLine/\Vals xs its.toList
def absV:Value->Option V
  | .none=>some .non
  | .bool b=>some (.bl b)
  | .int i _=>some (.int i)
  | .str x _=>some (.str x)
  | .bytes b _=>some (.byt b)
  | .float b _=>some (.flt b)
  | .ref a=>some (.ref a)
  | .type n=>some (.ty n)
  | _=>none
theorem RelV.abs {x:V} {u:Value} (r:RelV x u):absV u=some x:=by
  cases x with
  | non=>cases r;rfl
  | bl _=>cases r;rfl
  | int _=>obtain ⟨t,rfl⟩:=r;rfl
  | str _=>obtain ⟨t,rfl⟩:=r;rfl
  | byt _=>obtain ⟨t,rfl⟩:=r;rfl
  | flt _=>obtain ⟨t,rfl⟩:=r;rfl
  | ref _=>cases r;rfl
  | ty _=>cases r;rfl
theorem RelV.inj {x y:V} {u:Value} (r:RelV x u) (q:RelV y u):x=y:=Option.some.inj (r.abs.symm.trans q.abs)
theorem Vals.inj:∀ {xs ys:List V} {us:List Value},Vals xs us->Vals ys us->xs=ys
  | _,_,_,.nil,.nil=>rfl
  | _,_,_,.cons r t,.cons r' t'=>by rw [r.inj r',Vals.inj t t']
section
variable {X:Cx} {pins:List (Addr×Obj)} {σ:St} {H:Hp} {s:Shared} {a:Addr} {xs ys:List V}
theorem SqL.of {K:PySem.W.Frag} (h:H a=some (.lst xs)):SqL K H a xs:=.inl (.inl h)
theorem SqT.of {K:PySem.W.Frag} (h:H a=some (.tup xs)):SqT K H a xs:=.inl (.inl h)
theorem Inv.list (I:Inv X pins σ H s) (h:SqL X.K H a xs):∃ its:List Value,Vals xs its/\PlainL s.heap a its.toArray/\xs.length<=sizeLine:=by
  rcases h with h | ⟨o,its,n,hk,hc,hd,hs,hz,r⟩
  · obtain ⟨z,its,n,r,e⟩:=h.ok I.hok
    exact ⟨its,r,⟨_,n,e,rfl,rfl,rfl⟩,z⟩
  · refine ⟨its.toList,r,⟨o,n,I.kIn a o hk,hc,hd,by simpa using hs⟩,?_⟩
    have e:=r.length
    simp only [Array.length_toList] at e
    omega
theorem Inv.tuple (I:Inv X pins σ H s) (h:SqT X.K H a xs):∃ its:List Value,Vals xs its/\IsTup s.heap a its.toArray/\xs.length<=sizeLine:=by
  rcases h with h | ⟨o,its,n,hk,hc,hs,hz,r⟩
  · obtain ⟨z,its,r,p⟩:=h.ok I.hok
    exact ⟨its,r,p,z⟩
  · refine ⟨its.toList,r,⟨o,I.kIn a o hk,hc,n,by simpa using hs⟩,?_⟩
    have e:=r.length
    simp only [Array.length_toList] at e
    omega
theorem Inv.list_inj (I:Inv X pins σ H s) (h:SqL X.K H a xs) (h':SqL X.K H a ys):xs=ys:=by
  obtain ⟨its,r,⟨o,n,e,_,_,d⟩,_⟩:=I.list h
  obtain ⟨its',r',⟨o',n',e',_,_,d'⟩,_⟩:=I.list h'
  rw [e] at e';cases e'
  rw [d] at d'
  injection d' with d1 _
  have:its=its':=by simpa using congrArg Array.toList d1
  subst this
  exact r.inj r'
theorem Inv.tuple_inj (I:Inv X pins σ H s) (h:SqT X.K H a xs) (h':SqT X.K H a ys):xs=ys:=by
  obtain ⟨its,r,⟨o,e,_,n,d⟩,_⟩:=I.tuple h
  obtain ⟨its',r',⟨o',e',_,n',d'⟩,_⟩:=I.tuple h'
  rw [e] at e';cases e'
  rw [d] at d'
  injection d' with d1 _
  have:its=its':=by simpa using congrArg Array.toList d1
  subst this
  exact r.inj r'
end
abbrev Cx.wish (X:Cx) (E:Value->Shared->Prop):Cx:={ X with xe:=E }
abbrev Cx.nox (X:Cx):Cx:=X.wish fun _ _=>False
theorem Cx.Ok.wish {X:Cx} (ok:X.Ok) (E:Value->Shared->Prop):(X.wish E).Ok :=
  ⟨ok.mod,ok.kind,ok.glob,ok.blt,ok.above,ok.inj,ok.has,ok.cab,ok.hd,ok.frames,ok.stk,ok.exf,ok.bs,ok.bsz,ok.noex,ok.exfs,ok.funs,ok.frf⟩
theorem Cx.Ok.unwish {X:Cx} {E:Value->Shared->Prop} (ok:(X.wish E).Ok):X.Ok :=
  ⟨ok.mod,ok.kind,ok.glob,ok.blt,ok.above,ok.inj,ok.has,ok.cab,ok.hd,ok.frames,ok.stk,ok.exf,ok.bs,ok.bsz,ok.noex,ok.exfs,ok.funs,ok.frf⟩
section
variable {X:Cx} {pins:List (Addr×Obj)} {σ:St} {H:Hp} {s:Shared} {E:Value->Shared->Prop}
theorem Inv.wish (I:Inv X pins σ H s) (E:Value->Shared->Prop):Inv (X.wish E) pins σ H s:=⟨I.ok.wish E,I.os,I.bare,I.base,I.loc,I.cell,I.free,I.freeC,I.pin,I.hok,I.len⟩
theorem Inv.unwish (I:Inv (X.wish E) pins σ H s):Inv X pins σ H s:=⟨I.ok.unwish,I.os,I.bare,I.base,I.loc,I.cell,I.free,I.freeC,I.pin,I.hok,I.len⟩
theorem SP.unwish {D:Ends} {f:Flow} {s':Shared} (h:SP (X.wish E) pins D f s'):SP X pins D f s':=by
  cases f with
  | next=>obtain ⟨σ',H',I,q⟩:=h;exact ⟨σ',H',I.unwish,q⟩
  | brk=>obtain ⟨σ',H',I,q⟩:=h;exact ⟨σ',H',I.unwish,q⟩
  | cont=>obtain ⟨σ',H',I,q⟩:=h;exact ⟨σ',H',I.unwish,q⟩
  | ret u=>obtain ⟨v,σ',H',I,r,q⟩:=h;exact ⟨v,σ',H',I.unwish,r,q⟩
theorem PE.nox {e:Expr} {t:TE} (h:PE X.nox e t):PE X e t:=fun pins s σ H Q I hw =>
  wpAny_mono (h pins s σ H Q (I.wish _) hw) (fun _ _ ⟨v,H',I',r,q⟩=>⟨v,H',I'.unwish,r,q⟩) fun _ _ z=>False.elim z
theorem PT.nox {e:Expr} {t:TT} (h:PT X.nox e t):PT X e t:=fun pins s σ H Q I hw =>
  wpAny_mono (h pins s σ H Q (I.wish _) hw) (fun _ _ ⟨H',I',q⟩=>⟨H',I'.unwish,q⟩) fun _ _ z=>False.elim z
theorem PSs.nox {st:List Stmt} {t:TS} (h:PSs X.nox st t):PSs X st t:=fun pins s σ H D I hw =>
  wpAny_mono (h pins s σ H D (I.wish _) hw) (fun _ _ q=>q.unwish) fun _ _ z=>False.elim z
end
section
variable {X:Cx} {st:Stmt} {rest:List Stmt} {t u:TS} {e:Expr} {te:TE} {pos:Pos}
def tNext:TS:=fun D σ H=>D.nx σ H
def tSeq (t u:TS):TS:=fun D σ H=>t { D with nx:=u D } σ H
theorem pss_nil:PSs X [] tNext:=fun _ _ σ H _ I h=>wpAny_execs_nil ⟨σ,H,I,h⟩
theorem pss_cons (h1:PS X st t) (h2:PSs X rest u):PSs X (st::rest) (tSeq t u):=by
  intro pins s σ H D I h
  refine wpAny_execs_cons (thn (h1 pins s σ H { D with nx:=u D } I h) fun f s1 q=>?_)
  cases f with
  | next =>
    obtain ⟨σ',H',I',q⟩:=q
    exact h2 pins s1 σ' H' D I' q
  | ret v=>exact q
  | brk=>exact q
  | cont=>exact q
theorem pss_one (h1:PS X st t):PSs X [st] t:=by
  intro pins s σ H D I h
  refine wpAny_execs_cons (thn (h1 pins s σ H D I h) fun f s1 q=>?_)
  cases f with
  | next=>exact wpAny_execs_nil q
  | ret v=>exact q
  | brk=>exact q
  | cont=>exact q
theorem Inv.quiet {pins:List (Addr×Obj)} {σ:St} {H:Hp} {s:Shared} (I:Inv X pins σ H s):interactive X.env=false:=by simp [interactive,I.ok.kind]
def tDrop (te:TE):TS:=fun D σ H=>te σ H fun _ H1=>D.nx σ H1
theorem ps_expr (he:PE X e te) (hs:swapsWith e none pos.line X.env=pure false:=by rfl):PS X (.Expr e pos) (tDrop te):=by
  intro pins s σ H D I h
  exact wpAny_Expr_any (thn (he pins s σ H _ I h) fun v s1 ⟨x,H1,I1,r1,q1⟩=>⟨σ,H1,I1,q1⟩) I.quiet hs
def tRet (te:TE):TS:=fun D σ H=>te σ H D.rt
theorem ps_ret (he:PE X e te):PS X (.Return (some e) pos) (tRet te):=by
  intro pins s σ H D I h
  exact wpAny_Return_some (thn (he pins s σ H _ I h) fun v s1 ⟨x,H1,I1,r1,q1⟩=>⟨x,σ,H1,I1,r1,q1⟩)
def tIfS (c:TT) (t u:TS):TS:=fun D σ H=>c σ H fun b H1=>if b=true then t D σ H1 else u D σ H1
theorem ps_if {c:Expr} {a b:List Stmt} {tc:TT} (hc:PT X c tc) (ha:PSs X a t) (hb:PSs X b u):PS X (.If c a b pos) (tIfS tc t u):=by
  intro pins s σ H D I h
  refine wpAny_If (thn (hc pins s σ H _ I h) fun d s1 ⟨H1,I1,q1⟩=>?_)
  cases d with
  | true=>exact ha pins s1 σ H1 D I1 q1
  | false=>exact hb pins s1 σ H1 D I1 q1
def tNever:TS:=fun _ _ _=>False
theorem pss_never {sts:List Stmt}:PSs X sts tNever:=fun _ _ _ _ _ _ h=>h.elim
end
abbrev TG:=V->St->Hp->(St->Hp->Prop)->Prop
abbrev TGs:=List V->St->Hp->(St->Hp->Prop)->Prop
def PG (X:Cx) (target:Expr) (t:TG):Prop :=
  ∀ (pins:List (Addr×Obj)) (s:Shared) (σ:St) (H:Hp) (v:V) (u:Value) (Q:St->Hp->Prop),Inv X pins σ H s->RelV v u->t v σ H Q ->
    wpAny (model X.prog X.w) X.A (assign target X.env u) (fun _ s'=>∃ σ' H',Inv X pins σ' H' s'/\Q σ' H') X.xe s
def PGs (X:Cx) (ts:List Expr) (t:TGs):Prop :=
  ∀ (pins:List (Addr×Obj)) (s:Shared) (σ:St) (H:Hp) (vs:List V) (us:List Value) (Q:St->Hp->Prop),Inv X pins σ H s->Vals vs us->t vs σ H Q ->
    wpAny (model X.prog X.w) X.A (assignInOrder ((assignEach ts X.env).map (·.2)) us) (fun _ s'=>∃ σ' H',Inv X pins σ' H' s'/\Q σ' H') X.xe s
section
variable {X:Cx} {pos:Pos}
def gName (i:Nat):TG:=fun v σ H Q=>Q (σ.set i (some v)) H
theorem pg_name {i:Nat} {x:Str} (hN:X.N.Nodup) (hi:X.N[i]?=some x) (hx:Loc X.env.scope x) (hf:X.fn x=true\/X.env.scope.names.lookup x=some .local:=by first | exact .inl rfl | exact .inr rfl | assumption):PG X (.Name x pos) (gName i):=by
  intro pins s σ H v u Q I r h
  exact wpAny_assign_Name (store_ok I hN hi hx r (fun s' I'=>⟨_,H,I',h⟩) hf)
def gNil:TGs:=fun vs σ H Q=>vs=[]/\Q σ H
def gCons (t:TG) (u:TGs):TGs:=fun vs σ H Q=>∃ v r,vs=v::r/\t v σ H fun σ' H'=>u r σ' H' Q
theorem pgs_nil:PGs X [] gNil:=by
  intro pins s σ H vs us Q I r h
  obtain ⟨e,h⟩:=h
  subst e
  cases r
  exact assignInOrder_nil ⟨σ,H,I,h⟩
theorem pgs_cons {e:Expr} {es:List Expr} {t:TG} {u:TGs} (h1:PG X e t) (h2:PGs X es u)
    (hs:(assignEach (e::es) X.env).map (·.2)=assign e X.env::(assignEach es X.env).map (·.2):=by rfl):PGs X (e::es) (gCons t u):=by
  intro pins s σ H vs us Q I r h
  obtain ⟨v,vr,e1,h⟩:=h
  subst e1
  cases r with
  | cons r rr =>
    rw [hs]
    refine assignInOrder_cons (thn (h1 pins s σ H _ _ _ I r h) fun _ s1 ⟨σ1,H1,I1,q1⟩=>?_)
    exact h2 pins s1 σ1 H1 _ _ Q I1 rr q1
def gTup (K:PySem.W.Frag) (n:Nat) (t:TGs):TG:=fun v σ H Q=>∃ a xs,v=.ref a/\SqT K H a xs/\xs.length=n/\t xs σ H Q
theorem pg_tup {es:List Expr} {k:Nat} {t:TGs} {n:Nat} (hc:X.calm=true) (h:PGs X es t)
    (hn:(assignEach es X.env).length=n:=by rfl) (hst:(assignEach es X.env).findIdx? (·.1)=none:=by rfl):PG X (.Tuple es k pos) (gTup X.K n t):=by
  intro pins s σ H v u Q I r hw
  obtain ⟨a,xs,e1,hq,hl,hw⟩:=hw
  subst e1
  cases r
  obtain ⟨its,rv,ht,hz⟩:=I.tuple hq
  refine assign_Tuple_tuple (I.ok.hd hc) ht (by simp [hn,<- hl,rv.length]) hst fun h' hx=>?_
  have I1:Inv X pins σ H { s with heap:=h' }:=I.kept (t':=s.toks) fun b o e=>hx b o (Nat.ne_of_lt (Heap.lt_size e)) e
  exact h pins _ σ H xs _ Q I1 (by simpa using rv) hw
def tAsg (te:TE) (g:TG):TS:=fun D σ H=>te σ H fun x H1=>g x σ H1 D.nx
theorem ps_set {i:Nat} {x:Str} {e:Expr} {te:TE} {pos':Pos} (hN:X.N.Nodup) (hi:X.N[i]?=some x) (hx:Loc X.env.scope x) (he:PE X e te) (hs:swapsWith e (some (.Name x pos')) pos.line X.env=pure false:=by rfl) (hf:X.fn x=true\/X.env.scope.names.lookup x=some .local:=by first | exact .inl rfl | exact .inr rfl | assumption) :
    PS X (.Assign [.Name x pos'] e pos) (tAsg te (gName i)):=by
  intro pins s σ H D I h
  refine wpAny_Assign_Name (thn (he pins s σ H _ I h) fun v s1 ⟨y,H1,I1,r1,q1⟩=>?_) hs
  exact store_ok I1 hN hi hx r1 (fun s2 I2=>⟨_,H1,I2,q1⟩) hf
end
section
variable {X:Cx} {pos:Pos}
end
structure It where
  go:Nat->Hp->Prop
  yld:Nat->Hp->V->Hp->Prop
  stop:Nat->Hp->Prop
def FpOk (X:Cx) (pins:List (Addr×Obj)) (H:Hp) (b:Addr):Prop :=
  H b=none/\b≠X.env.locals/\b∉X.fs/\(b∈X.ex\/X.s₀.heap.objs.size<=b)/\(∀ x c,X.env.cells.lookup x=some c->c≠b)/\∀ p∈X.pn++pins,p.1≠b
theorem Inv.fpOk {X:Cx} {pins:List (Addr×Obj)} {σ:St} {H H':Hp} {s:Shared} {b:Addr} (I:Inv X pins σ H s) (hb:s.heap.objs.size<=b) (hn:H' b=none):FpOk X pins H' b:=by
  refine ⟨hn,Nat.ne_of_gt (Nat.lt_of_lt_of_le I.lt hb),I.nofs hb,.inr (Nat.le_trans I.sz hb),fun x c e z=>?_,fun p hp z=>?_⟩
  · obtain ⟨v,q⟩:=I.cell x c e
    exact absurd (Nat.lt_of_lt_of_le q.lt (by rw [z];exact hb)) (Nat.lt_irrefl _)
  · exact absurd (Nat.lt_of_lt_of_le (Heap.lt_size (I.pin p hp).1) (by rw [z];exact hb)) (Nat.lt_irrefl _)
structure Turn (P:Program) (w:World) (K:PySem.W.Frag) (tg:Expr) (J:It) (fp:List Addr) (it:Addr) (tn:Nat->Heap->Prop):Prop where
  mem:it∈fp
  obj:∀ i h,tn i h->∀ b∈fp,∃ o,h.get? b=some o/\∀ v,o.data≠.cell v
  keep:∀ i h h',tn i h->(∀ b∈fp,∀ o,h.get? b=some o->h'.get? b=some o)->tn i h'
  item:∀ (X:Cx),X.prog=P->X.w=w->X.K=K->X.calm=true->∀ (i:Nat) (pins:List (Addr×Obj)) (s:Shared) (σ:St) (H:Hp) (E:Value->Shared->Prop),Inv X pins σ H s->(∀ b∈fp,FpOk X pins H b)->tn i s.heap->J.go i H ->
    wpAny (model P w) X.A (pyNext (.ref it)) (fun r s1=>∃ u,r=some u /\
      wpAny (model P w) X.A (letOwnedTupleGo tg (.ref it) u) (fun _ s2=>∃ x H',Inv X pins σ H' s2/\RelV x u/\J.yld i H x H'/\tn (i+1) s2.heap/\∀ b∈fp,H' b=none) E s1) E s
  done:∀ (X:Cx),X.prog=P->X.w=w->X.K=K->X.calm=true->∀ (i:Nat) (pins:List (Addr×Obj)) (s:Shared) (σ:St) (H:Hp) (E:Value->Shared->Prop),Inv X pins σ H s->(∀ b∈fp,FpOk X pins H b)->tn i s.heap->J.stop i H ->
    wpAny (model P w) X.A (pyNext (.ref it)) (fun r s1=>r=none/\Inv X pins σ H s1) E s
  self:∀ (A:Around) (i:Nat) (s:Shared) (Q:Value->Shared->Prop) (E:Value->Shared->Prop),tn i s.heap->Q (.ref it) s->wpAny (model P w) A (pyIter (.ref it)) Q E s
abbrev TI:=St->Hp->(It->Hp->Prop)->Prop
def PIE (X:Cx) (pins:List (Addr×Obj)) (σ:St) (tg:Expr) (R:It->Hp->Prop) (itv:Value) (s2:Shared):Prop :=
  ∃ (it:Addr) (fp:List Addr) (tn:Nat->Heap->Prop) (J:It) (H':Hp),itv=.ref it/\Inv X pins σ H' s2/\Turn X.prog X.w X.K tg J fp it tn/\tn 0 s2.heap/\(∀ b∈fp,FpOk X pins H' b)/\R J H'
def PI (X:Cx) (tg iter:Expr) (wi:TI):Prop :=
  ∀ (pins:List (Addr×Obj)) (s:Shared) (σ:St) (H:Hp) (R:It->Hp->Prop),Inv X pins σ H s->wi σ H R ->
    wpAny (model X.prog X.w) X.A (eval iter X.env) (fun v s1=>wpAny (model X.prog X.w) X.A (pyIter v) (PIE X pins σ tg R) X.xe s1) X.xe s
theorem go_of {M:Model} {A:Around} {E:Value->Shared->Prop} {s:Shared} {tg:Expr} {it:Addr} {u:Value} {o:Obj} {n:String} {vs:Array Value} {Q:Unit->Shared->Prop} (ho:s.heap.get? it=some o) (hc:o.cls=.type n) (hd:o.data=.fields vs)
    (hn:["enumerate","zip","dict_itemiterator","dict_reverseitemiterator","odict_iterator","itertools.zip_longest","itertools.pairwise"].contains n=false) (hQ:Q () s):wpAny M A (letOwnedTupleGo tg (.ref it) u) Q E s:=by
  unfold letOwnedTupleGo
  cases tg <;> first
    | exact wpAny_pure hQ
    | (cases u <;> first
        | exact wpAny_pure hQ
        | (refine wpAny_bind (wpAny_load ho ?_)
           rw [hc,hd]
           show wpAny M A (if (["enumerate","zip","dict_itemiterator","dict_reverseitemiterator","odict_iterator","itertools.zip_longest","itertools.pairwise"].contains n && vs[0]? == some (rawInt _))=true then _ else _) Q E s
           rw [if_neg (by intro h;rw [hn,Bool.false_and] at h;cases h)]
           exact wpAny_pure hQ))
def Itl (K:PySem.W.Frag) (a:Addr):It :=
  ⟨fun i H=>∃ xs x,SqL K H a xs/\xs[i]?=some x,fun i H x H'=>H'=H/\∀ xs,SqL K H a xs->xs[i]?=some x,fun i H=>∃ xs,SqL K H a xs/\xs.length<=i⟩
def Itt (K:PySem.W.Frag) (a:Addr):It :=
  ⟨fun i H=>∃ xs x,SqT K H a xs/\xs[i]?=some x,fun i H x H'=>H'=H/\∀ xs,SqT K H a xs->xs[i]?=some x,fun i H=>∃ xs,SqT K H a xs/\xs.length<=i⟩
def Itr (lo:Int) (n:Nat):It:=⟨fun i _=>i < n,fun i H x H'=>H'=H/\x=.int (lo+i),fun i _=>n<=i⟩
theorem turn_list {P:Program} {w:World} {K:PySem.W.Frag} {tg:Expr} (a it:Addr):Turn P w K tg (Itl K a) [it] it (fun i h=>h.IsListIter it a i) where
  mem:=by simp
  obj:=fun i h st b hb=>by
    have e:b=it:=by simpa using hb
    subst e
    obtain ⟨o,e,c,d⟩:=st
    exact ⟨o,e,fun v z=>by rw [d] at z;cases z⟩
  keep:=fun i h h' st k=>st.at fun o e=>k it (by simp) o e
  item:=by
    intro X hP hw hK hc i pins s σ H E I hf st hg
    subst hP hw hK
    obtain ⟨xs,x,hq,hx⟩:=hg
    obtain ⟨its,rv,p,hz⟩:=I.list hq
    obtain ⟨u,hu,ru⟩:=rv.get hx
    obtain ⟨f0,f1,f2,f3,f4,f5⟩:=hf it (by simp)
    refine wpAny_pyNext_list_item st p.isList (x:=u) (by simpa using hu) fun h' st' sb=>?_
    have I1:Inv X pins σ H { s with heap:=h' }:=I.turned (t':=s.toks) (fun b o hb e=>(sb.2 b hb).trans e) f0 f1 f3 f4 f5
    obtain ⟨o,e,c,d⟩:=id st'
    exact ⟨u,rfl,go_of (s:={ s with heap:=h' }) e c d (by decide) ⟨x,H,I1,ru,⟨rfl,fun ys hy=>by rw [I.list_inj hy hq];exact hx⟩,st',fun b hb=>(hf b hb).1⟩⟩
  done:=by
    intro X hP hw hK hc i pins s σ H E I hf st hg
    subst hP hw hK
    obtain ⟨xs,hq,hx⟩:=hg
    obtain ⟨its,rv,p,hz⟩:=I.list hq
    obtain ⟨f0,f1,f2,f3,f4,f5⟩:=hf it (by simp)
    have hl:=rv.length
    exact wpAny_pyNext_list_end (I.ok.hd hc) st p.isList (by simp;omega) fun h' eb=>⟨rfl,I.turned (t':=s.toks) (fun b o hb e=>eb b o hb e) f0 f1 f3 f4 f5⟩
  self:=fun _ _ _ _ _ st h=>wpAny_pyIter_listiter st h
theorem turn_tuple {P:Program} {w:World} {K:PySem.W.Frag} {tg:Expr} (a it:Addr):Turn P w K tg (Itt K a) [it] it (fun i h=>h.IsTupleIter it a i) where
  mem:=by simp
  obj:=fun i h st b hb=>by
    have e:b=it:=by simpa using hb
    subst e
    obtain ⟨o,e,c,d⟩:=st
    exact ⟨o,e,fun v z=>by rw [d] at z;cases z⟩
  keep:=fun i h h' st k=>st.at fun o e=>k it (by simp) o e
  item:=by
    intro X hP hw hK hc i pins s σ H E I hf st hg
    subst hP hw hK
    obtain ⟨xs,x,hq,hx⟩:=hg
    obtain ⟨its,rv,p,hz⟩:=I.tuple hq
    obtain ⟨u,hu,ru⟩:=rv.get hx
    obtain ⟨f0,f1,f2,f3,f4,f5⟩:=hf it (by simp)
    refine wpAny_pyNext_tuple_item st (show s.heap.IsTuple a its.toArray from p) (x:=u) (by simpa using hu) fun h' st' sb=>?_
    have I1:Inv X pins σ H { s with heap:=h' }:=I.turned (t':=s.toks) (fun b o hb e=>(sb.2 b hb).trans e) f0 f1 f3 f4 f5
    obtain ⟨o,e,c,d⟩:=id st'
    exact ⟨u,rfl,go_of (s:={ s with heap:=h' }) e c d (by decide) ⟨x,H,I1,ru,⟨rfl,fun ys hy=>by rw [I.tuple_inj hy hq];exact hx⟩,st',fun b hb=>(hf b hb).1⟩⟩
  done:=by
    intro X hP hw hK hc i pins s σ H E I hf st hg
    subst hP hw hK
    obtain ⟨xs,hq,hx⟩:=hg
    obtain ⟨its,rv,p,hz⟩:=I.tuple hq
    obtain ⟨f0,f1,f2,f3,f4,f5⟩:=hf it (by simp)
    have hl:=rv.length
    exact wpAny_pyNext_tuple_end (I.ok.hd hc) st (show s.heap.IsTuple a its.toArray from p) (by simp;omega) fun h' eb=>⟨rfl,I.turned (t':=s.toks) (fun b o hb e=>eb b o hb e) f0 f1 f3 f4 f5⟩
  self:=fun _ _ _ _ _ st h=>wpAny_pyIter_tupleiter st h
theorem turn_range {P:Program} {w:World} {K:PySem.W.Frag} {tg:Expr} (it:Addr) (lo:Int) (n:Nat):Turn P w K tg (Itr lo n) [it] it (fun i h=>IsRangeIter h it (lo+(i:Nat) * 1) ((n:Int) - (i:Nat)) 1) where
  mem:=by simp
  obj:=fun i h st b hb=>by
    have e:b=it:=by simpa using hb
    subst e
    exact ⟨_,st,fun v z=>by
      have z':Data.fields _=Data.cell v:=z
      cases z'⟩
  keep:=fun i h h' st k=>k it (by simp) _ st
  item:=by
    intro X hP hw hK hc i pins s σ H E I hf st hg
    subst hP hw hK
    obtain ⟨f0,f1,f2,f3,f4,f5⟩:=hf it (by simp)
    have W:=Walks.range (prog:=X.prog) (w:=X.w) (I.ok.hd hc) it lo 1 n
    refine W.item i s _ _ hg st fun v h' tk hv st' kk=>?_
    obtain ⟨t,rfl⟩:=hv
    have I1:Inv X pins σ H { s with heap:=h',toks:=tk }:=I.turned (fun b o hb e=>kk b o (by simpa using hb) e) f0 f1 f3 f4 f5
    refine ⟨_,rfl,go_of (s:={ s with heap:=h',toks:=tk }) (n:="range_iterator") st' rfl rfl (by decide) ⟨.int (lo+i),H,I1,⟨t,?_⟩,⟨rfl,rfl⟩,st',fun b hb=>(hf b hb).1⟩⟩
    rw [Int.mul_one]
  done:=by
    intro X hP hw hK hc i pins s σ H E I hf st hg
    subst hP hw hK
    obtain ⟨f0,f1,f2,f3,f4,f5⟩:=hf it (by simp)
    exact wpAny_pyNext_range_end (I.ok.hd hc) st (by have:n<=i:=hg;omega) fun h' eb=>⟨rfl,I.turned (t':=s.toks) (fun b o hb e=>eb b o hb e) f0 f1 f3 f4 f5⟩
  self:=fun _ _ _ _ _ st h=>wpAny_pyIter_rangeiter st h
end L2
namespace L2
open PySem PySem.Spec PyProof.Rows
section
variable {X:Cx} {tg:Expr}
def iList (K:PySem.W.Frag) (tl:TE):TI:=fun σ H R=>tl σ H fun x H1=>∃ a,x=.ref a/\(∃ xs,SqL K H1 a xs)/\R (Itl K a) H1
def iTup (K:PySem.W.Frag) (tl:TE):TI:=fun σ H R=>tl σ H fun x H1=>∃ a,x=.ref a/\(∃ xs,SqT K H1 a xs)/\R (Itt K a) H1
theorem pi_list {l:Expr} {tl:TE} (hl:PE X l tl):PI X tg l (iList X.K tl):=by
  intro pins s σ H R I h
  refine thn (hl pins s σ H _ I h) fun v s1 ⟨x,H1,I1,r1,q1⟩=>?_
  obtain ⟨a,e,⟨xs,hq⟩,q⟩:=q1
  subst e
  cases r1
  obtain ⟨its,rv,p,hz⟩:=I1.list hq
  refine wpAny_pyIter_list p.isList ?_
  refine ⟨s1.heap.objs.size,[s1.heap.objs.size],_,_,H1,rfl,I1.kept (t':=s1.toks) fun b o e=>Heap.get?_push_of_some _ e,turn_list a _,⟨_,Heap.get?_push_size _ rfl,rfl,rfl⟩,fun b hb=>?_,q⟩
  have e:b=s1.heap.objs.size:=by simpa using hb
  subst e
  exact I1.fpOk (Nat.le_refl _) (I1.hok.fresh (Nat.le_refl _))
theorem pi_tup {l:Expr} {tl:TE} (hl:PE X l tl):PI X tg l (iTup X.K tl):=by
  intro pins s σ H R I h
  refine thn (hl pins s σ H _ I h) fun v s1 ⟨x,H1,I1,r1,q1⟩=>?_
  obtain ⟨a,e,⟨xs,hq⟩,q⟩:=q1
  subst e
  cases r1
  obtain ⟨its,rv,p,hz⟩:=I1.tuple hq
  refine wpAny_pyIter_tuple (show s1.heap.IsTuple a its.toArray from p) ?_
  refine ⟨s1.heap.objs.size,[s1.heap.objs.size],_,_,H1,rfl,I1.kept (t':=s1.toks) fun b o e=>Heap.get?_push_of_some _ e,turn_tuple a _,⟨_,Heap.get?_push_size _ rfl,rfl,rfl⟩,fun b hb=>?_,q⟩
  have e:b=s1.heap.objs.size:=by simpa using hb
  subst e
  exact I1.fpOk (Nat.le_refl _) (I1.hok.fresh (Nat.le_refl _))
theorem range_it {pins:List (Addr×Obj)} {σ:St} {H:Hp} {s:Shared} {R:It->Hp->Prop} {E:Value->Shared->Prop} {lo hi:Int} {t u v:Tok} {tk:Nat} (I:Inv X pins σ H s) (h1:-(2 ^ 62)<=lo) (h2:lo < 2 ^ 62) (h3:-(2 ^ 62)<=hi) (h4:hi < 2 ^ 62)
    (q:R (Itr lo (hi - lo).toNat) H):wpAny (model X.prog X.w) X.A (pyIter (.ref s.heap.objs.size)) (PIE X pins σ tg R) E { s with heap:=s.heap.push { cls:=.type "range",data:=.fields #[.int lo t,.int hi u,.int 1 v] },toks:=tk }:=by
  refine wpAny_pyIter_range (IsRange.new ..) (small_one h1 h2 h3 h4) ?_
  have I1:Inv X pins σ H { s with heap:=s.heap.push { cls:=.type "range",data:=.fields #[.int lo t,.int hi u,.int 1 v] },toks:=tk }:=I.kept fun b o e=>Heap.get?_push_of_some _ e
  refine ⟨(s.heap.push { cls:=.type "range",data:=.fields #[.int lo t,.int hi u,.int 1 v] }).objs.size,[(s.heap.push { cls:=.type "range",data:=.fields #[.int lo t,.int hi u,.int 1 v] }).objs.size],_,_,H,rfl,
    I1.kept (t':=tk) fun b o e=>Heap.get?_push_of_some _ e,turn_range _ lo (hi - lo).toNat,?_,fun b hb=>?_,q⟩
  · have e1:lo+((0:Nat):Int) * 1=lo:=by simp
    have e2:(((hi - lo).toNat:Nat):Int) - ((0:Nat):Int)=Builtin.Range.rangeSize lo hi 1:=by rw [rangeSize_one];split <;> omega
    show IsRangeIter _ _ (lo+((0:Nat):Int) * 1) ((((hi - lo).toNat:Nat):Int) - ((0:Nat):Int)) 1
    rw [e1,e2]
    exact Heap.get?_push_size _ rfl
  · have e:b=(s.heap.push { cls:=.type "range",data:=.fields #[.int lo t,.int hi u,.int 1 v] }).objs.size:=by simpa using hb
    subst e
    exact I1.fpOk (Nat.le_refl _) (I1.hok.fresh (Nat.le_refl _))
def iRng1 (ta:TA):TI:=fun σ H R=>ta σ H fun vs H1=>∃ j:Int,vs=[.int j]/\-(2 ^ 62)<=j/\j < 2 ^ 62/\R (Itr 0 j.toNat) H1
def iRng2 (ta:TA):TI:=fun σ H R=>ta σ H fun vs H1=>∃ i j:Int,vs=[.int i,.int j]/\(-(2 ^ 62)<=i/\i < 2 ^ 62/\-(2 ^ 62)<=j/\j < 2 ^ 62)/\R (Itr i (j - i).toNat) H1
theorem pi_range1 {a:Expr} {ta:TA} {p pos:Pos} (hg:Gl X "range") (hm:X.mg "range"=none) (ha:PA X [a] ta) (hs:starEach [a] X.env=[(false,eval a X.env)]:=by rfl):PI X tg (.Call (.Name "range" p) [a] [] pos) (iRng1 ta):=by
  intro pins s σ H R I h
  refine Call_ (ld_blt I hg hm boot_range (PyProof.Rows.callWith_type1 (thn (ha pos pins s σ H _ I h) fun us s1 ⟨vs,H1,I1,r1,q1⟩=>?_) hs rfl))
  obtain ⟨j,e,q1,q2,q⟩:=q1
  subst e
  cases r1 with
  | cons r rr =>
    cases rr
    obtain ⟨t,rfl⟩:=r
    exact call_range_1 (range_it I1 (by omega) (by omega) q1 q2 (by simpa using q))
theorem pi_range2 {a b:Expr} {ta:TA} {p pos:Pos} (hg:Gl X "range") (hm:X.mg "range"=none) (ha:PA X [a,b] ta) (hs:starEach [a,b] X.env=[(false,eval a X.env),(false,eval b X.env)]:=by rfl) (hs2:starEach [b] X.env=[(false,eval b X.env)]:=by rfl) :
    PI X tg (.Call (.Name "range" p) [a,b] [] pos) (iRng2 ta):=by
  intro pins s σ H R I h
  refine Call_ (ld_blt I hg hm boot_range (PyProof.Rows.callWith_type1 (thn (ha pos pins s σ H _ I h) fun us s1 ⟨vs,H1,I1,r1,q1⟩=>?_) (by rw [hs,hs2]) (by rw [hs2];rfl)))
  obtain ⟨i,j,e,⟨q1,q2,q3,q4⟩,q⟩:=q1
  subst e
  cases r1 with
  | cons r rr =>
    cases rr with
    | cons r' rr =>
      cases rr
      obtain ⟨t,rfl⟩:=r
      obtain ⟨t',rfl⟩:=r'
      exact call_range_2 (range_it I1 q1 q2 q3 q4 q)
def tFor (wi:TI) (g:TG) (tb:TS):TS:=fun D σ H=>wi σ H fun J H1=>∃ W:Nat->Nat->St->Hp->Prop,(∃ m,W 0 m σ H1)/\∀ i m σ H,W i m σ H ->
  (J.stop i H/\D.nx σ H)\/(J.go i H/\∃ N:St->Hp->Prop,(∀ σ' H',N σ' H'->∃ m',m' < m/\W (i+1) m' σ' H')/\∀ x H',J.yld i H x H'->g x σ H' fun σ2 H2=>tb { D with nx:=N,ct:=N,bk:=D.nx } σ2 H2)
def pinsAt (fp:List Addr) (h:Heap):List (Addr×Obj):=fp.filterMap fun b=>(h.get? b).map fun o=>(b,o)
theorem mem_pinsAt {fp:List Addr} {h:Heap} {b:Addr} {o:Obj} (hb:b∈fp) (e:h.get? b=some o):(b,o)∈pinsAt fp h:=List.mem_filterMap.mpr ⟨b,hb,by rw [e];rfl⟩
theorem of_pinsAt {fp:List Addr} {h:Heap} {p:Addr×Obj} (hp:p∈pinsAt fp h):p.1∈fp/\h.get? p.1=some p.2:=by
  obtain ⟨b,hb,e⟩:=List.mem_filterMap.mp hp
  cases q:h.get? b with
  | none=>rw [q] at e;cases e
  | some o =>
    rw [q] at e
    have e':(b,o)=p:=Option.some.inj e
    subst e'
    exact ⟨hb,q⟩
theorem Inv.pinned {pins:List (Addr×Obj)} {σ:St} {H:Hp} {s:Shared} {fp:List Addr} (I:Inv X pins σ H s) (hf:∀ b∈fp,FpOk X pins H b) (ho:∀ b∈fp,∃ o,s.heap.get? b=some o/\∀ v,o.data≠.cell v):Inv X (pins++pinsAt fp s.heap) σ H s :=
  I.pins_of fun p hp=>(List.mem_append.mp hp).elim (fun z=>I.pin p (List.mem_append_right _ z)) fun z=>by
    obtain ⟨hb,e⟩:=of_pinsAt z
    obtain ⟨f0,f1,f2,_⟩:=hf p.1 hb
    obtain ⟨o,e',d⟩:=ho p.1 hb
    rw [e] at e';cases e'
    exact ⟨e,f0,f1,f2,d⟩
theorem Inv.unpinned {pins pl:List (Addr×Obj)} {σ:St} {H:Hp} {s:Shared} (I:Inv X (pins++pl) σ H s):Inv X pins σ H s:=I.pins_of fun p hp=>I.pin p (List.mem_append_right _ (List.mem_append_left _ hp))
theorem ps_for {iter:Expr} {body:List Stmt} {wi:TI} {g:TG} {tb:TS} {pos:Pos} (hp:PassesOwn (model X.prog X.w) X.A X.env X.xe) (hc:X.calm=true) (hi:PI X tg iter wi) (hg:PG X tg g) (hb:PSs X body tb)
    (hs:∀ x,foldedSetIterable iter X.env x=pure x:=by intro _;rfl):PS X (.For tg iter body [] pos) (tFor wi g tb):=by
  intro pins s σ H D I h
  refine wpAny_For (thn (hi pins s σ H _ I h) fun v s1 h1=>thn h1 fun itv s2 h2=>?_) hs
  obtain ⟨it,fp,tn,J,H2,e,I2,T,st2,f2,W,⟨m0,w0⟩,turn⟩:=h2
  subst e
  have stat:∀ {H':Hp},(∀ b∈fp,H' b=none)->∀ b∈fp,FpOk X pins H' b:=fun hn b hb=>⟨hn b hb,(f2 b hb).2⟩
  refine codeAny_forLoop_any (fun n s'=>∃ i σ' H',Inv X pins σ' H' s'/\tn i s'.heap/\(∀ b∈fp,H' b=none)/\W i n σ' H') ?_ m0 ⟨0,σ,H2,I2,st2,fun b hb=>(f2 b hb).1,w0⟩
  rintro n s3 ⟨i,σ3,H3,I3,st3,fr3,w3⟩
  rcases turn i n σ3 H3 w3 with ⟨stop,qn⟩ | ⟨go,N,hN,step⟩
  · refine wpAny_passesOwn hp (thn (T.done X rfl rfl rfl hc i pins s3 σ3 H3 X.xe I3 (stat fr3) st3 stop) fun r s4 ⟨hr,I4⟩=>?_)
    subst hr
    exact wpAny_execs_nil ⟨σ3,H3,I4,qn⟩
  · refine wpAny_passesOwn hp (thn (T.item X rfl rfl rfl hc i pins s3 σ3 H3 X.xe I3 (stat fr3) st3 go) fun r s4 ⟨u,hr,h4⟩=>?_)
    subst hr
    refine wpAny_passesOwn hp (thn h4 fun _ s5 ⟨x,H5,I5,r5,y5,st5,fr5⟩=>?_)
    have I5':=I5.pinned (stat fr5) (T.obj _ _ st5)
    refine wpAny_passesOwn hp (thn (hg _ s5 σ3 H5 x u _ I5' r5 (step x H5 y5)) fun _ s6 ⟨σ6,H6,I6,q6⟩=>?_)
    refine wpAny_passesOwn hp (thn (hb _ s6 σ6 H6 _ I6 q6) fun f s7 q7=>?_)
    have again:∀ {σ7:St} {H7:Hp},Inv X (pins++pinsAt fp s5.heap) σ7 H7 s7->N σ7 H7->∃ m,m < n/\∃ i σ' H',Inv X pins σ' H' s7/\tn i s7.heap/\(∀ b∈fp,H' b=none)/\W i m σ' H':=fun {σ7 H7} I7 n7=>by
      obtain ⟨m',hm,w7⟩:=hN σ7 H7 n7
      refine ⟨m',hm,i+1,σ7,H7,I7.unpinned,T.keep _ _ _ st5 fun b hb o e=>(I7.pin (b,o) (List.mem_append_right _ (List.mem_append_right _ (mem_pinsAt hb e)))).1,fun b hb=>?_,w7⟩
      obtain ⟨o,e,d⟩:=T.obj _ _ st5 b hb
      exact (I7.pin (b,o) (List.mem_append_right _ (List.mem_append_right _ (mem_pinsAt hb e)))).2.1
    cases f with
    | next=>obtain ⟨σ7,H7,I7,n7⟩:=q7;exact again I7 n7
    | cont=>obtain ⟨σ7,H7,I7,n7⟩:=q7;exact again I7 n7
    | brk=>obtain ⟨σ7,H7,I7,q7⟩:=q7;exact ⟨σ7,H7,I7.unpinned,q7⟩
    | ret v=>obtain ⟨x7,σ7,H7,I7,r7,q7⟩:=q7;exact ⟨x7,σ7,H7,I7.unpinned,r7,q7⟩
end
end L2
namespace L2
open PySem PySem.Spec PyProof.Rows
abbrev R2:=V->V->Hp->VK->Prop
def OpR (X:Cx) (f:Value->Value->Sem Value) (r:R2):Prop :=
  ∀ (pins:List (Addr×Obj)) (s:Shared) (σ:St) (H:Hp) (x y:V) (v u:Value) (Q:VK),Inv X pins σ H s->RelV x v->RelV y u->r x y H Q ->
    wpAny (model X.prog X.w) X.A (f v u) (EP X pins σ Q) X.xe s
def UnR (X:Cx) (f:Value->Sem Value) (r:V->Hp->VK->Prop):Prop :=
  ∀ (pins:List (Addr×Obj)) (s:Shared) (σ:St) (H:Hp) (x:V) (v:Value) (Q:VK),Inv X pins σ H s->RelV x v->r x H Q ->
    wpAny (model X.prog X.w) X.A (f v) (EP X pins σ Q) X.xe s
def CallR (X:Cx) (f:Value) (r:List V->Hp->VK->Prop):Prop :=
  ∀ (pins:List (Addr×Obj)) (s:Shared) (σ:St) (H:Hp) (xs:List V) (us:List Value) (Q:VK),Inv X pins σ H s->Vals xs us->r xs H Q ->
    wpAny (model X.prog X.w) X.A (call f us) (EP X pins σ Q) X.xe s
def TruR (X:Cx) (r:V->Hp->(Bool->Hp->Prop)->Prop):Prop :=
  ∀ (pins:List (Addr×Obj)) (s:Shared) (σ:St) (H:Hp) (x:V) (v:Value) (Q:Bool->Hp->Prop),Inv X pins σ H s->RelV x v->r x H Q ->
    wpAny (model X.prog X.w) X.A (truthy v) (TP X pins σ Q) X.xe s
def tOp (r:R2) (ta tb:TE):TE:=fun σ H Q=>ta σ H fun x H1=>tb σ H1 fun y H2=>r x y H2 Q
def tUn (r:V->Hp->VK->Prop) (ta:TE):TE:=fun σ H Q=>ta σ H fun x H1=>r x H1 Q
def rI (C:Int->Int->Prop) (g:Int->Int->V):R2:=fun x y H Q=>∃ i j,x=.int i/\y=.int j/\C i j/\Q (g i j) H
def rI0 (g:Int->Int->V):R2:=fun x y H Q=>∃ i j,x=.int i/\y=.int j/\Q (g i j) H
def rU (g:Int->V):V->Hp->VK->Prop:=fun x H Q=>∃ i,x=.int i/\Q (g i) H
section
variable {X:Cx} {a b c:Expr} {ta tb tc:TE} {pos:Pos}
theorem binT (ha:PE X a ta) (hb:PE X b tb) {pins:List (Addr×Obj)} {s:Shared} {σ:St} {H:Hp} {R:V->V->Hp->Prop} (I:Inv X pins σ H s)
    (h:ta σ H fun x H1=>tb σ H1 fun y H2=>R x y H2) {Q:Value->Shared->Prop} {f:Value->Value->Sem Value}
    (hf:∀ v u s2 x y H2,Inv X pins σ H2 s2->RelV x v->RelV y u->R x y H2->wpAny (model X.prog X.w) X.A (f v u) Q X.xe s2) :
    wpAny (model X.prog X.w) X.A (eval a X.env) (fun v s₁=>wpAny (model X.prog X.w) X.A (eval b X.env) (fun u s₂=>wpAny (model X.prog X.w) X.A (f v u) Q X.xe s₂) X.xe s₁) X.xe s:=by
  refine thn (ha pins s σ H _ I h) fun v s1 ⟨x,H1,I1,r1,q1⟩=>?_
  refine thn (hb pins s1 σ H1 _ I1 q1) fun u s2 ⟨y,H2,I2,r2,q2⟩=>?_
  exact hf v u s2 x y H2 I2 r1 r2 q2
theorem pe_op {op:Operator} {r:R2} (ho:OpR X (binaryOp op) r) (ha:PE X a ta) (hb:PE X b tb):PE X (.BinOp a op b pos) (tOp r ta tb):=by
  intro pins s σ H Q I h
  exact wpAny_BinOp (binT ha hb I h fun v u s2 x y H2 I2 rx ry q=>ho pins s2 σ H2 x y v u Q I2 rx ry q)
theorem pe_un {op:UnaryOp} {r:V->Hp->VK->Prop} (ho:UnR X (unaryOp op) r) (ha:PE X a ta):PE X (.UnaryOp op a pos) (tUn r ta):=by
  intro pins s σ H Q I h
  exact UnaryOp_ (thn (ha pins s σ H _ I h) fun v s1 ⟨x,H1,I1,r1,q1⟩=>ho pins s1 σ H1 x v Q I1 r1 q1)
theorem opI {f:Value->Value->Sem Value} {C:Int->Int->Prop} {g:Int->Int->Int}
    (rule:∀ (i j:Int) (t u:Tok) (s:Shared) (Q:Value->Shared->Prop) (E:Value->Shared->Prop),C i j->Q (.int (g i j) s.toks) { s with toks:=s.toks+1 }->wpAny (model X.prog X.w) X.A (f (.int i t) (.int j u)) Q E s) :
    OpR X f (rI C fun i j=>.int (g i j)):=by
  intro pins s σ H x y v u Q I rx ry h
  obtain ⟨i,j,rfl,rfl,hc,q⟩:=h
  obtain ⟨t,rfl⟩:=rx
  obtain ⟨t',rfl⟩:=ry
  exact rule i j t t' s _ _ hc ⟨.int (g i j),H,I.tok _,⟨_,rfl⟩,q⟩
theorem opI0 {f:Value->Value->Sem Value} {g:Int->Int->Int}
    (rule:∀ (i j:Int) (t u:Tok) (s:Shared) (Q:Value->Shared->Prop) (E:Value->Shared->Prop),Q (.int (g i j) s.toks) { s with toks:=s.toks+1 }->wpAny (model X.prog X.w) X.A (f (.int i t) (.int j u)) Q E s) :
    OpR X f (rI0 fun i j=>.int (g i j)):=by
  intro pins s σ H x y v u Q I rx ry h
  obtain ⟨i,j,rfl,rfl,q⟩:=h
  obtain ⟨t,rfl⟩:=rx
  obtain ⟨t',rfl⟩:=ry
  exact rule i j t t' s _ _ ⟨.int (g i j),H,I.tok _,⟨_,rfl⟩,q⟩
theorem opB0 {f:Value->Value->Sem Value} {g:Int->Int->Bool}
    (rule:∀ (i j:Int) (t u:Tok) (s:Shared) (Q:Value->Shared->Prop) (E:Value->Shared->Prop),Q (.bool (g i j)) s->wpAny (model X.prog X.w) X.A (f (.int i t) (.int j u)) Q E s) :
    OpR X f (rI0 fun i j=>.bl (g i j)):=by
  intro pins s σ H x y v u Q I rx ry h
  obtain ⟨i,j,rfl,rfl,q⟩:=h
  obtain ⟨t,rfl⟩:=rx
  obtain ⟨t',rfl⟩:=ry
  exact rule i j t t' s _ _ ⟨.bl (g i j),H,I,rfl,q⟩
def CDiv (i j:Int):Prop:=0 < j/\j < 1073741824
def CPow (i j:Int):Prop:=0<=j/\j<=1000000/\i.natAbs < 2 ^ 64
def CMul (i j:Int):Prop:=(-(2 ^ 64) < i/\i < 2 ^ 64)\/(-(2 ^ 64) < j/\j < 2 ^ 64)
theorem CMul.ok {i j:Int} (h:CMul i j):IntMulOk i j:=by
  rcases h with ⟨h1,h2⟩ | ⟨h1,h2⟩
  · exact .of_left (intBits_le_64 h1 h2)
  · exact .of_right (intBits_le_64 h1 h2)
theorem op_add:OpR X (binaryOp .Add) (rI0 fun i j=>.int (i+j)):=opI0 fun _ _ _ _ _ _ _ q=>add_int q
theorem op_sub:OpR X (binaryOp .Sub) (rI0 fun i j=>.int (i - j)):=opI0 fun _ _ _ _ _ _ _ q=>sub_int q
theorem op_mul:OpR X (binaryOp .Mult) (rI CMul fun i j=>.int (i * j)):=opI fun _ _ _ _ _ _ _ hc q=>mul_int q hc.ok
theorem op_fdiv:OpR X (binaryOp .FloorDiv) (rI CDiv fun i j=>.int (i / j)):=opI fun i j _ _ _ _ _ hc q=>by
  have h1:(0:Int) < j:=hc.1
  have h2:j < 1073741824:=hc.2
  exact floordiv_int (by omega) (by rw [Int.fdiv_eq_ediv_of_nonneg i (by omega)];exact q) (.inl (PyProof.noPylong_small (by omega)))
theorem op_mod:OpR X (binaryOp .Mod) (rI (fun _ j=>0 < j) fun i j=>.int (i % j)):=opI fun i j _ _ _ _ _ hc q=>by
  have h1:(0:Int) < j:=hc
  exact mod_int' (by omega) (by rw [Int.fmod_eq_emod_of_nonneg i (by omega)];exact q)
theorem op_pow:OpR X (binaryOp .Pow) (rI CPow fun i j=>.int (i ^ j.toNat)):=opI fun _ _ _ _ _ _ _ hc q=>pow_int_small hc.1 hc.2.1 hc.2.2 q
theorem unI {f:Value->Sem Value} {g:Int->Int}
    (rule:∀ (i:Int) (t:Tok) (s:Shared) (Q:Value->Shared->Prop) (E:Value->Shared->Prop),Q (.int (g i) s.toks) { s with toks:=s.toks+1 }->wpAny (model X.prog X.w) X.A (f (.int i t)) Q E s) :
    UnR X f (rU fun i=>.int (g i)):=by
  intro pins s σ H x v Q I rx h
  obtain ⟨i,rfl,q⟩:=h
  obtain ⟨t,rfl⟩:=rx
  exact rule i t s _ _ ⟨.int (g i),H,I.tok _,⟨_,rfl⟩,q⟩
theorem un_neg:UnR X (unaryOp .USub) (rU fun i=>.int (-i)):=unI fun _ _ _ _ _ q=>neg_int q
end
section
variable {X:Cx} {a b c:Expr} {ta tb tc:TE} {pos:Pos}
theorem op_lt:OpR X (compareOp .Lt) (rI0 fun i j=>.bl (decide (i < j))):=opB0 fun _ _ _ _ _ _ _ q=>lt_int q
theorem op_le:OpR X (compareOp .LtE) (rI0 fun i j=>.bl (decide (i<=j))):=opB0 fun _ _ _ _ _ _ _ q=>le_int q
theorem op_gt:OpR X (compareOp .Gt) (rI0 fun i j=>.bl (decide (j < i))):=opB0 fun _ _ _ _ _ _ _ q=>gt_int q
theorem OpR.or {f:Value->Value->Sem Value} {r r':R2} (h:OpR X f r) (h':OpR X f r'):OpR X f (fun x y H Q=>r x y H Q\/r' x y H Q):=by
  intro pins s σ H x y v u Q I rx ry q
  rcases q with q | q
  · exact h pins s σ H x y v u Q I rx ry q
  · exact h' pins s σ H x y v u Q I rx ry q
theorem nomark (b:Expr) {op:CmpOp} (h:op≠.In:=by decide) (h2:op≠.NotIn:=by decide):behindInMarks op b=false:=by
  have e1:(op == CmpOp.In)=false:=by cases op <;> first | rfl | exact absurd rfl h
  have e2:(op == CmpOp.NotIn)=false:=by cases op <;> first | rfl | exact absurd rfl h2
  cases b <;> simp [behindInMarks,e1,e2]
theorem pe_cmpR {op:CmpOp} {r:R2} (ho:OpR X (compareOp op) r) (ha:PE X a ta) (hb:PE X b tb) (hm:behindInMarks op b=false):PE X (.Compare a [op] [b] pos) (tOp r ta tb):=by
  intro pins s σ H Q I h
  exact wpAny_Compare1 (binT ha hb I h fun v u s2 x y H2 I2 rx ry q=>ho pins s2 σ H2 x y v u Q I2 rx ry q) hm
def tTest (t:TE):TT:=fun σ H Q=>t σ H fun x H'=>∃ k,x=.bl k/\Q k H'
theorem pt_cmpR {op:CmpOp} {r:R2} (ho:OpR X (compareOp op) r) (ha:PE X a ta) (hb:PE X b tb) (hm:behindInMarks op b=false):PT X (.Compare a [op] [b] pos) (tTest (tOp r ta tb)):=by
  intro pins s σ H Q I h
  refine wpAny_isTrue_Compare1 (thn (ha pins s σ H _ I h) fun v s1 ⟨x,H1,I1,r1,q1⟩=>thn (hb pins s1 σ H1 _ I1 q1) fun u s2 ⟨y,H2,I2,r2,q2⟩ =>
    thn (ho pins s2 σ H2 x y v u _ I2 r1 r2 q2) fun c s3 ⟨z,H3,I3,r3,k,e,q3⟩=>?_) hm
  subst e
  cases r3
  exact wpAny_truthy_bool ⟨H3,I3,q3⟩
def tChain (r r':R2) (ta tb tc:TE):TE:=fun σ H Q=>ta σ H fun x H1=>tb σ H1 fun y H2=>r x y H2 fun z H3=>∃ k,z=.bl k /\
  (if k=true then tc σ H3 fun w' H4=>r' y w' H4 Q else Q (.bl false) H3)
theorem pe_chain {op op':CmpOp} {r r':R2} (ho:OpR X (compareOp op) r) (ho':OpR X (compareOp op') r') (ha:PE X a ta) (hb:PE X b tb) (hc:PE X c tc)
    (hm:lastMarks [op,op'] [b,c]=false:=by with_unfolding_all rfl):PE X (.Compare a [op,op'] [b,c] pos) (tChain r r' ta tb tc):=by
  intro pins s σ H Q I h
  refine Compare_chain (thn (ha pins s σ H _ I h) fun v s1 ⟨x,H1,I1,r1,q1⟩=>chain_link (thn (hb pins s1 σ H1 _ I1 q1) fun u s2 ⟨y,H2,I2,r2,q2⟩ =>
    thn (ho pins s2 σ H2 x y v u _ I2 r1 r2 q2) fun d s3 ⟨z,H3,I3,r3,k,e,q3⟩=>?_)) hm
  subst e
  cases r3
  refine wpAny_truthy_bool ?_
  cases k with
  | false=>exact ite_ff ⟨.bl false,H3,I3,rfl,q3⟩
  | true=>exact ite_tt (chain_last (thn (hc pins s3 σ H3 _ I3 q3) fun w' s4 ⟨z',H4,I4,r4,q4⟩=>ho' pins s4 σ H4 y z' u w' Q I4 r2 r4 q4))
def TruV (K:PySem.W.Frag) (x:V) (H:Hp) (k:Bool):Prop :=
  match x with
  | .non=>k=false
  | .bl b=>k=b
  | .int i=>k=(i != 0)
  | .str y=>y.length<=sizeLine/\k=((y.length:Int) != 0)
  | .byt y=>y.size<=sizeLine/\k=((y.size:Int) != 0)
  | .ref p=>(∃ xs,SqL K H p xs/\k=!xs.isEmpty)\/(∃ xs,SqT K H p xs/\k=!xs.isEmpty)\/∃ kvs,H p=some (.dK kvs)/\k=!kvs.isEmpty
  | _=>False
theorem isEmpty_kv {κ:Type} {kvs:List (κ×V)} {vs:List (κ×Value)} (r:KV kvs vs):(!vs.isEmpty)=!kvs.isEmpty:=by
  cases r <;> rfl
theorem isEmpty_of {xs:List V} {its:List Value} (r:Vals xs its):(!its.toArray.isEmpty)=!xs.isEmpty:=by
  cases r <;> simp
theorem line63:(sizeLine:Nat) < 2 ^ 63:=by rw [sizeLine_eq];decide
theorem tru_ok:TruR X (fun x H Q=>∃ k,TruV X.K x H k/\Q k H):=by
  intro pins s σ H x v Q I rx h
  obtain ⟨k,e,q⟩:=h
  have hl:=line63
  have hs:sizeLine=16777216:=sizeLine_eq
  cases x with
  | non =>
    cases rx
    have e':k=false:=e
    subst e'
    exact truthy_none ⟨H,I,q⟩
  | bl b =>
    cases rx
    have e':k=b:=e
    subst e'
    exact wpAny_truthy_bool ⟨H,I,q⟩
  | int i =>
    obtain ⟨t,rfl⟩:=rx
    have e':k=(i != 0):=e
    subst e'
    exact PySem.P.truthy_int ⟨H,I,q⟩
  | str y =>
    obtain ⟨t,rfl⟩:=rx
    obtain ⟨hy,e'⟩:y.length<=sizeLine/\k=((y.length:Int) != 0):=e
    subst e'
    exact PySem.P.truthy_str (by omega) ⟨H,I.tok _,q⟩
  | byt y =>
    obtain ⟨t,rfl⟩:=rx
    obtain ⟨hy,e'⟩:y.size<=sizeLine/\k=((y.size:Int) != 0):=e
    subst e'
    exact PySem.W.truthy_bytes (by omega) ⟨H,I.tok _,q⟩
  | ref p =>
    cases rx
    have e':(∃ xs,SqL X.K H p xs/\k=!xs.isEmpty)\/(∃ xs,SqT X.K H p xs/\k=!xs.isEmpty)\/∃ kvs,H p=some (.dK kvs)/\k=!kvs.isEmpty:=e
    rcases e' with ⟨xs,hx,e'⟩ | ⟨xs,hx,e'⟩ | ⟨kvs,hx,e'⟩
    · subst e'
      obtain ⟨its,r,pl,hz⟩:=I.list hx
      have hlen:=r.length
      exact wpAny_truthy_list pl.isList (by simp only [List.size_toArray];omega) ⟨H,I.tok _,by rw [isEmpty_of r];exact q⟩
    · subst e'
      obtain ⟨its,r,pl,hz⟩:=I.tuple hx
      have hlen:=r.length
      exact truthy_tuple pl (by simp only [List.size_toArray];omega) ⟨H,I.tok _,by rw [isEmpty_of r];exact q⟩
    · subst e'
      obtain ⟨hz,hS,vs,r,m⟩:kvs.length<=sizeLine/\(p == sysModules)=false/\∃ vs,KV kvs vs/\s.heap.DictOf (mixKind X.prog X.w) p vs:=I.hok p _ hx
      have hlen:kvs.length=vs.length:=Paired.length r
      exact wpAny_truthy_dict hS m (by omega) ⟨H,I.tok _,by rw [isEmpty_kv r];exact q⟩
  | _=>exact (show False from e).elim
theorem pt_truth (ha:PE X a ta) (he:∀ whole,isTrue a X.env whole=(do let v <- whole;standAt a.pos;holding [v] (truthy v))) :
    PT X a (fun σ H Q=>ta σ H fun x H'=>∃ k,TruV X.K x H' k/\Q k H'):=by
  intro pins s σ H Q I h
  exact isTrue_plain (thn (ha pins s σ H _ I h) fun v s1 ⟨x,H1,I1,r1,q1⟩=>tru_ok pins s1 σ H1 x v Q I1 r1 q1) (he _)
theorem vals1 {x:V} {us:List Value} (r:Vals [x] us):∃ u,us=[u]/\RelV x u:=by
  cases r with
  | cons r1 r2=>cases r2;exact ⟨_,rfl,r1⟩
theorem vals2 {x y:V} {us:List Value} (r:Vals [x,y] us):∃ u w',us=[u,w']/\RelV x u/\RelV y w':=by
  cases r with
  | cons r1 r2 =>
    cases r2 with
    | cons r3 r4=>cases r4;exact ⟨_,_,rfl,r1,r3⟩
theorem call_max2 (hc:X.calm=true):CallR X (.builtin "max") (fun xs H Q=>∃ i j,xs=[.int i,.int j]/\Q (.int (if j > i then j else i)) H):=by
  intro pins s σ H xs us Q I r h
  obtain ⟨i,j,rfl,q⟩:=h
  obtain ⟨u,w',rfl,⟨t,rfl⟩,⟨t',rfl⟩⟩:=vals2 r
  refine max_two_ints (I.ok.hd hc) fun h' tk k=>⟨_,H,I.kept k,?_,q⟩
  by_cases hj:j > i
  · rw [if_pos hj,if_pos hj];exact ⟨_,rfl⟩
  · rw [if_neg hj,if_neg hj];exact ⟨_,rfl⟩
theorem call_min2 (hc:X.calm=true):CallR X (.builtin "min") (fun xs H Q=>∃ i j,xs=[.int i,.int j]/\Q (.int (if j < i then j else i)) H):=by
  intro pins s σ H xs us Q I r h
  obtain ⟨i,j,rfl,q⟩:=h
  obtain ⟨u,w',rfl,⟨t,rfl⟩,⟨t',rfl⟩⟩:=vals2 r
  refine min_two_ints (I.ok.hd hc) fun h' tk k=>⟨_,H,I.kept k,?_,q⟩
  by_cases hj:j < i
  · rw [if_pos hj,if_pos hj];exact ⟨_,rfl⟩
  · rw [if_neg hj,if_neg hj];exact ⟨_,rfl⟩
theorem call_int1:CallR X (.type "int") (fun xs H Q=>(∃ i,xs=[.int i]/\Q (.int i) H)\/∃ k,xs=[.bl k]/\Q (.int (if k then 1 else 0)) H):=by
  intro pins s σ H xs us Q I r h
  rcases h with ⟨i,rfl,q⟩ | ⟨k,rfl,q⟩
  · obtain ⟨u,rfl,t,rfl⟩:=vals1 r
    exact call_int_int ⟨.int i,H,I,⟨_,rfl⟩,q⟩
  · obtain ⟨u,rfl,r1⟩:=vals1 r
    cases r1
    exact call_int_bool ⟨.int (if k then 1 else 0),H,I.tok _,⟨_,rfl⟩,q⟩
end
end L2
namespace L2
open PySem PySem.Spec PyProof.Rows
structure ObjM (h:Heap) (x dx C:Addr) (mA:Str->Option Value):Prop where
  obj:h.get? x=some (PySem.W.instObj C dx)
  ns:h.Ns1 dx mA
  ne:dx≠x
section
variable {prog:Program} {w:World} {A:Around} {E:Value->Shared->Prop} {s:Shared} {K:PySem.W.Frag} {x dx C f:Addr} {mA:Str->Option Value} {name:Str} {v:Value}
end
theorem RelO.some_of {v:V} {o:Option Value} (r:RelO (some v) o):∃ u,o=some u/\RelV v u:=by
  cases o with
  | none=>exact (show False from r).elim
  | some u=>exact ⟨u,rfl,r⟩
section
variable {P:Program} {w:World} {H H':Hp} {h h':Heap} {a C dx:Addr} {fs fs':List (Str×V)}
end
structure Cls (K:PySem.W.Frag) (C:Addr):Prop where
  pg:PySem.W.plainGet K C Str.empty=true
  hd:PySem.W.hasDictIn K C=true
  po:PySem.W.plainOver K C=true
  sa:PySem.W.findIn K (.ref C) "__setattr__"=some (some (.builtin "object.__setattr__"))
theorem Cls.get {K:PySem.W.Frag} {C:Addr} (c:Cls K C) (f:Str):PySem.W.plainGet K C f=true:=c.pg
structure Con (K:PySem.W.Frag) (C:Addr) (f:Str) (v:V) (u:Value):Prop where
  at_:PySem.W.findIn K (.ref C) f=some (some u)
  rel:RelV v u
  get:PySem.W.specialIn K u "__get__"=some none
  cp:PySem.W.copiedNames.contains f=false
structure Meth (K:PySem.W.Frag) (C:Addr) (m:Str) (f:Addr):Prop where
  at_:PySem.W.findIn K (.ref C) m=some (some (.ref f))
  fn:PySem.W.isFn K (.ref f)=true
  kp:PySem.W.keepIn K (.ref f)=true
section
variable {X:Cx} {pins:List (Addr×Obj)} {σ:St} {H:Hp} {s:Shared} {a C dx:Addr} {fs:List (Str×V)} {f:Str} {v:V} {A:Around} {E:Value->Shared->Prop}
theorem Inv.made (I:Inv X pins σ H s):Inv X pins σ (upd (upd H s.heap.objs.size (.own (s.heap.objs.size+1))) (s.heap.objs.size+1) (.ins C s.heap.objs.size []))
    { s with heap:=(s.heap.push PySem.W.emptyDict).push (PySem.W.instObj C s.heap.objs.size) }:=by
  have e1:(s.heap.push PySem.W.emptyDict).get? s.heap.objs.size=some PySem.W.emptyDict:=Heap.get?_push_size s.heap rfl
  have e2:((s.heap.push PySem.W.emptyDict).push (PySem.W.instObj C s.heap.objs.size)).get? (s.heap.objs.size+1)=some (PySem.W.instObj C s.heap.objs.size):=by
    have:=Heap.get?_push_size (s.heap.push PySem.W.emptyDict) (o:=PySem.W.instObj C s.heap.objs.size) rfl
    rwa [Heap.size_push] at this
  have e3:(s.heap.push PySem.W.emptyDict).Ns s.heap.objs.size (fun _=>none):=⟨PySem.W.emptyDict,#[],_,e1,rfl,(fun e he=>absurd he (by simp)),fun _=>rfl⟩
  have I1:=I.laid (a:=s.heap.objs.size) (o:=.own (s.heap.objs.size+1)) (h':=s.heap.push PySem.W.emptyDict) (t':=s.toks) (fun b u q=>Heap.get?_push_of_some _ q) (Nat.le_refl _) ⟨_,e1⟩
  refine I1.laid (a:=s.heap.objs.size+1) (o:=.ins C s.heap.objs.size []) (t':=s.toks) (fun b u q=>Heap.get?_push_of_some _ q) (Nat.le_of_eq (Heap.size_push _ _)) ?_
  have ne:s.heap.objs.size≠s.heap.objs.size+1:=Nat.ne_of_lt (Nat.lt_succ_self _)
  refine ⟨by rw [upd_ne ne,upd_same],Nat.zero_le _,ne,e2,fun _=>none,(Heap.Ns1.of_empty e3).at fun o q=>Heap.get?_push_of_some _ q,fun _=>True.intro,fun y hy=>absurd rfl hy⟩
end
section
variable {X:Cx} {o e value:Expr} {f:Str} {pos pos' tpos:Pos} {ta tv:TE}
end
section
variable {X:Cx} {pins:List (Addr×Obj)} {σ:St} {H:Hp} {s:Shared} {A:Around} {E:Value->Shared->Prop} {Q:Value->Shared->Prop} {c:Value} {b:Bool}
inductive TyOf (K:PySem.W.Frag) (H:Hp):V->Value->Prop where
  | non:TyOf K H .non (.type "NoneType")
  | bl (x:Bool):TyOf K H (.bl x) (.type "bool")
  | int (i:Int):TyOf K H (.int i) (.type "int")
  | str (x:Str):TyOf K H (.str x) (.type "str")
  | flt (x:UInt64):TyOf K H (.flt x) (.type "float")
  | lst {a:Addr} {xs:List V} (e:H a=some (.lst xs)):TyOf K H (.ref a) (.type "list")
  | frz {a:Addr} {o:Obj} {xs:List V} (e:H a=some (.frz o (.lst xs))):TyOf K H (.ref a) (.type "list")
  | tup {a:Addr} {xs:List V} (e:H a=some (.tup xs)):TyOf K H (.ref a) (.type "tuple")
  | dK {a:Addr} {kvs:List (Key×V)} (e:H a=some (.dK kvs)):TyOf K H (.ref a) (.type "dict")
  | dT {a:Addr} {kvs:List (List Key×V)} (e:H a=some (.dT kvs)):TyOf K H (.ref a) (.type "dict")
  | ins {a C dx:Addr} {fs:List (Str×V)} (e:H a=some (.ins C dx fs)) (cl:Cls K C) (ha:PySem.W.findIn K (.ref C) "__class__"=some (some (.builtin "object.__class__")))
      (hn:PySem.W.specialIn K (.builtin "object.__class__") "__get__"=some (some (.builtin "getset_descriptor.__get__"))) (htk:PySem.W.takesIn K (.builtin "object.__class__")=some true)
      (hm:PySem.W.mroIn K C (.type "object")=some true):TyOf K H (.ref a) (.ref C)
end
end L2
namespace L2
open PySem PySem.Spec PyProof.Rows
structure Room (k:Nat) (A:Around):Prop where
  hd:A.handled=none
  dp:A.depth+3 * k+5 < recursionLimit
  un:A.units+16 * k+200 < cLine
theorem Room.mono {j k:Nat} {A:Around} (r:Room k A) (h:j<=k):Room j A:=⟨r.hd,by have:=r.dp;omega,by have:=r.un;omega⟩
theorem Room.deeper {k:Nat} {A:Around} (r:Room (k+1) A) (env:Env):Room k (A.deeper env) :=
  ⟨r.hd,by have:=r.dp;show A.depth+1+3 * k+5 < _;omega,by have:=r.un;show A.units+3+16 * k+200 < _;omega⟩
theorem Room.in1 {k:Nat} {A:Around} (r:Room (k+1) A):Room k A.in1 :=
  ⟨r.hd,by have:=r.dp;show A.depth+3 * k+5 < _;omega,by have:=r.un;show A.units+1+16 * k+200 < _;omega⟩
theorem Room.depth {k:Nat} {A:Around} (r:Room k A):A.depth < recursionLimit:=by have:=r.dp;omega
theorem Room.units {k:Nat} {A:Around} (r:Room k A):A.units+64 < cLine:=by have:=r.un;omega
theorem Room.units0 {k:Nat} {A:Around} (r:Room k A):A.units < cLine:=by have:=r.un;omega
def tNil:TA:=fun _ H Q=>Q [] H
def tCons (ta:TE) (tr:TA):TA:=fun σ H Q=>ta σ H fun x H1=>tr σ H1 fun xs H2=>Q (x::xs) H2
section
variable {X:Cx} {e:Expr} {es:List Expr} {te:TE} {t:TA} {pos:Pos}
theorem pa_nil:PA X [] tNil:=fun _ _ _ _ H Q I h=>Calls.spliced_nil ⟨[],H,I,.nil,h⟩
theorem pa_cons (ha:PE X e te) (hr:PA X es t) (hs:starEach (e::es) X.env=(false,eval e X.env)::starEach es X.env:=by rfl):PA X (e::es) (tCons te t):=by
  intro pos pins s σ H Q I h
  rw [hs]
  show wpAny _ _ (spliced ((false,eval e X.env)::backTo pos (starEach es X.env))) _ _ s
  refine Calls.spliced_cons (thn (ha pins s σ H _ I h) fun u s1 ⟨x,H1,I1,r1,q1⟩=>?_)
  exact thn (hr pos pins s1 σ H1 _ I1 q1) fun us s2 ⟨xs,H2,I2,r2,q2⟩=>⟨x::xs,H2,I2,.cons r1 r2,q2⟩
def tTup (t:TA):TE:=fun σ H Q=>t σ H fun xs H1=>xs.length<=sizeLine/\∀ p,H1 p=none->Q (.ref p) (upd H1 p (.tup xs))
def tLst (t:TA):TE:=fun σ H Q=>t σ H fun xs H1=>xs.length<=sizeLine/\∀ p,H1 p=none->Q (.ref p) (upd H1 p (.lst xs))
theorem pe_tup {x1} (h:PA X es t):PE X (.Tuple es x1 pos) (tTup t):=by
  intro pins s σ H Q I hq
  refine wpAny_Tuple_spliced (thn (h pos pins s σ H _ I hq) fun us s1 ⟨xs,H1,I1,r,z,q⟩=>⟨by rw [<- r.length];exact z,?_⟩)
  have hf:H1 s1.heap.objs.size=none:=I1.hok.fresh (Nat.le_refl _)
  refine ⟨.ref s1.heap.objs.size,upd H1 s1.heap.objs.size (.tup xs),I1.laid (t':=s1.toks) (fun b u e=>Heap.get?_push_of_some _ e) (Nat.le_refl _) ?_,rfl,q _ hf⟩
  exact ⟨z,us,r,⟨_,Heap.get?_push_size _ rfl,rfl,_,rfl⟩⟩
theorem pe_lst (h:PA X es t):PE X (.List es pos) (tLst t):=by
  intro pins s σ H Q I hq
  refine wpAny_List_spliced (thn (h pos pins s σ H _ I hq) fun us s1 ⟨xs,H1,I1,r,z,q⟩=>⟨by rw [<- r.length];exact z,?_⟩)
  have hf:H1 s1.heap.objs.size=none:=I1.hok.fresh (Nat.le_refl _)
  refine ⟨.ref s1.heap.objs.size,upd H1 s1.heap.objs.size (.lst xs),I1.laid (t':=s1.toks) (fun b u e=>Heap.get?_push_of_some _ e) (Nat.le_refl _) ?_,rfl,q _ hf⟩
  exact ⟨z,us,0,r,Heap.get?_push_size _ rfl⟩
end
abbrev Sp:=List V->Hp->VK->XK->Prop
abbrev CXT:=List Env->Hp->Shared->XK->Value->Shared->Prop
structure Env0 (P:Program) (w:World) (K:PySem.W.Frag) (mg:Str->Option Value) (base:Heap) (A:Around) (outer:List Env) (s:Shared) (H:Hp):Prop where
  frames:A.frames=some outer
  mod:Mod K mg base
  bs:∀ b o,base.get? b=some o->s.heap.get? b=some o/\H b=none
  bsz:base.objs.size<=s.heap.objs.size
  funs:s.heap.FunFrames base outer
  frf:∀ b∈frs outer,H b=none
  hok:HOk P w H s.heap
  bare:AllBare s.gens
def CE (outer:List Env) (P:Program) (w:World) (H:Hp) (s:Shared) (Q:VK) (u:Value) (s':Shared):Prop :=
  ∃ v H',s'.os=s.os/\AllBare s'.gens/\Un (frs outer) [] H H' s.heap s'.heap/\HOk P w H' s'.heap/\RelV v u/\Q v H'
def CR (CX:CXT) (outer:List Env) (P:Program) (w:World) (H:Hp) (s:Shared) (Q:VK) (E:XK) (r:Result) (s':Shared):Prop :=
  match r with
  | .ok (.ret u)=>CE outer P w H s Q u s'
  | .ok _=>False
  | .error e=>CX outer H s E e s'
structure FnOk (P:Program) (w:World) (K:PySem.W.Frag) (mg:Str->Option Value) (base:Heap) (CX:CXT) (k:Nat) (f:Addr) (fd:FuncData) (ps:List Str) (sp:Sp):Prop where
  len:∀ vs H Q E,sp vs H Q E->vs.length=ps.length
  run:∀ (A:Around) (outer:List Env) (s:Shared) (H:Hp) (args:Args) (us:List Value) (vs:List V) (Q:VK) (E:XK),Room k A->Env0 P w K mg base A outer s H->BindsTo s fd args (ps.zip us)->Vals vs us->sp vs H Q E ->
    codeAny (model P w) A (.call (.ref f) args) (CR CX outer P w H s Q E) s
theorem FnOk.mono {P:Program} {w:World} {K:PySem.W.Frag} {mg:Str->Option Value} {base:Heap} {CX:CXT} {j k:Nat} {f:Addr} {fd:FuncData} {ps:List Str} {sp:Sp} (F:FnOk P w K mg base CX j f fd ps sp) (h:j<=k) :
    FnOk P w K mg base CX k f fd ps sp:=⟨F.len,fun A outer s H args us vs Q E hr=>F.run A outer s H args us vs Q E (hr.mono h)⟩
theorem FnOk.imp {P:Program} {w:World} {K:PySem.W.Frag} {mg:Str->Option Value} {base:Heap} {CX:CXT} {k:Nat} {f:Addr} {fd:FuncData} {ps:List Str} {sp sp':Sp} (F:FnOk P w K mg base CX k f fd ps sp)
    (h:∀ vs H Q E,sp' vs H Q E->sp vs H Q E):FnOk P w K mg base CX k f fd ps sp' :=
  ⟨fun vs H Q E q=>F.len vs H Q E (h _ _ _ _ q),fun A outer s H args us vs Q E hr he hb hv hs=>F.run A outer s H args us vs Q E hr he hb hv (h _ _ _ _ hs)⟩
theorem Env0.in1 {P:Program} {w:World} {K:PySem.W.Frag} {mg:Str->Option Value} {base:Heap} {A:Around} {outer:List Env} {s:Shared} {H:Hp} (e:Env0 P w K mg base A outer s H) :
    Env0 P w K mg base A.in1 outer s H:=⟨e.frames,e.mod,e.bs,e.bsz,e.funs,e.frf,e.hok,e.bare⟩
section
variable {X:Cx} {pins:List (Addr×Obj)} {σ:St} {H:Hp} {s s':Shared}
theorem Inv.env0 (I:Inv X pins σ H s):Env0 X.prog X.w X.K X.mg X.base X.A X.stack s H :=
  ⟨I.ok.frames,I.ok.mod,I.bs,Nat.le_trans I.ok.bsz I.sz,I.stack,I.stkFree,I.hok,I.bare⟩
theorem Inv.after {Q:VK} {u:Value} (I:Inv X pins σ H s) (h:CE X.stack X.prog X.w H s Q u s'):EP X pins σ Q u s':=by
  obtain ⟨v,H',os,bare,un,hok,r,q⟩:=h
  obtain ⟨hh,g,d,t,os'⟩:=s'
  obtain rfl:os'=s.os:=os
  exact ⟨v,H',I.call (h':=hh) (g':=g) (d':=d) (t':=t) (ch:=[]) un hok bare (fun b z=>absurd z (by simp)),r,q⟩
end
def tCall (sp:Sp) (dvs:List V) (E:XK) (t:TA):TE:=fun σ H Q=>t σ H fun vs H1=>sp (vs++dvs) H1 Q E
def Binds (K:PySem.W.Frag) (fd:FuncData) (ps:List Str) (ds:List Value):Prop :=
  ∀ (s:Shared) (us:List Value),K.In s.heap->(us++ds).length=ps.length->BindsTo s fd ⟨us,[]⟩ (ps.zip (us++ds))
theorem Binds.all {K:PySem.W.Frag} {fd:FuncData} {ps:List Str} (h:∀ us:List Value,us.length=ps.length->bindArgs fd ⟨us,[]⟩=pure (ps.zip us)):Binds K fd ps []:=fun s us _ hl=>by
  rw [List.append_nil] at hl ⊢
  exact .of_eq (h us hl)
def Passes (CX:CXT) (X:Cx) (E:XK):Prop:=∀ (pins:List (Addr×Obj)) (σ:St) (H:Hp) (s:Shared) (e:Value) (s':Shared),Inv X pins σ H s->CX X.stack H s E e s'->X.xe e s'
section
variable {X:Cx} {CX:CXT} {k:Nat} {f C:Addr} {fd:FuncData} {ps:List Str} {sp:Sp} {dvs:List V} {ds:List Value} {E:XK} {x m:Str} {p pos apos:Pos} {e o:Expr} {es:List Expr} {ta:TE} {t:TA}
theorem run_fn {pins:List (Addr×Obj)} {σ:St} {H:Hp} {s:Shared} {Q:VK} {us:List Value} {vs:List V} (F:FnOk X.prog X.w X.K X.mg X.base CX k f fd ps sp) (hr:Room k X.A) (hb:Binds X.K fd ps ds) (hd:Vals dvs ds) (hx:Passes CX X E)
    (I:Inv X pins σ H s) (r:Vals vs us) (h:sp (vs++dvs) H Q E):wpAny (model X.prog X.w) X.A (call (.ref f) us) (EP X pins σ Q) X.xe s:=by
  have r2:Vals (vs++dvs) (us++ds):=r.append hd
  have hl:(us++ds).length=ps.length:=by rw [<- r2.length];exact F.len _ _ _ _ h
  refine wpAny_call (codeAny_mono (F.run X.A X.stack s H ⟨us,[]⟩ (us++ds) (vs++dvs) Q E hr I.env0 (hb s us I.kIn hl) r2 h) fun r s' hq=>?_)
  cases r with
  | error e=>exact hx pins σ H s e s' I hq
  | ok fl =>
    cases fl with
    | ret u=>exact I.after hq
    | next=>exact False.elim hq
    | brk=>exact False.elim hq
    | cont=>exact False.elim hq
theorem pe_call (F:FnOk X.prog X.w X.K X.mg X.base CX k f fd ps sp) (hr:Room k X.A) (hg:Gl X x) (hm:X.mg x=some (.ref f)) (hk:PySem.W.keepIn X.K (.ref f)=true) (hb:Binds X.K fd ps ds) (hd:Vals dvs ds) (hx:Passes CX X E)
    (ha:PA X (e::es) t) (hdb:(x == ("__debug__":Str))=false:=by decide) (he:starEach (e::es) X.env=(false,eval e X.env)::starEach es X.env:=by rfl) (hpl:(backTo pos (starEach es X.env)).any (·.1)=false:=by rfl) :
    PE X (.Call (.Name x p) (e::es) [] pos) (tCall sp dvs E t):=by
  intro pins s σ H Q I h
  refine wpAny_Call_Name_kw (ld_glob I hg hm ?_ hdb)
  refine PySem.W.callWith_K (h₀:=X.base) I.ok.mod.kin hk (thn (ha pos pins s σ H _ I h) fun us s1 ⟨vs,H1,I1,r,q⟩=>⟨I1.kIn,?_⟩) he hpl
  exact run_fn F hr hb hd hx I1 r q
structure Mk (K:PySem.W.Frag) (C f:Addr):Prop where
  makes:PySem.W.makesIn K C=true
  init:PySem.W.findIn K (.ref C) "__init__"=some (some (.ref f))
  fn:PySem.W.isFn K (.ref f)=true
  kp:PySem.W.keepIn K (.ref C)=true
end
section
variable {X:Cx} {CX:CXT} {k:Nat} {f C:Addr} {fd:FuncData} {ps ks:List Str} {sp:Sp} {E:XK} {x m:Str} {p pos apos kpos:Pos} {e o:Expr} {es:List Expr} {kws:List Keyword} {te ta:TE} {t tk:TA} {nm:Option Str}
structure KBinds (K:PySem.W.Frag) (fd:FuncData) (ps ks:List Str) (g:List Value->List Value->List Value) (gV:List V->List V->List V):Prop where
  to:∀ (s:Shared) (us ws:List Value),K.In s.heap->(g us ws).length=ps.length->BindsTo s fd ⟨us,ks.zip ws⟩ (ps.zip (g us ws))
  rel:∀ {vs:List V} {us:List Value} {zs:List V} {ws:List Value},Vals vs us->Vals zs ws->Vals (gV vs zs) (g us ws)
variable {g:List Value->List Value->List Value} {gV:List V->List V->List V}
end
structure FnScope (N P:List Str) (sc:Scope):Prop where
  kind:sc.kind=.function
  co:sc.isCoroutine=false
  gen:sc.isGenerator=false
  nd:N.Nodup
  pre:N.take P.length=P
  par:∀ x∈P,sc.names.lookup x=some .local\/sc.names.lookup x=some .cell
  nofree:∀ y∈sc.names,y.2≠.free
theorem bindL_out {kindOf:Str->Option NameKind} {x:Str}:∀ {binds:List (Str×Value)} {m:Str->Option Value},(∀ v,(x,v)∉binds)->bindL kindOf binds m x=m x
  | [],_,_=>rfl
  | (n,v)::r,m,h=>by
    unfold bindL
    rw [bindL_out fun w hw=>h w (List.mem_cons_of_mem _ hw)]
    split
    · have:x≠n:=by rintro rfl;exact h v List.mem_cons_self
      simp [this]
    · rfl
theorem bindC_out {kindOf:Str->Option NameKind} {x:Str}:∀ {binds:List (Str×Value)} {m:Str->Option Value},(∀ v,(x,v)∉binds)->bindC kindOf binds m x=m x
  | [],_,_=>rfl
  | (n,v)::r,m,h=>by
    unfold bindC
    rw [bindC_out fun w hw=>h w (List.mem_cons_of_mem _ hw)]
    split
    · rfl
    · have:x≠n:=by rintro rfl;exact h v List.mem_cons_self
      simp [this]
theorem bindL_get {kindOf:Str->Option NameKind} {x:Str} {v:Value}:∀ {P:List Str} {vs:List Value} {i:Nat} {m:Str->Option Value},P.Nodup->P[i]?=some x->vs[i]?=some v->kindOf x=some .local ->
    bindL kindOf (P.zip vs) m x=some v
  | [],_,_,_,_,h,_,_=>by simp at h
  | _::_,[],_,_,_,_,h,_=>by simp at h
  | p::P,w::vs,0,m,nd,h1,h2,hk=>by
    simp at h1 h2;subst h1;subst h2
    show bindL kindOf ((p,w)::P.zip vs) m p=_
    unfold bindL
    rw [bindL_out fun v hv=>(List.nodup_cons.mp nd).1 (List.of_mem_zip hv).1,if_pos hk]
    simp
  | p::P,w::vs,i+1,m,nd,h1,h2,hk=>by
    show bindL kindOf ((p,w)::P.zip vs) m x=_
    unfold bindL
    exact bindL_get (i:=i) (List.nodup_cons.mp nd).2 (by simpa using h1) (by simpa using h2) hk
theorem bindC_get {kindOf:Str->Option NameKind} {x:Str} {v:Value}:∀ {P:List Str} {vs:List Value} {i:Nat} {m:Str->Option Value},P.Nodup->P[i]?=some x->vs[i]?=some v->kindOf x≠some .local ->
    bindC kindOf (P.zip vs) m x=some v
  | [],_,_,_,_,h,_,_=>by simp at h
  | _::_,[],_,_,_,_,h,_=>by simp at h
  | p::P,w::vs,0,m,nd,h1,h2,hk=>by
    simp at h1 h2;subst h1;subst h2
    show bindC kindOf ((p,w)::P.zip vs) m p=_
    unfold bindC
    rw [bindC_out fun v hv=>(List.nodup_cons.mp nd).1 (List.of_mem_zip hv).1,if_neg hk]
    simp
  | p::P,w::vs,i+1,m,nd,h1,h2,hk=>by
    show bindC kindOf ((p,w)::P.zip vs) m x=_
    unfold bindC
    exact bindC_get (i:=i) (List.nodup_cons.mp nd).2 (by simpa using h1) (by simpa using h2) hk
def start (N:List Str) (vs:List V):St:=vs.map some++List.replicate (N.length - vs.length) none
def cxOf (CX:CXT) (P:Program) (w:World) (K:PySem.W.Frag) (mg:Str->Option Value) (base:Heap) (N:List Str) (qual:Str) (scope:Scope) (f:Addr) (cd:Value) (A:Around) (outer:List Env) (s:Shared) (H:Hp) (E:XK):Cx where
  prog:=P
  w:=w
  K:=K
  mg:=mg
  base:=base
  A:=A.deeper (envOfC qual scope s.heap.objs.size f cd)
  N:=N
  s₀:=s
  H₀:=H
  env:=envOfC qual scope s.heap.objs.size f cd
  outer:=outer
  stack:=envOfC qual scope s.heap.objs.size f cd::outer
  ex:=[]
  calm:=true
  fn:=fun _=>true
  pn:=[]
  xe:=fun e s'=>wpAny (model P w) (A.deeper (envOfC qual scope s.heap.objs.size f cd)) (leaving (envOfC qual scope s.heap.objs.size f cd) e) (fun _ s''=>CX outer H s E e s'') (fun e' s''=>CX outer H s E e' s'') s'
theorem cell_has {sc:Scope} {n:Nat} {x:Str} (h:sc.names.lookup x=some .cell):∃ c,(cellsFrom n sc.names []).lookup x=some c:=by
  have q:=PySem.W.cellsFrom_some sc.names n [] (.inl h)
  exact Option.isSome_iff_exists.mp q
theorem inv_start {CX:CXT} {P:Program} {w:World} {K:PySem.W.Frag} {mg:Str->Option Value} {base:Heap} {N ps:List Str} {qual:Str} {scope:Scope} {f:Addr} {cd:Value} {A:Around} {outer:List Env} {s s1:Shared} {H:Hp} {E:XK} {us:List Value} {vs:List V}
    (S:FnScope N ps scope) (hd:A.handled=none) (e0:Env0 P w K mg base A outer s H) (hl:vs.length=ps.length) (r:Vals vs us)
    (x:InCallC s s.heap.objs.size (bindL (envOfC qual scope s.heap.objs.size f cd).kindOf (ps.zip us) fun _=>none) (cellsFrom (s.heap.objs.size+1) scope.names []) (bindC (envOfC qual scope s.heap.objs.size f cd).kindOf (ps.zip us) fun _=>none) s1) :
    Inv (cxOf CX P w K mg base N qual scope f cd A outer s H E) [] (start N vs) H s1:=by
  have hpl:ps.length<=N.length:=by have:=congrArg List.length S.pre;rw [List.length_take] at this;omega
  obtain ⟨h1,tk,rfl,hk⟩:=x.done
  have noA:∀ b:Addr,b∉(cxOf CX P w K mg base N qual scope f cd A outer s H E).ex:=fun b z=>absurd (show b∈([]:List Addr) from z) (by simp)
  refine ⟨⟨e0.mod,S.kind,rfl,rfl,Nat.le_refl _,fun y z c h1 h2=>?_,fun y hy=>?_,fun y c _ h=>?_,fun _=>hd,Around.frames_deeper e0.frames,.inr ⟨rfl,rfl⟩,fun b z=>absurd z (noA b),e0.bs,e0.bsz,fun b _ _=>noA b,fun b z=>absurd z (noA b),e0.funs,e0.frf⟩,
    rfl,e0.bare,Un.kept hk,⟨_,x.toInCall.ns,fun i y v h1 h2 h3=>?_⟩,fun y c h=>⟨_,x.cell y c h⟩,e0.hok.fresh (Nat.le_refl _),fun y c h=>?_,fun p hp=>absurd (show p∈([]:List (Addr×Obj)) from hp) (by simp),e0.hok.kept hk,?_⟩
  · exact name_of_addr x.apart (PySem.mem_of_lookup h1) (PySem.mem_of_lookup h2)
  · have hy:scope.names.lookup y=some .cell\/scope.names.lookup y=some .free:=hy
    rcases hy with hy | hy
    · exact cell_has hy
    · exact absurd rfl (S.nofree _ (PySem.mem_of_lookup hy))
  · exact Nat.le_of_lt (x.above y c (PySem.mem_of_lookup h))
  · have hi:i < vs.length:=by
      unfold start at h2
      by_cases hi:i < vs.length
      · exact hi
      · rw [List.getElem?_append_right (by simpa using hi)] at h2
        rw [List.getElem?_replicate] at h2
        split at h2 <;> cases h2
    have ha:vs[i]?=some v:=by
      unfold start at h2
      rw [List.getElem?_append_left (by simpa using hi),List.getElem?_map] at h2
      cases e:vs[i]? with
      | none=>rw [e] at h2;cases h2
      | some a=>rw [e] at h2;cases h2;rfl
    obtain ⟨u,hu,rv⟩:=r.get ha
    have hp:ps[i]?=some y:=by
      rw [<- S.pre,List.getElem?_take_of_lt (by omega)];exact h1
    have ndP:ps.Nodup:=by rw [<- S.pre];exact S.nd.sublist (List.take_sublist _ _)
    refine ⟨u,rv,?_⟩
    rcases S.par y (List.mem_of_getElem? hp) with k | k
    · exact .inl ⟨k,bindL_get ndP hp hu k⟩
    · obtain ⟨c,e⟩:=cell_has (n:=s.heap.objs.size+1) k
      refine .inr ⟨.inl k,c,e,?_⟩
      have q:=x.cell y c e
      rw [bindC_get ndP hp hu (by show scope.names.lookup y≠_;rw [k];decide)] at q
      exact q
  · exact e0.hok.fresh (Nat.le_of_lt (x.above y c (PySem.mem_of_lookup h)))
  · unfold start
    show _=N.length
    rw [List.length_append,List.length_map,List.length_replicate]
    omega
theorem fn_of {CX:CXT} {P:Program} {w:World} {K:PySem.W.Frag} {mg:Str->Option Value} {base:Heap} {k:Nat} {f:Addr} {name qual:Str} {params:Arguments} {body:List Stmt} {scope:Scope} {dV kV doc pm cdv ct oc:Value} {an od:Option Addr}
    {osl:Array (Option Value)} {N ps:List Str} {sp:Sp} (lk:K.lookup f=some ⟨oc,od,.func (PySem.W.fnOf name qual params body scope dV kV doc pm an cdv ct),osl⟩) (hcd:PySem.W.codeIn K cdv qual=true) (S:FnScope N ps scope)
    (len:∀ vs H Q E,sp vs H Q E->vs.length=ps.length)
    (hbody:∀ (A:Around) (outer:List Env) (s:Shared) (H:Hp) (vs:List V) (Q:VK) (E:XK),Room k (A.deeper (envOfC qual scope s.heap.objs.size f cdv))->sp vs H Q E ->
      ∃ t,PSs (cxOf CX P w K mg base N qual scope f cdv A outer s H E) body t/\t { nx:=fun _ H'=>Q .non H',rt:=Q } (start N vs) H) :
    FnOk P w K mg base CX (k+1) f (PySem.W.fnOf name qual params body scope dV kV doc pm an cdv ct) ps sp:=by
  refine ⟨len,fun A outer s H args us vs Q E hr e0 hb r hsp=>?_⟩
  have hl:=len _ _ _ _ hsp
  have KX:K.In s.heap:=e0.mod.kin.keeps fun b o e=>(e0.bs b o e).1
  have lim:s.heap.NoLimit:=e0.mod.nolimit.keeps fun b o e=>(e0.bs b o e).1
  have hkind:∀ y∈ps.zip us,scope.names.lookup y.1=some .local\/(scope.names.lookup y.1=some .cell/\((cellsFrom (s.heap.objs.size+1) scope.names []).lookup y.1).isSome=true):=fun ⟨n,v⟩ hy=>by
    rcases S.par n (List.of_mem_zip hy).1 with q | q
    · exact .inl q
    · exact .inr ⟨q,PySem.W.cellsFrom_some _ _ _ (.inl q)⟩
  refine codeAny_call_function hr.depth (KX _ _ lk) rfl S.co S.gen rfl (PySem.W.codeRec_of KX hcd) (hb _ _ _ _ ?_)
  refine wpAny_newFunctionEnv_cells S.kind hkind fun env he s1 x=>?_
  subst he
  refine ⟨lim.keeps x.toInCall.keep,codeAny_func ?_⟩
  obtain ⟨t,ht,hq⟩:=hbody A outer s H vs Q E (hr.deeper _) hsp
  have I:Inv (cxOf CX P w K mg base N qual scope f cdv A outer s H E) [] (start N vs) H s1:=inv_start S hr.hd e0 hl r x
  refine wpAny_mono (ht [] s1 (start N vs) H _ I hq) (fun fl s' hs=>?_) fun e s' hs=>hs
  have fin:∀ {σ':St} {H':Hp} {v:V} {u:Value},Inv (cxOf CX P w K mg base N qual scope f cdv A outer s H E) [] σ' H' s'->RelV v u->Q v H'->CE outer P w H s Q u s' :=
    fun {σ' H' v u} J rv q=>⟨v,H',J.os,J.bare,J.base,J.hok,rv,q⟩
  cases fl with
  | ret u =>
    obtain ⟨v,σ',H',J,rv,q⟩:=hs
    exact fin J rv q
  | next =>
    obtain ⟨σ',H',J,q⟩:=hs
    exact fin (v:=V.non) (u:=Value.none) J rfl q
  | brk =>
    obtain ⟨_,_,_,q⟩:=hs
    exact False.elim q
  | cont =>
    obtain ⟨_,_,_,q⟩:=hs
    exact False.elim q
end L2
namespace L2
open PySem PySem.Spec PyProof.Rows
section
variable {X:Cx} {x:Str} {p pos:Pos} {e:Expr} {es:List Expr} {t:TA} {id T:String} {r:List V->Hp->VK->Prop}
def tCB (r:List V->Hp->VK->Prop) (t:TA):TE:=fun σ H Q=>t σ H fun vs H1=>r vs H1 Q
theorem pe_callB (hc:CallR X (.builtin id) r) (hg:Gl X x) (hm:X.mg x=none) (hv:bootBuiltins x=some (.builtin id)) (ha:PA X (e::es) t) (hn:x≠"__name__":=by decide) (hdb:(x == ("__debug__":Str))=false:=by decide)
    (he:starEach (e::es) X.env=(false,eval e X.env)::starEach es X.env:=by rfl) (hpl:(backTo pos (starEach es X.env)).any (·.1)=false:=by rfl):PE X (.Call (.Name x p) (e::es) [] pos) (tCB r t):=by
  intro pins s σ H Q I h
  refine wpAny_Call_Name_kw (ld_blt I hg hm hv ?_ hn hdb)
  exact PyProof.Rows.callWith_builtin1 (thn (ha pos pins s σ H _ I h) fun us s1 ⟨vs,H1,I1,r1,q1⟩=>hc pins s1 σ H1 vs us Q I1 r1 q1) he hpl
theorem pe_callTy (hc:CallR X (.type T) r) (hg:Gl X x) (hm:X.mg x=none) (hv:bootBuiltins x=some (.type T)) (ha:PA X (e::es) t) (hn:x≠"__name__":=by decide) (hdb:(x == ("__debug__":Str))=false:=by decide)
    (he:starEach (e::es) X.env=(false,eval e X.env)::starEach es X.env:=by rfl) (hpl:(backTo pos (starEach es X.env)).any (·.1)=false:=by rfl):PE X (.Call (.Name x p) (e::es) [] pos) (tCB r t):=by
  intro pins s σ H Q I h
  refine wpAny_Call_Name_kw (ld_blt I hg hm hv ?_ hn hdb)
  exact PyProof.Rows.callWith_type1 (thn (ha pos pins s σ H _ I h) fun us s1 ⟨vs,H1,I1,r1,q1⟩=>hc pins s1 σ H1 vs us Q I1 r1 q1) he hpl
end
end L2
namespace HT
open PySem PyProof.Rows
def lexLt:List Int->List Int->Bool
  | [],[]=>false
  | [],_::_=>true
  | _::_,[]=>false
  | x::xs,y::ys=>if x=y then lexLt xs ys else decide (x < y)
theorem lexLt_cons (x y:Int) (xs ys:List Int):lexLt (x::xs) (y::ys)=if x=y then lexLt xs ys else decide (x < y):=rfl
theorem lexLt_nil_nil:lexLt [] []=false:=rfl
theorem lexLt_nil_cons (y:Int) (ys:List Int):lexLt [] (y::ys)=true:=rfl
theorem lexLt_cons_nil (x:Int) (xs:List Int):lexLt (x::xs) []=false:=rfl
theorem eqAt_int (A:Around) (s:Shared) (a:Int) (t:Tok) (c:Int) (u:Tok):∃ e,SeqAt.EqAt A s (.int a t) (.int c u) e/\(e=true ↔ a=c) :=
  ⟨(a == c),SeqAt.EqAt.int_int a t c u,by simp⟩
theorem rcLt_int (A:Around) (s:Shared) (a:Int) (t:Tok) (c:Int) (u:Tok) (prog:Program) (w:World) (E:Value->Shared->Prop) (Q:Value->Shared->Prop) (h:Q (.bool (decide (a < c))) s) :
    wpAny (model prog w) A (richCompare .Lt (.int a t) (.int c u)) Q E s :=
  (PyProof.Rows.lt_int h:wpAny (model prog w) A (compareOp .Lt (.int a t) (.int c u)) Q E s)
section
open PySem.SeqAt
open PySem.AutoSeq1 (wpAny_loadPart')
open PySem.MeetsSeq PySem.MeetsSeq2 PySem.MeetsSeq3
theorem tuple_lt_ints (l b:Addr) (items items2:Array Value) (n n2:Nat) (dd dd2:Option Addr) (sl sl2:Array (Option Value)) (ns ms:List Int) (hi:IntsAre items.toList ns) (hj:IntsAre items2.toList ms) :
    Meets (Builtin.«tuple.__lt__» ⟨[.ref l,.ref b],[]⟩)
      (fun _ R s=>s.heap.get? l=some { cls:=.type "tuple",dict:=dd,data:=.seq items n,slots:=sl }/\s.heap.get? b=some { cls:=.type "tuple",dict:=dd2,data:=.seq items2 n2,slots:=sl2 } /\
        R (.ok (.ret (.bool (lexLt ns ms)))) s) :=
  .of_wp fun prog w A R s h=>by
    obtain ⟨hp,g,d,tk,os⟩:=s;obtain ⟨hl,hb,h⟩:=h
    have f2:=AutoSeq1.sub_tuple_tuple
    have z1:items.size=ns.length:=by rw [<- hi.length];simp
    have z2:items2.size=ms.length:=by rw [<- hj.length];simp
    wp_walk using wpAny_loadPart' hl,wpAny_loadPart' hb,wpAny_forIn_list _ (fun rest b s'=>b.1=none/\s'=⟨hp,g,d,tk,os⟩/\∃ (vs ws:List Value) (ns' ms':List Int),rest=vs.zip ws /\
      IntsAre vs ns'/\IntsAre ws ms'/\ns'.length+items2.size=ms'.length+items.size/\R (.ok (.ret (.bool (lexLt ns' ms')))) ⟨hp,g,d,tk,os⟩) _
    case turn =>
      rintro ⟨y,x⟩ rest b s' ⟨hb',rfl,vs,ws,ns',ms',hz,hvi,hwi,hlen,hR⟩
      cases hvi with
      | nil=>rw [List.zip_nil_left] at hz;cases hz
      | cons a t hvi' =>
        cases hwi with
        | nil=>rw [List.zip_nil_right] at hz;cases hz
        | cons c u hwi' =>
          rw [List.zip_cons_cons] at hz
          injection hz with hyx hrest
          injection hyx with hy hx
          subst hy hx
          rw [lexLt_cons] at hR
          simp only [List.length_cons] at hlen
          obtain ⟨e,he,hiff⟩:=eqAt_int A.in1 ⟨hp,g,d,tk,os⟩ a t c u
          refine wpAny_bind (he prog w _ _ ?_)
          cases e with
          | true =>
            rw [if_pos (hiff.mp rfl)] at hR
            wp_walk
            exact ⟨rfl,rfl,_,_,_,_,hrest,hvi',hwi',by omega,hR⟩
          | false =>
            rw [if_neg (fun q=>absurd (hiff.mpr q) Bool.false_ne_true)] at hR
            have hri:=rcLt_int A.in1 ⟨hp,g,d,tk,os⟩ a t c u prog w
            wp_walk using hri
            exact ⟨_,rfl,by simpa using hR⟩
    case fin =>
      rintro ⟨b1,b2⟩ s' ⟨hb',rfl,vs,ws,ns',ms',hz,hvi,hwi,hlen,hR⟩
      simp only at hb'
      subst hb'
      have hv:lexLt ns' ms'=decide (items.size < items2.size):=by
        cases hvi with
        | nil =>
          cases hwi with
          | nil =>
            simp only [List.length_nil] at hlen
            rw [lexLt_nil_nil]
            exact (decide_eq_false (by omega)).symm
          | cons c u hw =>
            simp only [List.length_nil,List.length_cons] at hlen
            rw [lexLt_nil_cons]
            exact (decide_eq_true (by omega)).symm
        | cons a t hv =>
          cases hwi with
          | nil =>
            simp only [List.length_nil,List.length_cons] at hlen
            rw [lexLt_cons_nil]
            exact (decide_eq_false (by omega)).symm
          | cons c u hw =>
            rw [List.zip_cons_cons] at hz
            cases hz
      rw [hv] at hR
      wp_walk
      exact ⟨_,rfl,by simpa [Builtin.Tuple.tupleCompareSizes] using hR⟩
    case h =>
      exact ⟨rfl,rfl,items.toList,items2.toList,ns,ms,rfl,hi,hj,by omega,h⟩
end
section
variable {prog:Program} {w:World} {A:Around} {E:Value->Shared->Prop} {s:Shared}
theorem lt_tupInts {l b:Addr} {items items2:Array Value} {ns ms:List Int} {Q:Value->Shared->Prop} (hl:IsTup s.heap l items) (hb:IsTup s.heap b items2) (hi:IntsAre items.toList ns) (hj:IntsAre items2.toList ms)
    (hu:A.units < cLine) (h:Q (.bool (lexLt ns ms)) s):wpAny (model prog w) A (compareOp .Lt (.ref l) (.ref b)) Q E s:=by
  obtain ⟨⟨cls,dd,data,sl⟩,ho,hc,n,hd⟩:=id hl
  obtain ⟨⟨cls2,dd2,data2,sl2⟩,ho2,hc2,n2,hd2⟩:=id hb
  simp only at hc hd hc2 hd2
  subst hc hd hc2 hd2
  exact richCompare_meets_room (op:=.Lt) ⟨_,ho,rfl⟩ ⟨_,ho2,rfl⟩ PySem.F.slot_tuple_lt PySem.F.entry_tuple_lt (PySem.F.args_tuple_lt_2 _ _) (tuple_lt_ints l b items items2 n n2 dd dd2 sl sl2 ns ms hi hj)
    ⟨ho,ho2,show Value.bool (lexLt ns ms)≠Value.notImplemented/\Q (.bool (lexLt ns ms)) s from ⟨(fun x=>nomatch x),h⟩⟩ hu
theorem cat_tup {t b:Addr} {vs ws:List Value} {Q:Value->Shared->Prop} (ht:IsTup s.heap t vs.toArray) (hb:IsTup s.heap b ws.toArray) (hv:vs≠[])
    (h1:ws=[]->Q (.ref t) s) (h2:ws≠[]->Q (.ref s.heap.objs.size) { s with heap:=s.heap.push { cls:=.type "tuple",data:=.seq (vs++ws).toArray } })
    (hsz:vs.length+ws.length<=sizeLine):wpAny (model prog w) A (binaryOp .Add (.ref t) (.ref b)) Q E s:=by
  obtain ⟨⟨cls,dd,data,sl⟩,ho,hc,n,hd⟩:=id ht
  obtain ⟨⟨cls2,dd2,data2,sl2⟩,ho2,hc2,n2,hd2⟩:=id hb
  simp only at hc hd hc2 hd2
  subst hc hd hc2 hd2
  have e:vs.toArray++ws.toArray=(vs++ws).toArray:=by simp
  by_cases hw:ws=[]
  · exact concat_meets ⟨_,ho,rfl⟩ ⟨_,ho2,rfl⟩ noFill_tuple_add seq_tuple_add PySem.F.slot_tuple_add PySem.F.entry_tuple_add (PySem.F.args_tuple_add_2 _ _)
      (tuple_addW1 t b vs.toArray ws.toArray n n2 dd dd2 sl sl2 (by simpa using hv) (by simp [hw])) ⟨ho,ho2,h1 hw⟩
  · refine concat_meets ⟨_,ho,rfl⟩ ⟨_,ho2,rfl⟩ noFill_tuple_add seq_tuple_add PySem.F.slot_tuple_add PySem.F.entry_tuple_add (PySem.F.args_tuple_add_2 _ _)
      (tuple_addW2 t b vs.toArray ws.toArray n n2 dd dd2 sl sl2 (by simpa using hv) (by simpa using hw) (by rw [List.size_toArray,List.size_toArray];exact hsz)) ⟨ho,ho2,?_⟩
    rw [e]
    exact h2 hw
def sIx (n d:Nat):Option Int->Nat
  | none=>d
  | some v=>if v < 0 then (v+(n:Int)).toNat else min v.toNat n
theorem sIx_none (n d:Nat):sIx n d none=d:=rfl
theorem sIx_nat (n d k:Nat):sIx n d (some (k:Int))=min k n:=by
  show (if (k:Int) < 0 then ((k:Int)+(n:Int)).toNat else min (k:Int).toNat n)=min k n
  rw [if_neg (by omega),Int.toNat_natCast]
theorem sIx_le (n d:Nat) (hd:d<=n) (o:Option Int):sIx n d o<=n:=by
  cases o with
  | none=>exact hd
  | some v =>
    show (if v < 0 then (v+(n:Int)).toNat else min v.toNat n)<=n
    by_cases hv:v < 0
    · rw [if_pos hv];omega
    · rw [if_neg hv];exact Nat.min_le_right _ _
theorem clip_eq (v:Int) (n d:Nat):(if v < 0 then max (v+(n:Int)) 0 else min v (n:Int))=((sIx n d (some v):Nat):Int):=by
  show (if v < 0 then max (v+(n:Int)) 0 else min v (n:Int))=(((if v < 0 then (v+(n:Int)).toNat else min v.toNat n):Nat):Int)
  by_cases hv:v < 0
  · simp only [if_pos hv];omega
  · simp only [if_neg hv];omega
theorem adjust_gen (lo hi:Option Int) (n:Nat):Builtin.Slice.sliceAdjust lo hi 1 (n:Int)=(((sIx n 0 lo:Nat):Int),((sIx n n hi:Nat):Int)):=by
  have h1:¬ ((1:Int) < 0):=by omega
  unfold Builtin.Slice.sliceAdjust
  simp only [h1,if_false]
  refine Prod.ext ?_ ?_
  · cases lo with
    | none=>rfl
    | some v=>exact clip_eq v n 0
  · cases hi with
    | none=>rfl
    | some v=>exact clip_eq v n n
theorem places_gen (i j:Nat):Builtin.Slice.slicePlaces (i:Int) (j:Int) 1=j - i:=by
  unfold Builtin.Slice.slicePlaces
  have h1:(1:Int) > 0:=by omega
  simp only [h1,if_true,Int.ediv_one]
  split <;> omega
theorem slicePart_ {v:Value} {o:Option Int} {Q:Option Int->Shared->Prop} (p:IsPart v o) (h:Q o s):wpAny (model prog w) A (Builtin.Slice.slicePartIndex v) Q E s:=by
  cases p with
  | none=>exact slicePart_none h
  | int i t=>exact slicePart_int h
theorem sliceApplied_gen {sl:Addr} {vl vu:Value} {lo hi:Option Int} {n:Nat} {Q:Int×Int×Nat->Shared->Prop} (hs:s.heap.IsSliceOf sl vl vu .none) (pl:IsPart vl lo) (pu:IsPart vu hi)
    (h:Q (((sIx n 0 lo:Nat):Int),1,sIx n n hi - sIx n 0 lo) s):wpAny (model prog w) A (Builtin.Slice.sliceApplied (.ref sl) (pure (n:Int))) Q E s:=by
  obtain ⟨os,hos,hcs,hds⟩:=id hs
  unfold Builtin.Slice.sliceApplied Builtin.Slice.sliceFields
  refine wpAny_bind (wpAny_bind (wpAny_field hos hds (x:=vl) rfl (wpAny_bind (wpAny_field hos hds (x:=vu) rfl (wpAny_bind (wpAny_field hos hds (x:=.none) rfl (wpAny_pure ?_)))))))
  refine wpAny_bind (slicePart_none ?_)
  show wpAny _ _ (if ((1:Int) == 0)=true then _ else _) _ _ s
  rw [if_neg (by decide)]
  refine wpAny_bind (slicePart_ pl (wpAny_bind (slicePart_ pu (wpAny_bind (wpAny_pure ?_)))))
  show wpAny _ _ (match Builtin.Slice.sliceAdjust lo hi 1 (n:Int) with | (lo,hi)=>pure (lo,(1:Int),Builtin.Slice.slicePlaces lo hi 1)) _ _ s
  rw [adjust_gen lo hi n]
  show wpAny _ _ (pure (((sIx n 0 lo:Nat):Int),(1:Int),Builtin.Slice.slicePlaces ((sIx n 0 lo:Nat):Int) ((sIx n n hi:Nat):Int) 1)) _ _ s
  rw [places_gen]
  exact wpAny_pure h
theorem pick_gen (xs:Array Value) (i k:Nat):((List.range k).filterMap fun (m:Nat)=>xs[((i:Int)+(m:Int) * 1).toNat]?).toArray=((xs.toList.drop i).take k).toArray:=by
  have e:(fun (m:Nat)=>xs[((i:Int)+(m:Int) * 1).toNat]?)=fun m=>xs[i+m]?:=by
    funext m
    have:((i:Int)+(m:Int) * 1).toNat=i+m:=by omega
    rw [this]
  rw [e]
  have:=pick_run xs i k
  rw [List.filterMap_map] at this
  have e2:((fun x=>xs[x]?) ∘ fun x=>i+x)=fun m=>xs[i+m]?:=rfl
  rw [e2] at this
  rw [this]
theorem getItem_tuple_cut {t sl:Addr} {items:Array Value} {vl vu:Value} {lo hi:Option Int} {Q:Value->Shared->Prop} (ht:IsTup s.heap t items) (hs:s.heap.IsSliceOf sl vl vu .none) (pl:IsPart vl lo) (pu:IsPart vu hi)
    (hw:¬ (sIx items.size 0 lo=0/\sIx items.size items.size hi=items.size))
    (h:Q (.ref s.heap.objs.size) { s with heap:=s.heap.push { cls:=.type "tuple",data:=.seq ((items.toList.drop (sIx items.size 0 lo)).take (sIx items.size items.size hi - sIx items.size 0 lo)).toArray } })
    (hsz:items.size<=sizeLine):wpAny (model prog w) A (getItem (.ref t) (.ref sl)) Q E s:=by
  have htake:sizeOk (.seq ((items.toList.drop (sIx items.size 0 lo)).take (sIx items.size items.size hi - sIx items.size 0 lo)).toArray):=by
    show ((items.toList.drop (sIx items.size 0 lo)).take (sIx items.size items.size hi - sIx items.size 0 lo)).toArray.size<=sizeLine
    rw [List.size_toArray,List.length_take,List.length_drop,Array.length_toList]
    omega
  have hj:sIx items.size items.size hi<=items.size:=sIx_le _ _ (Nat.le_refl _) hi
  obtain ⟨os,hos,hcs,hds⟩:=id hs
  have hTs:s.TypeIs (.ref sl) "slice":=⟨os,hos,hcs⟩
  unfold getItem
  try with_reducible refine wpAny_holding ?_
  first | refine wpAny_bind (wpAny_pure ?_) | skip
  refine wpAny_bind (wpAny_sequenceKey ht.typeIs (by decide) ?_)
  refine wpAny_bind (wpAny_callSpecial?_slot (name:=Str.ofString "__getitem__") ht.typeIs PyProof.Rows.slot_tuple_getitem
    (wpAny_call_entry PyProof.Rows.slot_tuple_getitem ht.typeIs entry_tuple_getitem ?_ (args_tuple_getitem _ _)))
  show wpAny _ _ (Builtin.Tuple.tupleItemsOf (.ref t) >>= _) _ _ s
  refine wpAny_bind (tupleItemsOf_ ht ?_)
  refine wpAny_bind (wpAny_typeOf hTs ?_)
  rw [if_pos (by decide)]
  refine wpAny_bind (sliceApplied_gen hs pl pu ?_)
  have hno:¬ ((((sIx items.size 0 lo:Nat):Int) == 0 && (1:Int) == 1 && (sIx items.size items.size hi - sIx items.size 0 lo) == items.size)=true):=by
    intro q
    rw [Bool.and_eq_true,Bool.and_eq_true] at q
    have q1:((sIx items.size 0 lo:Nat):Int)=0:=eq_of_beq q.1.1
    have q2:sIx items.size items.size hi - sIx items.size 0 lo=items.size:=eq_of_beq q.2
    exact hw ⟨by omega,by omega⟩
  show wpAny _ _ (if (((sIx items.size 0 lo:Nat):Int) == 0 && (1:Int) == 1 && (sIx items.size items.size hi - sIx items.size 0 lo) == items.size)=true then _ else _) _ _ s
  rw [if_neg hno,pick_gen]
  first
    | exact wpAny_bind (m:=Builtin.Tuple.tupleExact _) (wpAny_newObj_type (wpAny_pure ⟨_,rfl,wpAny_pure h⟩) htake)
    | exact wpAny_bind (m:=Builtin.Tuple.tupleExact _) (wpAny_newObj_type (wpAny_bind (wpAny_pure (wpAny_pure ⟨_,rfl,wpAny_pure h⟩))) htake)
    | exact wpAny_bind (wpAny_bind (m:=Builtin.Tuple.tupleExact _) (wpAny_newObj_type (wpAny_pure (wpAny_pure ⟨_,rfl,wpAny_pure h⟩)) htake))
    | exact wpAny_bind (wpAny_bind (m:=Builtin.Tuple.tupleExact _) (wpAny_newObj_type (wpAny_pure ⟨_,rfl,wpAny_pure h⟩) htake))
end
end HT
namespace L2
open PySem PySem.Spec PyProof.Rows
abbrev TO:=St->Hp->(Option Int->Hp->Prop)->Prop
def PO (X:Cx) (e:Option Expr) (t:TO):Prop :=
  ∀ (pins:List (Addr×Obj)) (s:Shared) (σ:St) (H:Hp) (Q:Option Int->Hp->Prop),Inv X pins σ H s->t σ H Q ->
    wpAny (model X.prog X.w) X.A (evalPart e X.env) (fun u s'=>∃ o H',Inv X pins σ H' s'/\IsPart u o/\Q o H') X.xe s
def tNoPart:TO:=fun _ H Q=>Q none H
def tPart (t:TE):TO:=fun σ H Q=>t σ H fun x H1=>∃ i,x=.int i/\Q (some i) H1
theorem intsAre_of {ns:List Int}:∀ {us:List Value},Vals (ns.map V.int) us->IntsAre us ns:=by
  induction ns with
  | nil=>intro us r;rw [List.map_nil] at r;cases r;exact .nil
  | cons n ns ih =>
    intro us r
    rw [List.map_cons] at r
    cases r with
    | cons r1 r2 =>
      obtain ⟨t,e⟩:=r1
      subst e
      exact .cons n t (ih r2)
section
variable {X:Cx} {e:Expr} {te:TE} {lo hi:Option Expr} {tl th:TO} {pos p2:Pos}
theorem po_none:PO X none tNoPart:=by
  intro pins s σ H Q I h
  rw [evalPart_none]
  exact wpAny_pure ⟨none,H,I,.none,h⟩
theorem po_some (h:PE X e te):PO X (some e) (tPart te):=by
  intro pins s σ H Q I hw
  rw [evalPart_some]
  refine thn (h pins s σ H _ I hw) fun u s1 ⟨x,H1,I1,r1,q1⟩=>?_
  obtain ⟨i,rfl,q⟩:=q1
  obtain ⟨t,rfl⟩:=r1
  exact ⟨some i,H1,I1,.int i t,q⟩
def SlR (X:Cx) (r:V->Option Int->Option Int->Hp->VK->Prop):Prop :=
  ∀ (pins:List (Addr×Obj)) (s:Shared) (σ:St) (H:Hp) (x:V) (v vl vu:Value) (lo hi:Option Int) (sl:Addr) (Q:VK),Inv X pins σ H s->RelV x v->s.heap.IsSliceOf sl vl vu .none->IsPart vl lo->IsPart vu hi->r x lo hi H Q ->
    ∃ T id,typeLookup (.type T) "__getitem__"=pure (some (.builtin id))/\s.TypeIs v T/\wpAny (model X.prog X.w) X.A (getItem v (.ref sl)) (EP X pins σ Q) X.xe s
theorem SlR.or {r r':V->Option Int->Option Int->Hp->VK->Prop} (h:SlR X r) (h':SlR X r'):SlR X (fun x lo hi H Q=>r x lo hi H Q\/r' x lo hi H Q):=by
  intro pins s σ H x v vl vu lo hi sl Q I rx hs pl pu q
  rcases q with q | q
  · exact h pins s σ H x v vl vu lo hi sl Q I rx hs pl pu q
  · exact h' pins s σ H x v vl vu lo hi sl Q I rx hs pl pu q
def tSl (r:V->Option Int->Option Int->Hp->VK->Prop) (te:TE) (tl th:TO):TE:=fun σ H Q=>te σ H fun x H1=>tl σ H1 fun l H2=>th σ H2 fun u H3=>r x l u H3 Q
theorem pe_slice {r:V->Option Int->Option Int->Hp->VK->Prop} (hr:SlR X r) (he:PE X e te) (hl:PO X lo tl) (hu:PO X hi th):PE X (.Subscript e (.Slice lo hi none p2) pos) (tSl r te tl th):=by
  intro pins s σ H Q I h
  refine Subscript_ (thn (he pins s σ H _ I h) fun v s1 ⟨x,H1,I1,r1,q1⟩=>?_)
  refine wpAny_Slice (thn (hl pins s1 σ H1 _ I1 q1) fun vl s2 ⟨l,H2,I2,pl,q2⟩=>thn (hu pins s2 σ H2 _ I2 q2) fun vu s3 ⟨u,H3,I3,pu,q3⟩=>?_)
  rw [evalPart_none]
  refine wpAny_pure ?_
  have I4:Inv X pins σ H3 { s3 with heap:=s3.heap.push { cls:=.type "slice",data:=.fields #[vl,vu,.none] } }:=I3.kept (t':=s3.toks) fun b ob q=>Heap.get?_push_of_some _ q
  obtain ⟨T,id,hT,ht,hg⟩:=hr pins { s3 with heap:=s3.heap.push { cls:=.type "slice",data:=.fields #[vl,vu,.none] } } σ H3 x v vl vu l u s3.heap.objs.size Q I4 r1 (Heap.IsSliceOf.new ..) pl pu q3
  show wpAny (model X.prog X.w) X.A (subscriptTail e (.Slice lo hi none p2) v (.ref s3.heap.objs.size)) (EP X pins σ Q) X.xe { s3 with heap:=s3.heap.push { cls:=.type "slice",data:=.fields #[vl,vu,.none] } }
  exact tail_any (ops:=[.ref s3.heap.objs.size,v]) ht hT hg (by with_unfolding_all rfl)
def cutV (xs:List V) (lo hi:Option Int):List V:=(xs.drop (HT.sIx xs.length 0 lo)).take (HT.sIx xs.length xs.length hi - HT.sIx xs.length 0 lo)
theorem cutV_length (xs:List V) (lo hi:Option Int):(cutV xs lo hi).length<=xs.length:=by
  unfold cutV
  rw [List.length_take,List.length_drop]
  omega
def rSlT (K:PySem.W.Frag):V->Option Int->Option Int->Hp->VK->Prop:=fun x lo hi H Q=>∃ a xs,x=.ref a/\SqT K H a xs /\
  ¬ (HT.sIx xs.length 0 lo=0/\HT.sIx xs.length xs.length hi=xs.length)/\∀ p,H p=none->Q (.ref p) (upd H p (.tup (cutV xs lo hi)))
theorem sl_tup:SlR X (rSlT X.K):=by
  intro pins s σ H x v vl vu lo hi sl Q I rx hs pl pu h
  obtain ⟨a,xs,rfl,hx,hw,q⟩:=h
  cases rx
  obtain ⟨its,r,ht,hz⟩:=I.tuple hx
  have hlen:its.toArray.size=xs.length:=by rw [List.size_toArray];exact r.length.symm
  refine ⟨"tuple",_,PyProof.Rows.slot_tuple_getitem.lookup,ht.typeIs,?_⟩
  refine HT.getItem_tuple_cut ht hs pl pu (by rw [hlen];exact hw) ?_ (by rw [hlen];exact hz)
  rw [hlen]
  refine ⟨.ref s.heap.objs.size,_,I.laid (t':=s.toks) (o:=.tup (cutV xs lo hi)) (fun b ob q=>Heap.get?_push_of_some _ q) (Nat.le_refl _) ?_,rfl,q _ (I.hok.fresh (Nat.le_refl _))⟩
  exact ⟨Nat.le_trans (cutV_length xs lo hi) hz,_,(r.drop (HT.sIx xs.length 0 lo)).take (HT.sIx xs.length xs.length hi - HT.sIx xs.length 0 lo),IsTup.new _ _⟩
def rLtT (K:PySem.W.Frag):R2:=fun x y H Q=>∃ a b ns ms,x=.ref a/\y=.ref b/\SqT K H a (ns.map V.int)/\SqT K H b (ms.map V.int)/\Q (.bl (HT.lexLt ns ms)) H
theorem op_ltT (hu:X.A.units < cLine):OpR X (compareOp .Lt) (rLtT X.K):=by
  intro pins s σ H x y v u Q I rx ry h
  obtain ⟨a,b,ns,ms,rfl,rfl,ha,hb,q⟩:=h
  cases rx
  cases ry
  obtain ⟨its,r1,p1,_⟩:=I.tuple ha
  obtain ⟨its2,r2,p2,_⟩:=I.tuple hb
  have i1:IntsAre its.toArray.toList ns:=intsAre_of r1
  have i2:IntsAre its2.toArray.toList ms:=intsAre_of r2
  exact HT.lt_tupInts p1 p2 i1 i2 hu ⟨.bl (HT.lexLt ns ms),H,I,rfl,q⟩
def rCatT (K:PySem.W.Frag):R2:=fun x y H Q=>∃ a b xs ys,x=.ref a/\y=.ref b/\SqT K H a xs/\SqT K H b ys/\xs≠[]/\xs.length+ys.length<=sizeLine /\
  (ys=[]->Q (.ref a) H)/\(ys≠[]->∀ p,H p=none->Q (.ref p) (upd H p (.tup (xs++ys))))
theorem Vals.nil_iff {xs:List V} {us:List Value} (r:Vals xs us):us=[] ↔ xs=[]:=by
  cases r with
  | nil=>simp
  | cons _ _=>simp
theorem op_catT:OpR X (binaryOp .Add) (rCatT X.K):=by
  intro pins s σ H x y v u Q I rx ry h
  obtain ⟨a,b,xs,ys,rfl,rfl,ha,hb,hx,hz,q1,q2⟩:=h
  cases rx
  cases ry
  obtain ⟨its,r1,p1,_⟩:=I.tuple ha
  obtain ⟨its2,r2,p2,_⟩:=I.tuple hb
  refine HT.cat_tup p1 p2 (fun z=>hx (r1.nil_iff.mp z)) (fun z=>⟨.ref a,H,I,rfl,q1 (r2.nil_iff.mp z)⟩) (fun z=>?_) (by rw [<- r1.length,<- r2.length];exact hz)
  refine ⟨.ref s.heap.objs.size,_,I.laid (t':=s.toks) (o:=.tup (xs++ys)) (fun b ob q=>Heap.get?_push_of_some _ q) (Nat.le_refl _) ?_,rfl,q2 (fun w=>z (r2.nil_iff.mpr w)) _ (I.hok.fresh (Nat.le_refl _))⟩
  exact ⟨by rw [List.length_append];exact hz,_,r1.append r2,IsTup.new _ _⟩
end
end L2
namespace L2
open PySem PySem.Spec PyProof.Rows
def ixN (n:Nat) (i:Int):Option Nat:=if 0<=i then (if i < n then some i.toNat else none) else if -(n:Int)<=i then some (i+n).toNat else none
def atI {α:Type} (xs:List α) (i:Int):Option α:=(ixN xs.length i).bind fun j=>xs[j]?
theorem ixN_seq {n:Nat} {i:Int} {j:Nat} (h:ixN n i=some j):seqIndex? i n=some j/\j < n/\-(n:Int)<=i/\i < n:=by
  unfold ixN at h
  by_cases h0:0<=i
  · rw [if_pos h0] at h
    by_cases h1:i < n
    · rw [if_pos h1] at h
      have e:i.toNat=j:=Option.some.inj h
      exact ⟨by rw [seqIndex_of h0 h1,e],by omega,by omega,h1⟩
    · rw [if_neg h1] at h;cases h
  · rw [if_neg h0] at h
    by_cases h1:-(n:Int)<=i
    · rw [if_pos h1] at h
      have e:(i+n).toNat=j:=Option.some.inj h
      exact ⟨by rw [seqIndex_neg (by omega) h1,e],by omega,h1,by omega⟩
    · rw [if_neg h1] at h;cases h
theorem atI_get {α:Type} {xs:List α} {i:Int} {v:α} (h:atI xs i=some v):∃ j,seqIndex? i xs.length=some j/\xs[j]?=some v/\j < xs.length/\-(xs.length:Int)<=i/\i < xs.length:=by
  unfold atI at h
  cases e:ixN xs.length i with
  | none=>rw [e] at h;cases h
  | some j =>
    rw [e] at h
    obtain ⟨h1,h2,h3,h4⟩:=ixN_seq e
    exact ⟨j,h1,h,h2,h3,h4⟩
def PlainIx (b:Expr):Prop:=∀ o i,subscripted b false o i=operate [o,i] (getItem o i)
def IxR (X:Cx) (r:R2):Prop :=
  ∀ (value slice:Expr) (pins:List (Addr×Obj)) (s:Shared) (σ:St) (H:Hp) (x y:V) (v u:Value) (Q:VK),Inv X pins σ H s->RelV x v->RelV y u->r x y H Q ->
    subscripted slice false v u=operate [v,u] (getItem v u)->wpAny (model X.prog X.w) X.A (subscriptTail value slice v u) (EP X pins σ Q) X.xe s
def MtR (X:Cx) (id:String) (r:V->List V->Hp->VK->Prop):Prop :=
  ∀ (pins:List (Addr×Obj)) (s:Shared) (σ:St) (H:Hp) (x:V) (xs:List V) (v:Value) (us:List Value) (Q:VK),Inv X pins σ H s->RelV x v->Vals xs us->r x xs H Q ->
    wpAny (model X.prog X.w) X.A (call (.builtin id) (v::us)) (EP X pins σ Q) X.xe s
section
variable {X:Cx} {a b:Expr} {ta tb:TE} {pos:Pos}
theorem IxR.or {r r':R2} (h:IxR X r) (h':IxR X r'):IxR X (fun x y H Q=>r x y H Q\/r' x y H Q):=by
  intro value slice pins s σ H x y v u Q I rx ry q hs
  rcases q with q | q
  · exact h value slice pins s σ H x y v u Q I rx ry q hs
  · exact h' value slice pins s σ H x y v u Q I rx ry q hs
theorem MtR.or {id:String} {r r':V->List V->Hp->VK->Prop} (h:MtR X id r) (h':MtR X id r'):MtR X id (fun x xs H Q=>r x xs H Q\/r' x xs H Q):=by
  intro pins s σ H x xs v us Q I rx rs q
  rcases q with q | q
  · exact h pins s σ H x xs v us Q I rx rs q
  · exact h' pins s σ H x xs v us Q I rx rs q
theorem pe_ix {r:R2} (hr:IxR X r) (ha:PE X a ta) (hb:PE X b tb) (hs:PlainIx b):PE X (.Subscript a b pos) (tOp r ta tb):=by
  intro pins s σ H Q I h
  exact Subscript_ (binT ha hb I h fun v u s2 x y H2 I2 rx ry q=>hr a b pins s2 σ H2 x y v u Q I2 rx ry q (hs _ _))
def rIxL (K:PySem.W.Frag):R2:=fun x y H Q=>∃ p xs i v,x=.ref p/\y=.int i/\SqL K H p xs/\atI xs i=some v/\Q v H
def rIxT (K:PySem.W.Frag):R2:=fun x y H Q=>∃ p xs i v,x=.ref p/\y=.int i/\SqT K H p xs/\atI xs i=some v/\Q v H
theorem ix_list:IxR X (rIxL X.K):=by
  intro value slice pins s σ H x y v u Q I rx ry h hs
  obtain ⟨p,xs,i,z,rfl,rfl,hq,he,q⟩:=h
  cases rx
  obtain ⟨t,rfl⟩:=ry
  obtain ⟨its,r,pl,hz⟩:=I.list hq
  obtain ⟨j,h1,h2,h3,h4,h5⟩:=atI_get he
  obtain ⟨w,ew,rw'⟩:=r.get h2
  have hl:=r.length
  have hn:=line63
  have fin:EP X pins σ Q w s:=⟨z,H,I,rw',q⟩
  by_cases h0:0<=i
  · have hj:i.toNat=j:=by
      rw [seqIndex_of h0 h5] at h1
      exact Option.some.inj h1
    exact item_listR pl.isList h0 (by omega) (by rw [hj];simpa using ew) fin hs
  · have hj:(i+(its.toArray.size:Int)).toNat=j:=by
      rw [seqIndex_neg (by omega) h4] at h1
      rw [List.size_toArray,<- hl]
      exact Option.some.inj h1
    exact subscriptTail_builtinR (x:=w) pl.isList.typeIs slot_list_getitem.lookup
      (wpAny_getItem_list_neg (Q:=fun r s'=>r=w/\EP X pins σ Q r s') pl.isList (by omega) (by rw [List.size_toArray] <;> omega) (by omega) (by rw [hj];simpa using ew) ⟨rfl,fin⟩) hs
theorem ix_tup:IxR X (rIxT X.K):=by
  intro value slice pins s σ H x y v u Q I rx ry h hs
  obtain ⟨p,xs,i,z,rfl,rfl,hq,he,q⟩:=h
  cases rx
  obtain ⟨t,rfl⟩:=ry
  obtain ⟨its,r,pl,hz⟩:=I.tuple hq
  obtain ⟨j,h1,h2,h3,h4,h5⟩:=atI_get he
  obtain ⟨w,ew,rw'⟩:=r.get h2
  have hl:=r.length
  have hn:=line63
  have fin:EP X pins σ Q w s:=⟨z,H,I,rw',q⟩
  exact subscriptTail_builtinR (x:=w) pl.typeIs slot_tuple_getitem.lookup
    (getItem_tuple (j:=j) (Q:=fun r s'=>r=w/\EP X pins σ Q r s') pl (by omega) (by omega) (by rw [List.size_toArray,<- hl];exact h1) (by simpa using ew) ⟨rfl,fin⟩) hs
theorem Inv.lst {pins:List (Addr×Obj)} {σ:St} {H:Hp} {s:Shared} {p:Addr} {xs:List V} (I:Inv X pins σ H s) (h:H p=some (.lst xs)) :
    ∃ (its:List Value) (n:Nat),Vals xs its/\s.heap.get? p=some { cls:=.type "list",data:=.seq its.toArray n }/\xs.length<=sizeLine:=by
  obtain ⟨z,its,n,r,e⟩:=I.hok p _ h
  exact ⟨its,n,r,e,z⟩
theorem slice_bounds (lo hi:Option Int) (n:Nat):(sliceBounds lo hi none n).1=((HT.sIx n 0 lo:Nat):Int)/\(sliceBounds lo hi none n).2.1=((HT.sIx n n hi:Nat):Int)/\(sliceBounds lo hi none n).2.2=1:=by
  refine ⟨?_,?_,rfl⟩
  · cases lo with
    | none=>simp [sliceBounds,HT.sIx]
    | some i =>
      simp only [sliceBounds,HT.sIx,Option.getD_none,show (1:Int) > 0 by decide,if_true]
      by_cases h:i < 0
      · simp only [h,if_true] <;> omega
      · simp only [h,if_false] <;> omega
  · cases hi with
    | none=>simp [sliceBounds,HT.sIx]
    | some i =>
      simp only [sliceBounds,HT.sIx,Option.getD_none,show (1:Int) > 0 by decide,if_true]
      by_cases h:i < 0
      · simp only [h,if_true] <;> omega
      · simp only [h,if_false] <;> omega
theorem slicePick_cut (its:List Value) (lo hi:Option Int):slicePick its.toArray lo hi none=((its.drop (HT.sIx its.length 0 lo)).take (HT.sIx its.length its.length hi - HT.sIx its.length 0 lo)).toArray:=by
  obtain ⟨h1,h2,h3⟩:=slice_bounds lo hi its.toArray.size
  unfold slicePick
  rw [h1,h2,h3]
  simp only [sliceRange_one,pick_run,List.size_toArray] <;> rfl
def rSlL (K:PySem.W.Frag):V->Option Int->Option Int->Hp->VK->Prop:=fun x lo hi H Q=>∃ a xs,x=.ref a/\SqL K H a xs/\∀ p,H p=none->Q (.ref p) (upd H p (.lst (cutV xs lo hi)))
theorem sl_list:SlR X (rSlL X.K):=by
  intro pins s σ H x v vl vu lo hi sl Q I rx hs pl pu h
  obtain ⟨a,xs,rfl,hx,q⟩:=h
  cases rx
  obtain ⟨its,r,ht,hz⟩:=I.list hx
  have hlen:=r.length
  refine ⟨"list",_,slot_list_getitem.lookup,ht.isList.typeIs,?_⟩
  refine wpAny_getItem_list_slice ht.isList hs pl pu .none (by simp) ?_ (by rw [List.size_toArray] <;> omega)
  rw [slicePick_cut,<- hlen]
  refine ⟨.ref s.heap.objs.size,_,I.laid (t':=s.toks) (o:=.lst (cutV xs lo hi)) (fun b ob q=>Heap.get?_push_of_some _ q) (Nat.le_refl _) ?_,rfl,q _ (I.hok.fresh (Nat.le_refl _))⟩
  exact ⟨Nat.le_trans (cutV_length xs lo hi) hz,_,0,(r.drop (HT.sIx xs.length 0 lo)).take (HT.sIx xs.length xs.length hi - HT.sIx xs.length 0 lo),Heap.get?_push_size _ rfl⟩
def flatV:V->Bool
  | .non=>true
  | .bl _=>true
  | .int _=>true
  | .str _=>true
  | _=>false
def eqV:V->V->Bool
  | .non,.non=>true
  | .bl a,.bl b=>a == b
  | .bl a,.int b=>(if a then 1 else 0) == b
  | .int a,.bl b=>a == (if b then 1 else 0)
  | .int a,.int b=>a == b
  | .str a,.str b=>a == b
  | _,_=>false
theorem eqAt_V {A:Around} {s:Shared} {y x:V} {u v:Value} (ry:RelV y u) (rx:RelV x v) (fy:flatV y=true) (fx:flatV x=true):SeqAt.EqAt A s u v (eqV y x):=by
  cases y with
  | non =>
    cases ry
    cases x with
    | non=>cases rx;exact SeqAt.EqAt.same _
    | bl b=>cases rx;exact SeqAt.EqAt.none_bool b
    | int b=>obtain ⟨t,rfl⟩:=rx;exact SeqAt.EqAt.none_int b t
    | str b=>obtain ⟨t,rfl⟩:=rx;exact SeqAt.EqAt.none_str b t
    | _=>exact absurd (show false=true from fx) Bool.false_ne_true
  | bl a =>
    cases ry
    cases x with
    | non=>cases rx;exact SeqAt.EqAt.bool_none a
    | bl b=>cases rx;exact SeqAt.EqAt.bool_bool a b
    | int b=>obtain ⟨t,rfl⟩:=rx;exact SeqAt.EqAt.bool_int a b t
    | str b=>obtain ⟨t,rfl⟩:=rx;exact SeqAt.EqAt.bool_str a b t
    | _=>exact absurd (show false=true from fx) Bool.false_ne_true
  | int a =>
    obtain ⟨t',rfl⟩:=ry
    cases x with
    | non=>cases rx;exact SeqAt.EqAt.int_none a t'
    | bl b=>cases rx;exact SeqAt.EqAt.int_bool a t' b
    | int b=>obtain ⟨t,rfl⟩:=rx;exact SeqAt.EqAt.int_int a t' b t
    | str b=>obtain ⟨t,rfl⟩:=rx;exact SeqAt.EqAt.int_str a t' b t
    | _=>exact absurd (show false=true from fx) Bool.false_ne_true
  | str a =>
    obtain ⟨t',rfl⟩:=ry
    cases x with
    | non=>cases rx;exact SeqAt.EqAt.str_none a t'
    | bl b=>cases rx;exact SeqAt.EqAt.str_bool a t' b
    | int b=>obtain ⟨t,rfl⟩:=rx;exact SeqAt.EqAt.str_int a t' b t
    | str b=>obtain ⟨t,rfl⟩:=rx;exact SeqAt.EqAt.str_str a t' b t
    | _=>exact absurd (show false=true from fx) Bool.false_ne_true
  | _=>exact absurd (show false=true from fy) Bool.false_ne_true
def eqU (x:V) (u:Value):Bool:=match u with
  | .none=>eqV .non x
  | .bool b=>eqV (.bl b) x
  | .int i _=>eqV (.int i) x
  | .str z _=>eqV (.str z) x
  | _=>false
theorem eqU_of {x y:V} {u:Value} (r:RelV y u) (f:flatV y=true):eqU x u=eqV y x:=by
  cases y with
  | non=>cases r;rfl
  | bl b=>cases r;rfl
  | int i=>obtain ⟨t,rfl⟩:=r;rfl
  | str z=>obtain ⟨t,rfl⟩:=r;rfl
  | _=>exact absurd (show false=true from f) Bool.false_ne_true
theorem any_eqU {x:V}:∀ {xs:List V} {us:List Value},Vals xs us->xs.all flatV=true->us.any (eqU x)=xs.any fun y=>eqV y x
  | _,_,.nil,_=>rfl
  | y::xs,u::us,.cons r t,f=>by
    rw [List.all_cons,Bool.and_eq_true] at f
    rw [List.any_cons,List.any_cons,eqU_of r f.1,any_eqU t f.2]
theorem mem_eqAt {A:Around} {s:Shared} {x:V} {v:Value} (rx:RelV x v) (fx:flatV x=true):∀ {xs:List V} {us:List Value},Vals xs us->xs.all flatV=true->∀ u∈us,SeqAt.EqAt A s u v (eqU x u)
  | _,_,.nil,_=>fun u hu=>by cases hu
  | y::xs,u::us,.cons r t,f=>fun u' hu=>by
    rw [List.all_cons,Bool.and_eq_true] at f
    rcases List.mem_cons.mp hu with rfl | hu
    · rw [eqU_of r f.1];exact eqAt_V r rx f.1 fx
    · exact mem_eqAt rx fx t f.2 u' hu
def inV (x:V) (xs:List V):Bool:=xs.any fun y=>eqV y x
def rIn (K:PySem.W.Frag) (neg:Bool):R2:=fun x y H Q=>∃ p xs,y=.ref p/\(SqL K H p xs\/SqT K H p xs)/\flatV x=true/\xs.all flatV=true/\Q (.bl (if neg then !inV x xs else inV x xs)) H
theorem op_in_seq:OpR X (compareOp .In) (rIn X.K false):=by
  intro pins s σ H x y v u Q I rx ry h
  obtain ⟨p,xs,rfl,hq,fx,fs,q⟩:=h
  cases ry
  rcases hq with hq | hq
  · obtain ⟨its,r,pl,hz⟩:=I.list hq
    refine SeqAt.in_listAt (eqU x) pl.isList (fun w hw=>mem_eqAt rx fx r fs w (by simpa using hw)) ⟨.bl _,H,I,rfl,?_⟩
    rw [show its.toArray.any (eqU x)=its.any (eqU x) by simp,any_eqU r fs]
    exact q
  · obtain ⟨its,r,pl,hz⟩:=I.tuple hq
    refine SeqAt.in_tupleAt (eqU x) pl (fun w hw=>mem_eqAt rx fx r fs w (by simpa using hw)) ⟨.bl _,H,I,rfl,?_⟩
    rw [show its.toArray.any (eqU x)=its.any (eqU x) by simp,any_eqU r fs]
    exact q
theorem call_len_seq:CallR X (.builtin "len") (fun xs H Q=>∃ p ys,xs=[.ref p]/\(SqL X.K H p ys\/SqT X.K H p ys)/\Q (.int ys.length) H):=by
  intro pins s σ H xs us Q I r h
  obtain ⟨p,ys,rfl,hq,q⟩:=h
  obtain ⟨u,rfl,rx⟩:=vals1 r
  cases rx
  have hn:=line63
  rcases hq with hq | hq
  · obtain ⟨its,r',pl,hz⟩:=I.list hq
    have hlen:=r'.length
    exact Calls.call_len_list pl.isList (by simp only [List.size_toArray] <;> omega) ⟨.int ys.length,H,I.tok _,⟨s.toks+1,by rw [List.size_toArray,hlen]⟩,q⟩
  · obtain ⟨its,r',pl,hz⟩:=I.tuple hq
    have hlen:=r'.length
    exact len_tuple pl (by simp only [List.size_toArray] <;> omega) ⟨.int ys.length,H,I.tok _,⟨s.toks+1,by rw [List.size_toArray,hlen]⟩,q⟩
theorem CallR.or {f:Value} {r r':List V->Hp->VK->Prop} (h:CallR X f r) (h':CallR X f r'):CallR X f (fun xs H Q=>r xs H Q\/r' xs H Q):=by
  intro pins s σ H xs us Q I rs q
  rcases q with q | q
  · exact h pins s σ H xs us Q I rs q
  · exact h' pins s σ H xs us Q I rs q
theorem call_list_of:CallR X (.type "list") (fun xs H Q=>∃ p ys,xs=[.ref p]/\(SqL X.K H p ys\/SqT X.K H p ys)/\∀ l,H l=none->Q (.ref l) (upd H l (.lst ys))):=by
  intro pins s σ H xs us Q I r h
  obtain ⟨p,ys,rfl,hq,q⟩:=h
  obtain ⟨u,rfl,rx⟩:=vals1 r
  cases rx
  have fin:∀ (its:List Value),Vals ys its->ys.length<=sizeLine->∀ (h':Heap) (c':Nat),(∀ b o',s.heap.get? b=some o'->h'.get? b=some o') ->
      h'.get? s.heap.objs.size=some { cls:=.type "list",dict:=none,data:=.seq its.toArray c',slots:=#[] }->EP X pins σ Q (.ref s.heap.objs.size) { s with heap:=h' }:=fun its r' hz h' c' kp e =>
    ⟨.ref s.heap.objs.size,_,I.laid (t':=s.toks) kp (Nat.le_refl _) (show ObjOk X.prog X.w _ h' _ (.lst ys) from ⟨hz,its,c',r',e⟩),rfl,q _ (I.hok.fresh (Nat.le_refl _))⟩
  rcases hq with hq | hq
  · obtain ⟨its,r',pl,hz⟩:=I.list hq
    have hlen:=r'.length
    obtain ⟨o,ho,hc,n,hd⟩:=pl.isList
    exact call_list_seq p (.inl rfl) ho hc hd (fun h' c' kp e=>fin its r' hz h' c' kp e) (by simp only [List.size_toArray] <;> omega)
  · obtain ⟨its,r',pl,hz⟩:=I.tuple hq
    have hlen:=r'.length
    obtain ⟨o,ho,hc,n,hd⟩:=pl
    exact call_list_seq p (.inr rfl) ho hc hd (fun h' c' kp e=>fin its r' hz h' c' kp e) (by simp only [List.size_toArray] <;> omega)
theorem call_tuple_of:CallR X (.type "tuple") (fun xs H Q=>∃ p ys,xs=[.ref p]/\((SqL X.K H p ys/\∀ l,H l=none->Q (.ref l) (upd H l (.tup ys)))\/(SqT X.K H p ys/\Q (.ref p) H))):=by
  intro pins s σ H xs us Q I r h
  obtain ⟨p,ys,rfl,h⟩:=h
  obtain ⟨u,rfl,rx⟩:=vals1 r
  cases rx
  rcases h with ⟨hq,q⟩ | ⟨hq,q⟩
  · obtain ⟨its,r',pl,hz⟩:=I.list hq
    have hlen:=r'.length
    refine call_tuple_list pl.isList (fun h' kp=>?_) (by simp only [List.size_toArray] <;> omega)
    have I1:Inv X pins σ H { s with heap:=h' }:=I.kept (t':=s.toks) kp
    have I2:Inv X pins σ (upd H h'.objs.size (.tup ys)) { s with heap:=h'.push { cls:=.type "tuple",data:=.seq its.toArray } } :=
      I1.laid (t':=s.toks) (fun b o e=>Heap.get?_push_of_some _ e) (Nat.le_refl _) (show ObjOk X.prog X.w _ _ _ (.tup ys) from ⟨hz,its,r',IsTup.new _ _⟩)
    exact ⟨.ref h'.objs.size,_,I2,rfl,q _ (I1.hok.fresh (Nat.le_refl _))⟩
  · obtain ⟨its,r',pl,hz⟩:=I.tuple hq
    exact call_tuple_same pl ⟨.ref p,H,I,rfl,q⟩
def tyV (K:PySem.W.Frag) (T:String) (x:V) (H:Hp):Prop:=match x with
  | .str _=>T="str"
  | .int _=>T="int"
  | .ref p=>(T="list"/\∃ xs,SqL K H p xs)\/(T="tuple"/\∃ o,K.lookup p=some o/\o.cls=.type "tuple"/\o.dict=none) \/
      (T="dict"/\((∃ kvs,H p=some (.dK kvs))\/∃ kvs,H p=some (.dT kvs)))\/(T="set"/\∃ S n,H p=some (.set S n))
  | _=>False
theorem tyV_is {pins:List (Addr×Obj)} {σ:St} {H:Hp} {s:Shared} {T:String} {x:V} {v:Value} (I:Inv X pins σ H s) (r:RelV x v) (ty:tyV X.K T x H) :
    s.TypeIs v T/\∀ a,v=.ref a->∃ ob,s.heap.get? a=some ob/\ob.dict=none:=by
  cases x with
  | str z =>
    obtain ⟨t,rfl⟩:=r
    cases (show T="str" from ty)
    exact ⟨typeIs_str s z t,fun _ e=>nomatch e⟩
  | int i =>
    obtain ⟨t,rfl⟩:=r
    cases (show T="int" from ty)
    exact ⟨typeIs_int s i t,fun _ e=>nomatch e⟩
  | ref p =>
    cases r
    rcases ty with ⟨rfl,xs,hq⟩ | ⟨rfl,o,hk,hc,hd⟩ | ⟨rfl,hk⟩ | ⟨rfl,S,n,hk⟩
    · obtain ⟨its,_,pl,_⟩:=I.list hq
      refine ⟨pl.isList.typeIs,fun a e=>?_⟩
      cases e
      obtain ⟨o,n,e,c,hd,_⟩:=pl
      exact ⟨o,e,hd⟩
    · refine ⟨⟨o,I.kIn p o hk,hc⟩,fun a e=>?_⟩
      cases e
      exact ⟨o,I.kIn _ o hk,hd⟩
    · have z:∃ o,s.heap.get? p=some o/\o.ExactDict:=by
        rcases hk with ⟨kvs,hk⟩ | ⟨kvs,hk⟩
        · obtain ⟨_,_,_,_,o,_,_,e,ex,_⟩:=I.hok p _ hk
          exact ⟨o,e,ex⟩
        · obtain ⟨_,_,_,_,o,_,_,e,ex,_⟩:=I.hok p _ hk
          exact ⟨o,e,ex⟩
      obtain ⟨o,e,ex⟩:=z
      refine ⟨⟨o,e,ex.1⟩,fun a e2=>?_⟩
      cases e2
      exact ⟨o,e,ex.2.1⟩
    · obtain ⟨o,_,_,_,e,ex,_⟩:=I.hok p _ hk
      refine ⟨⟨o,e,ex.1⟩,fun a e2=>?_⟩
      cases e2
      exact ⟨o,e,ex.2.1⟩
  | _=>exact False.elim ty
def tBM (K:PySem.W.Frag) (T:String) (r:V->List V->Hp->VK->Prop) (to:TE) (t:TA):TE:=fun σ H Q=>to σ H fun x H1=>tyV K T x H1/\t σ H1 fun xs H2=>r x xs H2 Q
variable {o e:Expr} {es:List Expr} {to:TE} {t:TA} {name:Str} {apos cpos:Pos} {T id:String} {r:V->List V->Hp->VK->Prop}
theorem pe_bm (pa:PlainAttrs T) (slot:Slot T name id) (hty:typeOf (.builtin id)=pure (.type "method_descriptor")) (hm:MtR X id r) (ho:PE X o to) (ha:PA X (e::es) t)
    (hbase:attributeBase o name X.env (eval o X.env)=eval o X.env:=by rfl)
    (hfew:((backTo cpos (starEach (e::es) X.env)).all (fun x=>!x.1) && (backToKw cpos (keywordEach [] X.env)).all (fun x=>x.1.isSome)
      && decide ((e::es).length+([]:List Keyword).length+(if ([]:List Keyword).isEmpty then 0 else 1) < 30))=true:=by rfl)
    (hline:(apos.endLine == cpos.line)=true:=by rfl) (hs:starEach (e::es) X.env=(false,eval e X.env)::starEach es X.env:=by rfl) (hplain:(backTo cpos (starEach es X.env)).any (·.1)=false:=by rfl) :
    PE X (.Call (.Attribute o name apos) (e::es) [] cpos) (tBM X.K T r to t):=by
  intro pins s σ H Q I h
  refine wpAny_Call_method_late hbase hfew hline rfl (thn (ho pins s σ H _ I h) fun v s1 ⟨x,H1,I1,r1,ty,q1⟩=>?_)
  obtain ⟨h1,h2⟩:=tyV_is I1 r1 ty
  refine ⟨T,id,pa,slot,hty,h1,h2,?_⟩
  have hA:=ha cpos pins s1 σ H1 _ I1 q1
  rw [hs] at hA ⊢
  refine Calls.callWith_builtin (by show (false || (backTo cpos (starEach es X.env)).any (·.1))=false;rw [hplain] <;> rfl) (Calls.evalArgs_plain ?_)
  exact thn hA fun us s2 ⟨vs,H2,I2,r2,q2⟩=>hm pins s2 σ H2 x vs v us Q I2 r1 r2 q2
/- xs.append(e),list.index on a module's tuple .. are MtR facts of 06m -/
end
end L2
namespace L2
open PySem PySem.Spec PyProof.Rows
def MtM (X:Cx) (id:String) (r:V->List V->Hp->VK->Prop):Prop :=
  ∀ (pins:List (Addr×Obj)) (s:Shared) (σ:St) (H:Hp) (x:V) (xs:List V) (v:Value) (us:List Value) (Q:VK),Inv X pins σ H s->RelV x v->Vals xs us->r x xs H Q ->
    wpAny (model X.prog X.w) X.A (call (.builtin id) (v::us)) (EP X pins σ Q) X.xe s
theorem Vals.one:∀ {x:V} {us:List Value},Vals [x] us->∃ u,us=[u]/\RelV x u
  | _,_,.cons r .nil=>⟨_,rfl,r⟩
theorem Vals.two:∀ {x y:V} {us:List Value},Vals [x,y] us->∃ u v,us=[u,v]/\RelV x u/\RelV y v
  | _,_,_,.cons r (.cons q .nil)=>⟨_,_,rfl,r,q⟩
theorem Vals.zero:∀ {us:List Value},Vals [] us->us=[]
  | _,.nil=>rfl
theorem Vals.eraseIdx:∀ {xs:List V} {us:List Value} (i:Nat),Vals xs us->Vals (xs.eraseIdx i) (us.eraseIdx i)
  | _,_,_,.nil=>.nil
  | _,_,0,.cons _ t=>t
  | _,_,i+1,.cons r t=>.cons r (Vals.eraseIdx i t)
theorem Vals.reverse {xs:List V} {us:List Value} (h:Vals xs us):Vals xs.reverse us.reverse:=by
  induction h with
  | nil=>exact .nil
  | cons r t ih=>rw [List.reverse_cons,List.reverse_cons];exact Vals.append ih (.cons r .nil)
theorem Vals.rep {xs:List V} {us:List Value} (h:Vals xs us):∀ k:Nat,Vals (List.replicate k xs).flatten (List.replicate k us).flatten
  | 0=>.nil
  | k+1=>by
    rw [List.replicate_succ,List.replicate_succ,List.flatten_cons,List.flatten_cons]
    exact Vals.append h (Vals.rep h k)
theorem foldl_rep (its:List Value):∀ (k:Nat) (acc:List Value),
    List.foldl (fun x1 x2=>x1++x2) acc.toArray (List.replicate k its.toArray)=(acc++(List.replicate k its).flatten).toArray
  | 0,acc=>by simp
  | k+1,acc=>by
    have e:acc.toArray++its.toArray=(acc++its).toArray:=by simp
    have e2:(acc++its)++(List.replicate k its).flatten=acc++(List.replicate (k+1) its).flatten:=by
      rw [List.replicate_succ,List.flatten_cons,List.append_assoc]
    rw [<- e2,<- foldl_rep its k (acc++its),<- e,List.replicate_succ,List.foldl_cons]
section
variable {X:Cx} {pins:List (Addr×Obj)} {σ:St} {H:Hp} {s:Shared} {l b:Addr} {xs ys zs:List V}
theorem Inv.lset {its its':List Value} {n:Nat} {f:Array Value->Array Value} {t':Nat} (I:Inv X pins σ H s) (hH:H l=some (.lst xs))
    (e:s.heap.get? l=some { cls:=.type "list",data:=.seq its.toArray n }) (hf:f its.toArray=its'.toArray) (hv:Vals ys its') (hz:ys.length<=sizeLine) :
    Inv X pins σ (upd H l (.lst ys)) { s with heap:=s.heap.update l (Obj.mapSeq f),toks:=t' }:=by
  have q:=PySem.IsL.update e f
  rw [hf] at q
  refine I.write (x:=l) (e:=l) (by rw [hH];exact trivial) (.inl rfl) (fun b' u hb hu=>(Heap.get?_update_other s.heap (Obj.mapSeq f) (Ne.symm hb)).trans hu) ⟨_,q⟩ ?_
  exact ⟨hz,its',_,hv,q⟩
theorem Inv.lnew {its:List Value} {t':Nat} (I:Inv X pins σ H s) (hv:Vals ys its) (hz:ys.length<=sizeLine) :
    Inv X pins σ (upd H s.heap.objs.size (.lst ys)) { s with heap:=s.heap.push { cls:=.type "list",data:=.seq its.toArray },toks:=t' } :=
  I.laid (fun _ _ q=>Heap.get?_push_of_some _ q) (Nat.le_refl _) ⟨hz,its,0,hv,Heap.get?_push_size _ rfl⟩
theorem Inv.fresh (I:Inv X pins σ H s):H s.heap.objs.size=none:=I.hok.fresh (Nat.le_refl _)
theorem Inv.lstM (I:Inv X pins σ H s) (hH:H l=some (.lst xs)):xs.length<=sizeLine/\∃ (its:List Value) (n:Nat),Vals xs its/\xs.length=its.length/\s.heap.get? l=some { cls:=.type "list",data:=.seq its.toArray n }:=by
  obtain ⟨z,its,n,r,e⟩:=I.hok l _ hH
  exact ⟨z,its,n,r,r.length,e⟩
theorem notLongL {n:Nat} (h:n<=sizeLine):Builtin.List.listTooLong n=false:=by
  unfold Builtin.List.listTooLong
  exact decide_eq_false (by omega)
end
section
variable {X:Cx}
def rExtend:V->List V->Hp->VK->Prop:=fun x vs H Q=>∃ l b xs zs,x=.ref l/\vs=[.ref b]/\H l=some (.lst xs)/\H b=some (.lst zs)/\xs.length+zs.length<=sizeLine/\Q .non (upd H l (.lst (xs++zs)))
theorem mt_extend:MtM X "list.extend" rExtend:=by
  intro pins s σ H x vs v us Q I rx rv h
  obtain ⟨l,b,xs,zs,rfl,rfl,hH,hB,hz,q⟩:=h
  cases rx
  obtain ⟨u,rfl,ru⟩:=rv.one
  cases ru
  obtain ⟨z,its,n,r,hl,e⟩:=I.lstM hH
  obtain ⟨z2,its2,n2,r2,hl2,e2⟩:=I.lstM hB
  have hsz:its.toArray.size+its2.toArray.size<=sizeLine:=by rw [List.size_toArray,List.size_toArray];omega
  have hlong:¬ (!its.toArray.isEmpty && Builtin.List.listTooLong (its.toArray.size+its2.toArray.size))=true:=by
    rw [notLongL hsz,Bool.and_false]
    exact Bool.false_ne_true
  refine call_meets F.slot_list_extend ⟨_,e,rfl⟩ F.entry_list_extend (F.args_list_extend_2 _ _)
    (AutoSeq1.list_extend_list_list_0 l its.toArray n b its2.toArray n2 hlong (by rw [List.size_toArray];omega) (by omega)) ⟨e,e2,?_⟩
  refine ⟨.non,_,I.lset (its':=its++its2) hH e (by simp) (r.append r2) ?_,rfl,q⟩
  rw [List.length_append]
  omega
def rCat:R2:=fun x y H Q=>∃ l b xs zs,x=.ref l/\y=.ref b/\H l=some (.lst xs)/\H b=some (.lst zs)/\xs.length+zs.length<=sizeLine/\∀ p,H p=none->Q (.ref p) (upd H p (.lst (xs++zs)))
theorem op_cat:OpR X (binaryOp .Add) rCat:=by
  intro pins s σ H x y v u Q I rx ry h
  obtain ⟨l,b,xs,zs,rfl,rfl,hH,hB,hz,q⟩:=h
  cases rx
  cases ry
  obtain ⟨z,its,n,r,hl,e⟩:=I.lstM hH
  obtain ⟨z2,its2,n2,r2,hl2,e2⟩:=I.lstM hB
  refine PySem.P.add_list e e2 ?_ (by rw [List.size_toArray,List.size_toArray];omega)
  have ea:its.toArray++its2.toArray=(its++its2).toArray:=by simp
  rw [ea]
  exact ⟨.ref _,_,I.lnew (t':=s.toks) (r.append r2) (by rw [List.length_append];omega),rfl,q _ I.fresh⟩
def rRep:R2:=fun x y H Q=>∃ l k xs,x=.ref l/\y=.int k/\H l=some (.lst xs)/\-(2 ^ 63)<=k/\k < 2 ^ 63/\xs.length * k.toNat<=sizeLine /\
  ∀ p,H p=none->Q (.ref p) (upd H p (.lst (List.replicate k.toNat xs).flatten))
theorem len_rep {α:Type} (xs:List α) (k:Nat):(List.replicate k xs).flatten.length=k * xs.length:=by
  induction k with
  | zero=>simp
  | succ k ih=>rw [List.replicate_succ,List.flatten_cons,List.length_append,ih,Nat.succ_mul,Nat.add_comm]
theorem op_rep:OpR X (binaryOp .Mult) rRep:=by
  intro pins s σ H x y v u Q I rx ry h
  obtain ⟨l,k,xs,rfl,rfl,hH,h1,h2,hz,q⟩:=h
  cases rx
  obtain ⟨t,rfl⟩:=ry
  obtain ⟨z,its,n,r,hl,e⟩:=I.lstM hH
  have hlen:its.toArray.size * k.toNat<=sizeLine:=by rw [List.size_toArray,<- hl];exact hz
  have hcap:¬ its.toArray.size * k.toNat > (2 ^ 63 - 1) / 8:=by
    have:(sizeLine:Nat)<=(2 ^ 63 - 1) / 8:=by decide
    omega
  have hfit:¬ (!Builtin.List.listFitsIndex k)=true:=by
    rw [fitsIndex_both h1 h2]
    exact Bool.false_ne_true
  have hlong:¬ Builtin.List.listTooLong (its.toArray.size * k.toNat)=true:=by
    rw [notLongL hlen]
    exact Bool.false_ne_true
  have hnew:List.foldl (fun x1 x2=>x1++x2) #[] (List.replicate (if its.toArray.isEmpty=true then 0 else k.toNat) its.toArray)=(List.replicate k.toNat its).flatten.toArray:=by
    have f0:∀ m:Nat,List.foldl (fun x1 x2=>x1++x2) #[] (List.replicate m its.toArray)=(List.replicate m its).flatten.toArray:=fun m=>by
      have:=foldl_rep its m []
      rw [List.nil_append] at this
      exact this
    rw [f0]
    cases its with
    | nil=>simp
    | cons a r'=>rw [if_neg (by simp)]
  refine wpAny_binaryOp_repeat_ref (T:="list") (U:="int") (by decide) ⟨_,e,rfl⟩ (fun s'=>typeIs_int s' k t) noFill_list_mul F.fills_int_mul F.slot_int_rmul repeat_list F.slot_int_index.lookup
    (call_meets F.slot_int_rmul (typeIs_int s k t) F.entry_int_rmul (F.args_int_rmul_2 _ _) (int___rmul___int_list k t l its.toArray n)
      ⟨e,rfl,⟨_,e,rfl⟩,call_meets F.slot_list_mul ⟨_,e,rfl⟩ F.entry_list_mul (F.args_list_mul_2 _ _) (AutoListH.list___mul___list_int_3 l its.toArray n k t hfit hcap hlong) ⟨e,?_⟩⟩)
  rw [hnew]
  exact ⟨.ref _,_,I.lnew (t':=s.toks) (r.rep k.toNat) (by rw [len_rep,Nat.mul_comm];exact hz),rfl,q _ I.fresh⟩
end
section
variable {prog:Program} {w:World} {A:Around} {E:Value->Shared->Prop} {s:Shared}
set_option maxRecDepth 100000 in
end
section
variable {X:Cx}
end
end L2
namespace L2
open PySem PySem.Spec PyProof.Rows
section
variable {κ:Type} [DecidableEq κ]
def valV (kvs:List (κ×V)) (k:κ):Option V:=(kvs.find? fun kv=>decide (kv.1=k)).map (·.2)
def putK (kvs:List (κ×V)) (k:κ) (v:V):List (κ×V) :=
  if (kvs.any fun kv=>decide (kv.1=k))=true then kvs.map (fun kv=>if kv.1=k then (kv.1,v) else kv) else kvs++[(k,v)]
def dropK (kvs:List (κ×V)) (k:κ):List (κ×V):=kvs.filter fun kv=>decide (kv.1≠k)
theorem valV_pos {p:κ×V} {r:List (κ×V)} {k:κ} (e:p.1=k):valV (p::r) k=some p.2:=by simp [valV,List.find?_cons,e]
theorem valV_neg {p:κ×V} {r:List (κ×V)} {k:κ} (e:¬ p.1=k):valV (p::r) k=valV r k:=by simp [valV,List.find?_cons,e]
theorem valV_any (k:κ):∀ kvs:List (κ×V),(kvs.any fun kv=>decide (kv.1=k))=(valV kvs k).isSome
  | []=>rfl
  | p::r=>by
    rw [List.any_cons]
    by_cases e:p.1=k
    · simp only [valV_pos e,decide_eq_true e,Bool.true_or,Option.isSome_some]
    · rw [valV_neg e,decide_eq_false e,Bool.false_or];exact valV_any k r
theorem length_putK (kvs:List (κ×V)) (k:κ) (v:V):(putK kvs k v).length<=kvs.length+1:=by
  unfold putK
  split
  · rw [List.length_map];omega
  · rw [List.length_append,List.length_cons,List.length_nil];omega
theorem RelO.isSome_eq {o:Option V} {u:Option Value} (r:RelO o u):o.isSome=u.isSome:=by
  cases o with
  | none=>cases u with
    | none=>rfl
    | some _=>exact (show False from r).elim
  | some _=>cases u with
    | none=>exact (show False from r).elim
    | some _=>rfl
theorem RelO.getD {o:Option V} {u:Option Value} {d:V} {d':Value} (r:RelO o u) (rd:RelV d d'):RelV (o.getD d) (u.getD d'):=by
  cases o with
  | none=>cases u with
    | none=>exact rd
    | some _=>exact (show False from r).elim
  | some _=>cases u with
    | none=>exact (show False from r).elim
    | some _=>exact r
theorem KV.val {kvs:List (κ×V)} {vs:List (κ×Value)} (r:KV kvs vs) (k:κ):RelO (valV kvs k) (valueAt vs k):=by
  unfold KV at r
  induction r with
  | nil=>exact True.intro
  | @cons p q ps qs h t ih =>
    obtain ⟨h1,h2⟩:=h
    by_cases e:p.1=k
    · have e':q.1=k:=h1.symm.trans e
      have b:valueAt (q::qs) k=some q.2:=by simp [valueAt,List.find?_cons,e']
      rw [valV_pos e,b];exact h2
    · have e':¬ q.1=k:=fun z=>e (h1.trans z)
      have b:valueAt (q::qs) k=valueAt qs k:=by simp [valueAt,List.find?_cons,e']
      rw [valV_neg e,b];exact ih
theorem KV.any {kvs:List (κ×V)} {vs:List (κ×Value)} (r:KV kvs vs) (k:κ):(kvs.any fun kv=>decide (kv.1=k))=vs.any fun kv=>decide (kv.1=k):=by
  unfold KV at r
  induction r with
  | nil=>rfl
  | cons h t ih=>rw [List.any_cons,List.any_cons,ih,h.1]
theorem KV.repl {kvs:List (κ×V)} {vs:List (κ×Value)} (r:KV kvs vs) (k:κ) {y:V} {u:Value} (ry:RelV y u) :
    KV (kvs.map fun kv=>if kv.1=k then (kv.1,y) else kv) (vs.map fun kv=>if kv.1=k then (kv.1,u) else kv):=by
  unfold KV at r ⊢
  induction r with
  | nil=>exact .nil
  | @cons p q ps qs h t ih =>
    rw [List.map_cons,List.map_cons]
    refine .cons ?_ ih
    obtain ⟨h1,h2⟩:=h
    by_cases e:p.1=k
    · rw [if_pos e,if_pos (h1.symm.trans e)];exact ⟨h1,ry⟩
    · rw [if_neg e,if_neg (fun z=>e (h1.trans z))];exact ⟨h1,h2⟩
theorem KV.put {kvs:List (κ×V)} {vs:List (κ×Value)} (r:KV kvs vs) (k:κ) {y:V} {u:Value} (ry:RelV y u):KV (putK kvs k y) (stored vs k u):=by
  unfold putK stored
  rw [r.any k]
  by_cases e:(vs.any fun kv=>decide (kv.1=k))=true
  · rw [if_pos e,if_pos e];exact r.repl k ry
  · rw [if_neg e,if_neg e];exact Paired.snoc r ⟨rfl,ry⟩
theorem KV.drop {kvs:List (κ×V)} {vs:List (κ×Value)} (r:KV kvs vs) (k:κ):KV (dropK kvs k) (without vs k):=by
  unfold KV at r ⊢
  unfold dropK without
  induction r with
  | nil=>exact .nil
  | @cons p q ps qs h t ih =>
    obtain ⟨h1,h2⟩:=h
    rw [List.filter_cons,List.filter_cons]
    by_cases e:p.1=k
    · have a:¬ decide (p.1≠k)=true:=by simp [e]
      have b:¬ decide (q.1≠k)=true:=by simp [h1.symm.trans e]
      rw [if_neg a,if_neg b];exact ih
    · have e':¬ q.1=k:=fun z=>e (h1.trans z)
      have a:decide (p.1≠k)=true:=by simp [e]
      have b:decide (q.1≠k)=true:=by simp [e']
      rw [if_pos a,if_pos b];exact .cons ⟨h1,h2⟩ ih
theorem KV.keys {kvs:List (κ×V)} {vs:List (κ×Value)} (r:KV kvs vs):kvs.map (·.1)=vs.map (·.1):=by
  unfold KV at r
  induction r with
  | nil=>rfl
  | cons h t ih=>rw [List.map_cons,List.map_cons,ih,h.1]
theorem KV.length {kvs:List (κ×V)} {vs:List (κ×Value)} (r:KV kvs vs):kvs.length=vs.length:=Paired.length r
end
theorem kV_is {P:Program} {w:World} {k:Key} {u:Value} (r:RelV (kV k) u):(mixKind P w).is k u=true:=by
  cases k with
  | inl i=>obtain ⟨t,e⟩:=(show ∃ t,u=Value.int i t from r);subst e;exact mixKind_int P w i t
  | inr x=>obtain ⟨t,e⟩:=(show ∃ t,u=Value.str x t from r);subst e;exact mixKind_str P w x t
theorem items_are {P:Program} {w:World}:∀ {ks:List Key} {us:List Value},Vals (ks.map kV) us->ItemsAre (mixKind P w) ks us
  | [],_,r=>by rw [List.map_nil] at r;cases r;exact .nil
  | k::ks,_,r=>by
    rw [List.map_cons] at r
    cases r with
    | cons h t=>exact .cons (kV_is h) (items_are t)
abbrev KT (H:Hp):List (List Key×V)->List (List Key×Addr×Value)->Prop:=Paired fun p q=>p.1=q.1/\H q.2.1=some (.tup (p.1.map kV))/\RelV p.2 q.2.2
theorem KT.val {H:Hp} {kvs:List (List Key×V)} {xs:List (List Key×Addr×Value)} (r:KT H kvs xs) (k:List Key):RelO (valV kvs k) ((atKey xs k).map (·.2)):=by
  induction r with
  | nil=>exact True.intro
  | @cons p q ps qs h t ih =>
    obtain ⟨h1,_,h2⟩:=h
    by_cases e:p.1=k
    · have e':q.1=k:=h1.symm.trans e
      have b:atKey (q::qs) k=some q.2:=by simp [atKey,List.find?_cons,e']
      rw [valV_pos e,b];exact h2
    · have e':¬ q.1=k:=fun z=>e (h1.trans z)
      have b:atKey (q::qs) k=atKey qs k:=by simp [atKey,List.find?_cons,e']
      rw [valV_neg e,b];exact ih
theorem KT.repl {H:Hp} {kvs:List (List Key×V)} {xs:List (List Key×Addr×Value)} (r:KT H kvs xs) (k:List Key) {y:V} {u:Value} (ry:RelV y u) :
    KT H (kvs.map fun kv=>if kv.1=k then (kv.1,y) else kv) (xs.map (putAt k u)):=by
  induction r with
  | nil=>exact .nil
  | @cons p q ps qs h t ih =>
    rw [List.map_cons,List.map_cons]
    refine .cons ?_ ih
    obtain ⟨h1,h2,h3⟩:=h
    unfold putAt
    by_cases e:p.1=k
    · rw [if_pos e,if_pos (h1.symm.trans e)];exact ⟨h1,h2,ry⟩
    · rw [if_neg e,if_neg (fun z=>e (h1.trans z))];exact ⟨h1,h2,h3⟩
theorem KT.put {H:Hp} {kvs:List (List Key×V)} {xs:List (List Key×Addr×Value)} (r:KT H kvs xs) (k:List Key) {b:Addr} {y:V} {u:Value} (hb:H b=some (.tup (k.map kV))) (ry:RelV y u) :
    KT H (putK kvs k y) (storedH xs k b u):=by
  have e:(kvs.any fun kv=>decide (kv.1=k))=(atKey xs k).isSome:=by
    rw [valV_any,(r.val k).isSome_eq,Option.isSome_map]
  unfold putK storedH
  rw [e]
  by_cases q:(atKey xs k).isSome=true
  · rw [if_pos q,if_pos q];exact r.repl k ry
  · rw [if_neg q,if_neg q];exact Paired.snoc r ⟨rfl,hb,ry⟩
theorem KT.keeps {H H':Hp} {kvs:List (List Key×V)} {xs:List (List Key×Addr×Value)} (r:KT H kvs xs) (ht:∀ b ys,H b=some (.tup ys)->H' b=some (.tup ys)):KT H' kvs xs :=
  Paired.mapP r fun _ _ z=>⟨z.1,ht _ _ z.2.1,z.2.2⟩
section
variable {P:Program} {w:World} {H:Hp} {h:Heap} {a:Addr}
theorem rd_of {u:HO} (ok:HOk P w H h) (e:Rd H a u):ObjOk P w H h a u:=e.ok ok
theorem dk_rd {kvs:List (Key×V)} (ok:HOk P w H h) (e:Rd H a (.dK kvs)):kvs.length<=sizeLine/\(a == sysModules)=false/\∃ vs,KV kvs vs/\h.DictOf (mixKind P w) a vs :=
  show ObjOk P w H h a (.dK kvs) from rd_of ok e
theorem dk_of {kvs:List (Key×V)} (ok:HOk P w H h) (e:H a=some (.dK kvs)):kvs.length<=sizeLine/\(a == sysModules)=false/\∃ vs,KV kvs vs/\h.DictOf (mixKind P w) a vs:=dk_rd ok (.inl e)
theorem key_of {ks:List Key} (ok:HOk P w H h) (e:H a=some (.tup (ks.map kV))):(tupleKind (mixKind P w)).is h ks a:=by
  obtain ⟨_,its,r,o,h1,h2,n,h3⟩:=(show ObjOk P w H h a (.tup (ks.map kV)) from ok a _ e)
  exact ⟨o,its.toArray,n,h1,h2,h3,by simpa using items_are r⟩
theorem dt_rd {kvs:List (List Key×V)} (ok:HOk P w H h) (e:Rd H a (.dT kvs)):kvs.length<=sizeLine/\(a == sysModules)=false /\
    ∃ xs,KT H kvs xs/\h.DictOfH (tupleKind (mixKind P w)) a xs:=by
  obtain ⟨z,y,xs,r,o,es,ep,h1,h2,h3,h4,h5⟩:=(show ObjOk P w H h a (.dT kvs) from rd_of ok e)
  refine ⟨z,y,xs,r,o,es,ep,h1,h2,h3,h4,fun x hx=>?_,h5⟩
  have all:∀ {l:List (List Key×V)} {m:List (List Key×Addr×Value)},KT H l m->∀ x∈m,(tupleKind (mixKind P w)).is h x.1 x.2.1:=by
    intro l m q
    induction q with
    | nil=>intro x hx;exact nomatch hx
    | @cons p q ps qs hq t ih =>
      intro x hx
      rcases List.mem_cons.mp hx with e | hx
      · subst e
        exact key_of ok (by rw [<- hq.1];exact hq.2.1)
      · exact ih x hx
  exact all r x hx
theorem dt_of {kvs:List (List Key×V)} (ok:HOk P w H h) (e:H a=some (.dT kvs)):kvs.length<=sizeLine/\(a == sysModules)=false /\
    ∃ xs,KT H kvs xs/\h.DictOfH (tupleKind (mixKind P w)) a xs:=dt_rd ok (.inl e)
end
def DGet (H:Hp) (a:Addr) (y:V) (r:Option V):Prop :=
  (∃ kvs k,Rd H a (.dK kvs)/\y=kV k/\r=valV kvs k)\/∃ kvs k b,Rd H a (.dT kvs)/\y=.ref b/\H b=some (.tup (k.map kV))/\r=valV kvs k
def DPut (H:Hp) (a:Addr) (y v:V) (H':Hp):Prop :=
  (∃ kvs k,H a=some (.dK kvs)/\y=kV k/\kvs.length < sizeLine/\H'=upd H a (.dK (putK kvs k v))) \/
  ∃ kvs k b,H a=some (.dT kvs)/\y=.ref b/\H b=some (.tup (k.map kV))/\kvs.length < sizeLine/\H'=upd H a (.dT (putK kvs k v))
theorem DGet.k {H:Hp} {a:Addr} {kvs:List (Key×V)} {k:Key} (e:H a=some (.dK kvs)):DGet H a (kV k) (valV kvs k):=.inl ⟨kvs,k,.inl e,rfl,rfl⟩
theorem DGet.t {H:Hp} {a b:Addr} {kvs:List (List Key×V)} {k:List Key} (e:H a=some (.dT kvs)) (eb:H b=some (.tup (k.map kV))):DGet H a (.ref b) (valV kvs k):=.inr ⟨kvs,k,b,.inl e,rfl,eb,rfl⟩
theorem DPut.k {H:Hp} {a:Addr} {kvs:List (Key×V)} {k:Key} {v:V} (e:H a=some (.dK kvs)) (hl:kvs.length < sizeLine):DPut H a (kV k) v (upd H a (.dK (putK kvs k v))):=.inl ⟨kvs,k,e,rfl,hl,rfl⟩
theorem DPut.t {H:Hp} {a b:Addr} {kvs:List (List Key×V)} {k:List Key} {v:V} (e:H a=some (.dT kvs)) (eb:H b=some (.tup (k.map kV))) (hl:kvs.length < sizeLine) :
    DPut H a (.ref b) v (upd H a (.dT (putK kvs k v))):=.inr ⟨kvs,k,b,e,rfl,eb,hl,rfl⟩
section
variable {X:Cx} {pins:List (Addr×Obj)} {σ:St} {H:Hp} {s:Shared} {a:Addr} {y v:V} {u r:Value} {o:Option V} {A:Around} {E:Value->Shared->Prop}
theorem Inv.big (I:Inv X pins σ H s):sysModules < s.heap.objs.size:=by
  have h:mainGlobals < s.heap.objs.size:=(I.mod.glob.keeps I.bk).lt
  exact Nat.lt_trans (by decide) h
theorem d_getItem {Q:Value->Shared->Prop} (hu:A.units+1 < cLine) (I:Inv X pins σ H s) (g:DGet H a y (some v)) (ry:RelV y u) (h:∀ w' s',Inv X pins σ H s'->RelV v w'->Q w' s') :
    wpAny (model X.prog X.w) A (getItem (.ref a) u) Q E s:=by
  rcases g with ⟨kvs,k,e,ey,l⟩ | ⟨kvs,k,b,e,ey,eb,l⟩
  · subst ey
    obtain ⟨z,hd,vs,rel,dd⟩:=dk_rd I.hok e
    obtain ⟨w',hw,rw'⟩:=RelO.some_of (v:=v) (o:=valueAt vs k) (by rw [l];exact rel.val k)
    exact wpAny_getItem_of (kV_is ry) dd.mapOf hw (h w' _ (I.tok _) rw')
  · subst ey
    cases (show u=Value.ref b from ry)
    obtain ⟨z,hd,xs,rel,dd⟩:=dt_rd I.hok e
    obtain ⟨w',hw,rw'⟩:=RelO.some_of (v:=v) (o:=(atKey xs k).map (·.2)) (by rw [l];exact rel.val k)
    obtain ⟨p,hp,hp2⟩:=Option.map_eq_some_iff.mp hw
    refine wpAny_getItem_heap (tupleKind_room_in1 hu) (key_of I.hok eb) dd hp ?_
    rw [hp2]
    exact h w' _ (I.tok _) rw'
theorem d_in {Q:Value->Shared->Prop} (hu:A.units+1 < cLine) (I:Inv X pins σ H s) (g:DGet H a y o) (ry:RelV y u) (h:∀ s',Inv X pins σ H s'->Q (.bool o.isSome) s') :
    wpAny (model X.prog X.w) A (compareOp .In u (.ref a)) Q E s:=by
  rcases g with ⟨kvs,k,e,ey,l⟩ | ⟨kvs,k,b,e,ey,eb,l⟩
  · subst ey
    obtain ⟨z,hd,vs,rel,dd⟩:=dk_rd I.hok e
    refine wpAny_in_of (kV_is ry) hd dd.mapOf ?_
    rw [<- (rel.val k).isSome_eq,<- l]
    exact h _ (I.tok _)
  · subst ey
    cases (show u=Value.ref b from ry)
    obtain ⟨z,hd,xs,rel,dd⟩:=dt_rd I.hok e
    refine wpAny_in_heap (tupleKind_room_in1 hu) (key_of I.hok eb) hd dd ?_
    have q:=(rel.val k).isSome_eq
    rw [Option.isSome_map] at q
    rw [<- q,<- l]
    exact h _ (I.tok _)
theorem d_write {h':Heap} {t':Nat} {ob:HO} (I:Inv X pins σ H s) (mu:Mut (H a)) (hs:Heap.SameBut a s.heap h') (he:∃ q,h'.get? a=some q) (new:ObjOk X.prog X.w (upd H a ob) h' a ob) :
    Inv X pins σ (upd H a ob) { s with heap:=h',toks:=t' } :=
  I.write (x:=a) (e:=a) mu (.inl rfl) (fun b q hb z=>(hs.2 b hb).trans z) he new
theorem dk_new {P:Program} {w:World} {H':Hp} {h':Heap} {kvs:List (Key×V)} {vs:List (Key×Value)} (z:kvs.length<=sizeLine) (hd:(a == sysModules)=false) (rel:KV kvs vs) (dd:h'.DictOf (mixKind P w) a vs) :
    ObjOk P w H' h' a (.dK kvs):=⟨z,hd,vs,rel,dd⟩
theorem d_setItem {H':Hp} {Q:Unit->Shared->Prop} (hu:A.units+1 < cLine) (I:Inv X pins σ H s) (g:DPut H a y v H') (ry:RelV y u) (rv:RelV v r) (h:∀ s',Inv X pins σ H' s'->Q () s') :
    wpAny (model X.prog X.w) A (setItem (.ref a) u r) Q E s:=by
  rcases g with ⟨kvs,k,e,ey,l,eH⟩ | ⟨kvs,k,b,e,ey,eb,l,eH⟩
  · subst ey eH
    obtain ⟨z,hd,vs,rel,dd⟩:=dk_of I.hok e
    have hz:vs.length<=sizeLine:=by rw [<- rel.length];exact z
    have hl:(putK kvs k v).length<=sizeLine:=by have:=length_putK kvs k v;omega
    refine wpAny_setItem_pairs (hsz:=hz) (kV_is ry) dd fun h' dd' hs=>h _ ?_
    have he:∃ q,h'.get? a=some q:=let ⟨q,_,_,hq,_⟩:=dd';⟨q,hq⟩
    exact d_write I (by rw [e];exact True.intro) hs he (dk_new hl hd (rel.put k rv) dd')
  · subst ey eH
    cases (show u=Value.ref b from ry)
    obtain ⟨z,hd,xs,rel,dd⟩:=dt_of I.hok e
    have hz:xs.length<=sizeLine:=by rw [<- Paired.length rel];exact z
    have hl:(putK kvs k v).length<=sizeLine:=by have:=length_putK kvs k v;omega
    refine wpAny_setItem_heap (hsz:=hz) (tupleKind_room_in1 hu) (key_of I.hok eb) dd fun h' dd' hs=>h _ ?_
    obtain ⟨q,es,ep,hq,h2,h3,h4,_,h5⟩:=dd'
    refine d_write I (by rw [e];exact True.intro) hs ⟨q,hq⟩ ⟨hl,hd,_,(rel.put k eb rv).keeps fun c ys ec=>?_,q,es,ep,hq,h2,h3,h4,h5⟩
    rw [upd_ne (ne_of ec e (fun z=>nomatch z))]
    exact ec
end
section
variable {X:Cx} {pins:List (Addr×Obj)} {σ:St} {H:Hp} {s:Shared} {a:Addr} {kvs:List (Key×V)} {k:Key} {u:Value} {A:Around} {E:Value->Shared->Prop}
theorem d_len {Q:Value->Shared->Prop} (I:Inv X pins σ H s) (e:Rd H a (.dK kvs)) (h:∀ t s',Inv X pins σ H s'->Q (.int kvs.length t) s'):wpAny (model X.prog X.w) A (call (.builtin "len") [.ref a]) Q E s:=by
  obtain ⟨z,hd,vs,rel,dd⟩:=dk_rd I.hok e
  refine call_len_dict hd dd (by rw [<- rel.length];rw [sizeLine_eq] at z;omega) ?_
  rw [<- rel.length]
  exact h _ _ (I.tok _)
end
def NoSl (i:Expr):Prop:=∀ ov iv,subscripted i false ov iv=operate [ov,iv] (getItem ov iv)
theorem subD_of {prog:Program} {w:World} {A:Around} {E:Value->Shared->Prop} {s:Shared} {env:Env} {value slice:Expr} {pos:Pos} {T id:String} {Q:Value->Shared->Prop}
    (hl:typeLookup (.type T) "__getitem__"=pure (some (.builtin id))) (hs:NoSl slice)
    (h:wpAny (model prog w) A (eval value env) (fun o s₁=>wpAny (model prog w) A (eval slice env) (fun i s₂=>s₂.TypeIs o T/\wpAny (model prog w) A (getItem o i) Q E s₂) E s₁) E s) :
    wpAny (model prog w) A (eval (.Subscript value slice pos) env) Q E s:=by
  refine Subscript_ (wpAny_mono h (fun o s₁ h₁=>wpAny_mono h₁ (fun i s₂ h₂=>?_) fun _ _ x=>x) fun _ _ x=>x)
  obtain ⟨hT,h₂⟩:=h₂
  unfold subscriptTail
  refine wpAny_bind ?_
  rw [getitemInPython_of_ne hT.not_modules]
  refine wpAny_bind (wpAny_specialOf hT hl ?_)
  have fin:wpAny (model prog w) A (subscripted slice false o i) (fun r s₃=>wpAny (model prog w) A (letTemporaryGo value o r >>= fun _=>pure r) Q E s₃) E s₂:=by
    rw [hs o i]
    exact wpAny_operating (wpAny_mono h₂ (fun r s₃ h₃=>wpAny_bind (wpAny_letTemporaryGo (wpAny_pure h₃))) fun _ _ x=>x)
  first
    | exact wpAny_pure (wpAny_bind fin)
    | exact wpAny_bind (wpAny_pure (wpAny_bind fin))
    | exact wpAny_bind fin
theorem dict_typeIs {X:Cx} {pins:List (Addr×Obj)} {σ:St} {H:Hp} {s:Shared} {a:Addr} {y:V} {o:Option V} (I:Inv X pins σ H s) (g:DGet H a y o):s.TypeIs (.ref a) "dict":=by
  rcases g with ⟨kvs,k,e,_,_⟩ | ⟨kvs,k,b,e,_,_,_⟩
  · obtain ⟨_,_,vs,_,dd⟩:=dk_rd I.hok e
    exact dd.typeIs
  · obtain ⟨_,_,xs,_,dd⟩:=dt_rd I.hok e
    exact dd.typeIs
def tDGet (td ty:TE):TE:=fun σ H Q=>td σ H fun x H1=>ty σ H1 fun y H2=>∃ a v,x=.ref a/\DGet H2 a y (some v)/\Q v H2
def sDPut (td ty tv:TE):TS:=fun D σ H=>tv σ H fun v H1=>td σ H1 fun x H2=>ty σ H2 fun y H3=>∃ a H4,x=.ref a/\DPut H3 a y v H4/\D.nx σ H4
section
variable {X:Cx} {o i e value:Expr} {pos pos' tpos:Pos} {td ty tv:TE}
theorem pe_dget (hu:X.A.units+1 < cLine) (ho:PE X o td) (hi:PE X i ty) (hs:NoSl i):PE X (.Subscript o i pos) (tDGet td ty):=by
  intro pins s σ H Q I h
  refine subD_of PySem.F.slot_dict_getitem.lookup hs (thn (ho pins s σ H _ I h) fun u s1 ⟨x,H1,I1,rx,q1⟩=>thn (hi pins s1 σ H1 _ I1 q1) fun iv s2 ⟨y,H2,I2,ry,a,v,ex,g,q2⟩=>?_)
  subst ex
  obtain rfl:u=Value.ref a:=rx
  exact ⟨dict_typeIs I2 g,d_getItem hu I2 g ry fun w' s3 I3 rw'=>⟨v,H2,I3,rw',q2⟩⟩
theorem ps_dput (hu:X.A.units+1 < cLine) (ho:PE X o td) (hi:PE X i ty) (hv:PE X value tv) (hs:swapsWith value (some (.Subscript o i pos')) pos.line X.env=pure false) :
    PS X (.Assign [.Subscript o i pos'] value pos) (sDPut td ty tv):=by
  intro pins s σ H D I h
  refine wpAny_Assign_Subscript (thn (hv pins s σ H _ I h) fun r s1 ⟨v,H1,I1,rv,q1⟩=>thn (ho pins s1 σ H1 _ I1 q1) fun u s2 ⟨x,H2,I2,rx,q2⟩=>thn (hi pins s2 σ H2 _ I2 q2) fun iv s3 ⟨y,H3,I3,ry,a,H4,ex,g,q3⟩=>?_) hs
  subst ex
  obtain rfl:u=Value.ref a:=rx
  exact d_setItem hu I3 g ry rv fun s4 I4=>⟨σ,H4,I4,q3⟩
end
theorem dk_empty {P:Program} {w:World} {H:Hp} (h:Heap) (hb:sysModules < h.objs.size):ObjOk P w H (h.push { cls:=.type "dict",data:=.dict #[] }) h.objs.size (.dK []) :=
  ⟨Nat.zero_le _,beq_eq_false_iff_ne.mpr (Ne.symm (Nat.ne_of_lt hb)),[],.nil,Heap.DictOf.new h⟩
theorem dt_empty {P:Program} {w:World} {H:Hp} (h:Heap) (hb:sysModules < h.objs.size):ObjOk P w H (h.push { cls:=.type "dict",data:=.dict #[] }) h.objs.size (.dT []) :=
  ⟨Nat.zero_le _,beq_eq_false_iff_ne.mpr (Ne.symm (Nat.ne_of_lt hb)),[],.nil,_,#[],0,Heap.get?_push_size _ rfl,⟨rfl,rfl,rfl⟩,rfl,rfl,List.nodup_nil⟩
def tDNewT:TE:=fun _ H Q=>∀ p,H p=none->Q (.ref p) (upd H p (.dT []))
section
variable {X:Cx} {pos:Pos}
theorem pe_dnewT:PE X (.Dict [] [] pos) tDNewT:=fun pins s σ H Q I h =>
  wpAny_Dict_empty ⟨.ref s.heap.objs.size,_,I.laid (a:=s.heap.objs.size) (o:=.dT []) (t':=s.toks) (fun _ _ q=>Heap.get?_push_of_some _ q) (Nat.le_refl _) (dt_empty s.heap I.big),rfl,h _ (I.hok.fresh (Nat.le_refl _))⟩
end
def tPairs:List (TE×TE)->St->Hp->(List (V×V)->Hp->Prop)->Prop
  | [],_,H,Q=>Q [] H
  | (tk,tv)::r,σ,H,Q=>tk σ H fun x H1=>tv σ H1 fun y H2=>tPairs r σ H2 fun ps H3=>Q ((x,y)::ps) H3
abbrev VV:List (V×V)->List (Value×Value)->Prop:=Paired fun p q=>RelV p.1 q.1/\RelV p.2 q.2
def PPs (X:Cx) (pos:Pos) (keys:List (Option Expr)) (values:List Expr) (trs:List (TE×TE)):Prop :=
  ∀ (pins:List (Addr×Obj)) (s:Shared) (σ:St) (H:Hp) (Q:List (V×V)->Hp->Prop),Inv X pins σ H s->tPairs trs σ H Q ->
    wpAny (model X.prog X.w) X.A (evalPairs (pairTrees keys values X.env pos)) (fun vs s'=>∃ ps H',Inv X pins σ H' s'/\VV ps vs/\Q ps H') X.xe s
theorem pps_nil {X:Cx} {pos:Pos}:PPs X pos [] [] []:=fun pins s σ H Q I h=>pairTrees_nil_walk ⟨[],H,I,.nil,h⟩
theorem pps_cons {X:Cx} {pos:Pos} {k v:Expr} {ks:List (Option Expr)} {vs:List Expr} {tk tv:TE} {trs:List (TE×TE)} (hk:PE X k tk) (hv:PE X v tv) (hr:PPs X pos ks vs trs) :
    PPs X pos (some k::ks) (v::vs) ((tk,tv)::trs):=fun pins s σ H Q I h =>
  pairTrees_cons_walk (thn (hk pins s σ H _ I h) fun u s1 ⟨x,H1,I1,rx,q1⟩=>thn (hv pins s1 σ H1 _ I1 q1) fun w2 s2 ⟨y,H2,I2,ry,q2⟩ =>
    thn (hr pins s2 σ H2 _ I2 q2) fun ws s3 ⟨ps,H3,I3,rel,q3⟩=>⟨(x,y)::ps,H3,I3,.cons ⟨rx,ry⟩ rel,q3⟩)
def mergeK (kvs more:List (Key×V)):List (Key×V):=more.foldl (fun acc kv=>putK acc kv.1 kv.2) kvs
theorem KV.merge:∀ {more:List (Key×V)} {rs:List (Key×Value)} {kvs:List (Key×V)} {vs:List (Key×Value)},KV more rs->KV kvs vs->KV (mergeK kvs more) (merged vs rs):=by
  intro more rs kvs vs r
  unfold KV at r
  induction r generalizing kvs vs with
  | nil=>intro q;exact q
  | @cons p q ps qs h t ih =>
    intro r0
    have e:KV (putK kvs p.1 p.2) (stored vs q.1 q.2):=by
      have:=r0.put p.1 h.2
      rw [<- h.1];exact this
    exact ih e
theorem length_mergeK:∀ (more kvs:List (Key×V)),(mergeK kvs more).length<=kvs.length+more.length
  | [],kvs=>by show kvs.length<=kvs.length+0;omega
  | p::r,kvs=>by
    have h1:=length_mergeK r (putK kvs p.1 p.2)
    have h2:=length_putK kvs p.1 p.2
    show (mergeK (putK kvs p.1 p.2) r).length<=_
    rw [List.length_cons];omega
theorem carries_of {P:Program} {w:World}:∀ {kvs:List (Key×V)} {ws:List (Value×Value)},VV (kvs.map fun kv=>(kV kv.1,kv.2)) ws->∃ rs,Carries (mixKind P w) ws rs/\KV kvs rs
  | [],_,r=>by rw [List.map_nil] at r;cases r;exact ⟨[],True.intro,.nil⟩
  | p::kvs,_,r=>by
    rw [List.map_cons] at r
    cases r with
    | @cons a b as bs h t =>
      obtain ⟨rs,c,q⟩:=carries_of (P:=P) (w:=w) t
      obtain ⟨b1,b2⟩:=b
      exact ⟨(p.1,b2)::rs,⟨kV_is h.1,rfl,c⟩,.cons ⟨rfl,h.2⟩ q⟩
def tDisp (trs:List (TE×TE)):TE:=fun σ H Q=>∀ p,H p=none->tPairs trs σ (upd H p (.dK [])) fun ps H2=>H2 p=some (.dK [])/\∃ kvs:List (Key×V),ps=kvs.map (fun kv=>(kV kv.1,kv.2))/\kvs.length<=15/\Q (.ref p) (upd H2 p (.dK (mergeK [] kvs)))
theorem pe_disp {X:Cx} {pos:Pos} {keys:List (Option Expr)} {values:List Expr} {trs:List (TE×TE)} (h:PPs X pos keys values trs) (hall:keys.all (·.isSome)=true) (hl:keys.length=values.length) (h0:keys≠[])
    (h15:keys.length<=15):PE X (.Dict keys values pos) (tDisp trs):=by
  intro pins s σ H Q I q
  have hn:=I.hok.fresh (Nat.le_refl s.heap.objs.size)
  have I1:=I.laid (a:=s.heap.objs.size) (o:=.dK []) (h':=s.heap.push { cls:=.type "dict",data:=.dict #[] }) (t':=s.toks) (fun _ _ q=>Heap.get?_push_of_some _ q) (Nat.le_refl _) (dk_empty s.heap I.big)
  refine wpAny_Dict_walk (knd:=mixKind X.prog X.w) hall hl h0 h15 (thn (h pins _ σ _ _ I1 (q _ hn)) fun ws s2 ⟨ps,H2,I2,rel,e,kvs,ep,lk,q2⟩=>?_)
  subst ep
  obtain ⟨rs,c,rk⟩:=carries_of (P:=X.prog) (w:=X.w) rel
  obtain ⟨z,hd,vs0,r0,dd⟩:=dk_of I2.hok e
  cases r0
  refine ⟨rs,c,dd,fun h' dd' hs=>⟨.ref s.heap.objs.size,_,?_,rfl,q2⟩⟩
  have hz:(mergeK [] kvs).length<=sizeLine:=by
    have h1:=length_mergeK kvs []
    rw [List.length_nil] at h1
    rw [sizeLine_eq];omega
  have he:∃ q,h'.get? s.heap.objs.size=some q:=let ⟨q,_,_,hq,_⟩:=dd';⟨q,hq⟩
  exact d_write I2 (by rw [e];exact True.intro) hs he (dk_new hz hd (rk.merge .nil) dd')
structure M1 (X:Cx) (o:Expr) (m:Str) (apos:Pos) (e:Expr) (cpos:Pos):Prop where
  base:attributeBase o m X.env (eval o X.env)=eval o X.env
  few:((backTo cpos (starEach [e] X.env)).all (fun x=>!x.1) && (backToKw cpos (keywordEach [] X.env)).all (fun x=>x.1.isSome)
    && decide (([e]:List Expr).length+([]:List Keyword).length+(if ([]:List Keyword).isEmpty then 0 else 1) < 30))=true
  line:(apos.endLine == cpos.line)=true
  trees:backTo cpos (starEach [e] X.env)=[(false,eval e X.env)]
structure M2 (X:Cx) (o:Expr) (m:Str) (apos:Pos) (e f:Expr) (cpos:Pos):Prop where
  base:attributeBase o m X.env (eval o X.env)=eval o X.env
  few:((backTo cpos (starEach [e,f] X.env)).all (fun x=>!x.1) && (backToKw cpos (keywordEach [] X.env)).all (fun x=>x.1.isSome)
    && decide (([e,f]:List Expr).length+([]:List Keyword).length+(if ([]:List Keyword).isEmpty then 0 else 1) < 30))=true
  line:(apos.endLine == cpos.line)=true
  trees:backTo cpos (starEach [e,f] X.env)=[(false,eval e X.env),(false,eval f X.env)]
def IsD (H:Hp) (a:Addr):Prop:=(∃ kvs,Rd H a (.dK kvs))\/∃ kvs,Rd H a (.dT kvs)
theorem isD_at {X:Cx} {pins:List (Addr×Obj)} {σ:St} {H:Hp} {s:Shared} {a:Addr} (I:Inv X pins σ H s) (d:IsD H a) :
    s.TypeIs (.ref a) "dict"/\(∀ b,Value.ref a=.ref b->∃ ob,s.heap.get? b=some ob/\ob.dict=none)/\(a == sysModules)=false:=by
  rcases d with ⟨kvs,e⟩ | ⟨kvs,e⟩
  · obtain ⟨_,hd,vs,_,dd⟩:=dk_rd I.hok e
    refine ⟨dd.typeIs,fun b q=>?_,hd⟩
    cases q
    obtain ⟨ob,_,_,h1,h2,_⟩:=dd
    exact ⟨ob,h1,h2.2.1⟩
  · obtain ⟨_,hd,xs,_,dd⟩:=dt_rd I.hok e
    refine ⟨dd.typeIs,fun b q=>?_,hd⟩
    cases q
    obtain ⟨ob,_,_,h1,h2,_⟩:=dd
    exact ⟨ob,h1,h2.2.1⟩
section
variable {X:Cx} {pins:List (Addr×Obj)} {σ:St} {H:Hp} {s:Shared} {a:Addr} {y d:V} {u r:Value} {o:Option V} {A:Around} {E:Value->Shared->Prop}
theorem d_get2 {Q:Value->Shared->Prop} (hu:A.units+1 < cLine) (I:Inv X pins σ H s) (g:DGet H a y o) (ry:RelV y u) (rd:RelV d r) (h:∀ w' s',Inv X pins σ H s'->RelV (o.getD d) w'->Q w' s') :
    wpAny (model X.prog X.w) A (call (.builtin "dict.get") [.ref a,u,r]) Q E s:=by
  rcases g with ⟨kvs,k,e,ey,l⟩ | ⟨kvs,k,b,e,ey,eb,l⟩
  · subst ey
    obtain ⟨z,hd,vs,rel,dd⟩:=dk_rd I.hok e
    refine call_meetsIn PySem.F.slot_dict_get dd.typeIs PySem.F.entry_dict_get (PySem.F.args_dict_get_3 _ _ _) (meets_dict_get_default (mixKind X.prog X.w) a (kV_is ry) hd r) ⟨_,dd.mapOf,h _ _ (I.tok _) ?_⟩
    rw [l]
    exact (rel.val k).getD rd
  · subst ey
    cases (show u=Value.ref b from ry)
    obtain ⟨z,hd,xs,rel,dd⟩:=dt_rd I.hok e
    refine call_meetsIn PySem.F.slot_dict_get dd.typeIs PySem.F.entry_dict_get (PySem.F.args_dict_get_3 _ _ _) (meetsH_dict_get_default (tupleKind (mixKind X.prog X.w)) a b hd r) ⟨tupleKind_room_in1 hu,k,xs,key_of I.hok eb,dd,h _ _ (I.tok _) ?_⟩
    rw [l]
    exact (rel.val k).getD rd
end
def tDGet2 (td ty tx:TE):TE:=fun σ H Q=>td σ H fun x H1=>∃ a,x=.ref a/\IsD H1 a/\ty σ H1 fun y H2=>tx σ H2 fun z H3=>∃ o,DGet H3 a y o/\Q (o.getD z) H3
section
variable {X:Cx} {o e f:Expr} {apos cpos:Pos} {td ty tx:TE}
theorem pe_dget2 (hu:X.A.units+1 < cLine) (ho:PE X o td) (he:PE X e ty) (hf:PE X f tx) (m:M2 X o "get" apos e f cpos):PE X (.Call (.Attribute o "get" apos) [e,f] [] cpos) (tDGet2 td ty tx):=by
  intro pins s σ H Q I h
  refine wpAny_Call_method m.base m.few m.line PySem.F.plainAttrs_dict PySem.F.slot_dict_get PySem.F.type_dict_get (thn (ho pins s σ H _ I h) fun u s1 ⟨x,H1,I1,rx,a,ex,d,q1⟩=>?_)
  subst ex
  obtain rfl:u=Value.ref a:=rx
  obtain ⟨t1,t2,_⟩:=isD_at I1 d
  refine ⟨t1,t2,?_⟩
  rw [m.trees]
  refine Calls.callWith_builtin rfl (Calls.evalArgs_plain (Calls.spliced_cons (thn (he pins s1 σ H1 _ I1 q1) fun iv s2 ⟨y,H2,I2,ry,q2⟩ =>
    Calls.spliced_cons (thn (hf pins s2 σ H2 _ I2 q2) fun fv s3 ⟨z,H3,I3,rz,ov,g,q3⟩=>Calls.spliced_nil ?_))))
  exact d_get2 hu I3 g ry rz fun w' s4 I4 rw'=>⟨_,H3,I4,rw',q3⟩
end
section
variable {X:Cx} {pins:List (Addr×Obj)} {σ:St} {H:Hp} {s:Shared} {a:Addr} {kvs:List (Key×V)} {A:Around} {E:Value->Shared->Prop}
end
section
variable {X:Cx} {pins:List (Addr×Obj)} {σ:St} {H:Hp} {s:Shared} {a:Addr} {y:V} {u:Value} {A:Around} {E:Value->Shared->Prop}
end
end L2
namespace Att
open PySem PySem.W PySem.Calls PyProof.Rows
theorem ints_of_wellAll {P:Params} {h:Heap}:∀ (ns:List Int) (vs:List Value),WellAll P h vs (ns.map WData.int)->IntsAre vs ns:=by
  intro ns
  induction ns with
  | nil =>
    intro vs w
    rw [List.map_nil] at w
    cases w
    exact .nil
  | cons n ns ih =>
    intro vs w
    rw [List.map_cons] at w
    cases w with
    | cons a b =>
      cases a
      exact .cons _ _ (ih _ b)
theorem script_of {l:OpenLaw} {n:Nat} (hn:l.most=some n) {P:Params} {h:Heap} {args:List WData} {vals:List Value}
    (hpre:l.row.toRowW.claim.pre args=true) (hwl:WellAll P h vals args) :
    ∃ a vs ns,vals=[Value.ref a]/\args=[WData.list (ns.map WData.int)]/\h.get? a=some { cls:=.type "list",data:=.seq vs.toArray }/\IntsAre vs ns/\ns.length<=n:=by
  have hsh:WShape.hasAll [] args [.list .int]=true:=(pre_splitW hpre).1
  have hc:l.pre.holds [] { args:=args }=true:=(pre_splitW hpre).2
  obtain ⟨d,r,rfl,h1,h2⟩:=hasAllW_cons hsh
  obtain rfl:=hasAllW_nil h2
  obtain ⟨xs,rfl,h3⟩:=hasW_list h1
  obtain ⟨ns,rfl⟩:=items_int h3
  have hlen:ns.length<=n:=by
    unfold OpenLaw.pre at hc
    have h4:(WTm.not (.lt (.lit (.int (n:Int))) (.len (.arg 0)))).holds [] { args:=[.list (ns.map .int)] }=true:=by
      have h4:=(holds_andW hc).1
      rw [hn] at h4
      exact h4
    have h5:=condW_of h4 (w_not (w_lt w_lit (w_len_list (w_arg rfl))))
    rw [List.length_map] at h5
    refine Nat.le_of_not_lt fun q=>?_
    have q':(n:Int) < ((ns.length:Nat):Int):=by omega
    first
      | (rw [decide_eq_true q'] at h5;exact absurd h5 (by decide))
      | (simp at h5;omega)
  cases hwl with
  | cons w1 w2 =>
    cases w2
    cases w1 with
    | list ho hall=>exact ⟨_,_,ns,rfl,rfl,ho,ints_of_wellAll ns _ hall,hlen⟩
theorem post_true (l:OpenLaw) (args:List WData):l.row.toRowW.claim.post args (.bool true) args=true :=
  postW_of (r:=l.row.toRowW) (X:=(true == true))
    (show WShape.has [] (.bool true) .bool=true by first | rfl | decide | simp [WShape.has,WShape.arms,WShape.armsAll])
    (show (WTm.eq .res (.lit (.bool true))).value [] { args:=args,res:=some (.bool true),after:=args }=some (.bool (true == true)) from w_eq_bool (w_res rfl) w_lit) rfl
theorem attach_call {l:OpenLaw} {n:Nat} {q:Program} {loose:List Str} {XP:(Str->Option Value)->Heap->Prop} {YP:World->Heap->Prop} {d:DefRec}
    (hn:l.most=some n) (hdf:d.params.defaults=[])
    (call:∀ (w:World) (s₀ s₁:Shared) (mg mb:Str->Option Value) (fa:Addr) (o:Obj) (pm cd doc:Value) (a:Addr) (vs:List Value) (ns:List Int),
      Ground q loose [] XP w s₀ mg mb s₁.heap->YP w s₁.heap ->
      s₁.heap.get? fa=some o->o.data=.func (docDef d.name d.params d.body d.scope pm cd doc)->s₁.heap.CodeRec cd d.name->mg d.name=some (.ref fa) ->
      s₁.heap.get? a=some { cls:=.type "list",data:=.seq vs.toArray }->IntsAre vs ns->ns.length<=n->s₁.gens=#[] ->
      codeAny (model l.prog w) callerA (.call (.ref fa) ⟨[.ref a],[]⟩) (fun r s'=>r=.ok (.ret (.bool true))/\OldK s₁.heap s'.heap/\s'.os=s₁.os/\AllBare s'.gens) s₁) :
    WalkO q loose XP YP l.row.toRowW d [] (fun f vs=>PySem.call f vs):=by
  intro w s₀ s₁ mg mb G Y fa o pm cd doc dV kV ho hd hcd hD hmg hg args vals as hpre hlay hrd hwl hlo
  obtain rfl:dV=.none:=Dflts.none hD hdf
  obtain rfl:kV=.none:=Dflts.noKw hD
  obtain ⟨a,vs,ns,rfl,rfl,hobj,hints,hlen⟩:=script_of hn hpre hwl
  refine enter_call (codeAny_mono (call w s₀ s₁ mg mb fa o pm cd doc a vs ns G Y ho (fd_plain hd) hcd hmg hobj hints hlen hg) fun r s' hq=>?_)
  obtain ⟨rfl,h2,h3,h4⟩:=hq
  exact ⟨.inl ⟨.bool true,.bool true,[],rfl,fun _=>rfl,.bool true,post_true l _,fun _=>⟨List.Pairwise.nil,fun _ hm=>(nomatch hm)⟩⟩,h2,h3,h4⟩
section
variable {prog:Program} {w:World} {A:Around} {E:Value->Shared->Prop} {s:Shared} {K:Frag}
end
end Att
namespace L2
open PySem PySem.Spec PyProof.Rows
theorem vals_ints:∀ {vs:List Value} {ns:List Int},IntsAre vs ns->Vals (ns.map V.int) vs
  | _,_,.nil=>.nil
  | _,_,.cons n t h=>.cons ⟨t,rfl⟩ (vals_ints h)
def Only (H:Hp):Prop:=∀ b,H b=none\/∃ o xs,H b=some (.frz o (.lst xs))
theorem law_call {P:Program} {w:World} {K:PySem.W.Frag} {mg mb:Str->Option Value} {CX:CXT} {k:Nat} {fa a:Addr} {fd:FuncData} {x:Str} {sp:Sp} {s₁:Shared} {vs:List Value} {ns:List Int}
    (KX:K.In s₁.heap) (hns:s₁.heap.Ns mainGlobals mg) (hb:s₁.heap.Ns builtinsNs mb) (hbb:∀ x:Str,x≠"__name__"->mb x=bootBuiltins x) (hlim:s₁.heap.NoLimit) (hg:s₁.gens=#[])
    (ha:s₁.heap.get? a=some { cls:=.type "list",data:=.seq vs.toArray }) (hi:IntsAre vs ns) (hl:ns.length<=sizeLine) (hr:Room k callerA)
    (F:∀ base:Heap,K.In base->base.Ns mainGlobals mg->FnOk P w K mg base CX k fa fd [x] sp) (hbind:∀ (s:Shared) (u:Value),BindsTo s fd ⟨[u],[]⟩ [(x,u)])
    (hsp:∀ H:Hp,Only H->SqL K H a (ns.map V.int)->sp [.ref a] H (fun v _=>v=.bl true) fun _ _ _=>False)
    (hCX:∀ H e s',CX [] H s₁ (fun _ _ _=>False) e s'->False) :
    codeAny (model P w) callerA (.call (.ref fa) ⟨[.ref a],[]⟩) (fun r s'=>r=.ok (.ret (.bool true))/\OldK s₁.heap s'.heap/\s'.os=s₁.os/\AllBare s'.gens) s₁:=by
  have rv:=vals_ints hi
  have lenV:=hi.length
  have core:∀ H:Hp,Only H->SqL K H a (ns.map V.int)->HOk P w H s₁.heap->(∀ b,H b≠none->b=a)->(H a≠none->K.lookup a=none) ->
      codeAny (model P w) callerA (.call (.ref fa) ⟨[.ref a],[]⟩) (fun r s'=>r=.ok (.ret (.bool true))/\OldK s₁.heap s'.heap/\s'.os=s₁.os/\AllBare s'.gens) s₁:=by
    intro H hO hS hok hA hK
    have base_of:∀ {b:Addr} {o:Obj},s₁.heap.get? b=some o->H b=none->(hidT s₁.heap H).get? b=some o:=fun e n=>hidT_get e n
    have noA:∀ {b:Addr} {o:Obj} {es:Array DictEntry} {ep:Nat},s₁.heap.get? b=some o->o.data=.dict es ep->H b=none:=fun {b o es ep} e d=>by
      cases q:H b with
      | none=>rfl
      | some u =>
        have e':b=a:=hA b (by rw [q];simp)
        subst e'
        rw [ha] at e;cases e
        have d':Data.seq vs.toArray _=Data.dict es ep:=d
        cases d'
    have nsK:∀ {b:Addr} {m:Str->Option Value},s₁.heap.Ns b m->(hidT s₁.heap H).Ns b m:=fun {b m} ⟨o,es,ep,e,d,r⟩=>⟨o,es,ep,base_of e (noA e d),d,r⟩
    have hKb:K.In (hidT s₁.heap H):=fun b o e=>base_of (KX b o e) (by
      cases q:H b with
      | none=>rfl
      | some u =>
        have e':b=a:=hA b (by rw [q];simp)
        subst e'
        rw [hK (by rw [q];simp)] at e;cases e)
    have hM:Mod K mg (hidT s₁.heap H):=⟨hKb,nsK hns,⟨mb,nsK hb,hbb⟩,let ⟨mc,h1,h2⟩:=hlim;⟨mc,nsK h1,h2⟩⟩
    have e0:Env0 P w K mg (hidT s₁.heap H) callerA [] s₁ H:=⟨rfl,hM,fun b o e=>of_hidT e,Nat.le_of_eq (hidT_size _ _),trivial,fun b hb=>absurd (show b∈([]:List Addr) from hb) (by simp),hok,.of_eq hg⟩
    refine codeAny_mono ((F _ hKb (nsK hns)).run callerA [] s₁ H ⟨[.ref a],[]⟩ [.ref a] [.ref a] _ _ hr e0 (hbind s₁ (.ref a)) (.cons rfl .nil) (hsp H hO hS)) fun r s' h=>?_
    cases r with
    | error e=>exact (hCX H e s' h).elim
    | ok fl =>
      cases fl with
      | next=>exact False.elim h
      | brk=>exact False.elim h
      | cont=>exact False.elim h
      | ret u =>
        obtain ⟨v,H',os,bare,un,hok',r',q⟩:=h
        have q':v=.bl true:=q
        subst q'
        obtain rfl:u=Value.bool true:=r'
        refine ⟨rfl,OldK.of_keep fun b o e=>?_,os,bare⟩
        cases q:H b with
        | none=>exact un.keep b o e q (by intro z;exact absurd (show b∈([]:List Addr) from z) (by simp)) (by simp)
        | some u =>
          rcases hO b with z | ⟨ob,xs,z⟩
          · rw [q] at z;cases z
          · have z2:=un.frzs b ob _ z
            obtain ⟨e1,_⟩:=hok b _ z
            obtain ⟨e2,_⟩:=hok' b _ z2
            rw [e] at e1;cases e1
            exact e2
  cases hk:K.lookup a with
  | some o =>
    have e:=KX a o hk
    rw [ha] at e
    cases e
    refine core (fun _=>none) (fun _=>.inl rfl) (.inr ⟨_,vs.toArray,_,hk,rfl,rfl,rfl,by rw [List.size_toArray,lenV];exact hl,by simpa using rv⟩) (fun b u z=>by have z':(none:Option HO)=some u:=z;cases z') (fun b z=>absurd rfl z) fun z=>absurd rfl z
  | none =>
    refine core (fun b=>if b=a then some (.frz { cls:=.type "list",data:=.seq vs.toArray } (.lst (ns.map V.int))) else none) (fun b=>?_) (.inl (.inr ⟨{ cls:=.type "list",data:=.seq vs.toArray },if_pos rfl⟩)) (fun b u z=>?_) (fun b z=>?_) fun _=>hk
    · by_cases hb:b=a
      · exact .inr ⟨_,_,if_pos hb⟩
      · exact .inl (if_neg hb)
    · by_cases hb:b=a
      · have z':=(if_pos hb).symm.trans z
        cases z'
        subst hb
        exact ⟨ha,by rw [List.length_map];exact hl,vs,_,rv,ha⟩
      · have z':=(if_neg hb).symm.trans z
        cases z'
    · by_cases hb:b=a
      · exact hb
      · exact absurd (if_neg hb) z
end L2
namespace L2
open PySem PySem.Spec PyProof.Rows
abbrev KOf {K:PySem.W.Frag} {h:Heap} (_:K.In h):PySem.W.Frag:=K
theorem walk_of {l:PySem.W.OpenLaw} {n k:Nat} {q:Program} {loose:List Str} {XP:(Str->Option Value)->Heap->Prop} {YP:World->Heap->Prop} {d:DefRec} {K:Params->PySem.W.Frag} {CX:World->CXT} {sp:World->Sp} {x:Str}
    (hn:l.most=some n) (hn2:n<=sizeLine) (hdf:d.params.defaults=[]) (hr:Room k callerA)
    (hY:∀ (w:World) (h:Heap),YP w h->(K w.params).In h)
    (F:∀ (w:World) (mg:Str->Option Value) (fa:Addr) (h:Heap),(K w.params).In h->h.Ns mainGlobals mg->mg d.name=some (.ref fa) ->
      ∃ fd:FuncData,(∀ (s:Shared) (u:Value),BindsTo s fd ⟨[u],[]⟩ [(x,u)]) /\
        ∀ base:Heap,(K w.params).In base->base.Ns mainGlobals mg->FnOk l.prog w (K w.params) mg base (CX w) k fa fd [x] (sp w))
    (hsp:∀ (w:World) (H:Hp) (a:Addr) (ns:List Int),ns.length<=n->Only H->SqL (K w.params) H a (ns.map V.int)->sp w [.ref a] H (fun v _=>v=.bl true) fun _ _ _=>False)
    (hCX:∀ (w:World) (H:Hp) (s:Shared) (e:Value) (s':Shared),CX w [] H s (fun _ _ _=>False) e s'->False) :
    PySem.W.WalkO q loose XP YP l.row.toRowW d [] (fun f vs=>PySem.call f vs):=by
  refine Att.attach_call hn hdf fun w s₀ s₁ mg mb fa o pm cd doc a vs ns G Y ho hd hcd hmg hobj hints hlen hg=>?_
  have KX:=hY w _ Y
  obtain ⟨fd,hb,hF⟩:=F w mg fa _ KX G.T.g hmg
  exact law_call KX G.T.g G.T.b G.T.builtins G.T.nolimit hg hobj hints (Nat.le_trans hlen hn2) hr hF hb (fun H hO hS=>hsp w H a ns hlen hO hS) fun H e s'=>hCX w H s₁ e s'
end L2
/- THE LAST THEOREM (shape;LID,My.* are yours):
   My.Adr: a structure of the addresses that your layer names (classes,functions);My.Txt K t: a structure (Prop) of the equations over K;
   My.txt_mk:{K} {implicit addresses ..} (e1:nsIn K mainGlobals "law"=some (some (.ref f))) (e2:K.lookup f=some ⟨oc,od,.func (fnOf "law" "law" params body scope dV kV doc pm an cdv ct),sl⟩) (e3:codeIn K cdv "law"=true) ..:∃ t,My.Txt K t
set_option maxRecDepth 100000 in
set_option maxHeartbeats 0 in
theorem PySem.Challenge.cw_LID_holds : PySem.Challenge.rw_LID.Holds := by
  w_on;o_law;k_head;(case hw=>w_witness2)
  k_fill
  refine L2.walk_of (l:=PySem.Challenge.rw_LID) (n:=63) (k:=40) (x:="script") (CX:=fun w=>..) (sp:=fun _=>My.sp_law) rfl (by decide) rfl ⟨rfl,by decide,by decide⟩ (fun w h Y=>PySem.W.kIn_of Y) ?F ?S ?C
  case F =>
    intro w mg fa h KX G hmg
    have T:∃ t,My.Txt (L2.KOf KX) t:=by
      dsimp only [L2.KOf]
      refine' My.txt_mk ?e1 ?e2 ?e3 ..
      (case e1=>PySem.W.k_is)
      (case e2=>PySem.W.k_is)
      ..
    obtain ⟨t,T⟩:=T
    have e0:=hmg.symm.trans (PySem.W.mg_of KX G T.law)
    cases e0
    exact ⟨_,fun s u=>.of_eq rfl,fun base kb nb=>My.law_fn T kb nb⟩
  case S=>exact fun w H a ns hl hO hS=>..
  case C=>exact ..
(the tactic k_is has no namespace: write k_is) -/
namespace L2
open PySem PySem.Spec PyProof.Rows
def defArgs (s:Stmt):Arguments:=match s with
  | .FunctionDef _ a _ _ _ _ _ _ _ _=>a
  | _=>{ posonlyargs:=[],args:=[],vararg:=none,kwonlyargs:=[],kw_defaults:=[],kwarg:=none,defaults:=[] }
def defBody (s:Stmt):List Stmt:=match s with
  | .FunctionDef _ _ b _ _ _ _ _ _ _=>b
  | _=>[]
def defScope (s:Stmt):Scope:=match s with
  | .FunctionDef _ _ _ _ _ _ sc _ _ _=>sc
  | _=>{ kind:=.function,names:=[],isGenerator:=false,isCoroutine:=false }
abbrev CX0:CXT:=fun _ _ _ _ _ _=>False
abbrev E0:XK:=fun _ _ _=>False
theorem pass0 {X:Cx}:Passes CX0 X E0:=fun _ _ _ _ _ _ _ h=>h.elim
structure Fun (K:PySem.W.Frag) (x qual:Str) (st:Stmt) (f:Addr) (fd:FuncData):Prop where
  ex:∃ (oc:Value) (od:Option Addr) (kV doc pm:Value) (an:Option Addr) (cdv ct:Value) (osl:Array (Option Value)),
    fd=PySem.W.fnOf x qual (defArgs st) (defBody st) (defScope st) .none kV doc pm an cdv ct/\K.lookup f=some ⟨oc,od,.func fd,osl⟩/\PySem.W.codeIn K cdv qual=true
  kp:PySem.W.keepIn K (.ref f)=true
section
variable {P:Program} {w:World} {K:PySem.W.Frag} {mg:Str->Option Value} {base:Heap}
theorem Fun.ok {x qual:Str} {st:Stmt} {f:Addr} {fd:FuncData} {N ps:List Str} {k:Nat} {sp:Sp} (F:Fun K x qual st f fd) (S:FnScope N ps (defScope st)) (len:∀ vs H Q E,sp vs H Q E->vs.length=ps.length)
    (hbody:∀ (cdv:Value) (A:Around) (outer:List Env) (s:Shared) (H:Hp) (vs:List V) (Q:VK) (E:XK),Room k (A.deeper (envOfC qual (defScope st) s.heap.objs.size f cdv))->sp vs H Q E ->
      ∃ t,PSs (cxOf CX0 P w K mg base N qual (defScope st) f cdv A outer s H E).nox (defBody st) t/\t { nx:=fun _ H'=>Q .non H',rt:=Q } (start N vs) H):FnOk P w K mg base CX0 (k+1) f fd ps sp:=by
  obtain ⟨oc,od,kV,doc,pm,an,cdv,ct,osl,rfl,lk,hcd⟩:=F.ex
  refine fn_of lk hcd S len fun A outer s H vs Q E hr hsp=>?_
  obtain ⟨t,h,q⟩:=hbody cdv A outer s H vs Q E hr hsp
  exact ⟨t,h.nox,q⟩
theorem Fun.binds {x qual:Str} {st:Stmt} {f:Addr} {fd:FuncData} {ps:List Str} (F:Fun K x qual st f fd)
    (h:∀ (kV doc pm:Value) (an:Option Addr) (cdv ct:Value) (us:List Value),us.length=ps.length->bindArgs (PySem.W.fnOf x qual (defArgs st) (defBody st) (defScope st) .none kV doc pm an cdv ct) ⟨us,[]⟩=pure (ps.zip us)):Binds K fd ps []:=by
  obtain ⟨oc,od,kV,doc,pm,an,cdv,ct,osl,rfl,lk,hcd⟩:=F.ex
  exact .all (h kV doc pm an cdv ct)
theorem fun_mk {x qual:Str} {st:Stmt} {f:Addr} {oc:Value} {od an:Option Addr} {osl:Array (Option Value)} {kV doc pm cdv ct:Value} (l:K.lookup f=some ⟨oc,od,.func (PySem.W.fnOf x qual (defArgs st) (defBody st) (defScope st) .none kV doc pm an cdv ct),osl⟩)
    (c:PySem.W.codeIn K cdv qual=true) (k:PySem.W.keepIn K (.ref f)=true):Fun K x qual st f (PySem.W.fnOf x qual (defArgs st) (defBody st) (defScope st) .none kV doc pm an cdv ct):=⟨⟨oc,od,kV,doc,pm,an,cdv,ct,osl,rfl,l,c⟩,k⟩
end
section
variable {X:Cx}
theorem call_lenD:CallR X (.builtin "len") (fun xs H Q=>∃ a kvs,xs=[V.ref a]/\H a=some (.dK kvs)/\Q (.int kvs.length) H):=by
  intro pins s σ H xs us Q I r h
  obtain ⟨a,kvs,rfl,ha,q⟩:=h
  obtain ⟨u,rfl,ru⟩:=vals1 r
  cases ru
  exact d_len I (.inl ha) fun t s' I'=>⟨.int kvs.length,H,I',⟨t,rfl⟩,q⟩
end
def Same (H H':Hp):Prop:=∀ b o,H b=some o->H' b=some o
theorem Same.refl (H:Hp):Same H H:=fun _ _ h=>h
theorem Same.trans {H H1 H2:Hp} (a:Same H H1) (b:Same H1 H2):Same H H2:=fun c o h=>b c o (a c o h)
theorem Same.free {H H':Hp} (e:Same H H') {l:Addr} (h:H' l=Option.none):H l=Option.none:=by
  cases q:H l with
  | none=>rfl
  | some o =>
    rw [e l o q] at h
    cases h
theorem Same.seq {K:PySem.W.Frag} {H H':Hp} {a:Addr} {xs:List V} (e:Same H H') (h:SqL K H a xs):SqL K H' a xs:=by
  rcases h with (h | ⟨o,h⟩) | h
  · exact .inl (.inl (e _ _ h))
  · exact .inl (.inr ⟨o,e _ _ h⟩)
  · exact .inr h
end L2
namespace L2
open PySem PySem.Spec PyProof.Rows
section
variable {κ:Type} [DecidableEq κ]
end
end L2

set_option maxRecDepth 100000
set_option maxHeartbeats 4000000
namespace L2
open PySem PySem.Spec PyProof.Rows
def cxComp (X:Cx) (N:List Str) (scope:Scope) (cl:List (Str×Addr)) (C:Addr) (s:Shared) (H:Hp) (fp:List Addr):Cx where
  prog:=X.prog
  w:=X.w
  K:=X.K
  mg:=X.mg
  base:=X.base
  A:=X.A
  N:=N
  s₀:=s
  H₀:=H
  env:=compEnvC scope cl C X.env
  outer:=X.stack
  stack:=X.stack
  ex:=fp
  fn:=fun _=>false
  calm:=X.calm
  pn:=[]
  xe:=fun _ _=>False
section
variable {X:Cx} {pins:List (Addr×Obj)} {σ:St} {H:Hp} {s:Shared} {N:List Str} {scope:Scope} {cl:List (Str×Addr)} {C:Addr} {fp:List Addr}
theorem cxComp_ok (I:Inv X pins σ H s) (hk:scope.kind=.function) (hC:s.heap.objs.size<=C) (hf:∀ b∈fp,FpOk X pins H b) (ho:∀ b∈fp,∃ o,s.heap.get? b=some o)
    (hsub:∀ x c,cl.lookup x=some c->X.env.cells.lookup x=some c)
    (hhas:∀ x,((relabel scope X.env).names.lookup x=some .cell\/(relabel scope X.env).names.lookup x=some .free)->∃ c,cl.lookup x=some c) :
    (cxComp X N scope cl C s H fp).Ok where
  mod:=I.ok.mod
  kind:=hk
  glob:=I.ok.glob
  blt:=I.ok.blt
  above:=hC
  inj:=fun x y c h1 h2=>I.ok.inj x y c (hsub x c h1) (hsub y c h2)
  has:=hhas
  cab:=fun _ _ h=>nomatch h
  hd:=I.ok.hd
  frames:=I.ok.frames
  stk:=.inl rfl
  exf:=fun b hb=>by
    obtain ⟨o,e⟩:=ho b hb
    exact ⟨Nat.ne_of_lt (Nat.lt_of_lt_of_le (Heap.lt_size e) hC),fun x c z=>(hf b hb).2.2.2.2.1 x c (hsub x c z)⟩
  bs:=I.bs
  bsz:=Nat.le_trans I.ok.bsz I.sz
  noex:=fun b o e hb=>by
    rcases (hf b hb).2.2.2.1 with z | z
    · exact I.ok.noex b o e z
    · exact absurd (Nat.lt_of_lt_of_le (Nat.lt_of_lt_of_le (Heap.lt_size e) I.ok.bsz) z) (Nat.lt_irrefl _)
  exfs:=fun b hb hm=>by
    rcases List.mem_cons.mp (I.stkSub b hm) with z | z
    · exact (hf b hb).2.1 z
    · exact (hf b hb).2.2.1 z
  funs:=I.stack
  frf:=I.stkFree
theorem Un.withNew {fs ex:List Addr} {H H':Hp} {h h':Heap} {a:Addr} {o:HO} (u:Un fs ex H H' h h') (hn:h.get? a=none) (hH:H a=none):Un fs ex H (upd H' a o) h h' where
  keep:=u.keep
  slot:=u.slot
  free:=fun b ob q n hx=>by
    have:b≠a:=by rintro rfl;rw [hn] at q;cases q
    rw [upd_ne this];exact u.free b ob q n hx
  there:=u.there
  tups:=fun b xs q=>by rw [upd_ne (ne_of_none q hH)];exact u.tups b xs q
  frzs:=fun b ob xs q=>by rw [upd_ne (ne_of_none q hH)];exact u.frzs b ob xs q
  tbls:=fun b ps q=>by rw [upd_ne (ne_of_none q hH)];exact u.tbls b ps q
theorem HOk.withNew {P:Program} {w:World} {H:Hp} {h:Heap} {a:Addr} {o:HO} (x:HOk P w H h) (hH:H a=none) (new:ObjOk P w (upd H a o) h a o):HOk P w (upd H a o) h:=fun b u e=>by
  by_cases hb:b=a
  · subst hb;rw [upd_same] at e;cases e;exact new
  · rw [upd_ne hb] at e
    exact (x b u e).stay (fun _ _ _ q=>q) (fun c q=>by rw [upd_ne (ne_of_none q hH)];exact q) fun c xs q=>by rw [upd_ne (ne_of_none q hH)];exact q
theorem compLoop_any {prog:Program} {w:World} {A:Around} {R:Result->Shared->Prop} {elt tg iter:Expr} {ifs:List Expr} {scope:Scope} {pos:Pos} {it acc:Value} {env:Env} {s:Shared}
    (J:Nat->Shared->Prop)
    (turn:∀ n s,J n s->wpAny (model prog w) A (pyNext it) (fun r s1=>match r with
      | none=>R (.ok .next) s1
      | some v=>wpAny (model prog w) A (letOwnedTupleGo tg it v) (fun _ s2=>wpAny (model prog w) A (assign tg env v) (fun _ s3 =>
          wpAny (model prog w) A (forIn ifs true fun c r=>if r=true then do let ok <- isTrue c env (eval c env);pure (ForInStep.yield ok) else pure (ForInStep.yield r)) (fun ok s4 =>
            if ok=true then wpAny (model prog w) A (eval elt env) (fun x s5=>wpAny (model prog w) A (call (.builtin "list.append") [acc,x]) (fun _ s6=>∃ m,m < n/\J m s6) (fun _ _=>False) s5) (fun _ _=>False) s4
            else ∃ m,m < n/\J m s4) (fun _ _=>False) s3) (fun _ _=>False) s2) (fun _ _=>False) s1) (fun _ _=>False) s)
    (n:Nat) (h:J n s):codeAny (model prog w) A (.compLoop (.ListComp elt [⟨tg,iter,ifs,0⟩] scope pos) 0 it acc env) R s:=by
  refine codeAny_loop rfl J (fun k t hJ=>?_) n h
  show wpAny _ A ((compTurn (.ListComp elt [⟨tg,iter,ifs,0⟩] scope pos) 0 it acc env).onRaise _) _ _ t
  refine wpAny_noted ?_
  rw [compTurn_list]
  have ff:∀ {E':Value->Shared->Prop} (x:Value) (y:Shared),False->E' x y:=fun _ _ f=>f.elim
  refine wpAny_bind (wpAny_standAt (wpAny_bind (wpAny_mono (turn k t hJ) (fun r s1 h1=>?_) ff)))
  cases r with
  | none=>exact wpAny_pure h1
  | some v =>
    refine wpAny_bind (wpAny_mono h1 (fun _ s2 h2=>?_) ff)
    refine wpAny_bind (wpAny_mono h2 (fun _ s3 h3=>?_) ff)
    refine wpAny_bind (wpAny_mono h3 (fun ok s4 h4=>?_) ff)
    cases ok with
    | false=>exact wpAny_pure ⟨rfl,h4⟩
    | true =>
      refine wpAny_bind (wpAny_bind (wpAny_mono h4 (fun x s5 h5=>?_) ff))
      exact wpAny_bind (wpAny_mono h5 (fun _ s6 h6=>wpAny_pure (wpAny_pure ⟨rfl,h6⟩)) ff)
def PTs (X:Cx) (ifs:List Expr) (t:TT):Prop :=
  ∀ (pins:List (Addr×Obj)) (s:Shared) (σ:St) (H:Hp) (Q:Bool->Hp->Prop),Inv X pins σ H s->t σ H Q ->
    wpAny (model X.prog X.w) X.A (forIn ifs true fun c r=>if r=true then do let ok <- isTrue c X.env (eval c X.env);pure (ForInStep.yield ok) else pure (ForInStep.yield r)) (TP X pins σ Q) X.xe s
def tYes:TT:=fun _ H Q=>Q true H
theorem pts_nil {X:Cx}:PTs X [] tYes:=fun _ _ _ H _ I h=>wpAny_tests_nil ⟨H,I,h⟩
theorem pts_one {X:Cx} {c:Expr} {t:TT} (h:PT X c t):PTs X [c] t:=fun pins s σ H Q I hw=>wpAny_tests_one (h pins s σ H Q I hw)
def isCF:Option NameKind->Bool
  | some .cell=>true
  | some .free=>true
  | _=>false
theorem isCF_or {k:Option NameKind} (h:isCF k=true):k=some .cell\/k=some .free:=by
  cases k with
  | none=>cases h
  | some k=>cases k <;> first | exact .inl rfl | exact .inr rfl | cases h
def outOk (XN N:List Str) (n:Nat) (scope:Scope) (env:Env) (ix:List Nat):Bool :=
  (List.range ix.length).all fun j=>match ix[j]? with
    | some i=>(match XN[i]? with
      | some x=>(N[n+j]? == some x) && isCF ((relabel scope env).names.lookup x) && isCF (env.kindOf x)
      | none=>false)
    | none=>false
def freeOk (scope:Scope) (cells:List (Str×Addr)):Bool:=scope.names.all fun y=>if y.2 == .free then (cells.lookup y.1).isSome else true
def closOf (cells:List (Str×Addr)):List (Str×NameKind)->List (Str×Addr)->List (Str×Addr)
  | [],acc=>acc
  | (n,k)::r,acc=>closOf cells r (if k == .free then (match cells.lookup n with | some a=>(n,a)::acc | none=>acc) else acc)
theorem closureFor_eq {scope:Scope} {env:Env} (h:freeOk scope env.cells=true):closureFor scope env=pure (closOf env.cells scope.names []):=by
  unfold freeOk at h
  simp only [closureFor]
  generalize scope.names=ns at h
  generalize ([]:List (Str×Addr))=acc
  induction ns generalizing acc with
  | nil=>rfl
  | cons y r ih =>
    obtain ⟨n,k⟩:=y
    simp only [List.all_cons,Bool.and_eq_true] at h
    obtain ⟨h1,h2⟩:=h
    have ih':=fun acc=>ih h2 acc
    simp only [List.forIn_cons,closOf]
    by_cases hk:(k == NameKind.free)=true
    · simp only [hk,if_true] at h1 ⊢
      cases e:env.cells.lookup n with
      | none=>rw [e] at h1;cases h1
      | some a =>
        have ec:cellOf env n=pure a:=by unfold cellOf;rw [e]
        rw [ec]
        exact ih' _
    · simp only [hk,Bool.false_eq_true,if_false]
      exact ih' _
theorem closOf_sub {cells:List (Str×Addr)} {x:Str} {c:Addr}:∀ (ns:List (Str×NameKind)) (acc:List (Str×Addr)),(∀ y d,acc.lookup y=some d->cells.lookup y=some d) ->
    (closOf cells ns acc).lookup x=some c->cells.lookup x=some c
  | [],acc,ha,h=>ha x c h
  | (n,k)::r,acc,ha,h=>by
    unfold closOf at h
    refine closOf_sub r _ (fun y d hy=>?_) h
    split at hy
    · split at hy
      · rename_i a e
        rw [List.lookup_cons] at hy
        cases q:y == n with
        | true =>
          rw [q] at hy
          have:y=n:=by simpa using q
          subst this
          cases hy;exact e
        | false=>rw [q] at hy;exact ha y d hy
      · exact ha y d hy
    · exact ha y d hy
theorem closOf_acc {cells:List (Str×Addr)} {x:Str}:∀ (ns:List (Str×NameKind)) (acc:List (Str×Addr)),(acc.lookup x).isSome=true->((closOf cells ns acc).lookup x).isSome=true
  | [],_,h=>h
  | (n,k)::r,acc,h=>by
    unfold closOf
    refine closOf_acc r _ ?_
    split
    · split
      · rw [List.lookup_cons]
        split
        · rfl
        · exact h
      · exact h
    · exact h
theorem closOf_has {cells:List (Str×Addr)} {x:Str}:∀ (ns:List (Str×NameKind)) (acc:List (Str×Addr)),(x,NameKind.free)∈ns->(ns.all fun y=>if y.2 == .free then (cells.lookup y.1).isSome else true)=true ->
    ((closOf cells ns acc).lookup x).isSome=true
  | [],_,h,_=>by cases h
  | (n,k)::r,acc,h,ha=>by
    simp only [List.all_cons,Bool.and_eq_true] at ha
    unfold closOf
    rcases List.mem_cons.mp h with e | e
    · cases e
      refine closOf_acc r _ ?_
      have h1:=ha.1
      simp only [beq_self_eq_true,if_true] at h1 ⊢
      cases q:cells.lookup x with
      | none=>rw [q] at h1;cases h1
      | some a=>simp [List.lookup_cons]
    · exact closOf_has r _ e ha.2
theorem relabel_free {env:Env} {x:Str}:∀ {names:List (Str×NameKind)},(∀ y∈names,y.2≠.cell) ->
    isCF ((names.map fun (n,k)=>if (k == NameKind.free && env.scope.kind == .function && env.kindOf n == some .cell) then (n,NameKind.cell) else (n,k)).lookup x)=true->(x,NameKind.free)∈names
  | [],_,h=>by cases h
  | (n,k)::r,hc,h=>by
    have ih:=relabel_free (env:=env) (x:=x) (names:=r) (fun y hy=>hc y (List.mem_cons_of_mem _ hy))
    rw [List.map_cons] at h
    by_cases q:(x == n)=true
    · have e:x=n:=by simpa using q
      subst e
      by_cases hk:k=.free
      · subst hk;exact List.mem_cons_self
      · exfalso
        have h0:(k == NameKind.free)=false:=by simpa using hk
        simp only [h0,Bool.false_and,Bool.false_eq_true,if_false,List.lookup_cons,beq_self_eq_true] at h
        have hc':=hc (x,k) List.mem_cons_self
        cases k <;> first | exact absurd rfl hk | exact absurd rfl hc' | cases h
    · have q':(x == n)=false:=by simpa using q
      refine List.mem_cons_of_mem _ (ih ?_)
      by_cases hc2:(k == NameKind.free && env.scope.kind == .function && env.kindOf n == some .cell)=true
      · simp only [hc2,if_true,List.lookup_cons,q'] at h;exact h
      · simp only [hc2,Bool.false_eq_true,if_false,List.lookup_cons,q'] at h;exact h
def st0 (n:Nat) (ix:List Nat) (σ:St):St:=List.replicate n none++ix.map fun i=>(σ[i]?).getD none
def tComp (n:Nat) (ix:List Nat) (wi:TI) (g:TG) (tt:TT) (te:TE):TE:=fun σ H Q=>wi σ H fun J H1=>∃ W:Nat->Nat->List V->St->Hp->Prop,(∃ m,W 0 m [] (st0 n ix σ) H1) /\
  ∀ i m ys σ' H',W i m ys σ' H' ->
    (J.stop i H'/\ys.length<=sizeLine/\∀ l,H' l=none->Q (.ref l) (upd H' l (.lst ys))) \/
    (J.go i H'/\ys.length < sizeLine/\∀ x H2,J.yld i H' x H2->g x σ' H2 fun σ2 H3=>tt σ2 H3 fun b H4 =>
      if b=true then te σ2 H4 fun y H5=>∃ m',m' < m/\W (i+1) m' (ys++[y]) σ2 H5 else ∃ m',m' < m/\W (i+1) m' ys σ2 H4)
theorem st0_len (n:Nat) (ix:List Nat) (σ:St):(st0 n ix σ).length=n+ix.length:=by simp [st0]
theorem st0_get {n:Nat} {ix:List Nat} {σ:St} {i:Nat} {v:V} (h:(st0 n ix σ)[i]?=some (some v)):∃ j k,i=n+j/\ix[j]?=some k/\σ[k]?=some (some v):=by
  unfold st0 at h
  by_cases hi:i < n
  · rw [List.getElem?_append_left (by simpa using hi),List.getElem?_replicate] at h
    split at h <;> cases h
  · rw [List.getElem?_append_right (by simpa using hi),List.getElem?_map] at h
    simp only [List.length_replicate] at h
    cases e:ix[i - n]? with
    | none=>rw [e] at h;cases h
    | some k =>
      rw [e] at h
      simp only [Option.map_some] at h
      refine ⟨i - n,k,by omega,e,?_⟩
      cases q:σ[k]? with
      | none=>rw [q] at h;cases h
      | some w=>rw [q] at h;simpa using h
abbrev lobj (its:List Value) (k:Nat):Obj:={ cls:=.type "list",data:=.seq its.toArray k }
theorem comp_start {acc:Addr} {n:Nat} {ix:List Nat} {h1:Heap} {m0:Str->Option Value} {t1:Nat} (I:Inv X pins σ H s) (ok:(cxComp X N scope cl C s H fp).Ok)
    (hsub:∀ x c,cl.lookup x=some c->X.env.cells.lookup x=some c) (hhas:∀ x,(x,NameKind.free)∈scope.names->∃ c,cl.lookup x=some c) (hcell:∀ y∈scope.names,y.2≠.cell)
    (hNl:N.length=n+ix.length) (hout:outOk X.N N n scope X.env ix=true)
    (hacc:acc=s.heap.objs.size) (hC:C=s.heap.objs.size+1) (hk:∀ b o,s.heap.get? b=some o->h1.get? b=some o) (ha:h1.get? acc=some (lobj [] 0)) (hn:h1.Ns C m0) :
    Inv (cxComp X N scope cl C s H fp) [(acc,lobj [] 0)] (st0 n ix σ) H { s with heap:=h1,toks:=t1 }:=by
  subst hacc
  subst hC
  have frA:H s.heap.objs.size=none:=I.hok.fresh (Nat.le_refl _)
  have frC:H (s.heap.objs.size+1)=none:=I.hok.fresh (Nat.le_succ _)
  refine ⟨ok,rfl,I.bare,Un.kept hk,⟨m0,hn,fun i x v e1 e2 _=>?_⟩,fun x c e=>?_,frC,fun x c e=>I.freeC x c (hsub x c e),fun p hp=>?_,I.hok.kept hk,?_⟩
  · obtain ⟨j,k,rfl,e3,e4⟩:=st0_get e2
    unfold outOk at hout
    have hj:j < ix.length:=(List.getElem?_eq_some_iff.mp e3).1
    have q:=List.all_eq_true.mp hout j (List.mem_range.mpr hj)
    simp only [e3] at q
    cases e5:X.N[k]? with
    | none=>rw [e5] at q;cases q
    | some y =>
      rw [e5] at q
      simp only [Bool.and_eq_true,beq_iff_eq] at q
      obtain ⟨⟨q1,q2⟩,q3⟩:=q
      have exy:x=y:=by
        have e1':N[n+j]?=some x:=e1
        rw [e1'] at q1;exact Option.some.inj q1
      subst exy
      obtain ⟨m,hm,hl⟩:=I.loc
      have hv:Vis X.env.scope x:=by
        rcases isCF_or q3 with z | z
        · exact .inr (.inl z)
        · exact .inr (.inr z)
      obtain ⟨u,ru,lk⟩:=hl k x v e5 e4 hv
      refine ⟨u,ru,.inr ⟨isCF_or q2,?_⟩⟩
      have hfree:=relabel_free hcell q2
      obtain ⟨c,hc⟩:=hhas x hfree
      refine ⟨c,hc,?_⟩
      rcases lk with ⟨k1,_⟩ | ⟨_,c',e6,z⟩
      · rcases isCF_or q3 with w | w <;> (rw [w] at k1;cases k1)
      · have:=hsub x c hc
        rw [e6] at this;cases this
        obtain ⟨oc,ho,hd⟩:=z
        exact ⟨oc,hk _ _ ho,hd⟩
  · obtain ⟨v,oc,ho,hd⟩:=I.cell x c (hsub x c e)
    exact ⟨v,oc,hk _ _ ho,hd⟩
  · have:p=(s.heap.objs.size,lobj [] 0):=by simpa [cxComp] using hp
    subst this
    refine ⟨ha,frA,Nat.ne_of_lt (Nat.lt_succ_self _),fun hb=>?_,fun v z=>by cases z⟩
    have hb':s.heap.objs.size∈frs X.stack:=hb
    rcases List.mem_cons.mp (I.stkSub _ hb') with z | z
    · exact absurd I.lt (by rw [<- z];exact Nat.lt_irrefl _)
    · exact I.nofs (Nat.le_refl _) z
  · rw [st0_len];exact hNl.symm
theorem comp_end {acc:Addr} {σ':St} {H':Hp} {s':Shared} {its:List Value} {k:Nat} {ys:List V} (I:Inv X pins σ H s) (J:Inv (cxComp X N scope cl C s H fp) [(acc,lobj its k)] σ' H' s')
    (hf:∀ b∈fp,FpOk X pins H b) (hacc:acc=s.heap.objs.size) (rv:Vals ys its) (hl:ys.length<=sizeLine):H' acc=none/\Inv X pins σ (upd H' acc (.lst ys)) s':=by
  obtain ⟨e,n,_,_,_⟩:=J.pin (acc,lobj its k) (List.mem_append_right _ (by simp))
  refine ⟨n,?_⟩
  subst hacc
  have hn:s.heap.get? s.heap.objs.size=none:=Heap.get?_none_of_le (Nat.le_refl _)
  refine I.call' (ch:=fp) J.os (Un.withNew J.base hn (I.hok.fresh (Nat.le_refl _))) (HOk.withNew J.hok n ⟨hl,its,k,rv,e⟩) J.bare fun b hb=>?_
  obtain ⟨f0,f1,f2,f3,f4,f5⟩:=hf b hb
  exact ⟨f3,f1,f4,f5⟩
theorem comp_block {it acc:Addr} {tn:Nat->Heap->Prop} {J:It} {elt tg iter:Expr} {ifs:List Expr} {pos:Pos} {g:TG} {tt:TT} {te:TE} {Q:VK} {s4:Shared} (hc:X.calm=true)
    (I:Inv X pins σ H s) (T:Turn X.prog X.w X.K tg J fp it tn) (hf:∀ b∈fp,FpOk X pins H b) (ho:∀ b∈fp,∃ o,s.heap.get? b=some o) (hacc:acc=s.heap.objs.size) (hC:C=s.heap.objs.size+1)
    (hg:PG (cxComp X N scope cl C s H fp) tg g) (ht:PTs (cxComp X N scope cl C s H fp) ifs tt) (he:PE (cxComp X N scope cl C s H fp) elt te)
    (W:Nat->Nat->List V->St->Hp->Prop) (hW:∀ i m ys σ' H',W i m ys σ' H' ->
      (J.stop i H'/\ys.length<=sizeLine/\∀ l,H' l=none->Q (.ref l) (upd H' l (.lst ys))) \/
      (J.go i H'/\ys.length < sizeLine/\∀ x H2,J.yld i H' x H2->g x σ' H2 fun σ2 H3=>tt σ2 H3 fun b H4 =>
        if b=true then te σ2 H4 fun y H5=>∃ m',m' < m/\W (i+1) m' (ys++[y]) σ2 H5 else ∃ m',m' < m/\W (i+1) m' ys σ2 H4))
    (m:Nat) (h0:∃ σ0,Inv (cxComp X N scope cl C s H fp) [(acc,lobj [] 0)] σ0 H s4/\W 0 m [] σ0 H) (st:tn 0 s4.heap) :
    codeAny (model X.prog X.w) X.A (.compLoop (.ListComp elt [⟨tg,iter,ifs,0⟩] scope pos) 0 (.ref it) (.ref acc) (compEnvC scope cl C X.env))
      (fun r s'=>r=.ok .next/\∃ H',H' C=none/\(∃ m',s'.heap.Ns C m')/\Inv X pins σ H' s'/\Q (.ref acc) H') s4:=by
  have ff:∀ {E':Value->Shared->Prop} (x:Value) (y:Shared),False->E' x y:=fun _ _ f=>f.elim
  obtain ⟨σ0,I0,w0⟩:=h0
  have accle:s.heap.objs.size<=acc:=by rw [hacc];exact Nat.le_refl _
  have nC:C≠acc:=by rw [hC,hacc];exact Nat.ne_of_gt (Nat.lt_succ_self _)
  have accfp:acc∉fp:=fun hb=>by
    obtain ⟨o,e⟩:=ho acc hb
    exact absurd (Nat.lt_of_lt_of_le (Heap.lt_size e) accle) (Nat.lt_irrefl _)
  have xfp:∀ {its:List Value} {k:Nat} {H':Hp},(∀ b∈fp,H' b=none)->∀ b∈fp,FpOk (cxComp X N scope cl C s H fp) [(acc,lobj its k)] H' b:=fun {its k H'} hn b hb =>
    ⟨hn b hb,(I0.ok.exf b hb).1,I0.ok.exfs b hb,.inl hb,(I0.ok.exf b hb).2,fun p hm=>by
      have hm':p=(acc,lobj its k):=by simpa [cxComp] using hm
      subst hm'
      intro z
      exact accfp (by rw [show acc=b from z];exact hb)⟩
  refine compLoop_any (fun n s'=>∃ i ys its k σ' H',Inv (cxComp X N scope cl C s H fp) [(acc,lobj its k)] σ' H' s'/\tn i s'.heap/\(∀ b∈fp,H' b=none)/\Vals ys its/\W i n ys σ' H') ?_ m
    ⟨0,[],[],0,σ0,H,I0,st,fun b hb=>(hf b hb).1,.nil,w0⟩
  rintro n s5 ⟨i,ys,its,k,σ5,H5,I5,st5,fr5,rv,w5⟩
  rcases hW i n ys σ5 H5 w5 with ⟨stop,hl,q⟩ | ⟨go,hl,step⟩
  · refine thn (T.done (cxComp X N scope cl C s H fp) rfl rfl rfl hc i _ s5 σ5 H5 _ I5 (xfp fr5) st5 stop) fun r s6 ⟨hr,I6⟩=>?_
    subst hr
    obtain ⟨n6,J6⟩:=comp_end I I6 hf hacc rv hl
    obtain ⟨m6,hm6,_⟩:=I6.loc
    exact ⟨rfl,_,(by rw [upd_ne nC];exact I6.free),⟨m6,hm6⟩,J6,q acc n6⟩
  · refine thn (T.item (cxComp X N scope cl C s H fp) rfl rfl rfl hc i _ s5 σ5 H5 _ I5 (xfp fr5) st5 go) fun r s6 ⟨u,hr,h6⟩=>?_
    subst hr
    refine thn h6 fun _ s7 ⟨x,H7,I7,r7,y7,st7,fr7⟩=>?_
    have I7':=I7.pinned (xfp fr7) (T.obj _ _ st7)
    refine thn (hg _ s7 σ5 H7 x u _ I7' r7 (step x H7 y7)) fun _ s8 ⟨σ8,H8,I8,q8⟩=>?_
    refine thn (ht _ s8 σ8 H8 _ I8 q8) fun ok s9 ⟨H9,I9,q9⟩=>?_
    have back:∀ {H':Hp} {s':Shared},Inv (cxComp X N scope cl C s H fp) ([(acc,lobj its k)]++pinsAt fp s7.heap) σ8 H' s'->tn (i+1) s'.heap/\∀ b∈fp,H' b=none:=fun {H' s'} I' =>
      ⟨T.keep _ _ _ st7 fun b hb o e=>(I'.pin (b,o) (List.mem_append_right _ (List.mem_append_right _ (mem_pinsAt hb e)))).1,fun b hb=>by
        obtain ⟨o,e,d⟩:=T.obj _ _ st7 b hb
        exact (I'.pin (b,o) (List.mem_append_right _ (List.mem_append_right _ (mem_pinsAt hb e)))).2.1⟩
    cases ok with
    | false =>
      rw [if_neg Bool.false_ne_true] at q9
      rw [if_neg Bool.false_ne_true]
      obtain ⟨m',hm,w'⟩:=q9
      exact ⟨m',hm,i+1,ys,its,k,σ8,H9,I9.unpinned,(back I9).1,(back I9).2,rv,w'⟩
    | true =>
      rw [if_pos rfl] at q9
      rw [if_pos rfl]
      refine thn (he _ s9 σ8 H9 _ I9 q9) fun y s10 ⟨v,H10,I10,r10,q10⟩=>?_
      obtain ⟨m',hm,w'⟩:=q10
      obtain ⟨b1,b2⟩:=back I10
      have J10:=I10.unpinned
      obtain ⟨ea,na,nL,nF,nD⟩:=J10.pin (acc,lobj its k) (List.mem_append_right _ (by simp))
      have hsz:its.toArray.size<=sizeLine:=by
        have:=rv.length
        simp only [List.size_toArray];omega
      refine wpAny_list_append_plain (hsz:=hsz) ⟨k,ea⟩ fun h' ⟨k',e'⟩ sb=>?_
      have hpu:its.toArray.push y=(its++[y]).toArray:=by simp
      rw [hpu] at e'
      refine ⟨m',hm,i+1,ys++[v],its++[y],k',σ8,H10,?_,T.keep _ _ _ b1 fun b hb o e=>(sb.2 b (fun z=>accfp (z ▸ hb))).trans e,b2,rv.append (.cons r10 .nil),w'⟩
      have J11:Inv (cxComp X N scope cl C s H fp) [] σ8 H10 s10:=J10.pins_of fun p hp=>absurd hp (by simp)
      have J12:Inv (cxComp X N scope cl C s H fp) [] σ8 H10 { s10 with heap:=h' }:=J11.turned (t':=s10.toks) (it:=acc) (fun b o hb e=>(sb.2 b hb).trans e) na nL
        (.inr accle) (fun x c e z=>by
          obtain ⟨w1,oc,hoc,hd⟩:=J10.cell x c e
          have:s10.heap.get? acc=some oc:=by rw [<- z];exact hoc
          rw [ea] at this;cases this;cases hd) (fun p hp=>absurd (show p∈([]:List (Addr×Obj))++[] from hp) (by simp))
      refine J12.pins_of fun p hp=>?_
      have:p=(acc,lobj (its++[y]) k'):=by simpa using hp
      subst this
      exact ⟨e',na,nL,nF,fun v z=>by cases z⟩
theorem sub_of (cells:List (Str×Addr)) (ns:List (Str×NameKind)):∀ x c,(closOf cells ns []).lookup x=some c->cells.lookup x=some c:=fun _ _ h=>closOf_sub ns [] (fun _ _ z=>by cases z) h
theorem comp_any {elt tg iter:Expr} {ifs:List Expr} {pos p2:Pos} {n:Nat} {ix:List Nat} {wi:TI} {g:TG} {tt:TT} {te:TE} {Q:VK} {use:Option (Value->Sem Unit)} {R:Value->Shared->Prop}
    (hc:X.calm=true) (hi:PI X tg iter wi)
    (hg:∀ cl C s H fp,PG (cxComp X N scope cl C s H fp) tg g) (ht:∀ cl C s H fp,PTs (cxComp X N scope cl C s H fp) ifs tt) (he:∀ cl C s H fp,PE (cxComp X N scope cl C s H fp) elt te)
    (hk:scope.kind=.function) (hcell:(scope.names.all fun y=>!(y.2 == .cell))=true) (hnames:(scope.names.all fun y=>!(y.2 == .local) || (scope.names.lookup y.1 == some .local))=true)
    (hNl:N.length=n+ix.length) (hout:outOk X.N N n scope X.env ix=true) (hfree:freeOk scope X.env.cells=true) (hs:∀ x,foldedSetIterable iter X.env x=pure x)
    (I:Inv X pins σ H s) (h:tComp n ix wi g tt te σ H Q)
    (fin:∀ acc C s',(∃ H',H' C=none/\C≠X.env.locals/\X.s₀.heap.objs.size<=C/\(∀ x c,X.env.cells.lookup x=some c->c≠C)/\(∀ p∈X.pn++pins,p.1≠C)/\(∃ m',s'.heap.Ns C m')/\Inv X pins σ H' s'/\Q (.ref acc) H') ->
      compPost (model X.prog X.w) X.A X.xe use R (.ref acc) C (.ok .next) s') :
    wpAny (model X.prog X.w) X.A (comprehension (.ListComp elt [⟨tg,iter,ifs,0⟩] scope pos) scope X.env p2 (newList []) false (eval iter X.env) use) R X.xe s:=by
  have hcell':∀ y∈scope.names,y.2≠.cell:=fun y hy z=>by
    have:=List.all_eq_true.mp hcell y hy
    rw [z] at this;cases this
  have hnames':∀ y∈scope.names,y.2=.local->scope.names.lookup y.1=some .local:=fun y hy z=>by
    have:=List.all_eq_true.mp hnames y hy
    rw [z] at this
    simpa using this
  refine wpAny_comprehension_free (use:=use) rfl hs (closureFor_eq hfree) hk hnames' (thn (hi pins s σ H _ I h) fun v s1 h1=>thn h1 fun itv s2 h2=>?_)
  obtain ⟨it,fp,tn,J,H2,e,I2,T,st2,f2,W,⟨m,w0⟩,hW⟩:=h2
  subst e
  have ho:∀ b∈fp,∃ o,s2.heap.get? b=some o:=fun b hb=>let ⟨o,e,_⟩:=T.obj _ _ st2 b hb;⟨o,e⟩
  refine wpAny_newObj_type (wpAny_newFunctionEnv hcell' (by intro y hy;simp at hy) (fun h1 hns hsb=>?_) hk)
  dsimp only at hns hsb ⊢
  generalize hG:s2.heap.push { cls:=.type "list",dict:=none,data:=.seq ([]:List Value).toArray }=G at hns hsb ⊢
  have hCs:G.objs.size=s2.heap.objs.size+1:=by rw [<- hG,Heap.size_push]
  have keep:∀ b o,s2.heap.get? b=some o->h1.get? b=some o:=fun b o e=>hsb.extBut b o (Nat.ne_of_lt (by rw [hCs];exact Nat.lt_succ_of_lt (Heap.lt_size e))) (Heap.get?_push_of_some _ (hG ▸ Heap.get?_push_of_some _ e))
  have hac:h1.get? s2.heap.objs.size=some (lobj [] 0):=hsb.extBut _ _ (Nat.ne_of_lt (by rw [hCs];exact Nat.lt_succ_self _)) (Heap.get?_push_of_some _ (hG ▸ Heap.get?_push_size _ rfl))
  have sub:=sub_of X.env.cells scope.names
  have has:∀ x,(x,NameKind.free)∈scope.names->∃ c,(closOf X.env.cells scope.names []).lookup x=some c:=fun x hx=>Option.isSome_iff_exists.mp (closOf_has scope.names [] hx hfree)
  have ok:(cxComp X N scope (closOf X.env.cells scope.names []) G.objs.size s2 H2 fp).Ok:=cxComp_ok I2 hk (by rw [hCs];exact Nat.le_succ _) f2 ho sub fun x hx=>has x (relabel_free hcell' (by
    rcases hx with z | z <;> (have z':=z;unfold relabel at z';simp only at z';rw [z'];rfl)))
  have I4:=comp_start (t1:=s2.toks+([]:List (Str×Value)).length) I2 ok sub has hcell' hNl hout rfl hCs keep hac hns
  have st4:tn 0 h1:=T.keep _ _ _ st2 fun b hb o e=>keep b o e
  have loop:=comp_block (pos:=pos) (iter:=iter) (Q:=Q) (s4:={ s2 with heap:=h1,toks:=s2.toks+([]:List (Str×Value)).length }) hc I2 T f2 ho rfl hCs (hg _ _ _ _ _) (ht _ _ _ _ _) (he _ _ _ _ _) W hW m ⟨_,I4,w0⟩ st4
  have loop':=codeAny_mono loop (R':=compPost (model X.prog X.w) X.A X.xe use R (.ref s2.heap.objs.size) G.objs.size) fun r s' ⟨hr,H',q1,q2,q3,q4⟩=>by
    subst hr
    refine fin _ _ s' ⟨H',q1,?_,?_,?_,?_,q2,q3,q4⟩
    · intro z
      have:=I2.lt
      rw [<- z,hCs] at this
      exact absurd this (Nat.not_lt.mpr (Nat.le_succ _))
    · rw [hCs];exact Nat.le_succ_of_le I2.sz
    · intro x c e z
      obtain ⟨w1,oc,hoc,_⟩:=I2.cell x c e
      have:=Heap.lt_size hoc
      rw [z,hCs] at this
      exact absurd this (Nat.not_lt.mpr (Nat.le_succ _))
    · intro p hp z
      have:=Heap.lt_size (I2.pin p hp).1
      rw [z,hCs] at this
      exact absurd this (Nat.not_lt.mpr (Nat.le_succ _))
  exact codeAny_compStart_list loop' (T.self _ 0 _ _ _ st4 loop')
theorem pe_comp {elt tg iter:Expr} {ifs:List Expr} {pos:Pos} (N:List Str) (n:Nat) (ix:List Nat) {wi:TI} {g:TG} {tt:TT} {te:TE} (hc:X.calm=true) (hi:PI X tg iter wi)
    (hg:∀ cl C s H fp,PG (cxComp X N scope cl C s H fp) tg g) (ht:∀ cl C s H fp,PTs (cxComp X N scope cl C s H fp) ifs tt) (he:∀ cl C s H fp,PE (cxComp X N scope cl C s H fp) elt te)
    (hk:scope.kind=.function:=by rfl) (hcell:(scope.names.all fun y=>!(y.2 == .cell))=true:=by rfl) (hnames:(scope.names.all fun y=>!(y.2 == .local) || (scope.names.lookup y.1 == some .local))=true:=by rfl)
    (hNl:N.length=n+ix.length:=by rfl) (hout:outOk X.N N n scope X.env ix=true:=by rfl) (hfree:freeOk scope X.env.cells=true:=by rfl) (hs:∀ x,foldedSetIterable iter X.env x=pure x:=by intro _;rfl) :
    PE X (.ListComp elt [⟨tg,iter,ifs,0⟩] scope pos) (tComp n ix wi g tt te):=by
  intro pins s σ H Q I h
  rw [eval_ListComp]
  refine comp_any (use:=none) hc hi hg ht he hk hcell hnames hNl hout hfree hs I h ?_
  rintro acc C s' ⟨H',q1,q2,q3,q4,q5,⟨m',q6⟩,q7,q8⟩
  exact ⟨m',q6,fun h' sb=>⟨.ref acc,H',q7.turned (t':=s'.toks) (fun b o hb e=>(sb.2 b hb).trans e) q1 q2 (.inr q3) q4 q5,rfl,q8⟩⟩
theorem ps_setC {i:Nat} {x:Str} {pos' sp:Pos} {elt tg iter:Expr} {ifs:List Expr} {pos:Pos} (N:List Str) (n:Nat) (ix:List Nat) {wi:TI} {g:TG} {tt:TT} {te:TE} (hN:X.N.Nodup) (hx0:X.N[i]?=some x) (hx:Loc X.env.scope x)
    (hc:X.calm=true) (hi:PI X tg iter wi)
    (hg:∀ cl C s H fp,PG (cxComp X N scope cl C s H fp) tg g) (ht:∀ cl C s H fp,PTs (cxComp X N scope cl C s H fp) ifs tt) (he:∀ cl C s H fp,PE (cxComp X N scope cl C s H fp) elt te)
    (hsw:swapsWith (.ListComp elt [⟨tg,iter,ifs,0⟩] scope pos) (some (.Name x pos')) sp.line X.env=pure true:=by rfl)
    (hk:scope.kind=.function:=by rfl) (hcell:(scope.names.all fun y=>!(y.2 == .cell))=true:=by rfl) (hnames:(scope.names.all fun y=>!(y.2 == .local) || (scope.names.lookup y.1 == some .local))=true:=by rfl)
    (hNl:N.length=n+ix.length:=by rfl) (hout:outOk X.N N n scope X.env ix=true:=by rfl) (hfree:freeOk scope X.env.cells=true:=by rfl) (hs:∀ x,foldedSetIterable iter X.env x=pure x:=by intro _;rfl)
    (hf:X.fn x=true\/X.env.scope.names.lookup x=some .local:=by first | exact .inl rfl | exact .inr rfl | assumption) :
    PS X (.Assign [.Name x pos'] (.ListComp elt [⟨tg,iter,ifs,0⟩] scope pos) sp) (tAsg (tComp n ix wi g tt te) (gName i)):=by
  intro pins s σ H D I h
  rw [exec_Assign_Name_used _ _ _ _ hsw]
  refine wpAny_bind (wpAny_standAt (wpAny_bind ?_))
  show wpAny _ X.A (do let _ <- comprehension (.ListComp elt [⟨tg,iter,ifs,0⟩] scope pos) scope X.env _ (newList []) false (eval iter X.env) (some (assign (.Name x pos') X.env))) _ _ s
  refine wpAny_bind (thn (comp_any (use:=some (assign (.Name x pos') X.env)) (R:=fun _ s'=>SP X pins D .next s') hc hi hg ht he hk hcell hnames hNl hout hfree hs I h ?_) fun _ s' q=>wpAny_pure (wpAny_pure q))
  rintro acc C s' ⟨H',q1,q2,q3,q4,q5,⟨m',q6⟩,q7,q8⟩
  show wpAny _ X.A (assign (.Name x pos') X.env (.ref acc)) _ _ s'
  refine wpAny_assign_Name (store_ok2 q7 hN hx0 hx (v:=.ref acc) rfl (fun s2 I2 ⟨a,sb,ha⟩=>?_) hf)
  have naC:C≠a:=by
    rcases ha with rfl | ha
    · exact q2
    · exact fun z=>q4 _ _ ha z.symm
  exact ⟨m',q6.sameBut sb naC,fun h' sb'=>⟨_,H',I2.turned (t':=s2.toks) (fun b o hb e=>(sb'.2 b hb).trans e) q1 q2 (.inr q3) q4 q5,q8⟩⟩
end
end L2

namespace L2
open PySem PySem.Spec PyProof.Rows
inductive D where
  | non | bl (b:Bool) | int (i:Int) | str (x:Str) | tup (ds:List D) | lst (ds:List D)
    | scr (ns:List Int)
    | dcK (ks:List Key) (ds:List D)
  | dcT (ks:List (List Key)) (ds:List D)
    | dcF (ks:List (List Key)) (ds:List D)
mutual
def Rep (K:PySem.W.Frag) (H:Hp):D->V->Prop
  | .non,v=>v=.non
  | .bl b,v=>v=.bl b
  | .int i,v=>v=.int i
  | .str x,v=>v=.str x
  | .tup ds,v=>∃ a vs,v=.ref a/\H a=some (.tup vs)/\Reps K H ds vs
  | .lst ds,v=>∃ a vs,v=.ref a/\H a=some (.lst vs)/\Reps K H ds vs
  | .scr ns,v=>∃ a,v=.ref a/\SqL K H a (ns.map V.int)
  | .dcK ks ds,v=>∃ a kvs,v=.ref a/\H a=some (.dK kvs)/\kvs.map (·.1)=ks/\Reps K H ds (kvs.map (·.2))
  | .dcT ks ds,v=>∃ a kvs,v=.ref a/\H a=some (.dT kvs)/\kvs.map (·.1)=ks/\Reps K H ds (kvs.map (·.2))
  | .dcF ks ds,v=>∃ a o kvs,v=.ref a/\H a=some (.frz o (.dT kvs))/\kvs.map (·.1)=ks/\Reps K H ds (kvs.map (·.2))
def Reps (K:PySem.W.Frag) (H:Hp):List D->List V->Prop
  | [],vs=>vs=[]
  | d::ds,vs=>∃ v r,vs=v::r/\Rep K H d v/\Reps K H ds r
end
theorem Same.seqT {K:PySem.W.Frag} {H H':Hp} {a:Addr} {xs:List V} (e:Same H H') (h:SqT K H a xs):SqT K H' a xs:=by
  rcases h with (h | ⟨o,h⟩) | h
  · exact .inl (.inl (e _ _ h))
  · exact .inl (.inr ⟨o,e _ _ h⟩)
  · exact .inr h
theorem Same.new {H:Hp} {a:Addr} {o:HO} (h:H a=none):Same H (upd H a o):=fun b u e=>by rw [upd_ne (ne_of_none e h)];exact e
mutual
theorem Rep.mono {K:PySem.W.Frag} {H H':Hp} (s:Same H H'):∀ (d:D) (v:V),Rep K H d v->Rep K H' d v
  | .non,_,h=>h
  | .bl _,_,h=>h
  | .int _,_,h=>h
  | .str _,_,h=>h
  | .tup ds,_,⟨a,vs,e,h,r⟩=>⟨a,vs,e,s _ _ h,Reps.mono s ds vs r⟩
  | .lst ds,_,⟨a,vs,e,h,r⟩=>⟨a,vs,e,s _ _ h,Reps.mono s ds vs r⟩
  | .scr _,_,⟨a,e,h⟩=>⟨a,e,s.seq h⟩
  | .dcK _ ds,_,⟨a,kvs,e,h,k,r⟩=>⟨a,kvs,e,s _ _ h,k,Reps.mono s ds _ r⟩
  | .dcT _ ds,_,⟨a,kvs,e,h,k,r⟩=>⟨a,kvs,e,s _ _ h,k,Reps.mono s ds _ r⟩
  | .dcF _ ds,_,⟨a,o,kvs,e,h,k,r⟩=>⟨a,o,kvs,e,s _ _ h,k,Reps.mono s ds _ r⟩
theorem Reps.mono {K:PySem.W.Frag} {H H':Hp} (s:Same H H'):∀ (ds:List D) (vs:List V),Reps K H ds vs->Reps K H' ds vs
  | [],_,h=>h
  | d::ds,_,⟨v,r,e,h,t⟩=>⟨v,r,e,Rep.mono s d v h,Reps.mono s ds r t⟩
end
section
variable {K:PySem.W.Frag} {H:Hp}
theorem Reps.length:∀ {ds:List D} {vs:List V},Reps K H ds vs->vs.length=ds.length
  | [],_,h=>by rw [show _=_ from h];rfl
  | _::ds,_,⟨v,r,e,_,t⟩=>by rw [e,List.length_cons,List.length_cons,Reps.length t]
theorem Reps.get:∀ {ds:List D} {vs:List V} {i:Nat} {d:D},Reps K H ds vs->ds[i]?=some d->∃ v,vs[i]?=some v/\Rep K H d v
  | [],_,_,_,_,e=>by simp at e
  | _::_,_,0,_,⟨v,r,e,h,_⟩,q=>by
    simp only [List.getElem?_cons_zero,Option.some.injEq] at q
    subst q;subst e;exact ⟨v,rfl,h⟩
  | _::ds,_,i+1,d,⟨v,r,e,_,t⟩,q=>by
    subst e
    obtain ⟨u,h1,h2⟩:=Reps.get (ds:=ds) (i:=i) t (by simpa using q)
    exact ⟨u,by simpa using h1,h2⟩
theorem Reps.append:∀ {ds es:List D} {vs us:List V},Reps K H ds vs->Reps K H es us->Reps K H (ds++es) (vs++us)
  | [],_,_,_,h,k=>by rw [show _=_ from h];exact k
  | _::ds,_,_,_,⟨v,r,e,h,t⟩,k=>by subst e;exact ⟨v,_,rfl,h,Reps.append t k⟩
theorem Reps.take:∀ {ds:List D} {vs:List V} (n:Nat),Reps K H ds vs->Reps K H (ds.take n) (vs.take n)
  | _,_,0,_=>by simp [Reps]
  | [],_,_+1,h=>by rw [show _=_ from h];simp [Reps]
  | _::ds,_,n+1,⟨v,r,e,h,t⟩=>by subst e;exact ⟨v,_,rfl,h,Reps.take n t⟩
theorem Reps.drop:∀ {ds:List D} {vs:List V} (n:Nat),Reps K H ds vs->Reps K H (ds.drop n) (vs.drop n)
  | _,_,0,h=>h
  | [],_,_+1,h=>by rw [show _=_ from h];simp [Reps]
  | _::ds,_,n+1,⟨v,r,e,_,t⟩=>by subst e;exact Reps.drop n t
theorem Reps.set {d:D} {v:V} (hr:Rep K H d v):∀ {ds:List D} {vs:List V} (i:Nat),Reps K H ds vs->Reps K H (ds.set i d) (vs.set i v)
  | [],_,_,h=>by rw [show _=_ from h];simp [Reps]
  | _::ds,_,0,⟨w,r,e,_,t⟩=>by subst e;exact ⟨v,_,rfl,hr,t⟩
  | _::ds,_,i+1,⟨w,r,e,h,t⟩=>by subst e;exact ⟨w,_,rfl,h,Reps.set hr i t⟩
theorem Reps.one {d:D} {v:V} (h:Rep K H d v):Reps K H [d] [v]:=⟨v,[],rfl,h,rfl⟩
theorem Reps.ints:∀ {is:List Int} {vs:List V},Reps K H (is.map D.int) vs->vs=is.map V.int
  | [],_,h=>h
  | i::is,_,⟨v,r,e,h,t⟩=>by
    have:v=.int i:=h
    subst this;subst e;rw [List.map_cons,Reps.ints t]
theorem reps_ints:∀ (is:List Int),Reps K H (is.map D.int) (is.map V.int)
  | []=>rfl
  | i::is=>⟨_,_,rfl,rfl,reps_ints is⟩
end
inductive Cl where
  | val (d:D)
  | own (d:D)
abbrev VEnv:=List (Option D)
abbrev DEnv:=List (Option Cl)
def allV (ρ:DEnv):VEnv:=ρ.map fun c=>match c with
  | some (.val d)=>some d
  | some (.own d)=>some d
  | none=>none
def valV' (ρ:DEnv):VEnv:=ρ.map fun c=>match c with
  | some (.val d)=>some d
  | _=>none
def mask (O:List Addr) (H:Hp):Hp:=fun a=>if a∈O then none else H a
section
variable {O:List Addr} {H H':Hp}
theorem mask_sub:Same (mask O H) H:=fun a o h=>by
  unfold mask at h
  split at h
  · cases h
  · exact h
theorem mask_same (s:Same H H'):Same (mask O H) (mask O H'):=fun a o h=>by
  unfold mask at h ⊢
  split at h
  · cases h
  · rename_i hn;rw [if_neg hn];exact s a o h
theorem mask_nil:mask [] H=H:=by funext a;unfold mask;rw [if_neg (by simp)]
theorem mask_out {a:Addr} (h:a∉O):mask O H a=H a:=by unfold mask;rw [if_neg h]
theorem mask_in {a:Addr} (h:a∈O):mask O H a=none:=by unfold mask;rw [if_pos h]
def isMut:HO->Prop
  | .lst _=>True
  | .dK _=>True
  | .dT _=>True
  | _=>False
def There (O:List Addr) (H:Hp):Prop:=∀ a∈O,∃ o,H a=some o/\isMut o
theorem There.mono (t:There O H) (s:Same H H'):There O H':=fun a h=>let ⟨o,e,m⟩:=t a h;⟨o,s _ _ e,m⟩
theorem There.fresh (t:There O H) {a:Addr} (h:H a=none):a∉O:=fun m=>by obtain ⟨o,e,_⟩:=t a m;rw [h] at e;cases e
end
structure RV (K:PySem.W.Frag) (O:List Addr) (H:Hp) (ρ:VEnv) (σ:St):Prop where
  th:There O H
  at_:∀ (i:Nat) (d:D),ρ[i]?=some (some d)->∃ v,σ[i]?=some (some v)/\Rep K (mask O H) d v
theorem RV.mono {K:PySem.W.Frag} {O:List Addr} {H H':Hp} {ρ:VEnv} {σ:St} (r:RV K O H ρ σ) (s:Same H H'):RV K O H' ρ σ :=
  ⟨r.th.mono s,fun i d e=>let ⟨v,h1,h2⟩:=r.at_ i d e;⟨v,h1,Rep.mono (mask_same s) d v h2⟩⟩
abbrev FE:=VEnv->Option D
abbrev FT:=VEnv->Option Bool
abbrev FA:=VEnv->Option (List D)
def tD (K:PySem.W.Frag) (f:FE):TE:=fun σ H Q=>∃ O ρ d,RV K O H ρ σ/\f ρ=some d/\∀ v H',Same H H'->Rep K (mask O H') d v->Q v H'
def tT (K:PySem.W.Frag) (f:FT):TT:=fun σ H Q=>∃ O ρ b,RV K O H ρ σ/\f ρ=some b/\∀ H',Same H H'->Q b H'
def tA (K:PySem.W.Frag) (f:FA):TA:=fun σ H Q=>∃ O ρ ds,RV K O H ρ σ/\f ρ=some ds/\∀ vs H',Same H H'->Reps K (mask O H') ds vs->Q vs H'
def EV (X:Cx) (e:Expr) (f:FE):Prop:=PE X e (tD X.K f)
def TV (X:Cx) (e:Expr) (f:FT):Prop:=PT X e (tT X.K f)
def AV (X:Cx) (es:List Expr) (f:FA):Prop:=PA X es (tA X.K f)
theorem PE.imp {X:Cx} {e:Expr} {t t':TE} (h:PE X e t) (k:∀ σ H Q,t' σ H Q->t σ H Q):PE X e t':=fun pins s σ H Q I hw=>h pins s σ H Q I (k σ H Q hw)
theorem PT.imp {X:Cx} {e:Expr} {t t':TT} (h:PT X e t) (k:∀ σ H Q,t' σ H Q->t σ H Q):PT X e t':=fun pins s σ H Q I hw=>h pins s σ H Q I (k σ H Q hw)
theorem PA.imp {X:Cx} {e:List Expr} {t t':TA} (h:PA X e t) (k:∀ σ H Q,t' σ H Q->t σ H Q):PA X e t':=fun pos pins s σ H Q I hw=>h pos pins s σ H Q I (k σ H Q hw)
def fV (i:Nat):FE:=fun ρ=>(ρ[i]?).getD none
def fC (d:D):FE:=fun _=>some d
def f1 (o:D->Option D) (a:FE):FE:=fun ρ=>(a ρ).bind o
def f2 (o:D->D->Option D) (a b:FE):FE:=fun ρ=>(a ρ).bind fun x=>(b ρ).bind fun y=>o x y
def fN:FA:=fun _=>some []
def fCons (a:FE) (r:FA):FA:=fun ρ=>(a ρ).bind fun x=>(r ρ).bind fun xs=>some (x::xs)
def fL (o:List D->Option D) (a:FA):FE:=fun ρ=>(a ρ).bind o
def fIf (c:FT) (a b:FE):FE:=fun ρ=>(c ρ).bind fun k=>if k=true then a ρ else b ρ
def fAnd (a b:FE):FE:=fun ρ=>(a ρ).bind fun x=>match x with | .bl true=>b ρ | .bl false=>some (.bl false) | _=>none
def fOr (a b:FE):FE:=fun ρ=>(a ρ).bind fun x=>match x with | .bl true=>some (.bl true) | .bl false=>b ρ | _=>none
def fNot (a:FE):FE:=fun ρ=>(a ρ).bind fun x=>match x with | .bl k=>some (.bl (!k)) | _=>none
def gB (a:FE):FT:=fun ρ=>(a ρ).bind fun x=>match x with | .bl k=>some k | _=>none
def gAnd (a b:FT):FT:=fun ρ=>(a ρ).bind fun k=>if k=true then b ρ else some false
def gOr (a b:FT):FT:=fun ρ=>(a ρ).bind fun k=>if k=true then some true else b ρ
def gNot (a:FT):FT:=fun ρ=>(a ρ).bind fun k=>some (!k)
def truD:D->Option Bool
  | .non=>some false
  | .bl b=>some b
  | .int i=>some (i != 0)
  | .tup ds=>some (!ds.isEmpty)
  | .lst ds=>some (!ds.isEmpty)
  | _=>none
def gTru (a:FE):FT:=fun ρ=>(a ρ).bind truD
theorem bind_some {α β:Type} {a:Option α} {f:α->Option β} {b:β} (h:a.bind f=some b):∃ x,a=some x/\f x=some b:=by
  cases a with
  | none=>cases h
  | some x=>exact ⟨x,rfl,h⟩
section
variable {X:Cx} {a b c:Expr} {fa fb:FE} {pos:Pos}
theorem ev_var (i:Nat) {x:Str} (hN:X.N[i]?=some x:=by rfl) (hv:Vis X.env.scope x:=by first | exact Or.inl rfl | exact Or.inr (Or.inl rfl) | exact Or.inr (Or.inr rfl)) (hd:(x == ("__debug__":Str))=false:=by decide)
    (hcd:(x == ("__classdict__":Str))=false:=by decide):EV X (.Name x pos) (fV i):=PE.imp (pe_var hN hv hd hcd) fun σ H Q ⟨O,ρ,d,r,e,k⟩=>by
  have e':ρ[i]?=some (some d):=by
    unfold fV at e
    cases q:ρ[i]? with
    | none=>rw [q] at e;cases e
    | some o=>rw [q] at e;rw [show o=some d from e]
  obtain ⟨v,h1,h2⟩:=r.at_ i d e'
  exact ⟨v,h1,k v H (Same.refl _) h2⟩
theorem ev_int {i j}:EV X (.Constant (.int i) j pos) (fC (.int i)):=PE.imp pe_int fun σ H Q ⟨O,ρ,d,r,e,k⟩=>by cases e;exact k _ H (Same.refl _) rfl
theorem ev_bl {i j}:EV X (.Constant (.bool i) j pos) (fC (.bl i)):=PE.imp pe_bl fun σ H Q ⟨O,ρ,d,r,e,k⟩=>by cases e;exact k _ H (Same.refl _) rfl
theorem ev_non {j}:EV X (.Constant .none j pos) (fC .non):=PE.imp pe_non fun σ H Q ⟨O,ρ,d,r,e,k⟩=>by cases e;exact k _ H (Same.refl _) rfl
theorem ev_str {x j}:EV X (.Constant (.str x) j pos) (fC (.str x)):=PE.imp pe_str fun σ H Q ⟨O,ρ,d,r,e,k⟩=>by cases e;exact k _ H (Same.refl _) rfl
theorem ev_gint {x:Str} {i:Int} (hm:∃ t,X.mg x=some (.int i t)) (hg:Gl X x:=by rfl) (hd:(x == ("__debug__":Str))=false:=by decide):EV X (.Name x pos) (fC (.int i)):=by
  obtain ⟨t,hm⟩:=hm
  exact PE.imp (pe_glob (v:=.int i) hg hm ⟨t,rfl⟩ hd) fun σ H Q ⟨O,ρ,d,r,e,k⟩=>by cases e;exact k _ H (Same.refl _) rfl
def rD (K:PySem.W.Frag) (o:D->D->Option D):R2:=fun x y H Q=>∃ O dx dy d,There O H/\Rep K (mask O H) dx x/\Rep K (mask O H) dy y/\o dx dy=some d/\∀ v H',Same H H'->Rep K (mask O H') d v->Q v H'
def OpD (X:Cx) (f:Value->Value->Sem Value) (o:D->D->Option D):Prop:=OpR X f (rD X.K o)
theorem OpD.of {f:Value->Value->Sem Value} {o:D->D->Option D} {r:R2} (h:OpR X f r) (k:∀ x y H Q,rD X.K o x y H Q->r x y H Q):OpD X f o:=fun pins s σ H x y v u Q I rx ry q=>h pins s σ H x y v u Q I rx ry (k x y H Q q)
theorem two_of {o:D->D->Option D} {r:R2} (k:∀ x y H Q,rD X.K o x y H Q->r x y H Q) {σ:St} {H:Hp} {Q:VK} (h:tD X.K (f2 o fa fb) σ H Q):tOp r (tD X.K fa) (tD X.K fb) σ H Q:=by
  obtain ⟨O,ρ,d,rv,e,q⟩:=h
  obtain ⟨x,e1,e⟩:=bind_some e
  obtain ⟨y,e2,e⟩:=bind_some e
  refine ⟨O,ρ,x,rv,e1,fun v H1 s1 r1=>?_⟩
  have rv1:=rv.mono s1
  refine ⟨O,ρ,y,rv1,e2,fun u H2 s2 r2=>k _ _ _ _ ⟨O,x,y,d,rv1.th.mono s2,Rep.mono (mask_same s2) x v r1,r2,e,fun w H3 s3 r3=>q w H3 (Same.trans (Same.trans s1 s2) s3) r3⟩⟩
theorem ev_op {op:Operator} {o:D->D->Option D} (ho:OpD X (binaryOp op) o) (ha:EV X a fa) (hb:EV X b fb):EV X (.BinOp a op b pos) (f2 o fa fb):=PE.imp (pe_op ho ha hb) fun _ _ _ h=>two_of (fun _ _ _ _ z=>z) h
theorem ev_cmp {op:CmpOp} {o:D->D->Option D} (ho:OpD X (compareOp op) o) (ha:EV X a fa) (hb:EV X b fb) (hm:behindInMarks op b=false:=by first | exact nomark _ | with_unfolding_all rfl):EV X (.Compare a [op] [b] pos) (f2 o fa fb) :=
  PE.imp (pe_cmpR ho ha hb hm) fun _ _ _ h=>two_of (fun _ _ _ _ z=>z) h
theorem tv_cmp {op:CmpOp} {o:D->D->Option D} (ho:OpD X (compareOp op) o) (ha:EV X a fa) (hb:EV X b fb) (hm:behindInMarks op b=false:=by first | exact nomark _ | with_unfolding_all rfl):TV X (.Compare a [op] [b] pos) (gB (f2 o fa fb)) :=
  PT.imp (pt_cmpR ho ha hb hm) fun σ H Q ⟨O,ρ,k,rv,e,q⟩=>by
    obtain ⟨x,e1,e⟩:=bind_some e
    refine two_of (fun _ _ _ _ z=>z) ⟨O,ρ,x,rv,e1,fun v H' s r=>?_⟩
    cases x with
    | bl z=>cases e;exact ⟨_,r,q H' s⟩
    | _=>cases e
def fChain (o o':D->D->Option D) (fa fb fc:FE):FE:=fun ρ=>(fa ρ).bind fun x=>(fb ρ).bind fun y=>(o x y).bind fun r=>match r with | .bl true=>(fc ρ).bind fun z=>o' y z | .bl false=>some (.bl false) | _=>none
theorem ev_chain {op op':CmpOp} {o o':D->D->Option D} {fc:FE} (ho:OpD X (compareOp op) o) (ho':OpD X (compareOp op') o') (ha:EV X a fa) (hb:EV X b fb) (hc:EV X c fc)
    (hm:lastMarks [op,op'] [b,c]=false:=by with_unfolding_all rfl) :
    EV X (.Compare a [op,op'] [b,c] pos) (fChain o o' fa fb fc) :=
  PE.imp (pe_chain ho ho' ha hb hc hm) fun σ H Q ⟨O,ρ,d,rv,e,q⟩=>by
    obtain ⟨x,e1,e⟩:=bind_some e
    obtain ⟨y,e2,e⟩:=bind_some e
    obtain ⟨r,e3,e⟩:=bind_some e
    refine ⟨O,ρ,x,rv,e1,fun v H1 s1 r1=>?_⟩
    have rv1:=rv.mono s1
    refine ⟨O,ρ,y,rv1,e2,fun u H2 s2 r2=>?_⟩
    have rv2:=rv1.mono s2
    refine ⟨O,x,y,r,rv2.th,Rep.mono (mask_same s2) x v r1,r2,e3,fun w H3 s3 r3=>?_⟩
    cases r with
    | bl k =>
      have:w=.bl k:=r3
      subst this
      refine ⟨k,rfl,?_⟩
      cases k with
      | true =>
        rw [if_pos rfl]
        obtain ⟨z,e4,e⟩:=bind_some e
        have rv3:=rv2.mono s3
        refine ⟨O,ρ,z,rv3,e4,fun w' H4 s4 r4=>⟨O,y,z,d,rv3.th.mono s4,Rep.mono (mask_same (Same.trans s3 s4)) y u r2,r4,e,fun w2 H5 s5 r5=>q w2 H5 (Same.trans (Same.trans (Same.trans (Same.trans s1 s2) s3) s4) s5) r5⟩⟩
      | false =>
        rw [if_neg Bool.false_ne_true]
        cases e
        exact q _ H3 (Same.trans (Same.trans s1 s2) s3) rfl
    | _=>cases e
theorem ev_one {op} (h:EV X a fa):EV X (.BoolOp op [a] pos) fa:=pe_one h
theorem ev_and {rest:List Expr} (ha:EV X a fa) (hb:EV X (.BoolOp .And (b::rest) pos) fb):EV X (.BoolOp .And (a::b::rest) pos) (fAnd fa fb):=PE.imp (pe_and ha hb) fun σ H Q ⟨O,ρ,d,rv,e,q⟩=>by
  obtain ⟨x,e1,e⟩:=bind_some e
  refine ⟨O,ρ,x,rv,e1,fun v H1 s1 r1=>?_⟩
  cases x with
  | bl k =>
    have:v=.bl k:=r1
    subst this
    refine ⟨k,rfl,?_⟩
    cases k with
    | true=>rw [if_pos rfl];exact ⟨O,ρ,d,rv.mono s1,e,fun w H2 s2 r2=>q w H2 (Same.trans s1 s2) r2⟩
    | false=>rw [if_neg Bool.false_ne_true];cases e;exact q _ H1 s1 rfl
  | _=>cases e
theorem ev_not (ha:EV X a fa):EV X (.UnaryOp .Not a pos) (fNot fa):=PE.imp (pe_not ha) fun σ H Q ⟨O,ρ,d,rv,e,q⟩=>by
  obtain ⟨x,e1,e⟩:=bind_some e
  refine ⟨O,ρ,x,rv,e1,fun v H1 s1 r1=>?_⟩
  cases x with
  | bl k =>
    have:v=.bl k:=r1
    subst this
    cases e
    exact ⟨k,rfl,q _ H1 s1 rfl⟩
  | _=>cases e
def WV (X:Cx) (e:Expr) (f:FT):Prop:=PW X e (tT X.K f)
theorem PW.imp {e:Expr} {t t':TT} (h:PW X e t) (k:∀ σ H Q,t' σ H Q->t σ H Q):PW X e t':=fun wh pins s σ H Q I hw=>h wh pins s σ H Q I (k σ H Q hw)
theorem WV.tv {e:Expr} {f:FT} (h:WV X e f):TV X e f:=PW.pt h
variable {ga gb:FT} {rest:List Expr}
theorem wv_or1 (ha:TV X a ga):WV X (.BoolOp .Or [a] pos) ga:=pw_or1 ha
theorem wv_or (ha:TV X a ga) (hb:WV X (.BoolOp .Or (b::rest) pos) gb):WV X (.BoolOp .Or (a::b::rest) pos) (gOr ga gb):=PW.imp (pw_or ha hb) fun σ H Q ⟨O,ρ,d,rv,e,q⟩=>by
  obtain ⟨k,e1,e⟩:=bind_some e
  refine ⟨O,ρ,k,rv,e1,fun H1 s1=>?_⟩
  cases k with
  | false=>rw [if_neg Bool.false_ne_true] at e ⊢;exact ⟨O,ρ,d,rv.mono s1,e,fun H2 s2=>q H2 (Same.trans s1 s2)⟩
  | true=>rw [if_pos rfl] at e ⊢;cases e;exact q H1 s1
theorem tv_not (ha:TV X a ga):TV X (.UnaryOp .Not a pos) (gNot ga):=PT.imp (pt_not ha) fun σ H Q ⟨O,ρ,d,rv,e,q⟩=>by
  obtain ⟨k,e1,e⟩:=bind_some e
  cases e
  exact ⟨O,ρ,k,rv,e1,fun H1 s1=>q H1 s1⟩
theorem tru_of {H:Hp} {d:D} {v:V} {k:Bool} {O:List Addr} (r:Rep X.K (mask O H) d v) (e:truD d=some k):TruV X.K v H k:=by
  cases d with
  | non=>cases e;rw [show v=_ from r];rfl
  | bl b=>cases e;rw [show v=_ from r];rfl
  | int i=>cases e;rw [show v=_ from r];rfl
  | str x=>cases e
  | tup ds =>
    obtain ⟨a,vs,rfl,h,r⟩:=r
    cases e
    refine .inr (.inl ⟨vs,SqT.of (mask_sub _ _ h),?_⟩)
    have:=r.length
    cases ds <;> cases vs <;> first | rfl | simp at this
  | lst ds =>
    obtain ⟨a,vs,rfl,h,r⟩:=r
    cases e
    refine .inl ⟨vs,SqL.of (mask_sub _ _ h),?_⟩
    have:=r.length
    cases ds <;> cases vs <;> first | rfl | simp at this
  | scr ns=>cases e
  | dcK ks ds=>cases e
  | dcT ks ds=>cases e
  | dcF ks ds=>cases e
theorem tv_val (ha:EV X a fa) (he:∀ whole,isTrue a X.env whole=(do let v <- whole;standAt a.pos;holding [v] (truthy v)):=by intro _;rfl):TV X a (gTru fa):=PT.imp (pt_truth ha he) fun σ H Q ⟨O,ρ,k,rv,e,q⟩=>by
  obtain ⟨x,e1,e⟩:=bind_some e
  exact ⟨O,ρ,x,rv,e1,fun v H1 s1 r1=>⟨k,tru_of r1 e,q H1 s1⟩⟩
theorem av_nil:AV X [] fN:=PA.imp pa_nil fun σ H Q ⟨O,ρ,ds,rv,e,q⟩=>by cases e;exact q [] H (Same.refl _) rfl
theorem av_cons {es:List Expr} {fr:FA} (ha:EV X a fa) (hr:AV X es fr) (hs:starEach (a::es) X.env=(false,eval a X.env)::starEach es X.env:=by rfl):AV X (a::es) (fCons fa fr) :=
  PA.imp (pa_cons ha hr hs) fun σ H Q ⟨O,ρ,ds,rv,e,q⟩=>by
    obtain ⟨x,e1,e⟩:=bind_some e
    obtain ⟨xs,e2,e⟩:=bind_some e
    cases e
    refine ⟨O,ρ,x,rv,e1,fun v H1 s1 r1=>⟨O,ρ,xs,rv.mono s1,e2,fun vs H2 s2 r2=>q (v::vs) H2 (Same.trans s1 s2) ⟨v,vs,rfl,Rep.mono (mask_same s2) x v r1,r2⟩⟩⟩
def limD:Nat:=65536
theorem limD_le {n:Nat} (h:n<=limD):n<=sizeLine:=by
  have:sizeLine=16777216:=sizeLine_eq
  unfold limD at h
  omega
def mkTup (ds:List D):Option D:=if ds.length<=limD then some (.tup ds) else none
def mkLst (ds:List D):Option D:=if ds.length<=limD then some (.lst ds) else none
theorem mkTup_some {ds:List D} {d:D} (h:mkTup ds=some d):d=.tup ds/\ds.length<=sizeLine:=by
  unfold mkTup at h
  split at h
  · rename_i hl;cases h;exact ⟨rfl,limD_le hl⟩
  · cases h
theorem mkLst_some {ds:List D} {d:D} (h:mkLst ds=some d):d=.lst ds/\ds.length<=sizeLine:=by
  unfold mkLst at h
  split at h
  · rename_i hl;cases h;exact ⟨rfl,limD_le hl⟩
  · cases h
theorem rep_new_tup {K:PySem.W.Frag} {O:List Addr} {H:Hp} {p:Addr} {ds:List D} {vs:List V} (th:There O H) (hp:H p=none) (r:Reps K (mask O H) ds vs):Rep K (mask O (upd H p (.tup vs))) (.tup ds) (.ref p) :=
  ⟨p,vs,rfl,(by rw [mask_out (th.fresh hp),upd_same]),Reps.mono (mask_same (Same.new hp)) ds vs r⟩
theorem rep_new_lst {K:PySem.W.Frag} {O:List Addr} {H:Hp} {p:Addr} {ds:List D} {vs:List V} (th:There O H) (hp:H p=none) (r:Reps K (mask O H) ds vs):Rep K (mask O (upd H p (.lst vs))) (.lst ds) (.ref p) :=
  ⟨p,vs,rfl,(by rw [mask_out (th.fresh hp),upd_same]),Reps.mono (mask_same (Same.new hp)) ds vs r⟩
theorem ev_tup {es:List Expr} {f:FA} {x1} (h:AV X es f):EV X (.Tuple es x1 pos) (fL mkTup f):=PE.imp (pe_tup h) fun σ H Q ⟨O,ρ,d,rv,e,q⟩=>by
  obtain ⟨ds,e1,e⟩:=bind_some e
  obtain ⟨rfl,hl⟩:=mkTup_some e
  refine ⟨O,ρ,ds,rv,e1,fun vs H1 s1 r1=>⟨by rw [r1.length];exact hl,fun p hp=>q _ _ (Same.trans s1 (Same.new hp)) (rep_new_tup (rv.th.mono s1) hp r1)⟩⟩
theorem ev_lst {es:List Expr} {f:FA} (h:AV X es f):EV X (.List es pos) (fL mkLst f):=PE.imp (pe_lst h) fun σ H Q ⟨O,ρ,d,rv,e,q⟩=>by
  obtain ⟨ds,e1,e⟩:=bind_some e
  obtain ⟨rfl,hl⟩:=mkLst_some e
  refine ⟨O,ρ,ds,rv,e1,fun vs H1 s1 r1=>⟨by rw [r1.length];exact hl,fun p hp=>q _ _ (Same.trans s1 (Same.new hp)) (rep_new_lst (rv.th.mono s1) hp r1)⟩⟩
def spD (K:PySem.W.Frag) (G:List D->Option D):Sp:=fun vs H Q _=>∃ O ds d,There O H/\Reps K (mask O H) ds vs/\G ds=some d/\∀ v H',Same H H'->Rep K (mask O H') d v->Q v H'
theorem ev_call {k:Nat} {f:Addr} {fd:FuncData} {ps:List Str} {G:List D->Option D} {x:Str} {p:Pos} {e:Expr} {es:List Expr} {fa:FA} (F:FnOk X.prog X.w X.K X.mg X.base CX0 k f fd ps (spD X.K G)) (hr:Room k X.A)
    (hm:X.mg x=some (.ref f)) (hk:PySem.W.keepIn X.K (.ref f)=true) (hb:Binds X.K fd ps []) (ha:AV X (e::es) fa)
    (hg:Gl X x:=by rfl) (hdb:(x == ("__debug__":Str))=false:=by decide) (he:starEach (e::es) X.env=(false,eval e X.env)::starEach es X.env:=by rfl) (hpl:(backTo pos (starEach es X.env)).any (·.1)=false:=by rfl) :
    EV X (.Call (.Name x p) (e::es) [] pos) (fL G fa):=PE.imp (pe_call (dvs:=[]) F hr hg hm hk hb .nil pass0 ha hdb he hpl) fun σ H Q ⟨O,ρ,d,rv,e1,q⟩=>by
  obtain ⟨ds,e2,e1⟩:=bind_some e1
  refine ⟨O,ρ,ds,rv,e2,fun vs H1 s1 r1=>?_⟩
  show spD X.K G (vs++[]) H1 Q E0
  rw [List.append_nil]
  exact ⟨O,ds,d,rv.th.mono s1,r1,e1,fun v H2 s2 r2=>q v H2 (Same.trans s1 s2) r2⟩
def rDs (K:PySem.W.Frag) (o:List D->Option D):List V->Hp->VK->Prop:=fun xs H Q=>∃ O ds d,There O H/\Reps K (mask O H) ds xs/\o ds=some d/\∀ v H',Same H H'->Rep K (mask O H') d v->Q v H'
def CallD (X:Cx) (f:Value) (o:List D->Option D):Prop:=CallR X f (rDs X.K o)
theorem CallD.of {f:Value} {o:List D->Option D} {r:List V->Hp->VK->Prop} (h:CallR X f r) (k:∀ xs H Q,rDs X.K o xs H Q->r xs H Q):CallD X f o:=fun pins s σ H xs us Q I rs q=>h pins s σ H xs us Q I rs (k xs H Q q)
theorem ev_callB {id:String} {o:List D->Option D} {x:Str} {p:Pos} {e:Expr} {es:List Expr} {fa:FA} (hc:CallD X (.builtin id) o) (hm:X.mg x=none) (hv:bootBuiltins x=some (.builtin id)) (ha:AV X (e::es) fa)
    (hg:Gl X x:=by rfl) (hn:x≠"__name__":=by decide) (hdb:(x == ("__debug__":Str))=false:=by decide)
    (he:starEach (e::es) X.env=(false,eval e X.env)::starEach es X.env:=by rfl) (hpl:(backTo pos (starEach es X.env)).any (·.1)=false:=by rfl):EV X (.Call (.Name x p) (e::es) [] pos) (fL o fa) :=
  PE.imp (pe_callB hc hg hm hv ha hn hdb he hpl) fun σ H Q ⟨O,ρ,d,rv,e1,q⟩=>by
    obtain ⟨ds,e2,e1⟩:=bind_some e1
    exact ⟨O,ρ,ds,rv,e2,fun vs H1 s1 r1=>⟨O,ds,d,rv.th.mono s1,r1,e1,fun v H2 s2 r2=>q v H2 (Same.trans s1 s2) r2⟩⟩
theorem ev_callTy {T:String} {o:List D->Option D} {x:Str} {p:Pos} {e:Expr} {es:List Expr} {fa:FA} (hc:CallD X (.type T) o) (hm:X.mg x=none) (hv:bootBuiltins x=some (.type T)) (ha:AV X (e::es) fa)
    (hg:Gl X x:=by rfl) (hn:x≠"__name__":=by decide) (hdb:(x == ("__debug__":Str))=false:=by decide)
    (he:starEach (e::es) X.env=(false,eval e X.env)::starEach es X.env:=by rfl) (hpl:(backTo pos (starEach es X.env)).any (·.1)=false:=by rfl):EV X (.Call (.Name x p) (e::es) [] pos) (fL o fa) :=
  PE.imp (pe_callTy hc hg hm hv ha hn hdb he hpl) fun σ H Q ⟨O,ρ,d,rv,e1,q⟩=>by
    obtain ⟨ds,e2,e1⟩:=bind_some e1
    exact ⟨O,ρ,ds,rv,e2,fun vs H1 s1 r1=>⟨O,ds,d,rv.th.mono s1,r1,e1,fun v H2 s2 r2=>q v H2 (Same.trans s1 s2) r2⟩⟩
end
end L2

namespace L2
open PySem PySem.Spec PyProof.Rows
abbrev FG:=D->Option (List (Nat×D))
def setS (σ:St):List (Nat×D)->List V->St
  | w::ws,v::vs=>setS (σ.set w.1 (some v)) ws vs
  | _,_=>σ
def setV (ρ:VEnv):List (Nat×D)->VEnv
  | w::ws=>setV (ρ.set w.1 (some w.2)) ws
  | []=>ρ
def setD (ρ:DEnv):List (Nat×D)->DEnv
  | w::ws=>setD (ρ.set w.1 (some (.val w.2))) ws
  | []=>ρ
def tG (K:PySem.W.Frag) (t:FG):TG:=fun v σ H Q=>∃ O d ws,There O H/\Rep K (mask O H) d v/\t d=some ws/\∀ vs,Reps K (mask O H) (ws.map (·.2)) vs->Q (setS σ ws vs) H
def GV (X:Cx) (tg:Expr) (t:FG):Prop:=PG X tg (tG X.K t)
theorem PG.imp {X:Cx} {e:Expr} {t t':TG} (h:PG X e t) (k:∀ v σ H Q,t' v σ H Q->t v σ H Q):PG X e t':=fun pins s σ H v u Q I r hw=>h pins s σ H v u Q I r (k v σ H Q hw)
def gN (i:Nat):FG:=fun d=>some [(i,d)]
def gT (ix:List Nat):FG:=fun d=>match d with
  | .tup ds=>if ds.length=ix.length then some (ix.zip ds) else none
  | _=>none
def gNames:List Nat->TGs
  | []=>gNil
  | i::ix=>gCons (gName i) (gNames ix)
section
variable {X:Cx} {pos:Pos}
theorem gv_name {i:Nat} {x:Str} (hN:X.N.Nodup) (hi:X.N[i]?=some x:=by rfl) (hx:Loc X.env.scope x:=by first | exact Or.inl rfl | exact Or.inr rfl) (hf:X.fn x=true\/X.env.scope.names.lookup x=some .local:=by first | exact .inl rfl | exact .inr rfl):GV X (.Name x pos) (gN i) :=
  PG.imp (pg_name hN hi hx hf) fun v σ H Q ⟨O,d,ws,th,r,e,q⟩=>by
    cases e
    exact q [v] (Reps.one r)
theorem gNames_of:∀ (ix:List Nat) (ds:List D) (vs:List V) {K:PySem.W.Frag} {H:Hp} (σ:St) (H':Hp) (Q:St->Hp->Prop),ds.length=ix.length->Reps K H ds vs->Q (setS σ (ix.zip ds) vs) H'->gNames ix vs σ H' Q
  | [],[],_,_,_,σ,H',Q,_,r,q=>by
    have:_=[]:=r
    subst this
    exact ⟨rfl,q⟩
  | i::ix,d::ds,_,_,_,σ,H',Q,hl,⟨v,vr,e,_,t⟩,q=>by
    subst e
    exact ⟨v,vr,rfl,gNames_of ix ds vr _ H' Q (by simpa using hl) t q⟩
  | [],_::_,_,_,_,_,_,_,hl,_,_=>by simp at hl
  | _::_,[],_,_,_,_,_,_,hl,_,_=>by simp at hl
theorem zip_snd {α β:Type}:∀ (xs:List α) (ys:List β),ys.length=xs.length->(xs.zip ys).map (·.2)=ys
  | [],[],_=>rfl
  | _::xs,y::ys,h=>by rw [List.zip_cons_cons,List.map_cons,zip_snd xs ys (by simpa using h)]
  | [],_::_,h=>by simp at h
  | _::_,[],h=>by simp at h
theorem gv_tup {es:List Expr} {k:Nat} {ix:List Nat} (hc:X.calm=true) (h:PGs X es (gNames ix)) (hn:(assignEach es X.env).length=ix.length:=by rfl) (hst:(assignEach es X.env).findIdx? (·.1)=none:=by rfl):GV X (.Tuple es k pos) (gT ix) :=
  PG.imp (pg_tup hc h hn hst) fun v σ H Q ⟨O,d,ws,th,r,e,q⟩=>by
    cases d with
    | tup ds =>
      have e:(if ds.length=ix.length then some (ix.zip ds) else none)=some ws:=e
      split at e
      · rename_i hl
        cases e
        obtain ⟨a,vs,rfl,ht,rs⟩:=r
        refine ⟨a,vs,rfl,SqT.of (mask_sub _ _ ht),by rw [rs.length];exact hl,gNames_of ix ds vs σ H Q hl rs (q vs ?_)⟩
        rw [zip_snd ix ds hl];exact rs
      · cases e
    | _=>cases e
end
def Walk (K:PySem.W.Frag) (O:List Addr) (Hb:Hp) (J:It) (ds:List D):Prop:=∀ H O',Same (mask O Hb) (mask O' H)->There O' H->∀ i,
  (∀ d,ds[i]?=some d->J.go i H/\∀ x H',J.yld i H x H'->Same H H'/\Rep K (mask O' H') d x)/\(ds.length<=i->J.stop i H)
def WalkA (K:PySem.W.Frag) (J:It) (ds:List D):Prop:=∀ H O',There O' H->∀ i,
  (∀ d,ds[i]?=some d->J.go i H/\∀ x H',J.yld i H x H'->Same H H'/\Rep K (mask O' H') d x)/\(ds.length<=i->J.stop i H)
def tI (K:PySem.W.Frag) (f:FA):TI:=fun σ H R=>∃ O ρ ds,RV K O H ρ σ/\f ρ=some ds/\∀ J H',Same H H'->Walk K O H' J ds->R J H'
def tIA (K:PySem.W.Frag) (f:FA):TI:=fun σ H R=>∃ O ρ ds,RV K O H ρ σ/\f ρ=some ds/\∀ J H',Same H H'->WalkA K J ds->R J H'
def IV (X:Cx) (tg e:Expr) (f:FA):Prop:=PI X tg e (tI X.K f)
def IVA (X:Cx) (tg e:Expr) (f:FA):Prop:=PI X tg e (tIA X.K f)
theorem PI.imp {X:Cx} {tg e:Expr} {t t':TI} (h:PI X tg e t) (k:∀ σ H R,t' σ H R->t σ H R):PI X tg e t':=fun pins s σ H R I hw=>h pins s σ H R I (k σ H R hw)
theorem PI.or {X:Cx} {tg e:Expr} {t t':TI} (h:PI X tg e t) (h':PI X tg e t'):PI X tg e (fun σ H R=>t σ H R\/t' σ H R):=fun pins s σ H R I hw=>hw.elim (h pins s σ H R I) (h' pins s σ H R I)
theorem IVA.iv {X:Cx} {tg e:Expr} {f:FA} (h:IVA X tg e f):IV X tg e f:=PI.imp h fun σ H R ⟨O,ρ,ds,rv,e,q⟩=>⟨O,ρ,ds,rv,e,fun J H' s w=>q J H' s fun H2 O' _ th i=>w H2 O' th i⟩
def itemsD:D->Option (List D)
  | .lst ds=>some ds
  | .tup ds=>some ds
  | .scr ns=>some (ns.map .int)
  | _=>none
def fItems (a:FE):FA:=fun ρ=>(a ρ).bind itemsD
section
variable {X:Cx} {tg e:Expr}
theorem walk_tup {K:PySem.W.Frag} {O:List Addr} {H:Hp} {a:Addr} {ds:List D} {vs:List V} (h:SqT K (mask O H) a vs) (r:Reps K (mask O H) ds vs):Walk K O H (Itt K a) ds:=by
  intro H2 O' s th i
  have h2:SqT K H2 a vs:=Same.seqT mask_sub (Same.seqT s h)
  refine ⟨fun d e=>?_,fun hl=>⟨vs,h2,by rw [r.length];exact hl⟩⟩
  obtain ⟨v,e1,e2⟩:=r.get e
  refine ⟨⟨vs,v,h2,e1⟩,fun x H3 ⟨eh,q⟩=>?_⟩
  subst eh
  have:=q vs h2
  rw [e1] at this
  cases this
  exact ⟨(Same.refl _),Rep.mono s d _ e2⟩
theorem walk_lst {K:PySem.W.Frag} {O:List Addr} {H:Hp} {a:Addr} {ds:List D} {vs:List V} (h:SqL K (mask O H) a vs) (r:Reps K (mask O H) ds vs):Walk K O H (Itl K a) ds:=by
  intro H2 O' s th i
  have h2:SqL K H2 a vs:=Same.seq mask_sub (Same.seq s h)
  refine ⟨fun d e=>?_,fun hl=>⟨vs,h2,by rw [r.length];exact hl⟩⟩
  obtain ⟨v,e1,e2⟩:=r.get e
  refine ⟨⟨vs,v,h2,e1⟩,fun x H3 ⟨eh,q⟩=>?_⟩
  subst eh
  have:=q vs h2
  rw [e1] at this
  cases this
  exact ⟨(Same.refl _),Rep.mono s d _ e2⟩
theorem iv_seq {fa:FE} (h:EV X e fa):IV X tg e (fItems fa):=PI.imp (PI.or (pi_list (tg:=tg) h) (pi_tup (tg:=tg) h)) fun σ H R ⟨O,ρ,ds,rv,e,q⟩=>by
  obtain ⟨x,e1,e2⟩:=bind_some e
  cases x with
  | lst es =>
    cases e2
    refine .inl ⟨O,ρ,_,rv,e1,fun v H1 s1 ⟨a,vs,ev,hv,r⟩=>⟨a,ev,⟨vs,SqL.of (mask_sub _ _ hv)⟩,q _ H1 s1 (walk_lst (SqL.of hv) r)⟩⟩
  | scr ns =>
    cases e2
    refine .inl ⟨O,ρ,_,rv,e1,fun v H1 s1 ⟨a,ev,hv⟩=>⟨a,ev,⟨_,Same.seq mask_sub hv⟩,q _ H1 s1 (walk_lst hv (reps_ints ns))⟩⟩
  | tup es =>
    cases e2
    refine .inr ⟨O,ρ,_,rv,e1,fun v H1 s1 ⟨a,vs,ev,hv,r⟩=>⟨a,ev,⟨vs,SqT.of (mask_sub _ _ hv)⟩,q _ H1 s1 (walk_tup (SqT.of hv) r)⟩⟩
  | _=>cases e2
end
end L2

namespace L2
open PySem PySem.Spec PyProof.Rows
def rangeD (lo:Int) (n:Nat):List D:=(List.range n).map fun (k:Nat)=>D.int (lo+(k:Int))
noncomputable def rng1:List D->Option (List D)
  | [.int j]=>@ite _ (-(2 ^ 62)<=j/\j < 2 ^ 62) (Classical.propDecidable _) (some (rangeD 0 j.toNat)) none
  | _=>none
noncomputable def rng2:List D->Option (List D)
  | [.int i,.int j]=>@ite _ ((-(2 ^ 62)<=i/\i < 2 ^ 62)/\-(2 ^ 62)<=j/\j < 2 ^ 62) (Classical.propDecidable _) (some (rangeD i (j - i).toNat)) none
  | _=>none
def fR (r:List D->Option (List D)) (a:FA):FA:=fun ρ=>(a ρ).bind r
theorem rangeD_get {lo:Int} {n i:Nat} {d:D} (h:(rangeD lo n)[i]?=some d):i < n/\d=.int (lo+(i:Int)):=by
  unfold rangeD at h
  rw [List.getElem?_map] at h
  by_cases hi:i < n
  · rw [List.getElem?_range hi] at h
    exact ⟨hi,by cases h;rfl⟩
  · rw [List.getElem?_eq_none (by simpa using hi)] at h
    cases h
theorem rangeD_len {lo:Int} {n:Nat}:(rangeD lo n).length=n:=by simp [rangeD]
theorem walk_rng {K:PySem.W.Frag} {lo:Int} {n:Nat}:WalkA K (Itr lo n) (rangeD lo n):=by
  intro H O' th i
  refine ⟨fun d e=>?_,fun hl=>by rw [rangeD_len] at hl;exact hl⟩
  obtain ⟨hi,rfl⟩:=rangeD_get e
  refine ⟨hi,fun x H3 ⟨eh,q⟩=>?_⟩
  subst eh
  exact ⟨(Same.refl _),q⟩
section
variable {X:Cx} {tg a b:Expr} {p pos:Pos} {fa:FA}
theorem iv_range1 (hm:X.mg "range"=none) (ha:AV X [a] fa) (hg:Gl X "range":=by rfl) (hs:starEach [a] X.env=[(false,eval a X.env)]:=by rfl):IVA X tg (.Call (.Name "range" p) [a] [] pos) (fR rng1 fa) :=
  PI.imp (pi_range1 hg hm ha hs) fun σ H R ⟨O,ρ,ds,rv,e,q⟩=>by
    obtain ⟨xs,e1,e2⟩:=bind_some e
    refine ⟨O,ρ,xs,rv,e1,fun vs H1 s1 r=>?_⟩
    unfold rng1 at e2
    split at e2
    · rename_i j
      split at e2
      · rename_i hj
        cases e2
        obtain ⟨v,vr,rfl,hv,ht⟩:=r
        have h1:v=.int j:=hv
        have h2:vr=[]:=ht
        subst h1;subst h2
        exact ⟨j,rfl,hj.1,hj.2,q _ H1 s1 walk_rng⟩
      · cases e2
    · cases e2
theorem iv_range2 (hm:X.mg "range"=none) (ha:AV X [a,b] fa) (hg:Gl X "range":=by rfl) (hs:starEach [a,b] X.env=[(false,eval a X.env),(false,eval b X.env)]:=by rfl) (hs2:starEach [b] X.env=[(false,eval b X.env)]:=by rfl) :
    IVA X tg (.Call (.Name "range" p) [a,b] [] pos) (fR rng2 fa) :=
  PI.imp (pi_range2 hg hm ha hs hs2) fun σ H R ⟨O,ρ,ds,rv,e,q⟩=>by
    obtain ⟨xs,e1,e2⟩:=bind_some e
    refine ⟨O,ρ,xs,rv,e1,fun vs H1 s1 r=>?_⟩
    unfold rng2 at e2
    split at e2
    · rename_i i j
      split at e2
      · rename_i hj
        cases e2
        obtain ⟨v,vr,rfl,hv,w,wr,rfl,hw,ht⟩:=r
        have h1:v=.int i:=hv
        have h2:w=.int j:=hw
        have h3:wr=[]:=ht
        subst h1;subst h2;subst h3
        exact ⟨i,j,rfl,⟨hj.1.1,hj.1.2,hj.2.1,hj.2.2⟩,q _ H1 s1 walk_rng⟩
      · cases e2
    · cases e2
end
def compD (t:FG) (gt:FT) (fe:FE) (ρ:VEnv):List D->Option (List D)
  | []=>some []
  | d::ds=>(t d).bind fun ws=>(gt (setV ρ ws)).bind fun k=>if k=true then (fe (setV ρ ws)).bind fun y=>(compD t gt fe ρ ds).bind fun ys=>some (y::ys) else compD t gt fe ρ ds
def env0 (n:Nat) (ix:List Nat) (ρ:VEnv):VEnv:=List.replicate n none++ix.map fun i=>(ρ[i]?).getD none
def fComp (n:Nat) (ix:List Nat) (fi:FA) (t:FG) (gt:FT) (fe:FE):FE:=fun ρ=>(fi ρ).bind fun ds=>if ds.length<=limD then (compD t gt fe (env0 n ix ρ) ds).bind fun ys=>some (.lst ys) else none
def gYes:FT:=fun _=>some true
def TVs (X:Cx) (ifs:List Expr) (g:FT):Prop:=PTs X ifs (tT X.K g)
theorem tvs_nil {X:Cx}:TVs X [] gYes:=fun pins s σ H Q I ⟨O,ρ,b,rv,e,q⟩=>by
  cases e
  exact pts_nil pins s σ H Q I (q H (Same.refl _))
theorem tvs_one {X:Cx} {c:Expr} {g:FT} (h:TV X c g):TVs X [c] g:=pts_one h
theorem get_set_eq {α:Type} {l:List (Option α)} {i:Nat} {x y:α} (h:(l.set i (some x))[i]?=some (some y)):x=y:=by
  rw [List.getElem?_set] at h
  split at h
  · split at h
    · cases h;rfl
    · cases h
  · rename_i hn;exact absurd rfl hn
theorem get_set_ne {α:Type} {l:List (Option α)} {i j:Nat} {x y:α} (hn:i≠j) (h:(l.set i (some x))[j]?=some (some y)):l[j]?=some (some y):=by
  rwa [List.getElem?_set_ne hn] at h
theorem RV.set1 {K:PySem.W.Frag} {O:List Addr} {H:Hp} {ρ:VEnv} {σ:St} {i:Nat} {d:D} {v:V} (r:RV K O H ρ σ) (hl:ρ.length=σ.length) (h:Rep K (mask O H) d v):RV K O H (ρ.set i (some d)) (σ.set i (some v)) :=
  ⟨r.th,fun j e q=>by
    by_cases hj:i=j
    · subst hj
      have hi:i < ρ.length:=by
        have:=(List.getElem?_eq_some_iff.mp q).1
        simpa using this
      have:=get_set_eq q
      subst this
      exact ⟨v,by rw [List.getElem?_set_self (by omega)],h⟩
    · obtain ⟨w,h1,h2⟩:=r.at_ j e (get_set_ne hj q)
      exact ⟨w,by rw [List.getElem?_set_ne hj];exact h1,h2⟩⟩
theorem RV.sets {K:PySem.W.Frag} {O:List Addr} {H:Hp}:∀ (ws:List (Nat×D)) (vs:List V) {ρ:VEnv} {σ:St},RV K O H ρ σ->ρ.length=σ.length->Reps K (mask O H) (ws.map (·.2)) vs->RV K O H (setV ρ ws) (setS σ ws vs)/\(setV ρ ws).length=(setS σ ws vs).length
  | [],_,_,_,r,hl,_=>⟨r,hl⟩
  | w::ws,_,ρ,σ,r,hl,⟨v,vr,e,h,t⟩=>by
    subst e
    exact RV.sets ws vr (r.set1 hl h) (by simpa using hl) t
theorem env0_rv {K:PySem.W.Frag} {O:List Addr} {H:Hp} {n:Nat} {ix:List Nat} {ρ:VEnv} {σ:St} (r:RV K O H ρ σ):RV K O H (env0 n ix ρ) (st0 n ix σ):=⟨r.th,fun i d e=>by
  unfold env0 at e
  by_cases hi:i < n
  · rw [List.getElem?_append_left (by simpa using hi),List.getElem?_replicate] at e
    split at e <;> cases e
  · rw [List.getElem?_append_right (by simpa using hi),List.getElem?_map] at e
    simp only [List.length_replicate] at e
    cases q:ix[i - n]? with
    | none=>rw [q] at e;cases e
    | some k =>
      rw [q] at e
      simp only [Option.map_some] at e
      have e':ρ[k]?=some (some d):=by
        cases w:ρ[k]? with
        | none=>rw [w] at e;cases e
        | some o=>rw [w] at e;simpa using e
      obtain ⟨v,h1,h2⟩:=r.at_ k d e'
      refine ⟨v,?_,h2⟩
      unfold st0
      rw [List.getElem?_append_right (by simpa using hi),List.getElem?_map]
      simp only [List.length_replicate,q,Option.map_some]
      rw [h1];rfl⟩
theorem RV.weak {K:PySem.W.Frag} {O:List Addr} {H:Hp} {ρ ρ':VEnv} {σ:St} (r:RV K O H ρ σ) (h:∀ (i:Nat) (d:D),ρ'[i]?=some (some d)->ρ[i]?=some (some d)):RV K O H ρ' σ:=⟨r.th,fun i d e=>r.at_ i d (h i d e)⟩
theorem setV_out:∀ (ws:List (Nat×D)) {n:Nat} {ρ:VEnv},(∀ w∈ws,w.1 < n)->∀ (i:Nat),n<=i->(setV ρ ws)[i]?=ρ[i]?
  | [],_,_,_,_,_=>rfl
  | w::ws,n,ρ,h,i,hi=>by
    unfold setV
    rw [setV_out ws (fun z hz=>h z (List.mem_cons_of_mem _ hz)) i hi,List.getElem?_set_ne]
    have:=h w List.mem_cons_self
    omega
def TgOk (n:Nat) (t:FG):Prop:=∀ d ws,t d=some ws->∀ w∈ws,w.1 < n
theorem gN_ok {n i:Nat} (h:i < n):TgOk n (gN i):=fun d ws e w hw=>by
  cases e
  have:w=(i,d):=by simpa using hw
  subst this;exact h
theorem gT_ok {n:Nat} {ix:List Nat} (h:ix.all (· < n)=true):TgOk n (gT ix):=fun d ws e w hw=>by
  cases d with
  | tup ds =>
    have e:(if ds.length=ix.length then some (ix.zip ds) else none)=some ws:=e
    split at e
    · cases e
      have:=(List.of_mem_zip (show (w.1,w.2)∈_ from hw)).1
      simpa using List.all_eq_true.mp h _ this
    · cases e
  | _=>cases e
section
variable {X:Cx}
theorem comp_reads {n:Nat} {ix:List Nat} {fi:FA} {t:FG} {gt:FT} {fe:FE} (hlen:∀ {ρ:VEnv},True) (hok:TgOk n t) {σ:St} {H:Hp} {Q:VK}
    (h:∃ O ρ ys,RV X.K O H ρ σ/\(∃ ds,fi ρ=some ds/\ds.length<=limD/\compD t gt fe (env0 n ix ρ) ds=some ys)/\∀ a vs H',Same H H'->H' a=none->Reps X.K (mask O H') ys vs->Q (.ref a) (upd H' a (.lst vs))) :
    tComp n ix (tI X.K fi) (tG X.K t) (tT X.K gt) (tD X.K fe) σ H Q:=by
  obtain ⟨O,ρ,ys,rv,⟨ds,e1,hlim,e2⟩,q⟩:=h
  refine ⟨O,ρ,ds,rv,e1,fun J H1 s1 wk=>?_⟩
  refine ⟨fun i m us σ' H'=>m=ds.length - i/\i<=ds.length/\us.length<=i/\Same H1 H'/\σ'.length=n+ix.length/\RV X.K O H' (env0 n ix ρ) σ' /\
    ∃ pre post,Reps X.K (mask O H') pre us/\compD t gt fe (env0 n ix ρ) (ds.drop i)=some post/\ys=pre++post,
    ⟨ds.length,by simp,Nat.zero_le _,Nat.le_refl _,(Same.refl _),st0_len n ix σ,env0_rv (rv.mono s1),[],ys,rfl,by simpa using e2,rfl⟩,?_⟩
  rintro i m us σ' H' ⟨rfl,hi,hu,s2,hσ,rv',pre,pst,rp,ec,ey⟩
  have wk':=wk H' O (mask_same s2) rv'.th i
  by_cases hlt:i < ds.length
  · have hd:ds.drop i=ds[i]::ds.drop (i+1):=List.drop_eq_getElem_cons hlt
    have hg:ds[i]?=some ds[i]:=List.getElem?_eq_getElem hlt
    obtain ⟨go,yl⟩:=wk'.1 _ hg
    refine .inr ⟨go,?_,fun x H2 hy=>?_⟩
    · have:=limD_le hlim;omega
    · obtain ⟨s3,rx⟩:=yl x H2 hy
      have rv3:=rv'.mono s3
      rw [hd] at ec
      unfold compD at ec
      obtain ⟨ws,et,ec⟩:=bind_some ec
      obtain ⟨k,eg,ec⟩:=bind_some ec
      refine ⟨O,_,ws,rv3.th,rx,et,fun vs rs=>?_⟩
      have hl0:(env0 n ix ρ).length=σ'.length:=by rw [hσ];simp [env0]
      obtain ⟨rv4,hl4⟩:=RV.sets ws vs rv3 hl0 rs
      have hσ4:(setS σ' ws vs).length=n+ix.length:=by
        rw [<- hl4]
        have:∀ (ws:List (Nat×D)) (r:VEnv),(setV r ws).length=r.length:=by
          intro ws
          induction ws with
          | nil=>intro r;rfl
          | cons w ws ih=>intro r;unfold setV;rw [ih];simp
        rw [this,hl0,hσ]
      have back:∀ {H5:Hp},Same H2 H5->RV X.K O H5 (env0 n ix ρ) (setS σ' ws vs):=fun {H5} s5=>(rv4.mono s5).weak fun j d ej=>by
        by_cases hj:n<=j
        · rw [setV_out ws (hok _ ws et) j hj];exact ej
        · exfalso
          unfold env0 at ej
          rw [List.getElem?_append_left (by simpa using hj),List.getElem?_replicate] at ej
          split at ej <;> cases ej
      refine ⟨O,_,k,rv4,eg,fun H4 s4=>?_⟩
      cases k with
      | false =>
        rw [if_neg Bool.false_ne_true] at ec ⊢
        exact ⟨_,by omega,rfl,hlt,by omega,Same.trans s2 (Same.trans s3 s4),hσ4,back s4,pre,pst,Reps.mono (mask_same (Same.trans s3 s4)) pre us rp,ec,ey⟩
      | true =>
        rw [if_pos rfl] at ec ⊢
        obtain ⟨y,ef,ec⟩:=bind_some ec
        obtain ⟨rest,er,ec⟩:=bind_some ec
        cases ec
        refine ⟨O,_,y,rv4.mono s4,ef,fun v H5 s5 r5=>?_⟩
        refine ⟨_,by omega,rfl,hlt,?_,Same.trans s2 (Same.trans s3 (Same.trans s4 s5)),hσ4,back (Same.trans s4 s5),pre++[y],rest,Reps.append (Reps.mono (mask_same (Same.trans s3 (Same.trans s4 s5))) pre us rp) (Reps.one r5),er,by rw [ey];simp⟩
        simp;omega
  · have e:i=ds.length:=by omega
    subst e
    refine .inl ⟨wk'.2 (Nat.le_refl _),by have:=limD_le hlim;omega,fun l hl=>?_⟩
    rw [List.drop_length] at ec
    cases ec
    rw [List.append_nil] at ey
    subst ey
    exact q l us H' (Same.trans s1 s2) hl rp
theorem fComp_some {n:Nat} {ix:List Nat} {fi:FA} {t:FG} {gt:FT} {fe:FE} {ρ:VEnv} {d:D} (h:fComp n ix fi t gt fe ρ=some d):∃ ys,d=.lst ys/\∃ ds,fi ρ=some ds/\ds.length<=limD/\compD t gt fe (env0 n ix ρ) ds=some ys:=by
  obtain ⟨ds,e1,h⟩:=bind_some h
  split at h
  · rename_i hl
    obtain ⟨ys,e2,h⟩:=bind_some h
    cases h
    exact ⟨ys,rfl,ds,e1,hl,e2⟩
  · cases h
variable {scope:Scope} {elt tg iter:Expr} {ifs:List Expr} {pos:Pos} {fi:FA} {t:FG} {gt:FT} {fe:FE}
theorem ev_comp (N:List Str) (n:Nat) (ix:List Nat) (hok:TgOk n t) (hc:X.calm=true) (hi:IV X tg iter fi)
    (hg:∀ cl C s H fp,GV (cxComp X N scope cl C s H fp) tg t) (ht:∀ cl C s H fp,TVs (cxComp X N scope cl C s H fp) ifs gt) (he:∀ cl C s H fp,EV (cxComp X N scope cl C s H fp) elt fe)
    (hk:scope.kind=.function:=by rfl) (hcell:(scope.names.all fun y=>!(y.2 == .cell))=true:=by rfl) (hnames:(scope.names.all fun y=>!(y.2 == .local) || (scope.names.lookup y.1 == some .local))=true:=by rfl)
    (hNl:N.length=n+ix.length:=by rfl) (hout:outOk X.N N n scope X.env ix=true:=by rfl) (hfree:freeOk scope X.env.cells=true:=by rfl) (hs:∀ x,foldedSetIterable iter X.env x=pure x:=by intro _;rfl) :
    EV X (.ListComp elt [⟨tg,iter,ifs,0⟩] scope pos) (fComp n ix fi t gt fe) :=
  PE.imp (pe_comp (g:=tG X.K t) (tt:=tT X.K gt) (te:=tD X.K fe) N n ix hc hi hg ht he hk hcell hnames hNl hout hfree hs) fun σ H Q ⟨O,ρ,d,rv,e,q⟩=>by
    obtain ⟨ys,rfl,hh⟩:=fComp_some e
    exact comp_reads (fun {_}=>trivial) hok ⟨O,ρ,ys,rv,hh,fun a vs H' s hn r=>q _ _ (Same.trans s (Same.new hn)) (rep_new_lst (rv.th.mono s) hn r)⟩
end
end L2

namespace L2
open PySem PySem.Spec PyProof.Rows
def OwnRep (K:PySem.W.Frag) (O:List Addr) (H:Hp):D->Addr->Prop
  | .lst ds,a=>∃ vs,H a=some (.lst vs)/\Reps K (mask O H) ds vs
  | .dcK ks ds,a=>∃ kvs,H a=some (.dK kvs)/\kvs.map (·.1)=ks/\Reps K (mask O H) ds (kvs.map (·.2))
  | .dcT ks ds,a=>∃ kvs,H a=some (.dT kvs)/\kvs.map (·.1)=ks/\Reps K (mask O H) ds (kvs.map (·.2))
  | _,_=>False
theorem OwnRep.rep {K:PySem.W.Frag} {O O':List Addr} {H:Hp} {a:Addr}:∀ {d:D},OwnRep K O H d a->(∀ b∈O',b∈O)->a∉O'->Rep K (mask O' H) d (.ref a)
  | .lst ds,⟨vs,h,r⟩,hs,hn=>⟨a,vs,rfl,by rw [mask_out hn];exact h,Reps.mono (fun b o e=>by
      by_cases hb:b∈O'
      · rw [mask_in (hs b hb)] at e;cases e
      · rw [mask_out hb];exact mask_sub _ _ e) ds vs r⟩
  | .dcK ks ds,⟨kvs,h,k,r⟩,hs,hn=>⟨a,kvs,rfl,by rw [mask_out hn];exact h,k,Reps.mono (fun b o e=>by
      by_cases hb:b∈O'
      · rw [mask_in (hs b hb)] at e;cases e
      · rw [mask_out hb];exact mask_sub _ _ e) ds _ r⟩
  | .dcT ks ds,⟨kvs,h,k,r⟩,hs,hn=>⟨a,kvs,rfl,by rw [mask_out hn];exact h,k,Reps.mono (fun b o e=>by
      by_cases hb:b∈O'
      · rw [mask_in (hs b hb)] at e;cases e
      · rw [mask_out hb];exact mask_sub _ _ e) ds _ r⟩
  | .non,h,_,_=>h.elim
  | .bl _,h,_,_=>h.elim
  | .int _,h,_,_=>h.elim
  | .str _,h,_,_=>h.elim
  | .tup _,h,_,_=>h.elim
  | .scr _,h,_,_=>h.elim
  | .dcF _ _,h,_,_=>h.elim
theorem OwnRep.mono {K:PySem.W.Frag} {O O':List Addr} {H H':Hp} {a:Addr} (s:Same (mask O H) (mask O' H')) (ha:∀ o,H a=some o->H' a=some o):∀ {d:D},OwnRep K O H d a->OwnRep K O' H' d a
  | .lst ds,⟨vs,h,r⟩=>⟨vs,ha _ h,Reps.mono s ds vs r⟩
  | .dcK ks ds,⟨kvs,h,k,r⟩=>⟨kvs,ha _ h,k,Reps.mono s ds _ r⟩
  | .dcT ks ds,⟨kvs,h,k,r⟩=>⟨kvs,ha _ h,k,Reps.mono s ds _ r⟩
  | .non,h=>h.elim
  | .bl _,h=>h.elim
  | .int _,h=>h.elim
  | .str _,h=>h.elim
  | .tup _,h=>h.elim
  | .scr _,h=>h.elim
  | .dcF _ _,h=>h.elim
structure RS (K:PySem.W.Frag) (B:Hp) (O0 O1:List Addr) (H:Hp) (ρ:DEnv) (σ:St):Prop where
  len:ρ.length=σ.length
  same:Same B H
  thB:There O0 B
  new:∀ a∈O1,B a=none
  th:There O1 H
  vals:∀ (i:Nat) (d:D),ρ[i]?=some (some (.val d))->∃ v,σ[i]?=some (some v)/\Rep K (mask (O0++O1) H) d v
  owns:∀ (i:Nat) (d:D),ρ[i]?=some (some (.own d))->∃ a,σ[i]?=some (some (.ref a))/\a∈O1/\OwnRep K (O0++O1) H d a
  apart:∀ (i j:Nat) (d e:D) (a:Addr),ρ[i]?=some (some (.own d))->ρ[j]?=some (some (.own e))->σ[i]?=some (some (.ref a))->σ[j]?=some (some (.ref a))->i=j
section
variable {K:PySem.W.Frag} {B H H':Hp} {O0 O1:List Addr} {ρ:DEnv} {σ:St}
theorem There.app {O O':List Addr} (h:There O H) (h':There O' H):There (O++O') H:=fun a m=>(List.mem_append.mp m).elim (h a) (h' a)
theorem RS.th0 (r:RS K B O0 O1 H ρ σ):There O0 H:=r.thB.mono r.same
theorem RS.disj (r:RS K B O0 O1 H ρ σ) {a:Addr} (h:a∈O1):a∉O0:=fun m=>by
  obtain ⟨o,e,_⟩:=r.thB a m
  rw [r.new a h] at e;cases e
theorem RS.mono (r:RS K B O0 O1 H ρ σ) (s:Same H H'):RS K B O0 O1 H' ρ σ :=
  ⟨r.len,Same.trans r.same s,r.thB,r.new,r.th.mono s,fun i d e=>let ⟨v,h1,h2⟩:=r.vals i d e;⟨v,h1,Rep.mono (mask_same s) d v h2⟩,
    fun i d e=>let ⟨a,h1,h2,h3⟩:=r.owns i d e;⟨a,h1,h2,h3.mono (mask_same s) fun o q=>s _ _ q⟩,r.apart⟩
theorem map_get {α β:Type} {l:List α} {f:α->β} {i:Nat} {b:β} (h:(l.map f)[i]?=some b):∃ a,l[i]?=some a/\f a=b:=by
  rw [List.getElem?_map] at h
  cases e:l[i]? with
  | none=>rw [e] at h;cases h
  | some a=>rw [e] at h;exact ⟨a,rfl,Option.some.inj h⟩
theorem RS.all (r:RS K B O0 O1 H ρ σ):RV K O0 H (allV ρ) σ:=⟨r.th0,fun i d e=>by
  obtain ⟨c,e1,e2⟩:=map_get e
  cases c with
  | none=>cases e2
  | some c =>
    cases c with
    | val d' =>
      cases e2
      obtain ⟨v,h1,h2⟩:=r.vals i d e1
      refine ⟨v,h1,Rep.mono (fun b o q=>?_) d v h2⟩
      by_cases hb:b∈O0
      · rw [mask_in (List.mem_append_left _ hb)] at q;cases q
      · rw [mask_out hb];exact mask_sub _ _ q
    | own d' =>
      cases e2
      obtain ⟨a,h1,h2,h3⟩:=r.owns i d e1
      exact ⟨_,h1,h3.rep (fun b hb=>List.mem_append_left _ hb) (r.disj h2)⟩⟩
theorem RS.val (r:RS K B O0 O1 H ρ σ):RV K (O0++O1) H (valV' ρ) σ:=⟨There.app r.th0 r.th,fun i d e=>by
  obtain ⟨c,e1,e2⟩:=map_get e
  cases c with
  | none=>cases e2
  | some c =>
    cases c with
    | val d'=>cases e2;exact r.vals i d e1
    | own d'=>cases e2⟩
theorem set_val_ne {l:DEnv} {i j:Nat} {x:Cl} {y:Cl} (h:(l.set i (some x))[j]?=some (some y)):(i=j/\x=y)\/(i≠j/\l[j]?=some (some y)):=by
  by_cases hj:i=j
  · subst hj;exact .inl ⟨rfl,get_set_eq h⟩
  · exact .inr ⟨hj,get_set_ne hj h⟩
theorem RS.set (r:RS K B O0 O1 H ρ σ) {i:Nat} {d:D} {v:V} (h:Rep K (mask (O0++O1) H) d v):RS K B O0 O1 H (ρ.set i (some (.val d))) (σ.set i (some v)):=by
  have other:∀ {j:Nat} {o:Option V},i≠j->(σ.set i (some v))[j]?=some o->σ[j]?=some o:=fun hn q=>by rwa [List.getElem?_set_ne hn] at q
  refine ⟨by simpa using r.len,r.same,r.thB,r.new,r.th,fun j e q=>?_,fun j e q=>?_,fun j k d1 d2 a q1 q2 q3 q4=>?_⟩
  · rcases set_val_ne q with ⟨rfl,z⟩ | ⟨hn,q'⟩
    · cases z
      have hi:i < ρ.length:=by simpa using (List.getElem?_eq_some_iff.mp q).1
      exact ⟨v,by rw [List.getElem?_set_self (by rw [<- r.len];exact hi)],h⟩
    · obtain ⟨w,h1,h2⟩:=r.vals j e q'
      exact ⟨w,by rw [List.getElem?_set_ne hn];exact h1,h2⟩
  · rcases set_val_ne q with ⟨rfl,z⟩ | ⟨hn,q'⟩
    · cases z
    · obtain ⟨a,h1,h2,h3⟩:=r.owns j e q'
      exact ⟨a,by rw [List.getElem?_set_ne hn];exact h1,h2,h3⟩
  · rcases set_val_ne q1 with ⟨rfl,z⟩ | ⟨hn,q1'⟩
    · cases z
    · rcases set_val_ne q2 with ⟨rfl,z⟩ | ⟨hn2,q2'⟩
      · cases z
      · exact r.apart j k d1 d2 a q1' q2' (other hn q3) (other hn2 q4)
theorem RS.sets:∀ (ws:List (Nat×D)) (vs:List V) {ρ:DEnv} {σ:St},RS K B O0 O1 H ρ σ->Reps K (mask (O0++O1) H) (ws.map (·.2)) vs->RS K B O0 O1 H (setD ρ ws) (setS σ ws vs)
  | [],_,_,_,r,_=>r
  | w::ws,_,ρ,σ,r,⟨v,vr,e,h,t⟩=>by
    subst e
    exact RS.sets ws vr (r.set h) t
theorem RS.setOwn (r:RS K B O0 O1 H ρ σ) {i:Nat} {d:D} {a:Addr} {o:HO} (hn:H a=none) (hm:isMut o) (h:OwnRep K (O0++a::O1) (upd H a o) d a) :
    RS K B O0 (a::O1) (upd H a o) (ρ.set i (some (.own d))) (σ.set i (some (.ref a))):=by
  have s:Same (mask (O0++O1) H) (mask (O0++a::O1) (upd H a o)):=fun b u q=>by
    have hb:b∉O0++O1:=fun m=>by rw [mask_in m] at q;cases q
    rw [mask_out hb] at q
    have hba:b≠a:=ne_of_none q hn
    rw [mask_out (fun m=>hb (by
      rcases List.mem_append.mp m with z | z
      · exact List.mem_append_left _ z
      · rcases List.mem_cons.mp z with z | z
        · exact absurd z hba
        · exact List.mem_append_right _ z)),upd_ne hba]
    exact q
  have noB:B a=none:=by
    cases q:B a with
    | none=>rfl
    | some u=>rw [r.same a u q] at hn;cases hn
  have naO:a∉O1:=r.th.fresh hn
  have other:∀ {j:Nat} {x:Option V},i≠j->(σ.set i (some (.ref a)))[j]?=some x->σ[j]?=some x:=fun hn q=>by rwa [List.getElem?_set_ne hn] at q
  have fresh:∀ {j:Nat} {e:D} {b:Addr},ρ[j]?=some (some (.own e))->σ[j]?=some (some (.ref b))->b≠a:=fun {j e b} q1 q2=>by
    obtain ⟨b',h1,h2,_⟩:=r.owns j e q1
    rw [q2] at h1;cases h1
    intro z;subst z;exact naO h2
  refine ⟨by simpa using r.len,Same.trans r.same (Same.new hn),r.thB,fun b hb=>?_,fun b hb=>?_,fun j e q=>?_,fun j e q=>?_,fun j k d1 d2 b q1 q2 q3 q4=>?_⟩
  · rcases List.mem_cons.mp hb with z | z
    · rw [z];exact noB
    · exact r.new b z
  · rcases List.mem_cons.mp hb with z | z
    · rw [z];exact ⟨o,upd_same,hm⟩
    · obtain ⟨u,e,m⟩:=r.th b z
      exact ⟨u,Same.new hn _ _ e,m⟩
  · rcases set_val_ne q with ⟨rfl,z⟩ | ⟨hj,q'⟩
    · cases z
    · obtain ⟨w,h1,h2⟩:=r.vals j e q'
      exact ⟨w,by rw [List.getElem?_set_ne hj];exact h1,Rep.mono s e w h2⟩
  · rcases set_val_ne q with ⟨rfl,z⟩ | ⟨hj,q'⟩
    · cases z
      have hi:i < ρ.length:=by simpa using (List.getElem?_eq_some_iff.mp q).1
      exact ⟨a,by rw [List.getElem?_set_self (by rw [<- r.len];exact hi)],List.mem_cons_self,h⟩
    · obtain ⟨b,h1,h2,h3⟩:=r.owns j e q'
      exact ⟨b,by rw [List.getElem?_set_ne hj];exact h1,List.mem_cons_of_mem _ h2,h3.mono s fun u z=>Same.new hn _ _ z⟩
  · rcases set_val_ne q1 with ⟨rfl,z1⟩ | ⟨hj,q1'⟩
    · rcases set_val_ne q2 with ⟨rfl,z2⟩ | ⟨hk,q2'⟩
      · rfl
      · exfalso
        have hi:i < σ.length:=by
          have:=(List.getElem?_eq_some_iff.mp q3).1
          simpa using this
        rw [List.getElem?_set_self hi] at q3
        cases q3
        exact fresh q2' (other hk q4) rfl
    · rcases set_val_ne q2 with ⟨rfl,z2⟩ | ⟨hk,q2'⟩
      · exfalso
        have hi:i < σ.length:=by
          have:=(List.getElem?_eq_some_iff.mp q4).1
          simpa using this
        rw [List.getElem?_set_self hi] at q4
        cases q4
        exact fresh q1' (other hj q3) rfl
      · exact r.apart j k d1 d2 b q1' q2' (other hj q3) (other hk q4)
theorem RS.write (r:RS K B O0 O1 H ρ σ) {i:Nat} {d d':D} {a:Addr} {o:HO} (hi:ρ[i]?=some (some (.own d))) (ha:σ[i]?=some (some (.ref a))) (hm:isMut o) (h:OwnRep K (O0++O1) (upd H a o) d' a) :
    RS K B O0 O1 (upd H a o) (ρ.set i (some (.own d'))) σ:=by
  obtain ⟨a',h1,h2,h3⟩:=r.owns i d hi
  rw [ha] at h1;cases h1
  have em:mask (O0++O1) (upd H a o)=mask (O0++O1) H:=by
    funext b
    by_cases hb:b∈O0++O1
    · rw [mask_in hb,mask_in hb]
    · rw [mask_out hb,mask_out hb,upd_ne (fun z=>hb (by rw [z];exact List.mem_append_right _ h2))]
  have hil:i < ρ.length:=(List.getElem?_eq_some_iff.mp hi).1
  have un:∀ {j:Nat} {e:D} {b:Addr},i≠j->ρ[j]?=some (some (.own e))->σ[j]?=some (some (.ref b))->b≠a:=fun {j e b} hn q1 q2 z=>by
    subst z;exact hn (r.apart i j d e b hi q1 ha q2)
  have sB:Same B (upd H a o):=fun b u q=>by
    have:b≠a:=fun z=>by subst z;rw [r.new b h2] at q;cases q
    rw [upd_ne this];exact r.same b u q
  refine ⟨by simpa using r.len,sB,r.thB,r.new,fun b hb=>?_,fun j e q=>?_,fun j e q=>?_,fun j k d1 d2 b q1 q2 q3 q4=>?_⟩
  · by_cases z:b=a
    · rw [z];exact ⟨o,upd_same,hm⟩
    · rw [upd_ne z];exact r.th b hb
  · rcases set_val_ne q with ⟨rfl,z⟩ | ⟨hj,q'⟩
    · cases z
    · obtain ⟨w,e1,e2⟩:=r.vals j e q'
      rw [em];exact ⟨w,e1,e2⟩
  · rcases set_val_ne q with ⟨rfl,z⟩ | ⟨hj,q'⟩
    · cases z;exact ⟨a,ha,h2,h⟩
    · obtain ⟨b,e1,e2,e3⟩:=r.owns j e q'
      refine ⟨b,e1,e2,e3.mono (by rw [em];exact (Same.refl _)) fun u z=>?_⟩
      rw [upd_ne (un hj q' e1)];exact z
  · rcases set_val_ne q1 with ⟨rfl,z1⟩ | ⟨hj,q1'⟩
    · rcases set_val_ne q2 with ⟨rfl,z2⟩ | ⟨hk,q2'⟩
      · rfl
      · exact r.apart i k d d2 b hi q2' q3 q4
    · rcases set_val_ne q2 with ⟨rfl,z2⟩ | ⟨hk,q2'⟩
      · exact r.apart j i d1 d b q1' hi q3 q4
      · exact r.apart j k d1 d2 b q1' q2' q3 q4
theorem RS.rebase (r:RS K B O0 O1 H ρ σ):RS K (mask O1 H) O0 O1 H ρ σ :=
  ⟨r.len,mask_sub,fun a m=>by
    obtain ⟨o,e,k⟩:=r.th0 a m
    exact ⟨o,by rw [mask_out fun z=>r.disj z m];exact e,k⟩,fun a m=>mask_in m,r.th,r.vals,r.owns,r.apart⟩
theorem RS.debase {Hb:Hp} {Ob O2:List Addr} {ρ0:DEnv} {σ0:St} (r0:RS K B O0 Ob Hb ρ0 σ0) (r:RS K (mask Ob Hb) O0 O2 H ρ σ):RS K B O0 O2 H ρ σ:=by
  have sb:Same B (mask Ob Hb):=fun b u q=>by
    rw [mask_out fun m=>by rw [r0.new b m] at q;cases q]
    exact r0.same b u q
  refine ⟨r.len,Same.trans sb r.same,r0.thB,fun a m=>?_,r.th,r.vals,r.owns,r.apart⟩
  cases q:B a with
  | none=>rfl
  | some u =>
    have h1:=r.new a m
    rw [sb a u q] at h1
    cases h1
end
inductive Out where
  | nx (ρ:DEnv) | rt (d:D) | bk (ρ:DEnv) | ct (ρ:DEnv) | bad
abbrev FS:=DEnv->Out
def post (K:PySem.W.Frag) (B:Hp) (O0:List Addr) (E:Ends):Out->Prop
  | .nx ρ=>∀ σ H O1,RS K B O0 O1 H ρ σ->E.nx σ H
  | .rt d=>∀ v H,Same B H->Rep K (mask O0 H) d v->E.rt v H
  | .bk ρ=>∀ σ H O1,RS K B O0 O1 H ρ σ->E.bk σ H
  | .ct ρ=>∀ σ H O1,RS K B O0 O1 H ρ σ->E.ct σ H
  | .bad=>False
def tS (K:PySem.W.Frag) (F:FS):TS:=fun E σ H=>∃ B O0 O1 ρ,RS K B O0 O1 H ρ σ/\post K B O0 E (F ρ)
def SV (X:Cx) (st:Stmt) (F:FS):Prop:=PS X st (tS X.K F)
def SVs (X:Cx) (sts:List Stmt) (F:FS):Prop:=PSs X sts (tS X.K F)
theorem PS.imp {X:Cx} {e:Stmt} {t t':TS} (h:PS X e t) (k:∀ D σ H,t' D σ H->t D σ H):PS X e t':=fun pins s σ H D I hw=>h pins s σ H D I (k D σ H hw)
theorem PSs.imp {X:Cx} {e:List Stmt} {t t':TS} (h:PSs X e t) (k:∀ D σ H,t' D σ H->t D σ H):PSs X e t':=fun pins s σ H D I hw=>h pins s σ H D I (k D σ H hw)
def oSeq (o:Out) (G:FS):Out:=match o with
  | .nx ρ=>G ρ
  | o=>o
def sSeq (F G:FS):FS:=fun ρ=>oSeq (F ρ) G
def sNx:FS:=fun ρ=>.nx ρ
mutual
def imm:D->Bool
  | .tup ds=>imms ds
  | .lst _=>false
  | .scr _=>false
  | .dcK _ _=>false
  | .dcT _ _=>false
  | .dcF _ ds=>imms ds
  | _=>true
def imms:List D->Bool
  | []=>true
  | d::ds=>imm d && imms ds
end
def sSet (i:Nat) (f:FE):FS:=fun ρ=>match f (valV' ρ) with | some d=>.nx (ρ.set i (some (.val d))) | none=>.bad
def sSetI (i:Nat) (f:FE):FS:=fun ρ=>match f (allV ρ) with | some d=>if imm d=true then .nx (ρ.set i (some (.val d))) else .bad | none=>.bad
def sRet (f:FE):FS:=fun ρ=>match f (allV ρ) with | some d=>.rt d | none=>.bad
def sIf (g:FT) (F G:FS):FS:=fun ρ=>match g (allV ρ) with | some true=>F ρ | some false=>G ρ | none=>.bad
def sBad:FS:=fun _=>.bad
def forD (t:FG) (F:FS):List D->DEnv->Out
  | [],ρ=>.nx ρ
  | d::ds,ρ=>match t d with
    | none=>.bad
    | some ws=>match F (setD ρ ws) with
      | .nx ρ'=>forD t F ds ρ'
      | .ct ρ'=>forD t F ds ρ'
      | .bk ρ'=>.nx ρ'
      | .rt d=>.rt d
      | .bad=>.bad
def sFor (fi:FA) (t:FG) (F:FS):FS:=fun ρ=>match fi (valV' ρ) with | some ds=>forD t F ds ρ | none=>.bad
def sForA (fi:FA) (t:FG) (F:FS):FS:=fun ρ=>match fi (allV ρ) with | some ds=>forD t F ds ρ | none=>.bad
section
variable {X:Cx} {st:Stmt} {rest:List Stmt} {F G:FS} {pos:Pos}
theorem svs_nil:SVs X [] sNx:=PSs.imp pss_nil fun D σ H ⟨B,O0,O1,ρ,r,q⟩=>q σ H O1 r
theorem svs_one (h:SV X st F):SVs X [st] F:=pss_one h
theorem svs_cons (h1:SV X st F) (h2:SVs X rest G):SVs X (st::rest) (sSeq F G):=PSs.imp (pss_cons h1 h2) fun E σ H ⟨B,O0,O1,ρ,r,q⟩=>by
  refine ⟨B,O0,O1,ρ,r,?_⟩
  unfold sSeq at q
  cases e:F ρ with
  | nx ρ'=>rw [e] at q;exact fun σ' H' O' r'=>⟨B,O0,O',ρ',r',q⟩
  | rt d=>rw [e] at q;exact q
  | bk ρ'=>rw [e] at q;exact q
  | ct ρ'=>rw [e] at q;exact q
  | bad=>rw [e] at q;exact q.elim
theorem svs_bad {sts:List Stmt}:SVs X sts sBad:=PSs.imp pss_never fun D σ H ⟨B,O0,O1,ρ,r,q⟩=>q.elim
theorem sv_ret {e:Expr} {f:FE} (h:EV X e f):SV X (.Return (some e) pos) (sRet f):=PS.imp (ps_ret h) fun E σ H ⟨B,O0,O1,ρ,r,q⟩=>by
  unfold sRet at q
  cases e:f (allV ρ) with
  | none=>rw [e] at q;exact q.elim
  | some d =>
    rw [e] at q
    exact ⟨O0,allV ρ,d,r.all,e,fun v H' s rep=>q v H' (Same.trans r.same s) rep⟩
theorem sv_if {c:Expr} {a b:List Stmt} {g:FT} (hc:TV X c g) (ha:SVs X a F) (hb:SVs X b G):SV X (.If c a b pos) (sIf g F G):=PS.imp (ps_if hc ha hb) fun E σ H ⟨B,O0,O1,ρ,r,q⟩=>by
  unfold sIf at q
  cases e:g (allV ρ) with
  | none=>rw [e] at q;exact q.elim
  | some k =>
    rw [e] at q
    refine ⟨O0,allV ρ,k,r.all,e,fun H' s=>?_⟩
    cases k with
    | true=>rw [if_pos rfl];exact ⟨B,O0,O1,ρ,r.mono s,q⟩
    | false=>rw [if_neg Bool.false_ne_true];exact ⟨B,O0,O1,ρ,r.mono s,q⟩
theorem sv_set {i:Nat} {x:Str} {e:Expr} {f:FE} {pos':Pos} (hN:X.N.Nodup) (h:EV X e f) (hi:X.N[i]?=some x:=by rfl) (hx:Loc X.env.scope x:=by first | exact Or.inl rfl | exact Or.inr rfl) (hs:swapsWith e (some (.Name x pos')) pos.line X.env=pure false:=by rfl)
    (hf:X.fn x=true\/X.env.scope.names.lookup x=some .local:=by first | exact .inl rfl | exact .inr rfl):SV X (.Assign [.Name x pos'] e pos) (sSet i f):=PS.imp (ps_set hN hi hx h hs hf) fun E σ H ⟨B,O0,O1,ρ,r,q⟩=>by
  unfold sSet at q
  cases e:f (valV' ρ) with
  | none=>rw [e] at q;exact q.elim
  | some d =>
    rw [e] at q
    exact ⟨O0++O1,valV' ρ,d,r.val,e,fun v H' s rep=>q _ H' O1 ((r.mono s).set rep)⟩
mutual
theorem rep_imm {K:PySem.W.Frag} {O O':List Addr} {H:Hp} (th:There O' H):∀ (d:D) (v:V),imm d=true->Rep K (mask O H) d v->Rep K (mask (O++O') H) d v
  | .non,_,_,r=>r
  | .bl _,_,_,r=>r
  | .int _,_,_,r=>r
  | .str _,_,_,r=>r
  | .tup ds,_,e,⟨a,vs,ev,ht,rs⟩=>⟨a,vs,ev,by
      have key:∀ {o:HO},mask O H a=some o->¬ isMut o->mask (O++O') H a=some o:=fun {o} q nm=>by
        have h1:=mask_sub _ _ q
        refine (mask_out fun m=>?_).trans h1
        rcases List.mem_append.mp m with z | z
        · rw [mask_in z] at q;cases q
        · obtain ⟨u,e1,e2⟩:=th a z
          rw [h1] at e1;cases e1;exact nm e2
      exact key ht fun z=>z,reps_imm th ds vs e rs⟩
  | .dcF ks ds,_,e,⟨a,fo,kvs,ev,ht,hk,rs⟩=>⟨a,fo,kvs,ev,by
      have h1:=mask_sub _ _ ht
      refine (mask_out fun m=>?_).trans h1
      rcases List.mem_append.mp m with z | z
      · rw [mask_in z] at ht;cases ht
      · obtain ⟨u,e1,e2⟩:=th a z
        rw [h1] at e1;cases e1;exact e2,hk,reps_imm th ds _ e rs⟩
  | .lst _,_,e,_=>by cases e
  | .scr _,_,e,_=>by cases e
  | .dcK _ _,_,e,_=>by cases e
  | .dcT _ _,_,e,_=>by cases e
theorem reps_imm {K:PySem.W.Frag} {O O':List Addr} {H:Hp} (th:There O' H):∀ (ds:List D) (vs:List V),imms ds=true->Reps K (mask O H) ds vs->Reps K (mask (O++O') H) ds vs
  | [],_,_,r=>r
  | d::ds,_,e,⟨v,vr,ev,r,rs⟩=>⟨v,vr,ev,rep_imm th d v (by simp only [imms,Bool.and_eq_true] at e;exact e.1) r,reps_imm th ds vr (by simp only [imms,Bool.and_eq_true] at e;exact e.2) rs⟩
end
theorem sv_setC {scope:Scope} {elt tg iter:Expr} {ifs:List Expr} {cpos sp pos':Pos} {fi:FA} {t:FG} {gt:FT} {fe:FE} {i:Nat} {x:Str} (N:List Str) (n:Nat) (ix:List Nat) (hok:TgOk n t) (hN:X.N.Nodup) (hc:X.calm=true) (hi:IV X tg iter fi)
    (hg:∀ cl C s H fp,GV (cxComp X N scope cl C s H fp) tg t) (ht:∀ cl C s H fp,TVs (cxComp X N scope cl C s H fp) ifs gt) (he:∀ cl C s H fp,EV (cxComp X N scope cl C s H fp) elt fe)
    (hx0:X.N[i]?=some x:=by rfl) (hx:Loc X.env.scope x:=by first | exact Or.inl rfl | exact Or.inr rfl)
    (hsw:swapsWith (.ListComp elt [⟨tg,iter,ifs,0⟩] scope cpos) (some (.Name x pos')) sp.line X.env=pure true:=by rfl)
    (hk:scope.kind=.function:=by rfl) (hcell:(scope.names.all fun y=>!(y.2 == .cell))=true:=by rfl) (hnames:(scope.names.all fun y=>!(y.2 == .local) || (scope.names.lookup y.1 == some .local))=true:=by rfl)
    (hNl:N.length=n+ix.length:=by rfl) (hout:outOk X.N N n scope X.env ix=true:=by rfl) (hfree:freeOk scope X.env.cells=true:=by rfl) (hs:∀ x,foldedSetIterable iter X.env x=pure x:=by intro _;rfl)
    (hf:X.fn x=true\/X.env.scope.names.lookup x=some .local:=by first | exact .inl rfl | exact .inr rfl) :
    SV X (.Assign [.Name x pos'] (.ListComp elt [⟨tg,iter,ifs,0⟩] scope cpos) sp) (sSet i (fComp n ix fi t gt fe)) :=
  PS.imp (ps_setC (g:=tG X.K t) (tt:=tT X.K gt) (te:=tD X.K fe) N n ix hN hx0 hx hc hi hg ht he hsw hk hcell hnames hNl hout hfree hs hf) fun E σ H ⟨B,O0,O1,ρ,r,q⟩=>by
    unfold sSet at q
    cases e:fComp n ix fi t gt fe (valV' ρ) with
    | none=>rw [e] at q;exact q.elim
    | some d =>
      rw [e] at q
      obtain ⟨ys,rfl,hh⟩:=fComp_some e
      exact comp_reads (fun {_}=>trivial) hok ⟨O0++O1,valV' ρ,ys,r.val,hh,fun a vs H' s hn rep=>q _ _ O1 ((r.mono (Same.trans s (Same.new hn))).set (rep_new_lst (r.val.th.mono s) hn rep))⟩
theorem post_imp {K:PySem.W.Frag} {B B':Hp} {O0:List Addr} {E:Ends} (sb:Same B B') (k:∀ {H:Hp} {O1:List Addr} {ρ:DEnv} {σ:St},RS K B' O0 O1 H ρ σ->RS K B O0 O1 H ρ σ):∀ (o:Out),post K B O0 E o->post K B' O0 E o
  | .nx _,q=>fun σ H O1 r=>q σ H O1 (k r)
  | .rt _,q=>fun v H s r=>q v H (Same.trans sb s) r
  | .bk _,q=>fun σ H O1 r=>q σ H O1 (k r)
  | .ct _,q=>fun σ H O1 r=>q σ H O1 (k r)
  | .bad,q=>q
theorem for_reads {K:PySem.W.Frag} {t:FG} {F:FS} {B:Hp} {O0:List Addr} {E:Ends} {J:It} {ds:List D} (wk:∀ {O1:List Addr} {H:Hp} {ρ:DEnv} {σ:St},RS K B O0 O1 H ρ σ->∀ i,
      (∀ d,ds[i]?=some d->J.go i H/\∀ x H',J.yld i H x H'->Same H H'/\Rep K (mask (O0++O1) H') d x)/\(ds.length<=i->J.stop i H))
    {O1:List Addr} {H:Hp} {ρ:DEnv} {σ:St} (r:RS K B O0 O1 H ρ σ) (q:post K B O0 E (forD t F ds ρ)) :
    ∃ W:Nat->Nat->St->Hp->Prop,(∃ m,W 0 m σ H)/\∀ i m σ H,W i m σ H ->
      (J.stop i H/\E.nx σ H)\/(J.go i H/\∃ N:St->Hp->Prop,(∀ σ' H',N σ' H'->∃ m',m' < m/\W (i+1) m' σ' H')/\∀ x H',J.yld i H x H'->tG K t x σ H' fun σ2 H2=>tS K F { E with nx:=N,ct:=N,bk:=E.nx } σ2 H2):=by
  refine ⟨fun i m σ H=>m=ds.length - i/\i<=ds.length/\∃ O1 ρ,RS K B O0 O1 H ρ σ/\post K B O0 E (forD t F (ds.drop i) ρ),⟨ds.length,by simp,Nat.zero_le _,O1,ρ,r,by simpa using q⟩,?_⟩
  rintro i m σ H ⟨rfl,hi,O1,ρ,r,q⟩
  have w:=wk r i
  by_cases hlt:i < ds.length
  · have hd:ds.drop i=ds[i]::ds.drop (i+1):=List.drop_eq_getElem_cons hlt
    have hg:ds[i]?=some ds[i]:=List.getElem?_eq_getElem hlt
    obtain ⟨go,yl⟩:=w.1 _ hg
    refine .inr ⟨go,fun σ' H'=>∃ O1 ρ,RS K B O0 O1 H' ρ σ'/\post K B O0 E (forD t F (ds.drop (i+1)) ρ),fun σ' H' h=>⟨ds.length - (i+1),by omega,rfl,hlt,h⟩,fun x H' hy=>?_⟩
    obtain ⟨s,rx⟩:=yl x H' hy
    rw [hd] at q
    unfold forD at q
    cases e:t ds[i] with
    | none=>rw [e] at q;exact q.elim
    | some ws =>
      rw [e] at q
      dsimp only at q
      have r':=r.mono s
      refine ⟨O0++O1,_,ws,There.app r'.th0 r'.th,rx,e,fun vs rs=>?_⟩
      refine ⟨B,O0,O1,setD ρ ws,r'.sets ws vs rs,?_⟩
      cases e2:F (setD ρ ws) with
      | nx ρ'=>rw [e2] at q;exact fun σ2 H2 O2 r2=>⟨O2,ρ',r2,q⟩
      | ct ρ'=>rw [e2] at q;exact fun σ2 H2 O2 r2=>⟨O2,ρ',r2,q⟩
      | bk ρ'=>rw [e2] at q;exact q
      | rt d=>rw [e2] at q;exact q
      | bad=>rw [e2] at q;exact q.elim
  · have e:i=ds.length:=by omega
    subst e
    rw [List.drop_length] at q
    exact .inl ⟨w.2 (Nat.le_refl _),q σ H O1 r⟩
theorem sv_for {tg iter:Expr} {body:List Stmt} {fi:FA} {t:FG} (hp:PassesOwn (model X.prog X.w) X.A X.env X.xe) (hc:X.calm=true) (hi:IV X tg iter fi) (hg:GV X tg t) (hb:SVs X body F)
    (hs:∀ x,foldedSetIterable iter X.env x=pure x:=by intro _;rfl):SV X (.For tg iter body [] pos) (sFor fi t F):=PS.imp (ps_for hp hc hi hg hb hs) fun E σ H ⟨B,O0,O1,ρ,r,q⟩=>by
  unfold sFor at q
  cases e:fi (valV' ρ) with
  | none=>rw [e] at q;exact q.elim
  | some ds =>
    rw [e] at q
    refine ⟨O0++O1,valV' ρ,ds,r.val,e,fun J H1 s1 wk=>?_⟩
    have r1:=r.mono s1
    refine for_reads (B:=mask O1 H1) (O0:=O0) (fun {O2 H2 ρ2 σ2} r2 i=>wk H2 (O0++O2) (fun b u z=>?_) (There.app r2.th0 r2.th) i) r1.rebase (post_imp (fun b u z=>?_) (fun r3=>r1.debase r3) _ q)
    · have hb1:b∉O0++O1:=fun m=>by rw [mask_in m] at z;cases z
      have z1:=mask_sub _ _ z
      have z2:mask O1 H1 b=some u:=by rw [mask_out fun m=>hb1 (List.mem_append_right _ m)];exact z1
      have z3:=r2.same b u z2
      refine (mask_out fun m=>?_).trans z3
      rcases List.mem_append.mp m with w | w
      · exact hb1 (List.mem_append_left _ w)
      · rw [r2.new b w] at z2;cases z2
    · rw [mask_out fun m=>by rw [r1.new b m] at z;cases z]
      exact r1.same b u z
theorem sv_forA {tg iter:Expr} {body:List Stmt} {fi:FA} {t:FG} (hp:PassesOwn (model X.prog X.w) X.A X.env X.xe) (hc:X.calm=true) (hi:IVA X tg iter fi) (hg:GV X tg t) (hb:SVs X body F)
    (hs:∀ x,foldedSetIterable iter X.env x=pure x:=by intro _;rfl):SV X (.For tg iter body [] pos) (sForA fi t F):=PS.imp (ps_for hp hc hi hg hb hs) fun E σ H ⟨B,O0,O1,ρ,r,q⟩=>by
  unfold sForA at q
  cases e:fi (allV ρ) with
  | none=>rw [e] at q;exact q.elim
  | some ds =>
    rw [e] at q
    exact ⟨O0,allV ρ,ds,r.all,e,fun J H1 s1 wk=>for_reads (B:=B) (O0:=O0) (fun {O2 H2 ρ2 σ2} r2 i=>wk H2 (O0++O2) (There.app r2.th0 r2.th) i) (r.mono s1) q⟩
end
end L2

namespace L2
open PySem PySem.Spec PyProof.Rows
open Classical in
section
variable {X:Cx} {F G:FS} {pos:Pos}
def tF (K:PySem.W.Frag) (f:FA):TE:=fun σ H Q=>∃ O ρ ds,RV K O H ρ σ/\f ρ=some ds/\∀ a vs H1,Same H H1->H1 a=none->Reps K (mask O H1) ds vs->Q (.ref a) (upd H1 a (.lst vs))
def EVF (X:Cx) (e:Expr) (f:FA):Prop:=PE X e (tF X.K f)
def few (ds:List D):Option (List D):=if ds.length<=limD then some ds else none
theorem few_some {ds es:List D} (h:few ds=some es):es=ds/\ds.length<=sizeLine:=by
  unfold few at h
  split at h
  · rename_i hl;cases h;exact ⟨rfl,limD_le hl⟩
  · cases h
theorem evf_lst {es:List Expr} {f:FA} (h:AV X es f):EVF X (.List es pos) (fR few f):=PE.imp (pe_lst h) fun σ H Q ⟨O,ρ,d,rv,e,q⟩=>by
  obtain ⟨ds,e1,e⟩:=bind_some e
  obtain ⟨rfl,hl⟩:=few_some e
  exact ⟨O,ρ,_,rv,e1,fun vs H1 s1 r1=>⟨by rw [r1.length];exact hl,fun p hp=>q p vs H1 s1 hp r1⟩⟩
theorem evf_list {x:Expr} {p:Pos} {f:FE} (h:EV X x f) (hm:X.mg "list"=none) (hv:bootBuiltins "list"=some (.type "list")) (hg:Gl X "list":=by rfl)
    (he:starEach [x] X.env=(false,eval x X.env)::starEach [] X.env:=by rfl) (hpl:(backTo pos (starEach [] X.env)).any (·.1)=false:=by rfl):EVF X (.Call (.Name "list" p) [x] [] pos) (fItems f) :=
  PE.imp (pe_callTy call_list_of hg hm hv (pa_cons h pa_nil he) (by decide) (by decide) he hpl) fun σ H Q ⟨O,ρ,ds,rv,e,q⟩=>by
    obtain ⟨d,e1,e⟩:=bind_some e
    refine ⟨O,ρ,d,rv,e1,fun v H1 s1 r1=>?_⟩
    cases d with
    | lst es =>
      cases e
      obtain ⟨a,vs,rfl,h1,r⟩:=r1
      exact ⟨a,vs,rfl,.inl (SqL.of (mask_sub _ _ h1)),fun l hl=>q l vs H1 s1 hl r⟩
    | tup es =>
      cases e
      obtain ⟨a,vs,rfl,h1,r⟩:=r1
      exact ⟨a,vs,rfl,.inr (SqT.of (mask_sub _ _ h1)),fun l hl=>q l vs H1 s1 hl r⟩
    | scr ns =>
      cases e
      obtain ⟨a,rfl,h1⟩:=r1
      exact ⟨a,_,rfl,.inl (Same.seq mask_sub h1),fun l hl=>q l _ H1 s1 hl (reps_ints ns)⟩
    | _=>cases e
def fFr (f:FA):FE:=fun ρ=>(f ρ).bind fun ds=>some (.lst ds)
theorem EVF.ev {e:Expr} {f:FA} (h:EVF X e f):EV X e (fFr f):=PE.imp h fun σ H Q ⟨O,ρ,d,rv,e,q⟩=>by
  obtain ⟨ds,e1,e⟩:=bind_some e
  cases e
  exact ⟨O,ρ,ds,rv,e1,fun a vs H1 s1 hn r=>q _ _ (Same.trans s1 (Same.new hn)) (rep_new_lst (rv.th.mono s1) hn r)⟩
def sOwn (i:Nat) (f:FA):FS:=fun ρ=>match f (valV' ρ) with | some ds=>.nx (ρ.set i (some (.own (.lst ds)))) | none=>.bad
theorem same_own {H:Hp} {O0 O1:List Addr} {a:Addr} {o:HO} (hn:H a=none):Same (mask (O0++O1) H) (mask (O0++a::O1) (upd H a o)):=fun b u q=>by
  have hb:b∉O0++O1:=fun m=>by rw [mask_in m] at q;cases q
  rw [mask_out hb] at q
  have hba:b≠a:=ne_of_none q hn
  rw [mask_out (fun m=>hb (by
    rcases List.mem_append.mp m with z | z
    · exact List.mem_append_left _ z
    · rcases List.mem_cons.mp z with z | z
      · exact absurd z hba
      · exact List.mem_append_right _ z)),upd_ne hba]
  exact q
theorem sv_own {i:Nat} {x:Str} {e:Expr} {f:FA} {pos':Pos} (hN:X.N.Nodup) (h:EVF X e f) (hi:X.N[i]?=some x:=by rfl) (hx:Loc X.env.scope x:=by first | exact Or.inl rfl | exact Or.inr rfl) (hs:swapsWith e (some (.Name x pos')) pos.line X.env=pure false:=by rfl)
    (hf:X.fn x=true\/X.env.scope.names.lookup x=some .local:=by first | exact .inl rfl | exact .inr rfl):SV X (.Assign [.Name x pos'] e pos) (sOwn i f):=PS.imp (ps_set hN hi hx h hs hf) fun E σ H ⟨B,O0,O1,ρ,r,q⟩=>by
  unfold sOwn at q
  cases e:f (valV' ρ) with
  | none=>rw [e] at q;exact q.elim
  | some ds =>
    rw [e] at q
    exact ⟨O0++O1,valV' ρ,ds,r.val,e,fun a vs H1 s hn rep=>q _ _ (a::O1) ((r.mono s).setOwn hn trivial ⟨vs,upd_same,Reps.mono (same_own hn) ds vs rep⟩)⟩
end
def start0 (n N:Nat) (ds:List D):DEnv:=ds.map (fun d=>some (.val d))++List.replicate (N - n) none
def runF (n N:Nat) (F:FS):List D->Option D:=fun ds=>if ds.length=n then (match F (start0 n N ds) with | .rt d=>some d | .nx _=>some .non | _=>none) else none
theorem Reps.map_get {K:PySem.W.Frag} {H:Hp} {ds:List D} {vs:List V} {i:Nat} {d:D} (r:Reps K H ds vs) (h:(start0 ds.length (ds.length+0) ds)[i]?=some (some (.val d))):∃ v,vs[i]?=some v/\Rep K H d v:=by
  unfold start0 at h
  simp only [Nat.add_zero,Nat.sub_self,List.replicate_zero,List.append_nil] at h
  obtain ⟨e,h1,h2⟩:=L2.map_get h
  cases h2
  exact r.get h1
theorem fn_data {P:Program} {w:World} {K:PySem.W.Frag} {mg:Str->Option Value} {base:Heap} {x qual:Str} {st:Stmt} {f:Addr} {fd:FuncData} {N ps:List Str} {k:Nat} {F:FS} (Fu:Fun K x qual st f fd) (S:FnScope N ps (defScope st))
    (h:∀ (cdv:Value) (A:Around) (outer:List Env) (s:Shared) (H:Hp) (E:XK),Room k (A.deeper (envOfC qual (defScope st) s.heap.objs.size f cdv))->SVs (cxOf CX0 P w K mg base N qual (defScope st) f cdv A outer s H E).nox (defBody st) F) :
    FnOk P w K mg base CX0 (k+1) f fd ps (spD K (runF ps.length N.length F)):=by
  have hpl:ps.length<=N.length:=by have:=congrArg List.length S.pre;rw [List.length_take] at this;omega
  refine Fu.ok S (fun vs H Q E hs=>?_) fun cdv A outer s H vs Q E hr hs=>?_
  · obtain ⟨O,ds,d,th,rs,e,_⟩:=hs
    rw [rs.length]
    unfold runF at e
    split at e
    · rename_i hl;exact hl
    · cases e
  · obtain ⟨O,ds,d,th,rs,e,q⟩:=hs
    unfold runF at e
    split at e
    · rename_i hl
      refine ⟨_,h cdv A outer s H E hr,?_⟩
      have hvl:vs.length=ps.length:=by rw [rs.length];exact hl
      refine ⟨H,O,[],start0 ps.length N.length ds,⟨?_,(Same.refl _),th,fun a m=>(by cases m),fun a m=>(by cases m),fun i d' q'=>?_,fun i d' q'=>?_,fun i j d1 d2 a q1=>?_⟩,?_⟩
      · unfold start0 start;simp [hl,hvl]
      · unfold start0 at q'
        by_cases hi:i < ds.length
        · rw [List.getElem?_append_left (by simpa using hi)] at q'
          obtain ⟨e',g1,g2⟩:=map_get q'
          cases g2
          obtain ⟨v,g3,g4⟩:=rs.get g1
          refine ⟨v,?_,by rw [List.append_nil];exact g4⟩
          unfold start
          rw [List.getElem?_append_left (by rw [List.length_map,rs.length];exact hi),List.getElem?_map,g3];rfl
        · rw [List.getElem?_append_right (by simpa using hi),List.getElem?_replicate] at q'
          split at q' <;> cases q'
      all_goals
        try (
          exfalso
          have hno:∀ (i:Nat) (d':D),(start0 ps.length N.length ds)[i]?≠some (some (.own d')):=by
            intro i d' z
            unfold start0 at z
            by_cases hi:i < ds.length
            · rw [List.getElem?_append_left (by simpa using hi)] at z
              obtain ⟨e',g1,g2⟩:=map_get z
              cases g2
            · rw [List.getElem?_append_right (by simpa using hi),List.getElem?_replicate] at z
              split at z <;> cases z
          first | exact hno _ _ q' | exact hno _ _ q1)
      cases ef:F (start0 ps.length N.length ds) with
      | rt d' =>
        rw [ef] at e;cases e
        exact fun v H' s' r'=>q v H' s' r'
      | nx ρ' =>
        rw [ef] at e;cases e
        exact fun σ' H' O1 r'=>q .non H' r'.same rfl
      | bk ρ'=>rw [ef] at e;cases e
      | ct ρ'=>rw [ef] at e;cases e
      | bad=>rw [ef] at e;cases e
    · cases e
end L2

namespace L2
open PySem PySem.Spec PyProof.Rows
def intOp (g:Int->Int->D):D->D->Option D
  | .int i,.int j=>some (g i j)
  | _,_=>none
theorem intOp_some {g:Int->Int->D} {x y d:D} (h:intOp g x y=some d):∃ i j,x=.int i/\y=.int j/\d=g i j:=by
  cases x <;> cases y <;> first | (cases h;exact ⟨_,_,rfl,rfl,rfl⟩) | cases h
section
variable {X:Cx}
theorem opd_int {f:Value->Value->Sem Value} {g:Int->Int->V} {g':Int->Int->D} (h:OpR X f (rI0 g)) (hg:∀ (K:PySem.W.Frag) (H:Hp) i j,Rep K H (g' i j) (g i j)):OpD X f (intOp g'):=OpD.of h fun x y H Q ⟨O,dx,dy,d,th,rx,ry,e,q⟩=>by
  obtain ⟨i,j,rfl,rfl,rfl⟩:=intOp_some e
  exact ⟨i,j,rx,ry,q _ H (Same.refl _) (hg _ _ i j)⟩
theorem opd_sub:OpD X (binaryOp .Sub) (intOp fun i j=>.int (i - j)):=opd_int op_sub fun _ _ _ _=>rfl
theorem opd_le:OpD X (compareOp .LtE) (intOp fun i j=>.bl (decide (i<=j))):=opd_int op_le fun _ _ _ _=>rfl
theorem opd_gt:OpD X (compareOp .Gt) (intOp fun i j=>.bl (decide (j < i))):=opd_int op_gt fun _ _ _ _=>rfl
def addD:D->D->Option D
  | .int i,.int j=>some (.int (i+j))
  | .tup a,.tup b=>if a.isEmpty=false/\a.length+b.length<=limD then some (.tup (a++b)) else none
  | .lst a,.lst b=>if a.length+b.length<=limD then some (.lst (a++b)) else none
  | _,_=>none
theorem opd_add:OpD X (binaryOp .Add) addD:=OpD.of (OpR.or op_add (OpR.or op_catT op_cat)) fun x y H Q ⟨O,dx,dy,d,th,rx,ry,e,q⟩=>by
  unfold addD at e
  split at e
  · cases e
    exact .inl ⟨_,_,rx,ry,q _ H (Same.refl _) rfl⟩
  · rename_i a b
    split at e
    · rename_i hl
      cases e
      obtain ⟨p,vs,rfl,hp,rp⟩:=rx
      obtain ⟨p2,us,rfl,hp2,rp2⟩:=ry
      have l1:=rp.length
      have l2:=rp2.length
      refine .inr (.inl ⟨p,p2,vs,us,rfl,rfl,SqT.of (mask_sub _ _ hp),SqT.of (mask_sub _ _ hp2),fun z=>?_,?_,fun z=>?_,fun z r hr=>?_⟩)
      · subst z
        have:a=[]:=List.eq_nil_of_length_eq_zero (by rw [<- l1];rfl)
        rw [this] at hl;exact absurd hl.1 (by decide)
      · have:=limD_le hl.2;omega
      · subst z
        have:b=[]:=List.eq_nil_of_length_eq_zero (by rw [<- l2];rfl)
        subst this
        rw [List.append_nil] at q
        exact q _ H (Same.refl _) ⟨p,vs,rfl,hp,rp⟩
      · exact q _ _ (Same.new hr) (rep_new_tup th hr (rp.append rp2))
    · cases e
  · rename_i a b
    split at e
    · rename_i hl
      cases e
      obtain ⟨p,vs,rfl,hp,rp⟩:=rx
      obtain ⟨p2,us,rfl,hp2,rp2⟩:=ry
      have l1:=rp.length
      have l2:=rp2.length
      refine .inr (.inr ⟨p,p2,vs,us,rfl,rfl,mask_sub _ _ hp,mask_sub _ _ hp2,?_,fun r hr=>?_⟩)
      · have:=limD_le hl;omega
      · exact q _ _ (Same.new hr) (rep_new_lst th hr (rp.append rp2))
    · cases e
  · cases e
noncomputable def small64 (i:Int):Bool:=@decide (-(2 ^ 64) < i/\i < 2 ^ 64) (Classical.propDecidable _)
theorem small64_of {i:Int} (h:small64 i=true):-(2 ^ 64) < i/\i < 2 ^ 64:=@of_decide_eq_true _ (Classical.propDecidable _) h
noncomputable def mulD:D->D->Option D
  | .int i,.int j=>if (small64 i || small64 j)=true then some (.int (i * j)) else none
  | .lst a,.int k=>@ite _ (-(2 ^ 63)<=k/\k < 2 ^ 63/\a.length * k.toNat<=limD) (Classical.propDecidable _) (some (.lst (List.replicate k.toNat a).flatten)) none
  | _,_=>none
theorem reps_rep {K:PySem.W.Frag} {H:Hp} {ds:List D} {vs:List V} (r:Reps K H ds vs):∀ n:Nat,Reps K H (List.replicate n ds).flatten (List.replicate n vs).flatten
  | 0=>rfl
  | n+1=>by rw [List.replicate_succ,List.replicate_succ,List.flatten_cons,List.flatten_cons];exact r.append (reps_rep r n)
theorem opd_mul:OpD X (binaryOp .Mult) mulD:=OpD.of (OpR.or op_mul op_rep) fun x y H Q ⟨O,dx,dy,d,th,rx,ry,e,q⟩=>by
  unfold mulD at e
  split at e
  · rename_i i j
    split at e
    · rename_i hs
      cases e
      refine .inl ⟨i,j,rx,ry,?_,q _ H (Same.refl _) rfl⟩
      rcases Bool.or_eq_true_iff.mp hs with h | h
      · exact .inl (small64_of h)
      · exact .inr (small64_of h)
    · cases e
  · rename_i a k
    split at e
    · rename_i hl
      cases e
      obtain ⟨p,vs,rfl,hp,rp⟩:=rx
      have l1:=rp.length
      refine .inr ⟨p,k,vs,rfl,ry,mask_sub _ _ hp,hl.1,hl.2.1,?_,fun r hr=>?_⟩
      · rw [l1];exact limD_le hl.2.2
      · exact q _ _ (Same.new hr) (rep_new_lst th hr (reps_rep rp _))
    · cases e
  · cases e
noncomputable def fdivD:D->D->Option D
  | .int i,.int j=>@ite _ (0 < j/\j < 1073741824) (Classical.propDecidable _) (some (.int (i / j))) none
  | _,_=>none
theorem opd_fdiv:OpD X (binaryOp .FloorDiv) fdivD:=OpD.of op_fdiv fun x y H Q ⟨O,dx,dy,d,th,rx,ry,e,q⟩=>by
  unfold fdivD at e
  split at e
  · rename_i i j
    split at e
    · rename_i hs
      cases e
      exact ⟨i,j,rx,ry,hs,q _ H (Same.refl _) rfl⟩
    · cases e
  · cases e
def modD:D->D->Option D
  | .int i,.int j=>if 0 < j then some (.int (i % j)) else none
  | _,_=>none
theorem opd_mod:OpD X (binaryOp .Mod) modD:=OpD.of op_mod fun x y H Q ⟨O,dx,dy,d,th,rx,ry,e,q⟩=>by
  unfold modD at e
  split at e
  · rename_i i j
    split at e
    · rename_i hs
      cases e
      exact ⟨i,j,rx,ry,hs,q _ H (Same.refl _) rfl⟩
    · cases e
  · cases e
noncomputable def powD:D->D->Option D
  | .int i,.int j=>@ite _ (0<=j/\j<=1000000/\i.natAbs < 2 ^ 64) (Classical.propDecidable _) (some (.int (i ^ j.toNat))) none
  | _,_=>none
theorem opd_pow:OpD X (binaryOp .Pow) powD:=OpD.of op_pow fun x y H Q ⟨O,dx,dy,d,th,rx,ry,e,q⟩=>by
  unfold powD at e
  split at e
  · rename_i i j
    split at e
    · rename_i hs
      cases e
      exact ⟨i,j,rx,ry,hs,q _ H (Same.refl _) rfl⟩
    · cases e
  · cases e
theorem atI_reps {K:PySem.W.Frag} {H:Hp} {ds:List D} {vs:List V} {i:Int} {d:D} (r:Reps K H ds vs) (h:atI ds i=some d):∃ v,atI vs i=some v/\Rep K H d v:=by
  unfold atI at h ⊢
  rw [r.length]
  cases e:ixN ds.length i with
  | none=>rw [e] at h;cases h
  | some j=>rw [e] at h;exact r.get h
def ixD:D->D->Option D
  | .lst ds,.int i=>atI ds i
  | .tup ds,.int i=>atI ds i
  | .scr ns,.int i=>(atI ns i).map D.int
  | _,_=>none
theorem atI_map {α β:Type} (f:α->β) (xs:List α) (i:Int):atI (xs.map f) i=(atI xs i).map f:=by
  unfold atI
  rw [List.length_map]
  cases ixN xs.length i with
  | none=>rfl
  | some j=>simp
theorem ev_ix {a b:Expr} {fa fb:FE} {pos:Pos} (ha:EV X a fa) (hb:EV X b fb) (hs:PlainIx b:=by exact fun _ _=>rfl):EV X (.Subscript a b pos) (f2 ixD fa fb):=PE.imp (pe_ix (ix_list.or ix_tup) ha hb hs) fun σ H Q h=>two_of (fun x y H Q ⟨O,dx,dy,d,th,rx,ry,e,q⟩=>by
  unfold ixD at e
  split at e
  · obtain ⟨p,vs,rfl,hp,rp⟩:=rx
    obtain ⟨v,e1,e2⟩:=atI_reps rp e
    exact .inl ⟨p,vs,_,v,rfl,ry,SqL.of (mask_sub _ _ hp),e1,q v H (Same.refl _) e2⟩
  · obtain ⟨p,vs,rfl,hp,rp⟩:=rx
    obtain ⟨v,e1,e2⟩:=atI_reps rp e
    exact .inr ⟨p,vs,_,v,rfl,ry,SqT.of (mask_sub _ _ hp),e1,q v H (Same.refl _) e2⟩
  · rename_i ns i
    obtain ⟨p,rfl,hp⟩:=rx
    cases e1:atI ns i with
    | none=>rw [e1] at e;cases e
    | some n =>
      rw [e1] at e;cases e
      exact .inl ⟨p,_,i,.int n,rfl,ry,Same.seq mask_sub hp,by rw [atI_map,e1];rfl,q _ H (Same.refl _) rfl⟩
  · cases e) h
def negD:D->Option D
  | .int i=>some (.int (-i))
  | _=>none
theorem ev_neg {a:Expr} {fa:FE} {pos:Pos} (hu:UnR X (unaryOp .USub) (rU fun i=>.int (-i))) (ha:EV X a fa):EV X (.UnaryOp .USub a pos) (f1 negD fa):=PE.imp (pe_un hu ha) fun σ H Q ⟨O,ρ,d,rv,e,q⟩=>by
  obtain ⟨x,e1,e⟩:=bind_some e
  refine ⟨O,ρ,x,rv,e1,fun v H1 s1 r1=>?_⟩
  cases x with
  | int i=>cases e;exact ⟨i,r1,q _ H1 s1 rfl⟩
  | _=>cases e
def lenD:List D->Option D
  | [.lst ds]=>some (.int ds.length)
  | [.tup ds]=>some (.int ds.length)
  | [.scr ns]=>some (.int ns.length)
  | _=>none
theorem cd_len:CallD X (.builtin "len") lenD:=CallD.of call_len_seq fun xs H Q ⟨O,ds,d,th,rs,e,q⟩=>by
  unfold lenD at e
  split at e
  · rename_i es
    cases e
    obtain ⟨v,vr,rfl,⟨p,vs,rfl,hp,rp⟩,ht⟩:=rs
    have:vr=[]:=ht
    subst this
    refine ⟨p,vs,rfl,.inl (SqL.of (mask_sub _ _ hp)),?_⟩
    rw [rp.length];exact q _ H (Same.refl _) rfl
  · rename_i es
    cases e
    obtain ⟨v,vr,rfl,⟨p,vs,rfl,hp,rp⟩,ht⟩:=rs
    have:vr=[]:=ht
    subst this
    refine ⟨p,vs,rfl,.inr (SqT.of (mask_sub _ _ hp)),?_⟩
    rw [rp.length];exact q _ H (Same.refl _) rfl
  · rename_i ns
    cases e
    obtain ⟨v,vr,rfl,⟨p,rfl,hp⟩,ht⟩:=rs
    have:vr=[]:=ht
    subst this
    refine ⟨p,_,rfl,.inl (Same.seq mask_sub hp),?_⟩
    rw [List.length_map];exact q _ H (Same.refl _) rfl
  · cases e
def tupD:List D->Option D
  | [.lst ds]=>some (.tup ds)
  | [.tup ds]=>some (.tup ds)
  | _=>none
theorem cd_tuple:CallD X (.type "tuple") tupD:=CallD.of call_tuple_of fun xs H Q ⟨O,ds,d,th,rs,e,q⟩=>by
  unfold tupD at e
  split at e
  · rename_i es
    cases e
    obtain ⟨v,vr,rfl,⟨p,vs,rfl,hp,rp⟩,ht⟩:=rs
    have:vr=[]:=ht
    subst this
    exact ⟨p,vs,rfl,.inl ⟨SqL.of (mask_sub _ _ hp),fun l hl=>q _ _ (Same.new hl) (rep_new_tup th hl rp)⟩⟩
  · rename_i es
    cases e
    obtain ⟨v,vr,rfl,⟨p,vs,rfl,hp,rp⟩,ht⟩:=rs
    have:vr=[]:=ht
    subst this
    exact ⟨p,vs,rfl,.inr ⟨SqT.of (mask_sub _ _ hp),q _ H (Same.refl _) ⟨p,vs,rfl,hp,rp⟩⟩⟩
  · cases e
def minD:List D->Option D
  | [.int i,.int j]=>some (.int (if j < i then j else i))
  | _=>none
def maxD:List D->Option D
  | [.int i,.int j]=>some (.int (if j > i then j else i))
  | _=>none
theorem two_ints {K:PySem.W.Frag} {H:Hp} {i j:Int} {xs:List V} (r:Reps K H [.int i,.int j] xs):xs=[.int i,.int j]:=by
  obtain ⟨v,vr,rfl,h1,w,wr,rfl,h2,h3⟩:=r
  rw [show v=_ from h1,show w=_ from h2,show wr=_ from h3]
theorem cd_min (hc:X.calm=true):CallD X (.builtin "min") minD:=CallD.of (call_min2 hc) fun xs H Q ⟨O,ds,d,th,rs,e,q⟩=>by
  unfold minD at e
  split at e
  · cases e;exact ⟨_,_,two_ints rs,q _ H (Same.refl _) rfl⟩
  · cases e
theorem cd_max (hc:X.calm=true):CallD X (.builtin "max") maxD:=CallD.of (call_max2 hc) fun xs H Q ⟨O,ds,d,th,rs,e,q⟩=>by
  unfold maxD at e
  split at e
  · cases e;exact ⟨_,_,two_ints rs,q _ H (Same.refl _) rfl⟩
  · cases e
def intD:List D->Option D
  | [.int i]=>some (.int i)
  | [.bl k]=>some (.int (if k then 1 else 0))
  | _=>none
theorem cd_int:CallD X (.type "int") intD:=CallD.of call_int1 fun xs H Q ⟨O,ds,d,th,rs,e,q⟩=>by
  unfold intD at e
  split at e
  · cases e
    obtain ⟨v,vr,rfl,h1,h3⟩:=rs
    rw [show v=_ from h1,show vr=_ from h3]
    exact .inl ⟨_,rfl,q _ H (Same.refl _) rfl⟩
  · cases e
    obtain ⟨v,vr,rfl,h1,h3⟩:=rs
    rw [show v=_ from h1,show vr=_ from h3]
    exact .inr ⟨_,rfl,q _ H (Same.refl _) rfl⟩
  · cases e
end
end L2

namespace L2
open PySem PySem.Spec PyProof.Rows
mutual
def toPy:D->PyData
  | .non=>.none
  | .bl b=>.bool b
  | .int i=>.int i
  | .str x=>.str x
  | .tup ds=>.tuple (toPys ds)
  | .lst ds=>.list (toPys ds)
  | .scr ns=>.list (ns.map PyData.int)
  | .dcK _ _=>.dict []
  | .dcT _ _=>.dict []
  | .dcF _ _=>.dict []
def toPys:List D->List PyData
  | []=>[]
  | d::ds=>toPy d::toPys ds
end
def okD (d:D):Bool:=(toPy d).canLay0 && decide ((toPy d).depth<=64)
def eqOp:D->D->Option D:=fun x y=>if (okD x && okD y)=true then some (.bl (PyData.eqv (toPy x) (toPy y))) else none
def neOp:D->D->Option D:=fun x y=>if (okD x && okD y)=true then some (.bl (!PyData.eqv (toPy x) (toPy y))) else none
section
variable {X:Cx} {pins:List (Addr×Obj)} {σ:St} {H:Hp} {s:Shared}
theorem reads_ints {h:Heap}:∀ (ns:List Int) (us:List Value),Vals (ns.map V.int) us->∃ as,ReadsAll h us (ns.map PyData.int) as
  | [],_,.nil=>⟨_,.nil⟩
  | n::ns,_,.cons r t=>by
    obtain ⟨tk,rfl⟩:=r
    obtain ⟨as,q⟩:=reads_ints ns _ t
    exact ⟨_,.cons (.int n tk) q⟩
mutual
theorem reads_of (I:Inv X pins σ H s):∀ (d:D) (v:V) (u:Value),(toPy d).canLay0=true->Rep X.K H d v->RelV v u->∃ as,Reads s.heap u (toPy d) as
  | .non,_,_,_,h,r=>by subst h;cases r;exact ⟨_,.none⟩
  | .bl b,_,_,_,h,r=>by subst h;cases r;exact ⟨_,.bool b⟩
  | .int i,_,_,_,h,r=>by subst h;obtain ⟨t,rfl⟩:=r;exact ⟨_,.int i t⟩
  | .str x,_,_,_,h,r=>by subst h;obtain ⟨t,rfl⟩:=r;exact ⟨_,.str x t⟩
  | .tup ds,_,_,c,⟨a,vs,e,ht,rs⟩,r=>by
    subst e
    cases r
    obtain ⟨its,rv,⟨o,h1,h2,n,h3⟩,_⟩:=I.tuple (SqT.of ht)
    obtain ⟨as,q⟩:=readsAll_of I ds vs its c rs rv
    exact ⟨_,.tuple h1 h2 h3 (by simpa using q)⟩
  | .lst ds,_,_,c,⟨a,vs,e,ht,rs⟩,r=>by
    subst e
    cases r
    obtain ⟨its,rv,⟨o,n,h1,h2,_,h3⟩,_⟩:=I.list (SqL.of ht)
    obtain ⟨as,q⟩:=readsAll_of I ds vs its c rs rv
    exact ⟨_,.list h1 h2 h3 (by simpa using q)⟩
  | .scr ns,_,_,c,⟨a,e,ht⟩,r=>by
    subst e
    cases r
    obtain ⟨its,rv,⟨o,n,h1,h2,_,h3⟩,_⟩:=I.list ht
    obtain ⟨as,q⟩:=reads_ints (h:=s.heap) ns its rv
    exact ⟨_,.list h1 h2 h3 (by simpa using q)⟩
  | .dcK _ _,_,_,c,_,_=>by cases c
  | .dcT _ _,_,_,c,_,_=>by cases c
  | .dcF _ _,_,_,c,_,_=>by cases c
theorem readsAll_of (I:Inv X pins σ H s):∀ (ds:List D) (vs:List V) (us:List Value),PyData.canLayAll0 (toPys ds)=true->Reps X.K H ds vs->Vals vs us->∃ as,ReadsAll s.heap us (toPys ds) as
  | [],_,_,_,h,r=>by
    have:_=[]:=h
    subst this
    cases r
    exact ⟨_,.nil⟩
  | d::ds,_,_,c,⟨v,vr,e,h,t⟩,r=>by
    subst e
    cases r with
    | cons r1 r2 =>
      have c':(toPy d).canLay0=true/\PyData.canLayAll0 (toPys ds)=true:=by simpa [toPys,PyData.canLayAll0] using c
      obtain ⟨as,q⟩:=reads_of I d v _ c'.1 h r1
      obtain ⟨bs,q'⟩:=readsAll_of I ds vr _ c'.2 t r2
      exact ⟨_,.cons q q'⟩
end
theorem okD_of {d:D} (h:okD d=true):(toPy d).canLay0=true/\(toPy d).depth<=64:=by
  unfold okD at h
  simpa using h
theorem opd_eq (hu:X.A.units+64 < cLine):OpD X (compareOp .Eq) eqOp:=by
  intro pins s σ H x y v u Q I rx ry h
  obtain ⟨O,dx,dy,d,th,r1,r2,e,q⟩:=h
  unfold eqOp at e
  split at e
  · rename_i hk
    cases e
    obtain ⟨k1,k2⟩:=Bool.and_eq_true_iff.mp hk
    obtain ⟨a1,b1⟩:=okD_of k1
    obtain ⟨a2,b2⟩:=okD_of k2
    obtain ⟨as,q1⟩:=reads_of I dx x v a1 (Rep.mono mask_sub dx x r1) rx
    obtain ⟨bs,q2⟩:=reads_of I dy y u a2 (Rep.mono mask_sub dy y r2) ry
    exact SeqAt.compareEq_reads q1 q2 a1 a2 (by omega) ⟨.bl _,H,I,rfl,q _ H (Same.refl _) rfl⟩
  · cases e
theorem opd_ne (hu:X.A.units+64 < cLine):OpD X (compareOp .NotEq) neOp:=by
  intro pins s σ H x y v u Q I rx ry h
  obtain ⟨O,dx,dy,d,th,r1,r2,e,q⟩:=h
  unfold neOp at e
  split at e
  · rename_i hk
    cases e
    obtain ⟨k1,k2⟩:=Bool.and_eq_true_iff.mp hk
    obtain ⟨a1,b1⟩:=okD_of k1
    obtain ⟨a2,b2⟩:=okD_of k2
    obtain ⟨as,q1⟩:=reads_of I dx x v a1 (Rep.mono mask_sub dx x r1) rx
    obtain ⟨bs,q2⟩:=reads_of I dy y u a2 (Rep.mono mask_sub dy y r2) ry
    exact SeqAt.compareNe_reads q1 q2 a1 a2 (by omega) ⟨.bl _,H,I,rfl,q _ H (Same.refl _) rfl⟩
  · cases e
end
end L2

namespace L2
open PySem PySem.Spec PyProof.Rows
def intsOf:List D->Option (List Int)
  | []=>some []
  | .int i::ds=>(intsOf ds).bind fun r=>some (i::r)
  | _=>none
theorem intsOf_some:∀ {ds:List D} {is:List Int},intsOf ds=some is->ds=is.map D.int
  | [],_,h=>by cases h;rfl
  | d::ds,is,h=>by
    cases d with
    | int i =>
      obtain ⟨r,e,h⟩:=bind_some h
      cases h
      rw [List.map_cons,intsOf_some e]
    | _=>cases h
theorem intsOf_map (is:List Int):intsOf (is.map D.int)=some is:=by
  induction is with
  | nil=>rfl
  | cons i is ih=>rw [List.map_cons,intsOf,ih];rfl
def blsOf:List D->Option (List Bool)
  | []=>some []
  | .bl i::ds=>(blsOf ds).bind fun r=>some (i::r)
  | _=>none
theorem blsOf_some:∀ {ds:List D} {is:List Bool},blsOf ds=some is->ds=is.map D.bl
  | [],_,h=>by cases h;rfl
  | d::ds,is,h=>by
    cases d with
    | bl i =>
      obtain ⟨r,e,h⟩:=bind_some h
      cases h
      rw [List.map_cons,blsOf_some e]
    | _=>cases h
theorem blsOf_map (is:List Bool):blsOf (is.map D.bl)=some is:=by
  induction is with
  | nil=>rfl
  | cons i is ih=>rw [List.map_cons,blsOf,ih];rfl
def sumD:List D->Option D
  | [.lst ds]=>(intsOf ds).bind fun is=>some (.int is.sum)
  | [.tup ds]=>(intsOf ds).bind fun is=>some (.int is.sum)
  | _=>none
def allD:List D->Option D
  | [.lst ds]=>(blsOf ds).bind fun is=>some (.bl (is.all id))
  | _=>none
section
variable {X:Cx} {pins:List (Addr×Obj)} {σ:St} {H:Hp} {s:Shared}
theorem reps1 {K:PySem.W.Frag} {d:D} {xs:List V} (r:Reps K H [d] xs):∃ v,xs=[v]/\Rep K H d v:=by
  obtain ⟨v,vr,e,h,t⟩:=r
  have:vr=[]:=t
  subst this
  exact ⟨v,e,h⟩
theorem vals_bl {is:List Bool}:∀ {us:List Value},Vals (is.map V.bl) us->us=is.map Value.bool:=by
  induction is with
  | nil=>intro us r;cases r;rfl
  | cons i is ih =>
    intro us r
    cases r with
    | cons r1 r2=>rw [List.map_cons,show _=_ from r1,ih r2]
theorem reps_bl {K:PySem.W.Frag}:∀ {is:List Bool} {vs:List V},Reps K H (is.map D.bl) vs->vs=is.map V.bl
  | [],_,h=>h
  | i::is,_,⟨v,r,e,h,t⟩=>by
    have:v=.bl i:=h
    subst this;subst e;rw [List.map_cons,reps_bl t]
theorem range_getD {is:List Bool} (b:Bool):(List.range is.length).map (fun i=>is.getD i b)=is:=by
  apply List.ext_getElem
  · simp
  · intro i h1 h2
    simp at h1
    simp [h2]
theorem list_walk {p:Addr} {is:List Bool} {A:Around} (hh:A.handled=none) (hl:s.heap.IsList p (is.map Value.bool).toArray) {Q:Value->Shared->Prop}
    (h:∀ I fp wr P St,Walks X.prog X.w A I fp wr is.length P St->TruthOf X.prog X.w A P (fun i=>is.getD i false)->∀ s2:Shared,s2.os=s.os->s2={ s with heap:=s2.heap }->St 0 s2.heap->(∀ b o,s.heap.get? b=some o->s2.heap.get? b=some o) ->
      (∀ h':Heap,(∀ b o,b∉wr->s2.heap.get? b=some o->h'.get? b=some o)->∀ b o,s.heap.get? b=some o->h'.get? b=some o)->Q (.ref I) s2) {E:Value->Shared->Prop} :
    wpAny (model X.prog X.w) A (pyIter (.ref p)) Q E s:=by
  have hlt:p < s.heap.objs.size:=by obtain ⟨_,e,_⟩:=hl;exact Heap.lt_size e
  have hsz:(is.map Value.bool).toArray.size=is.length:=by simp
  have W:=Walks.list (prog:=X.prog) (w:=X.w) (A:=A) hh s.heap.objs.size p (Nat.ne_of_lt hlt) (is.map Value.bool).toArray
  rw [hsz] at W
  refine wpAny_pyIter_list hl (h _ _ _ _ _ W (fun i v s' Q' E' hP hQ=>?_) _ rfl rfl ⟨⟨_,Heap.get?_push_size _ rfl,rfl,rfl⟩,hl.push _⟩ (fun b o e=>Heap.get?_push_of_some _ e) fun h' hk b o e=>?_)
  · have hv:v=.bool (is.getD i false):=by
      have hP:(List.map Value.bool is).toArray[i]?=some v:=hP
      rw [List.getElem?_toArray,List.getElem?_map] at hP
      cases q:is[i]? with
      | none=>rw [q] at hP;cases hP
      | some b=>rw [q] at hP;simp [List.getD,q];exact (Option.some.inj hP).symm
    subst hv
    exact wpAny_truthy_bool hQ
  · refine hk b o (fun hm=>?_) (Heap.get?_push_of_some _ e)
    have:b=s.heap.objs.size:=by simpa using hm
    subst this
    exact absurd (Heap.lt_size e) (Nat.lt_irrefl _)
theorem cd_all (hc:X.calm=true):CallD X (.builtin "all") allD:=by
  intro pins s σ H xs us Q I rs h
  obtain ⟨O,ds,d,th,rp,e,q⟩:=h
  unfold allD at e
  split at e
  · obtain ⟨is,e1,e⟩:=bind_some e
    cases e
    cases blsOf_some e1
    obtain ⟨v,rfl,p,vs,rfl,hp,r2⟩:=reps1 rp
    cases reps_bl r2
    obtain ⟨u,rfl,ru⟩:=vals1 rs
    cases ru
    obtain ⟨its,rv,pl,_⟩:=I.list (SqL.of (mask_sub _ _ hp))
    cases vals_bl rv
    refine call_all_walk (list_walk (X:=X) (A:=X.A.in1) (I.ok.hd hc) pl.isList fun It fp wr P St W tr s2 _ es st k1 k2=>?_)
    refine ⟨It,fp,wr,_,P,St,_,rfl,W,st,tr,fun h' tk hk=>?_⟩
    have ea:(List.range is.length).all (fun i=>is.getD i false)=is.all id:=by
      conv=>rhs;rw [<- range_getD (is:=is) false]
      rw [List.all_map];rfl
    rw [ea]
    rw [es]
    exact ⟨.bl _,H,I.kept (k2 h' hk),rfl,q _ H (Same.refl _) rfl⟩
  · cases e
def kindD:D->String
  | .non=>"NoneType"
  | .bl _=>"bool"
  | .int _=>"int"
  | .str _=>"str"
  | .tup _=>"tuple"
  | .lst _=>"list"
  | .scr _=>"list"
  | .dcK _ _=>"dict"
  | .dcT _ _=>"dict"
  | .dcF _ _=>"dict"
def isK (T:String) (d:D):Bool:=(kindD d == T) || ((kindD d == "bool") && (T == "int"))
def isD (T:String):D->Option D:=fun d=>some (.bl (isK T d))
structure Kits (K:PySem.W.Frag) (T:String):Prop where
  ans:∀ S∈["NoneType","bool","int","str","tuple","list","dict"],PySem.W.kitOne K (.type S) (.type T)=some ((S == T) || ((S == "bool") && (T == "int")))
theorem isinst_rep {A:Around} {E:Value->Shared->Prop} {T:String} {d:D} {v:V} {u:Value} {Q:Value->Shared->Prop} (kt:Kits X.K T) (I:Inv X pins σ H s) (r:Rep X.K H d v) (ru:RelV v u) (h:∀ tk,Q (.bool (isK T d)) { s with toks:=tk }) :
    wpAny (model X.prog X.w) A (call (.builtin "isinstance") [u,.type T]) Q E s:=by
  have an:PySem.W.kitOne X.K (.type (kindD d)) (.type T)=some (isK T d):=kt.ans (kindD d) (by cases d <;> simp [kindD])
  cases d with
  | non=>rw [show v=_ from r] at ru;cases ru;exact PySem.W.kia_one PySem.W.kitx_none I.kIn True.intro an (fun z=>nomatch z) h
  | bl y=>rw [show v=_ from r] at ru;cases ru;exact PySem.W.kia_one PySem.W.kitx_bool I.kIn True.intro an (fun z=>nomatch z) h
  | int i=>rw [show v=_ from r] at ru;obtain ⟨t,rfl⟩:=ru;exact PySem.W.kia_one PySem.W.kitx_int I.kIn True.intro an (fun z=>nomatch z) h
  | str y=>rw [show v=_ from r] at ru;obtain ⟨t,rfl⟩:=ru;exact PySem.W.kia_one PySem.W.kitx_str I.kIn True.intro an (fun z=>nomatch z) h
  | tup ds =>
    obtain ⟨a,vs,rfl,ht,_⟩:=r
    cases ru
    obtain ⟨its,_,⟨o,h1,h2,_⟩,_⟩:=I.tuple (SqT.of ht)
    exact PySem.W.kia_one PySem.W.kitx_tuple I.kIn ⟨o,h1,h2⟩ an (fun z=>nomatch z) h
  | lst ds =>
    obtain ⟨a,vs,rfl,ht,_⟩:=r
    cases ru
    obtain ⟨its,_,⟨o,n,h1,h2,_⟩,_⟩:=I.list (SqL.of ht)
    exact PySem.W.kia_one PySem.W.kitx_list I.kIn ⟨o,h1,h2⟩ an (fun z=>nomatch z) h
  | scr ns =>
    obtain ⟨a,rfl,ht⟩:=r
    cases ru
    obtain ⟨its,_,⟨o,n,h1,h2,_⟩,_⟩:=I.list ht
    exact PySem.W.kia_one PySem.W.kitx_list I.kIn ⟨o,h1,h2⟩ an (fun z=>nomatch z) h
  | dcK ks ds =>
    obtain ⟨a,kvs,rfl,hk,_⟩:=r
    cases ru
    obtain ⟨_,_,vs,_,o,es,ep,h1,h2,_⟩:=(show ObjOk X.prog X.w H s.heap a (.dK kvs) from I.hok a _ hk)
    exact PySem.W.kia_one PySem.W.kitx_dict I.kIn ⟨o,h1,h2.1⟩ an (fun z=>nomatch z) h
  | dcT ks ds =>
    obtain ⟨a,kvs,rfl,hk,_⟩:=r
    cases ru
    obtain ⟨_,_,xs,_,o,es,ep,h1,h2,_⟩:=(show ObjOk X.prog X.w H s.heap a (.dT kvs) from I.hok a _ hk)
    exact PySem.W.kia_one PySem.W.kitx_dict I.kIn ⟨o,h1,h2.1⟩ an (fun z=>nomatch z) h
  | dcF ks ds =>
    obtain ⟨a,fo,kvs,rfl,hk,_⟩:=r
    cases ru
    obtain ⟨_,_,_,xs,_,o,es,ep,h1,h2,_⟩:=(show ObjOk X.prog X.w H s.heap a (.frz fo (.dT kvs)) from I.hok a _ hk)
    exact PySem.W.kia_one PySem.W.kitx_dict I.kIn ⟨o,h1,h2.1⟩ an (fun z=>nomatch z) h
theorem call_isinst {T:String} (kt:Kits X.K T):CallR X (.builtin "isinstance") (fun xs H Q=>∃ O d v r,There O H/\xs=[v,.ty T]/\Rep X.K (mask O H) d v/\r=D.bl (isK T d)/\∀ w H',Same H H'->Rep X.K (mask O H') r w->Q w H'):=by
  intro pins s σ H xs us Q I rs h
  obtain ⟨O,d,v,r,th,rfl,hr,rfl,q⟩:=h
  cases rs with
  | cons r1 rs =>
    cases rs with
    | cons r2 rs =>
      cases rs
      cases r2
      exact isinst_rep kt I (Rep.mono mask_sub d v hr) r1 fun tk=>⟨.bl _,H,I.tok tk,rfl,q _ H (Same.refl _) rfl⟩
theorem ev_isinst {a:Expr} {fa:FE} {T:String} {x:Str} {p p2 pos:Pos} (kt:Kits X.K T) (ha:EV X a fa) (hm:X.mg "isinstance"=none) (hx:X.mg x=none) (hv:bootBuiltins x=some (.type T)) (hgx:Gl X x:=by rfl) (hg:Gl X "isinstance":=by rfl)
    (hn:x≠"__name__":=by decide) (hd:(x == ("__debug__":Str))=false:=by decide)
    (h1:starEach [a,.Name x p2] X.env=(false,eval a X.env)::starEach [.Name x p2] X.env:=by rfl) (h2:starEach [.Name x p2] X.env=(false,eval (.Name x p2) X.env)::starEach [] X.env:=by rfl)
    (hpl:(backTo pos (starEach [.Name x p2] X.env)).any (·.1)=false:=by rfl):EV X (.Call (.Name "isinstance" p) [a,.Name x p2] [] pos) (f1 (isD T) fa) :=
  PE.imp (pe_callB (call_isinst kt) hg hm boot_isinstance (pa_cons ha (pa_cons (pe_bltn (v:=.ty T) hgx hx hv rfl hn hd) pa_nil h2) h1) (by decide) (by decide) h1 hpl) fun σ H Q ⟨O,ρ,d,rv,e,q⟩=>by
    obtain ⟨z,e1,e⟩:=bind_some e
    cases e
    exact ⟨O,ρ,z,rv,e1,fun v H1 s1 r1=>⟨O,z,v,_,rv.th.mono s1,rfl,r1,rfl,fun w H2 s2 r2=>q w H2 (Same.trans s1 s2) r2⟩⟩
end
end L2

namespace ZP
open PySem PyProof.Rows
section
variable {prog:Program} {w:World} {A:Around} {E:Value->Shared->Prop} {s:Shared}
def It2 (b:Bool) (h:Heap) (p q:Addr) (k:Nat):Prop:=if b=true then h.IsListIter p q k else h.IsTupleIter p q k
def Sq2 (b:Bool) (h:Heap) (q:Addr) (xs:Array Value):Prop:=if b=true then h.IsList q xs else h.IsTuple q xs
theorem It2.ext {b:Bool} {h h':Heap} {p q c:Addr} {k:Nat} (x:It2 b h p q k) (e:Heap.ExtBut c h h') (n:p≠c):It2 b h' p q k:=by
  cases b
  · obtain ⟨o,ho,r⟩:=x;exact ⟨o,e _ _ n ho,r⟩
  · obtain ⟨o,ho,r⟩:=x;exact ⟨o,e _ _ n ho,r⟩
theorem It2.at_ {b:Bool} {h h':Heap} {p q:Addr} {k:Nat} (x:It2 b h p q k) (e:∀ o,h.get? p=some o->h'.get? p=some o):It2 b h' p q k:=by
  cases b
  · obtain ⟨o,ho,r⟩:=x;exact ⟨o,e _ ho,r⟩
  · obtain ⟨o,ho,r⟩:=x;exact ⟨o,e _ ho,r⟩
theorem It2.ob {b:Bool} {h:Heap} {p q:Addr} {k:Nat} (x:It2 b h p q k):∃ o,h.get? p=some o/\∀ v,o.data≠.cell v:=by
  cases b
  · obtain ⟨o,ho,_,d⟩:=x;exact ⟨o,ho,fun v z=>by rw [d] at z;cases z⟩
  · obtain ⟨o,ho,_,d⟩:=x;exact ⟨o,ho,fun v z=>by rw [d] at z;cases z⟩
theorem Sq2.ext {b:Bool} {h h':Heap} {q c:Addr} {xs:Array Value} (x:Sq2 b h q xs) (e:Heap.ExtBut c h h') (n:q≠c):Sq2 b h' q xs:=by
  cases b
  · obtain ⟨o,ho,r⟩:=x;exact ⟨o,e _ _ n ho,r⟩
  · obtain ⟨o,ho,r⟩:=x;exact ⟨o,e _ _ n ho,r⟩
theorem tup_next {p q:Addr} {k:Nat} {xs:Array Value} {y:Value} {Q:Value->Shared->Prop} (hi:s.heap.IsTupleIter p q k) (hq:s.heap.IsTuple q xs) (hy:xs[k]?=some y)
    (done:∀ h',h'.IsTupleIter p q (k+1)->Heap.SameBut p s.heap h'->Q y { s with heap:=h' }):wpAny (model prog w) A (Builtin.SmallTypes.nextOf (.ref p)) Q E s:=by
  obtain ⟨oi,gi,ci,di⟩:=id hi
  obtain ⟨oq,gq,_,nq,dq⟩:=hq
  unfold Builtin.SmallTypes.nextOf
  refine wpAny_bind (wpAny_callSpecial?_slot (name:=Str.ofString "__next__") hi.typeIs F.slot_tuple_iterator_next (wpAny_call_entry F.slot_tuple_iterator_next hi.typeIs F.entry_tuple_iterator_next ?_ (F.args_tuple_iterator_next_1 _)))
  show wpAny _ _ (field (.ref p) 0 >>= _) _ _ s
  refine wpAny_bind (wpAny_field gi di (x:=.ref q) rfl ?_)
  show wpAny _ _ (if (Value.ref q == Value.none)=true then _ else _) _ _ s
  rw [if_neg (fun z:(Value.ref q == Value.none)=true=>Bool.false_ne_true z)]
  show wpAny _ _ (field (.ref p) 1 >>= _) _ _ s
  refine wpAny_bind (wpAny_field gi di (x:=.int k 0) rfl ?_)
  show wpAny _ _ (seqItems? (.ref q) >>= _) _ _ s
  refine wpAny_bind (wpAny_seqItems gq dq ?_)
  simp only [Int.toNat_natCast,hy]
  refine wpAny_bind (wpAny_setField gi di (by simp) (wpAny_pure ⟨y,rfl,wpAny_pure (done _ ?_ (Heap.SameBut.update ..))⟩))
  refine ⟨_,Heap.get?_update_self _ gi (Obj.isFreed_of_fields (Obj.data_mapFields di _)),(Obj.cls_mapFields ..).trans ci,?_⟩
  rw [Obj.data_mapFields di]
  simp [rawInt]
theorem tup_over {p q:Addr} {k:Nat} {xs:Array Value} {Q:Value->Shared->Prop} (hh:A.handled=none) (hi:s.heap.IsTupleIter p q k) (hq:s.heap.IsTuple q xs) (hy:xs[k]?=none)
    (out:∀ h' e,Heap.ExtBut p s.heap h'->(∃ o,h'.get? e=some o/\o.cls=.type "StopIteration")->E (.ref e) { s with heap:=h' }):wpAny (model prog w) A (Builtin.SmallTypes.nextOf (.ref p)) Q E s:=by
  obtain ⟨oi,gi,ci,di⟩:=id hi
  obtain ⟨oq,gq,_,nq,dq⟩:=hq
  unfold Builtin.SmallTypes.nextOf
  refine wpAny_bind (wpAny_callSpecial?_slot (name:=Str.ofString "__next__") hi.typeIs F.slot_tuple_iterator_next (wpAny_call_entry F.slot_tuple_iterator_next hi.typeIs F.entry_tuple_iterator_next ?_ (F.args_tuple_iterator_next_1 _)))
  show wpAny _ _ (field (.ref p) 0 >>= _) _ _ s
  refine wpAny_bind (wpAny_field gi di (x:=.ref q) rfl ?_)
  show wpAny _ _ (if (Value.ref q == Value.none)=true then _ else _) _ _ s
  rw [if_neg (fun z:(Value.ref q == Value.none)=true=>Bool.false_ne_true z)]
  show wpAny _ _ (field (.ref p) 1 >>= _) _ _ s
  refine wpAny_bind (wpAny_field gi di (x:=.int k 0) rfl ?_)
  show wpAny _ _ (seqItems? (.ref q) >>= _) _ _ s
  refine wpAny_bind (wpAny_seqItems gq dq ?_)
  simp only [Int.toNat_natCast,hy]
  refine wpAny_bind (wpAny_rule (wpAny_bind (wpAny_setField gi di (by simp) ?_)))
  show wpAny _ _ (newExc (.type "StopIteration") [] >>= fun _=>_) _ _ _
  refine wpAny_bind ?_
  simp only [newExc,newTuple]
  refine wpAny_bind (wpAny_newObj_type (hd:=by size_fits) ?_)
  refine wpAny_bind (m:=firstArgMember _ _) (wpAny_of_eq (a:=Value.none) (by first | rfl | (simp only [firstArgMember] <;> rfl)) ?_)
  refine wpAny_newObj_type (hd:=by size_fits) ?_
  simp only [raiseNew]
  refine wpAny_bind (wpAny_handled ?_)
  first | rw [show A.in1.handled=none from hh] | rw [hh]
  refine wpAny_bind (wpAny_pure (wpAny_throw (out _ _ (((Heap.SameBut.update ..).extBut.push _).push _) ⟨_,Heap.get?_push_size _ rfl,rfl⟩)))
theorem next2 {b:Bool} {p q:Addr} {k:Nat} {xs:Array Value} {y:Value} {Q:Value->Shared->Prop} (hi:It2 b s.heap p q k) (hq:Sq2 b s.heap q xs) (hy:xs[k]?=some y)
    (done:∀ h',It2 b h' p q (k+1)->Heap.SameBut p s.heap h'->Q y { s with heap:=h' }):wpAny (model prog w) A (Builtin.SmallTypes.nextOf (.ref p)) Q E s:=by
  cases b
  · exact tup_next hi hq hy done
  · exact wpAny_nextOf_list_item hi hq hy done
theorem over2 {b:Bool} {p q:Addr} {k:Nat} {xs:Array Value} {Q:Value->Shared->Prop} (hh:A.handled=none) (hi:It2 b s.heap p q k) (hq:Sq2 b s.heap q xs) (hy:xs[k]?=none)
    (out:∀ h' e,Heap.ExtBut p s.heap h'->(∃ o,h'.get? e=some o/\o.cls=.type "StopIteration")->E (.ref e) { s with heap:=h' }):wpAny (model prog w) A (Builtin.SmallTypes.nextOf (.ref p)) Q E s:=by
  cases b
  · exact tup_over hh hi hq hy out
  · exact wpAny_nextOf_list_end hh hi hq hy out
structure Apart (c u v p1 p2 q1 q2:Addr):Prop where
  uc:u≠c
  vc:v≠c
  p1c:p1≠c
  p2c:p2≠c
  uv:u≠v
  up1:u≠p1
  up2:u≠p2
  vp1:v≠p1
  vp2:v≠p2
  p12:p1≠p2
  q1c:q1≠c
  q1v:q1≠v
  q1p1:q1≠p1
  q1p2:q1≠p2
  q2c:q2≠c
  q2v:q2≠v
  q2p1:q2≠p1
  q2p2:q2≠p2
variable {b1 b2:Bool} {c u v p1 p2 q1 q2:Addr} {k1 k2:Nat} {xs ys:Array Value} {x y a b:Value}
theorem znext {Q:Value->Shared->Prop} (D:Apart c u v p1 p2 q1 q2) (hz:IsZip s.heap c u v .none) (hu:IsPair s.heap u (.ref p1) (.ref p2)) (hv:IsPair s.heap v a b)
    (g1:It2 b1 s.heap p1 q1 k1) (g2:It2 b2 s.heap p2 q2 k2) (d1:Sq2 b1 s.heap q1 xs) (d2:Sq2 b2 s.heap q2 ys) (hx:xs[k1]?=some x) (hy:ys[k2]?=some y)
    (done:∀ h',IsZip h' c u v (rawInt s.heap.objs.size)->IsPair h' v x y->It2 b1 h' p1 q1 (k1+1)->It2 b2 h' p2 q2 (k2+1)->IsPair h' s.heap.objs.size x y->h'.objs.size=s.heap.objs.size+1 ->
      (∀ m o,m≠c->m≠v->m≠p1->m≠p2->s.heap.get? m=some o->h'.get? m=some o)->Q (.ref s.heap.objs.size) { s with heap:=h' }) :
    wpAny (model prog w) A (Builtin.«zip.__next__» ⟨[.ref c],[]⟩) (fun fin s'=>∃ r,fin=.done (.ret r)/\Q r s') E s:=by
  show wpAny _ _ (field (.ref c) 2 >>= _) _ _ _
  refine wpAny_bind (wpAny_field (x:=.bool false) hz rfl rfl ?_)
  show wpAny _ _ (field (.ref c) 3 >>= _) _ _ _
  refine wpAny_bind (wpAny_field (x:=.ref u) hz rfl rfl ?_)
  refine wpAny_bind (wpAny_seqItems hu rfl ?_)
  show wpAny _ _ (Builtin.SmallTypes.ownedTupleIsFree (.ref c) >>= _) _ _ _
  refine wpAny_bind ?_
  unfold Builtin.SmallTypes.ownedTupleIsFree
  refine wpAny_bind (wpAny_field (x:=.none) hz rfl rfl (wpAny_pure ?_))
  simp only [if_true]
  refine wpAny_bind (wpAny_rule ?_)
  refine wpAny_bind (wpAny_field (x:=.ref v) hz rfl rfl ?_)
  refine wpAny_bind (wpAny_setField_rec hz (by simp) fun e1 z1 t1=>?_)
  replace z1:IsZip e1 c u v .ellipsis:=z1
  refine wpAny_bind ?_
  simp only [List.zipIdx_cons,List.zipIdx_nil,List.forIn_cons,List.forIn_nil]
  refine wpAny_bind (wpAny_bind (wpAny_onRaise ?_))
  show wpAny _ _ (Builtin.SmallTypes.nextOf (.ref p1) >>= _) _ _ _
  refine wpAny_bind (next2 (g1.ext t1.extBut D.p1c) (d1.ext t1.extBut D.q1c) hx fun e2 i2 t2=>wpAny_pure ?_)
  have v2:IsPair e2 v a b:=t2.extBut _ _ D.vp1 (t1.extBut _ _ D.vc hv)
  refine wpAny_bind (wpAny_seqItems v2 rfl ?_)
  refine wpAny_bind (wpAny_updateSeq_pair v2 fun e3 v3 t3=>?_)
  replace v3:IsPair e3 v x b:=v3
  refine wpAny_bind (wpAny_letGo (wpAny_pure ?_))
  refine wpAny_bind (wpAny_bind (wpAny_onRaise ?_))
  show wpAny _ _ (Builtin.SmallTypes.nextOf (.ref p2) >>= _) _ _ _
  refine wpAny_bind (next2 (((g2.ext t1.extBut D.p2c).ext t2.extBut D.p12.symm).ext t3.extBut D.vp2.symm) (((d2.ext t1.extBut D.q2c).ext t2.extBut D.q2p1).ext t3.extBut D.q2v) hy fun e4 i4 t4=>wpAny_pure ?_)
  have v4:IsPair e4 v x b:=t4.extBut _ _ D.vp2 v3
  refine wpAny_bind (wpAny_seqItems v4 rfl ?_)
  refine wpAny_bind (wpAny_updateSeq_pair v4 fun e5 v5 t5=>?_)
  replace v5:IsPair e5 v x y:=v5
  refine wpAny_bind (wpAny_letGo (wpAny_pure (wpAny_pure ?_)))
  refine wpAny_bind (wpAny_seqItems v5 rfl ?_)
  refine wpAny_bind (wpAny_newTuple ?_)
  have hsz:e5.objs.size=s.heap.objs.size:=by rw [t5.1,t4.1,t3.1,t2.1,t1.1]
  have z5:IsZip e5 c u v .ellipsis:=t5.extBut _ _ D.vc.symm (t4.extBut _ _ D.p2c.symm (t3.extBut _ _ D.vc.symm (t2.extBut _ _ D.p1c.symm z1)))
  have k5:∀ m o,m≠c->m≠v->m≠p1->m≠p2->s.heap.get? m=some o->e5.get? m=some o:=fun m o m1 m2 m3 m4 e =>
    t5.extBut _ _ m2 (t4.extBut _ _ m4 (t3.extBut _ _ m2 (t2.extBut _ _ m3 (t1.extBut _ _ m1 e))))
  have i5:It2 b1 e5 p1 q1 (k1+1):=((i2.ext t3.extBut D.vp1.symm).ext t4.extBut D.p12).ext t5.extBut D.vp1.symm
  have j5:It2 b2 e5 p2 q2 (k2+1):=i4.ext t5.extBut D.vp2.symm
  have zlt:c < e5.objs.size:=Heap.lt_size z5
  show wpAny _ _ (Builtin.SmallTypes.ownedTupleHandOut (.ref c) (.ref e5.objs.size) >>= _) _ _ _
  refine wpAny_bind ?_
  unfold Builtin.SmallTypes.ownedTupleHandOut
  have z6:IsZip (e5.push { cls:=.type "tuple",data:=.seq #[x,y] }) c u v .ellipsis:=Heap.get?_push_of_some _ z5
  refine wpAny_bind (wpAny_setField_rec z6 (by simp) fun e7 z7 t7=>?_)
  replace z7:IsZip e7 c u v (rawInt e5.objs.size):=z7
  refine wpAny_setField_rec z7 (by simp) fun e8 z8 t8=>?_
  replace z8:IsZip e8 c u v (rawInt e5.objs.size):=z8
  have up:∀ m o,m≠c->e5.get? m=some o->e8.get? m=some o:=fun m o m1 e=>t8.extBut _ _ m1 (t7.extBut _ _ m1 (Heap.get?_push_of_some _ e))
  have n8:IsPair e8 e5.objs.size x y:=t8.extBut _ _ (Nat.ne_of_gt zlt) (t7.extBut _ _ (Nat.ne_of_gt zlt) (Heap.get?_push_size _ rfl))
  have w8:e8.objs.size=e5.objs.size+1:=by rw [t8.1,t7.1,Heap.size_push]
  rw [hsz] at z8 n8 w8
  refine wpAny_pure ⟨_,rfl,?_⟩
  show Q (.ref e5.objs.size) _
  rw [hsz]
  exact done e8 z8 (up _ _ D.vc v5) (i5.at_ fun o e=>up _ o D.p1c e) (j5.at_ fun o e=>up _ o D.p2c e) n8 w8 fun m o m1 m2 m3 m4 e=>up m o m1 (k5 m o m1 m2 m3 m4 e)
theorem zover {Q:Fin->Shared->Prop} (hh:A.handled=none) (D:Apart c u v p1 p2 q1 q2) (hz:IsZip s.heap c u v .none) (hu:IsPair s.heap u (.ref p1) (.ref p2)) (hv:IsPair s.heap v a b)
    (g1:It2 b1 s.heap p1 q1 k1) (g2:It2 b2 s.heap p2 q2 k2) (d1:Sq2 b1 s.heap q1 xs) (d2:Sq2 b2 s.heap q2 ys) (hend:xs[k1]?=none\/ys[k2]?=none)
    (out:∀ h' e,(∀ m o,m≠c->m≠v->m≠p1->m≠p2->s.heap.get? m=some o->h'.get? m=some o)->(∃ o,h'.get? e=some o/\o.cls=.type "StopIteration")->E (.ref e) { s with heap:=h' }) :
    wpAny (model prog w) A (Builtin.«zip.__next__» ⟨[.ref c],[]⟩) Q E s:=by
  show wpAny _ _ (field (.ref c) 2 >>= _) _ _ _
  refine wpAny_bind (wpAny_field (x:=.bool false) hz rfl rfl ?_)
  show wpAny _ _ (field (.ref c) 3 >>= _) _ _ _
  refine wpAny_bind (wpAny_field (x:=.ref u) hz rfl rfl ?_)
  refine wpAny_bind (wpAny_seqItems hu rfl ?_)
  show wpAny _ _ (Builtin.SmallTypes.ownedTupleIsFree (.ref c) >>= _) _ _ _
  refine wpAny_bind ?_
  unfold Builtin.SmallTypes.ownedTupleIsFree
  refine wpAny_bind (wpAny_field (x:=.none) hz rfl rfl (wpAny_pure ?_))
  simp only [if_true]
  refine wpAny_bind (wpAny_rule ?_)
  refine wpAny_bind (wpAny_field (x:=.ref v) hz rfl rfl ?_)
  refine wpAny_bind (wpAny_setField_rec hz (by simp) fun e1 z1 t1=>?_)
  replace z1:IsZip e1 c u v .ellipsis:=z1
  refine wpAny_bind ?_
  simp only [List.zipIdx_cons,List.zipIdx_nil,List.forIn_cons,List.forIn_nil]
  refine wpAny_bind (wpAny_bind (wpAny_onRaise ?_))
  show wpAny _ _ (Builtin.SmallTypes.nextOf (.ref p1) >>= _) _ _ _
  cases hx:xs[k1]? with
  | none =>
    refine wpAny_bind (over2 hh (g1.ext t1.extBut D.p1c) (d1.ext t1.extBut D.q1c) hx fun e2 m t2 hm=>?_)
    obtain ⟨om,gm,cm⟩:=hm
    have z2:IsZip e2 c u v .ellipsis:=t2 _ _ D.p1c.symm z1
    have mz:m≠c:=fun x=>by subst x;rw [z2] at gm;cases gm;simp at cm
    exact wpAny_setField_rec z2 (by simp) fun e3 _ t3=>out e3 m (fun n o n1 _ n3 _ q=>t3.extBut _ _ n1 (t2 _ _ n3 (t1.extBut _ _ n1 q))) ⟨om,t3.extBut _ _ mz gm,cm⟩
  | some x =>
    have hy:ys[k2]?=none:=by
      rcases hend with h | h
      · rw [hx] at h;cases h
      · exact h
    refine wpAny_bind (next2 (g1.ext t1.extBut D.p1c) (d1.ext t1.extBut D.q1c) hx fun e2 i2 t2=>wpAny_pure ?_)
    have v2:IsPair e2 v a b:=t2.extBut _ _ D.vp1 (t1.extBut _ _ D.vc hv)
    refine wpAny_bind (wpAny_seqItems v2 rfl ?_)
    refine wpAny_bind (wpAny_updateSeq_pair v2 fun e3 v3 t3=>?_)
    refine wpAny_bind (wpAny_letGo (wpAny_pure ?_))
    refine wpAny_bind (wpAny_bind (wpAny_onRaise ?_))
    show wpAny _ _ (Builtin.SmallTypes.nextOf (.ref p2) >>= _) _ _ _
    refine wpAny_bind (over2 hh (((g2.ext t1.extBut D.p2c).ext t2.extBut D.p12.symm).ext t3.extBut D.vp2.symm) (((d2.ext t1.extBut D.q2c).ext t2.extBut D.q2p1).ext t3.extBut D.q2v) hy fun e4 m t4 hm=>?_)
    obtain ⟨om,gm,cm⟩:=hm
    have z4:IsZip e4 c u v .ellipsis:=t4 _ _ D.p2c.symm (t3.extBut _ _ D.vc.symm (t2.extBut _ _ D.p1c.symm z1))
    have mz:m≠c:=fun x=>by subst x;rw [z4] at gm;cases gm;simp at cm
    exact wpAny_setField_rec z4 (by simp) fun e5 _ t5=>out e5 m (fun n o n1 n2 n3 n4 q=>t5.extBut _ _ n1 (t4 _ _ n4 (t3.extBut _ _ n2 (t2.extBut _ _ n3 (t1.extBut _ _ n1 q))))) ⟨om,t5.extBut _ _ mz gm,cm⟩
theorem zstep {Q:Option Value->Shared->Prop} (D:Apart c u v p1 p2 q1 q2) (hz:IsZip s.heap c u v .none) (hu:IsPair s.heap u (.ref p1) (.ref p2)) (hv:IsPair s.heap v a b)
    (g1:It2 b1 s.heap p1 q1 k1) (g2:It2 b2 s.heap p2 q2 k2) (d1:Sq2 b1 s.heap q1 xs) (d2:Sq2 b2 s.heap q2 ys) (hx:xs[k1]?=some x) (hy:ys[k2]?=some y)
    (done:∀ h',IsZip h' c u v (rawInt s.heap.objs.size)->IsPair h' v x y->It2 b1 h' p1 q1 (k1+1)->It2 b2 h' p2 q2 (k2+1)->IsPair h' s.heap.objs.size x y->h'.objs.size=s.heap.objs.size+1 ->
      (∀ m o,m≠c->m≠v->m≠p1->m≠p2->s.heap.get? m=some o->h'.get? m=some o)->Q (some (.ref s.heap.objs.size)) { s with heap:=h' }) :
    wpAny (model prog w) A (pyNext (.ref c)) Q E s:=by
  have ty:s.TypeIs (.ref c) "zip":=⟨_,hz,rfl⟩
  unfold pyNext
  exact wpAny_bind (wpAny_attempt (wpAny_callSpecial?_slot (name:=Str.ofString "__next__") ty F.slot_zip_next (wpAny_call_entry F.slot_zip_next ty F.entry_zip_next
    (znext D hz hu hv g1 g2 d1 d2 hx hy fun h' a1 a2 a3 a4 a5 a6 a7=>wpAny_pure (done h' a1 a2 a3 a4 a5 a6 a7)) (F.args_zip_next_1 _))))
theorem zstop {Q:Option Value->Shared->Prop} (hh:A.handled=none) (D:Apart c u v p1 p2 q1 q2) (hz:IsZip s.heap c u v .none) (hu:IsPair s.heap u (.ref p1) (.ref p2)) (hv:IsPair s.heap v a b)
    (g1:It2 b1 s.heap p1 q1 k1) (g2:It2 b2 s.heap p2 q2 k2) (d1:Sq2 b1 s.heap q1 xs) (d2:Sq2 b2 s.heap q2 ys) (hend:xs[k1]?=none\/ys[k2]?=none)
    (done:∀ h',(∀ m o,m≠c->m≠v->m≠p1->m≠p2->s.heap.get? m=some o->h'.get? m=some o)->Q none { s with heap:=h' }):wpAny (model prog w) A (pyNext (.ref c)) Q E s:=by
  have ty:s.TypeIs (.ref c) "zip":=⟨_,hz,rfl⟩
  unfold pyNext
  refine wpAny_bind (wpAny_attempt (wpAny_callSpecial?_slot (name:=Str.ofString "__next__") ty F.slot_zip_next (wpAny_call_entry F.slot_zip_next ty F.entry_zip_next
    (zover hh D hz hu hv g1 g2 d1 d2 hend fun h' e hk he=>?_) (F.args_zip_next_1 _))))
  obtain ⟨o,ho,hc⟩:=he
  refine wpAny_bind (wpAny_isInstance (T:="StopIteration") (b:=true) ⟨o,ho,hc⟩ isSubtype_stop (wpAny_pure (done _ hk)))
abbrev itObj (b:Bool) (q:Addr):Obj:={ cls:=.type (if b=true then "list_iterator" else "tuple_iterator"),data:=.fields #[.ref q,.int 0 0] }
theorem iter2 {Q:Value->Shared->Prop} {q:Addr} (bb:Bool) (hq:Sq2 bb s.heap q xs) (h:Q (.ref s.heap.objs.size) { s with heap:=s.heap.push (itObj bb q) }):wpAny (model prog w) A (pyIter (.ref q)) Q E s:=by
  cases bb
  · exact wpAny_pyIter_tuple hq h
  · exact wpAny_pyIter_list hq h
end
end ZP

namespace HT
open PySem PyProof.Rows
section
variable {prog:Program} {w:World} {A:Around} {E:Value->Shared->Prop} {s:Shared}
theorem getItem_tuple_whole {t sl:Addr} {items:Array Value} {vl vu:Value} {lo hi:Option Int} {Q:Value->Shared->Prop} (ht:IsTup s.heap t items) (hs:s.heap.IsSliceOf sl vl vu .none) (pl:IsPart vl lo) (pu:IsPart vu hi)
    (h1:sIx items.size 0 lo=0) (h2:sIx items.size items.size hi=items.size) (h:Q (.ref t) s):wpAny (model prog w) A (getItem (.ref t) (.ref sl)) Q E s:=by
  obtain ⟨os,hos,hcs,hds⟩:=id hs
  have hTs:s.TypeIs (.ref sl) "slice":=⟨os,hos,hcs⟩
  unfold getItem
  try with_reducible refine wpAny_holding ?_
  first | refine wpAny_bind (wpAny_pure ?_) | skip
  refine wpAny_bind (wpAny_sequenceKey ht.typeIs (by decide) ?_)
  refine wpAny_bind (wpAny_callSpecial?_slot (name:=Str.ofString "__getitem__") ht.typeIs PyProof.Rows.slot_tuple_getitem
    (wpAny_call_entry PyProof.Rows.slot_tuple_getitem ht.typeIs entry_tuple_getitem ?_ (args_tuple_getitem _ _)))
  show wpAny _ _ (Builtin.Tuple.tupleItemsOf (.ref t) >>= _) _ _ s
  refine wpAny_bind (tupleItemsOf_ ht ?_)
  refine wpAny_bind (wpAny_typeOf hTs ?_)
  rw [if_pos (by decide)]
  refine wpAny_bind (sliceApplied_gen hs pl pu ?_)
  have hyes:((((sIx items.size 0 lo:Nat):Int) == 0 && (1:Int) == 1 && (sIx items.size items.size hi - sIx items.size 0 lo) == items.size)=true):=by
    rw [h1,h2];simp
  show wpAny _ _ (if (((sIx items.size 0 lo:Nat):Int) == 0 && (1:Int) == 1 && (sIx items.size items.size hi - sIx items.size 0 lo) == items.size)=true then _ else _) _ _ s
  rw [if_pos hyes]
  refine wpAny_bind ?_
  unfold Builtin.Tuple.tupleIsExact
  refine wpAny_bind (wpAny_typeOf ht.typeIs (wpAny_pure ?_))
  rw [if_pos (by rfl)]
  refine wpAny_bind (wpAny_rule ?_)
  exact wpAny_pure ⟨_,rfl,wpAny_pure h⟩
end
end HT
namespace L2
open PySem PySem.Spec PyProof.Rows
section
variable {X:Cx}
def ltOp:D->D->Option D
  | .int i,.int j=>some (.bl (decide (i < j)))
  | .tup a,.tup b=>(intsOf a).bind fun is=>(intsOf b).bind fun js=>some (.bl (HT.lexLt is js))
  | _,_=>none
theorem opd_ltX (hu:X.A.units < cLine):OpD X (compareOp .Lt) ltOp:=OpD.of (OpR.or op_lt (op_ltT hu)) fun x y H Q ⟨O,dx,dy,d,th,rx,ry,e,q⟩=>by
  unfold ltOp at e
  split at e
  · cases e
    exact .inl ⟨_,_,rx,ry,q _ H (Same.refl _) rfl⟩
  · obtain ⟨is,e1,e⟩:=bind_some e
    obtain ⟨js,e2,e⟩:=bind_some e
    cases e
    cases intsOf_some e1
    cases intsOf_some e2
    obtain ⟨p,vs,rfl,hp,rp⟩:=rx
    obtain ⟨p2,us,rfl,hp2,rp2⟩:=ry
    cases rp.ints
    cases rp2.ints
    exact .inr ⟨p,p2,is,js,rfl,rfl,SqT.of (mask_sub _ _ hp),SqT.of (mask_sub _ _ hp2),q _ H (Same.refl _) rfl⟩
  · cases e
abbrev FP:=VEnv->Option (Option Int)
def pN:FP:=fun _=>some none
def pS (f:FE):FP:=fun ρ=>(f ρ).bind fun d=>match d with | .int i=>some (some i) | _=>none
def tP (K:PySem.W.Frag) (p:FP):TO:=fun σ H Q=>∃ O ρ o,RV K O H ρ σ/\p ρ=some o/\∀ H',Same H H'->Q o H'
def PD (X:Cx) (e:Option Expr) (p:FP):Prop:=PO X e (tP X.K p)
theorem PO.imp {e:Option Expr} {t t':TO} (h:PO X e t) (k:∀ σ H Q,t' σ H Q->t σ H Q):PO X e t':=fun pins s σ H Q I hw=>h pins s σ H Q I (k σ H Q hw)
theorem pd_none:PD X none pN:=PO.imp po_none fun σ H Q ⟨O,ρ,o,rv,e,q⟩=>by
  cases e
  exact q H (Same.refl _)
theorem pd_some {e:Expr} {f:FE} (h:EV X e f):PD X (some e) (pS f):=PO.imp (po_some h) fun σ H Q ⟨O,ρ,o,rv,e,q⟩=>by
  obtain ⟨d,e1,e⟩:=bind_some e
  refine ⟨O,ρ,d,rv,e1,fun v H1 s1 r1=>?_⟩
  cases d with
  | int i=>cases e;exact ⟨i,r1,q H1 s1⟩
  | _=>cases e
def cutD (ds:List D) (lo hi:Option Int):List D:=(ds.drop (HT.sIx ds.length 0 lo)).take (HT.sIx ds.length ds.length hi - HT.sIx ds.length 0 lo)
def slD:D->Option Int->Option Int->Option D
  | .lst ds,lo,hi=>some (.lst (cutD ds lo hi))
  | .tup ds,lo,hi=>some (.tup (cutD ds lo hi))
  | _,_,_=>none
def fSl (f:FE) (lo hi:FP):FE:=fun ρ=>(f ρ).bind fun d=>(lo ρ).bind fun l=>(hi ρ).bind fun u=>slD d l u
theorem cut_reps {K:PySem.W.Frag} {H:Hp} {ds:List D} {vs:List V} (r:Reps K H ds vs) (lo hi:Option Int):Reps K H (cutD ds lo hi) (cutV vs lo hi):=by
  unfold cutD cutV
  rw [r.length]
  exact (r.drop _).take _
def rSlW (K:PySem.W.Frag):V->Option Int->Option Int->Hp->VK->Prop:=fun x lo hi H Q=>∃ a xs,x=.ref a/\SqT K H a xs/\(HT.sIx xs.length 0 lo=0/\HT.sIx xs.length xs.length hi=xs.length)/\Q (.ref a) H
theorem sl_whole:SlR X (rSlW X.K):=by
  intro pins s σ H x v vl vu lo hi sl Q I rx hs pl pu h
  obtain ⟨a,xs,rfl,hx,hw,q⟩:=h
  cases rx
  obtain ⟨its,r,ht,hz⟩:=I.tuple hx
  have hlen:its.toArray.size=xs.length:=by rw [List.size_toArray];exact r.length.symm
  refine ⟨"tuple",_,PyProof.Rows.slot_tuple_getitem.lookup,ht.typeIs,?_⟩
  exact HT.getItem_tuple_whole ht hs pl pu (by rw [hlen];exact hw.1) (by rw [hlen];exact hw.2) ⟨.ref a,H,I,rfl,q⟩
theorem ev_slice {e:Expr} {lo hi:Option Expr} {f:FE} {pl ph:FP} {pos p2:Pos} (he:EV X e f) (hl:PD X lo pl) (hu:PD X hi ph):EV X (.Subscript e (.Slice lo hi none p2) pos) (fSl f pl ph) :=
  PE.imp (pe_slice (sl_list.or (sl_tup.or sl_whole)) he hl hu) fun σ H Q ⟨O,ρ,d,rv,e,q⟩=>by
    obtain ⟨x,e1,e⟩:=bind_some e
    obtain ⟨l,e2,e⟩:=bind_some e
    obtain ⟨u,e3,e⟩:=bind_some e
    refine ⟨O,ρ,x,rv,e1,fun v H1 s1 r1=>⟨O,ρ,l,rv.mono s1,e2,fun H2 s2=>⟨O,ρ,u,rv.mono (Same.trans s1 s2),e3,fun H3 s3=>?_⟩⟩⟩
    have r3:=Rep.mono (mask_same (O:=O) (Same.trans s2 s3)) x v r1
    have th3:=rv.th.mono (Same.trans s1 (Same.trans s2 s3))
    have q3:=fun w H4 s4=>q w H4 (Same.trans (Same.trans s1 (Same.trans s2 s3)) s4)
    cases x with
    | lst ds =>
      cases e
      obtain ⟨a,vs,rfl,ha,rs⟩:=r3
      exact .inl ⟨a,vs,rfl,SqL.of (mask_sub _ _ ha),fun p hp=>q3 _ _ (Same.new hp) (rep_new_lst th3 hp (cut_reps rs l u))⟩
    | tup ds =>
      cases e
      obtain ⟨a,vs,rfl,ha,rs⟩:=r3
      have hl:=rs.length
      by_cases hw:HT.sIx vs.length 0 l=0/\HT.sIx vs.length vs.length u=vs.length
      · have ec:cutD ds l u=ds:=by
          unfold cutD
          rw [<- hl,hw.1,hw.2]
          simp [hl]
        rw [ec] at q3
        exact .inr (.inr ⟨a,vs,rfl,SqT.of (mask_sub _ _ ha),hw,q3 _ H3 (Same.refl _) ⟨a,vs,rfl,ha,rs⟩⟩)
      · exact .inr (.inl ⟨a,vs,rfl,SqT.of (mask_sub _ _ ha),hw,fun p hp=>q3 _ _ (Same.new hp) (rep_new_tup th3 hp (cut_reps rs l u))⟩)
    | _=>cases e
theorem pg_nameX (i:Nat) {x:Str} {pos:Pos} (hN:X.N.Nodup) (hi:X.N[i]?=some x:=by rfl) (hx:Loc X.env.scope x:=by first | exact Or.inl rfl | exact Or.inr rfl)
    (hf:X.fn x=true\/X.env.scope.names.lookup x=some .local:=by first | exact .inl rfl | exact .inr rfl):PG X (.Name x pos) (gName i):=pg_name hN hi hx hf
def sExp (f:FE):FS:=fun ρ=>match f (allV ρ) with | some _=>.nx ρ | none=>.bad
structure BT (mg:Str->Option Value):Prop where
  len_:mg "len"=none
  range_:mg "range"=none
  sum_:mg "sum"=none
  all_:mg "all"=none
  any_:mg "any"=none
  min_:mg "min"=none
  max_:mg "max"=none
  sorted_:mg "sorted"=none
  zip_:mg "zip"=none
  enumerate_:mg "enumerate"=none
  isinstance:mg "isinstance"=none
  tuple_:mg "tuple"=none
  list_:mg "list"=none
  int_:mg "int"=none
  bool_:mg "bool"=none
  set_:mg "set"=none
structure Def (P:Program) (w:World) (K:PySem.W.Frag) (mg:Str->Option Value) (base:Heap) (x:Str) (k:Nat) (ps:List Str) (G:List D->Option D) (f:Addr) (fd:FuncData):Prop where
  ok:FnOk P w K mg base CX0 k f fd ps (spD K G)
  mg:mg x=some (.ref f)
  kp:PySem.W.keepIn K (.ref f)=true
  bi:Binds K fd ps []
end
end L2

namespace L2
open PySem PySem.Spec PyProof.Rows
section
variable {X:Cx} {pins:List (Addr×Obj)} {σ:St} {H:Hp} {s:Shared}
theorem Inv.turnedAll {fp:List Addr} {h':Heap} {t':Nat} (I:Inv X pins σ H s) (hf:∀ b∈fp,FpOk X pins H b) (k:∀ b o,b∉fp->s.heap.get? b=some o->h'.get? b=some o):Inv X pins σ H { s with heap:=h',toks:=t' }:=by
  have nfp:∀ b w,H b=some w->b∉fp:=fun b w e m=>by rw [(hf b m).1] at e;cases e
  refine I.step (g':=s.gens) (d':=s.drawn) (ch:=fp) (fun b hb=>?_) (fun b o _ _ hc e _=>k b o hc e) (fun b o _ _ hc e _=>⟨o.slots,k b o hc e⟩) (fun _ _ _ _ n=>n)
    (fun b o hc e=>⟨o,k b o hc e⟩) (fun _ _ e=>e) (fun _ _ _ e=>e) (fun b ps e=>⟨#[],by rw [e];simp⟩) (fun m hm=>?_) (fun b w e=>?_) I.bare
  · obtain ⟨f0,f1,f2,f3,f4,f5⟩:=hf b hb
    exact ⟨f3,f1,f4,f5⟩
  · obtain ⟨o,es,ep,ho,r⟩:=hm
    exact ⟨o,es,ep,k _ o (fun z=>(hf _ z).2.1 rfl) ho,r⟩
  · refine (I.hok b w e).stay (fun c v hc q=>k c v ?_ q) (fun _ q=>q) fun _ _ q=>q
    rcases hc with rfl | hc
    · exact nfp c w e
    · exact nfp c _ hc
theorem Inv.turnNew {fp:List Addr} {h':Heap} {t':Nat} {vs:List V} {us:List Value} (I:Inv X pins σ H s) (hf:∀ b∈fp,FpOk X pins H b) (k:∀ b o,b∉fp->s.heap.get? b=some o->h'.get? b=some o)
    (hl:vs.length<=sizeLine) (rv:Vals vs us) (ht:IsTup h' s.heap.objs.size us.toArray):Inv X pins σ (upd H s.heap.objs.size (.tup vs)) { s with heap:=h',toks:=t' }:=by
  have nT:H s.heap.objs.size=none:=I.hok.fresh (Nat.le_refl _)
  have nfp:∀ b u,H b=some u->b∉fp:=fun b u e m=>by rw [(hf b m).1] at e;cases e
  have old:∀ {b o},s.heap.get? b=some o->b≠s.heap.objs.size:=fun e=>Nat.ne_of_lt (Heap.lt_size e)
  refine I.step (g':=s.gens) (d':=s.drawn) (ch:=fp) (fun b hb=>?_) (fun b o _ _ hc e _=>k b o hc e) (fun b o _ _ hc e _=>⟨o.slots,k b o hc e⟩) (fun b o _ e n=>by rw [upd_ne (old e)];exact n)
    (fun b o hc e=>⟨o,k b o hc e⟩) (fun b xs e=>by rw [upd_ne (ne_of_none e nT)];exact e) (fun b o u e=>by rw [upd_ne (ne_of_none e nT)];exact e) (fun b ps e=>⟨#[],by rw [upd_ne (ne_of_none e nT),e];simp⟩) (fun m hm=>?_) (fun b u e=>?_) I.bare
  · obtain ⟨f0,f1,f2,f3,f4,f5⟩:=hf b hb
    exact ⟨f3,f1,f4,f5⟩
  · obtain ⟨o,es,ep,ho,r⟩:=hm
    exact ⟨o,es,ep,k _ o (fun z=>(hf _ z).2.1 rfl) ho,r⟩
  · by_cases hb:b=s.heap.objs.size
    · subst hb
      rw [upd_same] at e
      cases e
      exact ⟨hl,us,rv,ht⟩
    · rw [upd_ne hb] at e
      refine (I.hok b u e).stay (fun c v hc q=>k c v ?_ q) (fun c q=>by rw [upd_ne (ne_of_none q nT)];exact q) fun c xs q=>by rw [upd_ne (ne_of_none q nT)];exact q
      rcases hc with rfl | hc
      · exact nfp c u e
      · exact nfp c _ hc
end
def SqX (b:Bool) (K:PySem.W.Frag) (H:Hp) (a:Addr) (xs:List V):Prop:=if b=true then SqL K H a xs else SqT K H a xs
def Itz (b1 b2:Bool) (K:PySem.W.Frag) (a1 a2:Addr):It :=
  ⟨fun i H=>∃ xs ys x y,SqX b1 K H a1 xs/\SqX b2 K H a2 ys/\xs[i]?=some x/\ys[i]?=some y,
   fun i H z H'=>∃ T x y,z=.ref T/\H T=none/\(∀ xs,SqX b1 K H a1 xs->xs[i]?=some x)/\(∀ ys,SqX b2 K H a2 ys->ys[i]?=some y)/\H'=upd H T (.tup [x,y]),
   fun i H=>∃ xs ys,SqX b1 K H a1 xs/\SqX b2 K H a2 ys/\(xs.length<=i\/ys.length<=i)⟩
section
variable {X:Cx} {pins:List (Addr×Obj)} {σ:St} {H:Hp} {s:Shared}
theorem Inv.sqx {b:Bool} {a:Addr} {xs:List V} (I:Inv X pins σ H s) (h:SqX b X.K H a xs):∃ its:List Value,Vals xs its/\ZP.Sq2 b s.heap a its.toArray/\xs.length<=sizeLine:=by
  cases b
  · obtain ⟨its,r,t,z⟩:=I.tuple h;exact ⟨its,r,t,z⟩
  · obtain ⟨its,r,t,z⟩:=I.list h;exact ⟨its,r,t.isList,z⟩
theorem Inv.sqx_inj {b:Bool} {a:Addr} {xs ys:List V} (I:Inv X pins σ H s) (h:SqX b X.K H a xs) (h':SqX b X.K H a ys):xs=ys:=by
  cases b
  · exact I.tuple_inj h h'
  · exact I.list_inj h h'
end
def zipTn (b1 b2:Bool) (c u v p1 p2 a1 a2:Addr) (i:Nat) (h:Heap):Prop:=IsZip h c u v .none/\IsPair h u (.ref p1) (.ref p2)/\(∃ x y,IsPair h v x y)/\ZP.It2 b1 h p1 a1 i/\ZP.It2 b2 h p2 a2 i
theorem turn_zip {P:Program} {w:World} {K:PySem.W.Frag} {elts:List Expr} {kk:Nat} {pos:Pos} {b1 b2:Bool} {c u v p1 p2 a1 a2:Addr} (D:ZP.Apart c u v p1 p2 a1 a2) :
    Turn P w K (.Tuple elts kk pos) (Itz b1 b2 K a1 a2) [c,u,v,p1,p2] c (zipTn b1 b2 c u v p1 p2 a1 a2) where
  mem:=by simp
  obj:=fun i h ⟨hz,hu,⟨x,y,hv⟩,g1,g2⟩ b hb=>by
    simp only [List.mem_cons,List.not_mem_nil,or_false] at hb
    rcases hb with rfl | rfl | rfl | rfl | rfl
    · exact ⟨_,hz,fun v z=>by cases z⟩
    · exact ⟨_,hu,fun v z=>by cases z⟩
    · exact ⟨_,hv,fun v z=>by cases z⟩
    · exact g1.ob
    · exact g2.ob
  keep:=fun i h h' ⟨hz,hu,⟨x,y,hv⟩,g1,g2⟩ k=>⟨k _ (by simp) _ hz,k _ (by simp) _ hu,⟨x,y,k _ (by simp) _ hv⟩,g1.at_ fun o e=>k _ (by simp) o e,g2.at_ fun o e=>k _ (by simp) o e⟩
  item:=by
    intro X hP hw hK hc i pins s σ H E I hf st hg
    subst hP hw hK
    obtain ⟨hz,hu,⟨x0,y0,hv⟩,g1,g2⟩:=st
    obtain ⟨xs,ys,x,y,q1,q2,e1,e2⟩:=hg
    obtain ⟨is,r1,d1,z1⟩:=I.sqx q1
    obtain ⟨js,r2,d2,z2⟩:=I.sqx q2
    obtain ⟨xu,h1,rx⟩:=r1.get e1
    obtain ⟨yu,h2,ry⟩:=r2.get e2
    refine ZP.zstep D hz hu hv g1 g2 d1 d2 (x:=xu) (y:=yu) (by simpa using h1) (by simpa using h2) fun h' k1 k2 k3 k4 k5 k6 k7=>?_
    refine ⟨_,rfl,wpAny_letOwnedTupleGo_zip k1 fun h'' m1 m2=>?_⟩
    have below:∀ {b o},s.heap.get? b=some o->b≠s.heap.objs.size:=fun e=>Nat.ne_of_lt (Heap.lt_size e)
    have kp:∀ b o,b∉[c,u,v,p1,p2]->s.heap.get? b=some o->h''.get? b=some o:=fun b o hb e=>by
      simp only [List.mem_cons,List.not_mem_nil,or_false,not_or] at hb
      exact m2.extBut _ _ hb.1 (k7 b o hb.1 hb.2.2.1 hb.2.2.2.1 hb.2.2.2.2 e)
    have ht:IsTup h'' s.heap.objs.size [xu,yu].toArray:=⟨_,m2.extBut _ _ (fun z=>below hz z.symm) k5,rfl,0,rfl⟩
    refine ⟨.ref s.heap.objs.size,_,I.turnNew (t':=s.toks) (vs:=[x,y]) hf kp (by rw [show sizeLine=16777216 from sizeLine_eq];show 2<=16777216;decide) (.cons rx (.cons ry .nil)) ht,rfl,?_,?_,?_⟩
    · exact ⟨_,x,y,rfl,I.hok.fresh (Nat.le_refl _),fun zs hz'=>by rw [I.sqx_inj hz' q1];exact e1,fun zs hz'=>by rw [I.sqx_inj hz' q2];exact e2,rfl⟩
    · exact ⟨m1,m2.extBut _ _ D.uc (k7 _ _ D.uc D.uv D.up1 D.up2 hu),⟨_,_,m2.extBut _ _ D.vc k2⟩,k3.ext m2.extBut D.p1c,k4.ext m2.extBut D.p2c⟩
    · intro b hb
      rw [upd_ne]
      · exact (hf b hb).1
      · simp only [List.mem_cons,List.not_mem_nil,or_false] at hb
        obtain ⟨o1,w1,_⟩:=g1.ob
        obtain ⟨o2,w2,_⟩:=g2.ob
        rcases hb with rfl | rfl | rfl | rfl | rfl
        · exact below hz
        · exact below hu
        · exact below hv
        · exact below w1
        · exact below w2
  done:=by
    intro X hP hw hK hc i pins s σ H E I hf st hg
    subst hP hw hK
    obtain ⟨hz,hu,⟨x0,y0,hv⟩,g1,g2⟩:=st
    obtain ⟨xs,ys,q1,q2,hend⟩:=hg
    obtain ⟨is,r1,d1,z1⟩:=I.sqx q1
    obtain ⟨js,r2,d2,z2⟩:=I.sqx q2
    have l1:=r1.length
    have l2:=r2.length
    refine ZP.zstop (I.ok.hd hc) D hz hu hv g1 g2 d1 d2 (by
      rcases hend with z | z
      · left;simp;omega
      · right;simp;omega) fun h' k=>⟨rfl,I.turnedAll (t':=s.toks) hf fun b o hb e=>?_⟩
    simp only [List.mem_cons,List.not_mem_nil,or_false,not_or] at hb
    exact k b o hb.1 hb.2.2.1 hb.2.2.2.1 hb.2.2.2.2 e
  self:=fun _ _ _ _ _ st h=>wpAny_pyIter_zip st.1 h
abbrev zh1 (h:Heap) (b1:Bool) (a1:Addr):Heap:=h.push (ZP.itObj b1 a1)
abbrev zh2 (h:Heap) (b1 b2:Bool) (a1 a2:Addr):Heap:=(zh1 h b1 a1).push (ZP.itObj b2 a2)
abbrev zh3 (h:Heap) (b1 b2:Bool) (a1 a2:Addr):Heap:=(zh2 h b1 b2 a1 a2).push { cls:=.type "tuple",data:=.seq #[.ref h.objs.size,.ref (zh1 h b1 a1).objs.size] }
abbrev zh4 (h:Heap) (b1 b2:Bool) (a1 a2:Addr):Heap:=(zh3 h b1 b2 a1 a2).push { cls:=.type "tuple",data:=.seq #[.none,.none] }
abbrev zh5 (h:Heap) (b1 b2:Bool) (a1 a2:Addr):Heap:=(zh4 h b1 b2 a1 a2).push { cls:=.type "zip",data:=.fields #[.none,.bool false,.bool false,.ref (zh2 h b1 b2 a1 a2).objs.size,.ref (zh3 h b1 b2 a1 a2).objs.size] }
theorem sq2_push {b:Bool} {h:Heap} {q:Addr} {xs:Array Value} {o:Obj} (x:ZP.Sq2 b h q xs):ZP.Sq2 b (h.push o) q xs:=by
  cases b
  · obtain ⟨o',ho,r⟩:=x;exact ⟨o',Heap.get?_push_of_some _ ho,r⟩
  · obtain ⟨o',ho,r⟩:=x;exact ⟨o',Heap.get?_push_of_some _ ho,r⟩
theorem meets_zip (b1 b2:Bool) (a1 a2:Addr) (xs ys:Array Value) :
    Meets (Builtin.«zip.__new__» ⟨[.type "zip",.ref a1,.ref a2],[]⟩) (fun _ R s=>ZP.Sq2 b1 s.heap a1 xs/\ZP.Sq2 b2 s.heap a2 ys /\
      R (.ok (.ret (.ref (zh4 s.heap b1 b2 a1 a2).objs.size))) { s with heap:=zh5 s.heap b1 b2 a1 a2 }) :=
  .of_wp fun prog w A R s h=>by
    obtain ⟨hp,g,d,tk,os⟩:=s
    obtain ⟨k1,k2,h⟩:=h
    have hsub:=sub_zip
    have j1:ZP.Sq2 b1 (Shared.heap ⟨hp,g,d,tk,os⟩) a1 xs:=k1
    have j2:ZP.Sq2 b2 (Shared.heap ⟨hp.push (ZP.itObj b1 a1),g,d,tk,os⟩) a2 ys:=sq2_push k2
    wp_walk using ZP.iter2 b1 j1,ZP.iter2 b2 j2
    exact ⟨_,rfl,h⟩
section
variable {X:Cx} {tg:Expr}
def iZip (K:PySem.W.Frag) (t:TA):TI:=fun σ H R=>t σ H fun vs H1=>∃ a1 a2 b1 b2 xs ys,vs=[.ref a1,.ref a2]/\SqX b1 K H1 a1 xs/\SqX b2 K H1 a2 ys/\R (Itz b1 b2 K a1 a2) H1
theorem pi_zip {elts:List Expr} {kk:Nat} {pos pp p:Pos} {a b:Expr} {t:TA} (hm:X.mg "zip"=none) (ha:PA X [a,b] t) (hg:Gl X "zip":=by rfl)
    (hs:starEach [a,b] X.env=[(false,eval a X.env),(false,eval b X.env)]:=by rfl) (hs2:starEach [b] X.env=[(false,eval b X.env)]:=by rfl) :
    PI X (.Tuple elts kk pos) (.Call (.Name "zip" p) [a,b] [] pp) (iZip X.K t):=by
  intro pins s σ H R I h
  refine Call_ (ld_blt I hg hm (show bootBuiltins "zip"=some (.type "zip") by decide +kernel) (PyProof.Rows.callWith_type1 (thn (ha pp pins s σ H _ I h) fun us s1 ⟨vs,H1,I1,r1,q1⟩=>?_) (by rw [hs,hs2]) (by rw [hs2];rfl)))
  obtain ⟨a1,a2,b1,b2,xs,ys,rfl,q1,q2,q⟩:=q1
  cases r1 with
  | cons ra rr =>
    cases rr with
    | cons rb rr =>
      cases rr
      cases ra
      cases rb
      obtain ⟨is,v1,d1,_⟩:=I1.sqx q1
      obtain ⟨js,v2,d2,_⟩:=I1.sqx q2
      refine callType_new F.called_zip (by decide) (F.typeCall_zip_2 _ _) (F.newCall_zip_2 _ _) (fun obj=>F.args_object_init_3 obj _ _) F.entry_zip_new (meets_zip b1 b2 a1 a2 is.toArray js.toArray) ⟨d1,d2,?_⟩
      have z1:(zh1 s1.heap b1 a1).objs.size=s1.heap.objs.size+1:=Heap.size_push ..
      have z2:(zh2 s1.heap b1 b2 a1 a2).objs.size=s1.heap.objs.size+2:=by rw [Heap.size_push,z1]
      have z3:(zh3 s1.heap b1 b2 a1 a2).objs.size=s1.heap.objs.size+3:=by rw [Heap.size_push,z2]
      have z4:(zh4 s1.heap b1 b2 a1 a2).objs.size=s1.heap.objs.size+4:=by rw [Heap.size_push,z3]
      have n5:(zh5 s1.heap b1 b2 a1 a2).get? (zh4 s1.heap b1 b2 a1 a2).objs.size=some _:=Heap.get?_push_size _ rfl
      have n4:(zh5 s1.heap b1 b2 a1 a2).get? (zh3 s1.heap b1 b2 a1 a2).objs.size=some _:=Heap.get?_push_of_some _ (Heap.get?_push_size _ rfl)
      have n3:(zh5 s1.heap b1 b2 a1 a2).get? (zh2 s1.heap b1 b2 a1 a2).objs.size=some _:=Heap.get?_push_of_some _ (Heap.get?_push_of_some _ (Heap.get?_push_size _ rfl))
      have n2:(zh5 s1.heap b1 b2 a1 a2).get? (zh1 s1.heap b1 a1).objs.size=some _:=Heap.get?_push_of_some _ (Heap.get?_push_of_some _ (Heap.get?_push_of_some _ (Heap.get?_push_size _ rfl)))
      have n1:(zh5 s1.heap b1 b2 a1 a2).get? s1.heap.objs.size=some _:=Heap.get?_push_of_some _ (Heap.get?_push_of_some _ (Heap.get?_push_of_some _ (Heap.get?_push_of_some _ (Heap.get?_push_size _ rfl))))
      have kp:∀ m o,s1.heap.get? m=some o->(zh5 s1.heap b1 b2 a1 a2).get? m=some o:=fun m o e=>Heap.get?_push_of_some _ (Heap.get?_push_of_some _ (Heap.get?_push_of_some _ (Heap.get?_push_of_some _ (Heap.get?_push_of_some _ e))))
      have l1:a1 < s1.heap.objs.size:=by cases b1 <;> (obtain ⟨_,e,_⟩:=d1;exact Heap.lt_size e)
      have l2:a2 < s1.heap.objs.size:=by cases b2 <;> (obtain ⟨_,e,_⟩:=d2;exact Heap.lt_size e)
      rw [z2,z3,z4] at n5
      rw [z1,z2] at n3
      rw [z3] at n4
      rw [z1] at n2
      show _/\_
      rw [z4]
      refine ⟨⟨_,n5,rfl⟩,wpAny_pyIter_zip n5 ?_⟩
      have I2:Inv X pins σ H1 { s1 with heap:=zh5 s1.heap b1 b2 a1 a2 }:=I1.kept (t':=s1.toks) kp
      have fr:∀ d,s1.heap.objs.size<=d->FpOk X pins H1 d:=fun d hd=>I1.fpOk hd (I1.hok.fresh hd)
      have D:ZP.Apart (s1.heap.objs.size+4) (s1.heap.objs.size+2) (s1.heap.objs.size+3) s1.heap.objs.size (s1.heap.objs.size+1) a1 a2:=by
        constructor <;> first
          | exact Nat.ne_of_lt l1
          | exact Nat.ne_of_lt l2
          | exact Nat.ne_of_lt (Nat.lt_of_lt_of_le l1 (Nat.le_add_right _ _))
          | exact Nat.ne_of_lt (Nat.lt_of_lt_of_le l2 (Nat.le_add_right _ _))
          | exact Nat.ne_of_lt (Nat.add_lt_add_left (by decide) _)
          | exact Nat.ne_of_gt (Nat.add_lt_add_left (by decide) _)
          | exact Nat.ne_of_gt (Nat.lt_add_of_pos_right (by decide))
          | exact Nat.ne_of_lt (Nat.lt_add_of_pos_right (by decide))
      refine ⟨s1.heap.objs.size+4,[s1.heap.objs.size+4,s1.heap.objs.size+2,s1.heap.objs.size+3,s1.heap.objs.size,s1.heap.objs.size+1],_,_,H1,rfl,I2,turn_zip (b1:=b1) (b2:=b2) D,⟨n5,n3,⟨_,_,n4⟩,?_,?_⟩,fun d hd=>?_,q⟩
      · cases b1 <;> exact ⟨_,n1,rfl,rfl⟩
      · cases b2 <;> exact ⟨_,n2,rfl,rfl⟩
      · refine ⟨(fr d ?_).1,(fr d ?_).2⟩ <;> (simp only [List.mem_cons,List.not_mem_nil,or_false] at hd;rcases hd with rfl | rfl | rfl | rfl | rfl <;> first | exact Nat.le_refl _ | exact Nat.le_add_right _ _)
def zipDs:List D->List D->List D
  | x::xs,y::ys=>.tup [x,y]::zipDs xs ys
  | _,_=>[]
theorem zipDs_get:∀ {xs ys:List D} {i:Nat} {d:D},(zipDs xs ys)[i]?=some d->∃ x y,xs[i]?=some x/\ys[i]?=some y/\d=.tup [x,y]
  | x::xs,y::ys,0,d,h=>⟨x,y,rfl,rfl,by simpa [zipDs] using h.symm⟩
  | x::xs,y::ys,i+1,d,h=>by
    obtain ⟨p,q,h1,h2,h3⟩:=zipDs_get (xs:=xs) (ys:=ys) (i:=i) (d:=d) (by simpa [zipDs] using h)
    exact ⟨p,q,by simpa using h1,by simpa using h2,h3⟩
  | [],_,_,_,h=>by simp [zipDs] at h
  | _::_,[],_,_,h=>by simp [zipDs] at h
theorem zipDs_len:∀ (xs ys:List D),(zipDs xs ys).length=min xs.length ys.length
  | x::xs,y::ys=>by simp only [zipDs,List.length_cons,zipDs_len xs ys];omega
  | [],_=>by simp [zipDs]
  | _::_,[]=>by simp [zipDs]
def fZip (a b:FE):FA:=fun ρ=>(a ρ).bind fun x=>(b ρ).bind fun y=>(itemsD x).bind fun xs=>(itemsD y).bind fun ys=>some (zipDs xs ys)
theorem itemsD_rep {K:PySem.W.Frag} {H:Hp} {d:D} {v:V} {ds:List D} (e:itemsD d=some ds) (r:Rep K H d v):∃ a b vs,v=.ref a/\SqX b K H a vs/\Reps K H ds vs:=by
  cases d with
  | lst es=>cases e;obtain ⟨a,vs,rfl,h,r⟩:=r;exact ⟨a,true,vs,rfl,SqL.of h,r⟩
  | tup es=>cases e;obtain ⟨a,vs,rfl,h,r⟩:=r;exact ⟨a,false,vs,rfl,SqT.of h,r⟩
  | scr ns=>cases e;obtain ⟨a,rfl,h⟩:=r;exact ⟨a,true,_,rfl,h,reps_ints ns⟩
  | _=>cases e
theorem SqX.mono {b:Bool} {K:PySem.W.Frag} {H H':Hp} {a:Addr} {vs:List V} (s:Same H H') (h:SqX b K H a vs):SqX b K H' a vs:=by
  cases b
  · exact Same.seqT s h
  · exact Same.seq s h
theorem iv_zip {elts:List Expr} {kk:Nat} {pos pp p:Pos} {a b:Expr} {fa fb:FE} (hm:X.mg "zip"=none) (ha:EV X a fa) (hb:EV X b fb) (hg:Gl X "zip":=by rfl)
    (hs:starEach [a,b] X.env=[(false,eval a X.env),(false,eval b X.env)]:=by rfl) (hs2:starEach [b] X.env=[(false,eval b X.env)]:=by rfl) :
    IV X (.Tuple elts kk pos) (.Call (.Name "zip" p) [a,b] [] pp) (fZip fa fb):=PI.imp (pi_zip hm (pa_cons ha (pa_cons hb pa_nil (by rw [hs2];rfl)) (by rw [hs,hs2])) hg hs hs2) fun σ H R ⟨O,ρ,ds,rv,e,q⟩=>by
  obtain ⟨x,e1,e⟩:=bind_some e
  obtain ⟨y,e2,e⟩:=bind_some e
  obtain ⟨xs,e3,e⟩:=bind_some e
  obtain ⟨ys,e4,e⟩:=bind_some e
  cases e
  refine ⟨O,ρ,x,rv,e1,fun v H1 s1 r1=>⟨O,ρ,y,rv.mono s1,e2,fun w H2 s2 r2=>?_⟩⟩
  obtain ⟨a1,b1,vs,rfl,k1,t1⟩:=itemsD_rep e3 (Rep.mono (mask_same s2) x v r1)
  obtain ⟨a2,b2,us,rfl,k2,t2⟩:=itemsD_rep e4 r2
  refine ⟨a1,a2,b1,b2,vs,us,rfl,SqX.mono mask_sub k1,SqX.mono mask_sub k2,q _ H2 (Same.trans s1 s2) ?_⟩
  intro H3 O' s3 th i
  have j1:SqX b1 X.K H3 a1 vs:=SqX.mono mask_sub (SqX.mono s3 k1)
  have j2:SqX b2 X.K H3 a2 us:=SqX.mono mask_sub (SqX.mono s3 k2)
  refine ⟨fun d hd=>?_,fun hl=>⟨vs,us,j1,j2,?_⟩⟩
  · obtain ⟨p,q,h1,h2,rfl⟩:=zipDs_get hd
    obtain ⟨vp,g1,g2⟩:=t1.get h1
    obtain ⟨vq,g3,g4⟩:=t2.get h2
    refine ⟨⟨vs,us,vp,vq,j1,j2,g1,g3⟩,fun z H4 ⟨T,x',y',ez,hT,f1,f2,eh⟩=>?_⟩
    subst ez eh
    have w1:=f1 vs j1
    have w2:=f2 us j2
    rw [g1] at w1
    rw [g3] at w2
    cases w1
    cases w2
    exact ⟨Same.new hT,rep_new_tup th hT ⟨_,_,rfl,Rep.mono s3 p _ g2,_,_,rfl,Rep.mono s3 q _ g4,rfl⟩⟩
  · rw [zipDs_len,<- t1.length,<- t2.length] at hl
    omega
end
end L2

namespace L2
open PySem PySem.Spec PyProof.Rows
theorem kits_of {K:PySem.W.Frag} {T:String} (h0:PySem.W.kitOne K (.type "NoneType") (.type T)=some (("NoneType" == T) || (("NoneType" == "bool") && (T == "int"))))
    (h1:PySem.W.kitOne K (.type "bool") (.type T)=some (("bool" == T) || (("bool" == "bool") && (T == "int")))) (h2:PySem.W.kitOne K (.type "int") (.type T)=some (("int" == T) || (("int" == "bool") && (T == "int"))))
    (h3:PySem.W.kitOne K (.type "str") (.type T)=some (("str" == T) || (("str" == "bool") && (T == "int")))) (h4:PySem.W.kitOne K (.type "tuple") (.type T)=some (("tuple" == T) || (("tuple" == "bool") && (T == "int"))))
    (h5:PySem.W.kitOne K (.type "list") (.type T)=some (("list" == T) || (("list" == "bool") && (T == "int")))) (h6:PySem.W.kitOne K (.type "dict") (.type T)=some (("dict" == T) || (("dict" == "bool") && (T == "int")))):Kits K T:=⟨fun S hS=>by
  simp only [List.mem_cons,List.not_mem_nil,or_false] at hS
  rcases hS with rfl | rfl | rfl | rfl | rfl | rfl | rfl
  · exact h0
  · exact h1
  · exact h2
  · exact h3
  · exact h4
  · exact h5
  · exact h6⟩
theorem kits_int {K:PySem.W.Frag}:Kits K "int":=kits_of (by kernel_rfl) (by kernel_rfl) (by kernel_rfl) (by kernel_rfl) (by kernel_rfl) (by kernel_rfl) (by kernel_rfl)
theorem kits_bool {K:PySem.W.Frag}:Kits K "bool":=kits_of (by kernel_rfl) (by kernel_rfl) (by kernel_rfl) (by kernel_rfl) (by kernel_rfl) (by kernel_rfl) (by kernel_rfl)
theorem kits_tuple {K:PySem.W.Frag}:Kits K "tuple":=kits_of (by kernel_rfl) (by kernel_rfl) (by kernel_rfl) (by kernel_rfl) (by kernel_rfl) (by kernel_rfl) (by kernel_rfl)
theorem bb_len:bootBuiltins ("len":Str)=some (Value.builtin "len"):=by decide +kernel
theorem bb_all:bootBuiltins ("all":Str)=some (Value.builtin "all"):=by decide +kernel
theorem bb_min:bootBuiltins ("min":Str)=some (Value.builtin "min"):=by decide +kernel
theorem bb_max:bootBuiltins ("max":Str)=some (Value.builtin "max"):=by decide +kernel
theorem bb_sorted:bootBuiltins ("sorted":Str)=some (Value.builtin "sorted"):=by decide +kernel
theorem bb_int:bootBuiltins ("int":Str)=some (Value.type "int"):=by decide +kernel
theorem bb_bool:bootBuiltins ("bool":Str)=some (Value.type "bool"):=by decide +kernel
theorem bb_list:bootBuiltins ("list":Str)=some (Value.type "list"):=by decide +kernel
theorem bb_tuple:bootBuiltins ("tuple":Str)=some (Value.type "tuple"):=by decide +kernel
end L2

namespace ZD
open PySem PyProof.Rows
def DictR (h:Heap) (d:Addr) (es:Array DictEntry) (ep:Nat):Prop:=∃ o,h.get? d=some o/\o.ExactDict/\o.data=.dict es ep
section
variable {prog:Program} {w:World} {A:Around} {E:Value->Shared->Prop} {s:Shared} {d it:Addr} {es:Array DictEntry} {ep i:Nat}
theorem DictR.ty (x:DictR s.heap d es ep):s.TypeIs (.ref d) "dict":=let ⟨o,h1,h2,_⟩:=x;⟨o,h1,h2.1⟩
theorem DictR.ext {h h':Heap} {b:Addr} (x:DictR h d es ep) (e:Heap.ExtBut b h h') (n:d≠b):DictR h' d es ep:=let ⟨o,h1,r⟩:=x;⟨o,e _ _ n h1,r⟩
theorem DictR.lt {h:Heap} (x:DictR h d es ep):d < h.objs.size:=let ⟨_,h1,_⟩:=x;Heap.lt_size h1
theorem keys_iter {Q:Value->Shared->Prop} (hd:(d == sysModules)=false) (hm:DictR s.heap d es ep)
    (done:Q (.ref s.heap.objs.size) { s with heap:=s.heap.push { cls:=.type "dict_keyiterator",data:=.fields #[.ref d,.int 0 0,.int es.size 0,.int ep 0] } }):wpAny (model prog w) A (pyIter (.ref d)) Q E s:=by
  have ty:=hm.ty
  obtain ⟨od,g1,g2,g3⟩:=id hm
  refine wpAny_pyIter_slot ty F.slot_dict_iter (wpAny_call_entry F.slot_dict_iter ty F.entry_dict_iter ?_ (F.args_dict_iter_1 _))
  unfold Builtin.«dict.__iter__»
  refine wpAny_bind ?_
  unfold Builtin.Dict.dictSlotNone
  refine wpAny_bind (wpAny_notOrdered_dict ty ?_)
  show wpAny _ _ (pure (Value.ref d)) _ _ s
  refine wpAny_pure ?_
  show wpAny _ _ (Builtin.Dict.showsAll d >>= fun _=>_) _ _ s
  unfold Builtin.Dict.showsAll
  rw [if_neg (fun z=>by rw [hd] at z;cases z)]
  refine wpAny_bind (wpAny_pure ?_)
  refine wpAny_bind (wpAny_dictEntries g1 g3 ?_)
  refine wpAny_bind (wpAny_dictEpoch g1 g3 ?_)
  refine wpAny_bind (wpAny_newObj_type (wpAny_pure ⟨_,rfl,"dict_keyiterator",_,⟨_,Heap.get?_push_size _ rfl,rfl⟩,F.slot_dict_keyiterator_next.lookup,?_⟩))
  simpa [rawInt] using done
theorem keys_next {Q:Option Value->Shared->Prop} {e:DictEntry} (hi:s.heap.IsKeyIter it d i es.size ep) (hm:DictR s.heap d es ep) (hx:es[i]?=some e)
    (done:∀ h',h'.IsKeyIter it d (i+1) es.size ep->Heap.SameBut it s.heap h'->Q (some e.key) { s with heap:=h' }):wpAny (model prog w) A (pyNext (.ref it)) Q E s:=by
  obtain ⟨oi,k1,k2,k3⟩:=id hi
  obtain ⟨od,g1,g2,g3⟩:=id hm
  unfold pyNext
  refine wpAny_bind (wpAny_attempt (wpAny_callSpecial?_slot (name:=Str.ofString "__next__") hi.typeIs F.slot_dict_keyiterator_next (wpAny_call_entry F.slot_dict_keyiterator_next hi.typeIs F.entry_dict_keyiterator_next ?_ (F.args_dict_keyiterator_next_1 _))))
  refine wpAny_bind (wpAny_pure ?_)
  refine wpAny_bind ?_
  refine wpAny_bind ?_
  first | refine wpAny_bind (wpAny_typeNameOfWhole_keyiter hi.typeIs (wpAny_pure ?_)) | refine wpAny_bind (wpAny_typeNameOf_keyiter hi.typeIs (wpAny_pure ?_))
  refine wpAny_bind (wpAny_fieldsOf k1 k3 ?_)
  simp only [show Builtin.Dict_items.ownsTuple "dict_keyiterator"=false by decide,Bool.false_eq_true,if_false]
  show wpAny _ _ (if (Value.ref d == Value.none)=true then _ else _) _ _ s
  rw [if_neg (fun z:(Value.ref d == Value.none)=true=>Bool.false_ne_true z)]
  refine wpAny_bind (wpAny_pure ?_)
  refine wpAny_bind (wpAny_dictEntries g1 g3 ?_)
  rw [if_neg (by simp)]
  refine wpAny_bind (wpAny_pure ?_)
  refine wpAny_bind (wpAny_dictEpoch g1 g3 ?_)
  rw [if_neg (by simp)]
  refine wpAny_pure ?_
  simp only [show ¬ ((i:Int) < 0) from by omega,if_false,Int.toNat_natCast,hx]
  refine wpAny_bind ?_
  first | refine wpAny_bind (wpAny_typeNameOfWhole_keyiter hi.typeIs (wpAny_pure ?_)) | refine wpAny_bind (wpAny_typeNameOf_keyiter hi.typeIs (wpAny_pure ?_))
  refine wpAny_bind (wpAny_isOneOf_keyiter hi.typeIs ?_)
  show wpAny _ _ (setField (.ref it) 1 (rawInt ((i:Int)+1)) >>= fun _=>_) _ _ s
  refine wpAny_bind (wpAny_setField k1 k3 (by simp) ?_)
  have hi':(s.heap.update it (Obj.mapFields (·.setIfInBounds 1 (rawInt ((i:Int)+1))))).IsKeyIter it d (i+1) es.size ep :=
    ⟨_,Heap.get?_update_self _ k1 (Obj.isFreed_of_fields (Obj.data_mapFields k3 _)),(Obj.cls_mapFields ..).trans k2,by rw [Obj.data_mapFields k3];simp [rawInt]⟩
  refine wpAny_bind (wpAny_holding ?_)
  refine wpAny_bind (wpAny_isOneOf_keyiter (s:={ s with heap:=s.heap.update it (Obj.mapFields (·.setIfInBounds 1 (rawInt ((i:Int)+1)))) }) hi'.typeIs ?_)
  show wpAny _ _ (pure e.key) _ _ _
  exact wpAny_pure (wpAny_pure ⟨_,rfl,wpAny_pure (done _ hi' (Heap.SameBut.update ..))⟩)
theorem keys_over {Q:Option Value->Shared->Prop} (hh:A.handled=none) (hi:s.heap.IsKeyIter it d i es.size ep) (hm:DictR s.heap d es ep) (hx:es.size<=i)
    (done:∀ h',Heap.ExtBut it s.heap h'->Q none { s with heap:=h' }):wpAny (model prog w) A (pyNext (.ref it)) Q E s:=by
  obtain ⟨oi,k1,k2,k3⟩:=id hi
  obtain ⟨od,g1,g2,g3⟩:=id hm
  unfold pyNext
  refine wpAny_bind (wpAny_attempt (wpAny_callSpecial?_slot (name:=Str.ofString "__next__") hi.typeIs F.slot_dict_keyiterator_next (wpAny_call_entry F.slot_dict_keyiterator_next hi.typeIs F.entry_dict_keyiterator_next ?_ (F.args_dict_keyiterator_next_1 _))))
  refine wpAny_bind (wpAny_pure ?_)
  refine wpAny_bind ?_
  refine wpAny_bind ?_
  first | refine wpAny_bind (wpAny_typeNameOfWhole_keyiter hi.typeIs (wpAny_pure ?_)) | refine wpAny_bind (wpAny_typeNameOf_keyiter hi.typeIs (wpAny_pure ?_))
  refine wpAny_bind (wpAny_fieldsOf k1 k3 ?_)
  simp only [show Builtin.Dict_items.ownsTuple "dict_keyiterator"=false by decide,Bool.false_eq_true,if_false]
  show wpAny _ _ (if (Value.ref d == Value.none)=true then _ else _) _ _ s
  rw [if_neg (fun z:(Value.ref d == Value.none)=true=>Bool.false_ne_true z)]
  refine wpAny_bind (wpAny_pure ?_)
  refine wpAny_bind (wpAny_dictEntries g1 g3 ?_)
  rw [if_neg (by simp)]
  refine wpAny_bind (wpAny_pure ?_)
  refine wpAny_bind (wpAny_dictEpoch g1 g3 ?_)
  rw [if_neg (by simp)]
  refine wpAny_pure ?_
  simp only [show ¬ ((i:Int) < 0) from by omega,if_false,Int.toNat_natCast,Array.getElem?_eq_none hx]
  refine wpAny_bind ?_
  first | refine wpAny_bind (wpAny_typeNameOfWhole_keyiter hi.typeIs (wpAny_pure ?_)) | refine wpAny_bind (wpAny_typeNameOf_keyiter hi.typeIs (wpAny_pure ?_))
  show wpAny _ _ (setField (.ref it) 0 .none >>= fun _=>_) _ _ s
  refine wpAny_bind (wpAny_setField k1 k3 (by simp) ?_)
  show wpAny _ _ (newExc (.type "StopIteration") [] >>= fun _=>_) _ _ _
  refine wpAny_bind ?_
  simp only [newExc,newTuple]
  refine wpAny_bind (wpAny_newObj_type (hd:=by size_fits) ?_)
  refine wpAny_bind (m:=firstArgMember _ _) (wpAny_of_eq (a:=Value.none) (by first | rfl | (simp only [firstArgMember] <;> rfl)) ?_)
  refine wpAny_newObj_type (hd:=by size_fits) ?_
  simp only [raiseNew]
  refine wpAny_bind (wpAny_handled ?_)
  rw [show A.in1.handled=none from hh]
  refine wpAny_bind (wpAny_pure (wpAny_throw ?_))
  refine wpAny_bind (wpAny_isInstance (T:="StopIteration") (b:=true) ⟨_,Heap.get?_push_size _ rfl,rfl⟩ isSubtype_stop (wpAny_pure (done _ (((Heap.SameBut.update ..).extBut.push _).push _))))
theorem walks_keys (hh:A.handled=none) (I d:Addr) (hne:d≠I):Walks prog w A I [I,d] [I] es.size (fun i v=>∃ e,es[i]?=some e/\v=e.key) (fun i h=>h.IsKeyIter I d i es.size ep/\DictR h d es ep) where
  sub:=fun b hb=>by
    have:b=I:=by simpa using hb
    simp [this]
  frame:=fun _ _ _ st hk=>⟨st.1.at fun o e=>hk I (by simp) o e,let ⟨o,h1,r⟩:=st.2;⟨o,hk d (by simp) o h1,r⟩⟩
  item:=fun i s Q E hi st hQ=>by
    have hx:es[i]?=some es[i]:=Array.getElem?_eq_getElem hi
    exact keys_next st.1 st.2 hx fun h' hit' hs'=>hQ _ h' s.toks ⟨_,hx,rfl⟩ ⟨hit',st.2.ext hs'.extBut hne⟩ fun b o hb e=>hs'.extBut b o (fun h=>hb (by simp [h])) e
  done:=fun s Q E st hQ=>keys_over hh st.1 st.2 (Nat.le_refl _) fun h' he'=>hQ h' s.toks fun b o hb e=>he' b o (fun h=>hb (by simp [h])) e
  self:=fun _ _ _ _ st hQ=>wpAny_pyIter_keyiter st.1 hQ
theorem src_raw (lo:(d == sysModules)=false):PySem.W.KdlSrc prog w "dict" d d es.size (fun i v=>∃ e,es[i]?=some e/\v=e.key) (fun h=>DictR h d es ep) where
  type:=fun _ hm=>hm.ty
  there:=fun _ hm=>⟨hm.lt,hm.lt⟩
  keep:=fun _ _ hm hk=>let ⟨o,h1,r⟩:=hm;⟨o,hk d (.inl rfl) o h1,r⟩
  notList:=by decide
  notTuple:=by decide
  hint:=fun _ _ _ _ hm hq=>PySem.W.kdl_hint_dict hm.ty hq
  iter:=fun _ _ hh hm=>⟨_,_,(fun _ _ hq=>keys_iter lo hm hq),walks_keys hh _ d (Nat.ne_of_lt hm.lt),⟨⟨_,Heap.get?_push_size _ rfl,rfl,rfl⟩,let ⟨o,h1,r⟩:=hm;⟨o,Heap.get?_push_of_some _ h1,r⟩⟩⟩
end
end ZD
namespace L2
open PySem PySem.Spec PyProof.Rows
def kD:Key->D
  | .inl i=>.int i
  | .inr x=>.str x
section
variable {X:Cx}
theorem call_list_dT (hc:X.calm=true):CallR X (.type "list") (fun xs H Q=>∃ a kvs,xs=[.ref a]/\H a=some (.dT kvs)/\∀ l bs,H l=none->Paired (fun (k:List Key) (b:Addr)=>H b=some (.tup (k.map kV))) (kvs.map (·.1)) bs->Q (.ref l) (upd H l (.lst (bs.map V.ref)))):=by
  intro pins s σ H xs us Q I rs h
  obtain ⟨a,kvs,rfl,ha,q⟩:=h
  obtain ⟨u,rfl,ru⟩:=vals1 rs
  cases ru
  obtain ⟨hz,hS,ys,hp,o,es,ep,h1,h2,h3,h4,h5⟩:=(show ObjOk X.prog X.w H s.heap a (.dT kvs) from I.hok a _ ha)
  have hlen:kvs.length=ys.length:=Paired.length hp
  have hes:es.size=ys.length:=by rw [<- Array.length_toList,h4,List.length_map]
  refine PySem.W.kdl_call (ZD.src_raw (es:=es) (ep:=ep) hS) (I.ok.hd hc) ⟨o,h1,h2,h3⟩ (by omega) fun h' tk acc' c' hk hl hit=>?_
  have hacc:acc'.toList=(ys.map (·.2.1)).map Value.ref:=by
    apply List.ext_getElem?
    intro j
    rw [List.map_map,List.getElem?_map]
    by_cases hj:j < ys.length
    · have e1:ys[j]?=some ys[j]:=List.getElem?_eq_getElem hj
      have hja:j < acc'.size:=by rw [hit.1,hes];exact hj
      obtain ⟨e,g1,g2⟩:=hit.2 j _ (Array.getElem?_eq_getElem hja)
      have g3:es.toList[j]?=some e:=by rw [Array.getElem?_toList];exact g1
      rw [h4,List.getElem?_map,e1] at g3
      cases g3
      rw [Array.getElem?_toList,Array.getElem?_eq_getElem hja,e1,g2]
      rfl
    · rw [List.getElem?_eq_none (by rw [Array.length_toList,hit.1,hes];omega),List.getElem?_eq_none (by omega)]
      rfl
  have rv:∀ (bs:List Addr),Vals (bs.map V.ref) (bs.map Value.ref):=by
    intro bs
    induction bs with
    | nil=>exact .nil
    | cons b bs ih=>exact .cons rfl ih
  have pk:Paired (fun (k:List Key) (b:Addr)=>H b=some (.tup (k.map kV))) (kvs.map (·.1)) (ys.map (·.2.1)):=by
    clear hacc hes h4 h5 hlen hz ha q
    induction hp with
    | nil=>exact .nil
    | cons r t ih=>rw [List.map_cons,List.map_cons];exact .cons (by rw [r.1];have:=r.2.1;rw [r.1] at this;exact this) ih
  refine ⟨.ref s.heap.objs.size,_,I.laid (o:=.lst ((ys.map (·.2.1)).map V.ref)) hk (Nat.le_refl _) ⟨?_,acc'.toList,c',by rw [hacc];exact rv _,hl⟩,rfl,q _ _ (I.hok.fresh (Nat.le_refl _)) pk⟩
  rw [List.length_map,List.length_map];omega
end
end L2

namespace L2
open PySem PySem.Spec PyProof.Rows
section
variable {κ:Type} [DecidableEq κ]
def lkD:List κ->List D->κ->Option D
  | k::ks,d::ds,x=>if k=x then some d else lkD ks ds x
  | _,_,_=>none
def putKs (ks:List κ) (x:κ):List κ:=if x∈ks then ks else ks++[x]
def putDs (ks:List κ) (ds:List D) (x:κ) (v:D):List D:=if x∈ks then (ks.zip ds).map (fun p=>if p.1=x then v else p.2) else ds++[v]
theorem lk_rel {K:PySem.W.Frag} {H:Hp} {x:κ}:∀ {kvs:List (κ×V)} {ds:List D},Reps K H ds (kvs.map (·.2))->(∀ d,lkD (kvs.map (·.1)) ds x=some d->∃ v,valV kvs x=some v/\Rep K H d v)/\(lkD (kvs.map (·.1)) ds x=none->valV kvs x=none)
  | [],ds,r=>⟨fun d h=>by simp [lkD] at h,fun _=>rfl⟩
  | (k,v)::kvs,[],r=>by have:=r.length;simp at this
  | (k,v)::kvs,d::ds,⟨v',r',e,h,t⟩=>by
    have e':v=v'/\kvs.map (·.2)=r':=by simpa using e
    obtain ⟨rfl,rfl⟩:=e'
    have ih:=lk_rel (x:=x) t
    by_cases hk:k=x
    · subst hk
      refine ⟨fun d' q=>?_,fun q=>?_⟩
      · simp only [List.map_cons,lkD,if_true] at q
        cases q
        exact ⟨v,by simp [valV],h⟩
      · simp [lkD] at q
    · refine ⟨fun d' q=>?_,fun q=>?_⟩
      · simp only [List.map_cons,lkD,if_neg hk] at q
        obtain ⟨w,h1,h2⟩:=ih.1 d' q
        refine ⟨w,?_,h2⟩
        simp only [valV,List.find?_cons,hk,decide_false] at h1 ⊢
        exact h1
      · simp only [List.map_cons,lkD,if_neg hk] at q
        have:=ih.2 q
        simp only [valV,List.find?_cons,hk,decide_false] at this ⊢
        exact this
theorem val_isSome {x:κ} {kvs:List (κ×V)}:(valV kvs x).isSome=decide (x∈kvs.map (·.1)):=by
  rw [<- valV_any]
  rw [Bool.eq_iff_iff]
  simp only [List.any_eq_true,decide_eq_true_eq,List.mem_map]
theorem zip_reps {K:PySem.W.Frag} {H:Hp} {x:κ} {d:D} {v:V} (hr:Rep K H d v):∀ {kvs:List (κ×V)} {ds:List D},Reps K H ds (kvs.map (·.2)) ->
    Reps K H (((kvs.map (·.1)).zip ds).map (fun p=>if p.1=x then d else p.2)) ((kvs.map (fun kv=>if kv.1=x then (kv.1,v) else kv)).map (·.2))
  | [],ds,r=>by simp [Reps]
  | (k,u)::kvs,[],r=>by have:=r.length;simp at this
  | (k,u)::kvs,e::ds,⟨v',r',q,h,t⟩=>by
    have q':u=v'/\kvs.map (·.2)=r':=by simpa using q
    obtain ⟨rfl,rfl⟩:=q'
    have ih:=zip_reps (x:=x) hr t
    simp only [List.map_cons,List.zip_cons_cons]
    refine ⟨_,_,rfl,?_,ih⟩
    by_cases hk:k=x
    · simp only [hk,if_true];exact hr
    · simp only [hk,if_false];exact h
theorem put_rel {K:PySem.W.Frag} {H:Hp} {x:κ} {d:D} {v:V} (hr:Rep K H d v) {kvs:List (κ×V)} {ds:List D} (r:Reps K H ds (kvs.map (·.2))) :
    (putK kvs x v).map (·.1)=putKs (kvs.map (·.1)) x/\Reps K H (putDs (kvs.map (·.1)) ds x d) ((putK kvs x v).map (·.2)):=by
  unfold putK putKs putDs
  have hany:(kvs.any fun kv=>decide (kv.1=x))=decide (x∈kvs.map (·.1)):=by rw [valV_any,val_isSome]
  rw [hany]
  by_cases hx:x∈kvs.map (·.1)
  · simp only [hx,decide_true,if_true]
    refine ⟨?_,zip_reps hr r⟩
    rw [List.map_map]
    apply List.map_congr_left
    intro kv _
    simp only [Function.comp]
    split <;> rfl
  · simp only [hx,decide_false,Bool.false_eq_true,if_false,List.map_append,List.map_cons,List.map_nil]
    exact ⟨trivial,Reps.append r (Reps.one hr)⟩
end
def keyK:D->Option Key
  | .int i=>some (.inl i)
  | .str x=>some (.inr x)
  | _=>none
def keysK:List D->Option (List Key)
  | []=>some []
  | d::ds=>(keyK d).bind fun k=>(keysK ds).bind fun r=>some (k::r)
def keyT:D->Option (List Key)
  | .tup ds=>keysK ds
  | _=>none
theorem keyK_rep {K:PySem.W.Frag} {H:Hp} {d:D} {v:V} {k:Key} (e:keyK d=some k) (r:Rep K H d v):v=kV k:=by
  cases d with
  | int i=>cases e;exact r
  | str x=>cases e;exact r
  | _=>cases e
theorem keysK_rep {K:PySem.W.Frag} {H:Hp}:∀ {ds:List D} {vs:List V} {ks:List Key},keysK ds=some ks->Reps K H ds vs->vs=ks.map kV
  | [],_,_,e,r=>by cases e;exact r
  | d::ds,_,ks,e,⟨v,vr,q,h,t⟩=>by
    obtain ⟨k,e1,e⟩:=bind_some e
    obtain ⟨ks',e2,e⟩:=bind_some e
    cases e
    subst q
    rw [keyK_rep e1 h,keysK_rep e2 t];rfl
theorem kD_rep {K:PySem.W.Frag} {H:Hp} (k:Key):Rep K H (kD k) (kV k):=by cases k <;> rfl
theorem kDs_reps {K:PySem.W.Frag} {H:Hp}:∀ (ks:List Key),Reps K H (ks.map kD) (ks.map kV)
  | []=>rfl
  | k::ks=>⟨_,_,rfl,kD_rep k,kDs_reps ks⟩
def dLook:D->D->Option (Option D)
  | .dcK ks ds,x=>(keyK x).bind fun k=>some (lkD ks ds k)
  | .dcT ks ds,x=>(keyT x).bind fun k=>some (lkD ks ds k)
  | .dcF ks ds,x=>(keyT x).bind fun k=>some (lkD ks ds k)
  | _,_=>none
theorem dlook_rel {K:PySem.W.Frag} {O:List Addr} {H:Hp} {dd x:D} {o:Option D} {a v:V} (e:dLook dd x=some o) (rd:Rep K (mask O H) dd a) (rx:Rep K (mask O H) x v) :
    ∃ p ov,a=.ref p/\DGet H p v ov/\IsD H p/\(∀ d,o=some d->∃ u,ov=some u/\Rep K (mask O H) d u)/\(o=none->ov=none):=by
  cases dd with
  | dcK ks ds =>
    obtain ⟨k,e1,e⟩:=bind_some e
    cases e
    obtain ⟨p,kvs,rfl,hp,rfl,rs⟩:=rd
    have hp':=mask_sub _ _ hp
    cases keyK_rep e1 rx
    obtain ⟨h1,h2⟩:=lk_rel (x:=k) rs
    refine ⟨p,valV kvs k,rfl,DGet.k hp',.inl ⟨kvs,.inl hp'⟩,fun d q=>?_,fun q=>h2 q⟩
    obtain ⟨u,g1,g2⟩:=h1 d q
    exact ⟨u,g1,g2⟩
  | dcT ks ds =>
    obtain ⟨k,e1,e⟩:=bind_some e
    cases e
    obtain ⟨p,kvs,rfl,hp,rfl,rs⟩:=rd
    have hp':=mask_sub _ _ hp
    cases x with
    | tup xs =>
      obtain ⟨b,vs,rfl,hb,rb⟩:=rx
      cases keysK_rep e1 rb
      obtain ⟨h1,h2⟩:=lk_rel (x:=k) rs
      refine ⟨p,valV kvs k,rfl,DGet.t hp' (mask_sub _ _ hb),.inr ⟨kvs,.inl hp'⟩,fun d q=>?_,fun q=>h2 q⟩
      obtain ⟨u,g1,g2⟩:=h1 d q
      exact ⟨u,g1,g2⟩
    | _=>cases e1
  | dcF ks ds =>
    obtain ⟨k,e1,e⟩:=bind_some e
    cases e
    obtain ⟨p,fo,kvs,rfl,hp,rfl,rs⟩:=rd
    have hp':=mask_sub _ _ hp
    cases x with
    | tup xs =>
      obtain ⟨b,vs,rfl,hb,rb⟩:=rx
      cases keysK_rep e1 rb
      obtain ⟨h1,h2⟩:=lk_rel (x:=k) rs
      refine ⟨p,valV kvs k,rfl,.inr ⟨kvs,k,b,.inr ⟨fo,hp'⟩,rfl,mask_sub _ _ hb,rfl⟩,.inr ⟨kvs,.inr ⟨fo,hp'⟩⟩,fun d q=>?_,fun q=>h2 q⟩
      obtain ⟨u,g1,g2⟩:=h1 d q
      exact ⟨u,g1,g2⟩
    | _=>cases e1
  | _=>cases e
section
variable {X:Cx}
def flatD:D->Bool
  | .non=>true
  | .bl _=>true
  | .int _=>true
  | .str _=>true
  | _=>false
def toV:D->V
  | .bl b=>.bl b
  | .int i=>.int i
  | .str x=>.str x
  | _=>.non
theorem flat_rep {K:PySem.W.Frag} {H:Hp} {d:D} {v:V} (f:flatD d=true) (r:Rep K H d v):v=toV d/\flatV v=true:=by
  cases d with
  | non=>rw [show v=_ from r];exact ⟨rfl,rfl⟩
  | bl b=>rw [show v=_ from r];exact ⟨rfl,rfl⟩
  | int b=>rw [show v=_ from r];exact ⟨rfl,rfl⟩
  | str b=>rw [show v=_ from r];exact ⟨rfl,rfl⟩
  | _=>cases f
theorem flats_rep {K:PySem.W.Frag} {H:Hp}:∀ {ds:List D} {vs:List V},ds.all flatD=true->Reps K H ds vs->vs=ds.map toV/\vs.all flatV=true
  | [],_,_,r=>by rw [show _=_ from r];exact ⟨rfl,rfl⟩
  | d::ds,_,f,⟨v,vr,q,h,t⟩=>by
    subst q
    rw [List.all_cons,Bool.and_eq_true] at f
    obtain ⟨h1,h2⟩:=flat_rep f.1 h
    obtain ⟨h3,h4⟩:=flats_rep f.2 t
    exact ⟨by rw [h1,h3];rfl,by rw [List.all_cons,h2,h4];rfl⟩
def inOp:D->D->Option D
  | x,.lst ds=>if (flatD x && ds.all flatD)=true then some (.bl (inV (toV x) (ds.map toV))) else none
  | x,.tup ds=>if (flatD x && ds.all flatD)=true then some (.bl (inV (toV x) (ds.map toV))) else none
  | x,y=>(dLook y x).bind fun o=>some (.bl o.isSome)
theorem op_din (hu:X.A.units+1 < cLine):OpR X (compareOp .In) (fun x y H Q=>∃ a o,y=.ref a/\DGet H a x o/\Q (.bl o.isSome) H):=by
  intro pins s σ H x y v u Q I rx ry h
  obtain ⟨a,o,rfl,g,q⟩:=h
  cases ry
  exact d_in hu I g rx fun s' I'=>⟨.bl o.isSome,H,I',rfl,q⟩
theorem opd_in (hu:X.A.units+64 < cLine):OpD X (compareOp .In) inOp:=OpD.of (OpR.or op_in_seq (op_din (Nat.lt_of_le_of_lt (Nat.add_le_add_left (by decide) _) hu))) fun x y H Q ⟨O,dx,dy,d,th,rx,ry,e,q⟩=>by
  have dict:∀ o,dLook dy dx=some o->d=.bl o.isSome->∃ a ov,y=.ref a/\DGet H a x ov/\Q (.bl ov.isSome) H:=fun o e1 e2=>by
    obtain ⟨p,ov,e3,g,_,h1,h2⟩:=dlook_rel e1 ry rx
    refine ⟨p,ov,e3,g,?_⟩
    have:ov.isSome=o.isSome:=by
      cases o with
      | none=>rw [h2 rfl];rfl
      | some d'=>obtain ⟨u,hu,_⟩:=h1 d' rfl;rw [hu];rfl
    rw [this]
    subst e2
    exact q _ H (Same.refl _) rfl
  cases dy with
  | lst ds =>
    have e:(if (flatD dx && ds.all flatD)=true then some (D.bl (inV (toV dx) (ds.map toV))) else none)=some d:=e
    split at e
    · rename_i hf
      cases e
      obtain ⟨f1,f2⟩:=Bool.and_eq_true_iff.mp hf
      obtain ⟨p,vs,rfl,hp,rp⟩:=ry
      obtain ⟨h1,h2⟩:=flat_rep f1 rx
      obtain ⟨h3,h4⟩:=flats_rep f2 rp
      refine .inl ⟨p,vs,rfl,.inl (SqL.of (mask_sub _ _ hp)),h2,h4,?_⟩
      rw [h1,h3]
      exact q _ H (Same.refl _) rfl
    · cases e
  | tup ds =>
    have e:(if (flatD dx && ds.all flatD)=true then some (D.bl (inV (toV dx) (ds.map toV))) else none)=some d:=e
    split at e
    · rename_i hf
      cases e
      obtain ⟨f1,f2⟩:=Bool.and_eq_true_iff.mp hf
      obtain ⟨p,vs,rfl,hp,rp⟩:=ry
      obtain ⟨h1,h2⟩:=flat_rep f1 rx
      obtain ⟨h3,h4⟩:=flats_rep f2 rp
      refine .inl ⟨p,vs,rfl,.inr (SqT.of (mask_sub _ _ hp)),h2,h4,?_⟩
      rw [h1,h3]
      exact q _ H (Same.refl _) rfl
    · cases e
  | dcK ks ds=>obtain ⟨o,e1,e⟩:=bind_some e;cases e;exact .inr (dict o e1 rfl)
  | dcT ks ds=>obtain ⟨o,e1,e⟩:=bind_some e;cases e;exact .inr (dict o e1 rfl)
  | dcF ks ds=>obtain ⟨o,e1,e⟩:=bind_some e;cases e;exact .inr (dict o e1 rfl)
  | _=>cases e
def dixD:D->D->Option D:=fun d k=>(dLook d k).bind fun o=>o
theorem ev_dix {a b:Expr} {fa fb:FE} {pos:Pos} (hu:X.A.units+64 < cLine) (ha:EV X a fa) (hb:EV X b fb) (hs:NoSl b:=by exact fun _ _=>rfl):EV X (.Subscript a b pos) (f2 dixD fa fb) :=
  PE.imp (pe_dget (Nat.lt_of_le_of_lt (Nat.add_le_add_left (by decide) _) hu) ha hb hs) fun σ H Q h=>by
    obtain ⟨O,ρ,d,rv,e,q⟩:=h
    obtain ⟨x,e1,e⟩:=bind_some e
    obtain ⟨y,e2,e⟩:=bind_some e
    obtain ⟨o,e3,e⟩:=bind_some e
    subst e
    refine ⟨O,ρ,x,rv,e1,fun v H1 s1 r1=>⟨O,ρ,y,rv.mono s1,e2,fun u H2 s2 r2=>?_⟩⟩
    obtain ⟨p,ov,e4,g,_,h1,_⟩:=dlook_rel e3 (Rep.mono (mask_same s2) x v r1) r2
    obtain ⟨w,ew,rw'⟩:=h1 d rfl
    exact ⟨p,w,e4,by rw [<- ew];exact g,q w H2 (Same.trans s1 s2) rw'⟩
def fDgt (fa fb fc:FE):FE:=fun ρ=>(fa ρ).bind fun x=>(fb ρ).bind fun y=>(fc ρ).bind fun z=>(dLook x y).bind fun o=>some (o.getD z)
theorem ev_dgt {o e f:Expr} {fa fb fc:FE} {apos cpos:Pos} (hu:X.A.units+64 < cLine) (ho:EV X o fa) (he:EV X e fb) (hf:EV X f fc) (m:M2 X o "get" apos e f cpos:=by exact ⟨rfl,rfl,rfl,rfl⟩) :
    EV X (.Call (.Attribute o "get" apos) [e,f] [] cpos) (fDgt fa fb fc):=PE.imp (pe_dget2 (Nat.lt_of_le_of_lt (Nat.add_le_add_left (by decide) _) hu) ho he hf m) fun σ H Q h=>by
  obtain ⟨O,ρ,d,rv,e,q⟩:=h
  obtain ⟨x,e1,e⟩:=bind_some e
  obtain ⟨y,e2,e⟩:=bind_some e
  obtain ⟨z,e3,e⟩:=bind_some e
  obtain ⟨o,e4,e⟩:=bind_some e
  cases e
  refine ⟨O,ρ,x,rv,e1,fun v H1 s1 r1=>?_⟩
  have isd:∃ p,v=.ref p/\IsD H1 p:=by
    cases x with
    | dcK ks ds=>obtain ⟨p,kvs,rfl,hp,_⟩:=r1;exact ⟨p,rfl,.inl ⟨kvs,.inl (mask_sub _ _ hp)⟩⟩
    | dcT ks ds=>obtain ⟨p,kvs,rfl,hp,_⟩:=r1;exact ⟨p,rfl,.inr ⟨kvs,.inl (mask_sub _ _ hp)⟩⟩
    | dcF ks ds=>obtain ⟨p,fo,kvs,rfl,hp,_⟩:=r1;exact ⟨p,rfl,.inr ⟨kvs,.inr ⟨fo,mask_sub _ _ hp⟩⟩⟩
    | _=>cases e4
  obtain ⟨p,rfl,hd⟩:=isd
  refine ⟨p,rfl,hd,O,ρ,y,rv.mono s1,e2,fun u H2 s2 r2=>⟨O,ρ,z,rv.mono (Same.trans s1 s2),e3,fun w H3 s3 r3=>?_⟩⟩
  obtain ⟨p',ov,ep,g,_,h1,h2⟩:=dlook_rel e4 (Rep.mono (mask_same (Same.trans s2 s3)) x _ r1) (Rep.mono (mask_same s3) y u r2)
  cases ep
  refine ⟨ov,g,?_⟩
  cases o with
  | none=>rw [h2 rfl];exact q w H3 (Same.trans s1 (Same.trans s2 s3)) r3
  | some d'=>obtain ⟨t,et,rt⟩:=h1 d' rfl;rw [et];exact q t H3 (Same.trans s1 (Same.trans s2 s3)) rt
def lenKD:List D->Option D
  | [.dcK ks _]=>some (.int ks.length)
  | _=>none
theorem cd_lenK:CallD X (.builtin "len") lenKD:=CallD.of call_lenD fun xs H Q ⟨O,ds,d,th,rs,e,q⟩=>by
  unfold lenKD at e
  split at e
  · cases e
    obtain ⟨v,rfl,p,kvs,rfl,hp,hk,_⟩:=reps1 rs
    refine ⟨p,kvs,rfl,mask_sub _ _ hp,?_⟩
    rw [<- hk,List.length_map] at q
    exact q _ H (Same.refl _) rfl
  · cases e
def listTD:List D->Option D
  | [.dcT ks _]=>some (.lst (ks.map fun k=>.tup (k.map kD)))
  | _=>none
theorem keys_reps {K:PySem.W.Frag} {H:Hp}:∀ {ks:List (List Key)} {bs:List Addr},Paired (fun (k:List Key) (b:Addr)=>H b=some (.tup (k.map kV))) ks bs->Reps K H (ks.map fun k=>.tup (k.map kD)) (bs.map V.ref)
  | _,_,.nil=>rfl
  | _,_,.cons h t=>⟨_,_,rfl,⟨_,_,rfl,h,kDs_reps _⟩,keys_reps t⟩
theorem cd_listT (hc:X.calm=true):CallD X (.type "list") listTD:=CallD.of (call_list_dT hc) fun xs H Q ⟨O,ds,d,th,rs,e,q⟩=>by
  unfold listTD at e
  split at e
  · cases e
    obtain ⟨v,rfl,p,kvs,rfl,hp,rfl,_⟩:=reps1 rs
    refine ⟨p,kvs,rfl,mask_sub _ _ hp,fun l bs hl pk=>q _ _ (Same.new hl) (rep_new_lst th hl ?_)⟩
    refine keys_reps (Paired.mapP pk fun k b hb=>?_)
    refine (mask_out fun m=>?_).trans hb
    obtain ⟨o,h1,h2⟩:=th b m
    rw [hb] at h1;cases h1;exact h2
  · cases e
def sOwnT (i:Nat):FS:=fun ρ=>.nx (ρ.set i (some (.own (.dcT [] []))))
theorem sv_ownT {i:Nat} {x:Str} {pos pos' pd:Pos} (hN:X.N.Nodup) (hi:X.N[i]?=some x:=by rfl) (hx:Loc X.env.scope x:=by first | exact Or.inl rfl | exact Or.inr rfl) (hs:swapsWith (.Dict [] [] pd) (some (.Name x pos')) pos.line X.env=pure false:=by rfl)
    (hf:X.fn x=true\/X.env.scope.names.lookup x=some .local:=by first | exact .inl rfl | exact .inr rfl):SV X (.Assign [.Name x pos'] (.Dict [] [] pd) pos) (sOwnT i):=PS.imp (ps_set hN hi hx pe_dnewT hs hf) fun E σ H ⟨B,O0,O1,ρ,r,q⟩ =>
  fun p hp=>q _ _ (p::O1) (r.setOwn hp trivial ⟨[],upd_same,rfl,rfl⟩)
def sOwn1 (i:Nat) (c:Int) (b:Bool):FS:=fun ρ=>.nx (ρ.set i (some (.own (.dcK [.inl c] [.bl b]))))
theorem sv_own1 {i:Nat} {x:Str} {c:Int} {b:Bool} {j1 j2} {pos pos' pd p1 p2:Pos} (hN:X.N.Nodup) (hi:X.N[i]?=some x:=by rfl) (hx:Loc X.env.scope x:=by first | exact Or.inl rfl | exact Or.inr rfl)
    (hs:swapsWith (.Dict [some (.Constant (.int c) j1 p1)] [.Constant (.bool b) j2 p2] pd) (some (.Name x pos')) pos.line X.env=pure false:=by rfl)
    (hf:X.fn x=true\/X.env.scope.names.lookup x=some .local:=by first | exact .inl rfl | exact .inr rfl):SV X (.Assign [.Name x pos'] (.Dict [some (.Constant (.int c) j1 p1)] [.Constant (.bool b) j2 p2] pd) pos) (sOwn1 i c b) :=
  PS.imp (ps_set hN hi hx (pe_disp (pps_cons pe_int pe_bl pps_nil) rfl rfl (by simp) (by simp)) hs hf) fun E σ H ⟨B,O0,O1,ρ,r,q⟩=>by
    intro p hp
    refine ⟨upd_same,[(.inl c,.bl b)],rfl,by simp,?_⟩
    rw [upd_upd]
    exact q _ _ (p::O1) (r.setOwn hp trivial ⟨_,upd_same,rfl,_,_,rfl,rfl,rfl⟩)
def sDSet (i:Nat) (fk fv:FE):FS:=fun ρ=>match ρ[i]?,fv (allV ρ),fk (allV ρ) with
  | some (some (.own (.dcK ks ds))),some d,some kd=>(match keyK kd with
    | some k=>if imm d=true/\ks.length < limD then .nx (ρ.set i (some (.own (.dcK (putKs ks k) (putDs ks ds k d))))) else .bad
    | none=>.bad)
  | some (some (.own (.dcT ks ds))),some d,some kd=>(match keyT kd with
    | some k=>if imm d=true/\ks.length < limD then .nx (ρ.set i (some (.own (.dcT (putKs ks k) (putDs ks ds k d))))) else .bad
    | none=>.bad)
  | _,_,_=>.bad
theorem sv_dset {i:Nat} {x:Str} {k e:Expr} {fk fv:FE} {pos p1 p2:Pos} (hu:X.A.units+64 < cLine) (hk:EV X k fk) (he:EV X e fv) (hN:X.N[i]?=some x:=by rfl) (hv:Vis X.env.scope x:=by first | exact Or.inl rfl | exact Or.inr (Or.inl rfl) | exact Or.inr (Or.inr rfl))
    (hd:(x == ("__debug__":Str))=false:=by decide) (hcd:(x == ("__classdict__":Str))=false:=by decide) (hs:swapsWith e (some (.Subscript (.Name x p1) k p2)) pos.line X.env=pure false:=by rfl) :
    SV X (.Assign [.Subscript (.Name x p1) k p2] e pos) (sDSet i fk fv):=PS.imp (ps_dput (Nat.lt_of_le_of_lt (Nat.add_le_add_left (by decide) _) hu) (pe_var hN hv hd hcd) hk he hs) fun E σ H ⟨B,O0,O1,ρ,r,q⟩=>by
  have emask:∀ {a:Addr} {o:HO} {H2:Hp},a∈O1->mask (O0++O1) (upd H2 a o)=mask (O0++O1) H2:=fun {a o H2} hO=>by
    funext b
    by_cases hb:b∈O0++O1
    · rw [mask_in hb,mask_in hb]
    · rw [mask_out hb,mask_out hb,upd_ne (fun z=>hb (by rw [z];exact List.mem_append_right _ hO))]
  have small:∀ {n:Nat},n < limD->n < sizeLine:=fun {n} h=>by
    rw [show sizeLine=16777216 from sizeLine_eq]
    unfold limD at h
    omega
  unfold sDSet at q
  split at q
  · rename_i ks ds d kd hi e1 e2
    split at q
    · rename_i key ek
      split at q
      · rename_i hm
        obtain ⟨a,ha,hO,kvs,hv',rfl,rs⟩:=r.owns i _ hi
        refine ⟨O0,allV ρ,d,r.all,e1,fun v H1 s1 rv1=>?_⟩
        have r1:=r.mono s1
        refine ⟨.ref a,ha,O0,allV ρ,kd,r1.all,e2,fun y H2 s2 rv2=>?_⟩
        have r2:=r1.mono s2
        have hv2:H2 a=some (.dK kvs):=s2 _ _ (s1 _ _ hv')
        cases keyK_rep ek rv2
        refine ⟨a,_,rfl,DPut.k hv2 (small (by simpa using hm.2)),?_⟩
        have rd:Rep X.K (mask (O0++O1) H2) d v:=rep_imm r2.th d v hm.1 (Rep.mono (mask_same s2) d v rv1)
        obtain ⟨g1,g2⟩:=put_rel (x:=key) rd (Reps.mono (mask_same (Same.trans s1 s2)) ds _ rs)
        exact q _ _ O1 (r2.write hi ha trivial ⟨_,upd_same,g1,by rw [emask hO];exact g2⟩)
      · exact q.elim
    · exact q.elim
  · rename_i ks ds d kd hi e1 e2
    split at q
    · rename_i key ek
      split at q
      · rename_i hm
        obtain ⟨a,ha,hO,kvs,hv',rfl,rs⟩:=r.owns i _ hi
        refine ⟨O0,allV ρ,d,r.all,e1,fun v H1 s1 rv1=>?_⟩
        have r1:=r.mono s1
        refine ⟨.ref a,ha,O0,allV ρ,kd,r1.all,e2,fun y H2 s2 rv2=>?_⟩
        have r2:=r1.mono s2
        have hv2:H2 a=some (.dT kvs):=s2 _ _ (s1 _ _ hv')
        cases kd with
        | tup xs =>
          obtain ⟨b,vs,rfl,hb,rb⟩:=rv2
          cases keysK_rep ek rb
          refine ⟨a,_,rfl,DPut.t hv2 (mask_sub _ _ hb) (small (by simpa using hm.2)),?_⟩
          have rd:Rep X.K (mask (O0++O1) H2) d v:=rep_imm r2.th d v hm.1 (Rep.mono (mask_same s2) d v rv1)
          obtain ⟨g1,g2⟩:=put_rel (x:=key) rd (Reps.mono (mask_same (Same.trans s1 s2)) ds _ rs)
          exact q _ _ O1 (r2.write hi ha trivial ⟨_,upd_same,g1,by rw [emask hO];exact g2⟩)
        | _=>cases ek
      · exact q.elim
    · exact q.elim
  · exact q.elim
end
end L2

namespace M
def S:Nat->(Nat->Int)->Int
  | 0,_=>0
  | n+1,f=>S n f+f n
theorem S_congr:∀ (n:Nat) {f g:Nat->Int},(∀ i,i < n->f i=g i)->S n f=S n g
  | 0,_,_,_=>rfl
  | n+1,f,g,h=>by
    show S n f+f n=S n g+g n
    rw [S_congr n fun i hi=>h i (Nat.lt_succ_of_lt hi),h n (Nat.lt_succ_self n)]
theorem S_zero:∀ (n:Nat),S n (fun _=>0)=0
  | 0=>rfl
  | n+1=>by show S n _+0=0;rw [S_zero n];rfl
theorem S_add:∀ (n:Nat) (f g:Nat->Int),S n (fun i=>f i+g i)=S n f+S n g
  | 0,_,_=>rfl
  | n+1,f,g=>by show S n (fun i=>f i+g i)+(f n+g n)=(S n f+f n)+(S n g+g n);rw [S_add n f g];omega
theorem S_one:∀ (n k:Nat) (f:Nat->Int),k < n->S n (fun i=>if i=k then f i else 0)=f k
  | 0,_,_,h=>by omega
  | n+1,k,f,h=>by
    show S n _+(if n=k then f n else 0)=f k
    by_cases e:n=k
    · subst e
      rw [if_pos rfl,S_congr n (g:=fun _=>0) fun i hi=>if_neg (by omega),S_zero];omega
    · rw [if_neg e,S_one n k f (by omega)];omega
theorem S_out (n k:Nat) (f:Nat->Int) (h:k < n):S n f=f k+S n (fun i=>if i=k then 0 else f i):=by
  have a:=S_add n (fun i=>if i=k then f i else 0) (fun i=>if i=k then 0 else f i)
  rw [S_one n k f h] at a
  rw [<- a]
  exact S_congr n fun i _=>by split <;> omega
structure Net (n:Nat) (L:Nat->Nat->Int):Prop where
  sym:∀ i j,i < n->j < n->L i j=L j i
  nn:∀ i j,0<=L i j
  diag:∀ i,L i i=0
section
variable {n:Nat} {L:Nat->Nat->Int}
def outOf (n:Nat) (L:Nat->Nat->Int) (A:Nat->Bool) (i:Nat):Int:=S n fun j=>if A j=true then 0 else L i j
def NoDebt (n:Nat) (q:Nat) (d:Nat->Int):Prop:=∀ i,i < n->i≠q->0<=d i
structure Settled (n:Nat) (L:Nat->Nat->Int) (q:Nat) (d:Nat->Int):Prop where
  nodebt:NoDebt n q d
  sets:∀ A:Nat->Bool,A q=false->(∃ i,i < n/\A i=true)->∃ i,i < n/\A i=true/\d i < outOf n L A i
end
end M

namespace M
theorem length_le_of_nodup:∀ (n:Nat) (l:List Nat),l.Nodup->(∀ x∈l,x < n)->l.length<=n
  | 0,l,_,h=>by
    cases l with
    | nil=>exact Nat.le_refl _
    | cons x r=>exact absurd (h x List.mem_cons_self) (by omega)
  | n+1,l,nd,h=>by
    by_cases hn:n∈l
    · have h1:=length_le_of_nodup n (l.erase n) (nd.erase n) fun x hx=>by
        have h2:=h x (List.mem_of_mem_erase hx)
        have h3:x≠n:=fun z=>by subst z;exact (List.Nodup.not_mem_erase nd) hx
        omega
      have:=List.length_erase_of_mem hn
      have:0 < l.length:=List.length_pos_of_mem hn
      omega
    · have h1:=length_le_of_nodup n l nd fun x hx=>by
        have h2:=h x hx
        have h3:x≠n:=fun z=>by subst z;exact hn hx
        omega
      omega
def sumL (L:Nat->Nat->Int) (i:Nat) (bs:List Nat):Int:=(bs.map (L i)).sum
def bstep (L:Nat->Nat->Int) (d:Nat->Int) (bs:List Nat) (y:Nat):List Nat:=if y∉bs/\d y < sumL L y bs then bs++[y] else bs
def others (n q:Nat):List Nat:=(List.range n).filter fun y=>decide (y≠q)
theorem mem_others {n q y:Nat}:y∈others n q ↔ y < n/\y≠q:=by unfold others;simp
structure BI (n:Nat) (L:Nat->Nat->Int) (d:Nat->Int) (q:Nat) (bs:List Nat):Prop where
  head:bs[0]?=some q
  nd:bs.Nodup
  lt:∀ x∈bs,x < n
  fewer:∀ (k y:Nat),bs[k]?=some y->0 < k->d y < sumL L y (bs.take k)
section
variable {n:Nat} {L:Nat->Nat->Int} {d:Nat->Int} {q:Nat}
theorem BI.start (hq:q < n):BI n L d q [q]:=⟨rfl,by simp,fun x hx=>by simp at hx;omega,fun k y e hk=>by
  cases k with
  | zero=>omega
  | succ k=>simp at e⟩
theorem BI.len {bs:List Nat} (b:BI n L d q bs):bs.length<=n:=length_le_of_nodup n bs b.nd b.lt
theorem BI.step {bs:List Nat} (b:BI n L d q bs) {y:Nat} (hy:y < n):BI n L d q (bstep L d bs y):=by
  unfold bstep
  split
  · rename_i h
    have h0:0 < bs.length:=by
      cases e:bs with
      | nil=>have:=b.head;rw [e] at this;cases this
      | cons x r=>simp
    refine ⟨by rw [List.getElem?_append_left h0];exact b.head,?_,fun x hx=>?_,fun k z e hk=>?_⟩
    · rw [List.nodup_append]
      exact ⟨b.nd,by simp,fun a ha c hc=>by simp at hc;subst hc;exact fun z=>h.1 (z ▸ ha)⟩
    · rcases List.mem_append.mp hx with z | z
      · exact b.lt x z
      · simp at z;omega
    · by_cases hl:k < bs.length
      · rw [List.getElem?_append_left hl] at e
        rw [List.take_append_of_le_length (Nat.le_of_lt hl)]
        exact b.fewer k z e hk
      · have hk':k < (bs++[y]).length:=(List.getElem?_eq_some_iff.mp e).1
        have ek:k=bs.length:=by simp at hk';omega
        subst ek
        have:z=y:=by simpa using e.symm
        subst this
        rw [List.take_left]
        exact h.2
  · exact b
theorem full_mem:∀ (n:Nat) (l:List Nat),l.Nodup->(∀ x∈l,x < n)->l.length=n->∀ y,y < n->y∈l
  | n,l,nd,h,hl,y,hy=>by
    by_cases m:y∈l
    · exact m
    · have:=length_le_of_nodup n (y::l) (List.nodup_cons.mpr ⟨m,nd⟩) fun x hx=>by
        rcases List.mem_cons.mp hx with z | z
        · omega
        · exact h x z
      simp at this
      omega
end
end M

namespace L2
open PySem PySem.W PyProof.Rows
def kok {α:Type} (f:Nat->Nat->Bool) (N:Nat) (P:α->Prop):KasT α->Prop
  | .ret a=>P a
  | .ask i j k=>i < N/\j < N/\kok f N P (k (f i j))
theorem kok_bind {α β:Type} {f:Nat->Nat->Bool} {N:Nat} {P:β->Prop} {g:α->KasT β}:∀ (t:KasT α),kok f N (fun a=>kok f N P (g a)) t->kok f N P (t.bind g)
  | .ret _,h=>h
  | .ask i j k,h=>⟨h.1,h.2.1,kok_bind (k (f i j)) h.2.2⟩
theorem kok_mono {α:Type} {f:Nat->Nat->Bool} {N:Nat} {P P':α->Prop} (hp:∀ a,P a->P' a):∀ (t:KasT α),kok f N P t->kok f N P' t
  | .ret a,h=>hp a h
  | .ask i j k,h=>⟨h.1,h.2.1,kok_mono hp (k (f i j)) h.2.2⟩
theorem kok_wp {α:Type} {f:Nat->Nat->Bool} {N:Nat} {P:α->Prop} {cmp:Nat->Nat->(Bool->Shared->Prop)->Shared->Prop} {J:Shared->Prop} {Q:α->Shared->Prop}
    (hc:∀ i j C s,i < N->j < N->J s->(∀ s',J s'->C (f i j) s')->cmp i j C s) (hq:∀ a s,P a->J s->Q a s):∀ (t:KasT α) (s:Shared),J s->kok f N P t->t.kasWp cmp Q s
  | .ret a,s,hj,h=>hq a s h hj
  | .ask i j k,s,hj,h=>hc i j _ s h.1 h.2.1 hj fun s' hj'=>kok_wp hc hq (k (f i j)) s' hj' h.2.2
structure KOrd (f:Nat->Nat->Bool) (N:Nat):Prop where
  tr:∀ a b c,a < N->b < N->c < N->f a b=true->f b c=true->f a c=true
  as:∀ a b,a < N->b < N->f a b=true->f b a=false
  tot:∀ a b,a < N->b < N->a≠b->f a b=true\/f b a=true
section
variable {f:Nat->Nat->Bool} {N:Nat}
def ka (p:Array Nat) (i:Nat):Nat:=p.getD i 0
structure KP (N:Nat) (p:Array Nat):Prop where
  size:p.size=N
  lt:∀ i,i < N->ka p i < N
  inj:∀ i j,i < N->j < N->ka p i=ka p j->i=j
def Ris (f:Nat->Nat->Bool) (p:Array Nat) (k:Nat):Prop:=∀ i j,i < j->j < k->f (ka p i) (ka p j)=true
def Fal (f:Nat->Nat->Bool) (p:Array Nat) (k:Nat):Prop:=∀ i j,i < j->j < k->f (ka p j) (ka p i)=true
theorem ka_get {p q:Array Nat} {i j:Nat} (h:p[i]?=q[j]?):ka p i=ka q j:=by
  unfold ka;rw [Array.getD_eq_getD_getElem?,Array.getD_eq_getD_getElem?,h]
theorem Ris.step (o:KOrd f N) {p:Array Nat} (hp:KP N p) {k:Nat} (hk:k < N) (h1:1<=k) (h:Ris f p k) (hl:f (ka p (k - 1)) (ka p k)=true):Ris f p (k+1):=fun i j hij hj=>by
  by_cases e:j=k
  · subst e
    by_cases e2:i=j - 1
    · rw [e2];exact hl
    · exact o.tr _ _ _ (hp.lt i (by omega)) (hp.lt (j - 1) (by omega)) (hp.lt j hk) (h i (j - 1) (by omega) (by omega)) hl
  · exact h i j hij (by omega)
theorem Fal.step (o:KOrd f N) {p:Array Nat} (hp:KP N p) {k:Nat} (hk:k < N) (h1:1<=k) (h:Fal f p k) (hl:f (ka p k) (ka p (k - 1))=true):Fal f p (k+1):=fun i j hij hj=>by
  by_cases e:j=k
  · subst e
    by_cases e2:i=j - 1
    · rw [e2];exact hl
    · exact o.tr _ _ _ (hp.lt j hk) (hp.lt (j - 1) (by omega)) (hp.lt i (by omega)) hl (h i (j - 1) (by omega) (by omega))
  · exact h i j hij (by omega)
theorem asc_ok (o:KOrd f N) {p:Array Nat} (hp:KP N p):∀ (t n:Nat),1<=n->n+t<=N->Ris f p n->kok f N (fun m=>n<=m/\m<=n+t/\Ris f p m/\(m < n+t->f (ka p m) (ka p (m - 1))=true)) (kas_asc p t n)
  | 0,n,h1,h2,h=>⟨Nat.le_refl _,Nat.le_refl _,h,fun z=>absurd z (by omega)⟩
  | t+1,n,h1,h2,h=>by
    refine ⟨hp.lt n (by omega),hp.lt (n - 1) (by omega),?_⟩
    cases e:f (p.getD n 0) (p.getD (n - 1) 0) with
    | true=>exact ⟨Nat.le_refl _,by omega,h,fun _=>e⟩
    | false =>
      have hl:f (ka p (n - 1)) (ka p n)=true:=by
        rcases o.tot (ka p (n - 1)) (ka p n) (hp.lt _ (by omega)) (hp.lt _ (by omega)) (fun z=>by have:=hp.inj _ _ (by omega) (by omega) z;omega) with z | z
        · exact z
        · exact absurd (e.symm.trans z) (by decide)
      show kok f N _ (kas_asc p t (n+1))
      exact kok_mono (fun m ⟨a,b,c,d⟩=>⟨by omega,by omega,c,fun z=>d (by omega)⟩) _ (asc_ok o hp t (n+1) (by omega) (by omega) (h.step o hp (by omega) h1 hl))
theorem desc_ok (o:KOrd f N) {p:Array Nat} (hp:KP N p):∀ (t n:Nat),1<=n->n+t<=N->Fal f p n->kok f N (fun r=>r.1=p/\r.2.2=0/\n<=r.2.1/\r.2.1<=n+t/\Fal f p r.2.1) (kas_desc t p n 0)
  | 0,n,h1,h2,h=>⟨rfl,rfl,Nat.le_refl _,Nat.le_refl _,h⟩
  | t+1,n,h1,h2,h=>by
    refine ⟨hp.lt n (by omega),hp.lt (n - 1) (by omega),?_⟩
    cases e:f (p.getD n 0) (p.getD (n - 1) 0) with
    | true =>
      show kok f N _ (kas_desc t p (n+1) 0)
      exact kok_mono (fun m ⟨a,b,c,d,g⟩=>⟨a,b,by omega,by omega,g⟩) _ (desc_ok o hp t (n+1) (by omega) (by omega) (h.step o hp (by omega) h1 e))
    | false =>
      have hl:f (p.getD (n - 1) 0) (p.getD n 0)=true:=by
        rcases o.tot (ka p (n - 1)) (ka p n) (hp.lt _ (by omega)) (hp.lt _ (by omega)) (fun z=>by have:=hp.inj _ _ (by omega) (by omega) z;omega) with z | z
        · exact z
        · exact absurd (e.symm.trans z) (by decide)
      refine ⟨hp.lt (n - 1) (by omega),hp.lt n (by omega),?_⟩
      rw [hl]
      exact ⟨rfl,rfl,Nat.le_refl _,(by show n<=n+(t+1);omega),h⟩
theorem rev_at {p:Array Nat} {n:Nat} (hn:n<=p.size) (k:Nat):ka (kas_rev p 0 n) k=if k < n then ka p (n - 1 - k) else ka p k:=by
  have e:=getElem?_mirror_all (xs:=p) (i:=0) hn k
  unfold kas_rev
  by_cases h:k < n
  · rw [if_pos h]
    rw [if_pos ⟨Nat.zero_le _,h⟩] at e
    exact ka_get (by rw [e];congr 1;omega)
  · rw [if_neg h]
    rw [if_neg (fun z=>h z.2)] at e
    exact ka_get e
theorem rev_kp {p:Array Nat} (hp:KP N p) {n:Nat} (hn:n<=N):KP N (kas_rev p 0 n):=by
  have hs:n<=p.size:=by rw [hp.size];exact hn
  refine ⟨by unfold kas_rev;rw [mirror_size,hp.size],fun i hi=>?_,fun i j hi hj=>?_⟩
  · rw [rev_at hs];split <;> exact hp.lt _ (by omega)
  · rw [rev_at hs,rev_at hs]
    intro e
    split at e <;> split at e
    all_goals
      have:=hp.inj _ _ (by omega) (by omega) e
      omega
theorem rev_ris {p:Array Nat} (hp:KP N p) {n:Nat} (hn:n<=N) (h:Fal f p n):Ris f (kas_rev p 0 n) n:=fun i j hij hj=>by
  have hs:n<=p.size:=by rw [hp.size];exact hn
  rw [rev_at hs,rev_at hs,if_pos (by omega),if_pos hj]
  exact h _ _ (by omega) (by omega)
theorem tail3_ok (o:KOrd f N) {p:Array Nat} (hp:KP N p) {n:Nat} (h1:1<=n) (hn:n<=N) (h:Fal f p n):kok f N (fun r=>1<=r.1/\r.1<=N/\KP N r.2/\Ris f r.2 r.1) (kas_tail3 n N p):=by
  unfold kas_tail3
  refine kok_bind _ (kok_mono (fun m ⟨a,b,c,_⟩=>?_) _ (asc_ok o (rev_kp hp hn) (N - n) n h1 (by omega) (rev_ris hp hn h)))
  exact ⟨by omega,by omega,rev_kp hp hn,c⟩
theorem count_ok (o:KOrd f N) {p:Array Nat} (hp:KP N p) (h1:1<=N):kok f N (fun r=>1<=r.1/\r.1<=N/\KP N r.2/\Ris f r.2 r.1) (kas_count N p):=by
  unfold kas_count
  refine kok_bind _ (kok_mono (fun m ⟨a,b,c,d⟩=>?_) _ (asc_ok o hp (N - 1) 1 (Nat.le_refl _) (by omega) (fun i j hij hj=>by omega)))
  by_cases e:m=N
  · rw [if_pos (by simpa using e)]
    exact ⟨by omega,by omega,hp,c⟩
  · rw [if_neg (by simpa using e)]
    have d':=d (by omega)
    by_cases e1:m > 1
    · rw [if_pos e1]
      refine ⟨hp.lt 0 (by omega),hp.lt (m - 1) (by omega),?_⟩
      have:f (p.getD 0 0) (p.getD (m - 1) 0)=true:=c 0 (m - 1) (by omega) (by omega)
      rw [this]
      exact ⟨by omega,(by show m<=N;omega),hp,c⟩
    · rw [if_neg e1]
      have em:m=1:=by omega
      subst em
      unfold kas_descPart
      refine kok_bind _ (kok_mono (fun r ⟨a1,a2,a3,a4,a5⟩=>?_) _ (desc_ok o hp (N - 2) 2 (by omega) (by omega) ?_))
      · intro i j hij hj
        have ei:i=0:=by omega
        have ej:j=1:=by omega
        subst ei;subst ej
        exact d'
      · rw [if_neg (by omega),a1]
        exact tail3_ok o hp (by omega) (by omega) a5
theorem place_ok {p:Array Nat} (o:KOrd f N) (hp:KP N p) {k:Nat} (hk:k < N) (hr:Ris f p k):∀ (t l r:Nat),r - l<=t->l<=r->r<=k->(∀ i,i < l->f (ka p i) (ka p k)=true)->(∀ i,r<=i->i < k->f (ka p k) (ka p i)=true) ->
    kok f N (fun m=>m<=k/\(∀ i,i < m->f (ka p i) (ka p k)=true)/\(∀ i,m<=i->i < k->f (ka p k) (ka p i)=true)) (kas_place p k t l r)
  | 0,l,r,h0,h1,h2,h3,h4=>⟨by omega,h3,fun i hi hk=>h4 i (by omega) hk⟩
  | t+1,l,r,h0,h1,h2,h3,h4=>by
    unfold kas_place
    by_cases e:l ≥ r
    · rw [if_pos e];exact ⟨by omega,h3,fun i hi hk=>h4 i (by omega) hk⟩
    · rw [if_neg e]
      refine ⟨hp.lt k hk,hp.lt _ (by omega),?_⟩
      cases c:f (p.getD k 0) (p.getD ((l+r) / 2) 0) with
      | true =>
        show kok f N _ (kas_place p k t l ((l+r) / 2))
        refine place_ok o hp hk hr t l _ (by omega) (by omega) (by omega) h3 fun i hi hik=>?_
        by_cases ei:i=(l+r) / 2
        · rw [ei];exact c
        · exact o.tr _ _ _ (hp.lt k hk) (hp.lt ((l+r) / 2) (by omega)) (hp.lt i (by omega)) c (hr _ _ (by omega) hik)
      | false =>
        show kok f N _ (kas_place p k t ((l+r) / 2+1) r)
        have hl:f (ka p ((l+r) / 2)) (ka p k)=true:=by
          rcases o.tot (ka p ((l+r) / 2)) (ka p k) (hp.lt _ (by omega)) (hp.lt _ (by omega)) (fun z=>by have:=hp.inj _ _ (by omega) (by omega) z;omega) with z | z
          · exact z
          · exact absurd (c.symm.trans z) (by decide)
        refine place_ok o hp hk hr t _ r (by omega) (by omega) (by omega) (fun i hi=>?_) h4
        by_cases ei:i=(l+r) / 2
        · rw [ei];exact hl
        · exact o.tr _ _ _ (hp.lt i (by omega)) (hp.lt ((l+r) / 2) (by omega)) (hp.lt k (by omega)) (hr _ _ (by omega) (by omega)) hl
theorem bub_at {p:Array Nat} {k m:Nat} (hk:k < p.size) (hm:m<=k) (i:Nat):ka (bubble p k (k - m)) i=if i=m then ka p k else if m < i/\i<=k then ka p (i - 1) else ka p i:=by
  have e:=getElem?_bubble hk (k - m) (by omega) i
  have em:k - (k - m)=m:=by omega
  rw [em] at e
  split at e
  · rename_i h;rw [if_pos h];exact ka_get e
  · rename_i h
    rw [if_neg h]
    split at e
    · rename_i h2;rw [if_pos h2];exact ka_get e
    · rename_i h2;rw [if_neg h2];exact ka_get e
theorem bin_ok (o:KOrd f N):∀ (t:Nat) (p:Array Nat) (k:Nat),KP N p->k+t=N->Ris f p k->kok f N (fun q=>KP N q/\Ris f q N) (kas_bin t p k)
  | 0,p,k,hp,hk,h=>by
    have:k=N:=by omega
    subst this
    exact ⟨hp,h⟩
  | t+1,p,k,hp,hk,h=>by
    unfold kas_bin
    refine kok_bind _ (kok_mono (fun m ⟨a,b,c⟩=>?_) _ (place_ok o hp (by omega) h k 0 k (by omega) (Nat.zero_le _) (Nat.le_refl _) (fun i hi=>absurd hi (by omega)) (fun i hi hk=>absurd hk (by omega))))
    have hs:k < p.size:=by rw [hp.size];omega
    refine bin_ok o t _ (k+1) ⟨by rw [bubble_size,hp.size],fun i hi=>?_,fun i j hi hj e=>?_⟩ (by omega) fun i j hij hj=>?_
    · rw [bub_at hs a]
      split
      · exact hp.lt _ (by omega)
      · split <;> exact hp.lt _ (by omega)
    · rw [bub_at hs a,bub_at hs a] at e
      repeat' split at e
      all_goals
        have:=hp.inj _ _ (by omega) (by omega) e
        omega
    · rw [bub_at hs a,bub_at hs a]
      by_cases hi1:i=m
      · rw [if_pos hi1,if_neg (by omega),if_pos (by omega)]
        exact c _ (by omega) (by omega)
      · rw [if_neg hi1]
        by_cases hj1:j=m
        · rw [if_neg (by omega),if_pos hj1]
          exact b _ (by omega)
        · rw [if_neg hj1]
          by_cases hi2:m < i/\i<=k
          · rw [if_pos hi2,if_pos (by omega)]
            exact h _ _ (by omega) (by omega)
          · rw [if_neg hi2]
            by_cases hj2:m < j/\j<=k
            · rw [if_pos hj2];exact h _ _ (by omega) (by omega)
            · rw [if_neg hj2];exact h _ _ (by omega) (by omega)
theorem range_ka (N i:Nat):ka (List.toArray (List.range N)) i=if i < N then i else 0:=by
  unfold ka
  rw [Array.getD_eq_getD_getElem?]
  by_cases h:i < N
  · rw [if_pos h];simp [h]
  · rw [if_neg h];simp [h]
theorem kas_sort_ok (o:KOrd f N) (h1:1<=N):kok f N (fun q=>KP N q/\Ris f q N) (kas_sort N):=by
  unfold kas_sort
  have hp:KP N (List.toArray (List.range N)):=⟨by simp,fun i hi=>by rw [range_ka,if_pos hi];exact hi,fun i j hi hj e=>by rw [range_ka,range_ka,if_pos hi,if_pos hj] at e;exact e⟩
  refine kok_bind _ (kok_mono (fun r ⟨a,b,c,d⟩=>?_) _ (count_ok o hp h1))
  by_cases e:r.1 < N
  · rw [if_pos e]
    have em:max r.1 1=r.1:=by omega
    rw [em]
    exact bin_ok o _ _ _ c (by omega) d
  · rw [if_neg e]
    have:r.1=N:=by omega
    rw [this] at d
    exact ⟨c,d⟩
end
end L2

namespace L2
open PySem PySem.W PySem.Spec PyProof.Rows HT
theorem seq_getD {α:Type} (l:List α) (d:α):(List.range l.length).map (fun i=>l.getD i d)=l:=by
  apply List.ext_getElem?
  intro i
  rw [List.getElem?_map]
  by_cases h:i < l.length
  · rw [List.getElem?_range h];simp [h]
  · rw [List.getElem?_eq_none (by simpa using h),List.getElem?_eq_none (by omega)];rfl
theorem kp_range (N:Nat):KP N (List.toArray (List.range N)):=⟨by simp,fun i hi=>by rw [range_ka,if_pos hi];exact hi,fun i j hi hj e=>by rw [range_ka,range_ka,if_pos hi,if_pos hj] at e;exact e⟩
section
variable {prog:Program} {w:World} {A:Around} {E:Value->Shared->Prop} {s:Shared}
def AskOk (prog:Program) (w:World) (A:Around) (s:Shared) (vs:List Value) (lt:Nat->Nat->Bool):Prop:=∃ κ,(∀ Q:SortKind->Shared->Prop,Q κ s->wpAny (model prog w) A (keyKind' vs.toArray) Q (fun _ _=>False) s) /\
  ∀ i j (C:Bool->Shared->Prop),i < vs.length->j < vs.length->C (lt i j) s->kas_ask prog w A κ vs i j C s
theorem list_sort_by {a:Addr} {vs:List Value} {n:Nat} {P:PySem.Fin->Shared->Prop} {lt:Nat->Nat->Bool} (ho:s.heap.get? a=some (seqObj "list" vs.toArray n)) (h64:vs.length < 64) (o:KOrd lt vs.length)
    (hk:2<=vs.length->∀ h':Heap,(∀ b o,b≠a->s.heap.get? b=some o->h'.get? b=some o)->AskOk prog w A { s with heap:=h' } vs lt)
    (h:∀ p:Array Nat,KP vs.length p->Ris lt p vs.length->P (.done (.ret .none)) { s with heap:=sortedHeap s.heap a vs (List.toArray (p.toList.map fun i=>vs.getD i Value.none)) }) :
    wpAny (model prog w) A (Builtin.«list.sort» ⟨[.ref a],[]⟩) P E s:=by
  rw [list_sort_plain]
  have ha:a < s.heap.objs.size:=Heap.lt_size ho
  refine wpAny_bind (listItems_at ho rfl ?_)
  refine wpAny_bind (listUpdate_at ho rfl ?_ (by rw [List.size_toArray,sizeLine_eq];omega) (Nat.zero_le _))
  obtain ⟨e1,ho1⟩:∃ e1,(s.heap.update a (Obj.mapSeq fun _=>(#[]:Array Value))).get? a=some (seqObj "list" #[] e1):=⟨_,get?_update_seq ho fun _=>#[]⟩
  refine wpAny_bind (seqEpoch_at ho1 rfl ?_)
  refine wpAny_bind (wpAny_newTuple ?_ (by show vs.length<=_;rw [sizeLine_eq];omega))
  refine wpAny_bind (wpAny_newList ?_ (Nat.zero_le _))
  refine wpAny_holding ?_
  have ho6:(((s.heap.update a (Obj.mapSeq fun _=>(#[]:Array Value))).push (seqObj "tuple" vs.toArray 0)).push (seqObj "list" #[] 0)).get? a=some (seqObj "list" #[] e1):=by
    rw [Heap.get?_push_ne _ _ _ (by rw [size_push',Heap.size_update];exact Nat.ne_of_lt (Nat.lt_succ_of_lt ha)),Heap.get?_push_ne _ _ _ (by rw [Heap.size_update];exact Nat.ne_of_lt ha)]
    exact ho1
  have keep:∀ b o,b≠a->s.heap.get? b=some o->(((s.heap.update a (Obj.mapSeq fun _=>(#[]:Array Value))).push (seqObj "tuple" vs.toArray 0)).push (seqObj "list" #[] 0)).get? b=some o:=fun b o hb e =>
    Heap.get?_push_of_some _ (Heap.get?_push_of_some _ (((Heap.SameBut.update s.heap a (Obj.mapSeq fun _=>(#[]:Array Value))).2 b hb).trans e))
  show wpAny (model prog w) A _ P E { s with heap:=((s.heap.update a (Obj.mapSeq fun _=>(#[]:Array Value))).push (seqObj "tuple" vs.toArray 0)).push (seqObj "list" #[] 0) }
  dsimp only
  by_cases h2:vs.toArray.size < 2
  · rw [if_pos h2,if_pos h2]
    refine wpAny_bind (wpAny_pure ?_)
    rw [StateT.run_pure]
    refine wpAny_bind (wpAny_pure ?_)
    dsimp only
    have es:(arrOf (SortSt.mk' general' (vs.toArray.zip vs.toArray) #[] 7 none)).map (·.2)=List.toArray ((List.toArray (List.range vs.length)).toList.map fun i=>vs.getD i Value.none):=by
      show (pairsOf vs).map (·.2)=_
      apply Array.toList_inj.mp
      rw [Array.toList_map,pairsOf_toList]
      show (vs.zip vs).map Prod.snd=(List.range vs.length).map fun i=>vs.getD i Value.none
      rw [List.map_snd_zip (Nat.le_refl _),seq_getD]
    rw [es]
    refine wpAny_bind (seqEpoch_at ho6 rfl ?_)
    refine wpAny_bind (listUpdate_at ho6 rfl ?_ (Nat.zero_le _) (by rw [List.size_toArray,List.length_map];simp [sizeLine_eq];omega))
    simp only [bne_self_eq_false,Bool.false_eq_true,if_false]
    refine wpAny_pure (h _ (kp_range _) fun i j hij hj=>?_)
    rw [List.size_toArray] at h2;omega
  · rw [if_neg h2,if_neg h2]
    rw [List.size_toArray] at h2
    obtain ⟨κ,hkk,hask⟩:=hk (by omega) _ keep
    refine wpAny_bind (wpAny_mono (hkk (fun k s'=>k=κ/\s'=_) ⟨rfl,rfl⟩) (fun κ' s0 hk=>?_) fun _ _ x=>x.elim)
    obtain ⟨rfl,rfl⟩:=hk
    refine wpAny_bind (wpAny_mono (kat_run (Q:=fun st' s'=>s'={ s with heap:=((s.heap.update a (Obj.mapSeq fun _=>(#[]:Array Value))).push (seqObj "tuple" vs.toArray 0)).push (seqObj "list" #[] 0) }/\∃ p:Array Nat,arrOf st'=p.map (kas_item (vs.toArray.zip vs.toArray))/\failedOf st'=none/\KP vs.length p/\Ris lt p vs.length)
      (G:=fun p s'=>s'={ s with heap:=((s.heap.update a (Obj.mapSeq fun _=>(#[]:Array Value))).push (seqObj "tuple" vs.toArray 0)).push (seqObj "list" #[] 0) }/\KP vs.length p/\Ris lt p vs.length)
      rfl (by omega) h64 (fun p' st' s' a1 a2 a3 a4=>⟨a4.1,p',a2,a3,a4.2⟩)
      (kok_wp (J:=fun s'=>s'=_) (fun i j C s' hi hj hs hC=>by subst hs;exact hask i j C hi hj (hC _ rfl)) (fun p s' hp hs=>⟨hs,hp⟩) _ _ rfl (kas_sort_ok o (by omega)))) ?_ fun _ _ e=>e)
    rintro ⟨⟨⟩,st'⟩ s' ⟨rfl,p,har,hf,hp,hr⟩
    dsimp only
    have hout:=kat_snds rfl har
    rw [hout]
    refine wpAny_bind (seqEpoch_at ho6 rfl ?_)
    refine wpAny_bind (listUpdate_at ho6 rfl ?_ (Nat.zero_le _) (by rw [List.size_toArray,List.length_map,Array.length_toList,hp.size,sizeLine_eq];omega))
    rw [hf]
    simp only [bne_self_eq_false,Bool.false_eq_true,if_false]
    exact wpAny_pure (h p hp hr)
theorem sorted_by {l:Addr} {vs:List Value} {Q:Value->Shared->Prop} {lt:Nat->Nat->Bool} (hl:s.heap.IsList l vs.toArray) (h64:vs.length < 64) (o:KOrd lt vs.length)
    (hk:2<=vs.length->∀ h':Heap,(∀ b o,s.heap.get? b=some o->h'.get? b=some o)->AskOk prog w A.in1.in1 { s with heap:=h' } vs lt)
    (h:∀ p:Array Nat,KP vs.length p->Ris lt p vs.length->Q (.ref (s.heap.objs.size+1)) { s with heap:=sortedAll s.heap vs (List.toArray (p.toList.map fun i=>vs.getD i Value.none)) }) :
    wpAny (model prog w) A (call (.builtin "sorted") [.ref l]) Q E s:=by
  refine Calls.call_function_entry kind_sorted plain_sorted entry_sorted (args_sorted1 _) ?_
  unfold Builtin.«sorted»
  refine wpAny_bind (m:=checkCount "sorted" 1 1 _) (wpAny_pure ?_)
  refine wpAny_bind (collect_list hl ?_ (by rw [sizeLine_eq];omega))
  refine wpAny_bind (wpAny_newList ?_ (by rw [sizeLine_eq];omega))
  have hsz:((s.heap.push (seqObj "list" #[] 0)).update s.heap.objs.size (Obj.mapSeq (·++vs.toArray))).objs.size=s.heap.objs.size+1:=by
    rw [Heap.size_update,size_push']
  have hoL:(((s.heap.push (seqObj "list" #[] 0)).update s.heap.objs.size (Obj.mapSeq (·++vs.toArray))).push (seqObj "list" vs.toArray 0)).get? (s.heap.objs.size+1)=some (seqObj "list" vs.toArray 0):=by
    rw [<- hsz];exact Heap.get?_push_size _ rfl
  have keep:∀ b o,s.heap.get? b=some o->(((s.heap.push (seqObj "list" #[] 0)).update s.heap.objs.size (Obj.mapSeq (·++vs.toArray))).push (seqObj "list" vs.toArray 0)).get? b=some o:=fun b o q=>by
    have hlt:b < s.heap.objs.size:=Heap.lt_size q
    rw [Heap.get?_push_ne _ _ _ (by rw [hsz];exact Nat.ne_of_lt (Nat.lt_succ_of_lt hlt)),Heap.get?_update_ne _ _ _ _ (Nat.ne_of_lt hlt),Heap.get?_push_ne _ _ _ (Nat.ne_of_lt hlt)]
    exact q
  show wpAny _ _ _ _ _ { s with heap:=((s.heap.push (seqObj "list" #[] 0)).update s.heap.objs.size (Obj.mapSeq (·++vs.toArray))).push (seqObj "list" vs.toArray 0) }
  rw [hsz]
  refine wpAny_bind (wpAny_holding (wpAny_call_entry slot_list_sort ⟨_,hoL,rfl⟩ entry_list_sort (list_sort_by (s:={ s with heap:=((s.heap.push (seqObj "list" #[] 0)).update s.heap.objs.size (Obj.mapSeq (·++vs.toArray))).push (seqObj "list" vs.toArray 0) }) hoL h64 o (fun h2 h' hk'=>hk h2 h' fun b o e=>hk' b o (Nat.ne_of_lt (Nat.lt_succ_of_lt (Heap.lt_size e))) (keep b o e)) fun p hp hr=>⟨_,rfl,?_⟩) (args_list_sort _)))
  exact wpAny_pure ⟨_,rfl,h p hp hr⟩
theorem lex_ints {b:Bool} {Q:Bool->Shared->Prop}:∀ {xs ys:List Value} {as bs:List Int} (i:Nat),IntsAre xs as->IntsAre ys bs->Q (HT.lexLt as bs) s->KatLex prog w A b (decide (xs.length < ys.length)) Q (xs.zip ys) i s
  | [],[],_,_,i,.nil,.nil,h=>h
  | [],_::ys,_,_,i,.nil,.cons n t _,h=>by rw [show decide (([]:List Value).length < (Value.int n t::ys).length)=true by simp];exact h
  | _::xs,[],_,_,i,.cons n t _,.nil,h=>by rw [show decide ((Value.int n t::xs).length < ([]:List Value).length)=false by simp];exact h
  | _::xs,_::ys,_,_,i,.cons m t hx,.cons n u hy,h=>by
    rw [List.zip_cons_cons]
    refine kat_cons (wpAny_eqBool_int ?_)
    have el:decide ((Value.int m t::xs).length < (Value.int n u::ys).length)=decide (xs.length < ys.length):=by simp
    rw [el]
    rw [lexLt_cons] at h
    by_cases e:m=n
    · rw [show (m == n)=true by simpa using e]
      rw [if_pos e] at h
      exact kat_yes (lex_ints (i+1) hx hy h)
    · rw [show (m == n)=false by simpa using e]
      rw [if_neg e] at h
      refine kat_no ?_
      cases hb:(b && i == 0) with
      | true=>exact oneLt_int h
      | false=>exact kat_one _ _ (lt_int h)
end
end L2

namespace L2
open PySem PySem.W PySem.Spec PyProof.Rows HT
theorem lexLt_irr:∀ a:List Int,HT.lexLt a a=false
  | []=>rfl
  | x::a=>by rw [lexLt_cons,if_pos rfl];exact lexLt_irr a
theorem lexLt_trans:∀ a b c:List Int,HT.lexLt a b=true->HT.lexLt b c=true->HT.lexLt a c=true
  | [],[],_,h,_=>by cases h
  | [],_::_,[],_,h=>by cases h
  | [],_::_,_::_,_,_=>rfl
  | _::_,[],_,h,_=>by cases h
  | _::_,_::_,[],_,h=>by cases h
  | x::a,y::b,z::c,h1,h2=>by
    rw [lexLt_cons] at h1 h2 ⊢
    by_cases e1:x=y
    · rw [if_pos e1] at h1
      by_cases e2:y=z
      · rw [if_pos e2] at h2
        rw [if_pos (e1.trans e2)];exact lexLt_trans a b c h1 h2
      · rw [if_neg e2] at h2
        subst e1
        rw [if_neg e2];exact h2
    · rw [if_neg e1] at h1
      have h1':=of_decide_eq_true h1
      by_cases e2:y=z
      · subst e2
        rw [if_neg e1];exact h1
      · rw [if_neg e2] at h2
        have h2':=of_decide_eq_true h2
        rw [if_neg (by omega)];exact decide_eq_true (by omega)
theorem lexLt_asymm {a b:List Int} (h:HT.lexLt a b=true):HT.lexLt b a=false:=by
  cases e:HT.lexLt b a with
  | false=>rfl
  | true=>have:=lexLt_trans a b a h e;rw [lexLt_irr] at this;cases this
theorem lexLt_total:∀ a b:List Int,a≠b->HT.lexLt a b=true\/HT.lexLt b a=true
  | [],[],h=>absurd rfl h
  | [],_::_,_=>.inl rfl
  | _::_,[],_=>.inr rfl
  | x::a,y::b,h=>by
    rw [lexLt_cons,lexLt_cons]
    by_cases e:x=y
    · subst e
      rw [if_pos rfl,if_pos rfl]
      exact lexLt_total a b fun z=>h (by rw [z])
    · rw [if_neg e,if_neg (fun z=>e z.symm)]
      by_cases l:x < y
      · exact .inl (decide_eq_true l)
      · exact .inr (decide_eq_true (by omega))
def lexLe (a b:List Int):Bool:=!HT.lexLt b a
theorem lexLe_trans (a b c:List Int) (h1:lexLe a b=true) (h2:lexLe b c=true):lexLe a c=true:=by
  unfold lexLe at *
  simp only [Bool.not_eq_true',Bool.not_eq_true] at *
  cases e:HT.lexLt c a with
  | false=>rfl
  | true =>
    by_cases e2:b=c
    · subst e2;rw [e] at h1;cases h1
    · rcases lexLt_total b c e2 with z | z
      · have:=lexLt_trans b c a z e;rw [this] at h1;cases h1
      · rw [z] at h2;cases h2
theorem lexLe_total (a b:List Int):(lexLe a b || lexLe b a)=true:=by
  unfold lexLe
  cases e:HT.lexLt b a with
  | false=>rfl
  | true=>rw [lexLt_asymm e];rfl
def tsort (ks:List (List Int)):List (List Int):=ks.mergeSort lexLe
def isort (is:List Int):List Int:=is.mergeSort fun a b=>decide (a<=b)
theorem isort_unique {a b:List Int} (hp:a.Perm b) (hs:a.Pairwise (·<=·)):a=isort b:=by
  refine List.Perm.eq_of_pairwise (le:=fun x y=>x<=y) (fun x y _ _ h1 h2=>Int.le_antisymm h1 h2) hs ?_ (hp.trans (List.mergeSort_perm b _).symm)
  exact (List.pairwise_mergeSort (le:=fun a b=>decide (a<=b)) (fun x y z h1 h2=>decide_eq_true (Int.le_trans (of_decide_eq_true h1) (of_decide_eq_true h2))) (fun x y=>by simp;omega) b).imp fun h=>of_decide_eq_true h
theorem tsort_unique {a b:List (List Int)} (hp:a.Perm b) (hs:a.Pairwise (fun x y=>HT.lexLt x y=true)):a=tsort b:=by
  refine List.Perm.eq_of_pairwise (le:=fun x y=>lexLe x y=true) (fun x y _ _ h1 h2=>?_) (hs.imp fun h=>?_) (List.pairwise_mergeSort lexLe_trans lexLe_total b) (hp.trans (List.mergeSort_perm b _).symm)
  · apply Classical.byContradiction
    intro hne
    unfold lexLe at h1 h2
    rcases lexLt_total x y hne with z | z
    · rw [z] at h2;cases h2
    · rw [z] at h1;cases h1
  · unfold lexLe;rw [lexLt_asymm h];rfl
def tupInts:D->Option (List Int)
  | .tup ds=>intsOf ds
  | _=>none
def tupsOf:List D->Option (List (List Int))
  | []=>some []
  | d::ds=>(tupInts d).bind fun k=>(tupsOf ds).bind fun ks=>some (k::ks)
def kT (k:List Int):D:=.tup (k.map D.int)
theorem tupInts_some {d:D} {k:List Int} (h:tupInts d=some k):d=kT k:=by
  cases d with
  | tup ds=>rw [show ds=k.map D.int from intsOf_some h];rfl
  | _=>cases h
theorem tupsOf_some:∀ {ds:List D} {ks:List (List Int)},tupsOf ds=some ks->ds=ks.map kT
  | [],_,h=>by cases h;rfl
  | d::ds,_,h=>by
    obtain ⟨k,e1,h⟩:=bind_some h
    obtain ⟨ks,e2,h⟩:=bind_some h
    cases h
    rw [tupInts_some e1,tupsOf_some e2];rfl
theorem tupInts_kT (k:List Int):tupInts (kT k)=some k:=intsOf_map k
theorem tupsOf_map:∀ ks:List (List Int),tupsOf (ks.map kT)=some ks
  | []=>rfl
  | k::ks=>by rw [List.map_cons];unfold tupsOf;rw [tupInts_kT,tupsOf_map ks];rfl
def sortedD:List D->Option D
  | [.lst ds]=>(match intsOf ds with
    | some is=>if is.length < 64 then some (.lst ((isort is).map .int)) else none
    | none=>(match tupsOf ds with
      | some ks=>if ks.length < 64/\ks.Nodup/\(∀ k∈ks,k≠[]) then some (.lst ((tsort ks).map kT)) else none
      | none=>none))
  | _=>none
theorem kord_keys {ks:List (List Int)} (nd:ks.Nodup):KOrd (fun i j=>HT.lexLt (ks.getD i []) (ks.getD j [])) ks.length :=
  ⟨fun a b c _ _ _ h1 h2=>lexLt_trans _ _ _ h1 h2,fun a b _ _ h=>lexLt_asymm h,fun a b ha hb hne=>lexLt_total _ _ fun z=>hne (by
    have e1:ks.getD a []=ks[a]:=by simp [ha]
    have e2:ks.getD b []=ks[b]:=by simp [hb]
    rw [e1,e2] at z
    exact (List.getElem_inj nd).mp z)⟩
theorem kp_perm {N:Nat} {p:Array Nat} (h:KP N p):p.toList.Perm (List.range N):=by
  have hl:p.toList.length=N:=by rw [Array.length_toList];exact h.size
  have hk:∀ i (hi:i < p.toList.length),p.toList[i]=ka p i:=fun i hi=>by
    unfold ka
    rw [Array.getD_eq_getD_getElem?,Array.getElem?_eq_getElem (by rw [h.size];omega)]
    simp
  have nd:p.toList.Nodup:=by
    rw [List.nodup_iff_pairwise_ne,List.pairwise_iff_getElem]
    intro i j hi hj hij e
    rw [hk,hk] at e
    have:=h.inj i j (by omega) (by omega) e
    omega
  have lt:∀ x∈p.toList,x < N:=fun x hx=>by
    obtain ⟨i,hi,e⟩:=List.getElem_of_mem hx
    rw [<- e,hk];exact h.lt i (by omega)
  exact (List.perm_ext_iff_of_nodup nd List.nodup_range).mpr fun a=>⟨fun ha=>List.mem_range.mpr (lt a ha),fun ha=>M.full_mem N _ nd lt hl a (List.mem_range.mp ha)⟩
theorem kp_sorted {ks:List (List Int)} {p:Array Nat} (h:KP ks.length p) (hr:Ris (fun i j=>HT.lexLt (ks.getD i []) (ks.getD j [])) p ks.length):p.toList.map (fun i=>ks.getD i [])=tsort ks:=by
  refine tsort_unique ?_ ?_
  · have:=(kp_perm h).map (fun i=>ks.getD i [])
    rwa [seq_getD] at this
  · rw [List.pairwise_map,List.pairwise_iff_getElem]
    intro i j hi hj hij
    have hl:p.toList.length=ks.length:=by rw [Array.length_toList];exact h.size
    have hk:∀ i (hi:i < p.toList.length),p.toList[i]=ka p i:=fun i hi=>by
      unfold ka
      rw [Array.getD_eq_getD_getElem?,Array.getElem?_eq_getElem (by rw [h.size];omega)]
      simp
    rw [hk,hk]
    exact hr i j hij (by omega)
section
variable {X:Cx} {pins:List (Addr×Obj)} {σ:St} {H:Hp} {s:Shared}
def TupAts (h:Heap):List (List Int)->List Value->Prop
  | [],us=>us=[]
  | k::ks,us=>∃ a its r,us=.ref a::r/\IntsAre its k/\IsTup h a its.toArray/\TupAts h ks r
theorem tup_ats (I:Inv X pins σ H s):∀ {ks:List (List Int)} {vs:List V} {us:List Value},Reps X.K H (ks.map kT) vs->Vals vs us->TupAts s.heap ks us
  | [],_,_,r,rv=>by
    have:_=[]:=r
    subst this
    cases rv;rfl
  | k::ks,_,_,⟨v,vr,e,⟨a,xs,ev,ha,rx⟩,t⟩,rv=>by
    subst e;subst ev
    cases rv with
    | cons r1 rest =>
      cases r1
      cases rx.ints
      obtain ⟨its,r2,pl,_⟩:=I.tuple (SqT.of ha)
      exact ⟨a,its,_,rfl,intsAre_of r2,pl,tup_ats I t rest⟩
theorem TupAts.keep {h h':Heap} (k:∀ b o,h.get? b=some o->h'.get? b=some o):∀ {ks:List (List Int)} {us:List Value},TupAts h ks us->TupAts h' ks us
  | [],_,e=>e
  | _::_,_,⟨a,its,r,e,i,t,q⟩=>⟨a,its,r,e,i,t.keeps k,q.keep k⟩
theorem TupAts.len {h:Heap}:∀ {ks:List (List Int)} {us:List Value},TupAts h ks us->us.length=ks.length
  | [],_,e=>by rw [show _=_ from e];rfl
  | _::_,_,⟨a,its,r,e,i,t,q⟩=>by rw [e,List.length_cons,List.length_cons,q.len]
theorem TupAts.get {h:Heap}:∀ {ks:List (List Int)} {us:List Value} {i:Nat},TupAts h ks us->i < ks.length->∃ a its,us.getD i Value.none=.ref a/\IntsAre its (ks.getD i [])/\IsTup h a its.toArray
  | _::_,_,0,⟨a,its,r,e,i,t,q⟩,_=>⟨a,its,by rw [e];rfl,by simpa using i,t⟩
  | _::ks,_,j+1,⟨a,its,r,e,i,t,q⟩,hj=>by
    obtain ⟨a',its',h1,h2,h3⟩:=q.get (i:=j) (by simpa using hj)
    exact ⟨a',its',by rw [e];simpa using h1,by simpa using h2,h3⟩
theorem TupAts.tups {h:Heap}:∀ {ks:List (List Int)} {us:List Value},TupAts h ks us->(∀ k∈ks,k≠[])->∃ fs,KatTups h us fs/\fs.length=ks.length/\∀ f∈fs,∃ n t,f=Value.int n t
  | [],_,e,_=>by rw [show _=_ from e];exact ⟨[],trivial,rfl,fun f hf=>by cases hf⟩
  | k::ks,_,⟨a,its,r,e,i,⟨o,ho,hc,n,hd⟩,q⟩,hne=>by
    obtain ⟨fs,h1,h2,h3⟩:=q.tups fun k hk=>hne k (List.mem_cons_of_mem _ hk)
    cases i with
    | nil=>exact absurd rfl (hne [] List.mem_cons_self)
    | cons m t hx =>
      refine ⟨.int m t::fs,by rw [e];exact KatTups.cons ho hc hd (by simp) h1,by simp [h2],fun f hf=>?_⟩
      rcases List.mem_cons.mp hf with z | z
      · exact ⟨m,t,z⟩
      · exact h3 f z
theorem ask_ok {prog:Program} {w:World} {A:Around} {ks:List (List Int)} {us:List Value} (h:TupAts s.heap ks us) (hne:∀ k∈ks,k≠[]) (h2:2<=us.length):AskOk prog w A s us (fun i j=>HT.lexLt (ks.getD i []) (ks.getD j [])):=by
  have hl:=h.len
  obtain ⟨fs,h3,h4,h5⟩:=h.tups hne
  refine ⟨_,fun Q hq=>kat_kind (T:=Value.type "int") h3 (by omega) (fun v hv=>?_) (by decide) hq,fun i j C hi hj hc=>?_⟩
  · obtain ⟨n,t,rfl⟩:=h5 v hv
    exact .now
  · obtain ⟨a,its,e1,i1,⟨o1,ho1,_,n1,hd1⟩⟩:=h.get (i:=i) (by omega)
    obtain ⟨b,jts,e2,i2,⟨o2,ho2,_,n2,hd2⟩⟩:=h.get (i:=j) (by omega)
    unfold kas_ask
    rw [e1,e2]
    refine kat_lt ho1 hd1 ho2 hd2 ?_
    have:=lex_ints (prog:=prog) (w:=w) (A:=A) (b:=(Value.type "int" != Value.type "tuple")) (s:=s) (Q:=C) 0 i1 i2 hc
    simpa using this
theorem reps_getD {K:PySem.W.Frag} {ds:List D} {vs:List V} (r:Reps K H ds vs):∀ (l:List Nat),(∀ i∈l,i < ds.length)->Reps K H (l.map fun i=>ds.getD i .non) (l.map fun i=>vs.getD i .non)
  | [],_=>rfl
  | i::l,h=>by
    have hi:=h i List.mem_cons_self
    obtain ⟨v,e1,e2⟩:=r.get (List.getElem?_eq_getElem hi)
    refine ⟨vs.getD i .non,_,rfl,?_,reps_getD r l fun j hj=>h j (List.mem_cons_of_mem _ hj)⟩
    show Rep K H (ds.getD i .non) _
    rw [List.getD_eq_getElem?_getD,List.getD_eq_getElem?_getD,e1,List.getElem?_eq_getElem hi]
    exact e2
theorem vals_getD {vs:List V} {us:List Value} (r:Vals vs us):∀ (l:List Nat),(∀ i∈l,i < vs.length)->Vals (l.map fun i=>vs.getD i .non) (l.map fun i=>us.getD i Value.none)
  | [],_=>.nil
  | i::l,h=>by
    refine .cons ?_ (vals_getD r l fun j hj=>h j (List.mem_cons_of_mem _ hj))
    have hi:=h i List.mem_cons_self
    clear h
    induction r generalizing i with
    | nil=>simp at hi
    | cons a b ih =>
      cases i with
      | zero=>simpa using a
      | succ i=>simpa using ih i (by simpa using hi)
theorem vals_of_ints:∀ {us:List Value} {ns:List Int},IntsAre us ns->Vals (ns.map V.int) us
  | _,_,.nil=>.nil
  | _,_,.cons n t h=>.cons ⟨t,rfl⟩ (vals_of_ints h)
theorem cd_sorted (hc:X.calm=true) (hu:X.A.units+64 < cLine):CallD X (.builtin "sorted") sortedD:=by
  intro pins s σ H xs us Q I rs h
  obtain ⟨O,ds,d,th,rp,e,q⟩:=h
  unfold sortedD at e
  split at e
  · rename_i es
    obtain ⟨v,rfl,p,vs,rfl,hp,r2⟩:=reps1 rp
    obtain ⟨u,rfl,ru⟩:=vals1 rs
    cases ru
    obtain ⟨its,rv,pl,_⟩:=I.list (SqL.of (mask_sub _ _ hp))
    split at e
    · rename_i is ei
      split at e
      · rename_i h64
        cases e
        cases intsOf_some ei
        cases r2.ints
        have hi:=intsAre_of rv
        have hl:its.length=is.length:=hi.length
        refine sorted_ints pl.isList hi (by omega) fun out ns' a1 a2 a3=>?_
        obtain ⟨ep,he⟩:=sortedAll_at s.heap its out
        cases isort_unique a2 a3
        refine ⟨.ref (s.heap.objs.size+1),_,I.laid (o:=.lst ((isort is).map V.int)) (fun _ _=>sortedAll_old) (Nat.le_succ _) ⟨?_,out.toList,ep,vals_of_ints a1,he⟩,rfl,q _ _ (Same.new (I.hok.fresh (Nat.le_succ _))) (rep_new_lst th (I.hok.fresh (Nat.le_succ _)) (reps_ints _))⟩
        rw [List.length_map,a2.length_eq,sizeLine_eq];omega
      · cases e
    · split at e
      · rename_i ks ek
        split at e
        · rename_i h64
          cases e
          cases tupsOf_some ek
          obtain ⟨h64,nd,hne⟩:=h64
          have rm:=Reps.mono mask_sub _ _ r2
          have ta:=tup_ats I rm rv
          have hl:=ta.len
          have hvl:=r2.length
          rw [List.length_map] at hvl
          have ko:=kord_keys nd
          rw [<- hl] at ko
          refine sorted_by pl.isList (by omega) ko (fun h2 h' hk=>ask_ok (s:={ s with heap:=h' }) (ta.keep hk) hne h2) fun pm hkp hr=>?_
          rw [hl] at hkp hr
          obtain ⟨ep,he⟩:=sortedAll_at s.heap its (List.toArray (pm.toList.map fun i=>its.getD i Value.none))
          have lt:∀ i∈pm.toList,i < ks.length:=fun i hi=>List.mem_range.mp ((kp_perm hkp).mem_iff.mp hi)
          have r3:=reps_getD r2 pm.toList (fun i hi=>by rw [List.length_map];exact lt i hi)
          have ed:(pm.toList.map fun i=>(ks.map kT).getD i .non)=(tsort ks).map kT:=by
            rw [<- kp_sorted hkp hr,List.map_map]
            refine List.map_congr_left fun i hi=>?_
            have:=lt i hi
            simp [List.getD_eq_getElem?_getD,this]
          rw [ed] at r3
          have v3:=vals_getD rv pm.toList (fun i hi=>by rw [hvl];exact lt i hi)
          refine ⟨.ref (s.heap.objs.size+1),_,I.laid (o:=.lst (pm.toList.map fun i=>vs.getD i .non)) (fun _ _=>sortedAll_old) (Nat.le_succ _) ⟨?_,_,ep,v3,he⟩,rfl,q _ _ (Same.new (I.hok.fresh (Nat.le_succ _))) (rep_new_lst th (I.hok.fresh (Nat.le_succ _)) r3)⟩
          rw [List.length_map,Array.length_toList,hkp.size,sizeLine_eq];omega
        · cases e
      · cases e
  · cases e
end
end L2

namespace L2
open PySem PySem.Spec PyProof.Rows
section
variable {X:Cx} {tg:Expr}
end
end L2

namespace L2
open PySem PySem.Spec PyProof.Rows
theorem fn_data2 {P:Program} {w:World} {K:PySem.W.Frag} {mg:Str->Option Value} {base:Heap} {x qual:Str} {st:Stmt} {f:Addr} {fd:FuncData} {N ps:List Str} {k n m:Nat} {F:FS} {G:List D->Option D} (Fu:Fun K x qual st f fd) (S:FnScope N ps (defScope st)) (hn:ps.length=n) (hm:N.length=m) (hG:G=runF n m F)
    (h:∀ (cdv:Value) (A:Around) (outer:List Env) (s:Shared) (H:Hp) (E:XK),Room k (A.deeper (envOfC qual (defScope st) s.heap.objs.size f cdv))->SVs (cxOf CX0 P w K mg base N qual (defScope st) f cdv A outer s H E).nox (defBody st) F) :
    FnOk P w K mg base CX0 (k+1) f fd ps (spD K G):=by
  subst hn hm hG
  exact fn_data Fu S h
end L2

namespace L2
open PySem PySem.Spec PyProof.Rows
section
variable {K:PySem.W.Frag} {B H H':Hp} {O0 O1:List Addr} {ρ:DEnv} {σ:St}
theorem same_grow {news:List Addr} (hn:∀ a∈news,H a=none) (s:Same H H'):Same (mask (O0++O1) H) (mask (O0++(news++O1)) H'):=fun b u q=>by
  have hb:b∉O0++O1:=fun m=>by rw [mask_in m] at q;cases q
  rw [mask_out hb] at q
  have hbn:b∉news:=fun m=>by rw [hn b m] at q;cases q
  refine (mask_out fun m=>?_).trans (s b u q)
  rcases List.mem_append.mp m with z | z
  · exact hb (List.mem_append_left _ z)
  · rcases List.mem_append.mp z with z | z
    · exact hbn z
    · exact hb (List.mem_append_right _ z)
theorem RS.grow (r:RS K B O0 O1 H ρ σ) {news:List Addr} (hn:∀ a∈news,H a=none) (s:Same H H') (hm:∀ a∈news,∃ o,H' a=some o/\isMut o):RS K B O0 (news++O1) H' ρ σ:=by
  have sm:=same_grow (O0:=O0) (O1:=O1) hn s
  refine ⟨r.len,Same.trans r.same s,r.thB,fun a ha=>?_,fun a ha=>?_,fun i d e=>let ⟨v,h1,h2⟩:=r.vals i d e;⟨v,h1,Rep.mono sm d v h2⟩,fun i d e=>?_,r.apart⟩
  · rcases List.mem_append.mp ha with z | z
    · cases q:B a with
      | none=>rfl
      | some u=>have:=r.same a u q;rw [hn a z] at this;cases this
    · exact r.new a z
  · rcases List.mem_append.mp ha with z | z
    · exact hm a z
    · obtain ⟨o,e,m⟩:=r.th a z
      exact ⟨o,s _ _ e,m⟩
  · obtain ⟨a,h1,h2,h3⟩:=r.owns i d e
    exact ⟨a,h1,List.mem_append_right _ h2,h3.mono sm fun o q=>s _ _ q⟩
theorem RS.slot (r:RS K B O0 O1 H ρ σ) {i:Nat} {v:V} (hi:∀ c,ρ[i]?≠some (some c)):RS K B O0 O1 H ρ (σ.set i (some v)):=by
  have other:∀ {j:Nat} {c:Cl},ρ[j]?=some (some c)->(σ.set i (some v))[j]?=σ[j]?:=fun {j c} e=>List.getElem?_set_ne fun z=>by subst z;exact hi c e
  refine ⟨by rw [List.length_set];exact r.len,r.same,r.thB,r.new,r.th,fun j d e=>?_,fun j d e=>?_,fun j k d1 d2 a q1 q2 q3 q4=>?_⟩
  · rw [other e];exact r.vals j d e
  · rw [other e];exact r.owns j d e
  · rw [other q1] at q3;rw [other q2] at q4;exact r.apart j k d1 d2 a q1 q2 q3 q4
end
def Tb (O1:List Addr) (i:Nat) (M:List (List Int)) (σ:St) (H:Hp):Prop:=∃ (t:Addr) (bs:List Addr),σ[i]?=some (some (.ref t))/\t∈O1/\(∀ b∈bs,b∈O1)/\t∉bs/\bs.Nodup/\H t=some (.lst (bs.map V.ref))/\bs.length=M.length /\
  ∀ (k:Nat) (b:Addr) (row:List Int),bs[k]?=some b->M[k]?=some row->H b=some (.lst (row.map V.int))
section
variable {X:Cx}
end
end L2

namespace L2
open PySem PySem.Spec PyProof.Rows
section
variable {X:Cx}
theorem Tb.mono {O1:List Addr} {i:Nat} {M:List (List Int)} {σ:St} {H H':Hp} (T:Tb O1 i M σ H) (s:Same H H'):Tb O1 i M σ H':=by
  obtain ⟨t,bs,h1,h2,h3,h4,h5,h6,h7,h8⟩:=T
  exact ⟨t,bs,h1,h2,h3,h4,h5,s _ _ h6,h7,fun k b r hb hr=>s _ _ (h8 k b r hb hr)⟩
theorem Tb.slots {O1:List Addr} {i:Nat} {M:List (List Int)} {σ σ':St} {H:Hp} (T:Tb O1 i M σ H) (e:σ'[i]?=σ[i]?):Tb O1 i M σ' H:=by
  obtain ⟨t,bs,h1,h2⟩:=T
  exact ⟨t,bs,by rw [e];exact h1,h2⟩
end
end L2

namespace L2
open PySem PySem.Spec PyProof.Rows
section
variable {X:Cx}
theorem ev_cd {k m:Nat} {y:Str} {f:Addr} {fd:FuncData} {ps:List Str} {G:List D->Option D} {p pos:Pos} {e:Expr} {es:List Expr} {fa:FA} (o:Def X.prog X.w X.K X.mg X.base y k ps G f fd) (hr:Room m X.A) (ha:AV X (e::es) fa) (hle:k<=m:=by decide)
    (hg:Gl X y:=by rfl) (hdb:(y == ("__debug__":Str))=false:=by decide) (he:starEach (e::es) X.env=(false,eval e X.env)::starEach es X.env:=by rfl) (hpl:(backTo pos (starEach es X.env)).any (·.1)=false:=by rfl) :
    EV X (.Call (.Name y p) (e::es) [] pos) (fL G fa):=ev_call o.ok (hr.mono hle) o.mg o.kp o.bi ha hg hdb he hpl
end
end L2

namespace L2
open PySem PySem.Spec PyProof.Rows
def FH (K:PySem.W.Frag) (x:Str) (st:Stmt):Prop:=∃ f fd,PySem.W.nsIn K mainGlobals x=some (some (.ref f))/\Fun K x x st f fd
theorem fh {K:PySem.W.Frag} {x:Str} {st:Stmt} {f:Addr} {oc:Value} {od an:Option Addr} {osl:Array (Option Value)} {kV doc pm cdv ct:Value} (a:PySem.W.nsIn K mainGlobals x=some (some (.ref f)))
    (l:K.lookup f=some ⟨oc,od,.func (PySem.W.fnOf x x (defArgs st) (defBody st) (defScope st) .none kV doc pm an cdv ct),osl⟩) (c:PySem.W.codeIn K cdv x=true) (k:PySem.W.keepIn K (.ref f)=true):FH K x st:=⟨f,_,a,fun_mk l c k⟩
end L2

namespace L2
open PySem PySem.Spec PyProof.Rows
section
variable {X:Cx}
end
end L2

namespace L2
open PySem PySem.Spec PyProof.Rows
section
variable {X:Cx}
end
end L2

namespace L2
open PySem PySem.Spec PyProof.Rows
section
variable {X:Cx}
end
end L2

namespace ZI
open PySem PyProof.Rows ZD
section
variable {prog:Program} {w:World} {A:Around} {E:Value->Shared->Prop} {s:Shared} {d it v:Addr} {es:Array DictEntry} {ep i:Nat} {k0 v0:Value}
end
end ZI

namespace L2
open PySem PySem.Spec PyProof.Rows
structure DOb (o:Obj) (es:Array DictEntry) (ep:Nat):Prop where
  ex:o.ExactDict
  da:o.data=.dict es ep
section
variable {X:Cx} {pins:List (Addr×Obj)} {σ:St} {H:Hp} {s:Shared} {a:Addr} {o:Obj} {kvs:List (List Key×V)} {es:Array DictEntry} {ep:Nat}
theorem Inv.frz (I:Inv X pins σ H s) (h:H a=some (.frz o (.dT kvs))):(a == sysModules)=false/\∃ es ep,DOb o es ep/\ZD.DictR s.heap a es ep:=by
  obtain ⟨g,_,hS,ys,_,o',es,ep,h1,h2,h3,_⟩:=(show ObjOk X.prog X.w H s.heap a (.frz o (.dT kvs)) from I.hok a _ h)
  rw [g] at h1
  cases h1
  exact ⟨hS,es,ep,⟨h2,h3⟩,o,g,h2,h3⟩
end
section
variable {X:Cx} {tg:Expr}
end
end L2

namespace L2
open PySem PySem.Spec PyProof.Rows
section
variable {X:Cx} {pins:List (Addr×Obj)} {σ:St} {H:Hp} {s:Shared} {a:Addr} {kvs:List (List Key×V)}
end
section
variable {X:Cx} {k v:Expr} {pos:Pos} {tk tv:TE}
end
end L2

namespace L2
open PySem PySem.Spec PyProof.Rows
section
variable {X:Cx}
def mulTD:D->D->Option D
  | .tup [a],.int k=>if -65536<=k/\k<=65536 then some (.tup (List.replicate k.toNat a)) else none
  | _,_=>none
theorem tup_add0 (l b:Addr) (items2:Array Value) (n n2:Nat) (dd dd2:Option Addr) (sl sl2:Array (Option Value)) :
    Meets (Builtin.«tuple.__add__» ⟨[.ref l,.ref b],[]⟩) (fun _ R s=>s.heap.get? l=some { cls:=.type "tuple",dict:=dd,data:=.seq #[] n,slots:=sl } /\
      s.heap.get? b=some { cls:=.type "tuple",dict:=dd2,data:=.seq items2 n2,slots:=sl2 }/\R (.ok (.ret (.ref b))) s) :=
  .of_wp fun prog w A R s h=>by obtain ⟨hp,g,d,tk,os⟩:=s;obtain ⟨hl,hb,h⟩:=h;have f2:=AutoSeq1.sub_tuple_tuple;wp_walk using AutoSeq1.wpAny_loadPart' hl,AutoSeq1.wpAny_loadPart' hb;exact ⟨_,rfl,h⟩
theorem op_cat0:OpR X (binaryOp .Add) (fun x y H Q=>∃ a b ys,x=.ref a/\y=.ref b/\H a=some (.tup [])/\H b=some (.tup ys)/\Q (.ref b) H):=by
  intro pins s σ H x y v u Q I rx ry h
  obtain ⟨a,b,ys,rfl,rfl,ha,hb,q⟩:=h
  cases rx
  cases ry
  obtain ⟨_,its,r1,p1⟩:=(show ObjOk X.prog X.w H s.heap a (.tup []) from I.hok a _ ha)
  obtain ⟨_,its2,r2,p2⟩:=(show ObjOk X.prog X.w H s.heap b (.tup ys) from I.hok b _ hb)
  cases r1
  obtain ⟨⟨cls,dd,data,sl⟩,ho,hc,n,hd⟩:=id p1
  obtain ⟨⟨cls2,dd2,data2,sl2⟩,ho2,hc2,n2,hd2⟩:=id p2
  simp only at hc hd hc2 hd2
  subst hc hd hc2 hd2
  exact concat_meets ⟨_,ho,rfl⟩ ⟨_,ho2,rfl⟩ noFill_tuple_add seq_tuple_add PySem.F.slot_tuple_add PySem.F.entry_tuple_add (PySem.F.args_tuple_add_2 _ _) (tup_add0 a b its2.toArray n n2 dd dd2 sl sl2) ⟨ho,ho2,.ref b,H,I,rfl,q⟩
def addTD:D->D->Option D
  | .tup a,.tup b=>if a.length+b.length<=limD then some (.tup (a++b)) else none
  | _,_=>none
theorem opd_addT:OpD X (binaryOp .Add) addTD:=OpD.of (OpR.or op_catT op_cat0) fun x y H Q h=>by
  obtain ⟨O,dx,dy,d,th,rx,ry,e,q⟩:=h
  unfold addTD at e
  split at e
  · rename_i a b
    split at e
    · rename_i hl
      cases e
      obtain ⟨p,vs,rfl,hp,rp⟩:=rx
      obtain ⟨p2,us,rfl,hp2,rp2⟩:=ry
      have l1:=rp.length
      have l2:=rp2.length
      cases a with
      | nil =>
        have:vs=[]:=rp
        subst this
        exact .inr ⟨p,p2,us,rfl,rfl,mask_sub _ _ hp,mask_sub _ _ hp2,q _ H (Same.refl _) ⟨p2,us,rfl,hp2,rp2⟩⟩
      | cons a0 a =>
        refine .inl ⟨p,p2,vs,us,rfl,rfl,SqT.of (mask_sub _ _ hp),SqT.of (mask_sub _ _ hp2),fun z=>?_,?_,fun z=>?_,fun _ r hr=>?_⟩
        · rw [z] at l1;cases l1
        · have:=limD_le hl;omega
        · subst z
          have:b=[]:=List.eq_nil_of_length_eq_zero (by rw [<- l2];rfl)
          subst this
          rw [List.append_nil] at q
          exact q _ H (Same.refl _) ⟨p,vs,rfl,hp,rp⟩
        · exact q _ _ (Same.new hr) (rep_new_tup th hr (rp.append rp2))
    · cases e
  · cases e
end
end L2

namespace L2
open PySem PySem.Spec PyProof.Rows
section
variable {X:Cx}
end
end L2

namespace L2
open PySem PySem.Spec PyProof.Rows
section
variable {X:Cx} {scope:Scope} {elt tg iter:Expr} {ifs:List Expr} {pos:Pos} {fi:FA} {t:FG} {gt:FT} {fe:FE}
end
end L2

namespace L2
open PySem PySem.Spec PyProof.Rows
section
variable {X:Cx} {pos:Pos}
def sExt (i:Nat) (fv:FE):FS:=fun ρ=>match ρ[i]?,fv (allV ρ) with
  | some (some (.own (.lst ds))),some (.lst es)=>if imms es=true/\ds.length+es.length<=limD then .nx (ρ.set i (some (.own (.lst (ds++es))))) else .bad
  | _,_=>.bad
theorem ext_pe {i:Nat} {x:Str} {e:Expr} {fv:FE} {p1 p2 p3:Pos} (he:EV X e fv) (hN:X.N[i]?=some x:=by rfl) (hv:Vis X.env.scope x:=by first | exact Or.inl rfl | exact Or.inr (Or.inl rfl) | exact Or.inr (Or.inr rfl))
    (hd:(x == ("__debug__":Str))=false:=by decide) (hcd:(x == ("__classdict__":Str))=false:=by decide)
    (hbase:attributeBase (.Name x p1) "extend" X.env (eval (.Name x p1) X.env)=eval (.Name x p1) X.env:=by rfl)
    (hfew:((backTo p3 (starEach [e] X.env)).all (fun x=>!x.1) && (backToKw p3 (keywordEach [] X.env)).all (fun x=>x.1.isSome)
      && decide (([e]:List Expr).length+([]:List Keyword).length+(if ([]:List Keyword).isEmpty then 0 else 1) < 30))=true:=by rfl)
    (hline:(p2.endLine == p3.line)=true:=by rfl) (hs:starEach [e] X.env=(false,eval e X.env)::starEach [] X.env:=by rfl) (hplain:(backTo p3 (starEach [] X.env)).any (·.1)=false:=by rfl) :
    PE X (.Call (.Attribute (.Name x p1) "extend" p2) [e] [] p3) (tBM X.K "list" rExtend (tVar i) (tCons (tD X.K fv) tNil)) :=
  pe_bm PySem.F.plainAttrs_list PySem.F.slot_list_extend PySem.F.type_list_extend mt_extend (pe_var hN hv hd hcd) (pa_cons he pa_nil hs) hbase hfew hline hs hplain
theorem sv_ext {i:Nat} {x:Str} {e:Expr} {fv:FE} {p1 p2 p3:Pos} (he:EV X e fv)
    (h1:PE X (.Call (.Attribute (.Name x p1) "extend" p2) [e] [] p3) (tBM X.K "list" rExtend (tVar i) (tCons (tD X.K fv) tNil))) (hs:swapsWith (.Call (.Attribute (.Name x p1) "extend" p2) [e] [] p3) none pos.line X.env=pure false:=by rfl) :
    SV X (.Expr (.Call (.Attribute (.Name x p1) "extend" p2) [e] [] p3) pos) (sExt i fv):=PS.imp (ps_expr h1 hs) fun E σ H h=>by
  obtain ⟨B,O0,O1,ρ,r,q⟩:=h
  unfold sExt at q
  split at q
  · rename_i ds es hi e1
    split at q
    · rename_i hm
      obtain ⟨a,ha',hO,vs,hv',rs⟩:=r.owns i _ hi
      refine ⟨.ref a,ha',.inl ⟨rfl,vs,SqL.of hv'⟩,O0,allV ρ,_,r.all,e1,fun v H1 s1 rv1=>?_⟩
      obtain ⟨b,zs,rfl,hb,rb⟩:=rv1
      have r1:=r.mono s1
      have hv1:H1 a=some (.lst vs):=s1 _ _ hv'
      have l1:=rs.length
      have l2:=rb.length
      refine ⟨a,b,vs,zs,rfl,rfl,hv1,mask_sub _ _ hb,by have:=limD_le hm.2;omega,?_⟩
      have rd:Reps X.K (mask (O0++O1) H1) es zs:=reps_imm r1.th es zs hm.1 rb
      have em:mask (O0++O1) (upd H1 a (.lst (vs++zs)))=mask (O0++O1) H1:=by
        funext c
        by_cases hc:c∈O0++O1
        · rw [mask_in hc,mask_in hc]
        · rw [mask_out hc,mask_out hc,upd_ne (fun z=>hc (by rw [z];exact List.mem_append_right _ hO))]
      refine q _ _ O1 (r1.write (d':=.lst (ds++es)) hi ha' trivial ⟨vs++zs,upd_same,?_⟩)
      rw [em]
      exact Reps.append (Reps.mono (mask_same s1) ds vs rs) rd
    · exact q.elim
  · exact q.elim
end
end L2

namespace L2
open PySem PySem.Spec PyProof.Rows
structure Fly (P:Program) (w:World) (base:Heap) (outer:List Env) (H:Hp) (s:Shared) (H':Hp) (a:Addr) (cls a0:Value) (B:Heap) (s':Shared):Prop where
  fl:Heap.FlyingW B outer a cls a0 s'.heap
  bB:base.StaysIn B
  os:s'.os=s.os
  bare:AllBare s'.gens
  cov:∀ b o,s.heap.get? b=some o->H b=none->b∉frs outer->B.get? b=some o
  slot:∀ b o,s.heap.get? b=some o->b∈frs outer->∃ sl,s'.heap.get? b=some { o with slots:=sl }
  free:∀ b o,s.heap.get? b=some o->H b=none->H' b=none
  trk:∀ b o,s.heap.get? b=some o->b∉frs outer->∃ o',B.get? b=some o'
  tups:∀ b xs,H b=some (.tup xs)->H' b=some (.tup xs)
  frzs:∀ b o u,H b=some (.frz o u)->H' b=some (.frz o u)
  tbls:∀ b ps,H b=some (.tbl ps)->∃ more,H' b=some (.tbl (ps++more))
  hok:HOk P w H' B
theorem Fly.un {P:Program} {w:World} {base:Heap} {outer:List Env} {H H':Hp} {s s':Shared} {a:Addr} {cls a0:Value} {B:Heap} (f:Fly P w base outer H s H' a cls a0 B s'):Un (frs outer) [] H H' s.heap s'.heap where
  keep:=fun b o e n hb _=>f.fl.1 b o (f.cov b o e n hb)
  slot:=fun b o e _ hb _=>f.slot b o e hb
  free:=fun b o e n _=>f.free b o e n
  there:=fun b o e _=>by
    by_cases hb:b∈frs outer
    · obtain ⟨sl,e'⟩:=f.slot b o e hb
      exact ⟨_,e'⟩
    · obtain ⟨o',e'⟩:=f.trk b o e hb
      exact ⟨o',f.fl.1 b o' e'⟩
  tups:=f.tups
  frzs:=f.frzs
  tbls:=f.tbls
def CX1 (P:Program) (w:World) (base:Heap):CXT:=fun outer H s E e s'=>∃ a cls a0 B H',e=.ref a/\Fly P w base outer H s H' a cls a0 B s'/\E cls none H'
structure XL (X:Cx) (E:XK):Prop where
  xe:X.xe=fun e s'=>wpAny (model X.prog X.w) X.A (leaving X.env e) (fun _ s''=>CX1 X.prog X.w X.base X.outer X.H₀ X.s₀ E e s'') (fun e' s''=>CX1 X.prog X.w X.base X.outer X.H₀ X.s₀ E e' s'') s'
  stk:X.stack=X.env::X.outer
  fr:X.env.frame=some X.env.locals
  ex:X.ex=[]
section
variable {X:Cx} {E:XK} {pins:List (Addr×Obj)} {σ:St} {H:Hp} {s:Shared}
theorem mem_frs {env:Env} {l:List Env} {b:Addr} (h:env∈l) (hf:env.frame=some b):b∈frs l:=List.mem_filterMap.mpr ⟨env,h,hf⟩
theorem leave_made (x:XL X E) (I:Inv X pins σ H s) {h1:Heap} {e:Addr} {cls:Value} {args:List Value} (hx:Heap.MadeExcOf s.heap h1 e cls args) (hE:E cls none H):X.xe (.ref e) { s with heap:=h1 }:=by
  rw [x.xe]
  have st:=I.stack
  have noL:∀ b∈frs X.outer,b∈frs X.stack:=fun b hb=>by
    obtain ⟨env,he,hf⟩:=List.mem_filterMap.mp hb
    rw [x.stk]
    exact mem_frs (List.mem_cons_of_mem _ he) hf
  have inS:∀ b∈frs X.stack,b=X.env.locals\/b∈frs X.outer:=fun b hb=>List.mem_cons.mp (I.stkSub b hb)
  have loS:∀ b o,X.s₀.heap.get? b=some o->b≠X.env.locals:=fun b o e z=>by
    have h1:=Heap.lt_size e
    rw [z] at h1
    exact absurd (Nat.lt_of_lt_of_le h1 I.ok.above) (Nat.lt_irrefl _)
  have hm:∀ b:Addr,b∈X.ex->False:=fun b h=>by rw [x.ex] at h;cases h
  refine wpAny_leaves_madeW (base:=PySem.W.hideAll s.heap (frs X.stack)) (h:=s.heap) (L:=X.env.locals) (by rw [I.ok.frames,x.stk]) x.fr (fun b o q=>PySem.W.of_hideAll _ q) ?_ hx fun h' t x1 x2 x3 x4=>?_
  · rw [x.stk] at st ⊢
    exact PySem.W.funFrames_hide st fun env he a hf=>mem_frs he hf
  · have B1:∀ b o,s.heap.get? b=some o->b∉frs X.stack->(PySem.W.hideAll s.heap (frs X.stack)).get? b=some o:=fun b o e n=>PySem.W.hideAll_get _ e n
    refine ⟨e,cls,.ref t,PySem.W.hideAll s.heap (frs X.stack),H,rfl,⟨x1,fun b o q=>B1 b o (I.bk b o q) fun hb=>?_,I.os,I.bare,fun b o q n hb=>?_,fun b o q hb=>?_,fun b o q n=>?_,fun b o q hb=>?_,I.base.tups,I.base.frzs,I.base.tbls,fun b u q=>?_⟩,hE⟩
    · rw [(st.mem hb).1] at q;cases q
    · refine B1 b o (I.base.keep b o q n hb fun z=>hm b z) fun z=>?_
      rcases inS b z with z | z
      · exact loS b o q z
      · exact hb z
    · obtain ⟨sl,q1⟩:=I.base.slot b o q (I.ok.frf b hb) hb fun z=>hm b z
      obtain ⟨_,o2,q2,nd⟩:=st.mem (noL b hb)
      rw [q1] at q2
      cases q2
      obtain ⟨sl2,q3⟩:=x4 b _ (hx.keeps b _ q1) nd
      exact ⟨sl2,q3⟩
    · exact I.base.free b o q n fun z=>hm b z
    · obtain ⟨o',q1⟩:=I.base.there b o q fun z=>hm b z
      exact ⟨o',B1 b o' q1 fun z=>by
        rcases inS b z with z | z
        · exact loS b o q z
        · exact hb z⟩
    · refine (I.hok b u q).stay (fun c v hc r=>B1 c v r fun z=>?_) (fun _ r=>r) fun _ _ r=>r
      have:=I.stkFree c z
      rcases hc with rfl | hc
      · rw [this] at q;cases q
      · rw [this] at hc;cases hc
end
end L2

namespace L2
open PySem PySem.Spec PyProof.Rows
abbrev bmVE:List Value:=[.type "ValueError",.type "Exception",.type "BaseException",.type "object"]
def subIn (K:PySem.W.Frag) (C:Addr) (v:Value):Bool:=match K.lookup C with
  | some ⟨_,_,.cls cd,_⟩=>cd.mro.contains v
  | _=>false
structure OX (K:PySem.W.Frag) (mg:Str->Option Value) (x:Str) (C:Addr):Prop where
  mg:mg x=some (.ref C)
  exc:PySem.W.excIn K C bmVE "ValueError.__new__"=true
theorem OX.obj {K:PySem.W.Frag} {mg:Str->Option Value} {x:Str} {C:Addr} (o:OX K mg x C) {h:Heap} (X:K.In h) :
    ∃ bm N nm q bs hdct sn sub ab col dd k0 k1 k2 k3 k5 mN,h.get? C=some (excClassObj nm q C N bs bm hdct sn sub ab col dd k0 k1 k2 k3 k5 "ValueError.__new__")/\h.Ns N mN/\mN "__init__"=none/\OwnTail h bmVE bm/\∀ v,subIn K C v=(Value.ref C::bm).contains v:=by
  have q:=o.exc
  unfold PySem.W.excIn at q
  split at q
  · rename_i dd cd sl ho
    split at q
    · rename_i C' bm k0 k1 k2 k3 n k5 hm hs
      simp only [Bool.and_eq_true,beq_iff_eq,Bool.not_eq_true'] at q
      obtain ⟨⟨⟨⟨⟨rfl,rfl⟩,hdel⟩,ht⟩,hok⟩,hni⟩:=q
      have hsub:∀ v,subIn K C' v=(Value.ref C'::bm).contains v:=fun v=>by
        unfold subIn;rw [ho];simp only [hm]
      obtain ⟨nm,bs,mro,ns,qn,hd,sn,sub,ab,col,del⟩:=cd
      dsimp only at hm hdel hok hni
      subst hm hdel
      have hsl:sl=#[k0,k1,k2,k3,some (.builtin "ValueError.__new__"),k5]:=by
        obtain ⟨l⟩:=sl
        simp only at hs
        rw [hs]
      subst hsl
      exact ⟨bm,ns,nm,qn,bs,hd,sn,sub,ab,col,dd,k0,k1,k2,k3,k5,_,X _ _ ho,.of_isNs (PySem.W.isNs_of_in X hok),PySem.W.nsMap_none_of_in X hok hni,PySem.W.tail_of_in X ht,hsub⟩
    · cases q
  · cases q
abbrev FX:=DEnv->Option Str
abbrev FXE:=VEnv->Option Str
def tX (K:PySem.W.Frag) (ad:Str->Addr) (E:XK) (F:FX):TS:=fun _ σ H=>∃ B O0 O1 ρ c,RS K B O0 O1 H ρ σ/\F ρ=some c/\∀ H',Same B H'->E (.ref (ad c)) none H'
def XS (X:Cx) (ad:Str->Addr) (E:XK) (st:Stmt) (F:FX):Prop:=PS X st (tX X.K ad E F)
def XSs (X:Cx) (ad:Str->Addr) (E:XK) (st:List Stmt) (F:FX):Prop:=PSs X st (tX X.K ad E F)
def xAlw (c:Str):FX:=fun _=>some c
def xIf (g:FT) (F G:FX):FX:=fun ρ=>match g (allV ρ) with | some true=>F ρ | some false=>G ρ | none=>none
def xNo:FX:=fun _=>none
def xL (G:List D->Option Str) (fa:FA):FXE:=fun ρ=>(fa ρ).bind G
def xRun (n N:Nat) (F:FX):List D->Option Str:=fun ds=>if ds.length=n then F (start0 n N ds) else none
section
variable {X:Cx} {ad:Str->Addr} {E:XK} {st:Stmt} {rest:List Stmt} {pos:Pos} {F G:FX}
theorem xs_raise {y:Str} {np cpos p:Pos} {z:Str} {j:Nat} (x:XL X E) (o:OX X.K X.mg y (ad y)) (hc:X.calm=true:=by rfl) (hg:Gl X y:=by rfl) (hd:(y == ("__debug__":Str))=false:=by decide)
    (he:starEach [Expr.Constant (.str z) j p] X.env=(false,eval (.Constant (.str z) j p) X.env)::starEach [] X.env:=by rfl) :
    XS X ad E (.Raise (some (.Call (.Name y np) [.Constant (.str z) j p] [] cpos)) none pos) (xAlw y):=by
  intro pins s σ H D I h
  obtain ⟨B,O0,O1,ρ,c,r,e,hE⟩:=h
  cases e
  obtain ⟨bm,N,nm,q,bs,hdct,sn,sub,ab,col,dd,k0,k1,k2,k3,k5,mN,hC,hN,hni,hT,_⟩:=o.obj I.mod.kin
  refine wpAny_Raise_call_subT (F:=PySem.F.excBase_ValueError) (C:=ad y) (nm:=nm) (q:=q) (N:=N) (bs:=bs) (bm:=bm) (hdct:=hdct) (sn:=sn) (sub:=sub) (ab:=ab) (col:=col) (dd:=dd) (k0:=k0) (k1:=k1) (k2:=k2) (k3:=k3) (k5:=k5) (mN:=mN) (hT.hasType (by decide)) (I.ok.hd hc) (by rw [he];rfl) hni (ld_glob I hg o.mg ⟨rfl,?_⟩ hd)
  have hp:=pa_cons (X:=X) (pe_str (X:=X) (x:=z) (j:=j) (pos:=p)) (pa_nil (X:=X)) he cpos pins s σ H (fun vs H1=>vs.length=1/\H1=H) I ⟨rfl,rfl⟩
  rw [he] at hp ⊢
  refine Calls.evalArgs_plain (thn hp fun us s1 k=>?_)
  obtain ⟨vs,H1,I1,rv,el,eq⟩:=k
  subst eq
  refine ⟨rfl,?_,I1.bk _ _ hC,hN.keeps I1.bk,hT.keeps I1.bk,fun h' e hm=>leave_made x I1 hm (hE _ r.same)⟩
  show us.length<=sizeLine
  rw [<- rv.length,el,show sizeLine=16777216 from sizeLine_eq]
  decide
theorem xs_if {c:Expr} {a b:List Stmt} {g:FT} (hc:TV X c g) (ha:XSs X ad E a F) (hb:XSs X ad E b G):XS X ad E (.If c a b pos) (xIf g F G):=PS.imp (ps_if hc ha hb) fun D σ H h=>by
  obtain ⟨B,O0,O1,ρ,c,r,e,hE⟩:=h
  unfold xIf at e
  cases eg:g (allV ρ) with
  | none=>rw [eg] at e;cases e
  | some k =>
    rw [eg] at e
    refine ⟨O0,allV ρ,k,r.all,eg,fun H' s=>?_⟩
    cases k with
    | true=>rw [if_pos rfl];exact ⟨B,O0,O1,ρ,c,r.mono s,e,hE⟩
    | false=>rw [if_neg Bool.false_ne_true];exact ⟨B,O0,O1,ρ,c,r.mono s,e,hE⟩
theorem xss_no:XSs X ad E rest xNo:=PSs.imp pss_never fun D σ H h=>by
  obtain ⟨B,O0,O1,ρ,c,r,e,hE⟩:=h
  cases e
theorem xss_here (h:XS X ad E st F):XSs X ad E (st::rest) F:=PSs.imp (pss_cons h (pss_never (sts:=rest))) fun D σ H h=>h
def spX (K:PySem.W.Frag) (ad:Str->Addr) (G:List D->Option Str):Sp:=fun vs H _ E=>∃ O ds c,There O H/\Reps K (mask O H) ds vs/\G ds=some c/\∀ H',Same H H'->E (.ref (ad c)) none H'
structure DefX (P:Program) (w:World) (K:PySem.W.Frag) (mg:Str->Option Value) (base:Heap) (ad:Str->Addr) (x:Str) (k:Nat) (ps:List Str) (G:List D->Option Str) (f:Addr) (fd:FuncData):Prop where
  ok:FnOk P w K mg base (CX1 P w base) k f fd ps (spX K ad G)
  mg:mg x=some (.ref f)
  kp:PySem.W.keepIn K (.ref f)=true
  bi:Binds K fd ps []
end
theorem rs_start {K:PySem.W.Frag} {H:Hp} {O:List Addr} {N ps:List Str} {ds:List D} {vs:List V} (hpl:ps.length<=N.length) (hl:ds.length=ps.length) (th:There O H) (rs:Reps K (mask O H) ds vs):RS K H O [] H (start0 ps.length N.length ds) (start N vs):=by
  have hvl:vs.length=ps.length:=by rw [rs.length];exact hl
  have hno:∀ (i:Nat) (d':D),(start0 ps.length N.length ds)[i]?≠some (some (.own d')):=by
    intro i d' z
    unfold start0 at z
    by_cases hi:i < ds.length
    · rw [List.getElem?_append_left (by simpa using hi)] at z
      obtain ⟨e',g1,g2⟩:=map_get z
      cases g2
    · rw [List.getElem?_append_right (by simpa using hi),List.getElem?_replicate] at z
      split at z <;> cases z
  refine ⟨?_,(Same.refl _),th,fun a m=>(by cases m),fun a m=>(by cases m),fun i d' q'=>?_,fun i d' q'=>(hno _ _ q').elim,fun i j d1 d2 a q1=>(hno _ _ q1).elim⟩
  · unfold start0 start;simp [hl,hvl]
  · unfold start0 at q'
    by_cases hi:i < ds.length
    · rw [List.getElem?_append_left (by simpa using hi)] at q'
      obtain ⟨e',g1,g2⟩:=map_get q'
      cases g2
      obtain ⟨v,g3,g4⟩:=rs.get g1
      refine ⟨v,?_,by rw [List.append_nil];exact g4⟩
      unfold start
      rw [List.getElem?_append_left (by rw [List.length_map,rs.length];exact hi),List.getElem?_map,g3];rfl
    · rw [List.getElem?_append_right (by simpa using hi),List.getElem?_replicate] at q'
      split at q' <;> cases q'
theorem fn_dataX {P:Program} {w:World} {K:PySem.W.Frag} {mg:Str->Option Value} {base:Heap} {ad:Str->Addr} {x qual:Str} {st:Stmt} {f:Addr} {fd:FuncData} {N ps:List Str} {k n m:Nat} {F:FX} {G:List D->Option Str} (Fu:Fun K x qual st f fd) (S:FnScope N ps (defScope st)) (hn:ps.length=n) (hm:N.length=m) (hG:G=xRun n m F)
    (h:∀ (cdv:Value) (A:Around) (outer:List Env) (s:Shared) (H:Hp) (E:XK),Room k (A.deeper (envOfC qual (defScope st) s.heap.objs.size f cdv))->XL (cxOf (CX1 P w base) P w K mg base N qual (defScope st) f cdv A outer s H E) E ->
      XSs (cxOf (CX1 P w base) P w K mg base N qual (defScope st) f cdv A outer s H E) ad E (defBody st) F) :
    FnOk P w K mg base (CX1 P w base) (k+1) f fd ps (spX K ad G):=by
  subst hn hm hG
  have hpl:ps.length<=N.length:=by have:=congrArg List.length S.pre;rw [List.length_take] at this;omega
  obtain ⟨oc,od,kV,doc,pm,an,cdv,ct,osl,rfl,lk,hcd⟩:=Fu.ex
  have hlen:∀ {ds:List D} {c:Str},xRun ps.length N.length F ds=some c->ds.length=ps.length/\F (start0 ps.length N.length ds)=some c:=fun {ds c} e=>by
    unfold xRun at e
    split at e
    · rename_i hl;exact ⟨hl,e⟩
    · cases e
  refine fn_of lk hcd S (fun vs H Q E hs=>?_) fun A outer s H vs Q E hr hs=>?_
  · obtain ⟨O,ds,c,th,rs,e,_⟩:=hs
    rw [rs.length];exact (hlen e).1
  · obtain ⟨O,ds,c,th,rs,e,q⟩:=hs
    refine ⟨_,h cdv A outer s H E hr ⟨rfl,rfl,rfl,rfl⟩,?_⟩
    exact ⟨H,O,[],start0 ps.length N.length ds,c,rs_start hpl (hlen e).1 th rs,(hlen e).2,fun H' s'=>q H' s'⟩
end L2

namespace L2
open PySem PySem.Spec PyProof.Rows
section
variable {X:Cx} {pos:Pos}
end
end L2

namespace L2
open PySem PySem.Spec PyProof.Rows
section
variable {X:Cx} {pos:Pos}
theorem fm_all {β:Type} {f:Nat->Option β}:∀ xs:List Nat,(∀ k∈xs,(f k).isSome=true)->(xs.filterMap f).map some=xs.map f:=by
  intro xs
  induction xs with
  | nil=>intro _;rfl
  | cons x xs ih =>
    intro h
    obtain ⟨y,hy⟩:=Option.isSome_iff_exists.mp (h x List.mem_cons_self)
    rw [List.filterMap_cons_some hy,List.map_cons,List.map_cons,ih fun k hk=>h k (List.mem_cons_of_mem _ hk),hy]
theorem slicePick_rev (its:List Value):slicePick its.toArray none none (some (-1))=its.reverse.toArray:=by
  unfold slicePick sliceBounds sliceRange
  simp only [Option.getD_some,List.size_toArray]
  congr 1
  have h1:¬ ((-1:Int) > 0):=by decide
  simp only [h1,if_false]
  have hc:(if (its.length:Int) - 1 > -1 then ((its.length:Int) - 1 - -1 - -1 - 1) / (- -1) else 0).toNat=its.length:=by
    split
    · rw [show (- -1:Int)=1 from rfl,Int.ediv_one];omega
    · omega
  rw [hc,List.filterMap_map]
  have hf:∀ k,k < its.length->(((fun x=>its.toArray[x]?) ∘ fun (k:Nat)=>((its.length:Int) - 1+-1 * (k:Int)).toNat) k)=its[its.length - 1 - k]?:=fun k hk=>by
    show its.toArray[((its.length:Int) - 1+-1 * (k:Int)).toNat]?=_
    rw [show ((its.length:Int) - 1+-1 * (k:Int)).toNat=its.length - 1 - k by omega]
    simp
  have hm:=fm_all (f:=(fun x=>its.toArray[x]?) ∘ fun (k:Nat)=>((its.length:Int) - 1+-1 * (k:Int)).toNat) (List.range its.length) fun k hk=>by
    have hk:=List.mem_range.mp hk
    rw [hf k hk,List.getElem?_eq_getElem (by omega)];rfl
  apply List.ext_getElem?
  intro i
  have hi:=congrArg (fun l=>l[i]?) hm
  simp only [List.getElem?_map] at hi
  by_cases hl:i < its.length
  · rw [List.getElem?_range hl,Option.map_some,hf i hl] at hi
    rw [List.getElem?_reverse hl]
    cases hz:its[its.length - 1 - i]? with
    | none=>rw [List.getElem?_eq_getElem (by omega)] at hz;cases hz
    | some v =>
      rw [hz] at hi
      generalize (List.filterMap ((fun x=>its.toArray[x]?) ∘ fun (k:Nat)=>((its.length:Int) - 1+-1 * (k:Int)).toNat) (List.range its.length))[i]?=z at hi ⊢
      cases z with
      | none=>cases hi
      | some w=>cases hi;rfl
  · rw [List.getElem?_eq_none (l:=List.range its.length) (by simpa using hl),Option.map_none] at hi
    rw [List.getElem?_eq_none (l:=its.reverse) (by simpa using hl)]
    generalize (List.filterMap ((fun x=>its.toArray[x]?) ∘ fun (k:Nat)=>((its.length:Int) - 1+-1 * (k:Int)).toNat) (List.range its.length))[i]?=z at hi ⊢
    cases z with
    | none=>rfl
    | some w=>cases hi
theorem vals_rev:∀ {xs:List V} {us:List Value},Vals xs us->Vals xs.reverse us.reverse:=by
  intro xs
  induction xs with
  | nil=>intro us r;cases r;exact .nil
  | cons x xs ih =>
    intro us r
    cases r with
    | cons a b =>
      rw [List.reverse_cons,List.reverse_cons]
      exact (ih b).append (.cons a .nil)
theorem reps_rev {K:PySem.W.Frag} {H:Hp}:∀ {ds:List D} {vs:List V},Reps K H ds vs->Reps K H ds.reverse vs.reverse:=by
  intro ds
  induction ds with
  | nil=>intro vs r;rw [show vs=[] from r];rfl
  | cons d ds ih =>
    intro vs r
    obtain ⟨v,vr,rfl,h,t⟩:=r
    rw [List.reverse_cons,List.reverse_cons]
    exact (ih t).append ⟨v,[],rfl,h,rfl⟩
end
end L2

namespace M
def noCol (p:Nat) (rows:List (List Int)):List (List Int):=rows.map fun r=>r.take p++r.drop (p+1)
def withCol (p:Nat) (rows:List (List Int)) (col:List Int):List (List Int):=(rows.zip col).map fun x=>x.1.take p++[x.2]++x.1.drop (p+1)
mutual
def detN:Nat->List (List Int)->Int
  | 0,_=>1
  | _+1,[]=>1
  | k+1,r::rs=>detRow k rs r 0 1
def detRow:Nat->List (List Int)->List Int->Nat->Int->Int
  | _,_,[],_,_=>0
  | k,rs,x::r,p,sg=>sg * x * detN k (noCol p rs)+detRow k rs r (p+1) (-sg)
end
def det (rows:List (List Int)):Int:=detN rows.length rows
mutual
def T (L:Nat->Nat->Int):Nat->List Nat->(Nat->Int)->Int
  | 0,_,_=>1
  | m+1,vs,s=>Trow L m [] vs s
def Trow (L:Nat->Nat->Int):Nat->List Nat->List Nat->(Nat->Int)->Int
  | _,_,[],_=>0
  | m,pre,v::post,s=>s v * T L m (pre++post) (fun i=>(if i∈pre then 0 else s i)+L v i)+Trow L m (pre++[v]) post s
end
section
variable {L:Nat->Nat->Int} (nn:∀ i j,0<=L i j)
include nn
end
end M

namespace M
theorem S_filter (P:Nat->Bool) (f:Nat->Int):∀ n:Nat,(((List.range n).filter P).map f).sum=S n (fun i=>if P i=true then f i else 0)
  | 0=>rfl
  | n+1=>by
    rw [List.range_succ,List.filter_append,List.map_append,List.sum_append,S_filter P f n]
    show _=S n _+(if P n=true then f n else 0)
    congr 1
    by_cases h:P n=true
    · simp [h]
    · simp [h]
theorem S_others {n q:Nat} (hq:q < n) (f:Nat->Int):S n f=f q+((others n q).map f).sum:=by
  rw [S_out n q f hq]
  unfold others
  rw [S_filter]
  congr 1
  exact S_congr n fun i _=>by by_cases e:i=q <;> simp [e]
theorem others_nodup (n q:Nat):(others n q).Nodup:=List.nodup_range.filter _
def ent (n:Nat) (L:Nat->Nat->Int) (i j:Nat):Int:=if j=i then S n (L i) else - L i j
def rowsOf (n:Nat) (L:Nat->Nat->Int) (vs:List Nat):List (List Int):=vs.map fun i=>vs.map fun j=>ent n L i j
def part (n:Nat) (L:Nat->Nat->Int) (vs:List Nat) (col:Nat->Int) (k:Nat):Int:=det (withCol k (rowsOf n L vs) (vs.map col))
structure Good (n:Nat) (L:Nat->Nat->Int) (q:Nat) (vs:List Nat):Prop where
  net:Net n L
  le4:∀ i j,L i j<=4
  hq:q < n
  nd:vs.Nodup
  qn:q∉vs
  lt:∀ i∈vs,i < n
  sp:∀ f:Nat->Int,S n f=f q+(vs.map f).sum
section
variable {n:Nat} {L:Nat->Nat->Int} {q:Nat}
end
end M

namespace M
structure Gd (n:Nat) (L:Nat->Nat->Int):Prop where
  net:Net n L
  le4:∀ i j,L i j<=4
  pos:1<=n
  le5:n<=5
  par:∀ y,1<=y->y < n->∃ x,x < y/\0 < L x y
theorem least {P:Nat->Prop}:∀ (n:Nat),P n->∃ m,m<=n/\P m/\∀ k,k < m->¬ P k
  | n,h=>by
    induction n using Nat.strongRecOn with
    | _ n ih =>
      by_cases e:∃ k,k < n/\P k
      · obtain ⟨k,hk,pk⟩:=e
        obtain ⟨m,hm,h1,h2⟩:=ih k hk pk
        exact ⟨m,by omega,h1,h2⟩
      · exact ⟨n,Nat.le_refl _,h,fun k hk pk=>e ⟨k,hk,pk⟩⟩
section
variable {n:Nat} {L:Nat->Nat->Int} {q:Nat}
theorem Gd.good (g:Gd n L) (hq:q < n):Good n L q (others n q) :=
  ⟨g.net,g.le4,hq,others_nodup n q,fun z=>(mem_others.mp z).2 rfl,fun i hi=>(mem_others.mp hi).1,S_others hq⟩
def whole (n:Nat) (L:Nat->Nat->Int) (q:Nat):Int:=det (rowsOf n L (others n q))
end
end M

namespace M
section
variable {n:Nat} {L:Nat->Nat->Int} {q:Nat} {d:Nat->Int}
end
end M

namespace P
open PySem L2
noncomputable def F_is_number:FS :=
  (sRet (fAnd (f1 (isD "int") (fV 0)) (fNot (f1 (isD "bool") (fV 0)))))
noncomputable def G_is_number:List D->Option D:=runF 1 1 F_is_number
noncomputable def F_is_number_within (G_is_number:List D->Option D):FS :=
  (sRet (fAnd (fL G_is_number (fCons (fV 0) fN)) (fChain (intOp fun i j=>.bl (decide (i<=j))) (intOp fun i j=>.bl (decide (i<=j))) (fV 1) (fV 0) (fV 2))))
noncomputable def G_is_number_within:List D->Option D:=runF 3 3 (F_is_number_within G_is_number)
noncomputable def F_is_bundle (G_is_number_within:List D->Option D):FS :=
  (sSeq (sIf (gOr (gNot (gTru (f1 (isD "tuple") (fV 1)))) (gB (f2 neOp (fL lenD (fCons (fV 1) fN)) (fC (.int 3))))) (sRet (fC (.bl false))) sNx)
  (sSeq (sIf (gNot (gTru (fL G_is_number_within (fCons (f2 ixD (fV 1) (fC (.int 0))) (fCons (fC (.int 0)) (fCons (f2 (intOp fun i j=>.int (i - j)) (fV 0) (fC (.int 1))) fN)))))) (sRet (fC (.bl false))) sNx)
  (sRet (fAnd (fL G_is_number_within (fCons (f2 ixD (fV 1) (fC (.int 1))) (fCons (f2 addD (f2 ixD (fV 1) (fC (.int 0))) (fC (.int 1))) (fCons (f2 (intOp fun i j=>.int (i - j)) (fV 0) (fC (.int 1))) fN)))) (fL G_is_number_within (fCons (f2 ixD (fV 1) (fC (.int 2))) (fCons (fC (.int 1)) (fCons (fC (.int 4)) fN))))))))
noncomputable def G_is_bundle:List D->Option D:=runF 2 2 (F_is_bundle G_is_number_within)
noncomputable def F_is_joined:FS :=
  (sSeq (sOwn1 2 0 true)
  (sSeq (sForA (fR rng1 (fCons (fV 0) fN)) (gN 3) (sFor (fItems (fV 1)) (gT [4,5,6]) (sIf (gOr (gB (f2 inOp (fV 4) (fV 2))) (gB (f2 inOp (fV 5) (fV 2)))) (sSeq (sDSet 2 (fV 4) (fC (.bl true)))
  (sDSet 2 (fV 5) (fC (.bl true)))) sNx)))
  (sRet (f2 eqOp (fL lenKD (fCons (fV 2) fN)) (fV 0)))))
noncomputable def G_is_joined:List D->Option D:=runF 2 7 F_is_joined
noncomputable def F_do_rise:FS :=
  (sRet (fL allD (fCons (fComp 2 [] (fZip (fV 0) (fSl (fV 0) (pS (fC (.int 1))) pN)) (gT [0,1]) gYes (f2 ltOp (fSl (fV 0) pN (pS (fC (.int 2)))) (fSl (fV 1) pN (pS (fC (.int 2)))))) fN)))
noncomputable def G_do_rise:List D->Option D:=runF 1 1 F_do_rise
noncomputable def F_is_ground (G_is_number_within G_is_bundle G_is_joined G_do_rise:List D->Option D):FS :=
  (sSeq (sIf (gOr (gNot (gTru (f1 (isD "tuple") (fV 0)))) (gB (f2 neOp (fL lenD (fCons (fV 0) fN)) (fC (.int 2))))) (sRet (fC (.bl false))) sNx)
  (sSeq (sSet 1 (f2 ixD (fV 0) (fC (.int 0))))
  (sSeq (sSet 2 (f2 ixD (fV 0) (fC (.int 1))))
  (sSeq (sIf (gOr (gNot (gTru (fL G_is_number_within (fCons (fV 1) (fCons (fC (.int 1)) (fCons (fC (.int 5)) fN)))))) (gNot (gTru (f1 (isD "tuple") (fV 2))))) (sRet (fC (.bl false))) sNx)
  (sSeq (sIf (gNot (gTru (fL allD (fCons (fComp 1 [1] (fItems (fV 2)) (gN 0) gYes (fL G_is_bundle (fCons (fV 1) (fCons (fV 0) fN)))) fN)))) (sRet (fC (.bl false))) sNx)
  (sRet (fAnd (fL G_do_rise (fCons (fV 2) fN)) (fL G_is_joined (fCons (fV 1) (fCons (fV 2) fN))))))))))
noncomputable def G_is_ground:List D->Option D:=runF 1 3 (F_is_ground G_is_number_within G_is_bundle G_is_joined G_do_rise)
noncomputable def F_checked (G_is_ground:List D->Option D):FS :=
  (sSeq (sIf (gNot (gTru (fL G_is_ground (fCons (fV 0) fN)))) sBad sNx)
  (sRet (fV 0)))
noncomputable def G_checked:List D->Option D:=runF 1 1 (F_checked G_is_ground)
noncomputable def F__law_cell_at:FS :=
  (sSeq (sIf (gB (f2 ltOp (fV 1) (fL lenD (fCons (fV 0) fN)))) (sRet (f2 ixD (fV 0) (fV 1))) sNx)
  (sSeq (sIf (gB (f2 eqOp (fV 0) (fL mkLst fN))) (sRet (fC (.int 0))) sNx)
  (sRet (f2 addD (f2 mulD (f2 ixD (fV 0) (f2 modD (fV 1) (fL lenD (fCons (fV 0) fN)))) (fC (.int 31))) (fV 1)))))
noncomputable def G__law_cell_at:List D->Option D:=runF 2 2 F__law_cell_at
noncomputable def F__law_mixed (G__law_cell_at:List D->Option D):FS :=
  (sSeq (sSet 3 (f2 modD (f2 mulD (f2 addD (f2 addD (fL G__law_cell_at (fCons (fV 0) (fCons (fV 1) fN))) (f2 mulD (fC (.int 7919)) (fV 1))) (fC (.int 1))) (fC (.int 48271))) (fC (.int 2147483647))))
  (sRet (f2 modD (f2 modD (f2 addD (f2 addD (f2 mulD (fV 3) (fV 3)) (f2 mulD (fC (.int 7)) (fV 3))) (fV 1)) (fC (.int 2147483629))) (fV 2))))
noncomputable def G__law_mixed:List D->Option D:=runF 3 4 (F__law_mixed G__law_cell_at)
noncomputable def F__law_ground (G__law_mixed:List D->Option D):FS :=
  (sSeq (sSet 3 (f2 addD (fC (.int 1)) (fL G__law_mixed (fCons (fV 0) (fCons (fV 1) (fCons (fV 2) fN))))))
  (sSeq (sOwnT 4)
  (sSeq (sForA (fR rng2 (fCons (fC (.int 1)) (fCons (fV 3) fN))) (gN 5) (sDSet 4 (fL mkTup (fCons (fL G__law_mixed (fCons (fV 0) (fCons (f2 addD (fV 1) (fV 5)) (fCons (fV 5) fN)))) (fCons (fV 5) fN))) (f2 addD (fC (.int 1)) (f2 fdivD (fL G__law_mixed (fCons (fV 0) (fCons (f2 addD (f2 addD (fV 1) (fC (.int 5))) (fV 5)) (fCons (fC (.int 5)) fN)))) (fC (.int 3))))))
  (sSeq (sForA (fR rng1 (fCons (f2 mulD (fL G__law_mixed (fCons (fV 0) (fCons (f2 addD (fV 1) (fC (.int 10))) (fCons (fC (.int 4)) fN)))) (fL intD (fCons (f2 (intOp fun i j=>.bl (decide (j < i))) (fV 3) (fC (.int 1))) fN))) fN)) (gN 6) (sSeq (sSet 7 (fL G__law_mixed (fCons (fV 0) (fCons (f2 addD (f2 addD (fV 1) (fC (.int 11))) (f2 mulD (fC (.int 2)) (fV 6))) (fCons (fV 3) fN)))))
  (sSeq (sSet 8 (f2 modD (f2 addD (f2 addD (fV 7) (fC (.int 1))) (fL G__law_mixed (fCons (fV 0) (fCons (f2 addD (f2 addD (fV 1) (fC (.int 12))) (f2 mulD (fC (.int 2)) (fV 6))) (fCons (f2 (intOp fun i j=>.int (i - j)) (fV 3) (fC (.int 1))) fN))))) (fV 3)))
  (sSeq (sSet 9 (fL mkTup (fCons (fL minD (fCons (fV 7) (fCons (fV 8) fN))) (fCons (fL maxD (fCons (fV 7) (fCons (fV 8) fN))) fN))))
  (sDSet 4 (fV 9) (f2 addD (f2 modD (fDgt (fV 4) (fV 9) (fC (.int 0))) (fC (.int 4))) (fC (.int 1))))))))
  (sRet (fL mkTup (fCons (fV 3) (fCons (fL tupD (fCons (fComp 1 [4] (fItems (fL sortedD (fCons (fL listTD (fCons (fV 4) fN)) fN))) (gN 0) gYes (f2 addD (fV 0) (fL mkTup (fCons (f2 dixD (fV 1) (fV 0)) fN)))) fN)) fN))))))))
noncomputable def G__law_ground:List D->Option D:=runF 3 10 (F__law_ground G__law_mixed)
noncomputable def F__law_whole:FS :=
  (sRet (fAnd (f1 (isD "int") (fV 0)) (fNot (f1 (isD "bool") (fV 0)))))
noncomputable def G__law_whole:List D->Option D:=runF 1 1 F__law_whole
noncomputable def F__law_is_join (G__law_whole:List D->Option D):FS :=
  (sSeq (sIf (gOr (gNot (gTru (f1 (isD "tuple") (fV 0)))) (gOr (gB (f2 neOp (fL lenD (fCons (fV 0) fN)) (fC (.int 3)))) (gB (f2 neOp (fComp 1 [] (fItems (fV 0)) (gN 0) (gNot (gTru (fL G__law_whole (fCons (fV 0) fN)))) (fV 0)) (fL mkLst fN))))) (sRet (fC (.bl false))) sNx)
  (sRet (fAnd (f2 (intOp fun i j=>.bl (decide (i<=j))) (fC (.int 0)) (f2 ixD (fV 0) (fC (.int 0)))) (fAnd (f2 ltOp (f2 ixD (fV 0) (fC (.int 0))) (f2 ixD (fV 0) (fC (.int 1)))) (fAnd (f2 ltOp (f2 ixD (fV 0) (fC (.int 1))) (fV 1)) (fAnd (f2 (intOp fun i j=>.bl (decide (i<=j))) (fC (.int 1)) (f2 ixD (fV 0) (fC (.int 2)))) (f2 (intOp fun i j=>.bl (decide (i<=j))) (f2 ixD (fV 0) (fC (.int 2))) (fC (.int 4)))))))))
noncomputable def G__law_is_join:List D->Option D:=runF 2 2 (F__law_is_join G__law_whole)
noncomputable def F__law_spoilt_join:FS :=
  (sSeq (sOwn 2 (fR few (fCons (fFr (fItems (fV 0))) (fCons (fSl (fV 0) pN (pS (fC (.int 2)))) (fCons (f2 addD (fV 0) (fL mkTup (fCons (fC (.int 1)) fN))) (fCons (fL mkTup (fCons (f2 ixD (fV 0) (fC (.int 1))) (fCons (f2 ixD (fV 0) (fC (.int 0))) (fCons (f2 ixD (fV 0) (fC (.int 2))) fN)))) (fCons (fL mkTup (fCons (f2 ixD (fV 0) (fC (.int 0))) (fCons (f2 ixD (fV 0) (fC (.int 0))) (fCons (fC (.int 1)) fN)))) (fCons (f2 addD (fSl (fV 0) pN (pS (fC (.int 2)))) (fL mkTup (fCons (fC (.int 0)) fN))) fN))))))))
  (sSeq (sExt 2 (fL mkLst (fCons (f2 addD (fSl (fV 0) pN (pS (fC (.int 2)))) (fL mkTup (fCons (fC (.int 5)) fN))) (fCons (f2 addD (fSl (fV 0) pN (pS (fC (.int 2)))) (fL mkTup (fCons (fC (.bl true)) fN))) (fCons (fL mkTup (fCons (fC (.str "0")) (fCons (f2 ixD (fV 0) (fC (.int 1))) (fCons (fC (.int 1)) fN)))) (fCons (fL mkTup (fCons (f1 negD (fC (.int 1))) (fCons (f2 ixD (fV 0) (fC (.int 1))) (fCons (fC (.int 1)) fN)))) (fCons (f2 addD (fSl (fV 0) pN (pS (fC (.int 2)))) (fL mkTup (fCons (fC (.int 4)) fN))) (fCons (fC .non) fN))))))))
  (sRet (f2 ixD (fV 2) (f2 modD (fV 1) (fC (.int 12)))))))
noncomputable def G__law_spoilt_join:List D->Option D:=runF 2 3 F__law_spoilt_join
end P

namespace L2
open PySem HT
theorem atI_ok {α:Type} {xs:List α} {i:Int} {x:α} (h0:0<=i) (h:xs[i.toNat]?=some x):atI xs i=some x:=by
  have hl:i.toNat < xs.length:=(List.getElem?_eq_some_iff.mp h).1
  unfold atI ixN
  rw [if_pos h0,if_pos (by omega)]
  exact h
mutual
def dk:D->Bool
  | .non=>true
  | .int _=>true
  | .str x=>PyData.strOk x
  | .tup ds=>dks ds
  | .lst ds=>dks ds
  | _=>false
def dks:List D->Bool
  | []=>true
  | d::ds=>dk d && dks ds
end
mutual
def dep:D->Nat
  | .tup ds=>deps ds+1
  | .lst ds=>deps ds+1
  | _=>0
def deps:List D->Nat
  | []=>0
  | d::ds=>max (dep d) (deps ds)
end
mutual
theorem dk_lay:∀ d:D,dk d=true->(toPy d).canLay0=true/\(toPy d).depth=dep d
  | .non,_=>by simp [toPy,PyData.canLay0,PyData.depth,dep]
  | .int _,_=>by simp [toPy,PyData.canLay0,PyData.depth,dep]
  | .str x,h=>by simp [dk] at h;simp [toPy,PyData.canLay0,PyData.depth,dep,h]
  | .tup ds,h=>by
    have:=dks_lay ds (by simpa [dk] using h)
    simp [toPy,PyData.canLay0,PyData.depth,dep,this.1,this.2]
  | .lst ds,h=>by
    have:=dks_lay ds (by simpa [dk] using h)
    simp [toPy,PyData.canLay0,PyData.depth,dep,this.1,this.2]
  | .bl _,h=>by simp [dk] at h
  | .scr _,h=>by simp [dk] at h
  | .dcK _ _,h=>by simp [dk] at h
  | .dcT _ _,h=>by simp [dk] at h
  | .dcF _ _,h=>by simp [dk] at h
theorem dks_lay:∀ ds:List D,dks ds=true->PyData.canLayAll0 (toPys ds)=true/\PyData.depthAll (toPys ds)=deps ds
  | [],_=>by simp [toPys,PyData.canLayAll0,PyData.depthAll,deps]
  | d::ds,h=>by
    simp [dks] at h
    have a:=dk_lay d h.1
    have b:=dks_lay ds h.2
    simp [toPys,PyData.canLayAll0,PyData.depthAll,deps,a.1,a.2,b.1,b.2]
end
mutual
theorem dk_eqv:∀ (d e:D),dk d=true->dk e=true->(PyData.eqv (toPy d) (toPy e)=true ↔ d=e)
  | .non,e,_,he=>by cases e <;> simp_all [toPy,PyData.eqv,dk]
  | .int _,e,_,he=>by cases e <;> simp_all [toPy,PyData.eqv,dk]
  | .str _,e,_,he=>by cases e <;> simp_all [toPy,PyData.eqv,dk]
  | .tup ds,e,hd,he=>by
    cases e with
    | tup es =>
      have:=dks_eqv ds es (by simpa [dk] using hd) (by simpa [dk] using he)
      simp only [toPy,PyData.eqv,this,D.tup.injEq]
    | _=>simp_all [toPy,PyData.eqv,dk]
  | .lst ds,e,hd,he=>by
    cases e with
    | lst es =>
      have:=dks_eqv ds es (by simpa [dk] using hd) (by simpa [dk] using he)
      simp only [toPy,PyData.eqv,this,D.lst.injEq]
    | _=>simp_all [toPy,PyData.eqv,dk]
  | .bl _,_,h,_=>by simp [dk] at h
  | .scr _,_,h,_=>by simp [dk] at h
  | .dcK _ _,_,h,_=>by simp [dk] at h
  | .dcT _ _,_,h,_=>by simp [dk] at h
  | .dcF _ _,_,h,_=>by simp [dk] at h
theorem dks_eqv:∀ (ds es:List D),dks ds=true->dks es=true->(PyData.eqvAll (toPys ds) (toPys es)=true ↔ ds=es)
  | [],es,_,_=>by cases es <;> simp [toPys,PyData.eqvAll]
  | d::ds,es,hd,he=>by
    cases es with
    | nil=>simp [toPys,PyData.eqvAll]
    | cons e es =>
      simp [dks] at hd he
      have a:=dk_eqv d e hd.1 he.1
      have b:=dks_eqv ds es hd.2 he.2
      simp only [toPys,PyData.eqvAll,Bool.and_eq_true,a,b,List.cons.injEq]
end
theorem okD_dk {d:D} (h:dk d=true) (h2:dep d<=64):okD d=true:=by
  unfold okD
  have:=dk_lay d h
  rw [this.1,this.2]
  simpa using h2
open Classical in
theorem eqOp_dk {d e:D} (hd:dk d=true) (he:dk e=true) (d2:dep d<=64) (e2:dep e<=64):eqOp d e=some (.bl (decide (d=e))):=by
  unfold eqOp
  rw [okD_dk hd d2,okD_dk he e2]
  have:=dk_eqv d e hd he
  simp only [Bool.and_self,if_true]
  congr 2
  by_cases h:d=e
  · rw [this.mpr h];simp [h]
  · have h':PyData.eqv (toPy d) (toPy e)=false:=by
      cases q:PyData.eqv (toPy d) (toPy e) with
      | false=>rfl
      | true=>exact absurd (this.mp q) h
    rw [h'];simp [h]
open Classical in
theorem neOp_dk {d e:D} (hd:dk d=true) (he:dk e=true) (d2:dep d<=64) (e2:dep e<=64):neOp d e=some (.bl (decide (d≠e))):=by
  have:=eqOp_dk hd he d2 e2
  unfold eqOp at this
  unfold neOp
  rw [okD_dk hd d2,okD_dk he e2] at this ⊢
  simp only [Bool.and_self,if_true,Option.some.injEq,D.bl.injEq] at this ⊢
  rw [this]
  by_cases h:d=e <;> simp [h]
theorem eqOp_int (i j:Int):eqOp (.int i) (.int j)=some (.bl (decide (i=j))):=by
  rw [eqOp_dk rfl rfl (Nat.zero_le _) (Nat.zero_le _)]
  by_cases h:i=j <;> simp [h]
theorem neOp_int (i j:Int):neOp (.int i) (.int j)=some (.bl (decide (i≠j))):=by
  rw [neOp_dk rfl rfl (Nat.zero_le _) (Nat.zero_le _)]
  by_cases h:i=j <;> simp [h]
theorem dks_ints:∀ is:List Int,dks (is.map D.int)=true
  | []=>rfl
  | i::is=>by simp [dks,dk,dks_ints is]
theorem deps_ints:∀ is:List Int,deps (is.map D.int)=0
  | []=>rfl
  | i::is=>by simp [deps,dep,deps_ints is]
theorem map_int_inj {a b:List Int}:a.map D.int=b.map D.int ↔ a=b:=by
  constructor
  · intro h
    induction a generalizing b with
    | nil=>cases b with
      | nil=>rfl
      | cons x b=>cases h
    | cons x a ih=>cases b with
      | nil=>cases h
      | cons y b =>
        simp only [List.map_cons,List.cons.injEq,D.int.injEq] at h
        rw [h.1,ih h.2]
  · intro h;rw [h]
theorem eqOp_tint (a b:List Int):eqOp (.tup (a.map .int)) (.tup (b.map .int))=some (.bl (decide (a=b))):=by
  rw [eqOp_dk (by simp [dk,dks_ints]) (by simp [dk,dks_ints]) (by simp [dep,deps_ints]) (by simp [dep,deps_ints])]
  by_cases h:a=b <;> simp [h,map_int_inj]
theorem eqOp_lint (a b:List Int):eqOp (.lst (a.map .int)) (.lst (b.map .int))=some (.bl (decide (a=b))):=by
  rw [eqOp_dk (by simp [dk,dks_ints]) (by simp [dk,dks_ints]) (by simp [dep,deps_ints]) (by simp [dep,deps_ints])]
  by_cases h:a=b <;> simp [h,map_int_inj]
theorem eqOp_scr (ns:List Int):eqOp (.scr ns) (.lst [])=some (.bl (decide (ns=[]))):=by
  have e:∀ ns:List Int,toPys (ns.map D.int)=ns.map PyData.int:=by
    intro ns
    induction ns with
    | nil=>rfl
    | cons n ns ih=>simp [toPys,toPy,ih]
  have h:=eqOp_lint ns []
  have e2:toPy (.scr ns)=toPy (.lst (ns.map .int)):=by simp [toPy,e]
  unfold eqOp okD at h ⊢
  rw [e2]
  exact h
theorem lenD_t (ds:List D):lenD [.tup ds]=some (.int ds.length):=rfl
theorem lenD_l (ds:List D):lenD [.lst ds]=some (.int ds.length):=rfl
theorem lenD_s (ds:List Int):lenD [.scr ds]=some (.int ds.length):=rfl
theorem ixD_t (ds:List D) (i:Int):ixD (.tup ds) (.int i)=atI ds i:=rfl
theorem ixD_l (ds:List D) (i:Int):ixD (.lst ds) (.int i)=atI ds i:=rfl
theorem ixD_s (ds:List Int) (i:Int):ixD (.scr ds) (.int i)=(atI ds i).map D.int:=rfl
theorem addD_ii (i j:Int):addD (.int i) (.int j)=some (.int (i+j)):=rfl
theorem ap_seq (F G:FS) (ρ:DEnv):sSeq F G ρ=oSeq (F ρ) G:=rfl
theorem oSeq_nx (ρ:DEnv) (G:FS):oSeq (.nx ρ) G=G ρ:=rfl
theorem oSeq_rt (d:D) (G:FS):oSeq (.rt d) G=.rt d:=rfl
theorem compD_of {α:Type} {t:FG} {gt:FT} {fe:FE} {ρ:VEnv} (enc:α->D) (p:α->Bool) (g:α->D):∀ xs:List α,(∀ x∈xs,∃ ws,t (enc x)=some ws/\gt (setV ρ ws)=some (p x)/\(p x=true->fe (setV ρ ws)=some (g x))) ->
    compD t gt fe ρ (xs.map enc)=some ((xs.filter p).map g)
  | [],_=>rfl
  | x::xs,h=>by
    obtain ⟨ws,h1,h2,h3⟩:=h x List.mem_cons_self
    have ih:=compD_of enc p g xs fun y hy=>h y (List.mem_cons_of_mem _ hy)
    rw [List.map_cons]
    unfold compD
    rw [h1]
    simp only [Option.bind_some]
    rw [h2]
    simp only [Option.bind_some]
    cases hp:p x with
    | true=>rw [if_pos rfl,h3 hp,ih];simp [hp]
    | false=>rw [if_neg (by decide),ih];simp [hp]
theorem fComp_of {α:Type} {n:Nat} {ix:List Nat} {fi:FA} {t:FG} {gt:FT} {fe:FE} {ρ:VEnv} (enc:α->D) (p:α->Bool) (g:α->D) (xs:List α) (h:fi ρ=some (xs.map enc)) (hl:xs.length<=65536)
    (h2:∀ x∈xs,∃ ws,t (enc x)=some ws/\gt (setV (env0 n ix ρ) ws)=some (p x)/\(p x=true->fe (setV (env0 n ix ρ) ws)=some (g x))):fComp n ix fi t gt fe ρ=some (.lst ((xs.filter p).map g)):=by
  unfold fComp
  rw [h]
  simp only [Option.bind_some]
  rw [if_pos (by rw [List.length_map];exact hl),compD_of enc p g xs h2]
  rfl
theorem fComp_all {α:Type} {n:Nat} {ix:List Nat} {fi:FA} {t:FG} {fe:FE} {ρ:VEnv} (enc:α->D) (g:α->D) (xs:List α) (h:fi ρ=some (xs.map enc)) (hl:xs.length<=65536)
    (h2:∀ x∈xs,∃ ws,t (enc x)=some ws/\fe (setV (env0 n ix ρ) ws)=some (g x)):fComp n ix fi t gYes fe ρ=some (.lst (xs.map g)):=by
  rw [fComp_of enc (fun _=>true) g xs h hl fun x hx=>let ⟨ws,a,b⟩:=h2 x hx;⟨ws,a,rfl,fun _=>b⟩]
  rw [List.filter_eq_self.mpr fun _ _=>rfl]
theorem rng1_nat {n:Nat} (h:n<=65536):rng1 [.int (n:Int)]=some ((List.range n).map fun k=>D.int (k:Nat)):=by
  unfold rng1
  dsimp only
  rw [if_pos (by constructor <;> omega)]
  unfold rangeD
  rw [Int.toNat_natCast]
  congr 1
  exact List.map_congr_left fun k _=>by rw [Int.zero_add]
theorem rng1_of {j:Int} (h0:0<=j) (h:j<=65536):rng1 [.int j]=some ((List.range j.toNat).map fun k=>D.int (k:Nat)):=by
  have:=rng1_nat (n:=j.toNat) (by omega)
  rwa [show ((j.toNat:Nat):Int)=j by omega] at this
theorem rng2_of {i j:Int} (h0:0<=i) (h1:i<=65536) (h2:0<=j) (h:j<=65536):rng2 [.int i,.int j]=some ((List.range (j - i).toNat).map fun (k:Nat)=>D.int (i+(k:Int))):=by
  unfold rng2
  dsimp only
  rw [if_pos (by refine ⟨⟨?_,?_⟩,?_,?_⟩ <;> omega)]
  rfl
theorem forD_inv {t:FG} {F:FS} (P:Nat->DEnv->Prop):∀ (ds:List D) (k:Nat) (ρ:DEnv),(∀ (i:Nat) (d:D) (ρ:DEnv),ds[i]?=some d->P (k+i) ρ->∃ ws ρ',t d=some ws/\F (setD ρ ws)=.nx ρ'/\P (k+i+1) ρ')->P k ρ ->
    ∃ ρ',forD t F ds ρ=.nx ρ'/\P (k+ds.length) ρ'
  | [],k,ρ,_,h=>⟨ρ,rfl,h⟩
  | d::ds,k,ρ,step,h=>by
    obtain ⟨ws,ρ',h1,h2,h3⟩:=step 0 d ρ rfl h
    obtain ⟨ρ2,h4,h5⟩:=forD_inv P ds (k+1) ρ' (fun i e ρ he hp=>by
      have:=step (i+1) e ρ (by simpa using he) (by rw [show k+(i+1)=k+1+i by omega];exact hp)
      rw [show k+1+i+1=k+(i+1)+1 by omega];exact this) h3
    refine ⟨ρ2,?_,by rw [List.length_cons,show k+(ds.length+1)=k+1+ds.length by omega];exact h5⟩
    unfold forD
    rw [h1]
    dsimp only
    rw [h2]
    exact h4
theorem allD_bls (is:List Bool):allD [.lst (is.map .bl)]=some (.bl (is.all id)):=by
  simp only [allD,blsOf_map,Option.bind_some]
end L2

namespace L2
open PySem PySem.Spec PyProof.Rows
section
variable {M:Model} {A:Around} {E:Value->Shared->Prop}
variable {nm q nm' q':Str} {C N C' N':Addr} {bs bm bs' bm':List Value} {hdct hdct':Bool} {sn sn':List Str} {sub sub':List Value} {ab ab':Bool} {col col':Option Bool} {dd dd':Option Addr} {k0 k1 k2 k3 k5 k0' k1' k2' k3' k5':Option Value} {newId newId':String}
theorem excMatches_own {h:Heap} {g:Array GenState} {d:Drawn} {t:Nat} {os:OsState} {e:Addr} {oe:Obj} {Q:Bool->Shared->Prop}
    (hC:h.get? C=some (excClassObj nm q C N bs bm hdct sn sub ab col dd k0 k1 k2 k3 k5 newId)) (hC':h.get? C'=some (excClassObj nm' q' C' N' bs' bm' hdct' sn' sub' ab' col' dd' k0' k1' k2' k3' k5' newId'))
    (he:h.get? e=some oe) (hcls:oe.cls=.ref C) (hbase:bm'.contains (.type "BaseException")=true)
    (hq:Q ((Value.ref C::bm).contains (.ref C')) ⟨h,g,d,t,os⟩):wpAny M A (excMatches (.ref e) (.ref C')) Q E ⟨h,g,d,t,os⟩:=by
  have hcB:(Value.ref C'::bm').contains (.type "BaseException")=true:=by rw [List.contains_cons,hbase,Bool.or_true]
  have f:=tc_notTuple
  unfold excMatches
  repeat (first | (with_reducible refine wpAny_loadPart_at he ?_;rw [hcls]) | with_reducible refine wpAny_loadPart_at hC' ?_ | (with_reducible refine wpAny_isSubtype_exc hC' ?_;rw [hcB]) | (with_reducible refine wpAny_isSubtype_exc hC ?_) | wp_step)
  cases hb:(Value.ref C::bm).contains (.ref C') <;> (rw [hb] at hq;wp_walk;exact hq)
end
def hits (c h:Str):Bool:=c == h || h == "YardError"
structure EX (K:PySem.W.Frag) (mg:Str->Option Value) (ad:Str->Addr) (L HL:List Str):Prop where
  ox:∀ c∈L,OX K mg c (ad c)
  hx:∀ h∈HL,OX K mg h (ad h)
  sub:∀ c∈L,∀ h∈HL,subIn K (ad c) (.ref (ad h))=hits c h
def Jn (X:Cx) (pins:List (Addr×Obj)) (σ:St) (H:Hp) (B:Heap) (s:Shared):Prop:=∀ h' t',B.StaysIn h'->s.heap.UpToSlots h'->Inv X pins σ H { s with heap:=h',toks:=t' }
theorem Jn.on {X:Cx} {pins:List (Addr×Obj)} {σ:St} {H:Hp} {B:Heap} {s:Shared} (j:Jn X pins σ H B s) {h1:Heap} {t1:Nat} (up:s.heap.UpToSlots h1):Jn X pins σ H B { s with heap:=h1,toks:=t1 }:=fun h' t' st up'=>j h' t' st (up.trans up')
theorem caught_inv {X:Cx} {pins:List (Addr×Obj)} {σ:St} {H H':Hp} {s s':Shared} {a:Addr} {cls a0:Value} {B:Heap} (I:Inv X pins σ H s) (f:Fly X.prog X.w X.base X.stack H s H' a cls a0 B s'):Jn X pins σ H' B s':=by
  intro h' t' st up
  have un:Un (frs X.stack) [] H H' s.heap h':={
    keep:=fun b o e n hb _=>st b o (f.cov b o e n hb)
    slot:=fun b o e n hb _=>by
      obtain ⟨sl,e1⟩:=f.slot b o e hb
      obtain ⟨_,o2,e2,nd⟩:=I.stack.mem hb
      rw [e] at e2
      cases e2
      obtain ⟨sl2,e3⟩:=up b _ e1 nd
      exact ⟨sl2,e3⟩
    free:=fun b o e n _=>f.free b o e n
    there:=fun b o e _=>by
      by_cases hb:b∈frs X.stack
      · obtain ⟨sl,e1⟩:=f.slot b o e hb
        obtain ⟨_,o2,e2,nd⟩:=I.stack.mem hb
        rw [e] at e2
        cases e2
        obtain ⟨sl2,e3⟩:=up b _ e1 nd
        exact ⟨_,e3⟩
      · obtain ⟨o',e'⟩:=f.trk b o e hb
        exact ⟨o',st b o' e'⟩
    tups:=f.tups
    frzs:=f.frzs
    tbls:=f.tbls }
  obtain ⟨hh,g,d,t,os⟩:=s'
  obtain rfl:os=s.os:=f.os
  have k:=Inv.call (s:=s) (h':=h') (g':=g) (d':=d) (t':=t') (ch:=[]) I un (f.hok.kept st) f.bare (fun b z=>absurd z (by simp))
  exact k
abbrev Cx.mk' (X:Cx) (e:Addr):Cx:={ X with A:=X.A.mark (some (.ref e)),calm:=false,xe:=fun _ _=>False }
theorem Cx.Ok.mk' {X:Cx} (ok:X.Ok) (e:Addr):(Cx.mk' X e).Ok :=
  ⟨ok.mod,ok.kind,ok.glob,ok.blt,ok.above,ok.inj,ok.has,ok.cab,fun h=>(by cases h),ok.frames,ok.stk,ok.exf,ok.bs,ok.bsz,ok.noex,ok.exfs,ok.funs,ok.frf⟩
section
variable {X:Cx} {pins:List (Addr×Obj)} {σ:St} {H:Hp} {s:Shared} {e:Addr}
theorem Inv.mk' (I:Inv X pins σ H s) (e:Addr):Inv (Cx.mk' X e) pins σ H s:=⟨I.ok.mk' e,I.os,I.bare,I.base,I.loc,I.cell,I.free,I.freeC,I.pin,I.hok,I.len⟩
theorem Inv.unmk (ok:X.Ok) (I:Inv (Cx.mk' X e) pins σ H s):Inv X pins σ H s:=⟨ok,I.os,I.bare,I.base,I.loc,I.cell,I.free,I.freeC,I.pin,I.hok,I.len⟩
theorem SP.unmk {D:Ends} {f:Flow} (ok:X.Ok) (h:SP (Cx.mk' X e) pins D f s):SP X pins D f s:=by
  cases f with
  | next=>obtain ⟨σ',H',I,q⟩:=h;exact ⟨σ',H',I.unmk ok,q⟩
  | brk=>obtain ⟨σ',H',I,q⟩:=h;exact ⟨σ',H',I.unmk ok,q⟩
  | cont=>obtain ⟨σ',H',I,q⟩:=h;exact ⟨σ',H',I.unmk ok,q⟩
  | ret u=>obtain ⟨v,σ',H',I,r,q⟩:=h;exact ⟨v,σ',H',I.unmk ok,r,q⟩
end
def HV (X:Cx) (ad:Str->Addr) (L:List Str) (hs:List ExceptHandler) (Hs:Str->FS):Prop:=∀ (pins:List (Addr×Obj)) (s:Shared) (σ:St) (H:Hp) (D:Ends) (e:Addr) (c:Str) (a0:Value) (B:Heap),c∈L->H e=none ->
  Heap.FlyingW B X.stack e (.ref (ad c)) a0 s.heap->Jn X pins σ H B s->tS X.K (Hs c) D σ H->wpAny (model X.prog X.w) X.A (handleBy (.ref e) X.env hs) (SP X pins D) X.xe s
section
variable {X:Cx} {ad:Str->Addr} {L HL:List Str} {pos hpos:Pos}
theorem hv_nil:HV X ad L [] (fun _ _=>.bad):=fun pins s σ H D e c a0 B hc hn fl j h=>by
  obtain ⟨B,O0,O1,ρ,r,q⟩:=h
  exact q.elim
theorem hv_own {x:Str} {np:Pos} {b₀:Stmt} {suite:List Stmt} {rest:List ExceptHandler} {S:FS} {Hs:Str->FS} (ex:EX X.K X.mg ad L HL) (hS:∀ e,SVs (Cx.mk' X e) (b₀::suite) S) (hr:HV X ad L rest Hs) (hx:x∈HL:=by simp)
    (hg:Gl X x:=by rfl) (hd:(x == ("__debug__":Str))=false:=by decide):HV X ad L (.ExceptHandler (some (.Name x np)) none (b₀::suite) hpos::rest) (fun c ρ=>if hits c x=true then S ρ else Hs c ρ):=by
  intro pins s σ H D e c a0 B hc hn fl j h
  have I:Inv X pins σ H s:=j s.heap s.toks fl.1 (Heap.UpToSlots.refl _)
  have ox:=ex.hx x hx
  refine wpAny_handleBy_cons (codeAny_handlers_test (ld_glob (X:=Cx.mk' X e) (I.mk' e) hg ox.mg ?_ hd)) (by intro q;cases q)
  obtain ⟨bm',N',nm',q',bs',hdct',sn',sub',ab',col',dd',k0',k1',k2',k3',k5',mN',hC',hN',hni',hT',_⟩:=ox.obj I.kIn
  obtain ⟨bm,N,nm,q,bs,hdct,sn,sub,ab,col,dd,k0,k1,k2,k3,k5,mN,hC,hN,hni,hT,hsub⟩:=(ex.ox c hc).obj I.kIn
  obtain ⟨oe,he,hcls⟩:=fl.there
  have hb:=ex.sub c hc x hx
  rw [hsub] at hb
  obtain ⟨hp,g,d,tk,os⟩:=s
  refine excMatches_own hC hC' he hcls (hT'.hasType (by decide)) ?_
  rw [hb]
  cases hh:hits c x with
  | false =>
    have e2:(fun ρ=>if hits c x=true then S ρ else Hs c ρ)=Hs c:=by funext ρ;simp [hh]
    dsimp only at h
    rw [e2] at h
    exact hr pins _ σ H D e c a0 B hc hn fl j h
  | true =>
    have e2:(fun ρ=>if hits c x=true then S ρ else Hs c ρ)=S:=by funext ρ;simp [hh]
    dsimp only at h
    rw [e2] at h
    refine codeAny_handlers_suite (lands_againW fl fun h6 fl6 up6=>?_)
    have I6:Inv X pins σ H ⟨h6,g,d,tk,os⟩:=j h6 tk fl6.1 up6
    exact wpAny_mono (hS e pins _ σ H D (I6.mk' e) h) (fun f s2 q=>q.unmk I6.ok) fun _ _ z=>False.elim z
end
end L2

namespace L2
open PySem PySem.Spec PyProof.Rows
theorem ObjOk.there {P:Program} {w:World} {H:Hp} {h:Heap} {a:Addr} {o:HO} (x:ObjOk P w H h a o):∃ ob,h.get? a=some ob:=by
  cases o with
  | lst xs=>obtain ⟨_,_,_,_,e⟩:=x;exact ⟨_,e⟩
  | tup xs=>obtain ⟨_,_,_,ob,e,_⟩:=x;exact ⟨_,e⟩
  | dK kvs=>obtain ⟨_,_,_,_,o,_,_,e,_⟩:=x;exact ⟨_,e⟩
  | dT kvs=>obtain ⟨_,_,_,_,o,_,_,e,_⟩:=x;exact ⟨_,e⟩
  | set S n=>obtain ⟨o,_,_,_,e,_⟩:=x;exact ⟨_,e⟩
  | ins C dx fs=>obtain ⟨_,_,_,e,_⟩:=x;exact ⟨_,e⟩
  | own y=>obtain ⟨_,e⟩:=x;exact ⟨_,e⟩
  | xd fs=>obtain ⟨_,⟨_,_,_,e,_⟩,_⟩:=x;exact ⟨_,e⟩
  | rng lo hi=>obtain ⟨_,_,_,e⟩:=x;exact ⟨_,e⟩
  | frz ob u=>obtain ⟨e,_⟩:=x;exact ⟨_,e⟩
  | tbl ps=>exact ⟨_,(show h.get? a=some _ from x)⟩
  | met f y=>exact ⟨_,(show h.get? a=some _ from x)⟩
  | ext φ=>obtain ⟨_,⟨_,e⟩,_⟩:=x;exact ⟨_,e⟩
theorem ans_exc {K:PySem.W.Frag} {e C:Addr} (k:PySem.W.kitCls K (.ref C) (.type "ValueError")=some true):Answers (fun s=>K.In s.heap/\∃ oe,s.heap.get? e=some oe/\oe.cls=.ref C) (.ref e) (.type "ValueError") true:=by
  intro dep tk prog w A R s hs
  obtain ⟨h0,g,d,tt,os⟩:=s
  obtain ⟨⟨X,oe,he,hc⟩,hq⟩:=hs
  have LT:PySem.W.Looks (model prog w) h0 (typeOf (.ref e)) (.ref C):=hc ▸ (PySem.W.Looks.ld he).andThen .now
  unfold Builtin.«isinstance.nested»
  refine wpAny_bind (LT.at ?_)
  rw [if_neg (by simp)]
  obtain ⟨hty,his,hsub⟩:=PySem.W.kit_cls (M:=model prog w) X k
  have LI:PySem.W.Looks (model prog w) h0 (isInstance (.ref e) (.type "ValueError")) true:=LT.andThen hsub
  refine wpAny_bind (hty.at ?_)
  rw [if_pos (by decide)]
  k_delta "plainIsInstance"
  refine wpAny_bind (wpAny_bind (his.at ?_))
  simp only [Bool.not_true,Bool.false_eq_true,if_false]
  refine wpAny_bind (LI.at ?_)
  first
    | exact wpAny_pure (wpAny_pure (hq tt))
    | (simp only [if_true];first | exact wpAny_pure (wpAny_pure (hq tt)) | exact wpAny_pure (hq tt) | exact wpAny_bind (wpAny_pure (wpAny_pure (hq tt))))
theorem isinst_exc {K:PySem.W.Frag} {prog:Program} {w:World} {A:Around} {E:Value->Shared->Prop} {s:Shared} {Q:Value->Shared->Prop} {e C:Addr} {oe:Obj} (X:K.In s.heap) (he:s.heap.get? e=some oe) (hc:oe.cls=.ref C) (k:PySem.W.kitCls K (.ref C) (.type "ValueError")=some true) (h:∀ tk,Q (.bool true) { s with toks:=tk }) :
    wpAny (model prog w) A (call (.builtin "isinstance") [.ref e,.type "ValueError"]) Q E s :=
  call_isinstance (S:=fun _ R s=>(K.In s.heap/\∃ oe,s.heap.get? e=some oe/\oe.cls=.ref C)/\∀ tk,R (.ok (.ret (.bool true))) { s with toks:=tk })
    (fun prog w A R s hs=>isinstance_outer (ans_exc k 0 _ prog w A R s hs) (by intro z;cases z)) ⟨⟨X,oe,he,hc⟩,h⟩
abbrev Cx.mkp (X:Cx) (e:Addr) (oe:Obj):Cx:={ X with A:=X.A.mark (some (.ref e)),calm:=false,xe:=fun _ _=>False,pn:=(e,oe)::X.pn }
theorem Cx.Ok.mkp {X:Cx} (ok:X.Ok) (e:Addr) (oe:Obj):(Cx.mkp X e oe).Ok :=
  ⟨ok.mod,ok.kind,ok.glob,ok.blt,ok.above,ok.inj,ok.has,ok.cab,fun h=>(by cases h),ok.frames,ok.stk,ok.exf,ok.bs,ok.bsz,ok.noex,ok.exfs,ok.funs,ok.frf⟩
section
variable {X:Cx} {pins:List (Addr×Obj)} {σ:St} {H:Hp} {s:Shared} {e:Addr} {oe:Obj}
theorem Inv.mkp (I:Inv X pins σ H s) (h1:s.heap.get? e=some oe) (h2:H e=none) (h3:e≠X.env.locals) (h4:e∉X.fs) (h5:∀ v,oe.data≠.cell v):Inv (Cx.mkp X e oe) pins σ H s :=
  ⟨I.ok.mkp e oe,I.os,I.bare,I.base,I.loc,I.cell,I.free,I.freeC,fun p hp=>by
    rcases List.mem_cons.mp (show p∈(e,oe)::(X.pn++pins) from hp) with rfl | hp
    · exact ⟨h1,h2,h3,h4,h5⟩
    · exact I.pin p hp,I.hok,I.len⟩
theorem Inv.unmkp (ok:X.Ok) (I:Inv (Cx.mkp X e oe) pins σ H s):Inv X pins σ H s:=⟨ok,I.os,I.bare,I.base,I.loc,I.cell,I.free,I.freeC,fun p hp=>I.pin p (List.mem_cons_of_mem _ hp),I.hok,I.len⟩
theorem Inv.exc (I:Inv (Cx.mkp X e oe) pins σ H s):s.heap.get? e=some oe:=(I.pin (e,oe) (by simp)).1
theorem call_isexc {C:Addr} (hc:oe.cls=.ref C) (k:PySem.W.kitCls X.K (.ref C) (.type "ValueError")=some true):CallR (Cx.mkp X e oe) (.builtin "isinstance") (fun xs H Q=>xs=[.ref e,.ty "ValueError"]/\Q (.bl true) H):=by
  intro pins s σ H xs us Q I r h
  obtain ⟨rfl,q⟩:=h
  obtain ⟨u,us,rfl,r1,r2⟩:=(show ∃ u us',us=u::us'/\RelV (.ref e) u/\Vals [.ty "ValueError"] us' by cases r with | cons a b=>exact ⟨_,_,rfl,a,b⟩)
  obtain ⟨u2,rfl,r3⟩:=vals1 r2
  cases r1
  cases r3
  exact isinst_exc I.kIn I.exc hc k fun tk=>⟨.bl true,H,I.tok tk,rfl,q⟩
end
end L2
namespace L2
open PySem PySem.Spec PyProof.Rows
section
variable {X:Cx} {pins:List (Addr×Obj)} {σ:St} {H:Hp} {s:Shared}
theorem unbind_ok {M:Model} {A:Around} {E:Value->Shared->Prop} {i:Nat} {n:Str} {pos:Pos} {Q:Unit->Shared->Prop} (I:Inv X pins σ H s) (hN:X.N.Nodup) (hi:X.N[i]?=some n) (hk:X.env.kindOf n=some .local)
    (h:∀ s',Inv X pins (σ.set i none) H s'->Q () s'):wpAny M A (do bindName X.env n .none;unbindBehindTheSuite X.env n pos) Q E s:=by
  obtain ⟨m,hn,hl⟩:=id I.loc
  have hcls:(X.env.scope.kind == .class || (X.env.scope.kind == .module && X.env.locals != X.env.globals))=false:=by rw [I.ok.kind];rfl
  have hiσ:i < σ.length:=by rw [I.len];exact (List.getElem?_eq_some_iff.mp hi).1
  have cne:=I.cne
  refine wpAny_nameGoes_keeps hk hn hcls fun h' v hn' hs=>?_
  obtain ⟨oL,_,_,hoL,_⟩:=id hn
  have tracked:HOk X.prog X.w H h':=fun b ob e=>by
    refine (I.hok b ob e).stay (fun c w' hc q=>(hs.2 c ?_).trans q) (fun _ q=>q) fun _ _ q=>q
    rintro rfl
    rcases hc with rfl | hc
    · rw [I.free] at e;cases e
    · rw [I.free] at hc;cases hc
  refine h _ ⟨I.ok,I.os,I.bare,⟨fun b o e n hb hx=>?_,fun b o e n hb hx=>?_,I.base.free,fun b o e hx=>?_,I.base.tups,I.base.frzs,I.base.tbls⟩,⟨_,hn',fun j y v' e1 e2 e3=>?_⟩,fun y c e=>?_,I.free,I.freeC,fun p hp=>?_,tracked,by simpa using I.len⟩
  · exact (hs.2 b (Nat.ne_of_lt (Nat.lt_of_lt_of_le (Heap.lt_size e) I.ok.above))).trans (I.base.keep b o e n hb hx)
  · obtain ⟨sl,e1⟩:=I.base.slot b o e n hb hx
    exact ⟨sl,(hs.2 b (Nat.ne_of_lt (Nat.lt_of_lt_of_le (Heap.lt_size e) I.ok.above))).trans e1⟩
  · obtain ⟨o',e1⟩:=I.base.there b o e hx
    exact ⟨o',(hs.2 b (Nat.ne_of_lt (Nat.lt_of_lt_of_le (Heap.lt_size e) I.ok.above))).trans e1⟩
  · by_cases hj:j=i
    · subst hj
      rw [List.getElem?_set_self hiσ] at e2
      cases e2
    · rw [List.getElem?_set_ne (Ne.symm hj)] at e2
      obtain ⟨u',r',q⟩:=hl j y v' e1 e2 e3
      refine ⟨u',r',?_⟩
      rcases q with ⟨k,e⟩ | ⟨k,c,e,z⟩
      · refine .inl ⟨k,?_⟩
        have:y≠n:=fun e=>hj (nodup_ix hN e1 (e ▸ hi))
        simp [this,e]
      · exact .inr ⟨k,c,e,z.sameBut hs (cne y c e)⟩
  · obtain ⟨w',z⟩:=I.cell y c e
    exact ⟨w',z.sameBut hs (cne y c e)⟩
  · obtain ⟨e,n,ne,nf,d⟩:=I.pin p hp
    exact ⟨(hs.2 p.1 ne).trans e,n,ne,nf,d⟩
end
end L2

namespace L2
open PySem PySem.Spec PyProof.Rows
theorem RS.forget {K:PySem.W.Frag} {B H:Hp} {O0 O1:List Addr} {ρ:DEnv} {σ:St} (r:RS K B O0 O1 H ρ σ) (i:Nat) (w:Option V):RS K B O0 O1 H (ρ.set i none) (σ.set i w):=by
  have key:∀ {j:Nat} {c:Cl},(ρ.set i none)[j]?=some (some c)->j≠i/\ρ[j]?=some (some c):=fun {j c} h=>by
    by_cases hj:j=i
    · subst hj
      by_cases hl:j < ρ.length
      · rw [List.getElem?_set_self hl] at h;cases h
      · rw [List.getElem?_eq_none (by simpa using Nat.le_of_not_lt hl)] at h;cases h
    · rw [List.getElem?_set_ne (Ne.symm hj)] at h
      exact ⟨hj,h⟩
  refine ⟨by simpa using r.len,r.same,r.thB,r.new,r.th,fun j d h=>?_,fun j d h=>?_,fun j k d e a h1 h2 h3 h4=>?_⟩
  · obtain ⟨hj,h⟩:=key h
    rw [List.getElem?_set_ne (Ne.symm hj)]
    exact r.vals j d h
  · obtain ⟨hj,h⟩:=key h
    rw [List.getElem?_set_ne (Ne.symm hj)]
    exact r.owns j d h
  · obtain ⟨hj,h1⟩:=key h1
    obtain ⟨hk,h2⟩:=key h2
    rw [List.getElem?_set_ne (Ne.symm hj)] at h3
    rw [List.getElem?_set_ne (Ne.symm hk)] at h4
    exact r.apart j k d e a h1 h2 h3 h4
section
variable {X:Cx} {ad:Str->Addr} {L HL:List Str} {pos hpos:Pos}
theorem hv_as {x n:Str} {i:Nat} {np:Pos} {b₀:Stmt} {suite:List Stmt} {rest:List ExceptHandler} {S:FS} {Hs:Str->FS} {T:Addr->TS} (ex:EX X.K X.mg ad L HL) (hN:X.N.Nodup)
    (hS:∀ (c:Str) (e:Addr) (oe:Obj),c∈L->oe.cls=.ref (ad c)->PSs (Cx.mkp X e oe) (b₀::suite) (T e))
    (hT:∀ (e:Addr) (D:Ends) (σ:St) (H:Hp),i < σ.length->tS X.K S D σ H->T e ⟨fun σ' H'=>D.nx (σ'.set i none) H',D.rt,fun σ' H'=>D.bk (σ'.set i none) H',fun σ' H'=>D.ct (σ'.set i none) H'⟩ (σ.set i (some (.ref e))) H)
    (hr:HV X ad L rest Hs) (hx:x∈HL:=by simp) (hi:X.N[i]?=some n:=by rfl) (hk:X.env.kindOf n=some .local:=by rfl)
    (hg:Gl X x:=by rfl) (hd:(x == ("__debug__":Str))=false:=by decide) :
    HV X ad L (.ExceptHandler (some (.Name x np)) (some n) (b₀::suite) hpos::rest) (fun c ρ=>if hits c x=true then S ρ else Hs c ρ):=by
  intro pins s σ H D e c a0 B hc hn fl j h
  have I:Inv X pins σ H s:=j s.heap s.toks fl.1 (Heap.UpToSlots.refl _)
  have ox:=ex.hx x hx
  refine wpAny_handleBy_cons (codeAny_handlers_test (ld_glob (X:=Cx.mk' X e) (I.mk' e) hg ox.mg ?_ hd)) (by intro q;cases q)
  obtain ⟨bm',N',nm',q',bs',hdct',sn',sub',ab',col',dd',k0',k1',k2',k3',k5',mN',hC',hN',hni',hT',_⟩:=ox.obj I.kIn
  obtain ⟨bm,N,nm,q,bs,hdct,sn,sub,ab,col,dd,k0,k1,k2,k3,k5,mN,hC,hNN,hni,hTT,hsub⟩:=(ex.ox c hc).obj I.kIn
  obtain ⟨oe,he,hcls⟩:=fl.there
  have hb:=ex.sub c hc x hx
  rw [hsub] at hb
  obtain ⟨hp,g,d,tk,os⟩:=s
  refine excMatches_own hC hC' he hcls (hT'.hasType (by decide)) ?_
  rw [hb]
  cases hh:hits c x with
  | false =>
    have e2:(fun ρ=>if hits c x=true then S ρ else Hs c ρ)=Hs c:=by funext ρ;simp [hh]
    dsimp only at h
    rw [e2] at h
    exact hr pins _ σ H D e c a0 B hc hn fl j h
  | true =>
    have e2:(fun ρ=>if hits c x=true then S ρ else Hs c ρ)=S:=by funext ρ;simp [hh]
    dsimp only at h
    rw [e2] at h
    refine codeAny_handlers_suite_as (lands_againW fl fun h6 fl6 up6=>?_)
    have I6:Inv X pins σ H ⟨h6,g,d,tk,os⟩:=j h6 tk fl6.1 up6
    obtain ⟨_,_,ff,oe6,vs6,T6,oT6,ts6,he6,⟨hc6,_⟩,hd6,_⟩:=id fl6
    have hnf:e∉frs X.stack:=fun hb=>by
      obtain ⟨_,o2,e3,nd⟩:=ff.mem hb
      rw [he6] at e3
      cases e3
      exact nd _ hd6
    have stk:=I6.ok.stk
    have hnl:e≠X.env.locals:=fun z=>by
      obtain ⟨m,⟨o,es,ep,ho,hod,_⟩,_⟩:=I6.loc
      rw [<- z,he6] at ho
      cases ho
      rw [hd6] at hod
      cases hod
    have hnfs:e∉X.fs:=fun hb=>hnf (by
      rcases stk with z | ⟨z,_⟩
      · rw [z];exact hb
      · rw [z]
        obtain ⟨env,h1,h2⟩:=List.mem_filterMap.mp hb
        exact mem_frs (List.mem_cons_of_mem _ h1) h2)
    have J:Inv (Cx.mkp X e oe6) pins σ H ⟨h6,g,d,tk,os⟩:=I6.mkp he6 hn hnl hnfs (fun v z=>by rw [hd6] at z;cases z)
    have hil:i < σ.length:=by rw [I6.len];exact (List.getElem?_eq_some_iff.mp hi).1
    refine store_ok (X:=Cx.mkp X e oe6) (v:=.ref e) J hN hi (.inl hk) rfl (fun s7 J7=>?_) (.inr hk)
    refine wpAny_mono (hS c e oe6 hc hc6 pins s7 _ H _ J7 (hT e D σ H hil h)) (fun f s8 q8=>?_) fun _ _ z=>False.elim z
    have ok:=I6.ok
    cases f with
    | next=>obtain ⟨σ',H',K1,q⟩:=q8;exact unbind_ok (K1.unmkp ok) hN hi hk fun s9 K2=>⟨_,H',K2,q⟩
    | brk=>obtain ⟨σ',H',K1,q⟩:=q8;exact unbind_ok (K1.unmkp ok) hN hi hk fun s9 K2=>⟨_,H',K2,q⟩
    | cont=>obtain ⟨σ',H',K1,q⟩:=q8;exact unbind_ok (K1.unmkp ok) hN hi hk fun s9 K2=>⟨_,H',K2,q⟩
    | ret u=>obtain ⟨v,σ',H',K1,r,q⟩:=q8;exact unbind_ok (K1.unmkp ok) hN hi hk fun s9 K2=>⟨v,_,H',K2,r,q⟩
theorem pe_isexc {i:Nat} {n:Str} {e:Addr} {oe:Obj} {C:Addr} {p1 p2 p3 p4:Pos} (hc:oe.cls=.ref C) (k:PySem.W.kitCls X.K (.ref C) (.type "ValueError")=some true) (m1:X.mg "isinstance"=none) (m2:X.mg "ValueError"=none)
    (hi:X.N[i]?=some n) (hv:Vis X.env.scope n) (hd:(n == ("__debug__":Str))=false) (hcd:(n == ("__classdict__":Str))=false) (g1:Gl X "isinstance") (g2:Gl X "ValueError")
    (h1:starEach [Expr.Name n p2,Expr.Name "ValueError" p3] X.env=(false,eval (.Name n p2) X.env)::starEach [.Name "ValueError" p3] X.env) (h2:starEach [Expr.Name "ValueError" p3] X.env=(false,eval (.Name "ValueError" p3) X.env)::starEach [] X.env)
    (hpl:(backTo p4 (starEach [Expr.Name "ValueError" p3] X.env)).any (·.1)=false) :
    PE (Cx.mkp X e oe) (.Call (.Name "isinstance" p1) [.Name n p2,.Name "ValueError" p3] [] p4) (fun σ H Q=>σ[i]?=some (some (.ref e))/\Q (.bl true) H) :=
  PE.imp (pe_callB (X:=Cx.mkp X e oe) (call_isexc hc k) g1 m1 boot_isinstance (pa_cons (pe_var hi hv hd hcd) (pa_cons (pe_bltn (v:=.ty "ValueError") g2 m2 PyProof.Rows.Boot.«ValueError» rfl) pa_nil h2) h1) (by decide) (by decide) h1 hpl) fun σ H Q h=>by
    obtain ⟨h1,q⟩:=h
    exact ⟨.ref e,h1,rfl,q⟩
end
end L2

namespace L2
open PySem PySem.Spec PyProof.Rows
section
variable {X:Cx} {ad:Str->Addr} {L HL:List Str} {pos hpos:Pos}
def VE (K:PySem.W.Frag) (ad:Str->Addr) (L:List Str):Prop:=∀ c∈L,PySem.W.kitCls K (.ref (ad c)) (.type "ValueError")=some true
def sInc (i j:Nat):FS:=fun ρ=>match ρ[j]? with | some (some (.val (.int k)))=>.nx ((ρ.set i none).set j (some (.val (.int (k+1))))) | _=>.bad
theorem hv_asI {x n y:Str} {i j:Nat} {np p1 p2 p3 p4 p5 p6 p7 p8 p9 p10:Pos} {rest:List ExceptHandler} {Hs:Str->FS} (ex:EX X.K X.mg ad L HL) (ve:VE X.K ad L) (hN:X.N.Nodup) (m1:X.mg "isinstance"=none) (m2:X.mg "ValueError"=none) (m3:X.mg "int"=none)
    (hr:HV X ad L rest Hs) (hij:i≠j:=by decide) (hx:x∈HL:=by simp) (hi:X.N[i]?=some n:=by rfl) (hj:X.N[j]?=some y:=by rfl) (hk:X.env.kindOf n=some .local:=by rfl) (hky:X.env.kindOf y=some .local:=by rfl)
    (hg:Gl X x:=by rfl) (hd:(x == ("__debug__":Str))=false:=by decide) (hdn:(n == ("__debug__":Str))=false:=by decide) (hcd:(n == ("__classdict__":Str))=false:=by decide)
    (hdy:(y == ("__debug__":Str))=false:=by decide) (hcy:(y == ("__classdict__":Str))=false:=by decide) (g1:Gl X "isinstance":=by rfl) (g2:Gl X "ValueError":=by rfl) (g3:Gl X "int":=by rfl)
    (h1:starEach [Expr.Name n p2,Expr.Name "ValueError" p3] X.env=(false,eval (.Name n p2) X.env)::starEach [.Name "ValueError" p3] X.env:=by rfl) (h2:starEach [Expr.Name "ValueError" p3] X.env=(false,eval (.Name "ValueError" p3) X.env)::starEach [] X.env:=by rfl)
    (hpl:(backTo p4 (starEach [Expr.Name "ValueError" p3] X.env)).any (·.1)=false:=by rfl)
    (h3:starEach [Expr.Call (.Name "isinstance" p1) [.Name n p2,.Name "ValueError" p3] [] p4] X.env=(false,eval (.Call (.Name "isinstance" p1) [.Name n p2,.Name "ValueError" p3] [] p4) X.env)::starEach [] X.env:=by rfl)
    (hs:swapsWith (Expr.BinOp (.Name y p7) .Add (.Call (.Name "int" p5) [.Call (.Name "isinstance" p1) [.Name n p2,.Name "ValueError" p3] [] p4] [] p6) p8) (some (.Name y p9)) p10.line X.env=pure false:=by rfl) :
    HV X ad L (.ExceptHandler (some (.Name x np)) (some n) [.Assign [.Name y p9] (.BinOp (.Name y p7) .Add (.Call (.Name "int" p5) [.Call (.Name "isinstance" p1) [.Name n p2,.Name "ValueError" p3] [] p4] [] p6) p8) p10] hpos::rest) (fun c ρ=>if hits c x=true then sInc i j ρ else Hs c ρ) :=
  hv_as (i:=i) (S:=sInc i j) (T:=fun e D σ H=>σ[i]?=some (some (.ref e))/\∃ k:Int,σ[j]?=some (some (.int k))/\D.nx (σ.set j (some (.int (k+1)))) H) ex hN
    (fun c e oe hc hcl=>PSs.imp (pss_one (ps_set (X:=Cx.mkp X e oe) hN hj (.inl hky) (pe_op op_add (pe_var hj (.inl hky) hdy hcy) (pe_callTy (X:=Cx.mkp X e oe) call_int1 g3 m3 bb_int (pa_cons (pe_isexc hcl (ve c hc) m1 m2 hi (.inl hk) hdn hcd g1 g2 h1 h2 hpl) pa_nil h3) (by decide) (by decide) h3 rfl)) hs (.inr hky))) fun D σ H h=>by
      obtain ⟨a1,k,a2,q⟩:=h
      refine ⟨.int k,a2,a1,.inr ⟨true,rfl,?_⟩⟩
      exact ⟨k,1,rfl,rfl,q⟩)
    (fun e D σ H hl h=>by
      obtain ⟨B,O0,O1,ρ,r,q⟩:=h
      refine ⟨List.getElem?_set_self hl,?_⟩
      unfold sInc at q
      split at q
      · rename_i k hk
        obtain ⟨v,hv,rv⟩:=r.vals j _ hk
        have:v=.int k:=rv
        subst this
        refine ⟨k,by rw [List.getElem?_set_ne hij];exact hv,?_⟩
        show D.nx _ H
        have e1:((σ.set i (some (.ref e))).set j (some (.int (k+1)))).set i none=(σ.set i none).set j (some (.int (k+1))):=by
          rw [List.set_comm _ _ hij,List.set_set,List.set_comm _ _ hij.symm]
        rw [e1]
        exact q _ H O1 ((r.forget i none).set rfl)
      · exact q.elim) hr hx hi hk hg hd
def sTry (L:List Str) (F:FXE) (Hs:Str->FS):FS:=fun ρ=>match F (allV ρ) with | some c=>if c∈L then Hs c ρ else .bad | none=>.bad
theorem sv_try {k m:Nat} {y:Str} {f:Addr} {fd:FuncData} {ps:List Str} {G:List D->Option Str} {p cp ep:Pos} {e:Expr} {es:List Expr} {fa:FA} {h₀:ExceptHandler} {hs:List ExceptHandler} {Hs:Str->FS}
    (o:DefX X.prog X.w X.K X.mg X.base ad y k ps G f fd) (hr:Room m X.A) (ha:∀ E,AV (X.wish E) (e::es) fa) (hh:HV X ad L (h₀::hs) Hs) (hle:k<=m:=by decide)
    (hg:Gl X y:=by rfl) (hdb:(y == ("__debug__":Str))=false:=by decide) (he:starEach (e::es) X.env=(false,eval e X.env)::starEach es X.env:=by rfl) (hpl:(backTo cp (starEach es X.env)).any (·.1)=false:=by rfl)
    (hsw:swapsWith (Expr.Call (.Name y p) (e::es) [] cp) none ep.line X.env=pure false:=by rfl) (hst:X.stack=X.env::X.outer:=by rfl) (hfr:X.env.frame=some X.env.locals:=by rfl) :
    SV X (.Try [.Expr (.Call (.Name y p) (e::es) [] cp) ep] (h₀::hs) [] [] pos) (sTry L (xL G fa) Hs):=by
  intro pins s σ H D I h
  obtain ⟨B0,O0,O1,ρ,r,q⟩:=h
  unfold sTry at q
  cases eF:xL G fa (allV ρ) with
  | none=>rw [eF] at q;exact q.elim
  | some c =>
  rw [eF] at q
  dsimp only at q
  by_cases hc:c∈L
  case neg=>rw [if_neg hc] at q;exact q.elim
  rw [if_pos hc] at q
  obtain ⟨ds,e2,e3⟩:=bind_some eF
  refine wpAny_Try_except (wpAny_execs_cons (wpAny_Expr_any (wpAny_Call_Name_kw (ld_glob I hg o.mg ?_ hdb)) I.quiet hsw))
  have J:Inv (X.wish fun e s₁=>wpAny (model X.prog X.w) X.A (noteFrame e X.env) (fun _ s₂=>wpAny (model X.prog X.w) X.A (setFlight e none) (fun _ s₃=>wpAny (model X.prog X.w) X.A (handleBy e X.env (h₀::hs)) (SP X pins D) X.xe s₃) X.xe s₂) X.xe s₁) pins σ H s:=I.wish _
  refine PySem.W.callWith_K (h₀:=X.base) I.ok.mod.kin o.kp (thn (ha _ cp pins s σ H (fun vs H1=>There O0 H1/\Reps X.K (mask O0 H1) ds vs/\Same H H1) J ⟨O0,allV ρ,ds,r.all,e2,fun vs H1 s1 r1=>⟨r.all.th.mono s1,r1,s1⟩⟩) fun us s1 hq=>?_) he hpl
  obtain ⟨vs,H1,J1,rv,th1,rp1,sm1⟩:=hq
  have I1:Inv X pins σ H1 s1:=J1.unwish
  refine ⟨I1.kIn,?_⟩
  have hl:us.length=ps.length:=by
    rw [<- rv.length]
    exact o.ok.len vs H1 (fun _ _=>False) (fun _ _ _=>True) ⟨O0,ds,c,th1,rp1,e3,fun _ _=>trivial⟩
  refine wpAny_call (codeAny_mono (o.ok.run X.A X.stack s1 H1 ⟨us,[]⟩ us vs (fun _ _=>False) (fun cls _ H'=>cls=.ref (ad c)/\Same H1 H') (hr.mono hle) I1.env0 (by have:=o.bi s1 us I1.kIn (by rw [List.append_nil];exact hl);rwa [List.append_nil] at this) rv ⟨O0,ds,c,th1,rp1,e3,fun H' s'=>⟨rfl,s'⟩⟩) fun rr s2 hq2=>?_)
  cases rr with
  | ok fl =>
    cases fl with
    | ret u=>obtain ⟨_,_,_,_,_,_,_,z⟩:=hq2;exact z.elim
    | next=>exact False.elim hq2
    | brk=>exact False.elim hq2
    | cont=>exact False.elim hq2
  | error ex =>
    obtain ⟨a,cls,a0,B,H',rfl,fly,rfl,sm2⟩:=hq2
    have jn:=caught_inv I1 fly
    have hn:H' a=none:=by
      cases hz:H' a with
      | none=>rfl
      | some u =>
        obtain ⟨ob,hob⟩:=(fly.hok a u hz).there
        rw [fly.fl.2.1] at hob
        cases hob
    have sm:Same H H':=Same.trans sm1 sm2
    have fl:=fly.fl
    rw [hst] at fl
    refine wpAny_looks_onW (L:=X.env.locals) (by rw [I1.ok.frames,hst]) hfr fl fun h4 held up4=>wpAny_landsW held fun h5 fl5 up5=>?_
    rw [<- hst] at fl5
    exact hh pins { s2 with heap:=h5 } σ H' D a c a0 B hc hn fl5 (jn.on (t1:=s2.toks) (up4.trans up5)) ⟨B0,O0,O1,ρ,r.mono sm,q⟩
end
end L2

namespace L2
open PySem PySem.Spec PyProof.Rows
section
variable {prog:Program} {w:World} {A:Around} {E:Value->Shared->Prop} {s:Shared}
abbrev TK (prog:Program) (w:World) (h:Heap) (ks:List Int) (a:Addr):Prop:=IsTupleKey (intKind prog w) h ks a
def hAt (es:Array (Int×Value)) (i:Nat):Int:=(es[i]?.map (·.1)).getD 0
theorem items_int {ks:List Int} {vs:List Value} (h:PySem.ItemsAre (intKind prog w) ks vs):∀ v∈vs,∃ n t,v=Value.int n t:=by
  induction h with
  | nil=>intro v hv;cases hv
  | cons h1 _ ih =>
    intro v hv
    rcases List.mem_cons.mp hv with rfl | hv
    · cases v with
      | int n t=>exact ⟨n,t,rfl⟩
      | _=>exact absurd h1 (by intro z;cases z)
    · exact ih v hv
theorem wp_hashByValue {ks:List Int} {c:Addr} {Q:Bool->Shared->Prop} (hk:TK prog w s.heap ks c) (h:∀ b,Q b s):wpAny (model prog w) A (hashByValue 8 (.ref c)) Q E s:=by
  have hT:=hk.typeIs
  obtain ⟨o,items,n,ho,_,hd,hi⟩:=hk
  unfold hashByValue
  refine wpAny_bind (wpAny_specialOf hT F.slot_tuple_hash.lookup ?_)
  show wpAny _ _ (seqItems? (.ref c) >>= _) _ _ s
  refine wpAny_bind (wpAny_seqItems ho hd ?_)
  refine wpAny_bind ?_
  show wpAny _ _ (forIn items _ _) _ _ s
  rw [<- Array.forIn_toList]
  refine wpAny_forIn_list _ (fun rest r s'=>s'=s/\∀ v∈rest,∃ n t,v=Value.int n t) _ ?_ ?_ _ _ ⟨rfl,items_int hi⟩
  · rintro v rest r s' ⟨rfl,hall⟩
    obtain ⟨n,t,rfl⟩:=hall v List.mem_cons_self
    rw [show hashByValue 7 (Value.int n t)=pure true from rfl]
    refine wpAny_bind (wpAny_pure ?_)
    simp only [Bool.not_true,Bool.false_eq_true,if_false]
    exact wpAny_pure ⟨rfl,fun u hu=>hall u (List.mem_cons_of_mem _ hu)⟩
  · rintro ⟨r1,r2⟩ s' ⟨rfl,_⟩
    cases r1 with
    | none=>exact wpAny_pure (h _)
    | some r=>exact wpAny_pure (h _)
theorem wp_search_new {a:Addr} {x:Value} {h:Int} {o:Obj} {es:Array (Int×Value)} {ep:Nat} {t:SetTable} {j:Nat} {Q:SetFound->Shared->Prop} (ho:s.heap.get? a=some o) (hd:o.data=.set es ep t) (hf:t.fits es.size=true) (hg:t.gaveWay=false)
    (hp:t.probe (hAt es) h (t.probeStart h)=some (.empty j none)) (hQ:Q (.free j false) s):wpAny (model prog w) A (setSearch a x h true) Q E s:=by
  unfold setSearch
  rw [show (100000:Nat)=99999+1 from rfl]
  unfold setSearchFrom
  refine wpAny_bind (wpAny_setState_of ho hd hf ?_)
  dsimp only
  rw [hg]
  simp only [Bool.false_eq_true,↓reduceIte]
  generalize hm:SetTable.probe t _ h _=met
  have e:met=some (.empty j none):=by rw [<- hm];exact hp
  rw [e]
  exact wpAny_pure hQ
theorem wp_class {ks:List Int} {c:Addr} {Q:Bool->Shared->Prop} (hk:TK prog w s.heap ks c) (h:Q false s):wpAny (model prog w) A (ofAClassStatement 8 (.ref c)) Q E s:=by
  have hT:=hk.typeIs
  obtain ⟨o,items,n,ho,_,hd,hi⟩:=hk
  unfold ofAClassStatement
  refine wpAny_bind (wpAny_typeOf hT ?_)
  dsimp only
  rw [if_pos (by decide)]
  refine wpAny_bind (wpAny_pure ?_)
  simp only [Bool.not_true,Bool.false_eq_true,if_false]
  refine wpAny_bind (wpAny_seqItems ho hd ?_)
  dsimp only
  refine wpAny_bind ?_
  rw [<- Array.forIn_toList]
  refine wpAny_forIn_list _ (fun rest r s'=>r.1=none/\s'=s/\∀ v∈rest,∃ n t,v=Value.int n t) _ ?_ ?_ _ _ ⟨rfl,rfl,items_int hi⟩
  · rintro v rest r s' ⟨_,rfl,hall⟩
    obtain ⟨n,t,rfl⟩:=hall v List.mem_cons_self
    rw [show ofAClassStatement 7 (Value.int n t)=pure false from rfl]
    refine wpAny_bind (wpAny_pure ?_)
    simp only [Bool.false_eq_true,if_false]
    exact wpAny_pure ⟨rfl,rfl,fun u hu=>hall u (List.mem_cons_of_mem _ hu)⟩
  · rintro ⟨r1,r2⟩ s' ⟨hr,rfl,_⟩
    simp only at hr
    subst hr
    exact wpAny_pure h
theorem wp_unseen {c:Addr} {kc:List Int} (hc:TK prog w s.heap kc c) {ys:List Value} (hy:∀ y∈ys,∃ b ks,y=.ref b/\TK prog w s.heap ks b) {Q:Bool->Shared->Prop} (h:Q false s):wpAny (model prog w) A (searchCouldBeSeen (.ref c) ys) Q E s:=by
  unfold searchCouldBeSeen
  refine wpAny_bind ?_
  refine wpAny_forIn_list _ (fun rest r s'=>r.1=none/\s'=s/\∀ y∈rest,∃ b ks,y=.ref b/\TK prog w s.heap ks b) _ ?_ ?_ _ _ ⟨rfl,rfl,hy⟩
  · rintro y rest r s' ⟨_,rfl,hall⟩
    obtain ⟨b,ks,rfl,kb⟩:=hall y List.mem_cons_self
    have rs:∀ y∈rest,∃ b ks,y=.ref b/\TK prog w s'.heap ks b:=fun u hu=>hall u (List.mem_cons_of_mem _ hu)
    dsimp only
    split
    · exact wpAny_pure ⟨rfl,rfl,rs⟩
    · refine wpAny_bind (wpAny_eqIsQuiet_tuple hc ?_)
      simp only [Bool.not_true,Bool.false_eq_true,if_false]
      refine wpAny_bind (wpAny_eqIsQuiet_tuple kb ?_)
      simp only [Bool.not_true,Bool.false_eq_true,if_false]
      refine wpAny_bind (wp_class hc ?_)
      simp only [Bool.false_eq_true,if_false]
      refine wpAny_bind (wp_class kb ?_)
      simp only [Bool.false_eq_true,if_false]
      exact wpAny_pure ⟨rfl,rfl,rs⟩
  · rintro ⟨r1,r2⟩ s' ⟨hr,rfl,_⟩
    simp only at hr
    subst hr
    exact wpAny_pure h
theorem wp_search_old {a c b:Addr} {h:Int} {ks:List Int} {o:Obj} {es:Array (Int×Value)} {ep:Nat} {t:SetTable} {j i:Nat} {nx:SetTable.Probe} {Q:SetFound->Shared->Prop} (hu:A.units < cLine) (ho:s.heap.get? a=some o) (hd:o.data=.set es ep t) (hf:t.fits es.size=true) (hg:t.gaveWay=false)
    (hp:t.probe (hAt es) h (t.probeStart h)=some (.candidate j i nx)) (hi:es[i]?=some (h,.ref b)) (kb:TK prog w s.heap ks b) (kc:TK prog w s.heap ks c) (hall:∀ e∈es.toList,∃ b ks,e.2=.ref b/\TK prog w s.heap ks b)
    (hQ:Q (.there none) s):wpAny (model prog w) A (setSearch a (.ref c) h true) Q E s:=by
  unfold setSearch
  rw [show (100000:Nat)=99999+1 from rfl]
  unfold setSearchFrom
  refine wpAny_bind (wpAny_setState_of ho hd hf ?_)
  dsimp only
  rw [hg]
  simp only [Bool.false_eq_true,↓reduceIte]
  generalize hm:SetTable.probe t _ h _=met
  have e:met=some (.candidate j i nx):=by rw [<- hm];exact hp
  rw [e]
  dsimp only
  have unl:∀ {Q:Bool->Shared->Prop},Q false s->wpAny (model prog w) A (searchCouldBeSeen (.ref c) ((es.filter (·.1 == h)).toList.map (·.2))) Q E s:=fun hq=>wp_unseen kc (fun y hy=>by
    obtain ⟨e,he,rfl⟩:=List.mem_map.mp hy
    refine hall e ?_
    rw [Array.toList_filter] at he
    exact (List.mem_filter.mp he).1) hq
  split
  · refine wpAny_bind (unl ?_)
    simp only [Bool.false_eq_true,if_false]
    rw [hi]
    dsimp only
    refine wpAny_bind (wpAny_holding (wpAny_eqBool_tuple hu kb kc ?_))
    refine wpAny_bind (wpAny_setState_of ho hd hf ?_)
    rw [decide_eq_true rfl]
    simp only [Bool.and_self,if_true]
    exact wpAny_pure hQ
  · rw [hi]
    dsimp only
    refine wpAny_bind (wpAny_holding (wpAny_eqBool_tuple hu kb kc ?_))
    refine wpAny_bind (wpAny_setState_of ho hd hf ?_)
    rw [decide_eq_true rfl]
    simp only [Bool.and_self,if_true]
    exact wpAny_pure hQ
theorem wp_add_old {a c b:Addr} {ks:List Int} {o:Obj} {es:Array (Int×Value)} {ep:Nat} {t:SetTable} {j i:Nat} {nx:SetTable.Probe} {Q:Bool->Shared->Prop} (hu:A.units < cLine) (ho:s.heap.get? a=some o) (hd:o.data=.set es ep t) (hf:t.fits es.size=true) (hg:t.gaveWay=false)
    (hp:t.probe (hAt es) (tupleKeyHash (intKind prog w) ks) (t.probeStart (tupleKeyHash (intKind prog w) ks))=some (.candidate j i nx)) (hi:es[i]?=some (tupleKeyHash (intKind prog w) ks,.ref b)) (kb:TK prog w s.heap ks b) (kc:TK prog w s.heap ks c)
    (hall:∀ e∈es.toList,∃ b ks,e.2=.ref b/\TK prog w s.heap ks b) (hQ:Q false { s with toks:=s.toks+(ks.length+1) }):wpAny (model prog w) A (setAdd a (.ref c)) Q E s:=by
  unfold setAdd
  refine wpAny_holding (wpAny_bind (wpAny_pyHash_tuple hu kc ?_))
  unfold setAddHashed
  refine wpAny_holding ?_
  rw [show (100000:Nat)=99999+1 from rfl]
  unfold setAddHashedIn
  refine wpAny_bind (wpAny_setState_of (s:={ s with toks:=s.toks+(ks.length+1) }) ho hd hf ?_)
  dsimp only
  rw [show byScan (.ref c) es=false from rfl]
  simp only [Bool.false_eq_true,↓reduceIte]
  refine wpAny_bind (wp_search_old (s:={ s with toks:=s.toks+(ks.length+1) }) hu ho hd hf hg hp hi kb kc hall ?_)
  exact wpAny_pure hQ
theorem wp_add_new {a c:Addr} {ks:List Int} {o:Obj} {es:Array (Int×Value)} {ep:Nat} {t:SetTable} {j:Nat} {Q:Bool->Shared->Prop} (hu:A.units < cLine) (ho:s.heap.get? a=some o) (hd:o.data=.set es ep t) (hf:t.fits es.size=true) (hg:t.gaveWay=false) (hb:es.size < 1000)
    (hp:t.probe (hAt es) (tupleKeyHash (intKind prog w) ks) (t.probeStart (tupleKeyHash (intKind prog w) ks))=some (.empty j none)) (kc:TK prog w s.heap ks c) (hfull:(t.put j).1.tooFull=false)
    (hQ:∀ pl:Bool,Q true { s with heap:=s.heap.update a (Obj.putSet (SetTable.insertAt es (t.put j).2 (tupleKeyHash (intKind prog w) ks,.ref c)) { (t.put j).1 with plain:=pl }),toks:=s.toks+(ks.length+1) }):wpAny (model prog w) A (setAdd a (.ref c)) Q E s:=by
  unfold setAdd
  refine wpAny_holding (wpAny_bind (wpAny_pyHash_tuple hu kc ?_))
  unfold setAddHashed
  refine wpAny_holding ?_
  rw [show (100000:Nat)=99999+1 from rfl]
  unfold setAddHashedIn
  refine wpAny_bind (wpAny_setState_of (s:={ s with toks:=s.toks+(ks.length+1) }) ho hd hf ?_)
  dsimp only
  rw [show byScan (.ref c) es=false from rfl]
  simp only [Bool.false_eq_true,↓reduceIte]
  refine wpAny_bind (wp_search_new (s:={ s with toks:=s.toks+(ks.length+1) }) ho hd hf hg hp ?_)
  dsimp only
  refine wpAny_bind (wpAny_setState_of (s:={ s with toks:=s.toks+(ks.length+1) }) ho hd hf ?_)
  dsimp only
  have fin:∀ pl:Bool,wpAny (model prog w) A (do
      storeSet a (SetTable.insertAt es (t.put j).2 (tupleKeyHash (intKind prog w) ks,.ref c)) { (t.put j).1 with plain:=pl }
      if (!false && ({ (t.put j).1 with plain:=pl }:SetTable).tooFull)=true then do
        setRelay a (SetTable.grown (es.size+1))
        pure true
      else pure true) Q E { s with toks:=s.toks+(ks.length+1) }:=fun pl=>by
    refine wpAny_bind (wpAny_storeSet_of (s:={ s with toks:=s.toks+(ks.length+1) }) ho hd ?_ ?_)
    · rw [show ({ (t.put j).1 with plain:=pl }:SetTable).tooFull=(t.put j).1.tooFull from rfl,hfull]
      simp only [Bool.and_false,Bool.false_eq_true,if_false]
      exact wpAny_pure (hQ pl)
    · have:(SetTable.insertAt es (t.put j).2 (tupleKeyHash (intKind prog w) ks,Value.ref c)).size<=2 * es.size+1:=by
        unfold SetTable.insertAt
        simp only [Array.size_append,Array.size_push,Array.size_extract]
        omega
      rw [show sizeLine=16777216 from sizeLine_eq];omega
  split
  · refine wpAny_bind (wp_hashByValue (s:={ s with toks:=s.toks+(ks.length+1) }) kc fun b=>?_)
    rename_i hpl
    cases b with
    | true =>
      have:=fin true
      rw [show ({ (t.put j).1 with plain:=true }:SetTable)=(t.put j).1 by
        generalize (t.put j).1=u at hpl
        cases u;cases hpl;rfl] at this
      exact this
    | false=>exact fin false
  · refine wpAny_bind (wpAny_pure ?_)
    rename_i hpl
    have:=fin false
    rw [show ({ (t.put j).1 with plain:=false }:SetTable)=(t.put j).1 by
      generalize (t.put j).1=u at hpl
      cases u;simp only [Bool.not_eq_true] at hpl;cases hpl;rfl] at this
    exact this
end
end L2

namespace L2
open PySem PySem.Spec PyProof.Rows
def hk9 (k:List Int):Int:=reduceHash (Builtin.Tuple.tupleHashOf (k.map hashInt))
def t09 (pl:Array Nat):SetTable:={ mask:=7,place:=pl,dummies:=#[],finger:=0,led:=true,moves:=0,plain:=true }
def hS9 (σ:List (List Int)) (i:Nat):Int:=(σ[i]?.map hk9).getD 0
def stS (st:List (List Int)×Array Nat) (k:List Int):Option (List (List Int)×Array Nat) :=
  match (t09 st.2).probe (hS9 st.1) (hk9 k) ((t09 st.2).probeStart (hk9 k)) with
  | some (.candidate _ i _)=>if st.1[i]?=some k then some st else none
  | some (.empty j none) =>
    if ((t09 st.2).put j).1.tooFull=false/\((t09 st.2).put j).1.fits (st.1.length+1)=true/\((t09 st.2).put j).2<=st.1.length then some (st.1.take ((t09 st.2).put j).2++[k]++st.1.drop ((t09 st.2).put j).2,((t09 st.2).put j).1.place) else none
  | _=>none
def runS:List (List Int)->List (List Int)×Array Nat->Option (List (List Int)×Array Nat)
  | [],st=>some st
  | k::ks,st=>(stS st k).bind (runS ks)
theorem tkz {α β:Type} (a:List α) (b:List β) (n:Nat):(a.zip b).take n=(a.take n).zip (b.take n):=by
  rw [List.zip_eq_zipWith,List.take_zipWith,<- List.zip_eq_zipWith]
theorem dpz {α β:Type} (a:List α) (b:List β) (n:Nat):(a.zip b).drop n=(a.drop n).zip (b.drop n):=by
  rw [List.zip_eq_zipWith,List.drop_zipWith,<- List.zip_eq_zipWith]
theorem ins_list {α:Type} (xs:Array α) (p:Nat) (x:α):(SetTable.insertAt xs p x).toList=xs.toList.take p++[x]++xs.toList.drop p:=by
  obtain ⟨l⟩:=xs
  unfold SetTable.insertAt
  rw [Array.toList_append,Array.toList_push,Array.toList_extract,Array.toList_extract]
  simp only [List.extract_eq_take_drop,List.drop_zero,Nat.sub_zero,List.size_toArray]
  rw [List.take_of_length_le (l:=l.drop p) (by simp)]
section
variable {prog:Program} {w:World}
theorem hk9_eq (k:List Int):tupleKeyHash (intKind prog w) k=hk9 k:=rfl
structure TE9 (t u:SetTable):Prop where
  m:t.mask=u.mask
  p:t.place=u.place
  d:t.dummies=u.dummies
theorem TE9.slot {t u:SetTable} (e:TE9 t u) (j:Nat):t.slot j=u.slot j:=by unfold SetTable.slot;rw [e.p,e.d]
theorem TE9.adv {t u:SetTable} (e:TE9 t u) (p:SetTable.Probe):t.advance p=u.advance p:=by unfold SetTable.advance;rw [e.m]
theorem TE9.start {t u:SetTable} (e:TE9 t u) (h:Int):t.probeStart h=u.probeStart h:=by unfold SetTable.probeStart;rw [e.m]
theorem TE9.go {t u:SetTable} (e:TE9 t u) (f:Nat->Int) (h:Int):∀ (n:Nat) (p:SetTable.Probe),SetTable.probe.go t f h n p=SetTable.probe.go u f h n p:=by
  intro n
  induction n with
  | zero=>intro p;rfl
  | succ n ih =>
    intro p
    unfold SetTable.probe.go
    rw [e.slot]
    cases u.slot p.j with
    | empty=>rfl
    | dummy=>dsimp only;rw [e.adv,ih]
    | live i=>dsimp only;rw [e.adv,ih]
theorem TE9.probe {t u:SetTable} (e:TE9 t u) (f:Nat->Int) (h:Int) (p:SetTable.Probe):t.probe f h p=u.probe f h p:=by
  unfold SetTable.probe;rw [e.m];exact e.go f h _ p
theorem TE9.put {t u:SetTable} (e:TE9 t u) (j:Nat):(t.put j).2=(u.put j).2/\TE9 (t.put j).1 (u.put j).1:=by
  unfold SetTable.put
  dsimp only
  rw [e.p,e.d]
  exact ⟨rfl,⟨e.m,rfl,rfl⟩⟩
theorem TE9.fill {t u:SetTable} (e:TE9 t u):t.tooFull=u.tooFull/\(∀ n,t.fits n=u.fits n)/\t.gaveWay=u.gaveWay:=by
  refine ⟨?_,fun n=>?_,?_⟩
  · unfold SetTable.tooFull SetTable.fill;rw [e.m,e.p,e.d]
  · unfold SetTable.fits SetTable.fill;rw [e.m,e.p,e.d]
  · unfold SetTable.gaveWay;rw [e.m]
structure TupS (prog:Program) (w:World) (no:List Addr) (h:Heap) (S:Addr) (st:List (List Int)×Array Nat):Prop where
  ex:∃ (o:Obj) (es:Array (Int×Value)) (ep:Nat) (t:SetTable) (bs:List Addr),h.get? S=some o/\o.ExactSet/\o.data=.set es ep t/\TE9 t (t09 st.2)/\t.fits es.size=true /\
    es.toList=(st.1.zip bs).map (fun p=>(hk9 p.1,Value.ref p.2))/\bs.length=st.1.length/\∀ p∈st.1.zip bs,TK prog w h p.1 p.2/\p.2∉no
theorem TupS.len {no:List Addr} {h:Heap} {S:Addr} {st:List (List Int)×Array Nat} (x:TupS prog w no h S st):∃ (o:Obj) (es:Array (Int×Value)) (ep:Nat) (t:SetTable),h.get? S=some o/\o.ExactSet/\o.data=.set es ep t/\t.fits es.size=true/\es.size=st.1.length:=by
  obtain ⟨o,es,ep,t,bs,a,b,c,_,d,e,f,_⟩:=x.ex
  refine ⟨o,es,ep,t,a,b,c,d,?_⟩
  rw [<- Array.length_toList,e,List.length_map,List.length_zip];omega
theorem TK.keep {h h':Heap} {k:List Int} {b S:Addr} {o:Obj} {es:Array (Int×Value)} {ep:Nat} {t:SetTable} (x:TK prog w h k b) (ho:h.get? S=some o) (hd:o.data=.set es ep t) (hs:Heap.SameBut S h h'):TK prog w h' k b:=by
  obtain ⟨ob,its,n,hb,hc,hdb,hi⟩:=x
  have:b≠S:=fun e=>by subst e;rw [hb] at ho;cases ho;rw [hd] at hdb;cases hdb
  exact ⟨ob,its,n,by rw [hs.2 b this];exact hb,hc,hdb,hi⟩
variable {A:Around} {E:Value->Shared->Prop} {s:Shared}
theorem wp_add_step {no:List Addr} {S c:Addr} {k:List Int} {st st':List (List Int)×Array Nat} {Q:Bool->Shared->Prop} (hu:A.units < cLine) (x:TupS prog w no s.heap S st) (hk:TK prog w s.heap k c) (hno:c∉no) (hst:stS st k=some st') (h1000:st.1.length < 1000)
    (h:∀ (b:Bool) (h':Heap),Heap.SameBut S s.heap h'->TupS prog w no h' S st'->Q b { s with heap:=h',toks:=s.toks+(k.length+1) }):wpAny (model prog w) A (setAdd S (.ref c)) Q E s:=by
  obtain ⟨o,es,ep,t,bs,ho,hex,hd,te,hf,hes,hbl,hkeys⟩:=x.ex
  have esz:es.size=st.1.length:=by rw [<- Array.length_toList,hes,List.length_map,List.length_zip];omega
  have hat:hAt es=hS9 st.1:=by
    funext i
    unfold hAt hS9
    rw [<- Array.getElem?_toList,hes,List.getElem?_map]
    by_cases hi:i < st.1.length
    · rw [List.getElem?_eq_getElem (by rw [List.length_zip];omega),List.getElem?_eq_getElem hi,List.getElem_zip];rfl
    · rw [List.getElem?_eq_none (by rw [List.length_zip];omega),List.getElem?_eq_none (by omega)];rfl
  have hgw:t.gaveWay=false:=by rw [te.fill.2.2];show ((7:Nat) % 2 == 0)=false;decide
  have hpr:t.probe (hAt es) (tupleKeyHash (intKind prog w) k) (t.probeStart (tupleKeyHash (intKind prog w) k))=(t09 st.2).probe (hS9 st.1) (hk9 k) ((t09 st.2).probeStart (hk9 k)):=by rw [hk9_eq,hat,te.start,te.probe]
  have hall:∀ e∈es.toList,∃ b ks,e.2=Value.ref b/\TK prog w s.heap ks b:=fun e he=>by
    rw [hes] at he
    obtain ⟨p,hp,rfl⟩:=List.mem_map.mp he
    exact ⟨p.2,p.1,rfl,(hkeys p hp).1⟩
  unfold stS at hst
  split at hst
  · rename_i j i nx hm
    split at hst
    · rename_i hik
      cases hst
      have hil:=(List.getElem?_eq_some_iff.mp hik).1
      have hb:bs[i]?=some bs[i]:=List.getElem?_eq_getElem (by omega)
      have hei:es[i]?=some (tupleKeyHash (intKind prog w) k,Value.ref bs[i]):=by
        rw [<- Array.getElem?_toList,hes,List.getElem?_map,List.getElem?_eq_getElem (by rw [List.length_zip];omega),List.getElem_zip,(List.getElem?_eq_some_iff.mp hik).2];rfl
      have hz:(k,bs[i])∈st.1.zip bs:=by
        refine List.mem_iff_getElem.mpr ⟨i,by rw [List.length_zip];omega,?_⟩
        rw [List.getElem_zip,(List.getElem?_eq_some_iff.mp hik).2]
      refine wp_add_old hu ho hd hf hgw (by rw [hpr,hm]) hei (hkeys _ hz).1 hk hall ?_
      have:=h false s.heap (Heap.SameBut.refl S s.heap) x
      exact this
    · cases hst
  · rename_i j hm
    split at hst
    · rename_i hc
      obtain ⟨c1,c2,c3⟩:=hc
      cases hst
      obtain ⟨p2,p1⟩:=te.put j
      refine wp_add_new hu ho hd hf hgw (by omega) (by rw [hpr,hm]) hk (by rw [p1.fill.1];exact c1) fun pl=>?_
      have hsb:=Heap.SameBut.update s.heap S (Obj.putSet (SetTable.insertAt es (t.put j).2 (tupleKeyHash (intKind prog w) k,Value.ref c)) { (t.put j).1 with plain:=pl })
      have hg:(s.heap.update S (Obj.putSet (SetTable.insertAt es (t.put j).2 (tupleKeyHash (intKind prog w) k,Value.ref c)) { (t.put j).1 with plain:=pl })).get? S=some { o with data:=.set (SetTable.insertAt es (t.put j).2 (tupleKeyHash (intKind prog w) k,Value.ref c)) (ep+1) { (t.put j).1 with plain:=pl } }:=by
        have:=Heap.get?_update_self (Obj.putSet (SetTable.insertAt es (t.put j).2 (tupleKeyHash (intKind prog w) k,Value.ref c)) { (t.put j).1 with plain:=pl }) ho (by rw [putSet_of _ _ hd];rfl)
        rw [putSet_of _ _ hd] at this;exact this
      have il:=ins_list es (t.put j).2 (tupleKeyHash (intKind prog w) k,Value.ref c)
      have zl:(st.1.take (t.put j).2++[k]++st.1.drop (t.put j).2).zip (bs.take (t.put j).2++[c]++bs.drop (t.put j).2)=(st.1.zip bs).take (t.put j).2++[(k,c)]++(st.1.zip bs).drop (t.put j).2:=by
        rw [List.zip_append (by simp;omega),List.zip_append (by simp;omega),tkz,dpz];rfl
      refine h true _ hsb ⟨_,_,_,_,bs.take (t.put j).2++[c]++bs.drop (t.put j).2,hg,hex,rfl,⟨p1.m,p1.p,p1.d⟩,?_,?_,?_,?_⟩
      · have sz:(SetTable.insertAt es (t.put j).2 (tupleKeyHash (intKind prog w) k,Value.ref c)).size=st.1.length+1:=by
          rw [<- Array.length_toList,il]
          simp only [List.length_append,List.length_take,List.length_drop,List.length_singleton,Array.length_toList]
          omega
        rw [sz]
        have:=p1.fill.2.1 (st.1.length+1)
        rw [c2] at this
        exact this
      · rw [il,<- p2,zl,hes]
        simp only [List.map_append,List.map_take,List.map_drop,List.map_cons,List.map_nil]
        rfl
      · rw [<- p2];simp;omega
      · rw [<- p2,zl]
        intro p hp
        rcases List.mem_append.mp hp with hp | hp
        · rcases List.mem_append.mp hp with hp | hp
          · exact ⟨(hkeys p (List.mem_of_mem_take hp)).1.keep ho hd hsb,(hkeys p (List.mem_of_mem_take hp)).2⟩
          · rw [List.mem_singleton.mp hp];exact ⟨hk.keep ho hd hsb,hno⟩
        · exact ⟨(hkeys p (List.mem_of_mem_drop hp)).1.keep ho hd hsb,(hkeys p (List.mem_of_mem_drop hp)).2⟩
    · cases hst
  · cases hst
end
end L2

namespace L2
open PySem PySem.Spec PyProof.Rows
section
variable {prog:Program} {w:World}
theorem TupS.moved {no:List Addr} {h h':Heap} {S:Addr} {st:List (List Int)×Array Nat} (x:TupS prog w no h S st) (hS:S∉no) (k:∀ b o,b∉no->h.get? b=some o->h'.get? b=some o):TupS prog w no h' S st:=by
  obtain ⟨o,es,ep,t,bs,ho,hex,hd,te,hf,hes,hbl,hk⟩:=x.ex
  refine ⟨o,es,ep,t,bs,k _ _ hS ho,hex,hd,te,hf,hes,hbl,fun p hp=>?_⟩
  obtain ⟨⟨ob,its,n,hb,r⟩,hn⟩:=hk p hp
  exact ⟨⟨ob,its,n,k _ _ hn hb,r⟩,hn⟩
variable {A:Around} {R:Result->Shared->Prop} {I:Addr} {fp wr:List Addr} {G:Array GenState->Array GenState->Prop} {n:Nat} {P:Nat->Value->Prop} {St:Nat->Shared->Prop}
theorem runS_len:∀ (ks:List (List Int)) (st st':List (List Int)×Array Nat),runS ks st=some st'->st'.1.length<=st.1.length+ks.length:=by
  intro ks
  induction ks with
  | nil=>intro st st' h;cases h;exact Nat.le_refl _
  | cons k ks ih =>
    intro st st' h
    obtain ⟨u,e1,e2⟩:=bind_some h
    have:=ih u st' e2
    have:u.1.length<=st.1.length+1:=by
      unfold stS at e1
      split at e1
      · split at e1
        · cases e1;omega
        · cases e1
      · split at e1
        · cases e1;simp;omega
        · cases e1
      · cases e1
    simp only [List.length_cons];omega
theorem loop_set (W:WalksS prog w A.in1 I fp wr G n P St) (S:Addr) (hSf:S∉fp) {h0:Heap} {ks:List (List Int)} (hn:ks.length=n) (h500:n<=500) (hval:∀ i v,P i v->∃ c k,ks[i]?=some k/\v=.ref c/\TK prog w h0 k c/\c≠S/\c∉wr) (hu:A.in1.units < cLine) :
    ∀ (r i:Nat) (s:Shared) (st stn:List (List Int)×Array Nat),n - i=r->i<=n->st.1.length<=i->St i s->(∀ b o,b≠S->b∉wr->h0.get? b=some o->s.heap.get? b=some o)->TupS prog w wr s.heap S st->runS (ks.drop i) st=some stn ->
      (∀ s',Moved (S::wr) G s s'->TupS prog w wr s'.heap S stn->R (.ok (.ret .none)) s')->codeAny (model prog w) A (.builtin "set.update.loop" ⟨[.ref S,.ref I],[]⟩) R s:=by
  have hSw:S∉wr:=fun h=>hSf (W.sub _ h)
  have hsub:∀ b∈wr,b∈S::wr:=fun b hb=>List.mem_cons_of_mem _ hb
  intro r
  induction r with
  | zero =>
    intro i s st stn hr hi hl hst h0k hS hrun hR
    obtain rfl:i=n:=by omega
    rw [<- hn,List.drop_length] at hrun
    cases hrun
    refine codeAny_builtin F.entry_set_update_loop ?_
    rw [Around.under_plainId F.plain_set_update_loop _]
    show wpAny _ A.in1 (pyNext (.ref I) >>= _) _ _ s
    refine wpAny_bind (W.done s _ _ hst fun s' hm=>?_)
    show wpAny _ A.in1 (ret Value.none) _ _ s'
    exact wpAny_pure (hR s' (hm.mono hsub) (hS.moved hSw fun b o hb e=>hm.heap b o hb e))
  | succ r ih =>
    intro i s st stn hr hi hl hst h0k hS hrun hR
    have hlt:i < n:=by omega
    refine codeAny_builtin F.entry_set_update_loop ?_
    rw [Around.under_plainId F.plain_set_update_loop _]
    show wpAny _ A.in1 (pyNext (.ref I) >>= _) _ _ s
    refine wpAny_bind (W.item i s _ _ hlt hst fun v s' hP hst' hm=>?_)
    obtain ⟨c,k,hk,rfl,hc,hcS,hcw⟩:=hval i v hP
    have hdrop:ks.drop i=k::ks.drop (i+1):=by
      obtain ⟨h1,h2⟩:=List.getElem?_eq_some_iff.mp hk
      rw [List.drop_eq_getElem_cons h1,h2]
    rw [hdrop] at hrun
    obtain ⟨u,e1,e2⟩:=bind_some hrun
    have hS':=hS.moved hSw fun b o hb e=>hm.heap b o hb e
    have hc':TK prog w s'.heap k c:=by
      obtain ⟨ob,its,m,hb,rest⟩:=hc
      exact ⟨ob,its,m,hm.heap _ _ hcw (h0k _ _ hcS hcw hb),rest⟩
    show wpAny _ A.in1 (holding [Value.ref c] (setAdd S (.ref c)) >>= _) _ _ s'
    refine wpAny_bind (wpAny_holding ?_)
    refine wp_add_step hu hS' hc' hcw e1 (by omega) fun b h' hsb hS2=>?_
    have ul:u.1.length<=i+1:=by
      have:=runS_len [k] st u (by show (stS st k).bind (runS [])=_;rw [e1];rfl)
      simp at this;omega
    refine wpAny_pure ⟨plainId_quiet F.plain_set_update_loop _,ih (i+1) _ u stn (by omega) hlt ul (W.frame _ s' _ _ hst' (by omega) fun b hb o e=>?_) (fun b o hbS hbw e=>?_) hS2 e2 fun s'' hm'' hS''=>?_⟩
    · rw [hsb.2 b (fun h:b=S=>hSf (by rw [<- h];exact hb))];exact e
    · show h'.get? b=some o
      rw [hsb.2 b hbS];exact hm.heap _ _ hbw (h0k b o hbS hbw e)
    · refine hR s'' (Moved.trans W.gtrans ((hm.mono hsub).then_heap (by omega) fun b o hb e=>?_) hm'') hS''
      rw [hsb.2 b (fun h:b=S=>hb (by rw [h];exact List.mem_cons_self))];exact e
end
end L2

namespace PySem
open PySem.Spec PyProof.Rows
section
variable {prog:Program} {w:World} {A:Around} {E:Value->Shared->Prop} {s:Shared}
set_option maxHeartbeats 8000000 in
theorem call_set_tups {l:Addr} {items:Array Value} {ks:List (List Int)} {stn:List (List Int)×Array Nat} {Q:Value->Shared->Prop} (hh:A.handled=none) (hu:A.units+60 < cLine) (hl:s.heap.IsList l items) (hn:ks.length=items.size) (h500:items.size<=500)
    (hk:∀ (i:Nat) (v:Value),items[i]?=some v->∃ (c:Addr) (k:List Int),ks[i]?=some k/\v=Value.ref c/\L2.TK prog w s.heap k c) (hrun:L2.runS ks ([],#[])=some stn)
    (h:∀ (h':Heap) (tk:Nat),(∃ no,L2.TupS prog w no h' s.heap.objs.size stn)->(∀ b o,b < s.heap.objs.size->s.heap.get? b=some o->h'.get? b=some o)->s.toks<=tk->Q (.ref s.heap.objs.size) { s with heap:=h',toks:=tk }) :
    wpAny (model prog w) A (call (.type "set") [.ref l]) Q E s:=by
  obtain ⟨c,tl,hmro⟩:=F.called_set.mro
  have hmade:=F.called_set.made
  have hsub:=F.called_set.sub
  refine wpAny_call (codeAny_of_tree ?_)
  show wpAny _ _ (callAny (.type "set") _) _ _ _
  refine wpAny_pure ⟨Code.quiet_builtin _ (by decide +kernel),codeAny_builtin F.entry_type_call ?_⟩
  rw [Around.under_plain (weight_type_call_type "set" [.ref l] []) rfl]
  have h1:=F.called_set.notType
  have h2:=F.called_set.canCreate
  have hct:=F.typeCall_set_1 (.ref l)
  repeat (any_goals (first | assumption | wp_step))
  refine codeAny_mono (code_set_new_1 (.ref l) (E:=E) (Q₁:=fun obj s₁=>∃ led:Bool,obj=.ref s.heap.objs.size/\s₁={ s with heap:=s.heap.push { cls:=.type "set",dict:=none,data:=.set #[] 0 (.fresh 0 0 led) } }) fun led=>⟨led,rfl,rfl⟩) fun r s₁ hr=>?_
  cases r with
  | error e=>exact hr
  | ok fl =>
    cases fl with
    | ret obj =>
      obtain ⟨led,rfl,rfl⟩:=hr
      have hS:(s.heap.push { cls:=.type "set",dict:=none,data:=.set #[] 0 (.fresh 0 0 led) }).get? s.heap.objs.size=some { cls:=.type "set",dict:=none,data:=.set #[] 0 (.fresh 0 0 led) }:=Heap.get?_push_size _ rfl
      have hT:Shared.TypeIs { s with heap:=s.heap.push { cls:=.type "set",dict:=none,data:=.set #[] 0 (.fresh 0 0 led) } } (.ref s.heap.objs.size) "set":=⟨_,hS,rfl⟩
      have hli:=F.called_set.init.lookup
      have hbi:=F.called_set.init.bind (.ref s.heap.objs.size)
      repeat (any_goals (first | assumption | wp_step))
      refine codeAny_mono (codeAny_call_builtin (R:=wants (fun r s₂=>r=.none/\∃ h' tk,s₂={ s with heap:=h',toks:=tk }/\(∃ no,L2.TupS prog w no h' s.heap.objs.size stn) /\
          (∀ b o,b < s.heap.objs.size->s.heap.get? b=some o->h'.get? b=some o)/\s.toks<=tk) E) F.called_set.init.plain F.entry_set_init (check_set_init_1 hT ?_)) fun r₂ s₂ hr₂=>?_
      · obtain ⟨ol,hol,hcl,nl,hdl⟩:=hl
        obtain ⟨ocls,odict,odata,oslots⟩:=ol
        simp only at hcl hdl
        subst hcl;subst hdl
        have hol':(s.heap.push { cls:=.type "set",dict:=none,data:=.set #[] 0 (.fresh 0 0 led) }).get? l=some { cls:=.type "list",dict:=odict,data:=.seq items nl,slots:=oslots }:=Heap.get?_push_of_some _ hol
        have hsls:=F.sub_list_set
        have hslf:=F.sub_list_frozenset
        have hne:(Value.type "list" == Value.type "dict")=false:=by decide
        have hl1:(s.heap.push { cls:=.type "set",dict:=none,data:=.set #[] 0 (.fresh 0 0 led) }).IsList l items:=⟨_,hol',rfl,nl,rfl⟩
        unfold Builtin.«set.__init__» noKeywords Builtin.Frozenset.updateFrom
        generalize hPI:pyIter=PI
        wp_walk
        subst hPI
        refine wpAny_pyIter_list hl1 ?_
        refine wpAny_bind (wpAny_runValue ?_)
        have hlS:l < s.heap.objs.size:=Heap.lt_size hol
        have hh3:A.in1.in1.in1.handled=none:=by simp [hh]
        have hneI:l≠(s.heap.push { cls:=.type "set",dict:=none,data:=.set #[] 0 (.fresh 0 0 led) }).objs.size:=by
          rw [Heap.size_push];exact Nat.ne_of_lt (Nat.lt_succ_of_lt hlS)
        have hSf:s.heap.objs.size∉[(s.heap.push { cls:=.type "set",dict:=none,data:=.set #[] 0 (.fresh 0 0 led) }).objs.size,l]:=by
          rw [Heap.size_push];simp only [List.mem_cons,List.mem_singleton,List.not_mem_nil,or_false,not_or]
          exact ⟨Nat.ne_of_lt (Nat.lt_succ_self _),Nat.ne_of_gt hlS⟩
        have hval:∀ (i:Nat) (v:Value),items[i]?=some v->∃ (c:Addr) (k:List Int),ks[i]?=some k/\v=Value.ref c/\L2.TK prog w s.heap k c/\c≠s.heap.objs.size/\c∉[(s.heap.push { cls:=.type "set",dict:=none,data:=.set #[] 0 (.fresh 0 0 led) }).objs.size]:=fun i v hv=>by
          obtain ⟨c,k,e1,e2,e3⟩:=hk i v hv
          obtain ⟨ob,its,m,hb,rest⟩:=e3
          have lt:=Heap.lt_size hb
          refine ⟨c,k,e1,e2,⟨ob,its,m,hb,rest⟩,Nat.ne_of_lt lt,?_⟩
          rw [Heap.size_push,List.mem_singleton]
          exact Nat.ne_of_lt (Nat.lt_succ_of_lt lt)
        refine L2.loop_set ((Walks.list hh3 _ l hneI items).toS) s.heap.objs.size hSf (h0:=s.heap) (ks:=ks) hn h500 hval (by simp only [Around.in1_units];omega) (items.size - 0) 0 _ ([],#[]) stn (by omega) (Nat.zero_le _) (Nat.le_refl _)
          ⟨⟨_,Heap.get?_push_size _ rfl,rfl,rfl⟩,(hl1.push _)⟩ (fun b o _ _ e=>Heap.get?_push_of_some _ (Heap.get?_push_of_some _ e)) ?hS0 (by rw [List.drop_zero];exact hrun) ?hR
        case hS0 =>
          refine ⟨_,#[],0,_,[],Heap.get?_push_of_some _ hS,⟨rfl,rfl,rfl⟩,rfl,⟨rfl,rfl,rfl⟩,rfl,rfl,rfl,fun p hp=>(by cases hp)⟩
        case hR =>
          intro s' hm hS'
          obtain ⟨h',g',d',tk',os'⟩:=s'
          have eg:g'=s.gens:=hm.gens
          have ed:d'=s.drawn:=hm.drawn
          have eo:os'=s.os:=hm.os
          subst eg;subst ed;subst eo
          show wpAny _ _ _ _ _ _
          refine wpAny_pure ?_
          show wpAny _ _ (ret Value.none) _ _ _
          refine wpAny_pure ⟨rfl,h',tk',rfl,⟨_,hS'⟩,fun b o hb e=>?_,hm.toks⟩
          have hb1:b≠s.heap.objs.size:=Nat.ne_of_lt hb
          have hb2:b≠(s.heap.push { cls:=.type "set",dict:=none,data:=.set #[] 0 (.fresh 0 0 led) }).objs.size:=by
            rw [Heap.size_push];exact Nat.ne_of_lt (Nat.lt_succ_of_lt hb)
          exact hm.heap b o (by simp only [List.mem_cons,List.mem_singleton,List.not_mem_nil,or_false,not_or];exact ⟨hb1,hb2⟩) (Heap.get?_push_of_some _ (Heap.get?_push_of_some _ e))
      · cases r₂ with
        | error e=>exact hr₂
        | ok fl₂ =>
          cases fl₂ with
          | ret r =>
            obtain ⟨rfl,h',tk,rfl,hS',hk',htk⟩:=hr₂
            repeat (any_goals (first | assumption | wp_step))
            exact h _ _ hS' hk' htk
          | _=>exact hr₂.elim
    | _=>exact hr.elim
end
end PySem

namespace L2
open PySem PySem.Spec PyProof.Rows
theorem bb_set:bootBuiltins ("set":Str)=some (Value.type "set"):=by decide +kernel
def stepQ (σ:List Int) (k:Int):List Int:=if σ.any (· == k) then σ else σ++[k]
def lsetD:D->Option D
  | .lst ds=>match intsOf ds with
    | some ns=>if ns.length<=4000 then some (.int ((ns.foldl stepQ []).length:Nat)) else none
    | none=>match tupsOf ds with
      | some ks=>if ks.length<=500 then (runS ks ([],#[])).bind fun st=>some (.int (st.1.length:Nat)) else none
      | none=>none
  | _=>none
section
variable {X:Cx} {pos:Pos}
def setP (p:Addr) (N:Nat) (h:Heap):Prop:=∃ (o:Obj) (es:Array (Int×Value)) (ep:Nat) (t:SetTable),h.get? p=some o/\o.ExactSet/\o.data=.set es ep t/\t.fits es.size=true/\es.size=N
theorem setP_ok {P:Program} {w:World} {H:Hp} {h:Heap} {p:Addr} {N:Nat} (x:setP p N h):ObjOk P w H h p (.ext (setP p N)):=by
  refine ⟨x,let ⟨o,_,_,_,ho,_⟩:=x;⟨o,ho⟩,fun h1 h2 ⟨o,es,ep,t,ho,r⟩ k=>⟨o,es,ep,t,k o ho,r⟩⟩
theorem itemsAre_of {prog:Program} {w:World}:∀ {vs:List Value} {ns:List Int},IntsAre vs ns->PySem.ItemsAre (intKind prog w) ns vs
  | _,_,.nil=>.nil
  | _,_,.cons n t hr=>.cons (by show Value.isInt n (Value.int n t)=true;simp [Value.isInt]) (itemsAre_of hr)
theorem tk_of {prog:Program} {w:World} {h:Heap} {a:Addr} {its:List Value} {k:List Int} (hi:IntsAre its k) (ht:IsTup h a its.toArray):TK prog w h k a:=by
  obtain ⟨o,ho,hc,n,hd⟩:=ht
  exact ⟨o,its.toArray,n,ho,hc,hd,by simpa using itemsAre_of hi⟩
theorem firstMet_fold (ns:List Int):(firstMet (fun i=>ns.getD i 0) ns.length)=ns.foldl stepQ []:=by
  unfold firstMet
  rw [show (List.range ns.length).map (fun i=>ns.getD i 0)=ns from seq_getD ns 0]
  rfl
def rSet (K:PySem.W.Frag) (xs:List V) (H:Hp) (Q:VK):Prop:=∃ (O:List Addr) (d:D) (v:V) (n:Int),xs=[v]/\Rep K (mask O H) d v/\lsetD d=some (.int n)/\∀ p,H p=none->∃ N:Nat,n=N/\Q (.ref p) (upd H p (.ext (setP p N)))
theorem call_set (hc:X.calm=true) (hu:X.A.units+64 < cLine):CallR X (.type "set") (rSet X.K):=by
  intro pins s σ H xs us Q I rs h
  obtain ⟨O,d,v,n,rfl,rp,e,q⟩:=h
  unfold lsetD at e
  split at e
  · rename_i ds
    obtain ⟨p,vs,rfl,hp,r2⟩:=rp
    obtain ⟨u,rfl,ru⟩:=vals1 rs
    cases ru
    obtain ⟨its,rv,pl,_⟩:=I.list (SqL.of (mask_sub _ _ hp))
    split at e
    · rename_i ns ei
      split at e
      · rename_i h4
        cases e
        cases intsOf_some ei
        cases r2.ints
        have hi:=intsAre_of rv
        have hl:its.length=ns.length:=hi.length
        refine call_set_list (items:=its.toArray) (ns:=ns) (I.ok.hd hc) pl.isList (by simpa using hi) (by rw [List.size_toArray];unfold scanBound;omega) fun h' tk hS hk=>?_
        have sz:its.toArray.size=ns.length:=by rw [List.size_toArray];exact hl
        rw [sz,firstMet_fold] at hS
        obtain ⟨N,e1,q⟩:=q s.heap.objs.size (I.hok.fresh (Nat.le_refl _))
        refine ⟨.ref s.heap.objs.size,_,I.laid (t':=tk) (o:=.ext (setP s.heap.objs.size N)) (fun b o e=>hk b o (Heap.lt_size e) e) (Nat.le_refl _) (setP_ok ?_),rfl,q⟩
        obtain ⟨o,es,ep,t,ho,hex,hd,_,_,_,hf,hz⟩:=hS
        exact ⟨o,es,ep,t,ho,hex,hd,hf,by omega⟩
      · cases e
    · split at e
      · rename_i ks ek
        split at e
        · rename_i h5
          obtain ⟨st,e1,e2⟩:=bind_some e
          cases e2
          cases tupsOf_some ek
          have rm:=Reps.mono mask_sub _ _ r2
          have ta:=tup_ats I rm rv
          have hl:=ta.len
          refine call_set_tups (items:=its.toArray) (ks:=ks) (stn:=st) (I.ok.hd hc) (by omega) pl.isList (by rw [List.size_toArray];omega) (by rw [List.size_toArray];omega) (fun i v hv=>?_) e1 fun h' tk hS hk htk=>?_
          · rw [<- Array.getElem?_toList] at hv
            have hv:its[i]?=some v:=hv
            have hil:=(List.getElem?_eq_some_iff.mp hv).1
            obtain ⟨a,its',g1,g2,g3⟩:=ta.get (i:=i) (by omega)
            refine ⟨a,ks.getD i [],?_,?_,tk_of g2 g3⟩
            · rw [List.getD_eq_getElem?_getD,List.getElem?_eq_getElem (by omega)];rfl
            · rw [<- g1,List.getD_eq_getElem?_getD,hv];rfl
          · obtain ⟨N,e3,q⟩:=q s.heap.objs.size (I.hok.fresh (Nat.le_refl _))
            refine ⟨.ref s.heap.objs.size,_,I.laid (t':=tk) (o:=.ext (setP s.heap.objs.size N)) (fun b o e=>hk b o (Heap.lt_size e) e) (Nat.le_refl _) (setP_ok ?_),rfl,q⟩
            obtain ⟨no,x⟩:=hS
            obtain ⟨o,es,ep,t,a1,a2,a3,a4,a5⟩:=x.len
            exact ⟨o,es,ep,t,a1,a2,a3,a4,by omega⟩
        · cases e
      · cases e
  · cases e
theorem call_lenS (hc:X.calm=true):CallR X (.builtin "len") (fun xs H Q=>∃ (p:Addr) (N:Nat),xs=[.ref p]/\H p=some (.ext (setP p N))/\N<=100000/\Q (.int (N:Int)) H):=by
  intro pins s σ H xs us Q I rs h
  obtain ⟨p,N,rfl,hp,hN,q⟩:=h
  obtain ⟨u,rfl,ru⟩:=vals1 rs
  cases ru
  obtain ⟨⟨o,es,ep,t,ho,hex,hd,hf,hz⟩,_⟩:=(show ObjOk X.prog X.w H s.heap p (.ext (setP p N)) from I.hok p _ hp)
  refine call_len_set ho hex hd hf (by omega) ?_
  refine ⟨.int (N:Int),H,?_,⟨_,by rw [hz]⟩,q⟩
  exact I.kept (fun _ _ e=>e)
theorem lset_int {d:D} {y:D} (h:lsetD d=some y):∃ N:Nat,y=.int (N:Int)/\N<=100000:=by
  unfold lsetD at h
  split at h
  · split at h
    · split at h
      · rename_i ns _ h4
        cases h
        refine ⟨_,rfl,?_⟩
        have:∀ (ns:List Int) (σ:List Int),(ns.foldl stepQ σ).length<=σ.length+ns.length:=by
          intro ns
          induction ns with
          | nil=>intro σ;exact Nat.le_refl _
          | cons n ns ih =>
            intro σ
            have:=ih (stepQ σ n)
            have:(stepQ σ n).length<=σ.length+1:=by unfold stepQ;split <;> simp
            simp only [List.foldl_cons,List.length_cons];omega
        have:=this ns []
        simp only [List.length_nil] at this
        omega
      · cases h
    · split at h
      · split at h
        · rename_i ks _ h5
          obtain ⟨st,e1,e2⟩:=bind_some h
          cases e2
          have:=runS_len ks _ st e1
          simp only [List.length_nil] at this
          exact ⟨_,rfl,by omega⟩
        · cases h
      · cases h
  · cases h
theorem ev_lenset {a:Expr} {fa:FE} {p1 p2 p3:Pos} (ha:EV X a fa) (hc:X.calm=true) (hu:X.A.units+64 < cLine) (m1:X.mg "len"=none) (m2:X.mg "set"=none) (g1:Gl X "len":=by rfl) (g2:Gl X "set":=by rfl)
    (h1:starEach [a] X.env=(false,eval a X.env)::starEach [] X.env:=by rfl) (h2:starEach [Expr.Call (.Name "set" p2) [a] [] p3] X.env=(false,eval (.Call (.Name "set" p2) [a] [] p3) X.env)::starEach [] X.env:=by rfl)
    (hp:(backTo p3 (starEach [] X.env)).any (·.1)=false:=by rfl) (hp2:(backTo pos (starEach [] X.env)).any (·.1)=false:=by rfl) :
    EV X (.Call (.Name "len" p1) [.Call (.Name "set" p2) [a] [] p3] [] pos) (f1 lsetD fa) :=
  PE.imp (pe_callB (call_lenS hc) g1 m1 bb_len (pa_cons (pe_callTy (call_set hc hu) g2 m2 bb_set (pa_cons ha pa_nil h1) (by decide) (by decide) h1 hp) pa_nil h2) (by decide) (by decide) h2 hp2) fun σ H Q h=>by
    obtain ⟨O,ρ,d,rv,e,q⟩:=h
    obtain ⟨x,e1,e⟩:=bind_some e
    obtain ⟨N,rfl,hN⟩:=lset_int e
    refine ⟨O,ρ,x,rv,e1,fun v H1 s1 r1=>?_⟩
    refine ⟨O,x,v,N,rfl,r1,e,fun p hp=>⟨N,rfl,?_⟩⟩
    refine ⟨p,N,rfl,upd_same,hN,?_⟩
    exact q _ _ (Same.trans s1 (Same.new hp)) rfl
end
end L2

namespace L2
open PySem PySem.Spec PyProof.Rows
section
variable {prog:Program} {w:World} {A:Around} {E:Value->Shared->Prop} {s:Shared}
theorem wp_hashTrue {ks:List Int} {c:Addr} {Q:Bool->Shared->Prop} (hk:TK prog w s.heap ks c) (h:Q true s):wpAny (model prog w) A (hashByValue 8 (.ref c)) Q E s:=by
  have hT:=hk.typeIs
  obtain ⟨o,items,n,ho,_,hd,hi⟩:=hk
  unfold hashByValue
  refine wpAny_bind (wpAny_specialOf hT F.slot_tuple_hash.lookup ?_)
  show wpAny _ _ (seqItems? (.ref c) >>= _) _ _ s
  refine wpAny_bind (wpAny_seqItems ho hd ?_)
  refine wpAny_bind ?_
  show wpAny _ _ (forIn items _ _) _ _ s
  rw [<- Array.forIn_toList]
  refine wpAny_forIn_list _ (fun rest r s'=>r.1=none/\s'=s/\∀ v∈rest,∃ n t,v=Value.int n t) _ ?_ ?_ _ _ ⟨rfl,rfl,items_int hi⟩
  · rintro v rest r s' ⟨_,rfl,hall⟩
    obtain ⟨n,t,rfl⟩:=hall v List.mem_cons_self
    rw [show hashByValue 7 (Value.int n t)=pure true from rfl]
    refine wpAny_bind (wpAny_pure ?_)
    simp only [Bool.not_true,Bool.false_eq_true,if_false]
    exact wpAny_pure ⟨rfl,rfl,fun u hu=>hall u (List.mem_cons_of_mem _ hu)⟩
  · rintro ⟨r1,r2⟩ s' ⟨hr,rfl,_⟩
    simp only at hr
    subst hr
    exact wpAny_pure h
theorem wp_relay {a:Addr} {o:Obj} {es:Array (Int×Value)} {ep:Nat} {t t2:SetTable} {order:Array Nat} {wanted:Nat} {Q:Unit->Shared->Prop} (ho:s.heap.get? a=some o) (hd:o.data=.set es ep t) (hf:t.fits es.size=true) (hw:SetTable.sizeAbove wanted<=sizeLine)
    (hr:t.relaid (es.map (·.1)) wanted=some (t2,order)) (hz:(order.filterMap (es[·]?)).size=es.size) (hb:es.size<=1000)
    (h:Q () { s with heap:=s.heap.update a (Obj.putSet (order.filterMap (es[·]?)) t2) }):wpAny (model prog w) A (setRelay a wanted) Q E s:=by
  unfold setRelay
  refine wpAny_bind (wpAny_setState_of ho hd hf ?_)
  dsimp only
  rw [if_neg (Nat.not_lt.mpr hw)]
  rw [hr]
  have hc:((order.filterMap (es[·]?)).size != es.size)=false:=by rw [hz];simp
  refine wpAny_bind ?_
  show wpAny (model prog w) A (if ((order.filterMap (es[·]?)).size != es.size)=true then _ else pure (order.filterMap (es[·]?),t2)) _ E s
  rw [hc,if_neg (by decide)]
  refine wpAny_pure ?_
  exact wpAny_storeSet_of ho hd h (by rw [hz,show sizeLine=16777216 from sizeLine_eq];omega)
theorem wp_add_grow {a c:Addr} {ks:List Int} {o:Obj} {es:Array (Int×Value)} {ep:Nat} {t:SetTable} {j:Nat} {Q:Bool->Shared->Prop} (hu:A.units < cLine) (ho:s.heap.get? a=some o) (hd:o.data=.set es ep t) (hf:t.fits es.size=true) (hg:t.gaveWay=false) (hb:es.size < 400)
    (hp:t.probe (hAt es) (tupleKeyHash (intKind prog w) ks) (t.probeStart (tupleKeyHash (intKind prog w) ks))=some (.empty j none)) (kc:TK prog w s.heap ks c)
    (hQ1:(t.put j).1.tooFull=false->Q true { s with heap:=s.heap.update a (Obj.putSet (SetTable.insertAt es (t.put j).2 (tupleKeyHash (intKind prog w) ks,.ref c)) (t.put j).1),toks:=s.toks+(ks.length+1) })
    (hQ2:(t.put j).1.tooFull=true->(t.put j).1.fits (SetTable.insertAt es (t.put j).2 (tupleKeyHash (intKind prog w) ks,Value.ref c)).size=true/\∃ t2 order,SetTable.sizeAbove (SetTable.grown (es.size+1))<=sizeLine/\(t.put j).1.relaid ((SetTable.insertAt es (t.put j).2 (tupleKeyHash (intKind prog w) ks,Value.ref c)).map (·.1)) (SetTable.grown (es.size+1))=some (t2,order) /\
      (order.filterMap ((SetTable.insertAt es (t.put j).2 (tupleKeyHash (intKind prog w) ks,Value.ref c))[·]?)).size=(SetTable.insertAt es (t.put j).2 (tupleKeyHash (intKind prog w) ks,Value.ref c)).size /\
      Q true { s with heap:=(s.heap.update a (Obj.putSet (SetTable.insertAt es (t.put j).2 (tupleKeyHash (intKind prog w) ks,.ref c)) (t.put j).1)).update a (Obj.putSet (order.filterMap ((SetTable.insertAt es (t.put j).2 (tupleKeyHash (intKind prog w) ks,Value.ref c))[·]?)) t2),toks:=s.toks+(ks.length+1) }) :
    wpAny (model prog w) A (setAdd a (.ref c)) Q E s:=by
  unfold setAdd
  refine wpAny_holding (wpAny_bind (wpAny_pyHash_tuple hu kc ?_))
  unfold setAddHashed
  refine wpAny_holding ?_
  rw [show (100000:Nat)=99999+1 from rfl]
  unfold setAddHashedIn
  refine wpAny_bind (wpAny_setState_of (s:={ s with toks:=s.toks+(ks.length+1) }) ho hd hf ?_)
  dsimp only
  rw [show byScan (.ref c) es=false from rfl]
  simp only [Bool.false_eq_true,↓reduceIte]
  refine wpAny_bind (wp_search_new (s:={ s with toks:=s.toks+(ks.length+1) }) ho hd hf hg hp ?_)
  dsimp only
  refine wpAny_bind (wpAny_setState_of (s:={ s with toks:=s.toks+(ks.length+1) }) ho hd hf ?_)
  dsimp only
  have hsz:(SetTable.insertAt es (t.put j).2 (tupleKeyHash (intKind prog w) ks,Value.ref c)).size<=2 * es.size+1:=by
    unfold SetTable.insertAt
    simp only [Array.size_append,Array.size_push,Array.size_extract]
    omega
  have fin:wpAny (model prog w) A (do
      storeSet a (SetTable.insertAt es (t.put j).2 (tupleKeyHash (intKind prog w) ks,.ref c)) (t.put j).1
      if (!false && (t.put j).1.tooFull)=true then do
        setRelay a (SetTable.grown (es.size+1))
        pure true
      else pure true) Q E { s with toks:=s.toks+(ks.length+1) }:=by
    refine wpAny_bind (wpAny_storeSet_of (s:={ s with toks:=s.toks+(ks.length+1) }) ho hd ?_ (by rw [show sizeLine=16777216 from sizeLine_eq];omega))
    cases hfull:(t.put j).1.tooFull with
    | false =>
      simp only [Bool.and_false,Bool.false_eq_true,if_false]
      exact wpAny_pure (hQ1 hfull)
    | true =>
      obtain ⟨hf2,t2,order,hw,hr,hz,hq⟩:=hQ2 hfull
      simp only [Bool.not_false,Bool.and_self,if_true]
      have hg2:(s.heap.update a (Obj.putSet (SetTable.insertAt es (t.put j).2 (tupleKeyHash (intKind prog w) ks,Value.ref c)) (t.put j).1)).get? a=some { o with data:=.set (SetTable.insertAt es (t.put j).2 (tupleKeyHash (intKind prog w) ks,Value.ref c)) (ep+1) (t.put j).1 }:=by
        have:=Heap.get?_update_self (Obj.putSet (SetTable.insertAt es (t.put j).2 (tupleKeyHash (intKind prog w) ks,Value.ref c)) (t.put j).1) ho (by rw [putSet_of _ _ hd];rfl)
        rw [putSet_of _ _ hd] at this;exact this
      refine wpAny_bind (wp_relay (s:={ s with heap:=s.heap.update a (Obj.putSet (SetTable.insertAt es (t.put j).2 (tupleKeyHash (intKind prog w) ks,.ref c)) (t.put j).1),toks:=s.toks+(ks.length+1) }) hg2 rfl hf2 hw hr hz (by omega) ?_)
      exact wpAny_pure hq
  split
  · refine wpAny_bind (wp_hashTrue (s:={ s with toks:=s.toks+(ks.length+1) }) kc ?_)
    exact fin
  · refine wpAny_bind (wpAny_pure ?_)
    exact fin
end
end L2

namespace L2
open PySem PySem.Spec PyProof.Rows
def t39 (mask:Nat) (pl:Array Nat):SetTable:={ mask:=mask,place:=pl,dummies:=#[],finger:=0,led:=true,moves:=0,plain:=true }
abbrev SG:=List (List Int)×Nat×Array Nat
def stG (st:SG) (k:List Int):Option SG :=
  if st.2.1 % 2=1 then
  match (t39 st.2.1 st.2.2).probe (hS9 st.1) (hk9 k) ((t39 st.2.1 st.2.2).probeStart (hk9 k)) with
  | some (.candidate _ i _)=>if st.1[i]?=some k then some st else none
  | some (.empty j none) =>
    if ((t39 st.2.1 st.2.2).put j).1.fits (st.1.length+1)=true/\((t39 st.2.1 st.2.2).put j).2<=st.1.length then
      if ((t39 st.2.1 st.2.2).put j).1.tooFull=false then some (st.1.take ((t39 st.2.1 st.2.2).put j).2++[k]++st.1.drop ((t39 st.2.1 st.2.2).put j).2,st.2.1,((t39 st.2.1 st.2.2).put j).1.place)
      else match ((t39 st.2.1 st.2.2).put j).1.relaid ((st.1.take ((t39 st.2.1 st.2.2).put j).2++[k]++st.1.drop ((t39 st.2.1 st.2.2).put j).2).map hk9).toArray (SetTable.grown (st.1.length+1)) with
        | some (t2,order) =>
          if SetTable.sizeAbove (SetTable.grown (st.1.length+1))<=65536/\(order.toList.filterMap ((st.1.take ((t39 st.2.1 st.2.2).put j).2++[k]++st.1.drop ((t39 st.2.1 st.2.2).put j).2)[·]?)).length=st.1.length+1/\t2.fits (st.1.length+1)=true/\t2.dummies=#[] then
            some (order.toList.filterMap ((st.1.take ((t39 st.2.1 st.2.2).put j).2++[k]++st.1.drop ((t39 st.2.1 st.2.2).put j).2)[·]?),t2.mask,t2.place) else none
        | none=>none
    else none
  | _=>none
  else none
def runG:List (List Int)->SG->Option SG
  | [],st=>some st
  | k::ks,st=>(stG st k).bind (runG ks)
theorem fm_zip {α β:Type} (a:List α) (b:List β) (h:b.length=a.length):∀ order:List Nat,order.filterMap ((a.zip b)[·]?)=(order.filterMap (a[·]?)).zip (order.filterMap (b[·]?)):=by
  intro order
  induction order with
  | nil=>rfl
  | cons i order ih =>
    by_cases hi:i < a.length
    · have e1:(a.zip b)[i]?=some (a[i],b[i]):=by rw [List.getElem?_eq_getElem (by rw [List.length_zip];omega),List.getElem_zip]
      rw [List.filterMap_cons_some e1,List.filterMap_cons_some (List.getElem?_eq_getElem hi),List.filterMap_cons_some (List.getElem?_eq_getElem (by omega:i < b.length)),ih];rfl
    · rw [List.filterMap_cons_none (List.getElem?_eq_none (by rw [List.length_zip];omega)),List.filterMap_cons_none (List.getElem?_eq_none (by omega)),List.filterMap_cons_none (List.getElem?_eq_none (by omega)),ih]
theorem fm_len {α β:Type} (a:List α) (b:List β) (h:b.length=a.length):∀ order:List Nat,(order.filterMap (b[·]?)).length=(order.filterMap (a[·]?)).length:=by
  intro order
  induction order with
  | nil=>rfl
  | cons i order ih =>
    by_cases hi:i < a.length
    · rw [List.filterMap_cons_some (List.getElem?_eq_getElem hi),List.filterMap_cons_some (List.getElem?_eq_getElem (by omega:i < b.length)),List.length_cons,List.length_cons,ih]
    · rw [List.filterMap_cons_none (List.getElem?_eq_none (by omega)),List.filterMap_cons_none (List.getElem?_eq_none (by omega)),ih]
theorem fm_mem {α:Type} (a:List α) (order:List Nat):∀ x∈order.filterMap (a[·]?),x∈a:=fun x hx=>by
  obtain ⟨i,_,e⟩:=List.mem_filterMap.mp hx
  exact List.mem_of_getElem? e
theorem relaid_eq {t u:SetTable} {h:Array Int} {wanted:Nat} {t2:SetTable} {order:Array Nat} (e:u.relaid h wanted=some (t2,order)):∃ t3,t.relaid h wanted=some (t3,order)/\TE9 t3 t2/\t3.led=t.led/\t3.plain=t.plain:=by
  unfold SetTable.relaid SetTable.laid at e ⊢
  cases hc:SetTable.layClean (SetTable.sizeAbove wanted - 1) h with
  | none=>rw [hc] at e;cases e
  | some owner =>
    rw [hc] at e
    simp only [Option.bind_eq_bind,Option.bind_some,Option.pure_def,Option.some.injEq,Prod.mk.injEq] at e ⊢
    obtain ⟨e1,e2⟩:=e
    refine ⟨_,⟨rfl,e2⟩,?_,rfl,rfl⟩
    subst e1
    exact ⟨rfl,rfl,rfl⟩
section
variable {prog:Program} {w:World}
structure TupG (prog:Program) (w:World) (ld:Bool) (N:List Int×Addr->Prop) (h:Heap) (S:Addr) (st:SG):Prop where
  ex:∃ (o:Obj) (es:Array (Int×Value)) (ep:Nat) (t:SetTable) (bs:List Addr),h.get? S=some o/\o.ExactSet/\o.data=.set es ep t/\TE9 t (t39 st.2.1 st.2.2)/\t.fits es.size=true /\
    es.toList=(st.1.zip bs).map (fun p=>(hk9 p.1,Value.ref p.2))/\bs.length=st.1.length/\(∀ p∈st.1.zip bs,TK prog w h p.1 p.2/\N p)/\t.led=ld/\t.plain=true
variable {A:Around} {E:Value->Shared->Prop} {s:Shared}
theorem wp_add_stepG {ld:Bool} {N:List Int×Addr->Prop} {S c:Addr} {k:List Int} {st st':SG} {Q:Bool->Shared->Prop} (hu:A.units < cLine) (x:TupG prog w ld N s.heap S st) (hk:TK prog w s.heap k c) (hno:N (k,c)) (hst:stG st k=some st') (h400:st.1.length < 400)
    (h:∀ (b:Bool) (h':Heap),Heap.SameBut S s.heap h'->TupG prog w ld N h' S st'->Q b { s with heap:=h',toks:=s.toks+(k.length+1) }):wpAny (model prog w) A (setAdd S (.ref c)) Q E s:=by
  obtain ⟨o,es,ep,t,bs,ho,hex,hd,te,hf,hes,hbl,hkeys,hled,hplain⟩:=x.ex
  have esz:es.size=st.1.length:=by rw [<- Array.length_toList,hes,List.length_map,List.length_zip];omega
  have hat:hAt es=hS9 st.1:=by
    funext i
    unfold hAt hS9
    rw [<- Array.getElem?_toList,hes,List.getElem?_map]
    by_cases hi:i < st.1.length
    · rw [List.getElem?_eq_getElem (by rw [List.length_zip];omega),List.getElem?_eq_getElem hi,List.getElem_zip];rfl
    · rw [List.getElem?_eq_none (by rw [List.length_zip];omega),List.getElem?_eq_none (by omega)];rfl
  unfold stG at hst
  split at hst
  · rename_i hodd
    have hgw:t.gaveWay=false:=by rw [te.fill.2.2];show (st.2.1 % 2 == 0)=false;rw [hodd];rfl
    have hpr:t.probe (hAt es) (tupleKeyHash (intKind prog w) k) (t.probeStart (tupleKeyHash (intKind prog w) k))=(t39 st.2.1 st.2.2).probe (hS9 st.1) (hk9 k) ((t39 st.2.1 st.2.2).probeStart (hk9 k)):=by rw [hk9_eq,hat,te.start,te.probe]
    have hall:∀ e∈es.toList,∃ b ks,e.2=Value.ref b/\TK prog w s.heap ks b:=fun e he=>by
      rw [hes] at he
      obtain ⟨p,hp,rfl⟩:=List.mem_map.mp he
      exact ⟨p.2,p.1,rfl,(hkeys p hp).1⟩
    split at hst
    · rename_i j i nx hm
      split at hst
      · rename_i hik
        cases hst
        have hil:=(List.getElem?_eq_some_iff.mp hik).1
        have hei:es[i]?=some (tupleKeyHash (intKind prog w) k,Value.ref bs[i]):=by
          rw [<- Array.getElem?_toList,hes,List.getElem?_map,List.getElem?_eq_getElem (by rw [List.length_zip];omega),List.getElem_zip,(List.getElem?_eq_some_iff.mp hik).2];rfl
        have hz:(k,bs[i])∈st.1.zip bs:=by
          refine List.mem_iff_getElem.mpr ⟨i,by rw [List.length_zip];omega,?_⟩
          rw [List.getElem_zip,(List.getElem?_eq_some_iff.mp hik).2]
        refine wp_add_old hu ho hd hf hgw (by rw [hpr,hm]) hei (hkeys _ hz).1 hk hall ?_
        exact h false s.heap (Heap.SameBut.refl S s.heap) x
      · cases hst
    · rename_i j hm
      split at hst
      · rename_i hc
        obtain ⟨c2,c3⟩:=hc
        obtain ⟨p2,p1⟩:=te.put j
        have il:=ins_list es (t.put j).2 (tupleKeyHash (intKind prog w) k,Value.ref c)
        have zl:(st.1.take (t.put j).2++[k]++st.1.drop (t.put j).2).zip (bs.take (t.put j).2++[c]++bs.drop (t.put j).2)=(st.1.zip bs).take (t.put j).2++[(k,c)]++(st.1.zip bs).drop (t.put j).2:=by
          rw [List.zip_append (by simp;omega),List.zip_append (by simp;omega),tkz,dpz];rfl
        have e1:(SetTable.insertAt es (t.put j).2 (tupleKeyHash (intKind prog w) k,Value.ref c)).toList=((st.1.take (t.put j).2++[k]++st.1.drop (t.put j).2).zip (bs.take (t.put j).2++[c]++bs.drop (t.put j).2)).map (fun p=>(hk9 p.1,Value.ref p.2)):=by
          rw [il,zl,hes]
          simp only [List.map_append,List.map_take,List.map_drop,List.map_cons,List.map_nil]
          rfl
        have bl1:(bs.take (t.put j).2++[c]++bs.drop (t.put j).2).length=(st.1.take (t.put j).2++[k]++st.1.drop (t.put j).2).length:=by simp;omega
        have s1l:(st.1.take (t.put j).2++[k]++st.1.drop (t.put j).2).length=st.1.length+1:=by rw [p2];simp;omega
        have sz:(SetTable.insertAt es (t.put j).2 (tupleKeyHash (intKind prog w) k,Value.ref c)).size=st.1.length+1:=by
          rw [<- Array.length_toList,e1,List.length_map,List.length_zip,bl1,s1l];omega
        have pled:(t.put j).1.led=ld:=hled
        have ppl:(t.put j).1.plain=true:=hplain
        have mk:∀ h',Heap.SameBut S s.heap h'->∀ p∈(st.1.take (t.put j).2++[k]++st.1.drop (t.put j).2).zip (bs.take (t.put j).2++[c]++bs.drop (t.put j).2),TK prog w h' p.1 p.2/\N p:=by
          intro h' hsb p hp
          rw [zl] at hp
          rcases List.mem_append.mp hp with hp | hp
          · rcases List.mem_append.mp hp with hp | hp
            · exact ⟨(hkeys p (List.mem_of_mem_take hp)).1.keep ho hd hsb,(hkeys p (List.mem_of_mem_take hp)).2⟩
            · rw [List.mem_singleton.mp hp];exact ⟨hk.keep ho hd hsb,hno⟩
          · exact ⟨(hkeys p (List.mem_of_mem_drop hp)).1.keep ho hd hsb,(hkeys p (List.mem_of_mem_drop hp)).2⟩
        have hg1:(s.heap.update S (Obj.putSet (SetTable.insertAt es (t.put j).2 (tupleKeyHash (intKind prog w) k,Value.ref c)) (t.put j).1)).get? S=some { o with data:=.set (SetTable.insertAt es (t.put j).2 (tupleKeyHash (intKind prog w) k,Value.ref c)) (ep+1) (t.put j).1 }:=by
          have:=Heap.get?_update_self (Obj.putSet (SetTable.insertAt es (t.put j).2 (tupleKeyHash (intKind prog w) k,Value.ref c)) (t.put j).1) ho (by rw [putSet_of _ _ hd];rfl)
          rw [putSet_of _ _ hd] at this;exact this
        have fit1:(t.put j).1.fits (SetTable.insertAt es (t.put j).2 (tupleKeyHash (intKind prog w) k,Value.ref c)).size=true:=by
          rw [sz]
          have:=p1.fill.2.1 (st.1.length+1)
          rw [c2] at this
          exact this
        have hsb1:=Heap.SameBut.update s.heap S (Obj.putSet (SetTable.insertAt es (t.put j).2 (tupleKeyHash (intKind prog w) k,Value.ref c)) (t.put j).1)
        refine wp_add_grow hu ho hd hf hgw (by omega) (by rw [hpr,hm]) hk (fun hfull=>?_) (fun hfull=>?_)
        · rw [p1.fill.1] at hfull
          rw [if_pos hfull] at hst
          cases hst
          refine h true _ hsb1 ⟨_,_,_,_,bs.take (t.put j).2++[c]++bs.drop (t.put j).2,hg1,hex,rfl,⟨p1.m.trans te.m.symm |>.trans te.m,p1.p,p1.d⟩,fit1,?_,?_,?_,pled,ppl⟩
          · rw [<- p2];exact e1
          · rw [<- p2];exact bl1
          · rw [<- p2];exact mk _ hsb1
        · have hfull':=hfull
          rw [p1.fill.1] at hfull'
          rw [if_neg (by rw [hfull'];decide)] at hst
          split at hst
          · rename_i t2 order hr
            split at hst
            · rename_i hc2
              obtain ⟨d1,d2,d3,d4⟩:=hc2
              cases hst
              rw [<- p2] at hr d2
              have hh:(SetTable.insertAt es (t.put j).2 (tupleKeyHash (intKind prog w) k,Value.ref c)).map (·.1)=((st.1.take (t.put j).2++[k]++st.1.drop (t.put j).2).map hk9).toArray:=by
                apply Array.ext'
                rw [Array.toList_map,e1,List.map_map]
                have e5:((st.1.take (t.put j).2++[k]++st.1.drop (t.put j).2).zip (bs.take (t.put j).2++[c]++bs.drop (t.put j).2)).map (fun p=>hk9 p.1)=(((st.1.take (t.put j).2++[k]++st.1.drop (t.put j).2).zip (bs.take (t.put j).2++[c]++bs.drop (t.put j).2)).map Prod.fst).map hk9:=by rw [List.map_map];rfl
                rw [List.map_fst_zip (by omega)] at e5
                exact e5
              obtain ⟨t3,hr3,te3,led3,pl3⟩:=relaid_eq (t:=(t.put j).1) hr
              have ol:(order.filterMap ((SetTable.insertAt es (t.put j).2 (tupleKeyHash (intKind prog w) k,Value.ref c))[·]?)).toList=((order.toList.filterMap ((st.1.take (t.put j).2++[k]++st.1.drop (t.put j).2)[·]?)).zip (order.toList.filterMap ((bs.take (t.put j).2++[c]++bs.drop (t.put j).2)[·]?))).map (fun p=>(hk9 p.1,Value.ref p.2)):=by
                rw [<- fm_zip _ _ bl1,Array.toList_filterMap,List.map_filterMap]
                congr 1
                funext i
                rw [<- Array.getElem?_toList,e1,List.getElem?_map]
              refine ⟨fit1,t3,order,?_,by rw [hh,esz];exact hr3,?_,?_⟩
              · rw [esz,show sizeLine=16777216 from sizeLine_eq];omega
              · rw [<- Array.length_toList,ol,List.length_map,List.length_zip,fm_len _ _ bl1,Nat.min_self,d2,sz]
              · have hg2:((s.heap.update S (Obj.putSet (SetTable.insertAt es (t.put j).2 (tupleKeyHash (intKind prog w) k,Value.ref c)) (t.put j).1)).update S (Obj.putSet (order.filterMap ((SetTable.insertAt es (t.put j).2 (tupleKeyHash (intKind prog w) k,Value.ref c))[·]?)) t3)).get? S=some { o with data:=.set (order.filterMap ((SetTable.insertAt es (t.put j).2 (tupleKeyHash (intKind prog w) k,Value.ref c))[·]?)) (ep+1+1) t3 }:=by
                  have:=Heap.get?_update_self (Obj.putSet (order.filterMap ((SetTable.insertAt es (t.put j).2 (tupleKeyHash (intKind prog w) k,Value.ref c))[·]?)) t3) hg1 (by rw [putSet_of _ _ rfl];rfl)
                  rw [putSet_of _ _ rfl] at this;exact this
                have hsb2:=hsb1.trans (Heap.SameBut.update _ S (Obj.putSet (order.filterMap ((SetTable.insertAt es (t.put j).2 (tupleKeyHash (intKind prog w) k,Value.ref c))[·]?)) t3))
                refine h true _ hsb2 ⟨_,_,_,_,order.toList.filterMap ((bs.take (t.put j).2++[c]++bs.drop (t.put j).2)[·]?),hg2,hex,rfl,⟨te3.m,te3.p,te3.d.trans d4⟩,?_,?_,?_,?_,led3.trans pled,pl3.trans ppl⟩
                · rw [<- Array.length_toList,ol,List.length_map,List.length_zip,fm_len _ _ bl1,Nat.min_self,d2,te3.fill.2.1]
                  exact d3
                · rw [<- p2];exact ol
                · rw [<- p2];exact fm_len _ _ bl1 order.toList
                · rw [<- p2]
                  intro p hp
                  rw [<- fm_zip _ _ bl1] at hp
                  exact mk _ hsb2 p (fm_mem _ _ p hp)
            · cases hst
          · cases hst
      · cases hst
    · cases hst
  · cases hst
end
end L2

namespace L2
open PySem PySem.Spec PyProof.Rows
section
variable {prog:Program} {w:World}
theorem TupG.moved {ld:Bool} {N:List Int×Addr->Prop} {wr:List Addr} {h h':Heap} {S:Addr} {st:SG} (x:TupG prog w ld N h S st) (hN:∀ p,N p->p.2∉wr) (hS:S∉wr) (k:∀ b o,b∉wr->h.get? b=some o->h'.get? b=some o):TupG prog w ld N h' S st:=by
  obtain ⟨o,es,ep,t,bs,ho,hex,hd,te,hf,hes,hbl,hk,hl,hpl⟩:=x.ex
  refine ⟨o,es,ep,t,bs,k _ _ hS ho,hex,hd,te,hf,hes,hbl,fun p hp=>?_,hl,hpl⟩
  obtain ⟨⟨ob,its,n,hb,r⟩,hn⟩:=hk p hp
  exact ⟨⟨ob,its,n,k _ _ (hN p hn) hb,r⟩,hn⟩
variable {A:Around} {R:Result->Shared->Prop} {I:Addr} {fp wr:List Addr} {G:Array GenState->Array GenState->Prop} {n:Nat} {P:Nat->Value->Prop} {St:Nat->Shared->Prop}
theorem stG_len {st st':SG} {k:List Int} (e1:stG st k=some st'):st'.1.length<=st.1.length+1:=by
  unfold stG at e1
  split at e1
  · split at e1
    · split at e1
      · cases e1;omega
      · cases e1
    · split at e1
      · rename_i hc
        split at e1
        · cases e1;simp;omega
        · split at e1
          · split at e1
            · rename_i hc2
              cases e1
              have:=hc2.2.1
              simp only at this ⊢
              omega
            · cases e1
          · cases e1
      · cases e1
    · cases e1
  · cases e1
theorem loop_setG {ld:Bool} {N:List Int×Addr->Prop} (hN:∀ p,N p->p.2∉wr) (W:WalksS prog w A.in1 I fp wr G n P St) (S:Addr) (hSf:S∉fp) {h0:Heap} {ks:List (List Int)} (hn:ks.length=n) (h500:n<=390) (hval:∀ i v,P i v->∃ c k,ks[i]?=some k/\v=.ref c/\TK prog w h0 k c/\c≠S/\N (k,c)) (hu:A.in1.units < cLine) :
    ∀ (r i:Nat) (s:Shared) (st stn:SG),n - i=r->i<=n->st.1.length<=i->St i s->(∀ b o,b≠S->b∉wr->h0.get? b=some o->s.heap.get? b=some o)->TupG prog w ld N s.heap S st->runG (ks.drop i) st=some stn ->
      (∀ s',Moved (S::wr) G s s'->TupG prog w ld N s'.heap S stn->R (.ok (.ret .none)) s')->codeAny (model prog w) A (.builtin "set.update.loop" ⟨[.ref S,.ref I],[]⟩) R s:=by
  have hSw:S∉wr:=fun h=>hSf (W.sub _ h)
  have hsub:∀ b∈wr,b∈S::wr:=fun b hb=>List.mem_cons_of_mem _ hb
  intro r
  induction r with
  | zero =>
    intro i s st stn hr hi hl hst h0k hS hrun hR
    obtain rfl:i=n:=by omega
    rw [<- hn,List.drop_length] at hrun
    cases hrun
    refine codeAny_builtin F.entry_set_update_loop ?_
    rw [Around.under_plainId F.plain_set_update_loop _]
    show wpAny _ A.in1 (pyNext (.ref I) >>= _) _ _ s
    refine wpAny_bind (W.done s _ _ hst fun s' hm=>?_)
    show wpAny _ A.in1 (ret Value.none) _ _ s'
    exact wpAny_pure (hR s' (hm.mono hsub) (hS.moved hN hSw fun b o hb e=>hm.heap b o hb e))
  | succ r ih =>
    intro i s st stn hr hi hl hst h0k hS hrun hR
    have hlt:i < n:=by omega
    refine codeAny_builtin F.entry_set_update_loop ?_
    rw [Around.under_plainId F.plain_set_update_loop _]
    show wpAny _ A.in1 (pyNext (.ref I) >>= _) _ _ s
    refine wpAny_bind (W.item i s _ _ hlt hst fun v s' hP hst' hm=>?_)
    obtain ⟨c,k,hk,rfl,hc,hcS,hcN⟩:=hval i v hP
    have hcw:=hN _ hcN
    have hdrop:ks.drop i=k::ks.drop (i+1):=by
      obtain ⟨h1,h2⟩:=List.getElem?_eq_some_iff.mp hk
      rw [List.drop_eq_getElem_cons h1,h2]
    rw [hdrop] at hrun
    obtain ⟨u,e1,e2⟩:=bind_some hrun
    have hS':=hS.moved hN hSw fun b o hb e=>hm.heap b o hb e
    have hc':TK prog w s'.heap k c:=by
      obtain ⟨ob,its,m,hb,rest⟩:=hc
      exact ⟨ob,its,m,hm.heap _ _ hcw (h0k _ _ hcS hcw hb),rest⟩
    show wpAny _ A.in1 (holding [Value.ref c] (setAdd S (.ref c)) >>= _) _ _ s'
    refine wpAny_bind (wpAny_holding ?_)
    refine wp_add_stepG hu hS' hc' hcN e1 (by omega) fun b h' hsb hS2=>?_
    have ul:u.1.length<=i+1:=by
      have:=stG_len e1
      omega
    refine wpAny_pure ⟨plainId_quiet F.plain_set_update_loop _,ih (i+1) _ u stn (by omega) hlt ul (W.frame _ s' _ _ hst' (by omega) fun b hb o e=>?_) (fun b o hbS hbw e=>?_) hS2 e2 fun s'' hm'' hS''=>?_⟩
    · rw [hsb.2 b (fun h:b=S=>hSf (by rw [<- h];exact hb))];exact e
    · show h'.get? b=some o
      rw [hsb.2 b hbS];exact hm.heap _ _ hbw (h0k b o hbS hbw e)
    · refine hR s'' (Moved.trans W.gtrans ((hm.mono hsub).then_heap (by omega) fun b o hb e=>?_) hm'') hS''
      rw [hsb.2 b (fun h:b=S=>hb (by rw [h];exact List.mem_cons_self))];exact e
end
end L2
namespace L2
open PySem PySem.Spec PyProof.Rows
theorem TupG.weak {prog:Program} {w:World} {ld:Bool} {N:List Int×Addr->Prop} {A:List Int×Addr->Prop} {h:Heap} {S:Addr} {st:SG} (x:TupG prog w ld (fun p=>A p/\N p) h S st):TupG prog w ld N h S st:=by
  obtain ⟨o,es,ep,t,bs,ho,hex,hd,te,hf,hes,hbl,hk,r⟩:=x.ex
  exact ⟨o,es,ep,t,bs,ho,hex,hd,te,hf,hes,hbl,fun p hp=>⟨(hk p hp).1,(hk p hp).2.2⟩,r⟩
end L2
namespace PySem
open PySem.Spec PyProof.Rows
section
variable {prog:Program} {w:World} {A:Around} {E:Value->Shared->Prop} {s:Shared}
theorem code_set_newG (a:Value) {Q₁:Value->Shared->Prop}
    (h:Q₁ (.ref s.heap.objs.size) { s with heap:=s.heap.push { cls:=.type "set",dict:=none,data:=.set #[] 0 (.fresh 0 0 (!w.params.followText "set-order")) } }) :
    codeAny (model prog w) A (.call (.builtin "set.__new__") ⟨[.type "set",a],[]⟩) (wants Q₁ E) s:=by
  refine codeAny_of_tree ?_
  show wpAny _ A.in1 (do checkBuiltinCall "set.__new__" ⟨[.type "set",a],[]⟩;again (.builtin "set.__new__" ⟨[.type "set",a],[]⟩)) _ _ s
  refine wpAny_bind (wpAny_of_eq (F.newCall_set_1 a) (wpAny_pure ⟨plainId_quiet F.plain_set_new _,codeAny_builtin F.entry_set_new ?_⟩))
  rw [Around.under_plainId F.plain_set_new _]
  unfold Builtin.«set.__new__» Builtin.Frozenset.newClass
  have hsub:=sub_set_self
  obtain ⟨hp,g,d,tk,os⟩:=s
  dsimp only
  wp_walk
  refine wpAny_askSetting (wpAny_pure ?_)
  dsimp only
  simp only [newObj]
  refine wpAny_bind (wpAny_alloc (wpAny_pure ?_))
  exact wpAny_pure h
set_option maxHeartbeats 8000000 in
theorem call_set_tupsG {l:Addr} {items:Array Value} {ks:List (List Int)} {stn:L2.SG} {Q:Value->Shared->Prop} (hh:A.handled=none) (hu:A.units+60 < cLine) (hl:s.heap.IsList l items) (hn:ks.length=items.size) (h500:items.size<=390)
    (hk:∀ (i:Nat) (v:Value),items[i]?=some v->∃ (c:Addr) (k:List Int),ks[i]?=some k/\v=Value.ref c/\L2.TK prog w s.heap k c) (hrun:L2.runG ks ([],7,#[])=some stn)
    (h:∀ (h':Heap) (tk:Nat),L2.TupG prog w (!w.params.followText "set-order") (fun p=>∃ i:Nat,ks[i]?=some p.1/\items[i]?=some (Value.ref p.2)) h' s.heap.objs.size stn->(∀ b o,b < s.heap.objs.size->s.heap.get? b=some o->h'.get? b=some o)->s.toks<=tk->Q (.ref s.heap.objs.size) { s with heap:=h',toks:=tk }) :
    wpAny (model prog w) A (call (.type "set") [.ref l]) Q E s:=by
  obtain ⟨c,tl,hmro⟩:=F.called_set.mro
  have hmade:=F.called_set.made
  have hsub:=F.called_set.sub
  refine wpAny_call (codeAny_of_tree ?_)
  show wpAny _ _ (callAny (.type "set") _) _ _ _
  refine wpAny_pure ⟨Code.quiet_builtin _ (by decide +kernel),codeAny_builtin F.entry_type_call ?_⟩
  rw [Around.under_plain (weight_type_call_type "set" [.ref l] []) rfl]
  have h1:=F.called_set.notType
  have h2:=F.called_set.canCreate
  have hct:=F.typeCall_set_1 (.ref l)
  repeat (any_goals (first | assumption | wp_step))
  refine codeAny_mono (code_set_newG (.ref l) (E:=E) (Q₁:=fun obj s₁=>obj=.ref s.heap.objs.size/\s₁={ s with heap:=s.heap.push { cls:=.type "set",dict:=none,data:=.set #[] 0 (.fresh 0 0 (!w.params.followText "set-order")) } }) ⟨rfl,rfl⟩) fun r s₁ hr=>?_
  cases r with
  | error e=>exact hr
  | ok fl =>
    cases fl with
    | ret obj =>
      obtain ⟨rfl,rfl⟩:=hr
      generalize hled:(!w.params.followText "set-order")=led at *
      have hS:(s.heap.push { cls:=.type "set",dict:=none,data:=.set #[] 0 (.fresh 0 0 led) }).get? s.heap.objs.size=some { cls:=.type "set",dict:=none,data:=.set #[] 0 (.fresh 0 0 led) }:=Heap.get?_push_size _ rfl
      have hT:Shared.TypeIs { s with heap:=s.heap.push { cls:=.type "set",dict:=none,data:=.set #[] 0 (.fresh 0 0 led) } } (.ref s.heap.objs.size) "set":=⟨_,hS,rfl⟩
      have hli:=F.called_set.init.lookup
      have hbi:=F.called_set.init.bind (.ref s.heap.objs.size)
      repeat (any_goals (first | assumption | wp_step))
      refine codeAny_mono (codeAny_call_builtin (R:=wants (fun r s₂=>r=.none/\∃ h' tk,s₂={ s with heap:=h',toks:=tk }/\L2.TupG prog w (!w.params.followText "set-order") (fun p=>∃ i:Nat,ks[i]?=some p.1/\items[i]?=some (Value.ref p.2)) h' s.heap.objs.size stn /\
          (∀ b o,b < s.heap.objs.size->s.heap.get? b=some o->h'.get? b=some o)/\s.toks<=tk) E) F.called_set.init.plain F.entry_set_init (check_set_init_1 hT ?_)) fun r₂ s₂ hr₂=>?_
      · obtain ⟨ol,hol,hcl,nl,hdl⟩:=hl
        obtain ⟨ocls,odict,odata,oslots⟩:=ol
        simp only at hcl hdl
        subst hcl;subst hdl
        have hol':(s.heap.push { cls:=.type "set",dict:=none,data:=.set #[] 0 (.fresh 0 0 led) }).get? l=some { cls:=.type "list",dict:=odict,data:=.seq items nl,slots:=oslots }:=Heap.get?_push_of_some _ hol
        have hsls:=F.sub_list_set
        have hslf:=F.sub_list_frozenset
        have hne:(Value.type "list" == Value.type "dict")=false:=by decide
        have hl1:(s.heap.push { cls:=.type "set",dict:=none,data:=.set #[] 0 (.fresh 0 0 led) }).IsList l items:=⟨_,hol',rfl,nl,rfl⟩
        unfold Builtin.«set.__init__» noKeywords Builtin.Frozenset.updateFrom
        generalize hPI:pyIter=PI
        wp_walk
        subst hPI
        refine wpAny_pyIter_list hl1 ?_
        refine wpAny_bind (wpAny_runValue ?_)
        have hlS:l < s.heap.objs.size:=Heap.lt_size hol
        have hh3:A.in1.in1.in1.handled=none:=by simp [hh]
        have hneI:l≠(s.heap.push { cls:=.type "set",dict:=none,data:=.set #[] 0 (.fresh 0 0 led) }).objs.size:=by
          rw [Heap.size_push];exact Nat.ne_of_lt (Nat.lt_succ_of_lt hlS)
        have hSf:s.heap.objs.size∉[(s.heap.push { cls:=.type "set",dict:=none,data:=.set #[] 0 (.fresh 0 0 led) }).objs.size,l]:=by
          rw [Heap.size_push];simp only [List.mem_cons,List.mem_singleton,List.not_mem_nil,or_false,not_or]
          exact ⟨Nat.ne_of_lt (Nat.lt_succ_self _),Nat.ne_of_gt hlS⟩
        have hval:∀ (i:Nat) (v:Value),items[i]?=some v->∃ (c:Addr) (k:List Int),ks[i]?=some k/\v=Value.ref c/\L2.TK prog w s.heap k c/\c≠s.heap.objs.size/\(c∉[(s.heap.push { cls:=.type "set",dict:=none,data:=.set #[] 0 (.fresh 0 0 led) }).objs.size]/\∃ i:Nat,ks[i]?=some k/\items[i]?=some (Value.ref c)):=fun i v hv=>by
          obtain ⟨c,k,e1,e2,e3⟩:=hk i v hv
          obtain ⟨ob,its,m,hb,rest⟩:=e3
          have lt:=Heap.lt_size hb
          refine ⟨c,k,e1,e2,⟨ob,its,m,hb,rest⟩,Nat.ne_of_lt lt,?_,i,e1,by rw [<- e2];exact hv⟩
          rw [Heap.size_push,List.mem_singleton]
          exact Nat.ne_of_lt (Nat.lt_succ_of_lt lt)
        refine L2.loop_setG (ld:=led) (N:=fun p=>p.2∉[(s.heap.push { cls:=.type "set",dict:=none,data:=.set #[] 0 (.fresh 0 0 led) }).objs.size]/\∃ i:Nat,ks[i]?=some p.1/\items[i]?=some (Value.ref p.2)) (fun p hp=>hp.1) ((Walks.list hh3 _ l hneI items).toS) s.heap.objs.size hSf (h0:=s.heap) (ks:=ks) hn h500 hval (by simp only [Around.in1_units];omega) (items.size - 0) 0 _ ([],7,#[]) stn (by omega) (Nat.zero_le _) (Nat.le_refl _)
          ⟨⟨_,Heap.get?_push_size _ rfl,rfl,rfl⟩,(hl1.push _)⟩ (fun b o _ _ e=>Heap.get?_push_of_some _ (Heap.get?_push_of_some _ e)) ?hS0 (by rw [List.drop_zero];exact hrun) ?hR
        case hS0 =>
          refine ⟨_,#[],0,_,[],Heap.get?_push_of_some _ hS,⟨rfl,rfl,rfl⟩,rfl,⟨rfl,rfl,rfl⟩,rfl,rfl,rfl,fun p hp=>(by cases hp),rfl,rfl⟩
        case hR =>
          intro s' hm hS'
          obtain ⟨h',g',d',tk',os'⟩:=s'
          have eg:g'=s.gens:=hm.gens
          have ed:d'=s.drawn:=hm.drawn
          have eo:os'=s.os:=hm.os
          subst eg;subst ed;subst eo
          show wpAny _ _ _ _ _ _
          refine wpAny_pure ?_
          show wpAny _ _ (ret Value.none) _ _ _
          refine wpAny_pure ⟨rfl,h',tk',rfl,(by rw [hled];exact L2.TupG.weak hS'),fun b o hb e=>?_,hm.toks⟩
          have hb1:b≠s.heap.objs.size:=Nat.ne_of_lt hb
          have hb2:b≠(s.heap.push { cls:=.type "set",dict:=none,data:=.set #[] 0 (.fresh 0 0 led) }).objs.size:=by
            rw [Heap.size_push];exact Nat.ne_of_lt (Nat.lt_succ_of_lt hb)
          exact hm.heap b o (by simp only [List.mem_cons,List.mem_singleton,List.not_mem_nil,or_false,not_or];exact ⟨hb1,hb2⟩) (Heap.get?_push_of_some _ (Heap.get?_push_of_some _ e))
      · cases r₂ with
        | error e=>exact hr₂
        | ok fl₂ =>
          cases fl₂ with
          | ret r =>
            obtain ⟨rfl,h',tk,rfl,hS',hk',htk⟩:=hr₂
            repeat (any_goals (first | assumption | wp_step))
            exact h _ _ (by rw [hled] at hS';exact hS') hk' htk
          | _=>exact hr₂.elim
    | _=>exact hr.elim
end
end PySem

namespace L2
open PySem PySem.Spec PyProof.Rows
namespace SI
theorem slot_next:Slot "set_iterator" "__next__" "set_iterator.__next__" :=
  .of (owner:="set_iterator") (n:="__next__") (by rw [typeLookup_type,builtinLookup_eq_fast];kernel_rfl) (by decide +kernel) (by decide +kernel) (by decide +kernel)
    (by first | exact .inl (by decide +kernel) | exact .inr (by decide +kernel)) (by rw [isSubtype_type];kernel_rfl)
theorem entry_next:entryFor table "set_iterator.__next__"=some Builtin.«set_iterator.__next__»:=entryFor_of_tree (by kernel_rfl)
theorem owner_si:Manifest.owners.lookup (String.ofList ['r','o','t','a','r','e','t','i','_','t','e','s'].reverse)=some Manifest.sig_set_iterator:=by kernel_rfl
theorem args_next (a:Value):argsOk "set_iterator.__next__" ⟨[a],[]⟩:=by
  unfold argsOk;rw [signature?_of (id:="set_iterator.__next__") (n:=['_','_','t','x','e','n','_','_']) (o:=['r','o','t','a','r','e','t','i','_','t','e','s']) (by kernel_rfl) owner_si];kernel_rfl
end SI
section
variable {prog:Program} {w:World} {A:Around} {E:Value->Shared->Prop} {s:Shared}
def SetIt (h:Heap) (it S:Addr) (p i n ep:Nat):Prop:=∃ o,h.get? it=some o/\o.cls=.type "set_iterator"/\o.data=.fields #[rawInt p,rawInt i,.ref S,rawInt n,rawInt ep]
theorem SetIt.typeIs {it S:Addr} {p i n ep:Nat} (x:SetIt s.heap it S p i n ep):s.TypeIs (.ref it) "set_iterator":=let ⟨o,ho,hc,_⟩:=x;⟨o,ho,hc⟩
def byT (w:World):Bool:=w.params.followText "set-order"
def wOrd (w:World) (S ep:Nat) (es:Array (Int×Value)):Array (Int×Value):=if byT w=true then pickOrder (w.params.setOrder S ep) es else es
def wPos (w:World) (t:SetTable) (i:Nat):Nat:=if byT w=true then 0 else if i=0 then 0 else t.place.getD (i - 1) 0+1
theorem next_some {S:Addr} {o:Obj} {es:Array (Int×Value)} {ep i:Nat} {t:SetTable} {e:Int×Value} {Q:Option (Value×Nat)->Shared->Prop} (ho:s.heap.get? S=some o) (hd:o.data=.set es ep t) (hf:t.fits es.size=true) (hpl:t.plain=true) (hled:t.led=!byT w)
    (hw:byT w=false->SetTable.below t.place (wPos w t i)=i) (he:(wOrd w S ep es)[i]?=some e) (hi:i < es.size) (h:Q (some (e.2,wPos w t (i+1))) s):wpAny (model prog w) A (setNext S (wPos w t i) i ep) Q E s:=by
  unfold setNext
  refine wpAny_bind (wpAny_setState_of ho hd hf ?_)
  dsimp only
  unfold setsByText
  refine wpAny_bind (wpAny_bind (wpAny_askSetting (wpAny_pure ?_)))
  show wpAny (model prog w) A (if byT w=true then _ else _) Q E s
  by_cases hb:byT w=true
  · rw [if_pos hb,if_neg (by simp)]
    unfold setWalk
    refine wpAny_bind (wpAny_bind (wpAny_setState_of ho hd hf ?_))
    dsimp only
    unfold setsByText
    refine wpAny_bind (wpAny_bind (wpAny_askSetting (wpAny_pure ?_)))
    show wpAny (model prog w) A (if byT w=true then _ else _) _ E s
    rw [if_pos hb]
    refine wpAny_bind (wpAny_askSetting (wpAny_pure ?_))
    refine wpAny_pure ?_
    unfold wOrd at he
    rw [if_pos hb] at he
    have e0:wPos w t (i+1)=wPos w t i:=by unfold wPos;rw [if_pos hb,if_pos hb]
    rw [e0] at h
    show Q (Option.map (fun e=>(e.2,wPos w t i)) (pickOrder (w.params.setOrder S ep) es)[i]?) s
    rw [he];exact h
  · rw [if_neg hb]
    have hb':byT w=false:=by simpa using hb
    rw [if_neg (by show ¬ ((!t.plain && decide (es.size > 1))=true);rw [hpl];simp)]
    have hl:t.led=true:=by rw [hled,hb'];rfl
    refine wpAny_bind ?_
    show wpAny _ _ (if (!t.led && !es.isEmpty)=true then _ else pure ()) _ _ s
    rw [if_neg (by rw [hl];simp)]
    refine wpAny_pure (wpAny_pure ?_)
    unfold wOrd at he
    rw [if_neg hb] at he
    rw [hw hb',he]
    have hp:t.place.size=es.size:=by
      simp only [SetTable.fits,Bool.and_eq_true,beq_iff_eq] at hf
      exact hf.1
    have e1:t.place[i]?=some (t.place.getD i 0):=by
      rw [Array.getD_eq_getD_getElem?,Array.getElem?_eq_getElem (by omega)];rfl
    rw [e1]
    have e2:wPos w t (i+1)=t.place.getD i 0+1:=by unfold wPos;rw [if_neg hb,if_neg (by omega)];rfl
    rw [e2] at h
    exact h
theorem next_none {S:Addr} {o:Obj} {es:Array (Int×Value)} {ep:Nat} {t:SetTable} {Q:Option (Value×Nat)->Shared->Prop} (ho:s.heap.get? S=some o) (hd:o.data=.set es ep t) (hf:t.fits es.size=true) (hpl:t.plain=true) (hled:t.led=!byT w)
    (hw:byT w=false->SetTable.below t.place (wPos w t es.size)=es.size) (hz:(wOrd w S ep es).size=es.size) (h:Q none s):wpAny (model prog w) A (setNext S (wPos w t es.size) es.size ep) Q E s:=by
  unfold setNext
  refine wpAny_bind (wpAny_setState_of ho hd hf ?_)
  dsimp only
  unfold setsByText
  refine wpAny_bind (wpAny_bind (wpAny_askSetting (wpAny_pure ?_)))
  show wpAny (model prog w) A (if byT w=true then _ else _) Q E s
  by_cases hb:byT w=true
  · rw [if_pos hb,if_neg (by simp)]
    unfold setWalk
    refine wpAny_bind (wpAny_bind (wpAny_setState_of ho hd hf ?_))
    dsimp only
    unfold setsByText
    refine wpAny_bind (wpAny_bind (wpAny_askSetting (wpAny_pure ?_)))
    show wpAny (model prog w) A (if byT w=true then _ else _) _ E s
    rw [if_pos hb]
    refine wpAny_bind (wpAny_askSetting (wpAny_pure ?_))
    refine wpAny_pure ?_
    unfold wOrd at hz
    rw [if_pos hb] at hz
    show Q (Option.map (fun e=>(e.2,wPos w t es.size)) (pickOrder (w.params.setOrder S ep) es)[es.size]?) s
    rw [Array.getElem?_eq_none (by omega)];exact h
  · rw [if_neg hb]
    have hb':byT w=false:=by simpa using hb
    rw [if_neg (by show ¬ ((!t.plain && decide (es.size > 1))=true);rw [hpl];simp)]
    have hl:t.led=true:=by rw [hled,hb'];rfl
    refine wpAny_bind ?_
    show wpAny _ _ (if (!t.led && !es.isEmpty)=true then _ else pure ()) _ _ s
    rw [if_neg (by rw [hl];simp)]
    refine wpAny_pure (wpAny_pure ?_)
    rw [hw hb',Array.getElem?_eq_none (Nat.le_refl _)]
    exact h
end
end L2

namespace L2
open PySem PySem.Spec PyProof.Rows
section
variable {prog:Program} {w:World} {A:Around} {E:Value->Shared->Prop} {s:Shared}
structure WSet (w:World) (h:Heap) (S:Addr) (es:Array (Int×Value)) (ep:Nat) (t:SetTable):Prop where
  at':∃ o,h.get? S=some o/\o.ExactSet/\o.data=.set es ep t
  fit:t.fits es.size=true
  pln:t.plain=true
  led:t.led=!byT w
  low:byT w=false->∀ i,i<=es.size->SetTable.below t.place (wPos w t i)=i
theorem WSet.keep {h h':Heap} {S:Addr} {es:Array (Int×Value)} {ep:Nat} {t:SetTable} (x:WSet w h S es ep t) (k:∀ o,h.get? S=some o->h'.get? S=some o):WSet w h' S es ep t :=
  ⟨let ⟨o,ho,r⟩:=x.at';⟨o,k o ho,r⟩,x.fit,x.pln,x.led,x.low⟩
theorem pyNext_set {it S:Addr} {es:Array (Int×Value)} {ep i:Nat} {t:SetTable} {e:Int×Value} {Q:Option Value->Shared->Prop} (hit:SetIt s.heap it S (wPos w t i) i es.size ep) (x:WSet w s.heap S es ep t) (hne:it≠S) (he:(wOrd w S ep es)[i]?=some e) (hi:i < es.size)
    (hQ:∀ h',SetIt h' it S (wPos w t (i+1)) (i+1) es.size ep->Heap.SameBut it s.heap h'->Q (some e.2) { s with heap:=h' }):wpAny (model prog w) A (pyNext (.ref it)) Q E s:=by
  obtain ⟨o,ho,hc,hd⟩:=id hit
  obtain ⟨oS,hoS,hex,hdS⟩:=x.at'
  unfold pyNext
  refine wpAny_bind (wpAny_attempt (wpAny_callSpecial?_slot (name:=Str.ofString "__next__") hit.typeIs SI.slot_next (wpAny_call_entry SI.slot_next hit.typeIs SI.entry_next ?_ (SI.args_next _))))
  unfold Builtin.«set_iterator.__next__»
  refine wpAny_bind (wpAny_pure ?_)
  refine wpAny_bind (wpAny_fieldsOf ho hd ?_)
  show wpAny _ A.in1 (setEntries S >>= _) _ _ s
  refine wpAny_bind (wpAny_setEntries_of hoS hdS x.fit ?_)
  rw [if_neg (by simp)]
  show wpAny _ A.in1 (setNext S (((wPos w t i:Nat):Int)).toNat (((i:Nat):Int)).toNat (((ep:Nat):Int)).toNat >>= _) _ _ s
  rw [Int.toNat_natCast,Int.toNat_natCast,Int.toNat_natCast]
  refine wpAny_bind (next_some hoS hdS x.fit x.pln x.led (fun hb=>x.low hb i (by omega)) he hi ?_)
  show wpAny _ A.in1 (setField (.ref it) 0 (rawInt ((wPos w t (i+1):Nat):Int)) >>= _) _ _ s
  refine wpAny_bind (wpAny_setField ho hd (by simp) ?_)
  have ho1:=Heap.get?_update_self (Obj.mapFields (·.setIfInBounds 0 (rawInt ((wPos w t (i+1):Nat):Int)))) ho (Obj.isFreed_of_fields (Obj.data_mapFields hd _))
  have hd1:=Obj.data_mapFields hd (·.setIfInBounds 0 (rawInt ((wPos w t (i+1):Nat):Int)))
  show wpAny _ A.in1 (setField (.ref it) 1 (rawInt (((i:Nat):Int)+1)) >>= _) _ _ _
  refine wpAny_bind (wpAny_setField (s:={ s with heap:=s.heap.update it (Obj.mapFields (·.setIfInBounds 0 (rawInt ((wPos w t (i+1):Nat):Int)))) }) ho1 hd1 (by simp) ?_)
  have ho2:=Heap.get?_update_self (Obj.mapFields (·.setIfInBounds 1 (rawInt (((i:Nat):Int)+1)))) ho1 (Obj.isFreed_of_fields (Obj.data_mapFields hd1 _))
  refine wpAny_pure ⟨_,rfl,wpAny_pure (hQ _ ⟨_,ho2,?_,?_⟩ ((Heap.SameBut.update ..).trans (Heap.SameBut.update ..)))⟩
  · rw [Obj.cls_mapFields,Obj.cls_mapFields];exact hc
  · rw [Obj.data_mapFields hd1];simp [rawInt]
theorem pyNext_set_end {it S:Addr} {es:Array (Int×Value)} {ep:Nat} {t:SetTable} {Q:Option Value->Shared->Prop} (hh:A.handled=none) (hit:SetIt s.heap it S (wPos w t es.size) es.size es.size ep) (x:WSet w s.heap S es ep t) (hz:(wOrd w S ep es).size=es.size)
    (hQ:∀ h',Heap.ExtBut it s.heap h'->Q none { s with heap:=h' }):wpAny (model prog w) A (pyNext (.ref it)) Q E s:=by
  obtain ⟨o,ho,hc,hd⟩:=id hit
  obtain ⟨oS,hoS,hex,hdS⟩:=x.at'
  unfold pyNext
  refine wpAny_bind (wpAny_attempt (wpAny_callSpecial?_slot (name:=Str.ofString "__next__") hit.typeIs SI.slot_next (wpAny_call_entry SI.slot_next hit.typeIs SI.entry_next ?_ (SI.args_next _))))
  unfold Builtin.«set_iterator.__next__»
  refine wpAny_bind (wpAny_pure ?_)
  refine wpAny_bind (wpAny_fieldsOf ho hd ?_)
  show wpAny _ A.in1 (setEntries S >>= _) _ _ s
  refine wpAny_bind (wpAny_setEntries_of hoS hdS x.fit ?_)
  rw [if_neg (by simp)]
  show wpAny _ A.in1 (setNext S (((wPos w t es.size:Nat):Int)).toNat (((es.size:Nat):Int)).toNat (((ep:Nat):Int)).toNat >>= _) _ _ s
  rw [Int.toNat_natCast,Int.toNat_natCast,Int.toNat_natCast]
  refine wpAny_bind (next_none hoS hdS x.fit x.pln x.led (fun hb=>x.low hb es.size (Nat.le_refl _)) hz ?_)
  show wpAny _ A.in1 (setField (.ref it) 2 .none >>= _) _ _ s
  refine wpAny_bind (wpAny_setField ho hd (by simp) ?_)
  show wpAny _ _ (newExc (.type "StopIteration") [] >>= _) _ _ _
  refine wpAny_bind ?_
  simp only [newExc,newTuple]
  refine wpAny_bind (wpAny_newObj_type ?_ (by size_fits))
  refine wpAny_bind (m:=firstArgMember _ _) (wpAny_of_eq (a:=Value.none) (by first | rfl | (simp only [firstArgMember];rfl)) ?_)
  refine wpAny_newObj_type ?_ (by size_fits)
  simp only [raiseNew]
  refine wpAny_bind (wpAny_handled ?_)
  rw [show A.in1.handled=none from hh]
  refine wpAny_bind (wpAny_pure (wpAny_throw ?_))
  refine wpAny_bind (wpAny_isInstance (T:="StopIteration") (b:=true) ⟨_,Heap.get?_push_size _ rfl,rfl⟩ isSubtype_stop ?_)
  exact wpAny_pure (hQ _ (((Heap.SameBut.update ..).extBut.push _).push _))
end
end L2

namespace L2
open PySem PySem.Spec PyProof.Rows
theorem SI.entry_iter:entryFor table "set.__iter__"=some Builtin.«frozenset.__iter__» :=
  entryFor_alias (id':="frozenset.__iter__") (by kernel_rfl) rfl (by decide +kernel) (by kernel_rfl)
theorem SI.slot_iter:Slot "set_iterator" "__iter__" "set_iterator.__iter__" :=
  .of (owner:="set_iterator") (n:="__iter__") (by rw [typeLookup_type,builtinLookup_eq_fast];kernel_rfl) (by decide +kernel) (by decide +kernel) (by decide +kernel)
    (by first | exact .inl (by decide +kernel) | exact .inr (by decide +kernel)) (by rw [isSubtype_type];kernel_rfl)
theorem SI.entry_iter':entryFor table "set_iterator.__iter__"=some Builtin.«dict_keyiterator.__iter__» :=
  entryFor_alias (id':="dict_keyiterator.__iter__") (by kernel_rfl) rfl (by decide +kernel) (by kernel_rfl)
theorem SI.args_iter (a:Value):argsOk "set_iterator.__iter__" ⟨[a],[]⟩:=by
  unfold argsOk;rw [signature?_of (id:="set_iterator.__iter__") (n:=['_','_','r','e','t','i','_','_']) (o:=['r','o','t','a','r','e','t','i','_','t','e','s']) (by kernel_rfl) SI.owner_si];kernel_rfl
section
variable {prog:Program} {w:World} {A:Around} {E:Value->Shared->Prop} {s:Shared}
theorem pyIter_set {S:Addr} {es:Array (Int×Value)} {ep:Nat} {t:SetTable} {Q:Value->Shared->Prop} (x:WSet w s.heap S es ep t)
    (hQ:Q (.ref s.heap.objs.size) { s with heap:=s.heap.push { cls:=.type "set_iterator",data:=.fields #[rawInt 0,rawInt 0,.ref S,rawInt es.size,rawInt ep] } }):wpAny (model prog w) A (pyIter (.ref S)) Q E s:=by
  obtain ⟨oS,hoS,hex,hdS⟩:=x.at'
  have hT:s.TypeIs (.ref S) "set":=⟨_,hoS,hex.1⟩
  refine wpAny_pyIter_slot hT F.slot_set_iter (wpAny_call_entry F.slot_set_iter hT SI.entry_iter ?_ (F.args_set_iter_1 _))
  unfold Builtin.«frozenset.__iter__» Builtin.Frozenset.slot0 slotArgs
  simp only [List.isEmpty_nil,Bool.not_true,Bool.false_eq_true,↓reduceIte,bind_assoc,List.length_nil,bne_self_eq_false]
  unfold Builtin.Frozenset.addrOf Builtin.Frozenset.sizeOf
  refine wpAny_bind (wpAny_pure ?_)
  try dsimp only
  refine wpAny_bind (wpAny_pure ?_)
  refine wpAny_bind (wpAny_bind (wpAny_setEntries_of hoS hdS x.fit (wpAny_pure ?_)))
  unfold setDrawn
  refine wpAny_bind (wpAny_bind (wpAny_setState_of hoS hdS x.fit ?_))
  dsimp only
  unfold setsByText
  refine wpAny_bind (wpAny_bind (wpAny_askSetting (wpAny_pure ?_)))
  refine wpAny_pure ?_
  show wpAny _ _ (if (!byT w && (!t.plain && decide (es.size > 1)))=true then _ else _) _ _ s
  rw [if_neg (by rw [x.pln];simp)]
  refine wpAny_bind (wpAny_pure ?_)
  refine wpAny_bind (wpAny_setEpoch_of hoS hdS x.fit ?_)
  refine wpAny_bind (wpAny_newObj_type (wpAny_pure ⟨_,rfl,"set_iterator",_,⟨_,Heap.get?_push_size _ rfl,rfl⟩,SI.slot_next.lookup,?_⟩))
  exact hQ
theorem pyIter_self {it S:Addr} {p i n ep:Nat} {Q:Value->Shared->Prop} (hit:SetIt s.heap it S p i n ep) (h:Q (.ref it) s):wpAny (model prog w) A (pyIter (.ref it)) Q E s:=by
  refine wpAny_pyIter_slot hit.typeIs SI.slot_iter (wpAny_call_entry SI.slot_iter hit.typeIs SI.entry_iter' ?_ (SI.args_iter _))
  show wpAny _ _ (ret (.ref it)) _ _ s
  exact wpAny_pure ⟨_,rfl,"set_iterator",_,hit.typeIs,SI.slot_next.lookup,h⟩
theorem walks_set (hh:A.handled=none) (I S:Addr) (hne:S≠I) (es:Array (Int×Value)) (ep:Nat) (t:SetTable) (hz:(wOrd w S ep es).size=es.size) :
    Walks prog w A I [I,S] [I] es.size (fun i v=>∃ e,(wOrd w S ep es)[i]?=some e/\v=e.2) (fun i h=>SetIt h I S (wPos w t i) i es.size ep/\WSet w h S es ep t) where
  sub:=fun b hb=>by simp at hb;simp [hb]
  frame:=fun _ _ _ st hk=>⟨let ⟨o,ho,r⟩:=st.1;⟨o,hk I (by simp) o ho,r⟩,st.2.keep fun o e=>hk S (by simp) o e⟩
  item:=fun i s Q E hi st hQ=>by
    obtain ⟨e,he⟩:∃ e,(wOrd w S ep es)[i]?=some e:=⟨(wOrd w S ep es)[i],by rw [Array.getElem?_eq_getElem]⟩
    refine pyNext_set st.1 st.2 (Ne.symm hne) he hi fun h' hit' hs'=>?_
    exact hQ _ h' s.toks ⟨e,he,rfl⟩ ⟨hit',st.2.keep fun o q=>by rw [hs'.2 S hne];exact q⟩ fun b o hb q=>hs'.extBut b o (fun h=>hb (by simp [h])) q
  done:=fun s Q E st hQ=>pyNext_set_end hh st.1 st.2 hz fun h' he'=>hQ h' s.toks fun b o hb q=>he' b o (fun h=>hb (by simp [h])) q
  self:=fun i s Q E st hQ=>pyIter_self st.1 hQ
theorem collect_set {S:Addr} {es:Array (Int×Value)} {ep:Nat} {t:SetTable} {Q:List Value->Shared->Prop} (hh:A.handled=none) (hu:A.units+20 < cLine) (x:WSet w s.heap S es ep t) (hz:(wOrd w S ep es).size=es.size) (hn:es.size<=1000)
    (hQ:∀ (h':Heap) (tk:Nat) (acc:Array Value),(∀ b o,s.heap.get? b=some o->h'.get? b=some o)->s.heap.objs.size < h'.objs.size->s.toks<=tk->acc.toList=(wOrd w S ep es).toList.map (·.2)->Q acc.toList { s with heap:=h',toks:=tk }):wpAny (model prog w) A (collect (.ref S)) Q E s:=by
  obtain ⟨oS,hoS,hex,hdS⟩:=x.at'
  have hT:s.TypeIs (.ref S) "set":=⟨_,hoS,hex.1⟩
  have hSlt:=Heap.lt_size hoS
  unfold collect
  refine wpAny_bind (wpAny_runValue (codeAny_builtin F.entry_proto_collect ?_))
  rw [Around.under_plainId F.plain_proto_collect _]
  show wpAny _ A.in1 (newList [] >>= fun l=>again (.builtin "list.__iadd__" ⟨[l,.ref S],[]⟩)) _ _ s
  refine wpAny_bind (wpAny_newObj_type ?_)
  refine wpAny_pure ⟨plainId_quiet F.plain_list_iadd _,codeAny_builtin F.entry_list_iadd ?_⟩
  rw [Around.under_plainId F.plain_list_iadd _]
  show wpAny _ A.in1 (Builtin.List.listExtendWith (.ref s.heap.objs.size) (.ref S) (.ref s.heap.objs.size)) _ _ _
  unfold Builtin.List.listExtendWith
  have hT1:Shared.TypeIs { s with heap:=s.heap.push { cls:=.type "list",data:=.seq ([]:List Value).toArray } } (.ref S) "set":=⟨_,Heap.get?_push_of_some _ hoS,hex.1⟩
  refine wpAny_bind (wpAny_typeOf hT1 ?_)
  have h1:Builtin.List.listSameRef (.ref s.heap.objs.size) (.ref S)=false:=by simp [Builtin.List.listSameRef];exact Nat.ne_of_gt hSlt
  have h2:(Value.type "set" == Value.type "list")=false:=by decide
  have h3:(Value.type "set" == Value.type "tuple")=false:=by decide
  simp only [h1,h2,h3,Bool.or_false,Bool.false_eq_true,if_false]
  have x1:WSet w (s.heap.push { cls:=.type "list",data:=.seq ([]:List Value).toArray }) S es ep t:=x.keep fun o e=>Heap.get?_push_of_some _ e
  refine wpAny_bind (pyIter_set x1 ?_)
  refine wpAny_bind (wpAny_holding ?_)
  unfold Builtin.List.listLengthHint
  generalize hI:({ s with heap:=s.heap.push { cls:=.type "list",data:=.seq ([]:List Value).toArray } }:Shared).heap.objs.size=I
  have hIv:I=s.heap.objs.size+1:=by rw [<- hI];exact Heap.size_push ..
  have hoS2:((s.heap.push { cls:=.type "list",data:=.seq ([]:List Value).toArray }).push { cls:=.type "set_iterator",data:=.fields #[rawInt 0,rawInt 0,.ref S,rawInt es.size,rawInt ep] }).get? S=some oS:=Heap.get?_push_of_some _ (Heap.get?_push_of_some _ hoS)
  have hT2:Shared.TypeIs { s with heap:=(s.heap.push { cls:=.type "list",data:=.seq ([]:List Value).toArray }).push { cls:=.type "set_iterator",data:=.fields #[rawInt 0,rawInt 0,.ref S,rawInt es.size,rawInt ep] } } (.ref S) "set":=⟨_,hoS2,hex.1⟩
  refine wpAny_bind (wpAny_specialOf hT2 F.slot_set_len.lookup ?_)
  show wpAny _ A.in1 (isInstance (.ref S) (.type "set") >>= _) _ _ _
  refine wpAny_bind (wpAny_isInstance hT2 sub_set_self ?_)
  show wpAny _ A.in1 (typeOf (.ref S) >>= _) _ _ _
  refine wpAny_bind (wpAny_typeOf hT2 ?_)
  refine wpAny_pure ?_
  show wpAny _ A.in1 (rule "list.extend.makes-room" >>= fun _=>Builtin.List.listTouch (.ref s.heap.objs.size) >>= fun _ =>
    again (.builtin "list.extend.loop" ⟨[.ref s.heap.objs.size,.ref I,.ref s.heap.objs.size],[]⟩)) _ _ _
  refine wpAny_bind (wpAny_rule ?_)
  have hS₁:((s.heap.push { cls:=.type "list",data:=.seq ([]:List Value).toArray }).push { cls:=.type "set_iterator",data:=.fields #[rawInt 0,rawInt 0,.ref S,rawInt es.size,rawInt ep] }).get? s.heap.objs.size=some { cls:=.type "list",data:=.seq ([]:List Value).toArray }:=Heap.get?_push_of_some _ (Heap.get?_push_size _ rfl)
  refine wpAny_bind ?_
  show wpAny _ A.in1 (updateSeq s.heap.objs.size (·.push .none) >>= fun _=>updateSeq s.heap.objs.size (·.pop)) _ _ _
  refine wpAny_bind (wpAny_updateSeq hS₁ rfl ?_)
  have hS₂:=Heap.get?_update_self (Obj.mapSeq (·.push Value.none)) hS₁ rfl
  refine wpAny_updateSeq hS₂ rfl ?_
  have hS₃:=Heap.get?_update_self (Obj.mapSeq (·.pop)) hS₂ rfl
  have oth:∀ b o,b≠s.heap.objs.size->((s.heap.push { cls:=.type "list",data:=.seq ([]:List Value).toArray }).push { cls:=.type "set_iterator",data:=.fields #[rawInt 0,rawInt 0,.ref S,rawInt es.size,rawInt ep] }).get? b=some o ->
      ((((s.heap.push { cls:=.type "list",data:=.seq ([]:List Value).toArray }).push { cls:=.type "set_iterator",data:=.fields #[rawInt 0,rawInt 0,.ref S,rawInt es.size,rawInt ep] }).update s.heap.objs.size (Obj.mapSeq (·.push Value.none))).update s.heap.objs.size (Obj.mapSeq (·.pop))).get? b=some o :=
    fun b o hb e=>(Heap.get?_update_other _ _ (Ne.symm hb)).trans ((Heap.get?_update_other _ _ (Ne.symm hb)).trans e)
  have hIne:S≠I:=by rw [hIv];exact Nat.ne_of_lt (Nat.lt_succ_of_lt hSlt)
  have hSf:s.heap.objs.size∉[I,S]:=by
    simp only [List.mem_cons,List.not_mem_nil,or_false,not_or]
    exact ⟨by rw [hIv];exact Nat.ne_of_lt (Nat.lt_succ_self _),Nat.ne_of_gt hSlt⟩
  have p0:wPos w t 0=0:=by unfold wPos;split <;> rfl
  have hit0:((s.heap.push { cls:=.type "list",data:=.seq ([]:List Value).toArray }).push { cls:=.type "set_iterator",data:=.fields #[rawInt 0,rawInt 0,.ref S,rawInt es.size,rawInt ep] }).get? I=some { cls:=.type "set_iterator",data:=.fields #[rawInt 0,rawInt 0,.ref S,rawInt es.size,rawInt ep] }:=by
    rw [<- hI];exact Heap.get?_push_size _ rfl
  refine wpAny_pure ⟨plainId_quiet F.plain_extend_loop _,codeAny_extend_loopS ((walks_set (A:=A.in1) hh I S hIne es ep t hz).toS) (by rw [show sizeLine=16777216 from sizeLine_eq];omega) _ hSf _ es.size 0 _ _ _ rfl (Nat.zero_le _) ?st hS₃ (ItemsOf.nil _) fun s' acc' c' hm hS' hacc=>?_⟩
  case st =>
    refine ⟨⟨_,oth _ _ (by rw [hIv];exact Nat.ne_of_gt (Nat.lt_succ_self _)) hit0,rfl,by rw [p0];rfl⟩,x1.keep fun o e=>oth _ _ (Nat.ne_of_lt hSlt) (Heap.get?_push_of_some _ e)⟩
  show wpAny _ A (load s.heap.objs.size >>= _) _ _ s'
  refine wpAny_bind (wpAny_load hS' ?_)
  obtain ⟨h',g',d',tk',os'⟩:=s'
  have eg:g'=s.gens:=hm.gens
  have ed:d'=s.drawn:=hm.drawn
  have eo:os'=s.os:=hm.os
  subst eg;subst ed;subst eo
  refine wpAny_pure (hQ h' tk' acc' (fun b o e=>?_) (Heap.lt_size hS') hm.toks ?_)
  · have hlt:=Heap.lt_size e
    have hb1:b≠s.heap.objs.size:=Nat.ne_of_lt hlt
    refine hm.heap b o (by simp only [List.mem_cons,List.not_mem_nil,or_false,not_or];exact ⟨hb1,by rw [hIv];exact Nat.ne_of_lt (Nat.lt_succ_of_lt hlt)⟩) (oth b o hb1 (Heap.get?_push_of_some _ (Heap.get?_push_of_some _ e)))
  · obtain ⟨hsz,hP⟩:=hacc
    refine List.ext_getElem (by rw [Array.length_toList,List.length_map,Array.length_toList,hsz,hz]) fun i h1 h2=>?_
    have hi:i < acc'.size:=by rw [Array.length_toList] at h1;exact h1
    obtain ⟨e,he,hv⟩:=hP i acc'[i] (Array.getElem?_eq_getElem hi)
    rw [Array.getElem_toList,List.getElem_map,Array.getElem_toList,hv]
    have:(wOrd w S ep es)[i]=e:=by
      rw [Array.getElem?_eq_getElem (by omega)] at he
      exact Option.some.inj he
    rw [this]
end
end L2

namespace L2
open PySem PySem.Spec PyProof.Rows
theorem er_perm {α:Type}:∀ (l:List α) (i:Nat) (h:i < l.length),(l[i]::l.eraseIdx i).Perm l:=by
  intro l
  induction l with
  | nil=>intro i h;simp at h
  | cons a l ih =>
    intro i h
    cases i with
    | zero=>simp
    | succ i =>
      have:=ih i (by simpa using h)
      rw [List.getElem_cons_succ,List.eraseIdx_cons_succ]
      exact (List.Perm.swap a _ _).trans (this.cons a)
theorem er_map {α β:Type} (f:α->β):∀ (l:List α) (i:Nat),(l.map f).eraseIdx i=(l.eraseIdx i).map f:=by
  intro l
  induction l with
  | nil=>intro i;simp
  | cons a l ih =>
    intro i
    cases i with
    | zero=>simp
    | succ i=>rw [List.map_cons,List.eraseIdx_cons_succ,ih,List.eraseIdx_cons_succ,List.map_cons]
theorem go_perm {α:Type} (next:Nat->Nat):∀ (fuel k:Nat) (left:List α) (out:Array α),left.length<=fuel->(pickOrder.go next fuel k left out).toList.Perm (out.toList++left):=by
  intro fuel
  induction fuel with
  | zero =>
    intro k left out h
    have:left=[]:=List.length_eq_zero_iff.mp (by omega)
    subst this
    unfold pickOrder.go
    rw [List.append_nil]
  | succ fuel ih =>
    intro k left out h
    unfold pickOrder.go
    cases left with
    | nil=>simp
    | cons a l =>
      have hi:next k % (a::l).length < (a::l).length:=Nat.mod_lt _ (by simp)
      rw [List.getElem?_eq_getElem hi]
      dsimp only
      have ln:=List.length_eraseIdx_of_lt hi
      refine (ih (k+1) _ _ (by rw [ln];omega)).trans ?_
      rw [Array.toList_push,List.append_assoc]
      refine List.Perm.append_left _ ?_
      exact er_perm _ _ hi
theorem go_map {α β:Type} (f:α->β) (next:Nat->Nat):∀ (fuel k:Nat) (left:List α) (out:Array α),pickOrder.go next fuel k (left.map f) (out.map f)=(pickOrder.go next fuel k left out).map f:=by
  intro fuel
  induction fuel with
  | zero=>intro k left out;rfl
  | succ fuel ih =>
    intro k left out
    unfold pickOrder.go
    rw [List.length_map,List.getElem?_map]
    cases left[next k % left.length]? with
    | none=>rfl
    | some x =>
      dsimp only [Option.map]
      rw [<- ih,er_map,Array.map_push]
theorem wOrd_zip {w:World} {S ep:Nat} {es:Array (Int×Value)} {zl:List (List Int×Addr)} (h:es.toList=zl.map (fun p=>(hk9 p.1,Value.ref p.2))):∃ zl':List (List Int×Addr),zl'.Perm zl/\(wOrd w S ep es).toList=zl'.map (fun p=>(hk9 p.1,Value.ref p.2)):=by
  unfold wOrd
  split
  · have e:es=zl.toArray.map (fun p=>(hk9 p.1,Value.ref p.2)):=Array.ext' (by rw [h,Array.toList_map])
    refine ⟨(pickOrder (w.params.setOrder S ep) zl.toArray).toList,?_,?_⟩
    · have:=go_perm (w.params.setOrder S ep) zl.toArray.size 0 zl #[] (by rw [List.size_toArray];exact Nat.le_refl _)
      simpa [pickOrder] using this
    · rw [e]
      unfold pickOrder
      rw [Array.size_map,Array.toList_map]
      have:=go_map (fun p:List Int×Addr=>(hk9 p.1,Value.ref p.2)) (w.params.setOrder S ep) zl.toArray.size 0 zl.toArray.toList #[]
      rw [Array.map_empty] at this
      rw [this,Array.toList_map]
  · exact ⟨zl,List.Perm.refl _,h⟩
end L2

namespace L2
open PySem PySem.W PySem.Spec PyProof.Rows HT
section
variable {prog:Program} {w:World} {A:Around} {E:Value->Shared->Prop} {s:Shared}
theorem intsAre_items {prog:Program} {w:World}:∀ {ns:List Int} {vs:List Value},PySem.ItemsAre (intKind prog w) ns vs->IntsAre vs ns:=by
  intro ns vs h
  induction h with
  | nil=>exact .nil
  | cons h1 _ ih =>
    obtain ⟨t,rfl⟩:=Value.isInt_shape h1
    exact .cons _ t ih
theorem tupAts_of {h:Heap}:∀ {zl:List (List Int×Addr)},(∀ p∈zl,TK prog w h p.1 p.2)->TupAts h (zl.map (·.1)) (zl.map fun p=>Value.ref p.2)
  | [],_=>rfl
  | p::zl,hk=>by
    obtain ⟨o,items,n,ho,hc,hd,hi⟩:=hk p List.mem_cons_self
    refine ⟨p.2,items.toList,_,rfl,intsAre_items hi,⟨o,ho,hc,n,by simpa using hd⟩,tupAts_of fun q hq=>hk q (List.mem_cons_of_mem _ hq)⟩
theorem sorted_set {S:Addr} {es:Array (Int×Value)} {ep:Nat} {t:SetTable} {zl:List (List Int×Addr)} {Q:Value->Shared->Prop} (hh:A.handled=none) (hu:A.units+40 < cLine) (x:WSet w s.heap S es ep t) (hes:es.toList=zl.map (fun p=>(hk9 p.1,Value.ref p.2))) (h64:zl.length < 64)
    (nd:(zl.map (·.1)).Nodup) (hne:∀ k∈zl.map (·.1),k≠[]) (hk:∀ p∈zl,TK prog w s.heap p.1 p.2)
    (hQ:∀ (h':Heap) (tk:Nat) (a:Addr) (e:Nat) (zs:List (List Int×Addr)),(∀ b o,s.heap.get? b=some o->h'.get? b=some o)->s.heap.objs.size<=a->zs.Perm zl->zs.map (·.1)=tsort (zl.map (·.1))->h'.get? a=some (seqObj "list" (List.toArray (zs.map fun p=>Value.ref p.2)) e)->Q (.ref a) { s with heap:=h',toks:=tk }) :
    wpAny (model prog w) A (call (.builtin "sorted") [.ref S]) Q E s:=by
  obtain ⟨zo,pm,ew⟩:=wOrd_zip (w:=w) (S:=S) (ep:=ep) hes
  have esz:es.size=zl.length:=by rw [<- Array.length_toList,hes,List.length_map]
  have hz:(wOrd w S ep es).size=es.size:=by rw [<- Array.length_toList,ew,List.length_map,pm.length_eq,esz]
  refine Calls.call_function_entry kind_sorted plain_sorted entry_sorted (args_sorted1 _) ?_
  unfold Builtin.«sorted»
  refine wpAny_bind (m:=checkCount "sorted" 1 1 _) (wpAny_pure ?_)
  refine wpAny_bind (collect_set (A:=A.in1) hh (by simp only [Around.in1_units];omega) x hz (by omega) fun h1 tk acc hkeep hgrow htk hacc=>?_)
  have hacc':acc.toList=zo.map fun p=>Value.ref p.2:=by rw [hacc,ew,List.map_map];rfl
  rw [hacc']
  have zlen:zo.length=zl.length:=pm.length_eq
  refine wpAny_bind (wpAny_newList ?_ (by rw [List.length_map,sizeLine_eq];omega))
  have hoL:(h1.push { cls:=.type "list",data:=.seq (zo.map fun p=>Value.ref p.2).toArray }).get? h1.objs.size=some (seqObj "list" (zo.map fun p=>Value.ref p.2).toArray 0):=Heap.get?_push_size _ rfl
  have ndo:(zo.map (·.1)).Nodup:=((pm.map _).nodup_iff).mpr nd
  have ko:=kord_keys ndo
  have hko:∀ p∈zo,TK prog w (h1.push { cls:=.type "list",data:=.seq (zo.map fun p=>Value.ref p.2).toArray }) p.1 p.2:=fun p hp=>by
    obtain ⟨o,items,n,ho,r⟩:=hk p (pm.mem_iff.mp hp)
    exact ⟨o,items,n,Heap.get?_push_of_some _ (hkeep _ _ ho),r⟩
  have ll:(zo.map fun p=>Value.ref p.2).length=(zo.map (·.1)).length:=by rw [List.length_map,List.length_map]
  rw [<- ll] at ko
  refine wpAny_bind (wpAny_holding (wpAny_call_entry slot_list_sort ⟨_,hoL,rfl⟩ entry_list_sort (list_sort_by (s:={ s with heap:=h1.push { cls:=.type "list",data:=.seq (zo.map fun p=>Value.ref p.2).toArray },toks:=tk }) hoL (by rw [List.length_map];omega) ko (fun h2 h' hk'=>?_) fun p hp hr=>⟨_,rfl,?_⟩) (args_list_sort _)))
  · refine ask_ok (s:={ s with heap:=h',toks:=tk }) (tupAts_of (prog:=prog) (w:=w) fun p hp=>?_) (fun k hk2=>hne k ((pm.map _).mem_iff.mp hk2)) h2
    obtain ⟨o,items,n,ho,r⟩:=hk p (pm.mem_iff.mp hp)
    have hlt:p.2 < h1.objs.size:=Heap.lt_size (hkeep _ _ ho)
    exact ⟨o,items,n,hk' _ _ (Nat.ne_of_lt hlt) (Heap.get?_push_of_some _ (hkeep _ _ ho)),r⟩
  · rw [ll] at hp hr
    obtain ⟨e,he⟩:=sortedHeap_at (out:=List.toArray (p.toList.map fun i=>(zo.map fun p=>Value.ref p.2).getD i Value.none)) hoL
    have lt:∀ i∈p.toList,i < zo.length:=fun i hi=>by
      have:=List.mem_range.mp ((kp_perm hp).mem_iff.mp hi)
      rw [List.length_map] at this;exact this
    have ez:(p.toList.map fun i=>(zo.map fun p=>Value.ref p.2).getD i Value.none)=(p.toList.map fun i=>zo.getD i ([],0)).map fun p=>Value.ref p.2:=by
      rw [List.map_map]
      refine List.map_congr_left fun i hi=>?_
      have:=lt i hi
      simp [List.getD_eq_getElem?_getD,this]
    have ek:(p.toList.map fun i=>zo.getD i ([],0)).map (·.1)=tsort (zl.map (·.1)):=by
      have e1:=kp_sorted hp hr
      have e2:tsort (zo.map (·.1))=tsort (zl.map (·.1)):=tsort_unique ((List.mergeSort_perm _ _).trans (pm.map _)) (by
        rw [<- e1,List.pairwise_map,List.pairwise_iff_getElem]
        intro i j hi hj hij
        have hl:p.toList.length=(zo.map (·.1)).length:=by rw [Array.length_toList];exact hp.size
        have hka:∀ i (hi:i < p.toList.length),p.toList[i]=ka p i:=fun i hi=>by
          unfold ka
          rw [Array.getD_eq_getD_getElem?,Array.getElem?_eq_getElem (by rw [hp.size];omega)]
          simp
        rw [hka,hka]
        exact hr i j hij (by omega))
      rw [<- e2,<- e1,List.map_map]
      refine List.map_congr_left fun i hi=>?_
      have:=lt i hi
      simp [List.getD_eq_getElem?_getD,this]
    have pz:(p.toList.map fun i=>zo.getD i ([],0)).Perm zl:=by
      have:=(kp_perm hp).map (fun i=>zo.getD i ([],0))
      rw [List.length_map,seq_getD] at this
      exact this.trans pm
    rw [ez] at he
    refine wpAny_pure ⟨_,rfl,hQ _ tk _ e _ (fun b o eb=>?_) ?_ pz ek (by rw [<- ez] at he ⊢;exact he)⟩
    · have hlt:b < h1.objs.size:=Heap.lt_size (hkeep _ _ eb)
      rw [sortedHeap_old (Nat.ne_of_lt hlt) (by rw [Heap.size_push];exact Nat.lt_succ_of_lt hlt)]
      exact Heap.get?_push_of_some _ (hkeep _ _ eb)
    · exact Nat.le_of_lt hgrow
end
end L2

namespace L2
open PySem PySem.W PySem.Spec PyProof.Rows HT
def okW (st:SG):Bool:=(List.range (st.1.length+1)).all fun i=>SetTable.below st.2.2 (if i=0 then 0 else st.2.2.getD (i - 1) 0+1) == i
def ssetD:D->Option D
  | .lst ds=>(tupsOf ds).bind fun ks=>if ks.length<=390 then (runG ks ([],7,#[])).bind fun st=>if st.1.length < 64/\st.1.Nodup/\(∀ k∈st.1,k≠[])/\okW st=true then some (.lst ((tsort st.1).map kT)) else none else none
  | _=>none
section
variable {X:Cx} {pos:Pos}
def setQ (w:World) (p:Addr) (zl:List (List Int×Addr)) (h:Heap):Prop:=∃ (es:Array (Int×Value)) (ep:Nat) (t:SetTable),WSet w h p es ep t/\es.toList=zl.map (fun q=>(hk9 q.1,Value.ref q.2))
theorem setQ_ok {P:Program} {w:World} {H:Hp} {h:Heap} {p:Addr} {zl:List (List Int×Addr)} (x:setQ w p zl h):ObjOk P w H h p (.ext (setQ w p zl)):=by
  refine ⟨x,?_,fun h1 h2 ⟨es,ep,t,a,b⟩ k=>⟨es,ep,t,a.keep k,b⟩⟩
  obtain ⟨_,_,_,a,_⟩:=x
  obtain ⟨o,ho,_⟩:=a.at'
  exact ⟨o,ho⟩
def rSetG (K:PySem.W.Frag) (w:World) (xs:List V) (H:Hp) (Q:VK):Prop:=∃ (O:List Addr) (ks:List (List Int)) (v:V) (st:SG),xs=[v]/\Rep K (mask O H) (.lst (ks.map kT)) v/\ks.length<=390/\runG ks ([],7,#[])=some st/\okW st=true /\
  ∀ (p:Addr) (zl:List (List Int×Addr)),H p=none->zl.map (·.1)=st.1->(∀ q∈zl,Rep K (mask O H) (kT q.1) (.ref q.2))->Q (.ref p) (upd H p (.ext (setQ w p zl)))
theorem reps_at {K:PySem.W.Frag} {H:Hp} {ds:List D} {vs:List V} (r:Reps K H ds vs) {i:Nat} {d:D} {v:V} (h1:ds[i]?=some d) (h2:vs[i]?=some v):Rep K H d v:=by
  induction ds generalizing vs i with
  | nil=>simp at h1
  | cons a ds ih =>
    obtain ⟨u,us,rfl,ra,rr⟩:=r
    cases i with
    | zero=>simp at h1 h2;subst h1;subst h2;exact ra
    | succ i=>exact ih rr (by simpa using h1) (by simpa using h2)
theorem vals_at {vs:List V} {us:List Value} (r:Vals vs us) {i:Nat} {u:Value} (h:us[i]?=some u):∃ v,vs[i]?=some v/\RelV v u:=by
  induction r generalizing i with
  | nil=>simp at h
  | cons h1 _ ih =>
    cases i with
    | zero=>simp at h;subst h;exact ⟨_,rfl,h1⟩
    | succ i=>exact ih (by simpa using h)
theorem call_setG (hc:X.calm=true) (hu:X.A.units+64 < cLine):CallR X (.type "set") (rSetG X.K X.w):=by
  intro pins s σ H xs us Q I rs h
  obtain ⟨O,ks,v,st,rfl,rp,hl390,hrun,hok,q⟩:=h
  obtain ⟨p,vs,rfl,hp,r2⟩:=rp
  obtain ⟨u,rfl,ru⟩:=vals1 rs
  cases ru
  obtain ⟨its,rv,pl,_⟩:=I.list (SqL.of (mask_sub _ _ hp))
  have rm:=Reps.mono mask_sub _ _ r2
  have ta:=tup_ats I rm rv
  have hl:=ta.len
  refine call_set_tupsG (items:=its.toArray) (ks:=ks) (stn:=st) (I.ok.hd hc) (by omega) pl.isList (by rw [List.size_toArray];omega) (by rw [List.size_toArray];omega) (fun i v hv=>?_) hrun fun h' tk hS hk htk=>?_
  · rw [<- Array.getElem?_toList] at hv
    have hv:its[i]?=some v:=hv
    have hil:=(List.getElem?_eq_some_iff.mp hv).1
    obtain ⟨a,its',g1,g2,g3⟩:=ta.get (i:=i) (by omega)
    refine ⟨a,ks.getD i [],?_,?_,tk_of g2 g3⟩
    · rw [List.getD_eq_getElem?_getD,List.getElem?_eq_getElem (by omega)];rfl
    · rw [<- g1,List.getD_eq_getElem?_getD,hv];rfl
  · obtain ⟨o,es,ep,t,bs,ho,hex,hd,te,hf,hes,hbl,hkeys,hled,hplain⟩:=hS.ex
    have hfst:(st.1.zip bs).map (·.1)=st.1:=List.map_fst_zip (by omega)
    have esz:es.size=st.1.length:=by rw [<- Array.length_toList,hes,List.length_map,List.length_zip];omega
    refine ⟨.ref s.heap.objs.size,_,I.laid (t':=tk) (o:=.ext (setQ X.w s.heap.objs.size (st.1.zip bs))) (fun b o e=>hk b o (Heap.lt_size e) e) (Nat.le_refl _) (setQ_ok ⟨es,ep,t,⟨⟨o,ho,hex,hd⟩,hf,hplain,hled,fun hb i hi=>?_⟩,hes⟩),rfl,q _ _ (I.hok.fresh (Nat.le_refl _)) hfst (fun z hz=>?_)⟩
    · have:=List.all_eq_true.mp hok i (List.mem_range.mpr (by omega))
      have e:=eq_of_beq this
      unfold wPos
      rw [te.p,hb,if_neg (by decide)]
      exact e
    · obtain ⟨_,i,e1,e2⟩:=hkeys z hz
      rw [<- Array.getElem?_toList] at e2
      obtain ⟨v,ev,rl⟩:=vals_at rv (show its[i]?=some (Value.ref z.2) from e2)
      have hd1:(ks.map kT)[i]?=some (kT z.1):=by rw [List.getElem?_map,e1];rfl
      have rr:=reps_at r2 hd1 ev
      obtain ⟨a,ws,rfl,ha,rw'⟩:=rr
      cases rl
      exact ⟨z.2,ws,rfl,ha,rw'⟩
theorem call_sortS (hc:X.calm=true) (hu:X.A.units+64 < cLine):CallR X (.builtin "sorted") (fun xs H Q=>∃ (p:Addr) (zl:List (List Int×Addr)),xs=[.ref p]/\H p=some (.ext (setQ X.w p zl))/\zl.length < 64/\(zl.map (·.1)).Nodup/\(∀ k∈zl.map (·.1),k≠[])/\(∀ z∈zl,Rep X.K H (kT z.1) (.ref z.2)) /\
    ∀ (p':Addr) (zs:List (List Int×Addr)),H p'=none->zs.Perm zl->zs.map (·.1)=tsort (zl.map (·.1))->Q (.ref p') (upd H p' (.lst (zs.map fun z=>V.ref z.2)))):=by
  intro pins s σ H xs us Q I rs h
  obtain ⟨p,zl,rfl,hp,h64,nd,hne,hrep,q⟩:=h
  obtain ⟨u,rfl,ru⟩:=vals1 rs
  cases ru
  obtain ⟨⟨es,ep,t,x,hes⟩,_⟩:=(show ObjOk X.prog X.w H s.heap p (.ext (setQ X.w p zl)) from I.hok p _ hp)
  refine sorted_set (I.ok.hd hc) (by omega) x hes h64 nd hne (fun z hz=>?_) fun h' tk a e zs hk hsz pm ek he=>?_
  · obtain ⟨b,ws,eb,hb,rr⟩:=hrep z hz
    cases eb
    cases rr.ints
    obtain ⟨its,r2,pl,_⟩:=I.tuple (SqT.of hb)
    exact tk_of (intsAre_of r2) pl
  · refine ⟨.ref a,_,I.laid (t':=tk) (o:=.lst (zs.map fun z=>V.ref z.2)) hk hsz ⟨?_,zs.map (fun z=>Value.ref z.2),e,?_,he⟩,rfl,q _ _ (I.hok.fresh hsz) pm ek⟩
    · rw [List.length_map,pm.length_eq,sizeLine_eq];omega
    · have:∀ zs:List (List Int×Addr),Vals (zs.map fun z=>V.ref z.2) (zs.map fun z=>Value.ref z.2):=by
        intro zs
        induction zs with
        | nil=>exact .nil
        | cons z zs ih=>exact .cons rfl ih
      exact this zs
theorem reps_zs {K:PySem.W.Frag} {H:Hp}:∀ {zs:List (List Int×Addr)},(∀ z∈zs,Rep K H (kT z.1) (.ref z.2))->Reps K H ((zs.map (·.1)).map kT) (zs.map fun z=>V.ref z.2)
  | [],_=>rfl
  | z::zs,h=>⟨_,_,rfl,h z List.mem_cons_self,reps_zs fun y hy=>h y (List.mem_cons_of_mem _ hy)⟩
theorem ev_sortset {a:Expr} {fa:FE} {p1 p2 p3:Pos} (ha:EV X a fa) (hc:X.calm=true) (hu:X.A.units+64 < cLine) (m1:X.mg "sorted"=none) (m2:X.mg "set"=none) (g1:Gl X "sorted":=by rfl) (g2:Gl X "set":=by rfl)
    (h1:starEach [a] X.env=(false,eval a X.env)::starEach [] X.env:=by rfl) (h2:starEach [Expr.Call (.Name "set" p2) [a] [] p3] X.env=(false,eval (.Call (.Name "set" p2) [a] [] p3) X.env)::starEach [] X.env:=by rfl)
    (hp:(backTo p3 (starEach [] X.env)).any (·.1)=false:=by rfl) (hp2:(backTo pos (starEach [] X.env)).any (·.1)=false:=by rfl) :
    EV X (.Call (.Name "sorted" p1) [.Call (.Name "set" p2) [a] [] p3] [] pos) (f1 ssetD fa) :=
  PE.imp (pe_callB (call_sortS hc hu) g1 m1 bb_sorted (pa_cons (pe_callTy (call_setG hc hu) g2 m2 bb_set (pa_cons ha pa_nil h1) (by decide) (by decide) h1 hp) pa_nil h2) (by decide) (by decide) h2 hp2) fun σ H Q h=>by
    obtain ⟨O,ρ,d,rv,e,q⟩:=h
    obtain ⟨x,e1,e⟩:=bind_some e
    unfold ssetD at e
    split at e
    · rename_i ds
      obtain ⟨ks,ek,e⟩:=bind_some e
      split at e
      · rename_i hl
        obtain ⟨st,er,e⟩:=bind_some e
        split at e
        · rename_i hc2
          cases e
          obtain ⟨c1,c2,c3,c4⟩:=hc2
          cases tupsOf_some ek
          refine ⟨O,ρ,_,rv,e1,fun v H1 s1 r1=>?_⟩
          refine ⟨O,ks,v,st,rfl,r1,hl,er,c4,fun p zl hpn hz hrep=>?_⟩
          have s2:Same H1 (upd H1 p (.ext (setQ X.w p zl))):=Same.new hpn
          have hm:=mask_same s2 (O:=O)
          refine ⟨p,zl,rfl,upd_same,by rw [<- List.length_map (f:=(·.1)),hz];exact c1,by rw [hz];exact c2,by rw [hz];exact c3,fun z hzm=>Rep.mono (fun _ _=>id) _ _ (Rep.mono mask_sub _ _ (Rep.mono hm _ _ (hrep z hzm))),fun p' zs hp' pm ezs=>?_⟩
          have s3:=Same.trans s1 (Same.trans s2 (Same.new (o:=.lst (zs.map fun z=>V.ref z.2)) hp'))
          refine q _ _ s3 ?_
          rw [hz] at ezs
          rw [<- ezs]
          refine rep_new_lst (rv.th.mono (Same.trans s1 s2)) hp' (reps_zs fun z hzm=>Rep.mono hm _ _ (hrep z (pm.mem_iff.mp hzm)))
        · cases e
      · cases e
    · cases e
end
end L2

namespace HT
open PySem PyProof.Rows
section
variable {prog:Program} {w:World} {A:Around} {E:Value->Shared->Prop} {s:Shared}
theorem sliceApplied_rev {sl:Addr} {n:Nat} {t:Tok} {Q:Int×Int×Nat->Shared->Prop} (hs:s.heap.IsSliceOf sl .none .none (.int (-1) t))
    (h:Q ((n:Int) - 1,-1,n) s):wpAny (model prog w) A (Builtin.Slice.sliceApplied (.ref sl) (pure (n:Int))) Q E s:=by
  obtain ⟨os,hos,hcs,hds⟩:=id hs
  unfold Builtin.Slice.sliceApplied Builtin.Slice.sliceFields
  refine wpAny_bind (wpAny_bind (wpAny_field hos hds (x:=.none) rfl (wpAny_bind (wpAny_field hos hds (x:=.none) rfl (wpAny_bind (wpAny_field hos hds (x:=.int (-1) t) rfl (wpAny_pure ?_)))))))
  refine wpAny_bind (slicePart_ (.int (-1) t) ?_)
  show wpAny _ _ (if ((-1:Int) == 0)=true then _ else _) _ _ s
  rw [if_neg (by decide)]
  refine wpAny_bind (slicePart_ .none (wpAny_bind (slicePart_ .none (wpAny_bind (wpAny_pure ?_)))))
  show wpAny _ _ (match Builtin.Slice.sliceAdjust none none (-1) (n:Int) with | (lo,hi)=>pure (lo,(-1:Int),Builtin.Slice.slicePlaces lo hi (-1))) _ _ s
  have e1:Builtin.Slice.sliceAdjust none none (-1) (n:Int)=((n:Int) - 1,-1):=rfl
  rw [e1]
  show wpAny _ _ (pure ((n:Int) - 1,(-1:Int),Builtin.Slice.slicePlaces ((n:Int) - 1) (-1) (-1))) _ _ s
  have e2:Builtin.Slice.slicePlaces ((n:Int) - 1) (-1) (-1)=n:=by
    unfold Builtin.Slice.slicePlaces
    have h1:¬ ((-1:Int) > 0):=by decide
    simp only [h1,if_false]
    split
    · rw [show (- -1:Int)=1 from rfl,Int.ediv_one];omega
    · omega
  rw [e2]
  exact wpAny_pure h
theorem pick_rev (its:List Value):((List.range its.length).filterMap fun (k:Nat)=>its.toArray[((its.length:Int) - 1+(k:Int) * (-1)).toNat]?).toArray=its.reverse.toArray:=by
  have h:=L2.slicePick_rev its
  unfold slicePick sliceBounds sliceRange at h
  simp only [Option.getD_some,List.size_toArray] at h
  have h1:¬ ((-1:Int) > 0):=by decide
  simp only [h1,if_false] at h
  have hc:(if (its.length:Int) - 1 > -1 then ((its.length:Int) - 1 - -1 - -1 - 1) / (- -1) else 0).toNat=its.length:=by
    split
    · rw [show (- -1:Int)=1 from rfl,Int.ediv_one];omega
    · omega
  rw [hc,List.filterMap_map] at h
  rw [<- h]
  congr 2
  funext k
  show _=its.toArray[((its.length:Int) - 1+-1 * (k:Int)).toNat]?
  rw [Int.mul_comm]
theorem getItem_tuple_rev {t sl:Addr} {its:List Value} {tk:Tok} {Q:Value->Shared->Prop} (ht:IsTup s.heap t its.toArray) (hs:s.heap.IsSliceOf sl .none .none (.int (-1) tk))
    (h:Q (.ref s.heap.objs.size) { s with heap:=s.heap.push { cls:=.type "tuple",data:=.seq its.reverse.toArray } })
    (hsz:its.length<=sizeLine):wpAny (model prog w) A (getItem (.ref t) (.ref sl)) Q E s:=by
  have htake:sizeOk (.seq its.reverse.toArray):=by
    show its.reverse.toArray.size<=sizeLine
    rw [List.size_toArray,List.length_reverse]
    exact hsz
  obtain ⟨os,hos,hcs,hds⟩:=id hs
  have hTs:s.TypeIs (.ref sl) "slice":=⟨os,hos,hcs⟩
  unfold getItem
  try with_reducible refine wpAny_holding ?_
  first | refine wpAny_bind (wpAny_pure ?_) | skip
  refine wpAny_bind (wpAny_sequenceKey ht.typeIs (by decide) ?_)
  refine wpAny_bind (wpAny_callSpecial?_slot (name:=Str.ofString "__getitem__") ht.typeIs PyProof.Rows.slot_tuple_getitem
    (wpAny_call_entry PyProof.Rows.slot_tuple_getitem ht.typeIs entry_tuple_getitem ?_ (args_tuple_getitem _ _)))
  show wpAny _ _ (Builtin.Tuple.tupleItemsOf (.ref t) >>= _) _ _ s
  refine wpAny_bind (tupleItemsOf_ ht ?_)
  refine wpAny_bind (wpAny_typeOf hTs ?_)
  rw [if_pos (by decide)]
  refine wpAny_bind (sliceApplied_rev hs ?_)
  show wpAny _ _ (if ((((its.toArray.size:Nat):Int) - 1 == 0 && (-1:Int) == 1 && its.toArray.size == its.toArray.size)=true) then _ else _) _ _ s
  rw [if_neg (by simp)]
  have e:=pick_rev its
  rw [<- List.size_toArray] at e
  rw [e]
  first
    | exact wpAny_bind (m:=Builtin.Tuple.tupleExact _) (wpAny_newObj_type (wpAny_pure ⟨_,rfl,wpAny_pure h⟩) htake)
    | exact wpAny_bind (m:=Builtin.Tuple.tupleExact _) (wpAny_newObj_type (wpAny_bind (wpAny_pure (wpAny_pure ⟨_,rfl,wpAny_pure h⟩))) htake)
    | exact wpAny_bind (wpAny_bind (m:=Builtin.Tuple.tupleExact _) (wpAny_newObj_type (wpAny_pure (wpAny_pure ⟨_,rfl,wpAny_pure h⟩)) htake))
    | exact wpAny_bind (wpAny_bind (m:=Builtin.Tuple.tupleExact _) (wpAny_newObj_type (wpAny_pure ⟨_,rfl,wpAny_pure h⟩) htake))
end
end HT
namespace L2
open PySem PySem.Spec PyProof.Rows
section
variable {X:Cx} {pos:Pos}
def revT:D->Option D
  | .tup ds=>some (.tup ds.reverse)
  | _=>none
theorem ev_revT {e:Expr} {f:FE} {p2 p3 p4:Pos} {j:Nat} (he:EV X e f):EV X (.Subscript e (.Slice none none (some (.UnaryOp .USub (.Constant (.int 1) j p4) p3)) p2) pos) (f1 revT f):=by
  intro pins s σ H Q I h
  obtain ⟨O,ρ,d,rv,ee,q⟩:=h
  obtain ⟨x,e1,ee⟩:=bind_some ee
  have ex:∃ ds,x=.tup ds:=by cases x <;> first | exact ⟨_,rfl⟩ | (cases ee;done)
  obtain ⟨ds,rfl⟩:=ex
  cases ee
  refine Subscript_ (thn (he pins s σ H (fun v H1=>Same H H1/\Rep X.K (mask O H1) (.tup ds) v) I ⟨O,ρ,_,rv,e1,fun v H1 s1 r1=>⟨s1,r1⟩⟩) fun v s1 k=>?_)
  obtain ⟨y,H1,I1,r1,sm,rp⟩:=k
  obtain ⟨a,vs,rfl,ha,rs⟩:=rp
  cases r1
  refine wpAny_Slice ?_
  rw [evalPart_none]
  refine wpAny_pure ?_
  refine wpAny_pure ?_
  rw [evalPart_some]
  refine thn ((ev_neg un_neg (ev_int (X:=X) (i:=1) (j:=j) (pos:=p4)):EV X (.UnaryOp .USub (.Constant (.int 1) j p4) p3) (f1 negD (fC (.int 1)))) pins s1 σ H1 (fun v H2=>v=.int (-1)/\Same H1 H2) I1 ⟨O,ρ,.int (-1),rv.mono sm,rfl,fun v H2 s2 r2=>⟨r2,s2⟩⟩) fun st s2 k2=>?_
  obtain ⟨z,H2,I2,r2,rfl,sm2⟩:=k2
  obtain ⟨t,rfl⟩:=r2
  have I4:Inv X pins σ H2 { s2 with heap:=s2.heap.push { cls:=.type "slice",data:=.fields #[.none,.none,.int (-1) t] } }:=I2.kept (t':=s2.toks) fun b ob q=>Heap.get?_push_of_some _ q
  have ha2:H2 a=some (.tup vs):=sm2 _ _ (mask_sub _ _ ha)
  obtain ⟨its,r,ht,hz⟩:=I4.tuple (SqT.of ha2)
  have hl:its.length=vs.length:=r.length.symm
  show wpAny (model X.prog X.w) X.A (subscriptTail e _ (.ref a) (.ref s2.heap.objs.size)) (EP X pins σ Q) X.xe { s2 with heap:=s2.heap.push { cls:=.type "slice",data:=.fields #[.none,.none,.int (-1) t] } }
  refine tail_any (ops:=[.ref a,.ref s2.heap.objs.size]) ht.typeIs slot_tuple_getitem.lookup (HT.getItem_tuple_rev ht (Heap.IsSliceOf.new ..) ?_ (by rw [hl];exact hz)) (by with_unfolding_all rfl)
  refine ⟨.ref _,_,I4.laid (t':=s2.toks) (o:=.tup vs.reverse) (fun b ob q=>Heap.get?_push_of_some _ q) (Nat.le_refl _) ?_,rfl,q _ _ (Same.trans (Same.trans sm sm2) (Same.new (I4.hok.fresh (Nat.le_refl _)))) (rep_new_tup (rv.th.mono (Same.trans sm sm2)) (I4.hok.fresh (Nat.le_refl _)) (reps_rev (Reps.mono (mask_same sm2) ds vs rs)))⟩
  exact ⟨by rw [List.length_reverse];exact hz,its.reverse,vals_rev r,IsTup.new _ _⟩
end
end L2

namespace P
open PySem L2
noncomputable def F__law_spoilt (G__law_spoilt_join:List D->Option D):FS :=
  (sSeq (sSet 2 (f2 ixD (fV 0) (fC (.int 1))))
  (sSeq (sSet 3 (f2 modD (fV 1) (fC (.int 4))))
  (sSeq (sIf (gB (f2 eqOp (fV 3) (fC (.int 0)))) (sSeq (sSet 4 (fL mkLst (fCons (fFr (fItems (fV 0))) (fCons (fL mkTup (fCons (f2 ixD (fV 0) (fC (.int 0))) fN)) (fCons (f2 addTD (fV 0) (fL mkTup (fCons (fL mkTup fN) fN))) (fCons (fL mkTup (fCons (f2 ixD (fV 0) (fC (.int 0))) (fCons (fFr (fItems (fV 2))) fN))) (fCons (fC .non) (fCons (fL mkTup (fCons (f2 ixD (fV 0) (fC (.int 0))) (fCons (fC .non) fN))) fN))))))))
  (sRet (f2 ixD (fV 4) (f2 modD (f2 fdivD (fV 1) (fC (.int 4))) (fC (.int 6)))))) sNx)
  (sSeq (sIf (gB (f2 eqOp (fV 3) (fC (.int 1)))) (sRet (fL mkTup (fCons (f2 ixD (fL mkLst (fCons (fC (.int 0)) (fCons (fC (.int 6)) (fCons (fC (.bl true)) (fCons (fC (.str "2")) (fCons (f2 addD (f2 ixD (fV 0) (fC (.int 0))) (fC (.int 1))) (fCons (f2 (intOp fun i j=>.int (i - j)) (f2 ixD (fV 0) (fC (.int 0))) (fC (.int 1))) fN))))))) (f2 modD (f2 fdivD (fV 1) (fC (.int 4))) (fC (.int 6)))) (fCons (fV 2) fN)))) sNx)
  (sSeq (sIf (gOr (gB (f2 eqOp (fV 3) (fC (.int 2)))) (gB (f2 eqOp (fV 2) (fL mkTup fN)))) (sRet (fL mkTup (fCons (f2 ixD (fV 0) (fC (.int 0))) (fCons (f2 ixD (fL mkLst (fCons (f1 revT (fV 2)) (fCons (f2 addTD (fV 2) (fSl (fV 2) (pS (f1 negD (fC (.int 1)))) pN)) (fCons (fSl (fV 2) (pS (fC (.int 1))) pN) (fCons (f2 addTD (fL mkTup (fCons (fL mkTup (fCons (fC (.int 0)) (fCons (fC (.int 1)) (fCons (fC (.int 1)) fN)))) fN)) (fV 2)) fN))))) (f2 modD (f2 fdivD (fV 1) (fC (.int 4))) (fC (.int 4)))) fN)))) sNx)
  (sSeq (sSet 5 (f2 modD (f2 fdivD (fV 1) (fC (.int 4))) (fL lenD (fCons (fV 2) fN))))
  (sRet (fL mkTup (fCons (f2 ixD (fV 0) (fC (.int 0))) (fCons (f2 addTD (f2 addTD (fSl (fV 2) pN (pS (fV 5))) (fL mkTup (fCons (fL G__law_spoilt_join (fCons (f2 ixD (fV 2) (fV 5)) (fCons (f2 fdivD (fV 1) (fC (.int 40))) fN))) fN))) (fSl (fV 2) (pS (f2 addD (fV 5) (fC (.int 1)))) pN)) fN))))))))))
noncomputable def G__law_spoilt:List D->Option D:=runF 2 6 (F__law_spoilt G__law_spoilt_join)
noncomputable def F__law_is_ground (G__law_whole G__law_is_join:List D->Option D):FS :=
  (sSeq (sIf (gOr (gNot (gTru (f1 (isD "tuple") (fV 0)))) (gOr (gB (f2 neOp (fL lenD (fCons (fV 0) fN)) (fC (.int 2)))) (gOr (gNot (gTru (fL G__law_whole (fCons (f2 ixD (fV 0) (fC (.int 0))) fN)))) (gOr (gB (f2 ltOp (f2 ixD (fV 0) (fC (.int 0))) (fC (.int 1)))) (gB (f2 (intOp fun i j=>.bl (decide (j < i))) (f2 ixD (fV 0) (fC (.int 0))) (fC (.int 5)))))))) (sRet (fC (.bl false))) sNx)
  (sSeq (sIf (gOr (gNot (gTru (f1 (isD "tuple") (f2 ixD (fV 0) (fC (.int 1)))))) (gB (f2 neOp (fComp 1 [0] (fItems (f2 ixD (fV 0) (fC (.int 1)))) (gN 0) (gNot (gTru (fL G__law_is_join (fCons (fV 0) (fCons (f2 ixD (fV 1) (fC (.int 0))) fN))))) (fV 0)) (fL mkLst fN)))) (sRet (fC (.bl false))) sNx)
  (sSeq (sSet 1 (fComp 1 [] (fItems (f2 ixD (fV 0) (fC (.int 1)))) (gN 0) gYes (fSl (fV 0) pN (pS (fC (.int 2))))))
  (sSeq (sSet 2 (fComp 1 [] (fR rng1 (fCons (f2 ixD (fV 0) (fC (.int 0))) fN)) (gN 0) gYes (fV 0)))
  (sSeq (sFor (fItems (fV 1)) (gT [3,4]) (sSet 2 (fComp 1 [2,3,4] (fItems (fV 2)) (gN 0) gYes (f2 ixD (fL mkLst (fCons (fV 0) (fCons (f2 ixD (fV 1) (fV 2)) fN))) (fL intD (fCons (f2 eqOp (fV 0) (f2 ixD (fV 1) (fV 3))) fN))))))
  (sRet (fAnd (f2 eqOp (fV 1) (f1 ssetD (fV 1))) (f2 eqOp (f1 lsetD (fV 2)) (fC (.int 1))))))))))
noncomputable def G__law_is_ground:List D->Option D:=runF 1 5 (F__law_is_ground G__law_whole G__law_is_join)
noncomputable def XF_checked (G_is_ground:List D->Option D):FX :=
  (xIf (gNot (gTru (fL G_is_ground (fCons (fV 0) fN)))) (xAlw "NoGround") xNo)
noncomputable def X_checked:List D->Option Str:=xRun 1 1 (XF_checked G_is_ground)
noncomputable def F__law_refused (X_checked:List D->Option Str):FS :=
  (sSeq (sSet 1 (fC (.int 0)))
  (sSeq (sTry ["NoGround"] (xL X_checked (fCons (fV 0) fN)) (fun c ρ=>if hits c "NoGround"=true then (sSet 1 (f2 addD (fV 1) (fC (.int 1)))) ρ else (fun _ _=>.bad) c ρ))
  (sSeq (sTry ["NoGround"] (xL X_checked (fCons (fV 0) fN)) (fun c ρ=>if hits c "YardError"=true then sInc 2 1 ρ else (fun _ _=>.bad) c ρ))
  (sRet (f2 eqOp (fV 1) (fC (.int 2)))))))
noncomputable def G__law_refused:List D->Option D:=runF 1 3 (F__law_refused X_checked)
noncomputable def F_law (G__law_ground G__law_mixed G__law_spoilt G__law_is_ground G_checked G__law_refused:List D->Option D):FS :=
  (sSeq (sSet 1 (fL G__law_ground (fCons (fV 0) (fCons (fC (.int 0)) (fCons (fC (.int 5)) fN)))))
  (sSeq (sIf (gB (f2 (intOp fun i j=>.bl (decide (j < i))) (fL G__law_mixed (fCons (fV 0) (fCons (fC (.int 30)) (fCons (fC (.int 3)) fN)))) (fC (.int 0)))) (sSet 1 (fL G__law_spoilt (fCons (fV 1) (fCons (fL G__law_mixed (fCons (fV 0) (fCons (fC (.int 31)) (fCons (f2 powD (fC (.int 10)) (fC (.int 6))) fN)))) fN)))) sNx)
  (sSeq (sIf (gTru (fL G__law_is_ground (fCons (fV 1) fN))) (sRet (f2 eqOp (fL G_checked (fCons (fV 1) fN)) (fV 1))) sNx)
  (sRet (fL G__law_refused (fCons (fV 1) fN))))))
noncomputable def G_law:List D->Option D:=runF 1 2 (F_law G__law_ground G__law_mixed G__law_spoilt G__law_is_ground G_checked G__law_refused)
end P

namespace P
open PySem L2 HT
local macro_rules | `(tactic| simp! only [$ts,*]) => `(tactic| simp only [runF, start0, ap_seq, oSeq_nx, oSeq_rt, ltOp, sNx, sSet, sSetI, sRet, sIf, sExp, sOwn, sBad, fV, fC, f1, f2, fN, fCons, fL, fIf, fAnd, fOr, fNot, gB, gAnd, gOr, gNot, gTru, fChain, fItems, fR, fFr, fSl, pN, pS, allV, valV', setV, setD, gN, gT, env0, List.map_cons, List.map_nil, List.length_cons, List.length_nil, List.replicate, List.cons_append, List.nil_append, List.getElem?_cons_zero, List.getElem?_cons_succ, List.getElem?_nil, List.set_cons_zero, List.set_cons_succ, Option.getD_some, Option.getD_none, Option.bind_some, Option.bind_none, Option.map_some, Nat.reduceAdd, Nat.reduceSub, Nat.reduceEqDiff, if_true, if_false, reduceIte, Bool.false_eq_true, lenD_t, lenD_l, lenD_s, intOp, addD_ii, modD, ixD_t, ixD_l, ixD_s, mkTup, mkLst, few, truD, negD, decide_true, decide_false, Bool.not_true, Bool.not_false, decide_not, ne_eq, not_true_eq_false, not_false_eq_true, Int.reduceEq, Int.cast_ofNat_Int, Int.natCast_add, Int.reduceAdd, Int.cast_ofNat_Int, $ts,*])
def cell (ns:List Int) (k:Int):Int:=if k < ns.length then (ns[k.toNat]?).getD 0 else if ns=[] then 0 else (ns[(k % ns.length).toNat]?).getD 0 * 31+k
theorem get_scr {ns:List Int} {i:Int} (h0:0<=i) (h:i < ns.length):(atI ns i).map D.int=some (.int ((ns[i.toNat]?).getD 0)):=by
  have hl:i.toNat < ns.length:=by omega
  rw [atI_ok (x:=ns[i.toNat]) h0 (List.getElem?_eq_getElem hl),List.getElem?_eq_getElem hl]
  rfl
theorem small_of {i:Int} (h0:-(2 ^ 64) < i) (h:i < 2 ^ 64):small64 i=true:=@decide_eq_true _ (Classical.propDecidable _) ⟨h0,h⟩
theorem mulD_l {i j:Int} (h:small64 i=true):mulD (.int i) (.int j)=some (.int (i * j)):=by simp [mulD,h]
theorem mulD_r {i j:Int} (h:small64 j=true):mulD (.int i) (.int j)=some (.int (i * j)):=by simp [mulD,h]
theorem g_cell (ns:List Int) {k:Int} (hk:0<=k):G__law_cell_at [.scr ns,.int k]=some (.int (cell ns k)):=by
  unfold G__law_cell_at F__law_cell_at cell
  simp! only []
  by_cases h:k < ns.length
  · simp only [h,runF,start0,ap_seq,oSeq_nx,oSeq_rt,ltOp,sNx,sSet,sSetI,sRet,sIf,sExp,sOwn,sBad,fV,fC,f1,f2,fN,fCons,fL,fIf,fAnd,fOr,fNot,gB,gAnd,gOr,gNot,gTru,fChain,fItems,fR,fFr,fSl,pN,pS,allV,valV',setV,setD,gN,gT,env0,List.map_cons,List.map_nil,List.length_cons,List.length_nil,List.replicate,List.cons_append,List.nil_append,List.getElem?_cons_zero,List.getElem?_cons_succ,List.getElem?_nil,List.set_cons_zero,List.set_cons_succ,Option.getD_some,Option.getD_none,Option.bind_some,Option.bind_none,Option.map_some,Nat.reduceAdd,Nat.reduceSub,Nat.reduceEqDiff,if_true,if_false,reduceIte,Bool.false_eq_true,lenD_t,lenD_l,lenD_s,intOp,addD_ii,modD,ixD_t,ixD_l,ixD_s,mkTup,mkLst,few,truD,negD,decide_true,decide_false,Bool.not_true,Bool.not_false,decide_not,ne_eq,not_true_eq_false,not_false_eq_true,Int.reduceEq,Int.cast_ofNat_Int,Int.natCast_add,Int.reduceAdd,Int.cast_ofNat_Int]
    rw [get_scr hk h]
    rfl
  · simp only [h,runF,start0,ap_seq,oSeq_nx,oSeq_rt,ltOp,sNx,sSet,sSetI,sRet,sIf,sExp,sOwn,sBad,fV,fC,f1,f2,fN,fCons,fL,fIf,fAnd,fOr,fNot,gB,gAnd,gOr,gNot,gTru,fChain,fItems,fR,fFr,fSl,pN,pS,allV,valV',setV,setD,gN,gT,env0,List.map_cons,List.map_nil,List.length_cons,List.length_nil,List.replicate,List.cons_append,List.nil_append,List.getElem?_cons_zero,List.getElem?_cons_succ,List.getElem?_nil,List.set_cons_zero,List.set_cons_succ,Option.getD_some,Option.getD_none,Option.bind_some,Option.bind_none,Option.map_some,Nat.reduceAdd,Nat.reduceSub,Nat.reduceEqDiff,if_true,if_false,reduceIte,Bool.false_eq_true,lenD_t,lenD_l,lenD_s,intOp,addD_ii,modD,ixD_t,ixD_l,ixD_s,mkTup,mkLst,few,truD,negD,decide_true,decide_false,Bool.not_true,Bool.not_false,decide_not,ne_eq,not_true_eq_false,not_false_eq_true,Int.reduceEq,Int.cast_ofNat_Int,Int.natCast_add,Int.reduceAdd,Int.cast_ofNat_Int,List.length_nil,Nat.zero_le,eqOp_scr]
    by_cases e:ns=[]
    · simp only [e,runF,start0,ap_seq,oSeq_nx,oSeq_rt,ltOp,sNx,sSet,sSetI,sRet,sIf,sExp,sOwn,sBad,fV,fC,f1,f2,fN,fCons,fL,fIf,fAnd,fOr,fNot,gB,gAnd,gOr,gNot,gTru,fChain,fItems,fR,fFr,fSl,pN,pS,allV,valV',setV,setD,gN,gT,env0,List.map_cons,List.map_nil,List.length_cons,List.length_nil,List.replicate,List.cons_append,List.nil_append,List.getElem?_cons_zero,List.getElem?_cons_succ,List.getElem?_nil,List.set_cons_zero,List.set_cons_succ,Option.getD_some,Option.getD_none,Option.bind_some,Option.bind_none,Option.map_some,Nat.reduceAdd,Nat.reduceSub,Nat.reduceEqDiff,if_true,if_false,reduceIte,Bool.false_eq_true,lenD_t,lenD_l,lenD_s,intOp,addD_ii,modD,ixD_t,ixD_l,ixD_s,mkTup,mkLst,few,truD,negD,decide_true,decide_false,Bool.not_true,Bool.not_false,decide_not,ne_eq,not_true_eq_false,not_false_eq_true,Int.reduceEq,Int.cast_ofNat_Int,Int.natCast_add,Int.reduceAdd,Int.cast_ofNat_Int]
    · have hp:0 < ns.length:=List.length_pos_iff.mpr e
      have h1:(0:Int) < (ns.length:Int):=by omega
      simp only [e,runF,start0,ap_seq,oSeq_nx,oSeq_rt,ltOp,sNx,sSet,sSetI,sRet,sIf,sExp,sOwn,sBad,fV,fC,f1,f2,fN,fCons,fL,fIf,fAnd,fOr,fNot,gB,gAnd,gOr,gNot,gTru,fChain,fItems,fR,fFr,fSl,pN,pS,allV,valV',setV,setD,gN,gT,env0,List.map_cons,List.map_nil,List.length_cons,List.length_nil,List.replicate,List.cons_append,List.nil_append,List.getElem?_cons_zero,List.getElem?_cons_succ,List.getElem?_nil,List.set_cons_zero,List.set_cons_succ,Option.getD_some,Option.getD_none,Option.bind_some,Option.bind_none,Option.map_some,Nat.reduceAdd,Nat.reduceSub,Nat.reduceEqDiff,if_true,if_false,reduceIte,Bool.false_eq_true,lenD_t,lenD_l,lenD_s,intOp,addD_ii,modD,ixD_t,ixD_l,ixD_s,mkTup,mkLst,few,truD,negD,decide_true,decide_false,Bool.not_true,Bool.not_false,decide_not,ne_eq,not_true_eq_false,not_false_eq_true,Int.reduceEq,Int.cast_ofNat_Int,Int.natCast_add,Int.reduceAdd,Int.cast_ofNat_Int,h1]
      rw [get_scr (Int.emod_nonneg _ (by omega)) (Int.emod_lt_of_pos _ h1)]
      simp! only [mulD_r (small_of (i:=31) (by decide) (by decide))]
def drawn (ns:List Int) (k:Int):Int:=(cell ns k+7919 * k+1) * 48271 % 2147483647
def mix (ns:List Int) (k m:Int):Int:=(drawn ns k * drawn ns k+7 * drawn ns k+k) % 2147483629 % m
theorem mix_lo {ns:List Int} {k m:Int} (hm:0 < m):0<=mix ns k m:=Int.emod_nonneg _ (by omega)
theorem mix_hi {ns:List Int} {k m:Int} (hm:0 < m):mix ns k m < m:=Int.emod_lt_of_pos _ hm
theorem g_mixed (ns:List Int) {k m:Int} (hk:0<=k) (hm:0 < m):G__law_mixed [.scr ns,.int k,.int m]=some (.int (mix ns k m)):=by
  have d0:0<=drawn ns k:=Int.emod_nonneg _ (by decide)
  have d1:drawn ns k < 2147483647:=Int.emod_lt_of_pos _ (by decide)
  have p1:(0:Int) < 2147483647:=by decide
  have p2:(0:Int) < 2147483629:=by decide
  unfold G__law_mixed F__law_mixed
  simp! only [g_cell ns hk,mulD_l (small_of (i:=7919) (by decide) (by decide)),mulD_r (small_of (i:=48271) (by decide) (by decide)),p1]
  rw [show (cell ns k+7919 * k+1) * 48271 % 2147483647=drawn ns k from rfl]
  simp! only [mulD_l (small_of (i:=drawn ns k) (by omega) (by omega)),mulD_l (small_of (i:=7) (by decide) (by decide)),p2,hm]
  rfl
def tab (n:Nat) (f:Nat->Int):List Int:=(List.range n).map f
def tD (n:Nat) (f:Nat->Int):D:=.tup ((tab n f).map .int)
abbrev Bd:=Int×Int×Int
structure Gr where
  n:Nat
  bs:List Bd
def bD (b:Bd):D:=.tup [.int b.1,.int b.2.1,.int b.2.2]
def gD (g:Gr):D:=.tup [.int g.n,.tup (g.bs.map bD)]
structure GOk (g:Gr):Prop where
  n1:1<=g.n
  n5:g.n<=5
  rg:∀ b∈g.bs,0<=b.1/\b.1 < b.2.1/\b.2.1 < g.n/\1<=b.2.2/\b.2.2<=4
  rise:g.bs.Pairwise (fun x y=>HT.lexLt [x.1,x.2.1] [y.1,y.2.1]=true)
  par:∀ y:Nat,1<=y->y < g.n->∃ b∈g.bs,b.2.1=y
  few:g.bs.length<=10
theorem isInt_int (i:Int):isD "int" (.int i)=some (.bl true):=by simp [isD,isK,kindD]
theorem isBool_int (i:Int):isD "bool" (.int i)=some (.bl false):=by simp [isD,isK,kindD]
theorem isTup_tup (ds:List D):isD "tuple" (.tup ds)=some (.bl true):=by simp [isD,isK,kindD]
theorem g_is_number (i:Int):G_is_number [.int i]=some (.bl true):=by
  unfold G_is_number F_is_number
  simp! only [isInt_int,isBool_int]
theorem g_within (i lo hi:Int):G_is_number_within [.int i,.int lo,.int hi]=some (.bl (decide (lo<=i/\i<=hi))):=by
  unfold G_is_number_within F_is_number_within
  simp! only [g_is_number]
  by_cases h:lo<=i
  · simp only [h,runF,start0,ap_seq,oSeq_nx,oSeq_rt,ltOp,sNx,sSet,sSetI,sRet,sIf,sExp,sOwn,sBad,fV,fC,f1,f2,fN,fCons,fL,fIf,fAnd,fOr,fNot,gB,gAnd,gOr,gNot,gTru,fChain,fItems,fR,fFr,fSl,pN,pS,allV,valV',setV,setD,gN,gT,env0,List.map_cons,List.map_nil,List.length_cons,List.length_nil,List.replicate,List.cons_append,List.nil_append,List.getElem?_cons_zero,List.getElem?_cons_succ,List.getElem?_nil,List.set_cons_zero,List.set_cons_succ,Option.getD_some,Option.getD_none,Option.bind_some,Option.bind_none,Option.map_some,Nat.reduceAdd,Nat.reduceSub,Nat.reduceEqDiff,if_true,if_false,reduceIte,Bool.false_eq_true,lenD_t,lenD_l,lenD_s,intOp,addD_ii,modD,ixD_t,ixD_l,ixD_s,mkTup,mkLst,few,truD,negD,decide_true,decide_false,Bool.not_true,Bool.not_false,decide_not,ne_eq,not_true_eq_false,not_false_eq_true,Int.reduceEq,Int.cast_ofNat_Int,Int.natCast_add,Int.reduceAdd,Int.cast_ofNat_Int,true_and]
  · simp only [h,runF,start0,ap_seq,oSeq_nx,oSeq_rt,ltOp,sNx,sSet,sSetI,sRet,sIf,sExp,sOwn,sBad,fV,fC,f1,f2,fN,fCons,fL,fIf,fAnd,fOr,fNot,gB,gAnd,gOr,gNot,gTru,fChain,fItems,fR,fFr,fSl,pN,pS,allV,valV',setV,setD,gN,gT,env0,List.map_cons,List.map_nil,List.length_cons,List.length_nil,List.replicate,List.cons_append,List.nil_append,List.getElem?_cons_zero,List.getElem?_cons_succ,List.getElem?_nil,List.set_cons_zero,List.set_cons_succ,Option.getD_some,Option.getD_none,Option.bind_some,Option.bind_none,Option.map_some,Nat.reduceAdd,Nat.reduceSub,Nat.reduceEqDiff,if_true,if_false,reduceIte,Bool.false_eq_true,lenD_t,lenD_l,lenD_s,intOp,addD_ii,modD,ixD_t,ixD_l,ixD_s,mkTup,mkLst,few,truD,negD,decide_true,decide_false,Bool.not_true,Bool.not_false,decide_not,ne_eq,not_true_eq_false,not_false_eq_true,Int.reduceEq,Int.cast_ofNat_Int,Int.natCast_add,Int.reduceAdd,Int.cast_ofNat_Int,false_and]
theorem b_at0 (b:Bd):atI [D.int b.1,.int b.2.1,.int b.2.2] 0=some (.int b.1):=rfl
theorem b_at1 (b:Bd):atI [D.int b.1,.int b.2.1,.int b.2.2] 1=some (.int b.2.1):=rfl
theorem b_at2 (b:Bd):atI [D.int b.1,.int b.2.1,.int b.2.2] 2=some (.int b.2.2):=rfl
theorem cut_take (ds:List D) (k:Nat):cutD ds none (some (k:Int))=ds.take k:=by
  unfold cutD
  rw [sIx_none,sIx_nat]
  simp
theorem cut_drop (ds:List D) (k:Nat):cutD ds (some (k:Int)) none=ds.drop k:=by
  unfold cutD
  rw [sIx_none,sIx_nat]
  by_cases h:k<=ds.length
  · rw [Nat.min_eq_left h,List.take_of_length_le (by rw [List.length_drop];omega)]
  · rw [Nat.min_eq_right (by omega),List.drop_eq_nil_of_le (by omega),List.drop_eq_nil_of_le (by omega)];simp
def zipB:List Bd->List (Bd×Bd)
  | a::b::r=>(a,b)::zipB (b::r)
  | _=>[]
theorem zip_bs:∀ bs:List Bd,zipDs (bs.map bD) ((bs.map bD).drop 1)=(zipB bs).map fun p=>.tup [bD p.1,bD p.2]
  | []=>rfl
  | [_]=>rfl
  | a::b::r=>by
    have:=zip_bs (b::r)
    simp only [List.map_cons,List.drop_succ_cons,List.drop_zero,zipDs,zipB] at this ⊢
    rw [this]
theorem zipB_len:∀ bs:List Bd,(zipB bs).length<=bs.length
  | []=>Nat.le_refl _
  | [_]=>Nat.zero_le _
  | a::b::r=>by
    have:=zipB_len (b::r)
    simp only [zipB,List.length_cons] at this ⊢
    omega
theorem take2_bD (b:Bd):cutD [D.int b.1,.int b.2.1,.int b.2.2] none (some 2)=[D.int b.1,.int b.2.1]:=cut_take _ 2
theorem lt_bD (a b:Bd):ltOp (.tup [D.int a.1,.int a.2.1]) (.tup [D.int b.1,.int b.2.1])=some (.bl (HT.lexLt [a.1,a.2.1] [b.1,b.2.1])):=rfl
def kN (l:List Nat):List Key:=l.map fun (i:Nat)=>Sum.inl (i:Int)
def tN (l:List Nat):List D:=l.map fun _=>.bl true
def putN (l:List Nat) (i:Nat):List Nat:=if i∈l then l else l++[i]
theorem kN_mem {l:List Nat} {i:Nat}:(Sum.inl (i:Int):Key)∈kN l ↔ i∈l:=by
  unfold kN
  constructor
  · intro h
    obtain ⟨j,hj,e⟩:=List.mem_map.mp h
    have:(j:Int)=(i:Int):=Sum.inl.inj e
    rw [show i=j by omega];exact hj
  · intro h;exact List.mem_map.mpr ⟨i,h,rfl⟩
theorem lk_kN:∀ (l:List Nat) (i:Nat),(lkD (kN l) (tN l) (Sum.inl (i:Int):Key)).isSome=decide (i∈l)
  | [],i=>by simp [kN,tN,lkD]
  | j::l,i=>by
    have ih:=lk_kN l i
    unfold kN tN at ih ⊢
    simp only [List.map_cons,lkD]
    by_cases e:j=i
    · subst e;simp
    · have:¬ ((Sum.inl (j:Int):Key)=Sum.inl (i:Int)):=fun z=>e (by have:=Sum.inl.inj z;omega)
      rw [if_neg this,ih]
      have:i≠j:=fun z=>e z.symm
      simp [this]
theorem putKs_kN (l:List Nat) (i:Nat):putKs (kN l) (Sum.inl (i:Int):Key)=kN (putN l i):=by
  unfold putKs putN
  by_cases h:i∈l
  · rw [if_pos (kN_mem.mpr h),if_pos h]
  · rw [if_neg (fun z=>h (kN_mem.mp z)),if_neg h];simp [kN]
theorem zip_tN:∀ (l:List Nat) (x:Key),((kN l).zip (tN l)).map (fun p=>if p.1=x then (.bl true:D) else p.2)=tN l
  | [],_=>rfl
  | j::l,x=>by
    have ih:=zip_tN l x
    unfold kN tN at ih ⊢
    simp only [List.map_cons,List.zip_cons_cons,ih]
    split <;> rfl
theorem putDs_kN (l:List Nat) (i:Nat):putDs (kN l) (tN l) (Sum.inl (i:Int):Key) (.bl true)=tN (putN l i):=by
  unfold putDs putN
  by_cases h:i∈l
  · rw [if_pos (kN_mem.mpr h),if_pos h,zip_tN]
  · rw [if_neg (fun z=>h (kN_mem.mp z)),if_neg h];simp [tN]
theorem mem_putN {l:List Nat} {i j:Nat}:j∈putN l i ↔ j∈l\/j=i:=by
  unfold putN
  by_cases h:i∈l
  · rw [if_pos h]
    constructor
    · exact .inl
    · rintro (z | z)
      · exact z
      · subst z;exact h
  · rw [if_neg h];simp
theorem putN_nodup {l:List Nat} {i:Nat} (h:l.Nodup):(putN l i).Nodup:=by
  unfold putN
  by_cases e:i∈l
  · rw [if_pos e];exact h
  · rw [if_neg e,List.nodup_append]
    exact ⟨h,by simp,fun a ha b hb=>by simp at hb;subst hb;exact fun z=>e (z ▸ ha)⟩
structure Rch (n:Nat) (l:List Nat):Prop where
  nd:l.Nodup
  lt:∀ i∈l,i < n
theorem Rch.put {n:Nat} {l:List Nat} {i:Nat} (h:Rch n l) (hi:i < n):Rch n (putN l i):=⟨putN_nodup h.nd,fun j hj=>by
  rcases mem_putN.mp hj with z | z
  · exact h.lt j z
  · omega⟩
theorem Rch.len {n:Nat} {l:List Nat} (h:Rch n l):l.length<=n:=M.length_le_of_nodup n l h.nd h.lt
def jEnv (g:Gr) (l:List Nat) (x:List (Option Cl)):DEnv:=some (.val (.int g.n))::some (.val (.tup (g.bs.map bD)))::some (.own (.dcK (kN l) (tN l)))::x
theorem jstore {g:Gr} {l:List Nat} {a b c:Option Cl} {i:Nat} (k:Nat) (hl:l.length<=5) {x:List (Option Cl)} (hx:(allV (jEnv g l x))[k]?=some (some (.int (i:Int)))) :
    sDSet 2 (fV k) (fC (.bl true)) (jEnv g l x)=.nx (jEnv g (putN l i) x):=by
  have e1:fV k (allV (jEnv g l x))=some (.int (i:Int)):=by unfold fV;rw [hx];rfl
  have e2:fC (.bl true) (allV (jEnv g l x))=some (.bl true):=rfl
  have e3:(jEnv g l x)[2]?=some (some (.own (.dcK (kN l) (tN l)))):=rfl
  unfold sDSet
  rw [e1,e2,e3]
  dsimp only [keyK]
  rw [if_pos ⟨rfl,by unfold kN limD;rw [List.length_map];omega⟩,putKs_kN,putDs_kN]
  rfl
theorem jturn {g:Gr} {l:List Nat} {x3:Option Cl} {a b:Nat} {k:Int} (hl:l.length<=4\/l.length<=5) (hl5:(putN l a).length<=5) :
    sIf (gOr (gB (f2 inOp (fV 4) (fV 2))) (gB (f2 inOp (fV 5) (fV 2)))) (sSeq (sDSet 2 (fV 4) (fC (.bl true))) (sDSet 2 (fV 5) (fC (.bl true)))) sNx (jEnv g l [x3,some (.val (.int a)),some (.val (.int b)),some (.val (.int k))]) =
      .nx (jEnv g (if a∈l\/b∈l then putN (putN l a) b else l) [x3,some (.val (.int a)),some (.val (.int b)),some (.val (.int k))]):=by
  have e4:gB (f2 inOp (fV 4) (fV 2)) (allV (jEnv g l [x3,some (.val (.int a)),some (.val (.int b)),some (.val (.int k))]))=some (decide (a∈l)):=by
    unfold jEnv
    simp! only [inOp,dLook,keyK,lk_kN]
  have e5:gB (f2 inOp (fV 5) (fV 2)) (allV (jEnv g l [x3,some (.val (.int a)),some (.val (.int b)),some (.val (.int k))]))=some (decide (b∈l)):=by
    unfold jEnv
    simp! only [inOp,dLook,keyK,lk_kN]
  have put:sSeq (sDSet 2 (fV 4) (fC (.bl true))) (sDSet 2 (fV 5) (fC (.bl true))) (jEnv g l [x3,some (.val (.int a)),some (.val (.int b)),some (.val (.int k))])=.nx (jEnv g (putN (putN l a) b) [x3,some (.val (.int a)),some (.val (.int b)),some (.val (.int k))]):=by
    rw [ap_seq,jstore (a:=none) (b:=none) (c:=none) (i:=a) 4 (by omega) rfl,oSeq_nx,jstore (a:=none) (b:=none) (c:=none) (i:=b) 5 hl5 rfl]
  unfold sIf gOr
  rw [e4,e5]
  by_cases ha:a∈l
  · simp only [ha,decide_true,Option.bind_some,if_true,true_or];exact put
  · by_cases hb:b∈l
    · simp only [ha,hb,decide_true,decide_false,Option.bind_some,Bool.false_eq_true,if_false,if_true,or_true];exact put
    · simp only [ha,hb,decide_false,Option.bind_some,Bool.false_eq_true,if_false,or_self];rfl
theorem gD_at0 (g:Gr):ixD (gD g) (.int 0)=some (.int g.n):=rfl
theorem gD_at1 (g:Gr):ixD (gD g) (.int 1)=some (.tup (g.bs.map bD)):=rfl
def ln (bs:List Bd) (i j:Nat):Int:=(bs.map fun b=>if b.1=((min i j:Nat):Int)/\b.2.1=((max i j:Nat):Int) then b.2.2 else 0).sum
theorem minD_nat (i j:Nat):minD [.int i,.int j]=some (.int (min i j:Nat)):=by
  unfold minD
  dsimp only
  by_cases h:(j:Int) < i
  · rw [if_pos h,Nat.min_eq_right (by omega)]
  · rw [if_neg h,Nat.min_eq_left (by omega)]
theorem maxD_nat (i j:Nat):maxD [.int i,.int j]=some (.int (max i j:Nat)):=by
  unfold maxD
  dsimp only
  by_cases h:(j:Int) > i
  · rw [if_pos h,Nat.max_eq_right (by omega)]
  · rw [if_neg h,Nat.max_eq_left (by omega)]
def fl (c:Nat->Int) (k:Nat) (b:Bd):Int:=(if b.1=(k:Int) then b.2.2 * (c b.1.toNat - c b.2.1.toNat) else 0) - (if b.2.1=(k:Int) then b.2.2 * (c b.1.toNat - c b.2.1.toNat) else 0)
def hits (i j:Nat) (b:Bd):Bool:=decide (b.1=((min i j:Nat):Int)/\b.2.1=((max i j:Nat):Int))
abbrev Jn:=(Nat×Nat)×Int
def jk (p:Nat×Nat):List Key:=[Sum.inl (p.1:Int),Sum.inl (p.2:Int)]
def ki (p:Nat×Nat):List Int:=[(p.1:Int),(p.2:Int)]
def kJ (js:List Jn):List (List Key):=js.map fun j=>jk j.1
def dJ (js:List Jn):List D:=js.map fun j=>.int j.2
def putJ (js:List Jn) (p:Nat×Nat) (v:Int):List Jn:=if p∈js.map (·.1) then js.map (fun j=>if j.1=p then (p,v) else j) else js++[(p,v)]
theorem jk_inj {p q:Nat×Nat}:jk p=jk q ↔ p=q:=by
  constructor
  · intro h
    unfold jk at h
    simp only [List.cons.injEq,Sum.inl.injEq,and_true] at h
    exact Prod.ext (by omega) (by omega)
  · intro h;rw [h]
theorem kJ_mem {js:List Jn} {p:Nat×Nat}:jk p∈kJ js ↔ p∈js.map (·.1):=by
  unfold kJ
  simp only [List.mem_map]
  constructor
  · rintro ⟨j,hj,e⟩;exact ⟨j,hj,jk_inj.mp e⟩
  · rintro ⟨j,hj,e⟩;exact ⟨j,hj,by rw [e]⟩
theorem putKs_J (js:List Jn) (p:Nat×Nat) (v:Int):putKs (kJ js) (jk p)=kJ (putJ js p v):=by
  unfold putKs putJ
  by_cases h:p∈js.map (·.1)
  · rw [if_pos (kJ_mem.mpr h),if_pos h]
    unfold kJ
    rw [List.map_map]
    refine List.map_congr_left fun j _=>?_
    show jk j.1=jk (if j.1=p then (p,v) else j).1
    split
    · rename_i e;rw [e]
    · rfl
  · rw [if_neg (fun z=>h (kJ_mem.mp z)),if_neg h];simp [kJ]
theorem zip_J:∀ (js:List Jn) (p:Nat×Nat) (v:Int),((kJ js).zip (dJ js)).map (fun q=>if q.1=jk p then (.int v:D) else q.2)=dJ (js.map fun j=>if j.1=p then (p,v) else j)
  | [],_,_=>rfl
  | j::js,p,v=>by
    have ih:=zip_J js p v
    unfold kJ dJ at ih ⊢
    simp only [List.map_cons,List.zip_cons_cons,ih]
    congr 1
    by_cases e:j.1=p
    · rw [if_pos (by rw [e]),if_pos e]
    · rw [if_neg (fun z=>e (jk_inj.mp z)),if_neg e]
theorem putDs_J (js:List Jn) (p:Nat×Nat) (v:Int):putDs (kJ js) (dJ js) (jk p) (.int v)=dJ (putJ js p v):=by
  unfold putDs putJ
  by_cases h:p∈js.map (·.1)
  · rw [if_pos (kJ_mem.mpr h),if_pos h,zip_J]
  · rw [if_neg (fun z=>h (kJ_mem.mp z)),if_neg h];simp [dJ]
def lkJ (js:List Jn) (p:Nat×Nat):Option Int:=(js.find? fun j=>decide (j.1=p)).map (·.2)
theorem lk_J:∀ (js:List Jn) (p:Nat×Nat),lkD (kJ js) (dJ js) (jk p)=(lkJ js p).map .int
  | [],p=>rfl
  | j::js,p=>by
    have ih:=lk_J js p
    unfold kJ dJ at ih ⊢
    unfold lkJ at ih ⊢
    simp only [List.map_cons,lkD,List.find?_cons]
    by_cases e:j.1=p
    · rw [if_pos (by rw [e])];simp [e]
    · rw [if_neg (fun z=>e (jk_inj.mp z)),ih];simp [e]
structure JOk (n m:Nat) (js:List Jn):Prop where
  nd:(js.map (·.1)).Nodup
  rg:∀ j∈js,j.1.1 < j.1.2/\j.1.2 < n/\1<=j.2/\j.2<=4
  par:∀ y,1<=y->y < m->∃ j∈js,j.1.2=y
theorem putJ_keys {js:List Jn} {p:Nat×Nat} {v:Int}:(putJ js p v).map (·.1)=if p∈js.map (·.1) then js.map (·.1) else js.map (·.1)++[p]:=by
  unfold putJ
  by_cases h:p∈js.map (·.1)
  · rw [if_pos h,if_pos h,List.map_map]
    refine List.map_congr_left fun j _=>?_
    show (if j.1=p then (p,v) else j).1=j.1
    split
    · rename_i e;exact e.symm
    · rfl
  · rw [if_neg h,if_neg h];simp
theorem putJ_len {js:List Jn} {p:Nat×Nat} {v:Int}:(putJ js p v).length<=js.length+1:=by
  have:=congrArg List.length (putJ_keys (js:=js) (p:=p) (v:=v))
  rw [List.length_map] at this
  rw [this]
  split <;> simp
theorem JOk.put {n m m':Nat} {js:List Jn} (h:JOk n m js) {p:Nat×Nat} {v:Int} (h1:p.1 < p.2) (h2:p.2 < n) (h3:1<=v) (h4:v<=4) (hm:m'<=m\/(m'=m+1/\p.2=m)):JOk n m' (putJ js p v):=by
  have keys:=putJ_keys (js:=js) (p:=p) (v:=v)
  refine ⟨?_,fun j hj=>?_,fun y y1 ym=>?_⟩
  · rw [keys]
    split
    · exact h.nd
    · rename_i hn
      rw [List.nodup_append]
      exact ⟨h.nd,by simp,fun a ha b hb=>by simp at hb;subst hb;exact fun z=>hn (z ▸ ha)⟩
  · unfold putJ at hj
    split at hj
    · obtain ⟨i,hi,e⟩:=List.mem_map.mp hj
      split at e
      · subst e;exact ⟨h1,h2,h3,h4⟩
      · subst e;exact h.rg i hi
    · rcases List.mem_append.mp hj with z | z
      · exact h.rg j z
      · simp at z;subst z;exact ⟨h1,h2,h3,h4⟩
  · have mem:∀ {q:Nat×Nat},q∈(putJ js p v).map (·.1)->∃ j∈putJ js p v,j.1=q:=fun {q} hq=>by
      obtain ⟨j,hj,e⟩:=List.mem_map.mp hq;exact ⟨j,hj,e⟩
    by_cases e:y < m
    · obtain ⟨j,hj,ej⟩:=h.par y y1 e
      have:j.1∈(putJ js p v).map (·.1):=by
        rw [keys]
        have hj':j.1∈js.map (·.1):=List.mem_map.mpr ⟨j,hj,rfl⟩
        split
        · exact hj'
        · exact List.mem_append_left _ hj'
      obtain ⟨i,hi,ei⟩:=mem this
      exact ⟨i,hi,by rw [ei];exact ej⟩
    · have ey:y=p.2:=by omega
      have:p∈(putJ js p v).map (·.1):=by
        rw [keys]
        split
        · rename_i z;exact z
        · simp
      obtain ⟨i,hi,ei⟩:=mem this
      exact ⟨i,hi,by rw [ei];exact ey.symm⟩
theorem lkJ_rg {n m:Nat} {js:List Jn} (h:JOk n m js) {p:Nat×Nat} {v:Int} (e:lkJ js p=some v):1<=v/\v<=4:=by
  unfold lkJ at e
  cases q:js.find? fun j=>decide (j.1=p) with
  | none=>rw [q] at e;cases e
  | some j =>
    rw [q] at e;cases e
    exact (h.rg j (List.mem_of_find?_eq_some q)).2.2
theorem lkJ_some {js:List Jn} {p:Nat×Nat} (h:p∈js.map (·.1)):∃ v,lkJ js p=some v:=by
  obtain ⟨j,hj,e⟩:=List.mem_map.mp h
  unfold lkJ
  cases q:js.find? fun j=>decide (j.1=p) with
  | none =>
    have:=List.find?_eq_none.mp q j hj
    simp [e] at this
  | some i=>exact ⟨i.2,rfl⟩
def gEnv (ns:List Int) (a t:Int) (n:Nat) (js:List Jn) (x:List (Option Cl)):DEnv:=some (.val (.scr ns))::some (.val (.int a))::some (.val (.int t))::some (.val (.int n))::some (.own (.dcT (kJ js) (dJ js)))::x
theorem keyT_jk (p:Nat×Nat):keyT (.tup [.int p.1,.int p.2])=some (jk p):=rfl
theorem gput {ns:List Int} {a t:Int} {n:Nat} {js:List Jn} {x:List (Option Cl)} {fk fv:FE} {p:Nat×Nat} {v:Int} (hk:fk (allV (gEnv ns a t n js x))=some (.tup [.int p.1,.int p.2])) (hv:fv (allV (gEnv ns a t n js x))=some (.int v)) (hl:js.length < 60000) :
    sDSet 4 fk fv (gEnv ns a t n js x)=.nx (gEnv ns a t n (putJ js p v) x):=by
  have e3:(gEnv ns a t n js x)[4]?=some (some (.own (.dcT (kJ js) (dJ js)))):=rfl
  unfold sDSet
  rw [hk,hv,e3]
  dsimp only
  rw [keyT_jk]
  dsimp only
  rw [if_pos ⟨rfl,by unfold kJ limD;rw [List.length_map];omega⟩,putKs_J js p v,putDs_J]
  rfl
theorem fdivD_ok {i j:Int} (h0:0 < j) (h:j < 1073741824):fdivD (.int i) (.int j)=some (.int (i / j)):=@if_pos _ (Classical.propDecidable _) ⟨h0,h⟩ _ _ _
theorem sortedD_tups {ks:List (List Int)} (hl:ks.length < 64) (nd:ks.Nodup) (hne:∀ k∈ks,k≠[]):sortedD [.lst (ks.map kT)]=some (.lst ((tsort ks).map kT)):=by
  cases ks with
  | nil=>simp [sortedD,intsOf,isort,tsort]
  | cons k ks =>
    have hi:intsOf ((k::ks).map kT)=none:=rfl
    unfold sortedD
    dsimp only
    rw [hi]
    dsimp only
    rw [tupsOf_map]
    dsimp only
    rw [if_pos ⟨hl,nd,hne⟩]
theorem tsort_mem {ks:List (List Int)} {k:List Int}:k∈tsort ks ↔ k∈ks:=(List.mergeSort_perm ks _).mem_iff
theorem tsort_len {ks:List (List Int)}:(tsort ks).length=ks.length:=(List.mergeSort_perm ks _).length_eq
theorem tsort_rise {ks:List (List Int)} (nd:ks.Nodup):(tsort ks).Pairwise (fun a b=>HT.lexLt a b=true):=by
  have h1:=List.pairwise_mergeSort lexLe_trans lexLe_total ks
  have h2:(tsort ks).Nodup:=(List.mergeSort_perm ks _).nodup_iff.mpr nd
  have h3:=h1.and (List.nodup_iff_pairwise_ne.mp h2)
  refine h3.imp fun {a b} ⟨l,ne⟩=>?_
  rcases lexLt_total a b ne with z | z
  · exact z
  · unfold lexLe at l;rw [z] at l;cases l
def bsOf (js:List Jn):List Bd:=(tsort (js.map fun j=>ki j.1)).map fun k=>(k.getD 0 0,k.getD 1 0,(lkJ js ((k.getD 0 0).toNat,(k.getD 1 0).toNat)).getD 0)
theorem ki_inj {p q:Nat×Nat} (h:ki p=ki q):p=q:=by
  unfold ki at h
  simp only [List.cons.injEq,and_true] at h
  exact Prod.ext (by omega) (by omega)
theorem ki_nodup {js:List Jn} (h:(js.map (·.1)).Nodup):(js.map fun j=>ki j.1).Nodup:=by
  rw [show (js.map fun j=>ki j.1)=(js.map (·.1)).map ki by rw [List.map_map];rfl]
  rw [List.nodup_iff_pairwise_ne] at h ⊢
  rw [List.pairwise_map]
  exact h.imp fun ne z=>ne (ki_inj z)
theorem jok_gok {n:Nat} {js:List Jn} (h:JOk n n js) (h1:1<=n) (h5:n<=5) (hl:js.length<=10):GOk ⟨n,bsOf js⟩:=by
  have key:∀ b∈bsOf js,∃ j∈js,b.1=(j.1.1:Int)/\b.2.1=(j.1.2:Int)/\1<=b.2.2/\b.2.2<=4:=fun b hb=>by
    unfold bsOf at hb
    obtain ⟨k,hk,e⟩:=List.mem_map.mp hb
    obtain ⟨j,hj,ek⟩:=List.mem_map.mp (tsort_mem.mp hk)
    subst e;subst ek
    obtain ⟨v,hv⟩:=lkJ_some (js:=js) (p:=j.1) (List.mem_map.mpr ⟨j,hj,rfl⟩)
    have rv:=lkJ_rg h hv
    refine ⟨j,hj,rfl,rfl,?_⟩
    show 1<=(lkJ js (((j.1.1:Int)).toNat,((j.1.2:Int)).toNat)).getD 0/\(lkJ js (((j.1.1:Int)).toNat,((j.1.2:Int)).toNat)).getD 0<=4
    rw [Int.toNat_natCast,Int.toNat_natCast,show ((j.1.1,j.1.2):Nat×Nat)=j.1 from rfl,hv]
    exact rv
  refine ⟨h1,h5,fun b hb=>?_,?_,fun y y1 yn=>?_,by show (bsOf js).length<=10;unfold bsOf;rw [List.length_map,tsort_len,List.length_map];exact hl⟩
  · obtain ⟨j,hj,e1,e2,e3,e4⟩:=key b hb
    have:=h.rg j hj
    show 0<=b.1/\b.1 < b.2.1/\b.2.1 < (n:Int)/\_
    omega
  · show (bsOf js).Pairwise _
    unfold bsOf
    rw [List.pairwise_map]
    have hr:=tsort_rise (ki_nodup h.nd)
    refine List.Pairwise.imp_of_mem (fun {a b} ha hb hab=>?_) hr
    obtain ⟨i,_,rfl⟩:=List.mem_map.mp (tsort_mem.mp ha)
    obtain ⟨j,_,rfl⟩:=List.mem_map.mp (tsort_mem.mp hb)
    exact hab
  · obtain ⟨j,hj,e⟩:=h.par y y1 yn
    refine ⟨_,List.mem_map.mpr ⟨ki j.1,tsort_mem.mpr (List.mem_map.mpr ⟨j,hj,rfl⟩),rfl⟩,?_⟩
    show ((j.1.2:Nat):Int)=y
    omega
theorem g_ground (ns:List Int) {a:Int} {t:Nat} (ha:0<=a) (ht:1<=t) (h5:t<=5):∃ g,GOk g/\g.n<=t/\G__law_ground [.scr ns,.int a,.int t]=some (gD g):=by
  have tp:(0:Int) < (t:Int):=by omega
  obtain ⟨n,hn⟩:∃ n:Nat,1+mix ns a t=(n:Int):=⟨(1+mix ns a t).toNat,by have:=mix_lo (ns:=ns) (k:=a) tp;omega⟩
  have m0:=mix_lo (ns:=ns) (k:=a) tp
  have m1:=mix_hi (ns:=ns) (k:=a) tp
  have n1:1<=n:=by omega
  have nt:n<=t:=by omega
  have es:start0 3 10 [D.scr ns,.int a,.int t]=[some (.val (.scr ns)),some (.val (.int a)),some (.val (.int t)),none,none,none,none,none,none,none]:=rfl
  have e1:sSet 3 (f2 addD (fC (.int 1)) (fL G__law_mixed (fCons (fV 0) (fCons (fV 1) (fCons (fV 2) fN))))) [some (.val (.scr ns)),some (.val (.int a)),some (.val (.int t)),none,none,none,none,none,none,none] =
      .nx [some (.val (.scr ns)),some (.val (.int a)),some (.val (.int t)),some (.val (.int n)),none,none,none,none,none,none]:=by
    simp! only [g_mixed ns ha tp,hn]
  have e2:sOwnT 4 [some (.val (.scr ns)),some (.val (.int a)),some (.val (.int t)),some (.val (.int n)),none,none,none,none,none,none]=.nx (gEnv ns a t n [] [none,none,none,none,none]):=rfl
  have loop1:∃ js x,sForA (fR rng2 (fCons (fC (.int 1)) (fCons (fV 3) fN))) (gN 5) (sDSet 4 (fL mkTup (fCons (fL G__law_mixed (fCons (fV 0) (fCons (f2 addD (fV 1) (fV 5)) (fCons (fV 5) fN)))) (fCons (fV 5) fN))) (f2 addD (fC (.int 1)) (f2 fdivD (fL G__law_mixed (fCons (fV 0) (fCons (f2 addD (f2 addD (fV 1) (fC (.int 5))) (fV 5)) (fCons (fC (.int 5)) fN)))) (fC (.int 3)))))
      (gEnv ns a t n [] [none,none,none,none,none])=.nx (gEnv ns a t n js [x,none,none,none,none])/\JOk n n js/\js.length<=4:=by
    have hr:fR rng2 (fCons (fC (.int 1)) (fCons (fV 3) fN)) (allV (gEnv ns a t n [] [none,none,none,none,none]))=some ((List.range (n - 1)).map fun (k:Nat)=>D.int (1+(k:Int))):=by
      unfold gEnv
      simp! only [rng2_of (i:=1) (j:=n) (by omega) (by omega) (by omega) (by omega)]
      rw [show ((n:Int) - 1).toNat=n - 1 by omega]
    unfold sForA
    rw [hr]
    dsimp only
    obtain ⟨ρ',e,⟨js,x,rfl,h1,h2⟩⟩:=forD_inv (t:=gN 5) (F:=sDSet 4 (fL mkTup (fCons (fL G__law_mixed (fCons (fV 0) (fCons (f2 addD (fV 1) (fV 5)) (fCons (fV 5) fN)))) (fCons (fV 5) fN))) (f2 addD (fC (.int 1)) (f2 fdivD (fL G__law_mixed (fCons (fV 0) (fCons (f2 addD (f2 addD (fV 1) (fC (.int 5))) (fV 5)) (fCons (fC (.int 5)) fN)))) (fC (.int 3)))))
      (fun m ρ=>∃ js x,ρ=gEnv ns a t n js [x,none,none,none,none]/\JOk n (m+1) js/\js.length<=m) ((List.range (n - 1)).map fun (k:Nat)=>D.int (1+(k:Int))) 0 (gEnv ns a t n [] [none,none,none,none,none]) (fun m e ρ he hP=>by
        obtain ⟨js,x,rfl,h1,h2⟩:=hP
        rw [List.getElem?_map] at he
        have hm:m < n - 1:=by
          cases q:(List.range (n - 1))[m]? with
          | none=>rw [q] at he;cases he
          | some z=>have:=(List.getElem?_eq_some_iff.mp q).1;simpa using this
        rw [List.getElem?_range hm] at he
        cases he
        have y0:(0:Int) < 1+(m:Int):=by omega
        have k0:=mix_lo (ns:=ns) (k:=a+(1+(m:Int))) y0
        have k1:=mix_hi (ns:=ns) (k:=a+(1+(m:Int))) y0
        have v0:=mix_lo (ns:=ns) (k:=a+5+(1+(m:Int))) (show (0:Int) < 5 by decide)
        have v1:=mix_hi (ns:=ns) (k:=a+5+(1+(m:Int))) (show (0:Int) < 5 by decide)
        refine ⟨_,_,rfl,gput (js:=js) (p:=((mix ns (a+(1+(m:Int))) (1+(m:Int))).toNat,m+1)) (v:=1+mix ns (a+5+(1+(m:Int))) 5 / 3) (x:=[some (.val (.int (1+(m:Int)))),none,none,none,none]) ?_ ?_ (by omega),_,some (.val (.int (1+(m:Int)))),rfl,?_,?_⟩
        · unfold gEnv
          simp! only [g_mixed ns (show 0<=a+(1+(m:Int)) by omega) y0,limD,Nat.reduceLeDiff]
          rw [show (((mix ns (a+(1+(m:Int))) (1+(m:Int))).toNat:Nat):Int)=mix ns (a+(1+(m:Int))) (1+(m:Int)) by omega,Int.add_comm (m:Int) 1]
        · unfold gEnv
          simp! only [g_mixed ns (show 0<=a+5+(1+(m:Int)) by omega) (show (0:Int) < 5 by decide),fdivD_ok (show (0:Int) < 3 by decide) (show (3:Int) < 1073741824 by decide)]
        · exact h1.put (by show _ < m+1;omega) (by show m+1 < n;omega) (by omega) (by omega) (.inr ⟨by omega,by show m+1=0+m+1;omega⟩)
        · have:=putJ_len (js:=js) (p:=((mix ns (a+(1+(m:Int))) (1+(m:Int))).toNat,m+1)) (v:=1+mix ns (a+5+(1+(m:Int))) 5 / 3)
          omega) ⟨[],none,rfl,⟨by simp,fun j hj=>(by cases hj),fun y y1 ym=>(by omega)⟩,Nat.le_refl _⟩
    refine ⟨js,x,e,?_,?_⟩
    · rw [List.length_map,List.length_range,show 0+(n - 1)+1=n by omega] at h1;exact h1
    · rw [List.length_map,List.length_range] at h2;omega
  obtain ⟨js1,x1,l1,ok1,len1⟩:=loop1
  have loop2:∃ js x,sForA (fR rng1 (fCons (f2 mulD (fL G__law_mixed (fCons (fV 0) (fCons (f2 addD (fV 1) (fC (.int 10))) (fCons (fC (.int 4)) fN)))) (fL intD (fCons (f2 (intOp fun i j=>.bl (decide (j < i))) (fV 3) (fC (.int 1))) fN))) fN)) (gN 6) (sSeq (sSet 7 (fL G__law_mixed (fCons (fV 0) (fCons (f2 addD (f2 addD (fV 1) (fC (.int 11))) (f2 mulD (fC (.int 2)) (fV 6))) (fCons (fV 3) fN)))))
  (sSeq (sSet 8 (f2 modD (f2 addD (f2 addD (fV 7) (fC (.int 1))) (fL G__law_mixed (fCons (fV 0) (fCons (f2 addD (f2 addD (fV 1) (fC (.int 12))) (f2 mulD (fC (.int 2)) (fV 6))) (fCons (f2 (intOp fun i j=>.int (i - j)) (fV 3) (fC (.int 1))) fN))))) (fV 3)))
  (sSeq (sSet 9 (fL mkTup (fCons (fL minD (fCons (fV 7) (fCons (fV 8) fN))) (fCons (fL maxD (fCons (fV 7) (fCons (fV 8) fN))) fN))))
  (sDSet 4 (fV 9) (f2 addD (f2 modD (fDgt (fV 4) (fV 9) (fC (.int 0))) (fC (.int 4))) (fC (.int 1)))))))
      (gEnv ns a t n js1 [x1,none,none,none,none])=.nx (gEnv ns a t n js x)/\JOk n n js/\js.length<=8:=by
    have q0:=mix_lo (ns:=ns) (k:=a+10) (show (0:Int) < 4 by decide)
    have q1:=mix_hi (ns:=ns) (k:=a+10) (show (0:Int) < 4 by decide)
    obtain ⟨r,hr4,hrn,hr⟩:∃ r:Nat,r<=4/\(0 < r->1 < n)/\fR rng1 (fCons (f2 mulD (fL G__law_mixed (fCons (fV 0) (fCons (f2 addD (fV 1) (fC (.int 10))) (fCons (fC (.int 4)) fN)))) (fL intD (fCons (f2 (intOp fun i j=>.bl (decide (j < i))) (fV 3) (fC (.int 1))) fN))) fN) (allV (gEnv ns a t n js1 [x1,none,none,none,none]))=some ((List.range r).map fun k=>D.int (k:Nat)):=by
      have sm:∀ z,mulD (.int (mix ns (a+10) 4)) (.int z)=some (.int (mix ns (a+10) 4 * z)):=fun z=>mulD_l (small_of (by omega) (by omega))
      by_cases hn1:(1:Int) < n
      · refine ⟨(mix ns (a+10) 4).toNat,by omega,fun _=>by omega,?_⟩
        unfold gEnv
        simp! only [g_mixed ns (show 0<=a+10 by omega) (show (0:Int) < 4 by decide),hn1,intD,sm,Int.mul_one,rng1_of q0 (show mix ns (a+10) 4<=65536 by omega)]
      · refine ⟨0,by omega,fun z=>absurd z (by omega),?_⟩
        unfold gEnv
        simp! only [g_mixed ns (show 0<=a+10 by omega) (show (0:Int) < 4 by decide),hn1,intD,sm,Int.mul_zero,rng1_of (j:=0) (by decide) (by decide)]
        rfl
    unfold sForA
    rw [hr]
    dsimp only
    obtain ⟨ρ',e,⟨js,x5,x6,x7,x8,x9,rfl,h1,h2⟩⟩:=forD_inv (t:=gN 6) (F:=sSeq (sSet 7 (fL G__law_mixed (fCons (fV 0) (fCons (f2 addD (f2 addD (fV 1) (fC (.int 11))) (f2 mulD (fC (.int 2)) (fV 6))) (fCons (fV 3) fN)))))
  (sSeq (sSet 8 (f2 modD (f2 addD (f2 addD (fV 7) (fC (.int 1))) (fL G__law_mixed (fCons (fV 0) (fCons (f2 addD (f2 addD (fV 1) (fC (.int 12))) (f2 mulD (fC (.int 2)) (fV 6))) (fCons (f2 (intOp fun i j=>.int (i - j)) (fV 3) (fC (.int 1))) fN))))) (fV 3)))
  (sSeq (sSet 9 (fL mkTup (fCons (fL minD (fCons (fV 7) (fCons (fV 8) fN))) (fCons (fL maxD (fCons (fV 7) (fCons (fV 8) fN))) fN))))
  (sDSet 4 (fV 9) (f2 addD (f2 modD (fDgt (fV 4) (fV 9) (fC (.int 0))) (fC (.int 4))) (fC (.int 1)))))))
      (fun m ρ=>∃ js x5 x6 x7 x8 x9,ρ=gEnv ns a t n js [x5,x6,x7,x8,x9]/\JOk n n js/\js.length<=m+4) ((List.range r).map fun k=>D.int (k:Nat)) 0 (gEnv ns a t n js1 [x1,none,none,none,none]) (fun m e ρ he hP=>by
        obtain ⟨js,x5,x6,x7,x8,x9,rfl,h1,h2⟩:=hP
        rw [List.getElem?_map] at he
        have hm:m < r:=by
          cases q:(List.range r)[m]? with
          | none=>rw [q] at he;cases he
          | some z=>have:=(List.getElem?_eq_some_iff.mp q).1;simpa using this
        rw [List.getElem?_range hm] at he
        cases he
        have n2:=hrn (by omega)
        have np:(0:Int) < (n:Int):=by omega
        have np1:(0:Int) < (n:Int) - 1:=by omega
        obtain ⟨i,hi⟩:∃ i:Nat,mix ns (a+11+2 * (m:Int)) n=(i:Int):=⟨(mix ns (a+11+2 * (m:Int)) n).toNat,by have:=mix_lo (ns:=ns) (k:=a+11+2 * (m:Int)) np;omega⟩
        have iN:i < n:=by have:=mix_hi (ns:=ns) (k:=a+11+2 * (m:Int)) np;omega
        have u0:=mix_lo (ns:=ns) (k:=a+12+2 * (m:Int)) np1
        have u1:=mix_hi (ns:=ns) (k:=a+12+2 * (m:Int)) np1
        obtain ⟨j,hj⟩:∃ j:Nat,((i:Int)+1+mix ns (a+12+2 * (m:Int)) ((n:Int) - 1)) % (n:Int)=(j:Int):=⟨(((i:Int)+1+mix ns (a+12+2 * (m:Int)) ((n:Int) - 1)) % (n:Int)).toNat,by have:=Int.emod_nonneg ((i:Int)+1+mix ns (a+12+2 * (m:Int)) ((n:Int) - 1)) (show (n:Int)≠0 by omega);omega⟩
        have jN:j < n:=by have:=Int.emod_lt_of_pos ((i:Int)+1+mix ns (a+12+2 * (m:Int)) ((n:Int) - 1)) np;omega
        have ij:i≠j:=fun z=>by
          subst z
          by_cases w:(i:Int)+1+mix ns (a+12+2 * (m:Int)) ((n:Int) - 1) < n
          · rw [Int.emod_eq_of_lt (by omega) w] at hj;omega
          · have:((i:Int)+1+mix ns (a+12+2 * (m:Int)) ((n:Int) - 1)) % (n:Int)=(i:Int)+1+mix ns (a+12+2 * (m:Int)) ((n:Int) - 1) - n:=by
              rw [<- Int.sub_emod_right,Int.emod_eq_of_lt (by omega) (by omega)]
            omega
        have s7:sSet 7 (fL G__law_mixed (fCons (fV 0) (fCons (f2 addD (f2 addD (fV 1) (fC (.int 11))) (f2 mulD (fC (.int 2)) (fV 6))) (fCons (fV 3) fN)))) (gEnv ns a t n js [x5,some (.val (.int (m:Int))),x7,x8,x9])=.nx (gEnv ns a t n js [x5,some (.val (.int (m:Int))),some (.val (.int i)),x8,x9]):=by
          unfold gEnv
          simp! only [mulD_l (small_of (i:=2) (by decide) (by decide)),g_mixed ns (show 0<=a+11+2 * (m:Int) by omega) np,hi]
        have s8:sSet 8 (f2 modD (f2 addD (f2 addD (fV 7) (fC (.int 1))) (fL G__law_mixed (fCons (fV 0) (fCons (f2 addD (f2 addD (fV 1) (fC (.int 12))) (f2 mulD (fC (.int 2)) (fV 6))) (fCons (f2 (intOp fun i j=>.int (i - j)) (fV 3) (fC (.int 1))) fN))))) (fV 3)) (gEnv ns a t n js [x5,some (.val (.int (m:Int))),some (.val (.int i)),x8,x9])=.nx (gEnv ns a t n js [x5,some (.val (.int (m:Int))),some (.val (.int i)),some (.val (.int j)),x9]):=by
          unfold gEnv
          simp! only [mulD_l (small_of (i:=2) (by decide) (by decide)),g_mixed ns (show 0<=a+12+2 * (m:Int) by omega) np1,np,hj]
        have s9:sSet 9 (fL mkTup (fCons (fL minD (fCons (fV 7) (fCons (fV 8) fN))) (fCons (fL maxD (fCons (fV 7) (fCons (fV 8) fN))) fN))) (gEnv ns a t n js [x5,some (.val (.int (m:Int))),some (.val (.int i)),some (.val (.int j)),x9])=.nx (gEnv ns a t n js [x5,some (.val (.int (m:Int))),some (.val (.int i)),some (.val (.int j)),some (.val (.tup [.int (min i j:Nat),.int (max i j:Nat)]))]):=by
          unfold gEnv
          simp! only [minD_nat,maxD_nat,limD,Nat.reduceLeDiff]
        obtain ⟨v,hv⟩:∃ v:Int,(match lkJ js (min i j,max i j) with | some v=>v | none=>0)=v:=⟨_,rfl⟩
        have sv:(f2 addD (f2 modD (fDgt (fV 4) (fV 9) (fC (.int 0))) (fC (.int 4))) (fC (.int 1))) (allV (gEnv ns a t n js [x5,some (.val (.int (m:Int))),some (.val (.int i)),some (.val (.int j)),some (.val (.tup [.int (min i j:Nat),.int (max i j:Nat)]))]))=some (.int (v % 4+1)):=by
          unfold gEnv
          have p4:(0:Int) < 4:=by decide
          have kt:=keyT_jk (min i j,max i j)
          dsimp only at kt
          simp! only [fDgt,dLook,kt,lk_J]
          cases w:lkJ js (min i j,max i j) with
          | none =>
            rw [w] at hv
            dsimp only at hv
            subst hv
            simp only [Option.map_none,runF,start0,ap_seq,oSeq_nx,oSeq_rt,ltOp,sNx,sSet,sSetI,sRet,sIf,sExp,sOwn,sBad,fV,fC,f1,f2,fN,fCons,fL,fIf,fAnd,fOr,fNot,gB,gAnd,gOr,gNot,gTru,fChain,fItems,fR,fFr,fSl,pN,pS,allV,valV',setV,setD,gN,gT,env0,List.map_cons,List.map_nil,List.length_cons,List.length_nil,List.replicate,List.cons_append,List.nil_append,List.getElem?_cons_zero,List.getElem?_cons_succ,List.getElem?_nil,List.set_cons_zero,List.set_cons_succ,Option.getD_some,Option.getD_none,Option.bind_some,Option.bind_none,Option.map_some,Nat.reduceAdd,Nat.reduceSub,Nat.reduceEqDiff,if_true,if_false,reduceIte,Bool.false_eq_true,lenD_t,lenD_l,lenD_s,intOp,addD_ii,modD,ixD_t,ixD_l,ixD_s,mkTup,mkLst,few,truD,negD,decide_true,decide_false,Bool.not_true,Bool.not_false,decide_not,ne_eq,not_true_eq_false,not_false_eq_true,Int.reduceEq,Int.cast_ofNat_Int,Int.natCast_add,Int.reduceAdd,Int.cast_ofNat_Int,p4]
          | some u =>
            rw [w] at hv
            dsimp only at hv
            subst hv
            simp! only [p4]
        refine ⟨_,gEnv ns a t n (putJ js (min i j,max i j) (v % 4+1)) [x5,some (.val (.int (m:Int))),some (.val (.int i)),some (.val (.int j)),some (.val (.tup [.int (min i j:Nat),.int (max i j:Nat)]))],rfl,?_,_,_,_,_,_,_,rfl,?_,?_⟩
        · show oSeq (sSet 7 _ (gEnv ns a t n js [x5,some (.val (.int (m:Int))),x7,x8,x9])) _=_
          rw [s7,oSeq_nx,ap_seq,s8,oSeq_nx,ap_seq,s9,oSeq_nx]
          exact gput (p:=(min i j,max i j)) rfl sv (by omega)
        · have:0<=v % 4:=Int.emod_nonneg _ (by decide)
          have:v % 4 < 4:=Int.emod_lt_of_pos _ (by decide)
          exact h1.put (by show min i j < max i j;omega) (by show max i j < n;omega) (by omega) (by omega) (.inl (Nat.le_refl _))
        · have:=putJ_len (js:=js) (p:=(min i j,max i j)) (v:=v % 4+1)
          omega) ⟨js1,x1,none,none,none,none,rfl,ok1,by omega⟩
    refine ⟨js,_,e,h1,?_⟩
    rw [List.length_map,List.length_range] at h2
    omega
  obtain ⟨js,x,l2,ok2,len2⟩:=loop2
  refine ⟨⟨n,bsOf js⟩,jok_gok ok2 n1 (by omega) (by omega),nt,?_⟩
  unfold G__law_ground F__law_ground runF
  rw [if_pos (show ([D.scr ns,.int a,.int t]:List D).length=3 from rfl),es,ap_seq,e1,oSeq_nx,ap_seq,e2,oSeq_nx,ap_seq,l1,oSeq_nx,ap_seq,l2,oSeq_nx]
  have hs:sortedD [.lst ((kJ js).map fun k=>.tup (k.map kD))]=some (.lst ((tsort (js.map fun j=>ki j.1)).map kT)):=by
    have:((kJ js).map fun k=>D.tup (k.map kD))=(js.map fun j=>ki j.1).map kT:=by
      unfold kJ
      rw [List.map_map,List.map_map]
      rfl
    rw [this]
    refine sortedD_tups (by rw [List.length_map];omega) (ki_nodup ok2.nd) fun k hk=>?_
    obtain ⟨j,_,rfl⟩:=List.mem_map.mp hk
    unfold ki;simp
  unfold gEnv
  simp! only []
  rw [fComp_all kT (fun k=>bD (k.getD 0 0,k.getD 1 0,(lkJ js ((k.getD 0 0).toNat,(k.getD 1 0).toNat)).getD 0)) (tsort (js.map fun j=>ki j.1)) (by simp! only [listTD,hs,itemsD]) (by rw [tsort_len,List.length_map];omega)]
  · simp! only [tupD,limD,Nat.reduceLeDiff]
    unfold gD bsOf
    rw [List.map_map]
    rfl
  · intro k hk
    refine ⟨_,rfl,?_⟩
    obtain ⟨j,hj,rfl⟩:=List.mem_map.mp (tsort_mem.mp hk)
    obtain ⟨v,hv⟩:=lkJ_some (js:=js) (p:=j.1) (List.mem_map.mpr ⟨j,hj,rfl⟩)
    have kt:=keyT_jk j.1
    have ek:kT (ki j.1)=.tup [.int j.1.1,.int j.1.2]:=rfl
    have e0:(lkJ js (((ki j.1).getD 0 0).toNat,((ki j.1).getD 1 0).toNat)).getD 0=v:=by
      show (lkJ js (((j.1.1:Nat):Int).toNat,((j.1.2:Nat):Int).toNat)).getD 0=v
      rw [Int.toNat_natCast,Int.toNat_natCast,show ((j.1.1,j.1.2):Nat×Nat)=j.1 from rfl,hv];rfl
    rw [e0]
    simp! only [ek,dixD,dLook,kt,lk_J,hv,limD,Nat.reduceLeDiff]
    rfl
theorem lset_ints (ns:List Int) (h:ns.length<=4000):lsetD (.lst (ns.map .int))=some (.int ((ns.foldl stepQ []).length:Nat)):=by
  unfold lsetD
  dsimp only
  rw [intsOf_map]
  dsimp only
  rw [if_pos h]
def ten:List (Nat×Nat):=[(0,1),(0,2),(0,3),(0,4),(1,2),(1,3),(1,4),(2,3),(2,4),(3,4)]
def subsL {α:Type}:List α->List (List α)
  | []=>[[]]
  | x::xs=>subsL xs++(subsL xs).map (x::·)
theorem mem_subsL {α:Type} {S L:List α} (h:S.Sublist L):S∈subsL L:=by
  induction h with
  | slnil=>simp [subsL]
  | cons a _ ih=>unfold subsL;exact List.mem_append.mpr (.inl ih)
  | cons_cons a _ ih=>unfold subsL;exact List.mem_append.mpr (.inr (List.mem_map.mpr ⟨_,ih,rfl⟩))
def k2 (p:Nat×Nat):List Int:=[(p.1:Int),(p.2:Int)]
def ltP (x y:Nat×Nat):Bool:=decide (x.1 < y.1) || (Nat.beq x.1 y.1 && decide (x.2 < y.2))
def riseP:List (Nat×Nat)->Bool
  | x::y::r=>ltP x y && riseP (y::r)
  | _=>true
def chkS (l:List (Nat×Nat)):Bool:=match runG (l.map k2) ([],7,#[]) with
  | none=>false
  | some st=>decide (st.1.length < 64) && decide (st.1.Nodup) && (st.1.all fun k=>!k.isEmpty) && okW st && (!riseP l || st.1.isPerm (l.map k2))
theorem all_cut {α:Type} {l:List α} {p:α->Bool} (n:Nat) (h1:(l.take n).all p=true) (h2:(l.drop n).all p=true):l.all p=true:=by
  rw [<- List.take_append_drop n l,List.all_append,h1,h2];rfl
theorem ck_1_0:(((subsL ten).drop 0).take 64).all (chkS)=true:=by decide +kernel
theorem ck_1_1:(((subsL ten).drop 64).take 64).all (chkS)=true:=by decide +kernel
theorem ck_1_2:(((subsL ten).drop 128).take 64).all (chkS)=true:=by decide +kernel
theorem ck_1_3:(((subsL ten).drop 192).take 64).all (chkS)=true:=by decide +kernel
theorem ck_1_4:(((subsL ten).drop 256).take 64).all (chkS)=true:=by decide +kernel
theorem ck_1_5:(((subsL ten).drop 320).take 64).all (chkS)=true:=by decide +kernel
theorem ck_1_6:(((subsL ten).drop 384).take 64).all (chkS)=true:=by decide +kernel
theorem ck_1_7:(((subsL ten).drop 448).take 64).all (chkS)=true:=by decide +kernel
theorem ck_1_8:(((subsL ten).drop 512).take 64).all (chkS)=true:=by decide +kernel
theorem ck_1_9:(((subsL ten).drop 576).take 64).all (chkS)=true:=by decide +kernel
theorem ck_1_10:(((subsL ten).drop 640).take 64).all (chkS)=true:=by decide +kernel
theorem ck_1_11:(((subsL ten).drop 704).take 64).all (chkS)=true:=by decide +kernel
theorem ck_1_12:(((subsL ten).drop 768).take 64).all (chkS)=true:=by decide +kernel
theorem ck_1_13:(((subsL ten).drop 832).take 64).all (chkS)=true:=by decide +kernel
theorem ck_1_14:(((subsL ten).drop 896).take 64).all (chkS)=true:=by decide +kernel
theorem ck_1_15:(((subsL ten).drop 960).take 64).all (chkS)=true:=by decide +kernel
theorem chk_1:((subsL ten).all (chkS))=true:=by
  refine all_cut 64 ck_1_0 ?_
  refine all_cut 64 ck_1_1 ?_
  rw [List.drop_drop]
  refine all_cut 64 ck_1_2 ?_
  rw [List.drop_drop]
  refine all_cut 64 ck_1_3 ?_
  rw [List.drop_drop]
  refine all_cut 64 ck_1_4 ?_
  rw [List.drop_drop]
  refine all_cut 64 ck_1_5 ?_
  rw [List.drop_drop]
  refine all_cut 64 ck_1_6 ?_
  rw [List.drop_drop]
  refine all_cut 64 ck_1_7 ?_
  rw [List.drop_drop]
  refine all_cut 64 ck_1_8 ?_
  rw [List.drop_drop]
  refine all_cut 64 ck_1_9 ?_
  rw [List.drop_drop]
  refine all_cut 64 ck_1_10 ?_
  rw [List.drop_drop]
  refine all_cut 64 ck_1_11 ?_
  rw [List.drop_drop]
  refine all_cut 64 ck_1_12 ?_
  rw [List.drop_drop]
  refine all_cut 64 ck_1_13 ?_
  rw [List.drop_drop]
  refine all_cut 64 ck_1_14 ?_
  rw [List.drop_drop]
  refine all_cut 64 ck_1_15 ?_
  rw [List.drop_drop]
  rw [List.drop_eq_nil_of_le (by decide +kernel)];rfl
theorem ck_2_0:(((subsL ten).drop 0).take 64).all (fun S=>chkS S.reverse)=true:=by decide +kernel
theorem ck_2_1:(((subsL ten).drop 64).take 64).all (fun S=>chkS S.reverse)=true:=by decide +kernel
theorem ck_2_2:(((subsL ten).drop 128).take 64).all (fun S=>chkS S.reverse)=true:=by decide +kernel
theorem ck_2_3:(((subsL ten).drop 192).take 64).all (fun S=>chkS S.reverse)=true:=by decide +kernel
theorem ck_2_4:(((subsL ten).drop 256).take 64).all (fun S=>chkS S.reverse)=true:=by decide +kernel
theorem ck_2_5:(((subsL ten).drop 320).take 64).all (fun S=>chkS S.reverse)=true:=by decide +kernel
theorem ck_2_6:(((subsL ten).drop 384).take 64).all (fun S=>chkS S.reverse)=true:=by decide +kernel
theorem ck_2_7:(((subsL ten).drop 448).take 64).all (fun S=>chkS S.reverse)=true:=by decide +kernel
theorem ck_2_8:(((subsL ten).drop 512).take 64).all (fun S=>chkS S.reverse)=true:=by decide +kernel
theorem ck_2_9:(((subsL ten).drop 576).take 64).all (fun S=>chkS S.reverse)=true:=by decide +kernel
theorem ck_2_10:(((subsL ten).drop 640).take 64).all (fun S=>chkS S.reverse)=true:=by decide +kernel
theorem ck_2_11:(((subsL ten).drop 704).take 64).all (fun S=>chkS S.reverse)=true:=by decide +kernel
theorem ck_2_12:(((subsL ten).drop 768).take 64).all (fun S=>chkS S.reverse)=true:=by decide +kernel
theorem ck_2_13:(((subsL ten).drop 832).take 64).all (fun S=>chkS S.reverse)=true:=by decide +kernel
theorem ck_2_14:(((subsL ten).drop 896).take 64).all (fun S=>chkS S.reverse)=true:=by decide +kernel
theorem ck_2_15:(((subsL ten).drop 960).take 64).all (fun S=>chkS S.reverse)=true:=by decide +kernel
theorem chk_2:((subsL ten).all (fun S=>chkS S.reverse))=true:=by
  refine all_cut 64 ck_2_0 ?_
  refine all_cut 64 ck_2_1 ?_
  rw [List.drop_drop]
  refine all_cut 64 ck_2_2 ?_
  rw [List.drop_drop]
  refine all_cut 64 ck_2_3 ?_
  rw [List.drop_drop]
  refine all_cut 64 ck_2_4 ?_
  rw [List.drop_drop]
  refine all_cut 64 ck_2_5 ?_
  rw [List.drop_drop]
  refine all_cut 64 ck_2_6 ?_
  rw [List.drop_drop]
  refine all_cut 64 ck_2_7 ?_
  rw [List.drop_drop]
  refine all_cut 64 ck_2_8 ?_
  rw [List.drop_drop]
  refine all_cut 64 ck_2_9 ?_
  rw [List.drop_drop]
  refine all_cut 64 ck_2_10 ?_
  rw [List.drop_drop]
  refine all_cut 64 ck_2_11 ?_
  rw [List.drop_drop]
  refine all_cut 64 ck_2_12 ?_
  rw [List.drop_drop]
  refine all_cut 64 ck_2_13 ?_
  rw [List.drop_drop]
  refine all_cut 64 ck_2_14 ?_
  rw [List.drop_drop]
  refine all_cut 64 ck_2_15 ?_
  rw [List.drop_drop]
  rw [List.drop_eq_nil_of_le (by decide +kernel)];rfl
theorem ck_3_0:(((subsL ten).drop 0).take 64).all (fun S=>chkS (S++S.drop (S.length - 1)))=true:=by decide +kernel
theorem ck_3_1:(((subsL ten).drop 64).take 64).all (fun S=>chkS (S++S.drop (S.length - 1)))=true:=by decide +kernel
theorem ck_3_2:(((subsL ten).drop 128).take 64).all (fun S=>chkS (S++S.drop (S.length - 1)))=true:=by decide +kernel
theorem ck_3_3:(((subsL ten).drop 192).take 64).all (fun S=>chkS (S++S.drop (S.length - 1)))=true:=by decide +kernel
theorem ck_3_4:(((subsL ten).drop 256).take 64).all (fun S=>chkS (S++S.drop (S.length - 1)))=true:=by decide +kernel
theorem ck_3_5:(((subsL ten).drop 320).take 64).all (fun S=>chkS (S++S.drop (S.length - 1)))=true:=by decide +kernel
theorem ck_3_6:(((subsL ten).drop 384).take 64).all (fun S=>chkS (S++S.drop (S.length - 1)))=true:=by decide +kernel
theorem ck_3_7:(((subsL ten).drop 448).take 64).all (fun S=>chkS (S++S.drop (S.length - 1)))=true:=by decide +kernel
theorem ck_3_8:(((subsL ten).drop 512).take 64).all (fun S=>chkS (S++S.drop (S.length - 1)))=true:=by decide +kernel
theorem ck_3_9:(((subsL ten).drop 576).take 64).all (fun S=>chkS (S++S.drop (S.length - 1)))=true:=by decide +kernel
theorem ck_3_10:(((subsL ten).drop 640).take 64).all (fun S=>chkS (S++S.drop (S.length - 1)))=true:=by decide +kernel
theorem ck_3_11:(((subsL ten).drop 704).take 64).all (fun S=>chkS (S++S.drop (S.length - 1)))=true:=by decide +kernel
theorem ck_3_12:(((subsL ten).drop 768).take 64).all (fun S=>chkS (S++S.drop (S.length - 1)))=true:=by decide +kernel
theorem ck_3_13:(((subsL ten).drop 832).take 64).all (fun S=>chkS (S++S.drop (S.length - 1)))=true:=by decide +kernel
theorem ck_3_14:(((subsL ten).drop 896).take 64).all (fun S=>chkS (S++S.drop (S.length - 1)))=true:=by decide +kernel
theorem ck_3_15:(((subsL ten).drop 960).take 64).all (fun S=>chkS (S++S.drop (S.length - 1)))=true:=by decide +kernel
theorem chk_3:((subsL ten).all (fun S=>chkS (S++S.drop (S.length - 1))))=true:=by
  refine all_cut 64 ck_3_0 ?_
  refine all_cut 64 ck_3_1 ?_
  rw [List.drop_drop]
  refine all_cut 64 ck_3_2 ?_
  rw [List.drop_drop]
  refine all_cut 64 ck_3_3 ?_
  rw [List.drop_drop]
  refine all_cut 64 ck_3_4 ?_
  rw [List.drop_drop]
  refine all_cut 64 ck_3_5 ?_
  rw [List.drop_drop]
  refine all_cut 64 ck_3_6 ?_
  rw [List.drop_drop]
  refine all_cut 64 ck_3_7 ?_
  rw [List.drop_drop]
  refine all_cut 64 ck_3_8 ?_
  rw [List.drop_drop]
  refine all_cut 64 ck_3_9 ?_
  rw [List.drop_drop]
  refine all_cut 64 ck_3_10 ?_
  rw [List.drop_drop]
  refine all_cut 64 ck_3_11 ?_
  rw [List.drop_drop]
  refine all_cut 64 ck_3_12 ?_
  rw [List.drop_drop]
  refine all_cut 64 ck_3_13 ?_
  rw [List.drop_drop]
  refine all_cut 64 ck_3_14 ?_
  rw [List.drop_drop]
  refine all_cut 64 ck_3_15 ?_
  rw [List.drop_drop]
  rw [List.drop_eq_nil_of_le (by decide +kernel)];rfl
theorem ck_4_0:(((subsL ten).drop 0).take 64).all (fun S=>chkS ((0,1)::S))=true:=by decide +kernel
theorem ck_4_1:(((subsL ten).drop 64).take 64).all (fun S=>chkS ((0,1)::S))=true:=by decide +kernel
theorem ck_4_2:(((subsL ten).drop 128).take 64).all (fun S=>chkS ((0,1)::S))=true:=by decide +kernel
theorem ck_4_3:(((subsL ten).drop 192).take 64).all (fun S=>chkS ((0,1)::S))=true:=by decide +kernel
theorem ck_4_4:(((subsL ten).drop 256).take 64).all (fun S=>chkS ((0,1)::S))=true:=by decide +kernel
theorem ck_4_5:(((subsL ten).drop 320).take 64).all (fun S=>chkS ((0,1)::S))=true:=by decide +kernel
theorem ck_4_6:(((subsL ten).drop 384).take 64).all (fun S=>chkS ((0,1)::S))=true:=by decide +kernel
theorem ck_4_7:(((subsL ten).drop 448).take 64).all (fun S=>chkS ((0,1)::S))=true:=by decide +kernel
theorem ck_4_8:(((subsL ten).drop 512).take 64).all (fun S=>chkS ((0,1)::S))=true:=by decide +kernel
theorem ck_4_9:(((subsL ten).drop 576).take 64).all (fun S=>chkS ((0,1)::S))=true:=by decide +kernel
theorem ck_4_10:(((subsL ten).drop 640).take 64).all (fun S=>chkS ((0,1)::S))=true:=by decide +kernel
theorem ck_4_11:(((subsL ten).drop 704).take 64).all (fun S=>chkS ((0,1)::S))=true:=by decide +kernel
theorem ck_4_12:(((subsL ten).drop 768).take 64).all (fun S=>chkS ((0,1)::S))=true:=by decide +kernel
theorem ck_4_13:(((subsL ten).drop 832).take 64).all (fun S=>chkS ((0,1)::S))=true:=by decide +kernel
theorem ck_4_14:(((subsL ten).drop 896).take 64).all (fun S=>chkS ((0,1)::S))=true:=by decide +kernel
theorem ck_4_15:(((subsL ten).drop 960).take 64).all (fun S=>chkS ((0,1)::S))=true:=by decide +kernel
theorem chk_4:((subsL ten).all (fun S=>chkS ((0,1)::S)))=true:=by
  refine all_cut 64 ck_4_0 ?_
  refine all_cut 64 ck_4_1 ?_
  rw [List.drop_drop]
  refine all_cut 64 ck_4_2 ?_
  rw [List.drop_drop]
  refine all_cut 64 ck_4_3 ?_
  rw [List.drop_drop]
  refine all_cut 64 ck_4_4 ?_
  rw [List.drop_drop]
  refine all_cut 64 ck_4_5 ?_
  rw [List.drop_drop]
  refine all_cut 64 ck_4_6 ?_
  rw [List.drop_drop]
  refine all_cut 64 ck_4_7 ?_
  rw [List.drop_drop]
  refine all_cut 64 ck_4_8 ?_
  rw [List.drop_drop]
  refine all_cut 64 ck_4_9 ?_
  rw [List.drop_drop]
  refine all_cut 64 ck_4_10 ?_
  rw [List.drop_drop]
  refine all_cut 64 ck_4_11 ?_
  rw [List.drop_drop]
  refine all_cut 64 ck_4_12 ?_
  rw [List.drop_drop]
  refine all_cut 64 ck_4_13 ?_
  rw [List.drop_drop]
  refine all_cut 64 ck_4_14 ?_
  rw [List.drop_drop]
  refine all_cut 64 ck_4_15 ?_
  rw [List.drop_drop]
  rw [List.drop_eq_nil_of_le (by decide +kernel)];rfl
def stJ (l:List Nat) (p:Nat×Nat):List Nat:=if p.1∈l\/p.2∈l then putN (putN l p.1) p.2 else l
def jn (n:Nat) (ps:List (Nat×Nat)):Bool:=decide (((List.range n).foldl (fun l _=>ps.foldl stJ l) [0]).length=n)
def stN (ν:List Int) (p:Nat×Nat):List Int:=ν.map fun x=>if x=ν.getD p.2 0 then ν.getD p.1 0 else x
def nmO (n:Nat) (ps:List (Nat×Nat)):Bool:=decide (((ps.foldl stN ((List.range n).map fun (i:Nat)=>(i:Int))).foldl stepQ []).length=1)
def agr (n:Nat):Bool:=(subsL ten).all fun S=>!(S.all fun p=>decide (p.2 < n)) || jn n S == nmO n S
theorem agr_1:agr 1=true:=by decide +kernel
theorem agr_2:agr 2=true:=by decide +kernel
theorem agr_3:agr 3=true:=by decide +kernel
theorem agr_4:agr 4=true:=by decide +kernel
theorem agr_5:agr 5=true:=by decide +kernel
theorem ten_mem {p:Nat×Nat} (h:p.1 < p.2/\p.2<=4):p∈ten:=by
  obtain ⟨a,b⟩:=p
  simp only at h
  have:(a=0/\b=1)\/(a=0/\b=2)\/(a=0/\b=3)\/(a=0/\b=4)\/(a=1/\b=2)\/(a=1/\b=3)\/(a=1/\b=4)\/(a=2/\b=3)\/(a=2/\b=4)\/(a=3/\b=4):=by omega
  rcases this with ⟨rfl,rfl⟩ | ⟨rfl,rfl⟩ | ⟨rfl,rfl⟩ | ⟨rfl,rfl⟩ | ⟨rfl,rfl⟩ | ⟨rfl,rfl⟩ | ⟨rfl,rfl⟩ | ⟨rfl,rfl⟩ | ⟨rfl,rfl⟩ | ⟨rfl,rfl⟩ <;> decide
theorem ltP_iff {x y:Nat×Nat}:ltP x y=true ↔ x.1 < y.1\/(x.1=y.1/\x.2 < y.2):=by
  unfold ltP;simp
theorem rise_pw:∀ {l:List (Nat×Nat)},riseP l=true->l.Pairwise fun x y=>ltP x y=true
  | [],_=>.nil
  | [x],_=>by simp
  | x::y::r,h=>by
    have h:(ltP x y && riseP (y::r))=true:=h
    rw [Bool.and_eq_true] at h
    have ih:=rise_pw h.2
    refine List.pairwise_cons.mpr ⟨fun z hz=>?_,ih⟩
    rcases List.mem_cons.mp hz with rfl | hz
    · exact h.1
    · have a:=ltP_iff.mp h.1
      have b:=ltP_iff.mp ((List.pairwise_cons.mp ih).1 z hz)
      exact ltP_iff.mpr (by omega)
theorem sub_of {L S:List (Nat×Nat)} (hL:L.Pairwise fun x y=>ltP x y=true) (hS:S.Pairwise fun x y=>ltP x y=true) (h:∀ x∈S,x∈L):S.Sublist L:=by
  induction L generalizing S with
  | nil =>
    cases S with
    | nil=>exact .slnil
    | cons x S=>have:=h x List.mem_cons_self;cases this
  | cons x L ih =>
    obtain ⟨hx,hL'⟩:=List.pairwise_cons.mp hL
    have irr:∀ y,ltP y y=true->False:=fun y hy=>by have:=ltP_iff.mp hy;omega
    cases S with
    | nil=>exact List.nil_sublist _
    | cons y S =>
      obtain ⟨hy,hS'⟩:=List.pairwise_cons.mp hS
      by_cases e:y=x
      · subst e
        refine .cons_cons _ (ih hL' hS' fun z hz=>?_)
        rcases List.mem_cons.mp (h z (List.mem_cons_of_mem _ hz)) with rfl | q
        · exact (irr _ (hy _ hz)).elim
        · exact q
      · refine .cons _ (ih hL' hS fun z hz=>?_)
        rcases List.mem_cons.mp (h z hz) with rfl | q
        · have yL:y∈L:=by
            rcases List.mem_cons.mp (h y List.mem_cons_self) with q | q
            · exact absurd q e
            · exact q
          rcases List.mem_cons.mp hz with q | q
          · exact absurd q.symm e
          · have a:=ltP_iff.mp (hx y yL)
            have b:=ltP_iff.mp (hy z q)
            omega
        · exact q
theorem in_subs {S:List (Nat×Nat)} (h:∀ p∈S,p.1 < p.2/\p.2<=4) (r:riseP S=true):S∈subsL ten :=
  mem_subsL (sub_of (rise_pw (by decide)) (rise_pw r) fun p hp=>ten_mem (h p hp))
theorem jn_nm {n:Nat} (h1:1<=n) (h5:n<=5) {S:List (Nat×Nat)} (h:∀ p∈S,p.1 < p.2/\p.2 < n) (r:riseP S=true):jn n S=nmO n S:=by
  have hm:=in_subs (fun p hp=>by have:=h p hp;omega) r
  have ha:agr n=true:=by
    have:n=1\/n=2\/n=3\/n=4\/n=5:=by omega
    rcases this with rfl | rfl | rfl | rfl | rfl
    · exact agr_1
    · exact agr_2
    · exact agr_3
    · exact agr_4
    · exact agr_5
  have:=List.all_eq_true.mp ha S hm
  have e:(S.all fun p=>decide (p.2 < n))=true:=List.all_eq_true.mpr fun p hp=>decide_eq_true (h p hp).2
  rw [e] at this
  simpa using this
theorem lex_ltP (x y:Nat×Nat):HT.lexLt (k2 x) (k2 y)=ltP x y:=by
  obtain ⟨a,b⟩:=x
  obtain ⟨c,d⟩:=y
  have e:ltP (a,b) (c,d)=decide (a < c\/(a=c/\b < d)):=by
    by_cases h:a < c\/(a=c/\b < d)
    · rw [decide_eq_true h];exact ltP_iff.mpr h
    · rw [decide_eq_false h]
      cases q:ltP (a,b) (c,d) with
      | false=>rfl
      | true=>exact absurd (ltP_iff.mp q) h
  rw [e]
  unfold k2
  simp only [HT.lexLt]
  by_cases h:a < c
  · have:¬ ((a:Int)=c):=by omega
    simp [h,this]
  · by_cases e:a=c
    · subst e
      by_cases h2:b < d
      · have:¬ ((b:Int)=d):=by omega
        simp [h2,this]
      · simp [h2]
    · have:¬ ((a:Int)=c):=by omega
      simp [h,e,this]
theorem pw_rise:∀ {l:List (Nat×Nat)},(l.map k2).Pairwise (fun a b=>HT.lexLt a b=true)->riseP l=true
  | [],_=>rfl
  | [x],_=>rfl
  | x::y::r,h=>by
    obtain ⟨h1,h2⟩:=List.pairwise_cons.mp h
    show (ltP x y && riseP (y::r))=true
    rw [Bool.and_eq_true]
    exact ⟨by rw [<- lex_ltP];exact h1 _ List.mem_cons_self,pw_rise h2⟩
theorem chk_sset {l:List (Nat×Nat)} (h:chkS l=true) (hl:l.length<=390):∃ ks:List (List Int),ssetD (.lst ((l.map k2).map kT))=some (.lst (ks.map kT))/\(ks=l.map k2 ↔ riseP l=true):=by
  unfold chkS at h
  split at h
  · cases h
  · rename_i st e
    simp only [Bool.and_eq_true,decide_eq_true_eq,List.all_eq_true] at h
    obtain ⟨⟨⟨⟨h1,h2⟩,h3⟩,h4⟩,h5⟩:=h
    refine ⟨tsort st.1,?_,fun z=>?_,fun z=>?_⟩
    · unfold ssetD
      dsimp only
      rw [tupsOf_map,Option.bind_some,if_pos (by rw [List.length_map];exact hl),e,Option.bind_some,if_pos ⟨h1,h2,fun k hk z=>(by have:=h3 k hk;rw [z] at this;cases this),h4⟩]
    · have:=tsort_rise h2
      rw [z] at this
      exact pw_rise this
    · rw [z] at h5
      have e5:st.1.Perm (l.map k2):=List.isPerm_iff.mp (by simpa using h5)
      refine (tsort_unique e5.symm ?_).symm
      rw [List.pairwise_map]
      exact (rise_pw z).imp fun {a b} q=>by rw [lex_ltP];exact q
def pr (b:Bd):Nat×Nat:=(b.1.toNat,b.2.1.toNat)
def VB (m:Nat) (b:Bd):Prop:=0<=b.1/\b.1 < b.2.1/\b.2.1 < m/\1<=b.2.2/\b.2.2<=4
instance (m:Nat) (b:Bd):Decidable (VB m b):=by unfold VB;infer_instance
def isNum:D->Bool
  | .int _=>true
  | _=>false
theorem g_isnum (d:D):G_is_number [d]=some (.bl (isNum d)):=by
  cases d <;> rfl
theorem g_whole (d:D):G__law_whole [d]=some (.bl (isNum d)):=by
  cases d <;> rfl
theorem in_no {y:D} (hy:isNum y=false) (a b:D):G_is_number_within [y,a,b]=some (.bl false):=by
  unfold G_is_number_within F_is_number_within
  simp! only [g_isnum,hy]
theorem riseB_eq:∀ {bs:List Bd},(∀ b∈bs,0<=b.1/\0<=b.2.1)->((zipB bs).all fun p=>HT.lexLt [p.1.1,p.1.2.1] [p.2.1,p.2.2.1])=riseP (bs.map pr)
  | [],_=>rfl
  | [_],_=>rfl
  | x::y::r,h=>by
    have ih:=riseB_eq (bs:=y::r) fun b hb=>h b (List.mem_cons_of_mem _ hb)
    have hx:=h x List.mem_cons_self
    have hy:=h y (by simp)
    show (HT.lexLt [x.1,x.2.1] [y.1,y.2.1] && (zipB (y::r)).all _)=(ltP (pr x) (pr y) && riseP ((y::r).map pr))
    rw [ih,<- lex_ltP]
    unfold k2 pr
    simp only [Int.toNat_of_nonneg hx.1,Int.toNat_of_nonneg hx.2,Int.toNat_of_nonneg hy.1,Int.toNat_of_nonneg hy.2]
theorem g_rise {bs:List Bd} (hl:bs.length<=100) (h:∀ b∈bs,0<=b.1/\0<=b.2.1):G_do_rise [.tup (bs.map bD)]=some (.bl (riseP (bs.map pr))):=by
  rw [<- riseB_eq h]
  unfold G_do_rise F_do_rise
  simp! only []
  rw [fComp_all (fun p:Bd×Bd=>.tup [bD p.1,bD p.2]) (fun p=>.bl (HT.lexLt [p.1.1,p.1.2.1] [p.2.1,p.2.2.1])) (zipB bs) (by simp! only [fZip,slD,itemsD,cut_drop (bs.map bD) 1,show (some (1:Int))=some ((1:Nat):Int) from rfl,zip_bs]) (by have:=zipB_len bs;omega)]
  · simp! only []
    rw [show ((zipB bs).map fun p=>D.bl (HT.lexLt [p.1.1,p.1.2.1] [p.2.1,p.2.2.1]))=((zipB bs).map fun p=>HT.lexLt [p.1.1,p.1.2.1] [p.2.1,p.2.2.1]).map .bl by rw [List.map_map];rfl,allD_bls,List.all_map]
    rfl
  · intro p hp
    refine ⟨_,rfl,?_⟩
    unfold bD
    simp! only [List.zip_cons_cons,List.zip_nil_left,slD,take2_bD,intsOf,lt_bD]
theorem stJ_rch {n:Nat} {l:List Nat} {p:Nat×Nat} (h:Rch n l) (h1:p.1 < n) (h2:p.2 < n):Rch n (stJ l p):=by
  unfold stJ
  split
  · exact (h.put h1).put h2
  · exact h
theorem g_joined {m:Nat} {bs:List Bd} (m1:1<=m) (m5:m<=5) (hv:∀ b∈bs,VB m b):G_is_joined [.int m,.tup (bs.map bD)]=some (.bl (jn m (bs.map pr))):=by
  have inner:∀ (cs:List Bd) (l:List Nat) (x3 x4 x5 x6:Option Cl),(∀ b∈cs,VB m b)->Rch m l ->
      ∃ x4' x5' x6',forD (gT [4,5,6]) (sIf (gOr (gB (f2 inOp (fV 4) (fV 2))) (gB (f2 inOp (fV 5) (fV 2)))) (sSeq (sDSet 2 (fV 4) (fC (.bl true))) (sDSet 2 (fV 5) (fC (.bl true)))) sNx) (cs.map bD) (jEnv ⟨m,bs⟩ l [x3,x4,x5,x6])=.nx (jEnv ⟨m,bs⟩ ((cs.map pr).foldl stJ l) [x3,x4',x5',x6'])/\Rch m ((cs.map pr).foldl stJ l):=by
    intro cs
    induction cs with
    | nil=>intro l x3 x4 x5 x6 _ hR;exact ⟨x4,x5,x6,rfl,hR⟩
    | cons b cs ih =>
      intro l x3 x4 x5 x6 hc hR
      obtain ⟨r0,r1,r2,_,_⟩:=hc b List.mem_cons_self
      have ea:b.1=((b.1.toNat:Nat):Int):=by omega
      have eb:b.2.1=((b.2.1.toNat:Nat):Int):=by omega
      have ra:=hR.put (i:=b.1.toNat) (by omega)
      have hs:=stJ_rch (p:=pr b) hR (by unfold pr;dsimp only;omega) (by unfold pr;dsimp only;omega)
      obtain ⟨y4,y5,y6,e,h2⟩:=ih (stJ l (pr b)) x3 (some (.val (.int b.1.toNat))) (some (.val (.int b.2.1.toNat))) (some (.val (.int b.2.2))) (fun c h=>hc c (List.mem_cons_of_mem _ h)) hs
      refine ⟨y4,y5,y6,?_,h2⟩
      rw [List.map_cons]
      unfold forD
      have tt:gT [4,5,6] (bD b)=some [(4,.int b.1),(5,.int b.2.1),(6,.int b.2.2)]:=rfl
      rw [tt]
      dsimp only
      have:=jturn (g:=⟨m,bs⟩) (l:=l) (x3:=x3) (a:=b.1.toNat) (b:=b.2.1.toNat) (k:=b.2.2) (.inr (by have:=hR.len;omega)) (by have:=ra.len;omega)
      have es:setD (jEnv ⟨m,bs⟩ l [x3,x4,x5,x6]) [(4,.int b.1),(5,.int b.2.1),(6,.int b.2.2)]=jEnv ⟨m,bs⟩ l [x3,some (.val (.int b.1.toNat)),some (.val (.int b.2.1.toNat)),some (.val (.int b.2.2))]:=by
        rw [<- ea,<- eb];rfl
      rw [es,this]
      exact e
  have outer:∀ (ds:List D) (l:List Nat) (y3 y4 y5 y6:Option Cl),Rch m l->∃ z3 z4 z5 z6,forD (gN 3) (sFor (fItems (fV 1)) (gT [4,5,6]) (sIf (gOr (gB (f2 inOp (fV 4) (fV 2))) (gB (f2 inOp (fV 5) (fV 2)))) (sSeq (sDSet 2 (fV 4) (fC (.bl true))) (sDSet 2 (fV 5) (fC (.bl true)))) sNx)) ds (jEnv ⟨m,bs⟩ l [y3,y4,y5,y6]) =
      .nx (jEnv ⟨m,bs⟩ (ds.foldl (fun l _=>(bs.map pr).foldl stJ l) l) [z3,z4,z5,z6])/\Rch m (ds.foldl (fun l _=>(bs.map pr).foldl stJ l) l):=by
    intro ds
    induction ds with
    | nil=>intro l y3 y4 y5 y6 hR;exact ⟨y3,y4,y5,y6,rfl,hR⟩
    | cons d ds ih =>
      intro l y3 y4 y5 y6 hR
      obtain ⟨u4,u5,u6,e,h2⟩:=inner bs l (some (.val d)) y4 y5 y6 hv hR
      obtain ⟨z3,z4,z5,z6,e2,h3⟩:=ih _ (some (.val d)) u4 u5 u6 h2
      refine ⟨z3,z4,z5,z6,?_,h3⟩
      unfold forD
      have tt:gN 3 d=some [(3,d)]:=rfl
      rw [tt]
      dsimp only
      have es:setD (jEnv ⟨m,bs⟩ l [y3,y4,y5,y6]) [(3,d)]=jEnv ⟨m,bs⟩ l [some (.val d),y4,y5,y6]:=rfl
      have hf:fItems (fV 1) (valV' (jEnv ⟨m,bs⟩ l [some (.val d),y4,y5,y6]))=some (bs.map bD):=rfl
      have ef:sFor (fItems (fV 1)) (gT [4,5,6]) (sIf (gOr (gB (f2 inOp (fV 4) (fV 2))) (gB (f2 inOp (fV 5) (fV 2)))) (sSeq (sDSet 2 (fV 4) (fC (.bl true))) (sDSet 2 (fV 5) (fC (.bl true)))) sNx) (jEnv ⟨m,bs⟩ l [some (.val d),y4,y5,y6])=.nx (jEnv ⟨m,bs⟩ ((bs.map pr).foldl stJ l) [some (.val d),u4,u5,u6]):=by
        unfold sFor
        rw [hf]
        exact e
      rw [es,ef]
      exact e2
  unfold G_is_joined F_is_joined
  have es:start0 2 7 [D.int m,.tup (bs.map bD)]=[some (.val (.int m)),some (.val (.tup (bs.map bD))),none,none,none,none,none]:=rfl
  unfold runF
  rw [if_pos (show ([D.int m,.tup (bs.map bD)]:List D).length=2 from rfl),es]
  have e1:sOwn1 2 0 true [some (.val (.int m)),some (.val (.tup (bs.map bD))),none,none,none,none,none]=.nx (jEnv ⟨m,bs⟩ [0] [none,none,none,none]):=rfl
  rw [ap_seq,e1,oSeq_nx,ap_seq]
  have hf:∀ x,fR rng1 (fCons (fV 0) fN) (allV (jEnv ⟨m,bs⟩ [0] x))=some ((List.range m).map fun k=>D.int (k:Nat)):=fun x=>by
    unfold jEnv
    simp! only [rng1_nat (show m<=65536 by omega)]
  unfold sForA
  rw [hf]
  dsimp only
  obtain ⟨z3,z4,z5,z6,e,h⟩:=outer ((List.range m).map fun k=>D.int (k:Nat)) [0] none none none none ⟨by simp,fun i hi=>by simp at hi;omega⟩
  rw [e,oSeq_nx]
  have ej:decide (((((List.range m).map fun k=>D.int (k:Nat)).foldl (fun l _=>(bs.map pr).foldl stJ l) [0]).length:Int)=(m:Int))=jn m (bs.map pr):=by
    unfold jn
    rw [List.foldl_map]
    by_cases q:((List.range m).foldl (fun l _=>(bs.map pr).foldl stJ l) [0]).length=m
    · rw [decide_eq_true q];exact decide_eq_true (by omega)
    · rw [decide_eq_false q];exact decide_eq_false (by omega)
  unfold jEnv
  simp! only [lenKD,eqOp_int]
  unfold kN
  rw [List.length_map,ej]
theorem g_bundle (m:Nat) (b:Bd):G_is_bundle [.int m,bD b]=some (.bl (decide (VB m b))):=by
  unfold G_is_bundle F_is_bundle bD
  by_cases h1:0<=b.1/\b.1<=(m:Int) - 1
  · by_cases h2:b.1+1<=b.2.1/\b.2.1<=(m:Int) - 1
    · have e:decide (VB m b)=decide (1<=b.2.2/\b.2.2<=4):=by
        by_cases h3:1<=b.2.2/\b.2.2<=4
        · rw [decide_eq_true h3];exact decide_eq_true (by unfold VB;omega)
        · rw [decide_eq_false h3];exact decide_eq_false (by unfold VB;omega)
      simp! only [isTup_tup,neOp_int,b_at0,b_at1,b_at2,g_within,h1,h2,and_self,e]
    · have e:decide (VB m b)=false:=decide_eq_false (by unfold VB;omega)
      simp! only [isTup_tup,neOp_int,b_at0,b_at1,b_at2,g_within,h1,h2,and_self,e]
  · have e:decide (VB m b)=false:=decide_eq_false (by unfold VB;omega)
    simp! only [isTup_tup,neOp_int,b_at0,b_at1,b_at2,g_within,h1,and_self,e]
structure Jo (m:Nat) (d:D) (q:Bool):Prop where
  p:G_is_bundle [.int m,d]=some (.bl q)
  l:G__law_is_join [d,.int m]=some (.bl q)
  lay:(toPy d).canLay0=true
  dep:(toPy d).depth<=10
theorem lim0':(0<=limD)=True:=by simp
theorem ok_lst:∀ {ds:List D},(∀ d∈ds,(toPy d).canLay0=true/\(toPy d).depth<=10)->PyData.canLayAll0 (toPys ds)=true/\PyData.depthAll (toPys ds)<=10
  | [],_=>by simp [toPys,PyData.canLayAll0,PyData.depthAll]
  | d::ds,h=>by
    have a:=h d List.mem_cons_self
    have b:=ok_lst fun e he=>h e (List.mem_cons_of_mem _ he)
    simp only [toPys,PyData.canLayAll0,PyData.depthAll,a.1,b.1,Bool.and_self,true_and]
    omega
theorem ne_nil {ds:List D} (h:∀ d∈ds,(toPy d).canLay0=true/\(toPy d).depth<=10):neOp (.lst ds) (.lst [])=some (.bl (!ds.isEmpty)):=by
  have a:=ok_lst h
  have e1:okD (.lst ds)=true:=by
    unfold okD
    simp only [toPy,PyData.canLay0,PyData.depth,a.1,Bool.true_and,decide_eq_true_eq]
    omega
  have e2:okD (.lst [])=true:=rfl
  unfold neOp
  rw [e1,e2]
  cases ds with
  | nil=>rfl
  | cons d ds=>rfl
theorem l_join (m:Nat) (b:Bd):G__law_is_join [bD b,.int m]=some (.bl (decide (VB m b))):=by
  unfold G__law_is_join F__law_is_join
  have hc:∀ x,fComp 1 [] (fItems (fV 0)) (gN 0) (gNot (gTru (fL G__law_whole (fCons (fV 0) fN)))) (fV 0) [some (bD b),x]=some (.lst []):=fun x=>by
    rw [fComp_of D.int (fun _=>false) D.int [b.1,b.2.1,b.2.2] rfl (by simp) fun x _=>⟨_,rfl,?_,fun z=>(by cases z)⟩]
    · rfl
    · simp! only [g_whole,isNum]
  have e2:neOp (.lst []) (.lst [])=some (.bl false):=rfl
  have i0:ixD (bD b) (.int 0)=some (.int b.1):=rfl
  have i1:ixD (bD b) (.int 1)=some (.int b.2.1):=rfl
  have i2:ixD (bD b) (.int 2)=some (.int b.2.2):=rfl
  have et:isD "tuple" (bD b)=some (.bl true):=rfl
  have el:lenD [bD b]=some (.int 3):=rfl
  by_cases h1:0<=b.1
  · by_cases h2:b.1 < b.2.1
    · by_cases h3:b.2.1 < (m:Int)
      · by_cases h4:1<=b.2.2
        · have e:decide (VB m b)=decide (b.2.2<=4):=by
            by_cases h5:b.2.2<=4
            · rw [decide_eq_true h5];exact decide_eq_true ⟨h1,h2,h3,h4,h5⟩
            · rw [decide_eq_false h5];exact decide_eq_false fun z=>h5 z.2.2.2.2
          simp! only [et,el,neOp_int,hc,lim0',e2,i0,i1,i2,h1,h2,h3,h4,e]
        · have e:decide (VB m b)=false:=decide_eq_false fun z=>h4 z.2.2.2.1
          simp! only [et,el,neOp_int,hc,lim0',e2,i0,i1,i2,h1,h2,h3,h4,e]
      · have e:decide (VB m b)=false:=decide_eq_false fun z=>h3 z.2.2.1
        simp! only [et,el,neOp_int,hc,lim0',e2,i0,i1,i2,h1,h2,h3,e]
    · have e:decide (VB m b)=false:=decide_eq_false fun z=>h2 z.2.1
      simp! only [et,el,neOp_int,hc,lim0',e2,i0,i1,i2,h1,h2,e]
  · have e:decide (VB m b)=false:=decide_eq_false fun z=>h1 z.1
    simp! only [et,el,neOp_int,hc,lim0',e2,i0,i1,i2,h1,e]
theorem jo_bD (m:Nat) (b:Bd):Jo m (bD b) (decide (VB m b)):=⟨g_bundle m b,l_join m b,rfl,(by simp [bD,toPy,toPys,PyData.depth,PyData.depthAll])⟩
theorem nt_bundle {m:Nat} {d:D} (h:isD "tuple" d=some (.bl false)):G_is_bundle [.int m,d]=some (.bl false):=by
  unfold G_is_bundle F_is_bundle
  simp! only [h]
theorem nt_join {m:Nat} {d:D} (h:isD "tuple" d=some (.bl false)):G__law_is_join [d,.int m]=some (.bl false):=by
  unfold G__law_is_join F__law_is_join
  simp! only [h]
theorem jo_nt {m:Nat} {d:D} (h:isD "tuple" d=some (.bl false)) (h1:(toPy d).canLay0=true) (h2:(toPy d).depth<=10):Jo m d false:=⟨nt_bundle h,nt_join h,h1,h2⟩
theorem jo_len {m:Nat} {ds:List D} (h:ds.length≠3) (h1:(toPy (.tup ds)).canLay0=true) (h2:(toPy (.tup ds)).depth<=10):Jo m (.tup ds) false:=by
  have e:¬ ((ds.length:Int)=3):=by omega
  refine ⟨?_,?_,h1,h2⟩
  · unfold G_is_bundle F_is_bundle
    simp! only [isTup_tup,neOp_int,e]
  · unfold G__law_is_join F__law_is_join
    simp! only [isTup_tup,neOp_int,e]
theorem part_join {m:Nat} {x y z:D} (hb:isNum x=false\/isNum y=false\/isNum z=false) (ok:∀ d∈[x,y,z],(toPy d).canLay0=true/\(toPy d).depth<=10):G__law_is_join [.tup [x,y,z],.int m]=some (.bl false):=by
  have hc:∀ u,fComp 1 [] (fItems (fV 0)) (gN 0) (gNot (gTru (fL G__law_whole (fCons (fV 0) fN)))) (fV 0) [some (.tup [x,y,z]),u]=some (.lst (([x,y,z].filter fun d=>!isNum d))):=fun u=>by
    rw [fComp_of id (fun d=>!isNum d) id [x,y,z] rfl (by simp) fun d _=>⟨_,rfl,?_,fun _=>rfl⟩,List.map_id]
    simp! only [g_whole]
    rfl
  have hn:=ne_nil (ds:=[x,y,z].filter fun d=>!isNum d) fun d hd=>ok d (List.mem_filter.mp hd).1
  have he:([x,y,z].filter fun d=>!isNum d).isEmpty=false:=by
    cases h:([x,y,z].filter fun d=>!isNum d) with
    | nil =>
      have:=List.filter_eq_nil_iff.mp h
      have a:=this x (by simp)
      have b:=this y (by simp)
      have c:=this z (by simp)
      simp at a b c
      rcases hb with hb | hb | hb <;> simp_all
    | cons=>rfl
  rw [he] at hn
  unfold G__law_is_join F__law_is_join
  simp! only [isTup_tup,neOp_int,hc,lim0',hn]
theorem so0:PyData.strOk "0"=true:=by decide +kernel
theorem jo_str (m:Nat) (b:Int):Jo m (.tup [.str "0",.int b,.int 1]) false:=by
  refine ⟨?_,part_join (.inl rfl) (fun d hd=>?_),(by simp [toPy,toPys,PyData.canLay0,PyData.canLayAll0,so0]),(by simp [bD,toPy,toPys,PyData.depth,PyData.depthAll])⟩
  · have w:G_is_number_within [.str "0",.int 0,.int ((m:Int) - 1)]=some (.bl false):=in_no rfl _ _
    have i0:ixD (.tup [.str "0",.int b,.int 1]) (.int 0)=some (.str "0"):=rfl
    have et:isD "tuple" (.tup [.str "0",.int b,.int 1])=some (.bl true):=rfl
    have el:lenD [.tup [.str "0",.int b,.int 1]]=some (.int 3):=rfl
    generalize D.tup [.str "0",.int b,.int 1]=E at *
    unfold G_is_bundle F_is_bundle
    simp! only [et,el,neOp_int,i0,w]
  · simp only [List.mem_cons,List.mem_nil_iff,or_false] at hd
    rcases hd with rfl | rfl | rfl <;> simp [toPy,PyData.canLay0,PyData.depth,so0]
theorem jo_true {m:Nat} {a b:Int} (h:0<=a/\a < b/\b < m):Jo m (.tup [.int a,.int b,.bl true]) false:=by
  refine ⟨?_,part_join (.inr (.inr rfl)) (fun d hd=>?_),(by simp [toPy,toPys,PyData.canLay0,PyData.canLayAll0,so0]),(by simp [bD,toPy,toPys,PyData.depth,PyData.depthAll])⟩
  · have w:G_is_number_within [.bl true,.int 1,.int 4]=some (.bl false):=in_no rfl _ _
    have i0:ixD (.tup [.int a,.int b,.bl true]) (.int 0)=some (.int a):=rfl
    have i1:ixD (.tup [.int a,.int b,.bl true]) (.int 1)=some (.int b):=rfl
    have i2:ixD (.tup [.int a,.int b,.bl true]) (.int 2)=some (.bl true):=rfl
    have et:isD "tuple" (.tup [.int a,.int b,.bl true])=some (.bl true):=rfl
    have el:lenD [.tup [.int a,.int b,.bl true]]=some (.int 3):=rfl
    have h1:0<=a/\a<=(m:Int) - 1:=by omega
    have h2:a+1<=b/\b<=(m:Int) - 1:=by omega
    generalize D.tup [.int a,.int b,.bl true]=E at *
    unfold G_is_bundle F_is_bundle
    simp! only [et,el,neOp_int,i0,i1,i2,g_within,h1,h2,and_self,w]
  · simp only [List.mem_cons,List.mem_nil_iff,or_false] at hd
    rcases hd with rfl | rfl | rfl <;> simp [toPy,PyData.canLay0,PyData.depth,so0]
theorem ig_nt {d:D} (h:isD "tuple" d=some (.bl false)):G_is_ground [d]=some (.bl false):=by
  unfold G_is_ground F_is_ground
  simp! only [h]
theorem lg_nt {d:D} (h:isD "tuple" d=some (.bl false)):G__law_is_ground [d]=some (.bl false):=by
  unfold G__law_is_ground F__law_is_ground
  simp! only [h]
theorem ig_len {ds:List D} (h:ds.length≠2):G_is_ground [.tup ds]=some (.bl false):=by
  have e:¬ ((ds.length:Int)=2):=by omega
  unfold G_is_ground F_is_ground
  simp! only [isTup_tup,neOp_int,e]
theorem lg_len {ds:List D} (h:ds.length≠2):G__law_is_ground [.tup ds]=some (.bl false):=by
  have e:¬ ((ds.length:Int)=2):=by omega
  unfold G__law_is_ground F__law_is_ground
  simp! only [isTup_tup,neOp_int,e]
theorem two0 (x y:D):atI [x,y] 0=some x:=rfl
theorem two1 (x y:D):atI [x,y] 1=some y:=rfl
theorem ig_no {x y:D} (h:isNum x=false):G_is_ground [.tup [x,y]]=some (.bl false):=by
  unfold G_is_ground F_is_ground
  simp! only [isTup_tup,neOp_int,two0,two1,in_no h]
theorem lg_no {x y:D} (h:isNum x=false):G__law_is_ground [.tup [x,y]]=some (.bl false):=by
  unfold G__law_is_ground F__law_is_ground
  simp! only [isTup_tup,neOp_int,two0,two1,g_whole,h]
theorem ig_out {i:Int} {y:D} (h:¬ (1<=i/\i<=5)):G_is_ground [.tup [.int i,y]]=some (.bl false):=by
  unfold G_is_ground F_is_ground
  simp! only [isTup_tup,neOp_int,two0,two1,g_within,h]
theorem lg_out {i:Int} {y:D} (h:¬ (1<=i/\i<=5)):G__law_is_ground [.tup [.int i,y]]=some (.bl false):=by
  unfold G__law_is_ground F__law_is_ground
  by_cases h1:i < 1
  · simp! only [isTup_tup,neOp_int,two0,two1,g_whole,isNum,h1]
  · have h2:5 < i:=by omega
    simp! only [isTup_tup,neOp_int,two0,two1,g_whole,isNum,h1,h2]
theorem ig_njt {i:Int} {y:D} (h:1<=i/\i<=5) (ht:isD "tuple" y=some (.bl false)):G_is_ground [.tup [.int i,y]]=some (.bl false):=by
  unfold G_is_ground F_is_ground
  simp! only [isTup_tup,neOp_int,two0,two1,g_within,h,and_self,ht]
theorem lg_njt {i:Int} {y:D} (h:1<=i/\i<=5) (ht:isD "tuple" y=some (.bl false)):G__law_is_ground [.tup [.int i,y]]=some (.bl false):=by
  have h1:¬ (i < 1):=by omega
  have h2:¬ (5 < i):=by omega
  unfold G__law_is_ground F__law_is_ground
  simp! only [isTup_tup,neOp_int,two0,two1,g_whole,isNum,h1,h2,ht]
theorem ig_comp {m:Nat} {js:List (D×Bool)} (hl:js.length<=100) (hj:∀ j∈js,Jo m j.1 j.2) (x:Option D) :
    fComp 1 [1] (fItems (fV 2)) (gN 0) gYes (fL G_is_bundle (fCons (fV 1) (fCons (fV 0) fN))) [x,some (.int m),some (.tup (js.map (·.1)))]=some (.lst (js.map fun j=>.bl j.2)):=by
  refine fComp_all (fun j:D×Bool=>j.1) (fun j=>.bl j.2) js rfl (by omega) fun j hj'=>⟨_,rfl,?_⟩
  simp! only [(hj j hj').p]
theorem all_js (js:List (D×Bool)):allD [.lst (js.map fun j=>D.bl j.2)]=some (.bl (js.all (·.2))):=by
  rw [show (js.map fun j=>D.bl j.2)=(js.map (·.2)).map .bl by rw [List.map_map];rfl,allD_bls,List.all_map]
  rfl
theorem ig_bad {m:Nat} {js:List (D×Bool)} (m1:1<=m) (m5:m<=5) (hl:js.length<=100) (hj:∀ j∈js,Jo m j.1 j.2) (hb:js.all (·.2)=false):G_is_ground [.tup [.int m,.tup (js.map (·.1))]]=some (.bl false):=by
  have w:1<=(m:Int)/\(m:Int)<=5:=by omega
  unfold G_is_ground F_is_ground
  simp! only [isTup_tup,neOp_int,two0,two1,g_within,w,and_self,ig_comp hl hj,all_js,hb]
theorem ig_good {m:Nat} {bs:List Bd} (m1:1<=m) (m5:m<=5) (hl:bs.length<=100) (hv:∀ b∈bs,VB m b):G_is_ground [gD ⟨m,bs⟩]=some (.bl (riseP (bs.map pr) && jn m (bs.map pr))):=by
  have w:1<=(m:Int)/\(m:Int)<=5:=by omega
  have hc:=ig_comp (js:=bs.map fun b=>(bD b,decide (VB m b))) (m:=m) (by rw [List.length_map];exact hl) fun j hj=>by
    obtain ⟨b,_,rfl⟩:=List.mem_map.mp hj
    exact jo_bD m b
  have ha:=all_js (bs.map fun b=>(bD b,decide (VB m b)))
  have et:(bs.map fun b=>(bD b,decide (VB m b))).all (·.2)=true:=by
    rw [List.all_map]
    exact List.all_eq_true.mpr fun b hb=>decide_eq_true (hv b hb)
  rw [et] at ha
  rw [show ((bs.map fun b=>(bD b,decide (VB m b))).map (·.1))=bs.map bD by rw [List.map_map];rfl] at hc
  have hr:=g_rise hl fun b hb=>⟨(hv b hb).1,by have:=hv b hb;unfold VB at this;omega⟩
  unfold G_is_ground F_is_ground gD
  simp! only [isTup_tup,neOp_int,two0,two1,g_within,w,and_self,hc,ha,hr,g_joined m1 m5 hv]
  cases riseP (bs.map pr) <;> simp
theorem kT_inj {a b:List Int} (h:kT a=kT b):a=b:=by
  unfold kT at h
  exact map_int_inj.mp (by simpa using h)
theorem dks_kT:∀ ks:List (List Int),dks (ks.map kT)=true
  | []=>rfl
  | k::ks=>by
    have:=dks_ints k
    simp only [List.map_cons,dks,kT,dk,dks_kT ks,Bool.and_true]
    exact this
theorem deps_kT:∀ ks:List (List Int),deps (ks.map kT)<=1
  | []=>by simp [deps]
  | k::ks=>by
    have:=deps_ints k
    have ih:=deps_kT ks
    simp only [List.map_cons,deps,kT,dep]
    have e:deps (k.map fun i=>D.int i)=0:=this
    rw [e];omega
theorem map_kT_inj {a b:List (List Int)} (h:a.map kT=b.map kT):a=b:=by
  induction a generalizing b with
  | nil=>cases b with
    | nil=>rfl
    | cons x b=>cases h
  | cons x a ih=>cases b with
    | nil=>cases h
    | cons y b =>
      simp only [List.map_cons,List.cons.injEq] at h
      rw [kT_inj h.1,ih h.2]
theorem eq_kTs (a b:List (List Int)):eqOp (.lst (a.map kT)) (.lst (b.map kT))=some (.bl (decide (a=b))):=by
  have ha:=deps_kT a
  have hb:=deps_kT b
  rw [eqOp_dk (by simp only [dk];exact dks_kT a) (by simp only [dk];exact dks_kT b) (by simp only [dep];omega) (by simp only [dep];omega)]
  by_cases h:a=b
  · subst h;simp
  · have:¬ (D.lst (a.map kT)=D.lst (b.map kT)):=fun z=>h (map_kT_inj (by simpa using z))
    simp [h,this]
theorem lg_comp {m:Nat} {js:List (D×Bool)} (hl:js.length<=100) (hj:∀ j∈js,Jo m j.1 j.2) (a b c d:Option D) :
    fComp 1 [0] (fItems (f2 ixD (fV 0) (fC (.int 1)))) (gN 0) (gNot (gTru (fL G__law_is_join (fCons (fV 0) (fCons (f2 ixD (fV 1) (fC (.int 0))) fN))))) (fV 0) [some (.tup [.int m,.tup (js.map (·.1))]),a,b,c,d]=some (.lst ((js.filter fun j=>!j.2).map (·.1))):=by
  refine fComp_of (fun j:D×Bool=>j.1) (fun j=>!j.2) (fun j=>j.1) js rfl (by omega) fun j hj'=>⟨_,rfl,?_,fun _=>rfl⟩
  have:=(hj j hj').l
  simp! only [two0,this]
theorem lg_ne {m:Nat} {js:List (D×Bool)} (hj:∀ j∈js,Jo m j.1 j.2):neOp (.lst ((js.filter fun j=>!j.2).map (·.1))) (.lst [])=some (.bl (!js.all (·.2))):=by
  rw [ne_nil fun d hd=>?_]
  · congr 3
    cases h:js.all (·.2) with
    | true =>
      have:js.filter (fun j=>!j.2)=[]:=List.filter_eq_nil_iff.mpr fun j hj=>by simp [List.all_eq_true.mp h j hj]
      rw [this];rfl
    | false =>
      cases q:js.filter (fun j=>!j.2) with
      | nil =>
        have:js.all (·.2)=true:=List.all_eq_true.mpr fun j hj=>by
          have:=List.filter_eq_nil_iff.mp q j hj
          simpa using this
        rw [h] at this;cases this
      | cons=>rfl
  · obtain ⟨j,hm,rfl⟩:=List.mem_map.mp hd
    have:=hj j (List.mem_filter.mp hm).1
    exact ⟨this.lay,this.dep⟩
theorem lg_bad {m:Nat} {js:List (D×Bool)} (m1:1<=m) (m5:m<=5) (hl:js.length<=100) (hj:∀ j∈js,Jo m j.1 j.2) (hb:js.all (·.2)=false):G__law_is_ground [.tup [.int m,.tup (js.map (·.1))]]=some (.bl false):=by
  have h1:¬ ((m:Int) < 1):=by omega
  have h2:¬ (5 < (m:Int)):=by omega
  have hn:=lg_ne hj
  rw [hb] at hn
  unfold G__law_is_ground F__law_is_ground
  simp! only [isTup_tup,neOp_int,two0,two1,g_whole,isNum,h1,h2,lg_comp hl hj,lim0',hn]
theorem lg_loop {T W:D} {m:Nat} (m5:m<=5):∀ (ps:List (Nat×Nat)) (ν:List Int) (x3 x4:Option Cl),(∀ p∈ps,p.1 < m/\p.2 < m)->ν.length=m->∃ y3 y4,
    forD (gT [3,4]) (sSet 2 (fComp 1 [2,3,4] (fItems (fV 2)) (gN 0) gYes (f2 ixD (fL mkLst (fCons (fV 0) (fCons (f2 ixD (fV 1) (fV 2)) fN))) (fL intD (fCons (f2 eqOp (fV 0) (f2 ixD (fV 1) (fV 3))) fN))))) (ps.map fun p=>kT (k2 p)) [some (.val T),some (.val W),some (.val (.lst (ν.map .int))),x3,x4] =
      .nx [some (.val T),some (.val W),some (.val (.lst ((ps.foldl stN ν).map .int))),y3,y4]/\(ps.foldl stN ν).length=m:=by
  intro ps
  induction ps with
  | nil=>intro ν x3 x4 _ hl;exact ⟨x3,x4,rfl,hl⟩
  | cons p ps ih =>
    intro ν x3 x4 hp hl
    obtain ⟨pa,pb⟩:=hp p List.mem_cons_self
    have hl':(stN ν p).length=m:=by unfold stN;rw [List.length_map,hl]
    obtain ⟨y3,y4,e,h2⟩:=ih (stN ν p) (some (.val (.int p.1))) (some (.val (.int p.2))) (fun q hq=>hp q (List.mem_cons_of_mem _ hq)) hl'
    refine ⟨y3,y4,?_,h2⟩
    have tt:gT [3,4] (kT (k2 p))=some [(3,.int p.1),(4,.int p.2)]:=rfl
    have at':∀ i:Nat,i < m->ixD (.lst (ν.map .int)) (.int (i:Int))=some (.int (ν.getD i 0)):=fun i hi=>by
      rw [ixD_l]
      refine atI_ok (by omega) ?_
      rw [Int.toNat_natCast,List.getElem?_map,List.getD_eq_getElem?_getD,List.getElem?_eq_getElem (by omega)]
      rfl
    have hc:fComp 1 [2,3,4] (fItems (fV 2)) (gN 0) gYes (f2 ixD (fL mkLst (fCons (fV 0) (fCons (f2 ixD (fV 1) (fV 2)) fN))) (fL intD (fCons (f2 eqOp (fV 0) (f2 ixD (fV 1) (fV 3))) fN))) [some T,some W,some (.lst (ν.map .int)),some (.int p.1),some (.int p.2)]=some (.lst ((stN ν p).map .int)):=by
      rw [fComp_all D.int (fun x=>D.int (if x=ν.getD p.2 0 then ν.getD p.1 0 else x)) ν rfl (by omega) fun x _=>⟨_,rfl,?_⟩]
      · unfold stN;rw [List.map_map];rfl
      · have ib:∀ b:Bool,intD [.bl b]=some (.int (if b=true then 1 else 0)):=fun b=>by cases b <;> rfl
        have pk:∀ (x y:Int) (b:Bool),ixD (.lst [.int x,.int y]) (.int (if b=true then 1 else 0))=some (.int (if b=true then y else x)):=fun x y b=>by cases b <;> rfl
        have lim2:(2<=limD)=True:=by unfold limD;simp
        simp! only [at' p.1 pa,at' p.2 pb,eqOp_int,lim2,ib,pk]
        by_cases e:x=ν.getD p.2 0
        · rw [if_pos e,if_pos (decide_eq_true e)]
        · rw [if_neg e,if_neg (by simpa using e)]
    rw [List.map_cons]
    unfold forD
    rw [tt]
    dsimp only
    have es:sSet 2 (fComp 1 [2,3,4] (fItems (fV 2)) (gN 0) gYes (f2 ixD (fL mkLst (fCons (fV 0) (fCons (f2 ixD (fV 1) (fV 2)) fN))) (fL intD (fCons (f2 eqOp (fV 0) (f2 ixD (fV 1) (fV 3))) fN)))) (setD [some (.val T),some (.val W),some (.val (.lst (ν.map .int))),x3,x4] [(3,.int p.1),(4,.int p.2)])=.nx [some (.val T),some (.val W),some (.val (.lst ((stN ν p).map .int))),some (.val (.int p.1)),some (.val (.int p.2))]:=by
      simp! only [hc]
    rw [es]
    exact e
theorem lg_good {m:Nat} {bs:List Bd} (m1:1<=m) (m5:m<=5) (hl:bs.length<=100) (hv:∀ b∈bs,VB m b) (hk:chkS (bs.map pr)=true):G__law_is_ground [gD ⟨m,bs⟩]=some (.bl (riseP (bs.map pr) && nmO m (bs.map pr))):=by
  have h1:¬ ((m:Int) < 1):=by omega
  have h2:¬ (5 < (m:Int)):=by omega
  have hj:∀ j∈bs.map fun b=>(bD b,decide (VB m b)),Jo m j.1 j.2:=fun j hj=>by
    obtain ⟨b,_,rfl⟩:=List.mem_map.mp hj
    exact jo_bD m b
  have hc:=fun a b c d=>lg_comp (js:=bs.map fun b=>(bD b,decide (VB m b))) (m:=m) (by rw [List.length_map];exact hl) hj a b c d
  have hn:=lg_ne hj
  have et:(bs.map fun b=>(bD b,decide (VB m b))).all (·.2)=true:=by
    rw [List.all_map]
    exact List.all_eq_true.mpr fun b hb=>decide_eq_true (hv b hb)
  rw [et] at hn
  rw [show ((bs.map fun b=>(bD b,decide (VB m b))).map (·.1))=bs.map bD by rw [List.map_map];rfl] at hc
  generalize (((bs.map fun b=>(bD b,decide (VB m b))).filter fun j=>!j.2).map (·.1))=NO at hc hn
  have hp:∀ a b c d,fComp 1 [] (fItems (f2 ixD (fV 0) (fC (.int 1)))) (gN 0) gYes (fSl (fV 0) pN (pS (fC (.int 2)))) [some (.tup [.int m,.tup (bs.map bD)]),a,b,c,d]=some (.lst (((bs.map pr).map k2).map kT)):=fun a b c d=>by
    rw [fComp_all bD (fun b=>kT (k2 (pr b))) bs rfl (by omega) fun b hb=>⟨_,rfl,?_⟩]
    · rw [List.map_map,List.map_map];rfl
    · have v:=hv b hb
      unfold VB at v
      unfold bD
      simp! only [slD,take2_bD]
      unfold kT k2 pr
      simp only [List.map_cons,List.map_nil,Int.toNat_of_nonneg v.1,Int.toNat_of_nonneg (show 0<=b.2.1 by omega)]
  have hr:∀ a b c d,fComp 1 [] (fR rng1 (fCons (f2 ixD (fV 0) (fC (.int 0))) fN)) (gN 0) gYes (fV 0) [some (.tup [.int m,.tup (bs.map bD)]),a,b,c,d]=some (.lst (((List.range m).map fun (i:Nat)=>(i:Int)).map .int)):=fun a b c d=>by
    rw [fComp_all (fun (i:Nat)=>D.int (i:Int)) (fun (i:Nat)=>D.int (i:Int)) (List.range m) (by simp! only [two0,rng1_nat (show m<=65536 by omega)]) (by rw [List.length_range];omega) fun i _=>⟨_,rfl,rfl⟩,List.map_map]
    rfl
  obtain ⟨ks,es,ek⟩:=chk_sset hk (by rw [List.length_map];omega)
  obtain ⟨y3,y4,el,hlen⟩:=lg_loop (T:=.tup [.int m,.tup (bs.map bD)]) (W:=.lst (((bs.map pr).map k2).map kT)) m5 (bs.map pr) ((List.range m).map fun (i:Nat)=>(i:Int)) none none (fun p hp=>by
    obtain ⟨b,hb,rfl⟩:=List.mem_map.mp hp
    have v:=hv b hb
    unfold VB at v
    unfold pr
    dsimp only
    omega) (by rw [List.length_map,List.length_range])
  have eq1:eqOp (.lst (((bs.map pr).map k2).map kT)) (.lst (ks.map kT))=some (.bl (riseP (bs.map pr))):=by
    rw [eq_kTs]
    congr 2
    cases q:riseP (bs.map pr) with
    | true=>exact decide_eq_true (ek.mpr q).symm
    | false=>exact decide_eq_false fun z=>by rw [ek.mp z.symm] at q;cases q
  have eq2:lsetD (.lst (((bs.map pr).foldl stN ((List.range m).map fun (i:Nat)=>(i:Int))).map .int))=_:=lset_ints _ (by rw [hlen];omega)
  have eit:itemsD (.lst (((bs.map pr).map k2).map kT))=some ((bs.map pr).map fun p=>kT (k2 p)):=by
    show some (((bs.map pr).map k2).map kT)=_
    rw [List.map_map];rfl
  have ed:decide ((((((bs.map pr).foldl stN ((List.range m).map fun (i:Nat)=>(i:Int))).foldl stepQ []).length:Nat):Int)=1)=nmO m (bs.map pr):=by
    unfold nmO
    by_cases q:(((bs.map pr).foldl stN ((List.range m).map fun (i:Nat)=>(i:Int))).foldl stepQ []).length=1
    · rw [decide_eq_true q];exact decide_eq_true (by omega)
    · rw [decide_eq_false q];exact decide_eq_false (by omega)
  unfold G__law_is_ground F__law_is_ground gD
  generalize (bs.map pr).foldl stN ((List.range m).map fun (i:Nat)=>(i:Int))=ν at *
  generalize ((bs.map pr).map k2).map kT=W at *
  simp! only [isTup_tup,neOp_int,two0,two1,g_whole,isNum,h1,h2,hc,lim0',hn,hp,hr,sFor,eit]
  rw [el]
  simp! only [es,eq1,eq2,eqOp_int,ed]
  cases riseP (bs.map pr) <;> simp
theorem pickN {ds:List D} {L:Int} (hl:(ds.length:Int)=L) (h0:0 < L) (x:Int):∃ d∈ds,ixD (.lst ds) (.int (x % L))=some d:=by
  have a:=Int.emod_nonneg x (show L≠0 by omega)
  have b:=Int.emod_lt_of_pos x h0
  obtain ⟨d,hd⟩:∃ d,ds[(x % L).toNat]?=some d:=⟨_,List.getElem?_eq_getElem (show (x % L).toNat < ds.length by omega)⟩
  exact ⟨d,List.mem_of_getElem? hd,by rw [ixD_l];exact atI_ok a hd⟩
theorem lim1':(1<=limD)=True:=by unfold limD;simp
theorem lim2':(2<=limD)=True:=by unfold limD;simp
theorem lim3':(3<=limD)=True:=by unfold limD;simp
theorem lim4':(4<=limD)=True:=by unfold limD;simp
theorem lim6':(6<=limD)=True:=by unfold limD;simp
theorem lim12':(12<=limD)=True:=by unfold limD;simp
theorem fdiv_ok {i j:Int} (h0:0 < j) (h1:j < 1073741824):fdivD (.int i) (.int j)=some (.int (i / j)):=by
  show @ite _ _ (Classical.propDecidable _) _ _=_
  rw [if_pos ⟨h0,h1⟩]
theorem addT (a b:List D) (ha:a≠[]) (hh:a.length+b.length<=100):addD (.tup a) (.tup b)=some (.tup (a++b)):=by
  show (if _ then _ else _)=_
  rw [if_pos ⟨by cases a with | nil=>exact absurd rfl ha | cons _ _=>rfl,by unfold limD;omega⟩]
theorem addTT (a b:List D) (hh:a.length+b.length<=100):addTD (.tup a) (.tup b)=some (.tup (a++b)):=by
  show (if _ then _ else _)=_
  rw [if_pos (by unfold limD;omega)]
theorem spoilt_join {m:Nat} {b:Bd} (hv:VB m b) (c:Int):∃ (d:D) (q:Bool),G__law_spoilt_join [bD b,.int c]=some d/\Jo m d q/\(q=true->∃ b':Bd,d=bD b'/\VB m b'/\pr b'=pr b):=by
  obtain ⟨a,b2,k⟩:=b
  unfold VB at hv
  dsimp only at hv
  have sl:slD (bD (a,b2,k)) none (some 2)=some (.tup [.int a,.int b2]):=by
    show some (D.tup (cutD [D.int a,.int b2,.int k] none (some 2)))=_
    rw [take2_bD (a,b2,k)]
  have it:itemsD (bD (a,b2,k))=some [.int a,.int b2,.int k]:=rfl
  have i0:ixD (bD (a,b2,k)) (.int 0)=some (.int a):=rfl
  have i1:ixD (bD (a,b2,k)) (.int 1)=some (.int b2):=rfl
  have i2:ixD (bD (a,b2,k)) (.int 2)=some (.int k):=rfl
  have a1:addD (bD (a,b2,k)) (.tup [.int 1])=some (.tup [.int a,.int b2,.int k,.int 1]):=addT [_,_,_] [_] (by simp) (by simp)
  have a2:∀ d,addD (.tup [.int a,.int b2]) (.tup [d])=some (.tup [.int a,.int b2,d]):=fun d=>addT [_,_] [_] (by simp) (by simp)
  obtain ⟨d,hd,e⟩:=pickN (ds:=[.lst [.int a,.int b2,.int k],.tup [.int a,.int b2],.tup [.int a,.int b2,.int k,.int 1],.tup [.int b2,.int a,.int k],.tup [.int a,.int a,.int 1],.tup [.int a,.int b2,.int 0],
    .tup [.int a,.int b2,.int 5],.tup [.int a,.int b2,.bl true],.tup [.str "0",.int b2,.int 1],.tup [.int (-1),.int b2,.int 1],.tup [.int a,.int b2,.int 4],.non]) (L:=12) rfl (by decide) c
  have ev:G__law_spoilt_join [bD (a,b2,k),.int c]=some d:=by
    have im:imms [.tup [.int a,.int b2,.int 5],.tup [.int a,.int b2,.bl true],.tup [.str "0",.int b2,.int 1],.tup [.int (-1),.int b2,.int 1],.tup [.int a,.int b2,.int 4],.non]=true:=rfl
    unfold G__law_spoilt_join F__law_spoilt_join
    generalize bD (a,b2,k)=B at *
    simp only [runF,start0,ap_seq,oSeq_nx,oSeq_rt,ltOp,sNx,sSet,sSetI,sRet,sIf,sExp,sOwn,sBad,fV,fC,f1,f2,fN,fCons,fL,fIf,fAnd,fOr,fNot,gB,gAnd,gOr,gNot,gTru,fChain,fItems,fR,fFr,fSl,pN,pS,allV,valV',setV,setD,gN,gT,env0,List.map_cons,List.map_nil,List.length_cons,List.length_nil,List.replicate,List.cons_append,List.nil_append,List.getElem?_cons_zero,List.getElem?_cons_succ,List.getElem?_nil,List.set_cons_zero,List.set_cons_succ,Option.getD_some,Option.getD_none,Option.bind_some,Option.bind_none,Option.map_some,Nat.reduceAdd,Nat.reduceSub,Nat.reduceEqDiff,if_true,if_false,reduceIte,Bool.false_eq_true,lenD_t,lenD_l,lenD_s,intOp,addD_ii,modD,ixD_t,ixD_l,ixD_s,mkTup,mkLst,few,truD,negD,decide_true,decide_false,Bool.not_true,Bool.not_false,decide_not,ne_eq,not_true_eq_false,not_false_eq_true,Int.reduceEq,Int.cast_ofNat_Int,Int.natCast_add,Int.reduceAdd,Int.cast_ofNat_Int,it,sl,i0,i1,i2,a1,a2,lim1',lim3',lim6',lim12',sExt,im,and_self,Int.reduceNeg,Int.reduceLT,e]
  simp only [List.mem_cons,List.mem_nil_iff,or_false] at hd
  have bd:∀ x y z:Int,¬ VB m (x,y,z)->Jo m (.tup [.int x,.int y,.int z]) false:=fun x y z h=>by
    have:=jo_bD m (x,y,z)
    rwa [decide_eq_false h] at this
  rcases hd with rfl | rfl | rfl | rfl | rfl | rfl | rfl | rfl | rfl | rfl | rfl | rfl
  · exact ⟨_,false,ev,jo_nt rfl rfl (by simp [toPy,toPys,PyData.depth,PyData.depthAll]),fun z=>(by cases z)⟩
  · exact ⟨_,false,ev,jo_len (by simp) rfl (by simp [toPy,toPys,PyData.depth,PyData.depthAll]),fun z=>(by cases z)⟩
  · exact ⟨_,false,ev,jo_len (by simp) rfl (by simp [toPy,toPys,PyData.depth,PyData.depthAll]),fun z=>(by cases z)⟩
  · exact ⟨_,false,ev,bd _ _ _ (by unfold VB;dsimp only;omega),fun z=>(by cases z)⟩
  · exact ⟨_,false,ev,bd _ _ _ (by unfold VB;dsimp only;omega),fun z=>(by cases z)⟩
  · exact ⟨_,false,ev,bd _ _ _ (by unfold VB;dsimp only;omega),fun z=>(by cases z)⟩
  · exact ⟨_,false,ev,bd _ _ _ (by unfold VB;dsimp only;omega),fun z=>(by cases z)⟩
  · exact ⟨_,false,ev,jo_true ⟨hv.1,hv.2.1,hv.2.2.1⟩,fun z=>(by cases z)⟩
  · exact ⟨_,false,ev,jo_str m b2,fun z=>(by cases z)⟩
  · exact ⟨_,false,ev,bd _ _ _ (by unfold VB;dsimp only;omega),fun z=>(by cases z)⟩
  · have v:VB m (a,b2,4):=by unfold VB;dsimp only;omega
    have:=jo_bD m (a,b2,4)
    rw [decide_eq_true v] at this
    exact ⟨_,true,ev,this,fun _=>⟨(a,b2,4),rfl,v,rfl⟩⟩
  · exact ⟨_,false,ev,jo_nt rfl rfl (by simp [toPy,PyData.depth]),fun z=>(by cases z)⟩
def Agr (T:D):Prop:=∃ q:Bool,G_is_ground [T]=some (.bl q)/\G__law_is_ground [T]=some (.bl q)/\(q=true->eqOp T T=some (.bl true))
theorem agr_no {T:D} (h1:G_is_ground [T]=some (.bl false)) (h2:G__law_is_ground [T]=some (.bl false)):Agr T:=⟨false,h1,h2,fun z=>(by cases z)⟩
theorem eq_gD (m:Nat) (bs:List Bd):eqOp (gD ⟨m,bs⟩) (gD ⟨m,bs⟩)=some (.bl true):=by
  have e:bs.map bD=(bs.map fun b=>[b.1,b.2.1,b.2.2]).map kT:=by rw [List.map_map];rfl
  have h1:=dks_kT (bs.map fun b=>[b.1,b.2.1,b.2.2])
  have h2:=deps_kT (bs.map fun b=>[b.1,b.2.1,b.2.2])
  rw [<- e] at h1 h2
  have hd:dk (gD ⟨m,bs⟩)=true:=by unfold gD;simp [dk,dks,h1]
  have hp:dep (gD ⟨m,bs⟩)<=64:=by unfold gD;simp only [dep,deps];omega
  rw [eqOp_dk hd hd hp hp]
  simp
theorem agr_bs {m:Nat} {bs:List Bd} (m1:1<=m) (m5:m<=5) (hl:bs.length<=100) (hk:(∀ b∈bs,VB m b)->chkS (bs.map pr)=true):Agr (gD ⟨m,bs⟩):=by
  by_cases hv:∀ b∈bs,VB m b
  · refine ⟨_,ig_good m1 m5 hl hv,?_,fun _=>eq_gD m bs⟩
    rw [lg_good m1 m5 hl hv (hk hv)]
    cases r:riseP (bs.map pr) with
    | false=>rfl
    | true =>
      rw [jn_nm m1 m5 (fun p hp=>?_) r]
      obtain ⟨b,hb,rfl⟩:=List.mem_map.mp hp
      have v:=hv b hb
      unfold VB at v
      unfold pr
      dsimp only
      omega
  · have hb:(bs.map fun b=>(bD b,decide (VB m b))).all (·.2)=false:=by
      cases q:(bs.map fun b=>(bD b,decide (VB m b))).all (·.2) with
      | false=>rfl
      | true =>
        refine absurd (fun b hb=>?_) hv
        have:=List.all_eq_true.mp q _ (List.mem_map.mpr ⟨b,hb,rfl⟩)
        exact of_decide_eq_true this
    have hj:∀ j∈bs.map fun b=>(bD b,decide (VB m b)),Jo m j.1 j.2:=fun j hj=>by
      obtain ⟨b,_,rfl⟩:=List.mem_map.mp hj
      exact jo_bD m b
    have a:=ig_bad m1 m5 (by rw [List.length_map];exact hl) hj hb
    have b:=lg_bad m1 m5 (by rw [List.length_map];exact hl) hj hb
    rw [show ((bs.map fun b=>(bD b,decide (VB m b))).map (·.1))=bs.map bD by rw [List.map_map];rfl] at a b
    exact agr_no a b
theorem agr_int {i:Int} {bs:List Bd} (hl:bs.length<=100) (hk:∀ m:Nat,m<=5->(∀ b∈bs,VB m b)->chkS (bs.map pr)=true):Agr (.tup [.int i,.tup (bs.map bD)]):=by
  by_cases h:1<=i/\i<=5
  · have e:i=((i.toNat:Nat):Int):=by omega
    rw [e]
    exact agr_bs (m:=i.toNat) (by omega) (by omega) hl (hk _ (by omega))
  · exact agr_no (ig_out h) (lg_out h)
theorem rise_of {g:Gr} (h:GOk g):riseP (g.bs.map pr)=true:=by
  refine pw_rise ?_
  rw [List.map_map,List.pairwise_map]
  refine h.rise.imp_of_mem fun {a b} ha hb q=>?_
  have e:∀ x∈g.bs,(k2 ∘ pr) x=[x.1,x.2.1]:=fun x hx=>by
    have r:=h.rg x hx
    show [((x.1.toNat:Nat):Int),((x.2.1.toNat:Nat):Int)]=_
    rw [Int.toNat_of_nonneg r.1,Int.toNat_of_nonneg (by omega)]
  rw [e a ha,e b hb]
  exact q
theorem sub_ten {g:Gr} (h:GOk g):(g.bs.map pr).Sublist ten:=by
  refine sub_of (rise_pw (by decide)) (rise_pw (rise_of h)) fun p hp=>ten_mem ?_
  obtain ⟨b,hb,rfl⟩:=List.mem_map.mp hp
  have r:=h.rg b hb
  have:=h.n5
  unfold pr
  dsimp only
  omega
theorem chk_sub {S:List (Nat×Nat)} (h:S.Sublist ten):chkS S=true:=List.all_eq_true.mp chk_1 S (mem_subsL h)
theorem cut_last (ds:List D):cutD ds (some (-1)) none=ds.drop (ds.length - 1):=by
  unfold cutD
  have e1:HT.sIx ds.length 0 (some (-1))=ds.length - 1:=by
    show (if (-1:Int) < 0 then ((-1:Int)+(ds.length:Int)).toNat else min (-1:Int).toNat ds.length)=_
    rw [if_pos (by decide)];omega
  have e2:HT.sIx ds.length ds.length none=ds.length:=rfl
  rw [e1,e2]
  refine List.take_of_length_le ?_
  rw [List.length_drop]
  omega
theorem sp_way0 {g:Gr} (h:GOk g) {c:Int} (hw:c % 4=0):∃ T,G__law_spoilt [gD g,.int c]=some T/\Agr T:=by
  have n1:=h.n1
  have n5:=h.n5
  have w:1<=(g.n:Int)/\(g.n:Int)<=5:=by omega
  have it:itemsD (gD g)=some [.int g.n,.tup (g.bs.map bD)]:=rfl
  have i0:=gD_at0 g
  have i1:=gD_at1 g
  have a1:addTD (gD g) (.tup [.tup []])=some (.tup [.int g.n,.tup (g.bs.map bD),.tup []]):=addTT [_,_] [_] (by simp)
  have itJ:itemsD (.tup (g.bs.map bD))=some (g.bs.map bD):=rfl
  have t1:isD "tuple" (.lst [.int g.n,.tup (g.bs.map bD)])=some (.bl false):=rfl
  have t2:isD "tuple" (.lst (g.bs.map bD))=some (.bl false):=rfl
  have t3:isD "tuple" .non=some (.bl false):=rfl
  have b1:Agr (.lst [.int g.n,.tup (g.bs.map bD)]):=agr_no (ig_nt t1) (lg_nt t1)
  have b2:Agr (.tup [.int g.n]):=agr_no (ig_len (by simp)) (lg_len (by simp))
  have b3:Agr (.tup [.int g.n,.tup (g.bs.map bD),.tup []]):=agr_no (ig_len (by simp)) (lg_len (by simp))
  have b4:Agr (.tup [.int g.n,.lst (g.bs.map bD)]):=agr_no (ig_njt w t2) (lg_njt w t2)
  have b5:Agr .non:=agr_no (ig_nt t3) (lg_nt t3)
  have b6:Agr (.tup [.int g.n,.non]):=agr_no (ig_njt w t3) (lg_njt w t3)
  obtain ⟨d,hd,e⟩:=pickN (ds:=[.lst [.int g.n,.tup (g.bs.map bD)],.tup [.int g.n],.tup [.int g.n,.tup (g.bs.map bD),.tup []],.tup [.int g.n,.lst (g.bs.map bD)],.non,.tup [.int g.n,.non]]) (L:=6) rfl (by decide) (c / 4)
  refine ⟨d,?_,?_⟩
  · unfold G__law_spoilt F__law_spoilt
    generalize gD g=G at *
    generalize D.tup (g.bs.map bD)=J at *
    simp! only [i0,i1,Int.reduceLT,hw,eqOp_int,it,itJ,a1,lim0',lim1',lim2',lim3',lim6',fdiv_ok (i:=c) (j:=4) (by decide) (by decide),e]
  · simp only [List.mem_cons,List.mem_nil_iff,or_false] at hd
    rcases hd with rfl | rfl | rfl | rfl | rfl | rfl <;> assumption
theorem sp_way1 {g:Gr} (h:GOk g) {c:Int} (hw:c % 4=1):∃ T,G__law_spoilt [gD g,.int c]=some T/\Agr T:=by
  have i0:=gD_at0 g
  have i1:=gD_at1 g
  have hfew:=h.few
  have ag:∀ i:Int,Agr (.tup [.int i,.tup (g.bs.map bD)]):=fun i=>agr_int (by omega) fun _ _ _=>chk_sub (sub_ten h)
  have b3:Agr (.tup [.bl true,.tup (g.bs.map bD)]):=agr_no (ig_no rfl) (lg_no rfl)
  have b4:Agr (.tup [.str "2",.tup (g.bs.map bD)]):=agr_no (ig_no rfl) (lg_no rfl)
  obtain ⟨d,hd,e⟩:=pickN (ds:=[.int 0,.int 6,.bl true,.str "2",.int ((g.n:Int)+1),.int ((g.n:Int) - 1)]) (L:=6) rfl (by decide) (c / 4)
  refine ⟨.tup [d,.tup (g.bs.map bD)],?_,?_⟩
  · unfold G__law_spoilt F__law_spoilt
    generalize gD g=G at *
    generalize D.tup (g.bs.map bD)=J at *
    simp! only [i0,i1,Int.reduceLT,hw,eqOp_int,lim2',lim6',fdiv_ok (i:=c) (j:=4) (by decide) (by decide),e]
  · simp only [List.mem_cons,List.mem_nil_iff,or_false] at hd
    rcases hd with rfl | rfl | rfl | rfl | rfl | rfl
    · exact ag _
    · exact ag _
    · exact b3
    · exact b4
    · exact ag _
    · exact ag _
theorem eq_nilT (bs:List Bd):eqOp (.tup (bs.map bD)) (.tup [])=some (.bl (decide (bs=[]))):=by
  have e:bs.map bD=(bs.map fun b=>[b.1,b.2.1,b.2.2]).map kT:=by rw [List.map_map];rfl
  have h1:=dks_kT (bs.map fun b=>[b.1,b.2.1,b.2.2])
  have h2:=deps_kT (bs.map fun b=>[b.1,b.2.1,b.2.2])
  rw [<- e] at h1 h2
  rw [eqOp_dk (by simp only [dk];exact h1) rfl (by simp only [dep];omega) (by simp [dep,deps])]
  cases bs <;> simp
theorem sp_way2 {g:Gr} (h:GOk g) {c:Int} (hw:c % 4=2\/(c % 4=3/\g.bs=[])):∃ T,G__law_spoilt [gD g,.int c]=some T/\Agr T:=by
  have n1:=h.n1
  have n5:=h.n5
  have i0:=gD_at0 g
  have i1:=gD_at1 g
  have hfew:=h.few
  have st:=sub_ten h
  have hm:=mem_subsL st
  have s1:slD (.tup (g.bs.map bD)) (some (-1)) none=some (.tup ((g.bs.drop (g.bs.length - 1)).map bD)):=by
    show some (D.tup (cutD _ _ _))=_
    rw [cut_last,List.length_map,List.map_drop]
  have s2:slD (.tup (g.bs.map bD)) (some 1) none=some (.tup ((g.bs.drop 1).map bD)):=by
    show some (D.tup (cutD _ _ _))=_
    rw [show (some (1:Int))=some ((1:Nat):Int) from rfl,cut_drop,List.map_drop]
  have r1:revT (.tup (g.bs.map bD))=some (.tup (g.bs.reverse.map bD)):=by
    show some (D.tup _)=_
    rw [List.map_reverse]
  have a1:addTD (.tup (g.bs.map bD)) (.tup ((g.bs.drop (g.bs.length - 1)).map bD))=some (.tup ((g.bs++g.bs.drop (g.bs.length - 1)).map bD)):=by
    rw [addTT _ _ (by simp;omega),List.map_append]
  have a2:addTD (.tup [.tup [.int 0,.int 1,.int 1]]) (.tup (g.bs.map bD))=some (.tup (((0,1,1)::g.bs).map bD)):=by
    rw [addTT _ _ (by simp;omega),List.map_cons];rfl
  have ag:∀ cs:List Bd,cs.length<=100->chkS (cs.map pr)=true->Agr (.tup [.int g.n,.tup (cs.map bD)]):=fun cs hl hk=>agr_int hl fun _ _ _=>hk
  have b1:=ag g.bs.reverse (by rw [List.length_reverse];omega) (by rw [List.map_reverse];exact List.all_eq_true.mp chk_2 _ hm)
  have b2:=ag (g.bs++g.bs.drop (g.bs.length - 1)) (by simp;omega) (by
    have:=List.all_eq_true.mp chk_3 _ hm
    rw [List.length_map,<- List.map_drop,<- List.map_append] at this
    exact this)
  have b3:=ag (g.bs.drop 1) (by simp;omega) (by rw [List.map_drop];exact chk_sub ((List.drop_sublist _ _).trans st))
  have b4:=ag ((0,1,1)::g.bs) (by simp;omega) (by rw [List.map_cons];exact List.all_eq_true.mp chk_4 _ hm)
  obtain ⟨d,hd,e⟩:=pickN (ds:=[.tup (g.bs.reverse.map bD),.tup ((g.bs++g.bs.drop (g.bs.length - 1)).map bD),.tup ((g.bs.drop 1).map bD),.tup (((0,1,1)::g.bs).map bD)]) (L:=4) rfl (by decide) (c / 4)
  refine ⟨.tup [.int g.n,d],?_,?_⟩
  · have en:=eq_nilT g.bs
    unfold G__law_spoilt F__law_spoilt
    generalize gD g=G at *
    generalize D.tup (g.bs.reverse.map bD)=J1 at *
    generalize D.tup ((g.bs++g.bs.drop (g.bs.length - 1)).map bD)=J2 at *
    generalize D.tup ((g.bs.drop 1).map bD)=J3 at *
    generalize D.tup (((0,1,1)::g.bs).map bD)=J4 at *
    generalize D.tup ((g.bs.drop (g.bs.length - 1)).map bD)=J5 at *
    generalize D.tup (g.bs.map bD)=J at *
    rcases hw with hw | ⟨hw,hn⟩
    · simp! only [i0,i1,Int.reduceLT,Int.reduceNeg,hw,eqOp_int,lim1',lim2',lim3',lim4',fdiv_ok (i:=c) (j:=4) (by decide) (by decide),r1,s1,s2,a1,a2,e]
    · rw [decide_eq_true hn] at en
      simp! only [i0,i1,Int.reduceLT,Int.reduceNeg,hw,eqOp_int,lim0',en,lim1',lim2',lim3',lim4',fdiv_ok (i:=c) (j:=4) (by decide) (by decide),r1,s1,s2,a1,a2,e]
  · simp only [List.mem_cons,List.mem_nil_iff,or_false] at hd
    rcases hd with rfl | rfl | rfl | rfl <;> assumption
theorem sp_way3 {g:Gr} (h:GOk g) {c:Int} (hc:0<=c) (hw:c % 4=3) (hn:g.bs≠[]):∃ T,G__law_spoilt [gD g,.int c]=some T/\Agr T:=by
  have n1:=h.n1
  have n5:=h.n5
  have i0:=gD_at0 g
  have i1:=gD_at1 g
  have hfew:=h.few
  have hl:0 < g.bs.length:=List.length_pos_iff.mpr hn
  have hL:(0:Int) < (g.bs.length:Int):=by omega
  have en:=eq_nilT g.bs
  rw [decide_eq_false hn] at en
  have p0:=Int.emod_nonneg (c / 4) (show (g.bs.length:Int)≠0 by omega)
  have p1:=Int.emod_lt_of_pos (c / 4) hL
  obtain ⟨t,ht⟩:∃ t:Nat,c / 4 % (g.bs.length:Int)=(t:Int):=⟨(c / 4 % (g.bs.length:Int)).toNat,by omega⟩
  have htl:t < g.bs.length:=by omega
  have hb:g.bs[t]?=some g.bs[t]:=List.getElem?_eq_getElem htl
  have hv:=h.rg _ (List.mem_of_getElem? hb)
  obtain ⟨d,q,ej,jo,good⟩:=spoilt_join (m:=g.n) (b:=g.bs[t]) hv (c / 40)
  have ln:lenD [.tup (g.bs.map bD)]=some (.int g.bs.length):=by rw [lenD_t,List.length_map]
  have ix:ixD (.tup (g.bs.map bD)) (.int (t:Int))=some (bD g.bs[t]):=by
    rw [ixD_t]
    refine atI_ok (by omega) ?_
    rw [Int.toNat_natCast,List.getElem?_map,hb];rfl
  have s1:slD (.tup (g.bs.map bD)) none (some (t:Int))=some (.tup ((g.bs.take t).map bD)):=by
    show some (D.tup (cutD _ _ _))=_
    rw [cut_take,List.map_take]
  have s2:slD (.tup (g.bs.map bD)) (some ((t:Int)+1)) none=some (.tup ((g.bs.drop (t+1)).map bD)):=by
    show some (D.tup (cutD _ _ _))=_
    rw [show (t:Int)+1=((t+1:Nat):Int) by omega,cut_drop,List.map_drop]
  have a1:addTD (.tup ((g.bs.take t).map bD)) (.tup [d])=some (.tup ((g.bs.take t).map bD++[d])):=addTT _ _ (by simp;omega)
  have a2:addTD (.tup ((g.bs.take t).map bD++[d])) (.tup ((g.bs.drop (t+1)).map bD))=some (.tup ((g.bs.take t).map bD++[d]++(g.bs.drop (t+1)).map bD)):=addTT _ _ (by simp;omega)
  refine ⟨.tup [.int g.n,.tup ((g.bs.take t).map bD++[d]++(g.bs.drop (t+1)).map bD)],?_,?_⟩
  · unfold G__law_spoilt F__law_spoilt
    generalize gD g=G at *
    generalize D.tup ((g.bs.take t).map bD++[d]++(g.bs.drop (t+1)).map bD)=J3 at *
    generalize D.tup ((g.bs.take t).map bD++[d])=J2 at *
    generalize D.tup ((g.bs.take t).map bD)=J1 at *
    generalize D.tup ((g.bs.drop (t+1)).map bD)=J4 at *
    generalize D.tup (g.bs.map bD)=J at *
    have en':eqOp J (.tup [])=some (.bl false):=en
    simp! only [i0,i1,Int.reduceLT,Int.reduceNeg,hw,eqOp_int,lim0',en',lim1',lim2',fdiv_ok (i:=c) (j:=4) (by decide) (by decide),fdiv_ok (i:=c) (j:=40) (by decide) (by decide),ln,hL,ht,ix,ej,s1,s2,a1,a2]
  · cases q with
    | true =>
      obtain ⟨b',rfl,_,ep⟩:=good rfl
      have e:(g.bs.take t).map bD++[bD b']++(g.bs.drop (t+1)).map bD=(g.bs.take t++b'::g.bs.drop (t+1)).map bD:=by simp
      rw [e]
      refine agr_int (by simp;omega) fun _ _ _=>?_
      have e2:(g.bs.take t++b'::g.bs.drop (t+1)).map pr=g.bs.map pr:=by
        rw [List.map_append,List.map_cons,ep,<- List.map_cons,<- List.map_append]
        congr 1
        rw [List.getElem_cons_drop,List.take_append_drop]
      rw [e2]
      exact chk_sub (sub_ten h)
    | false =>
      have hj:∀ j∈(g.bs.take t).map (fun b=>(bD b,decide (VB g.n b)))++[(d,false)]++(g.bs.drop (t+1)).map (fun b=>(bD b,decide (VB g.n b))),Jo g.n j.1 j.2:=fun j hj=>by
        rcases List.mem_append.mp hj with hj | hj
        · rcases List.mem_append.mp hj with hj | hj
          · obtain ⟨b,_,rfl⟩:=List.mem_map.mp hj
            exact jo_bD _ b
          · rw [List.mem_singleton.mp hj];exact jo
        · obtain ⟨b,_,rfl⟩:=List.mem_map.mp hj
          exact jo_bD _ b
      have hb:((g.bs.take t).map (fun b=>(bD b,decide (VB g.n b)))++[(d,false)]++(g.bs.drop (t+1)).map (fun b=>(bD b,decide (VB g.n b)))).all (·.2)=false:=by
        simp
      have x:=ig_bad n1 n5 (by simp;omega) hj hb
      have y:=lg_bad n1 n5 (by simp;omega) hj hb
      have em:((g.bs.take t).map (fun b=>(bD b,decide (VB g.n b)))++[(d,false)]++(g.bs.drop (t+1)).map (fun b=>(bD b,decide (VB g.n b)))).map (·.1)=(g.bs.take t).map bD++[d]++(g.bs.drop (t+1)).map bD:=by
        rw [List.map_append,List.map_append,List.map_map,List.map_map];rfl
      rw [em] at x y
      exact agr_no x y
theorem spoilt_agr {g:Gr} (h:GOk g) {c:Int} (hc:0<=c):∃ T,G__law_spoilt [gD g,.int c]=some T/\Agr T:=by
  have:c % 4=0\/c % 4=1\/c % 4=2\/c % 4=3:=by omega
  rcases this with w | w | w | w
  · exact sp_way0 h w
  · exact sp_way1 h w
  · exact sp_way2 h (.inl w)
  · by_cases hn:g.bs=[]
    · exact sp_way2 h (.inr ⟨w,hn⟩)
    · exact sp_way3 h hc w hn
theorem pow6:powD (.int 10) (.int 6)=some (.int 1000000):=by
  show @ite _ _ (Classical.propDecidable _) _ _=_
  rw [if_pos ⟨by decide,by decide,by decide⟩]
  rfl
theorem law_end {T:D} (h:Agr T):(∃ q,G__law_is_ground [T]=some (.bl q)/\(q=true->G_checked [T]=some T/\eqOp T T=some (.bl true))/\(q=false->G__law_refused [T]=some (.bl true))):=by
  obtain ⟨q,h1,h2,h3⟩:=h
  refine ⟨q,h2,fun z=>⟨?_,h3 z⟩,fun z=>?_⟩
  · subst z
    unfold G_checked F_checked
    simp! only [h1]
  · subst z
    have hx:X_checked [T]=some ("NoGround":Str):=by
      unfold X_checked XF_checked xRun
      simp! only [xIf,h1]
      rfl
    have e1:L2.hits "NoGround" "NoGround"=true:=by decide +kernel
    have e2:L2.hits "NoGround" "YardError"=true:=by decide +kernel
    have m:("NoGround":Str)∈(["NoGround"]:List Str):=List.mem_singleton.mpr rfl
    unfold G__law_refused F__law_refused
    simp! only [sTry,xL,hx,m,e1,e2,sInc,eqOp_int]
theorem g_law (ns:List Int):G_law [.scr ns]=some (.bl true):=by
  obtain ⟨g,hg,_,eG⟩:=g_ground ns (a:=0) (t:=5) (by decide) (by decide) (by decide)
  have m30:=g_mixed ns (k:=30) (m:=3) (by decide) (by decide)
  have m31:=g_mixed ns (k:=31) (m:=1000000) (by decide) (by decide)
  have c0:0<=mix ns 31 1000000:=mix_lo (by decide)
  obtain ⟨S,eS,aS⟩:=spoilt_agr hg c0
  have a0:Agr (gD g):=agr_bs (m:=g.n) (bs:=g.bs) hg.n1 hg.n5 (by have:=hg.few;omega) fun _=>chk_sub (sub_ten hg)
  have eG':G__law_ground [.scr ns,.int 0,.int 5]=some (gD g):=eG
  have fin:∀ T,Agr T->sSeq (sIf (gTru (fL G__law_is_ground (fCons (fV 1) fN))) (sRet (f2 eqOp (fL G_checked (fCons (fV 1) fN)) (fV 1))) sNx) (sRet (fL G__law_refused (fCons (fV 1) fN))) [some (.val (.scr ns)),some (.val T)]=.rt (.bl true):=fun T hT=>by
    obtain ⟨q,h1,h2,h3⟩:=law_end hT
    cases q with
    | true=>simp! only [h1,(h2 rfl).1,(h2 rfl).2]
    | false=>simp! only [h1,h3 rfl]
  have st:start0 1 2 [D.scr ns]=[some (.val (.scr ns)),none]:=rfl
  have s1:sSet 1 (fL G__law_ground (fCons (fV 0) (fCons (fC (.int 0)) (fCons (fC (.int 5)) fN)))) [some (.val (.scr ns)),none]=.nx [some (.val (.scr ns)),some (.val (gD g))]:=by simp! only [eG']
  unfold G_law F_law runF
  rw [if_pos (show ([D.scr ns]:List D).length=1 from rfl),st,ap_seq,s1,oSeq_nx,ap_seq]
  by_cases hz:0 < mix ns 30 3
  · have s2:sIf (gB (f2 (intOp fun i j=>.bl (decide (j < i))) (fL G__law_mixed (fCons (fV 0) (fCons (fC (.int 30)) (fCons (fC (.int 3)) fN)))) (fC (.int 0)))) (sSet 1 (fL G__law_spoilt (fCons (fV 1) (fCons (fL G__law_mixed (fCons (fV 0) (fCons (fC (.int 31)) (fCons (f2 powD (fC (.int 10)) (fC (.int 6))) fN)))) fN)))) sNx [some (.val (.scr ns)),some (.val (gD g))]=.nx [some (.val (.scr ns)),some (.val S)]:=by
      simp! only [m30,hz,pow6,m31,eS]
    rw [s2,oSeq_nx,fin S aS]
  · have s2:sIf (gB (f2 (intOp fun i j=>.bl (decide (j < i))) (fL G__law_mixed (fCons (fV 0) (fCons (fC (.int 30)) (fCons (fC (.int 3)) fN)))) (fC (.int 0)))) (sSet 1 (fL G__law_spoilt (fCons (fV 1) (fCons (fL G__law_mixed (fCons (fV 0) (fCons (fC (.int 31)) (fCons (f2 powD (fC (.int 10)) (fC (.int 6))) fN)))) fN)))) sNx [some (.val (.scr ns)),some (.val (gD g))]=.nx [some (.val (.scr ns)),some (.val (gD g))]:=by
      simp! only [m30,hz]
    rw [s2,oSeq_nx,fin _ a0]
end P

namespace K1
open PySem L2 P
variable {Pr:Program} {w:World} {K:PySem.W.Frag} {mg:Str->Option Value} {base:Heap} {f:Addr} {fd:FuncData} {ad:Str->Addr}
def top (i:Nat):Stmt:=PySem.Challenge.pw_chipyard_k01_grounds.main.body.getD i (.Pass ⟨0,0,0,0⟩)
abbrev EL:List Str:=["NoGround"]
abbrev HLs:List Str:=["NoGround","YardError"]
abbrev s0:Stmt:=top 14
theorem t0:FnScope ["_law_script","_law_k"] ["_law_script","_law_k"] (defScope s0):=⟨rfl,rfl,rfl,by decide +kernel,rfl,by decide +kernel,by decide +kernel⟩
abbrev s1:Stmt:=top 15
theorem t1:FnScope ["_law_script","_law_k","_law_many","_law_drawn"] ["_law_script","_law_k","_law_many"] (defScope s1):=⟨rfl,rfl,rfl,by decide +kernel,rfl,by decide +kernel,by decide +kernel⟩
abbrev s2:Stmt:=top 16
theorem t2:FnScope ["_law_script","_law_at","_law_most","_law_many","_law_joins","_law_yard","_law_k","_law_one","_law_other","_law_pair"] ["_law_script","_law_at","_law_most"] (defScope s2):=⟨rfl,rfl,rfl,by decide +kernel,rfl,by decide +kernel,by decide +kernel⟩
abbrev s3:Stmt:=top 20
theorem t3:FnScope ["_law_join","_law_cell","_law_some"] ["_law_join","_law_cell"] (defScope s3):=⟨rfl,rfl,rfl,by decide +kernel,rfl,by decide +kernel,by decide +kernel⟩
abbrev s4:Stmt:=top 21
theorem t4:FnScope ["_law_ground_here","_law_cell","_law_joins","_law_way","_law_some","_law_at"] ["_law_ground_here","_law_cell"] (defScope s4):=⟨rfl,rfl,rfl,by decide +kernel,rfl,by decide +kernel,by decide +kernel⟩
abbrev s5:Stmt:=top 17
theorem t5:FnScope ["_law_found"] ["_law_found"] (defScope s5):=⟨rfl,rfl,rfl,by decide +kernel,rfl,by decide +kernel,by decide +kernel⟩
abbrev s6:Stmt:=top 18
theorem t6:FnScope ["_law_thing","_law_many"] ["_law_thing","_law_many"] (defScope s6):=⟨rfl,rfl,rfl,by decide +kernel,rfl,by decide +kernel,by decide +kernel⟩
abbrev s7:Stmt:=top 19
theorem t7:FnScope ["_law_thing","_law_pairs","_law_names","_law_a","_law_b"] ["_law_thing"] (defScope s7):=⟨rfl,rfl,rfl,by decide +kernel,rfl,by decide +kernel,by decide +kernel⟩
abbrev s8:Stmt:=top 7
theorem t8:FnScope ["thing"] ["thing"] (defScope s8):=⟨rfl,rfl,rfl,by decide +kernel,rfl,by decide +kernel,by decide +kernel⟩
abbrev s9:Stmt:=top 8
theorem t9:FnScope ["thing","least","most"] ["thing","least","most"] (defScope s9):=⟨rfl,rfl,rfl,by decide +kernel,rfl,by decide +kernel,by decide +kernel⟩
abbrev s10:Stmt:=top 10
theorem t10:FnScope ["many","thing"] ["many","thing"] (defScope s10):=⟨rfl,rfl,rfl,by decide +kernel,rfl,by decide +kernel,by decide +kernel⟩
abbrev s11:Stmt:=top 12
theorem t11:FnScope ["many","bundles","reached","round_number","a","b","number"] ["many","bundles"] (defScope s11):=⟨rfl,rfl,rfl,by decide +kernel,rfl,by decide +kernel,by decide +kernel⟩
abbrev s12:Stmt:=top 11
theorem t12:FnScope ["bundles"] ["bundles"] (defScope s12):=⟨rfl,rfl,rfl,by decide +kernel,rfl,by decide +kernel,by decide +kernel⟩
abbrev s13:Stmt:=top 9
theorem t13:FnScope ["thing","many","bundles"] ["thing"] (defScope s13):=⟨rfl,rfl,rfl,by decide +kernel,rfl,by decide +kernel,by decide +kernel⟩
abbrev s14:Stmt:=top 6
theorem t14:FnScope ["ground"] ["ground"] (defScope s14):=⟨rfl,rfl,rfl,by decide +kernel,rfl,by decide +kernel,by decide +kernel⟩
abbrev s15:Stmt:=top 22
theorem t15:FnScope ["_law_thing","_law_refused_here","e"] ["_law_thing"] (defScope s15):=⟨rfl,rfl,rfl,by decide +kernel,rfl,by decide +kernel,by decide +kernel⟩
abbrev s16:Stmt:=top 23
theorem t16:FnScope ["_law_script","_law_thing"] ["_law_script"] (defScope s16):=⟨rfl,rfl,rfl,by decide +kernel,rfl,by decide +kernel,by decide +kernel⟩
theorem d0 (Fu:Fun K "_law_cell_at" "_law_cell_at" s0 f fd) (hm:mg "_law_cell_at"=some (.ref f)) (Bt:BT mg) :
    Def Pr w K mg base "_law_cell_at" 1 ["_law_script","_law_k"] G__law_cell_at f fd:=by
  have nd:=t0.nd
  refine ⟨fn_data2 (k:=0) (F:=F__law_cell_at) Fu t0 rfl rfl rfl fun cdv A outer s H E hr=>?_,hm,Fu.kp,Fu.binds (ps:=["_law_script","_law_k"]) fun _ _ _ _ _ _ us hl=>match us,hl with | [_,_],_=>rfl⟩
  exact (svs_cons (sv_if (tv_cmp (opd_ltX hr.units0) (ev_var 1) (ev_callB cd_len Bt.len_ bb_len (av_cons (ev_var 0) av_nil))) (svs_one (sv_ret (ev_ix (ev_var 0) (ev_var 1)))) svs_nil)
    (svs_cons (sv_if (tv_cmp (opd_eq hr.units) (ev_var 0) (ev_lst av_nil)) (svs_one (sv_ret ev_int)) svs_nil)
    (svs_one (sv_ret (ev_op opd_add (ev_op opd_mul (ev_ix (ev_var 0) (ev_op opd_mod (ev_var 1) (ev_callB cd_len Bt.len_ bb_len (av_cons (ev_var 0) av_nil)))) ev_int) (ev_var 1))))))
theorem d1 (Fu:Fun K "_law_mixed" "_law_mixed" s1 f fd) (hm:mg "_law_mixed"=some (.ref f)) (Bt:BT mg)
    {f0:Addr} {e0:FuncData} (o0:Def Pr w K mg base "_law_cell_at" 1 ["_law_script","_law_k"] G__law_cell_at f0 e0) :
    Def Pr w K mg base "_law_mixed" 2 ["_law_script","_law_k","_law_many"] G__law_mixed f fd:=by
  have nd:=t1.nd
  refine ⟨fn_data2 (k:=1) (F:=F__law_mixed G__law_cell_at) Fu t1 rfl rfl rfl fun cdv A outer s H E hr=>?_,hm,Fu.kp,Fu.binds (ps:=["_law_script","_law_k","_law_many"]) fun _ _ _ _ _ _ us hl=>match us,hl with | [_,_,_],_=>rfl⟩
  exact (svs_cons (sv_set (i:=3) nd (ev_op opd_mod (ev_op opd_mul (ev_op opd_add (ev_op opd_add (ev_cd o0 hr (av_cons (ev_var 0) (av_cons (ev_var 1) av_nil))) (ev_op opd_mul ev_int (ev_var 1))) ev_int) ev_int) ev_int))
    (svs_one (sv_ret (ev_op opd_mod (ev_op opd_mod (ev_op opd_add (ev_op opd_add (ev_op opd_mul (ev_var 3) (ev_var 3)) (ev_op opd_mul ev_int (ev_var 3))) (ev_var 1)) ev_int) (ev_var 2)))))
theorem ng2_1:(["_law_pair","_law_joins"]:List Str).Nodup:=by decide +kernel
theorem d2 (Fu:Fun K "_law_ground" "_law_ground" s2 f fd) (hm:mg "_law_ground"=some (.ref f)) (Bt:BT mg)
    {f1:Addr} {e1:FuncData} (o1:Def Pr w K mg base "_law_mixed" 2 ["_law_script","_law_k","_law_many"] G__law_mixed f1 e1) :
    Def Pr w K mg base "_law_ground" 3 ["_law_script","_law_at","_law_most"] G__law_ground f fd:=by
  have nd:=t2.nd
  refine ⟨fn_data2 (k:=2) (F:=F__law_ground G__law_mixed) Fu t2 rfl rfl rfl fun cdv A outer s H E hr=>?_,hm,Fu.kp,Fu.binds (ps:=["_law_script","_law_at","_law_most"]) fun _ _ _ _ _ _ us hl=>match us,hl with | [_,_,_],_=>rfl⟩
  exact (svs_cons (sv_set (i:=3) nd (ev_op opd_add ev_int (ev_cd o1 hr (av_cons (ev_var 0) (av_cons (ev_var 1) (av_cons (ev_var 2) av_nil))))))
    (svs_cons (sv_ownT (i:=4) nd)
    (svs_cons (sv_forA PassesOwn.never rfl (iv_range2 Bt.range_ (av_cons ev_int (av_cons (ev_var 3) av_nil))) (gv_name (i:=5) nd) (svs_one (sv_dset (i:=4) hr.units (ev_tup (av_cons (ev_cd o1 hr (av_cons (ev_var 0) (av_cons (ev_op opd_add (ev_var 1) (ev_var 5)) (av_cons (ev_var 5) av_nil)))) (av_cons (ev_var 5) av_nil))) (ev_op opd_add ev_int (ev_op opd_fdiv (ev_cd o1 hr (av_cons (ev_var 0) (av_cons (ev_op opd_add (ev_op opd_add (ev_var 1) ev_int) (ev_var 5)) (av_cons ev_int av_nil)))) ev_int)))))
    (svs_cons (sv_forA PassesOwn.never rfl (iv_range1 Bt.range_ (av_cons (ev_op opd_mul (ev_cd o1 hr (av_cons (ev_var 0) (av_cons (ev_op opd_add (ev_var 1) ev_int) (av_cons ev_int av_nil)))) (ev_callTy cd_int Bt.int_ bb_int (av_cons (ev_cmp opd_gt (ev_var 3) ev_int) av_nil))) av_nil)) (gv_name (i:=6) nd) (svs_cons (sv_set (i:=7) nd (ev_cd o1 hr (av_cons (ev_var 0) (av_cons (ev_op opd_add (ev_op opd_add (ev_var 1) ev_int) (ev_op opd_mul ev_int (ev_var 6))) (av_cons (ev_var 3) av_nil)))))
    (svs_cons (sv_set (i:=8) nd (ev_op opd_mod (ev_op opd_add (ev_op opd_add (ev_var 7) ev_int) (ev_cd o1 hr (av_cons (ev_var 0) (av_cons (ev_op opd_add (ev_op opd_add (ev_var 1) ev_int) (ev_op opd_mul ev_int (ev_var 6))) (av_cons (ev_op opd_sub (ev_var 3) ev_int) av_nil))))) (ev_var 3)))
    (svs_cons (sv_set (i:=9) nd (ev_tup (av_cons (ev_callB (cd_min rfl) Bt.min_ bb_min (av_cons (ev_var 7) (av_cons (ev_var 8) av_nil))) (av_cons (ev_callB (cd_max rfl) Bt.max_ bb_max (av_cons (ev_var 7) (av_cons (ev_var 8) av_nil))) av_nil))))
    (svs_one (sv_dset (i:=4) hr.units (ev_var 9) (ev_op opd_add (ev_op opd_mod (ev_dgt hr.units (ev_var 4) (ev_var 9) ev_int) ev_int) ev_int)))))))
    (svs_one (sv_ret (ev_tup (av_cons (ev_var 3) (av_cons (ev_callTy cd_tuple Bt.tuple_ bb_tuple (av_cons (ev_comp ["_law_pair","_law_joins"] 1 [4] (gN_ok (by decide)) rfl (iv_seq (ev_callB (cd_sorted rfl hr.units) Bt.sorted_ bb_sorted (av_cons (ev_callTy (cd_listT rfl) Bt.list_ bb_list (av_cons (ev_var 4) av_nil)) av_nil))) (fun _ _ _ _ _=>(gv_name (i:=0) ng2_1)) (fun _ _ _ _ _=>tvs_nil) (fun _ _ _ _ _=>(ev_op opd_add (ev_var 0) (ev_tup (av_cons (ev_dix hr.units (ev_var 1) (ev_var 0)) av_nil))))) av_nil)) av_nil)))))))))
theorem d3 (Fu:Fun K "_law_spoilt_join" "_law_spoilt_join" s3 f fd) (hm:mg "_law_spoilt_join"=some (.ref f)) (Bt:BT mg) :
    Def Pr w K mg base "_law_spoilt_join" 1 ["_law_join","_law_cell"] G__law_spoilt_join f fd:=by
  have nd:=t3.nd
  refine ⟨fn_data2 (k:=0) (F:=F__law_spoilt_join) Fu t3 rfl rfl rfl fun cdv A outer s H E hr=>?_,hm,Fu.kp,Fu.binds (ps:=["_law_join","_law_cell"]) fun _ _ _ _ _ _ us hl=>match us,hl with | [_,_],_=>rfl⟩
  exact (svs_cons (sv_own (i:=2) nd (evf_lst (av_cons (EVF.ev (evf_list (ev_var 0) Bt.list_ bb_list)) (av_cons (ev_slice (ev_var 0) pd_none (pd_some ev_int)) (av_cons (ev_op opd_add (ev_var 0) (ev_tup (av_cons ev_int av_nil))) (av_cons (ev_tup (av_cons (ev_ix (ev_var 0) ev_int) (av_cons (ev_ix (ev_var 0) ev_int) (av_cons (ev_ix (ev_var 0) ev_int) av_nil)))) (av_cons (ev_tup (av_cons (ev_ix (ev_var 0) ev_int) (av_cons (ev_ix (ev_var 0) ev_int) (av_cons ev_int av_nil)))) (av_cons (ev_op opd_add (ev_slice (ev_var 0) pd_none (pd_some ev_int)) (ev_tup (av_cons ev_int av_nil))) av_nil))))))))
    (svs_cons (sv_ext (i:=2) (ev_lst (av_cons (ev_op opd_add (ev_slice (ev_var 0) pd_none (pd_some ev_int)) (ev_tup (av_cons ev_int av_nil))) (av_cons (ev_op opd_add (ev_slice (ev_var 0) pd_none (pd_some ev_int)) (ev_tup (av_cons ev_bl av_nil))) (av_cons (ev_tup (av_cons ev_str (av_cons (ev_ix (ev_var 0) ev_int) (av_cons ev_int av_nil)))) (av_cons (ev_tup (av_cons (ev_neg un_neg ev_int) (av_cons (ev_ix (ev_var 0) ev_int) (av_cons ev_int av_nil)))) (av_cons (ev_op opd_add (ev_slice (ev_var 0) pd_none (pd_some ev_int)) (ev_tup (av_cons ev_int av_nil))) (av_cons ev_non av_nil))))))) (h1:=ext_pe (i:=2) (ev_lst (av_cons (ev_op opd_add (ev_slice (ev_var 0) pd_none (pd_some ev_int)) (ev_tup (av_cons ev_int av_nil))) (av_cons (ev_op opd_add (ev_slice (ev_var 0) pd_none (pd_some ev_int)) (ev_tup (av_cons ev_bl av_nil))) (av_cons (ev_tup (av_cons ev_str (av_cons (ev_ix (ev_var 0) ev_int) (av_cons ev_int av_nil)))) (av_cons (ev_tup (av_cons (ev_neg un_neg ev_int) (av_cons (ev_ix (ev_var 0) ev_int) (av_cons ev_int av_nil)))) (av_cons (ev_op opd_add (ev_slice (ev_var 0) pd_none (pd_some ev_int)) (ev_tup (av_cons ev_int av_nil))) (av_cons ev_non av_nil)))))))))
    (svs_one (sv_ret (ev_ix (ev_var 2) (ev_op opd_mod (ev_var 1) ev_int))))))
theorem d4 (Fu:Fun K "_law_spoilt" "_law_spoilt" s4 f fd) (hm:mg "_law_spoilt"=some (.ref f)) (Bt:BT mg)
    {f3:Addr} {e3:FuncData} (o3:Def Pr w K mg base "_law_spoilt_join" 1 ["_law_join","_law_cell"] G__law_spoilt_join f3 e3) :
    Def Pr w K mg base "_law_spoilt" 2 ["_law_ground_here","_law_cell"] G__law_spoilt f fd:=by
  have nd:=t4.nd
  refine ⟨fn_data2 (k:=1) (F:=F__law_spoilt G__law_spoilt_join) Fu t4 rfl rfl rfl fun cdv A outer s H E hr=>?_,hm,Fu.kp,Fu.binds (ps:=["_law_ground_here","_law_cell"]) fun _ _ _ _ _ _ us hl=>match us,hl with | [_,_],_=>rfl⟩
  exact (svs_cons (sv_set (i:=2) nd (ev_ix (ev_var 0) ev_int))
    (svs_cons (sv_set (i:=3) nd (ev_op opd_mod (ev_var 1) ev_int))
    (svs_cons (sv_if (tv_cmp (opd_eq hr.units) (ev_var 3) ev_int) (svs_cons (sv_set (i:=4) nd (ev_lst (av_cons (EVF.ev (evf_list (ev_var 0) Bt.list_ bb_list)) (av_cons (ev_tup (av_cons (ev_ix (ev_var 0) ev_int) av_nil)) (av_cons (ev_op opd_addT (ev_var 0) (ev_tup (av_cons (ev_tup av_nil) av_nil))) (av_cons (ev_tup (av_cons (ev_ix (ev_var 0) ev_int) (av_cons (EVF.ev (evf_list (ev_var 2) Bt.list_ bb_list)) av_nil))) (av_cons ev_non (av_cons (ev_tup (av_cons (ev_ix (ev_var 0) ev_int) (av_cons ev_non av_nil))) av_nil))))))))
    (svs_one (sv_ret (ev_ix (ev_var 4) (ev_op opd_mod (ev_op opd_fdiv (ev_var 1) ev_int) ev_int))))) svs_nil)
    (svs_cons (sv_if (tv_cmp (opd_eq hr.units) (ev_var 3) ev_int) (svs_one (sv_ret (ev_tup (av_cons (ev_ix (ev_lst (av_cons ev_int (av_cons ev_int (av_cons ev_bl (av_cons ev_str (av_cons (ev_op opd_add (ev_ix (ev_var 0) ev_int) ev_int) (av_cons (ev_op opd_sub (ev_ix (ev_var 0) ev_int) ev_int) av_nil))))))) (ev_op opd_mod (ev_op opd_fdiv (ev_var 1) ev_int) ev_int)) (av_cons (ev_var 2) av_nil))))) svs_nil)
    (svs_cons (sv_if (WV.tv (wv_or (tv_cmp (opd_eq hr.units) (ev_var 3) ev_int) (wv_or1 (tv_cmp (opd_eq hr.units) (ev_var 2) (ev_tup av_nil))))) (svs_one (sv_ret (ev_tup (av_cons (ev_ix (ev_var 0) ev_int) (av_cons (ev_ix (ev_lst (av_cons (ev_revT (ev_var 2)) (av_cons (ev_op opd_addT (ev_var 2) (ev_slice (ev_var 2) (pd_some (ev_neg un_neg ev_int)) pd_none)) (av_cons (ev_slice (ev_var 2) (pd_some ev_int) pd_none) (av_cons (ev_op opd_addT (ev_tup (av_cons (ev_tup (av_cons ev_int (av_cons ev_int (av_cons ev_int av_nil)))) av_nil)) (ev_var 2)) av_nil))))) (ev_op opd_mod (ev_op opd_fdiv (ev_var 1) ev_int) ev_int)) av_nil))))) svs_nil)
    (svs_cons (sv_set (i:=5) nd (ev_op opd_mod (ev_op opd_fdiv (ev_var 1) ev_int) (ev_callB cd_len Bt.len_ bb_len (av_cons (ev_var 2) av_nil))))
    (svs_one (sv_ret (ev_tup (av_cons (ev_ix (ev_var 0) ev_int) (av_cons (ev_op opd_addT (ev_op opd_addT (ev_slice (ev_var 2) pd_none (pd_some (ev_var 5))) (ev_tup (av_cons (ev_cd o3 hr (av_cons (ev_ix (ev_var 2) (ev_var 5)) (av_cons (ev_op opd_fdiv (ev_var 1) ev_int) av_nil))) av_nil))) (ev_slice (ev_var 2) (pd_some (ev_op opd_add (ev_var 5) ev_int)) pd_none)) av_nil)))))))))))
theorem d5 (Fu:Fun K "_law_whole" "_law_whole" s5 f fd) (hm:mg "_law_whole"=some (.ref f)) (Bt:BT mg) :
    Def Pr w K mg base "_law_whole" 1 ["_law_found"] G__law_whole f fd:=by
  have nd:=t5.nd
  refine ⟨fn_data2 (k:=0) (F:=F__law_whole) Fu t5 rfl rfl rfl fun cdv A outer s H E hr=>?_,hm,Fu.kp,Fu.binds (ps:=["_law_found"]) fun _ _ _ _ _ _ us hl=>match us,hl with | [_],_=>rfl⟩
  exact (svs_one (sv_ret (ev_and (ev_isinst kits_int (ev_var 0) Bt.isinstance Bt.int_ bb_int) (ev_one (ev_not (ev_isinst kits_bool (ev_var 0) Bt.isinstance Bt.bool_ bb_bool))))))
theorem ng6_1:(["_law_part"]:List Str).Nodup:=by decide +kernel
theorem d6 (Fu:Fun K "_law_is_join" "_law_is_join" s6 f fd) (hm:mg "_law_is_join"=some (.ref f)) (Bt:BT mg)
    {f5:Addr} {e5:FuncData} (o5:Def Pr w K mg base "_law_whole" 1 ["_law_found"] G__law_whole f5 e5) :
    Def Pr w K mg base "_law_is_join" 2 ["_law_thing","_law_many"] G__law_is_join f fd:=by
  have nd:=t6.nd
  refine ⟨fn_data2 (k:=1) (F:=F__law_is_join G__law_whole) Fu t6 rfl rfl rfl fun cdv A outer s H E hr=>?_,hm,Fu.kp,Fu.binds (ps:=["_law_thing","_law_many"]) fun _ _ _ _ _ _ us hl=>match us,hl with | [_,_],_=>rfl⟩
  exact (svs_cons (sv_if (WV.tv (wv_or (tv_not (tv_val (ev_isinst kits_tuple (ev_var 0) Bt.isinstance Bt.tuple_ bb_tuple))) (wv_or (tv_cmp (opd_ne hr.units) (ev_callB cd_len Bt.len_ bb_len (av_cons (ev_var 0) av_nil)) ev_int) (wv_or1 (tv_cmp (opd_ne hr.units) (ev_comp ["_law_part"] 1 [] (gN_ok (by decide)) rfl (iv_seq (ev_var 0)) (fun _ _ _ _ _=>(gv_name (i:=0) ng6_1)) (fun _ _ _ _ _=>(tvs_one (tv_not (tv_val (ev_cd o5 hr (av_cons (ev_var 0) av_nil)))))) (fun _ _ _ _ _=>(ev_var 0))) (ev_lst av_nil)))))) (svs_one (sv_ret ev_bl)) svs_nil)
    (svs_one (sv_ret (ev_and (ev_cmp opd_le ev_int (ev_ix (ev_var 0) ev_int)) (ev_and (ev_cmp (opd_ltX hr.units0) (ev_ix (ev_var 0) ev_int) (ev_ix (ev_var 0) ev_int)) (ev_and (ev_cmp (opd_ltX hr.units0) (ev_ix (ev_var 0) ev_int) (ev_var 1)) (ev_and (ev_cmp opd_le ev_int (ev_ix (ev_var 0) ev_int)) (ev_one (ev_cmp opd_le (ev_ix (ev_var 0) ev_int) ev_int)))))))))
theorem ng7_1:(["_law_join","_law_thing"]:List Str).Nodup:=by decide +kernel
theorem ng7_2:(["_law_join"]:List Str).Nodup:=by decide +kernel
theorem ng7_3:(["_law_yard"]:List Str).Nodup:=by decide +kernel
theorem ng7_4:(["_law_name","_law_names","_law_a","_law_b"]:List Str).Nodup:=by decide +kernel
theorem d7 (Fu:Fun K "_law_is_ground" "_law_is_ground" s7 f fd) (hm:mg "_law_is_ground"=some (.ref f)) (Bt:BT mg)
    {f5:Addr} {e5:FuncData} (o5:Def Pr w K mg base "_law_whole" 1 ["_law_found"] G__law_whole f5 e5)
    {f6:Addr} {e6:FuncData} (o6:Def Pr w K mg base "_law_is_join" 2 ["_law_thing","_law_many"] G__law_is_join f6 e6) :
    Def Pr w K mg base "_law_is_ground" 3 ["_law_thing"] G__law_is_ground f fd:=by
  have nd:=t7.nd
  refine ⟨fn_data2 (k:=2) (F:=F__law_is_ground G__law_whole G__law_is_join) Fu t7 rfl rfl rfl fun cdv A outer s H E hr=>?_,hm,Fu.kp,Fu.binds (ps:=["_law_thing"]) fun _ _ _ _ _ _ us hl=>match us,hl with | [_],_=>rfl⟩
  exact (svs_cons (sv_if (WV.tv (wv_or (tv_not (tv_val (ev_isinst kits_tuple (ev_var 0) Bt.isinstance Bt.tuple_ bb_tuple))) (wv_or (tv_cmp (opd_ne hr.units) (ev_callB cd_len Bt.len_ bb_len (av_cons (ev_var 0) av_nil)) ev_int) (wv_or (tv_not (tv_val (ev_cd o5 hr (av_cons (ev_ix (ev_var 0) ev_int) av_nil)))) (wv_or (tv_cmp (opd_ltX hr.units0) (ev_ix (ev_var 0) ev_int) ev_int) (wv_or1 (tv_cmp opd_gt (ev_ix (ev_var 0) ev_int) ev_int))))))) (svs_one (sv_ret ev_bl)) svs_nil)
    (svs_cons (sv_if (WV.tv (wv_or (tv_not (tv_val (ev_isinst kits_tuple (ev_ix (ev_var 0) ev_int) Bt.isinstance Bt.tuple_ bb_tuple))) (wv_or1 (tv_cmp (opd_ne hr.units) (ev_comp ["_law_join","_law_thing"] 1 [0] (gN_ok (by decide)) rfl (iv_seq (ev_ix (ev_var 0) ev_int)) (fun _ _ _ _ _=>(gv_name (i:=0) ng7_1)) (fun _ _ _ _ _=>(tvs_one (tv_not (tv_val (ev_cd o6 hr (av_cons (ev_var 0) (av_cons (ev_ix (ev_var 1) ev_int) av_nil))))))) (fun _ _ _ _ _=>(ev_var 0))) (ev_lst av_nil))))) (svs_one (sv_ret ev_bl)) svs_nil)
    (svs_cons (sv_setC (i:=1) ["_law_join"] 1 [] (gN_ok (by decide)) nd rfl (iv_seq (ev_ix (ev_var 0) ev_int)) (fun _ _ _ _ _=>(gv_name (i:=0) ng7_2)) (fun _ _ _ _ _=>tvs_nil) (fun _ _ _ _ _=>(ev_slice (ev_var 0) pd_none (pd_some ev_int))))
    (svs_cons (sv_set (i:=2) nd (ev_comp ["_law_yard"] 1 [] (gN_ok (by decide)) rfl (IVA.iv (iv_range1 Bt.range_ (av_cons (ev_ix (ev_var 0) ev_int) av_nil))) (fun _ _ _ _ _=>(gv_name (i:=0) ng7_3)) (fun _ _ _ _ _=>tvs_nil) (fun _ _ _ _ _=>(ev_var 0))))
    (svs_cons (sv_for PassesOwn.never rfl (iv_seq (ev_var 1)) (gv_tup (ix:=[3,4]) rfl (pgs_cons (pg_nameX 3 nd) (pgs_cons (pg_nameX 4 nd) pgs_nil))) (svs_one (sv_set (i:=2) nd (ev_comp ["_law_name","_law_names","_law_a","_law_b"] 1 [2,3,4] (gN_ok (by decide)) rfl (iv_seq (ev_var 2)) (fun _ _ _ _ _=>(gv_name (i:=0) ng7_4)) (fun _ _ _ _ _=>tvs_nil) (fun _ _ _ _ _=>(ev_ix (ev_lst (av_cons (ev_var 0) (av_cons (ev_ix (ev_var 1) (ev_var 2)) av_nil))) (ev_callTy cd_int Bt.int_ bb_int (av_cons (ev_cmp (opd_eq hr.units) (ev_var 0) (ev_ix (ev_var 1) (ev_var 3))) av_nil))))))))
    (svs_one (sv_ret (ev_and (ev_cmp (opd_eq hr.units) (ev_var 1) (ev_sortset (ev_var 1) rfl hr.units Bt.sorted_ Bt.set_)) (ev_one (ev_cmp (opd_eq hr.units) (ev_lenset (ev_var 2) rfl hr.units Bt.len_ Bt.set_) ev_int))))))))))
theorem d8 (Fu:Fun K "is_number" "is_number" s8 f fd) (hm:mg "is_number"=some (.ref f)) (Bt:BT mg) :
    Def Pr w K mg base "is_number" 1 ["thing"] G_is_number f fd:=by
  have nd:=t8.nd
  refine ⟨fn_data2 (k:=0) (F:=F_is_number) Fu t8 rfl rfl rfl fun cdv A outer s H E hr=>?_,hm,Fu.kp,Fu.binds (ps:=["thing"]) fun _ _ _ _ _ _ us hl=>match us,hl with | [_],_=>rfl⟩
  exact (svs_one (sv_ret (ev_and (ev_isinst kits_int (ev_var 0) Bt.isinstance Bt.int_ bb_int) (ev_one (ev_not (ev_isinst kits_bool (ev_var 0) Bt.isinstance Bt.bool_ bb_bool))))))
theorem d9 (Fu:Fun K "is_number_within" "is_number_within" s9 f fd) (hm:mg "is_number_within"=some (.ref f)) (Bt:BT mg)
    {f8:Addr} {e8:FuncData} (o8:Def Pr w K mg base "is_number" 1 ["thing"] G_is_number f8 e8) :
    Def Pr w K mg base "is_number_within" 2 ["thing","least","most"] G_is_number_within f fd:=by
  have nd:=t9.nd
  refine ⟨fn_data2 (k:=1) (F:=F_is_number_within G_is_number) Fu t9 rfl rfl rfl fun cdv A outer s H E hr=>?_,hm,Fu.kp,Fu.binds (ps:=["thing","least","most"]) fun _ _ _ _ _ _ us hl=>match us,hl with | [_,_,_],_=>rfl⟩
  exact (svs_one (sv_ret (ev_and (ev_cd o8 hr (av_cons (ev_var 0) av_nil)) (ev_one (ev_chain opd_le opd_le (ev_var 1) (ev_var 0) (ev_var 2))))))
theorem d10 (Fu:Fun K "is_bundle" "is_bundle" s10 f fd) (hm:mg "is_bundle"=some (.ref f)) (Bt:BT mg)
    {f9:Addr} {e9:FuncData} (o9:Def Pr w K mg base "is_number_within" 2 ["thing","least","most"] G_is_number_within f9 e9)
    (c_MOST_LINES:∃ t,mg "MOST_LINES"=some (.int 4 t)) :
    Def Pr w K mg base "is_bundle" 3 ["many","thing"] G_is_bundle f fd:=by
  have nd:=t10.nd
  refine ⟨fn_data2 (k:=2) (F:=F_is_bundle G_is_number_within) Fu t10 rfl rfl rfl fun cdv A outer s H E hr=>?_,hm,Fu.kp,Fu.binds (ps:=["many","thing"]) fun _ _ _ _ _ _ us hl=>match us,hl with | [_,_],_=>rfl⟩
  exact (svs_cons (sv_if (WV.tv (wv_or (tv_not (tv_val (ev_isinst kits_tuple (ev_var 1) Bt.isinstance Bt.tuple_ bb_tuple))) (wv_or1 (tv_cmp (opd_ne hr.units) (ev_callB cd_len Bt.len_ bb_len (av_cons (ev_var 1) av_nil)) ev_int)))) (svs_one (sv_ret ev_bl)) svs_nil)
    (svs_cons (sv_if (tv_not (tv_val (ev_cd o9 hr (av_cons (ev_ix (ev_var 1) ev_int) (av_cons ev_int (av_cons (ev_op opd_sub (ev_var 0) ev_int) av_nil)))))) (svs_one (sv_ret ev_bl)) svs_nil)
    (svs_one (sv_ret (ev_and (ev_cd o9 hr (av_cons (ev_ix (ev_var 1) ev_int) (av_cons (ev_op opd_add (ev_ix (ev_var 1) ev_int) ev_int) (av_cons (ev_op opd_sub (ev_var 0) ev_int) av_nil)))) (ev_one (ev_cd o9 hr (av_cons (ev_ix (ev_var 1) ev_int) (av_cons ev_int (av_cons (ev_gint c_MOST_LINES) av_nil))))))))))
theorem d11 (Fu:Fun K "is_joined" "is_joined" s11 f fd) (hm:mg "is_joined"=some (.ref f)) (Bt:BT mg) :
    Def Pr w K mg base "is_joined" 1 ["many","bundles"] G_is_joined f fd:=by
  have nd:=t11.nd
  refine ⟨fn_data2 (k:=0) (F:=F_is_joined) Fu t11 rfl rfl rfl fun cdv A outer s H E hr=>?_,hm,Fu.kp,Fu.binds (ps:=["many","bundles"]) fun _ _ _ _ _ _ us hl=>match us,hl with | [_,_],_=>rfl⟩
  exact (svs_cons (sv_own1 (i:=2) nd)
    (svs_cons (sv_forA PassesOwn.never rfl (iv_range1 Bt.range_ (av_cons (ev_var 0) av_nil)) (gv_name (i:=3) nd) (svs_one (sv_for PassesOwn.never rfl (iv_seq (ev_var 1)) (gv_tup (ix:=[4,5,6]) rfl (pgs_cons (pg_nameX 4 nd) (pgs_cons (pg_nameX 5 nd) (pgs_cons (pg_nameX 6 nd) pgs_nil)))) (svs_one (sv_if (WV.tv (wv_or (tv_cmp (opd_in hr.units) (ev_var 4) (ev_var 2)) (wv_or1 (tv_cmp (opd_in hr.units) (ev_var 5) (ev_var 2))))) (svs_cons (sv_dset (i:=2) hr.units (ev_var 4) ev_bl)
    (svs_one (sv_dset (i:=2) hr.units (ev_var 5) ev_bl))) svs_nil)))))
    (svs_one (sv_ret (ev_cmp (opd_eq hr.units) (ev_callB cd_lenK Bt.len_ bb_len (av_cons (ev_var 2) av_nil)) (ev_var 0))))))
theorem ng12_1:(["one","other"]:List Str).Nodup:=by decide +kernel
theorem d12 (Fu:Fun K "do_rise" "do_rise" s12 f fd) (hm:mg "do_rise"=some (.ref f)) (Bt:BT mg) :
    Def Pr w K mg base "do_rise" 1 ["bundles"] G_do_rise f fd:=by
  have nd:=t12.nd
  refine ⟨fn_data2 (k:=0) (F:=F_do_rise) Fu t12 rfl rfl rfl fun cdv A outer s H E hr=>?_,hm,Fu.kp,Fu.binds (ps:=["bundles"]) fun _ _ _ _ _ _ us hl=>match us,hl with | [_],_=>rfl⟩
  exact (svs_one (sv_ret (ev_callB (cd_all rfl) Bt.all_ bb_all (av_cons (ev_comp ["one","other"] 2 [] (gT_ok rfl) rfl (iv_zip Bt.zip_ (ev_var 0) (ev_slice (ev_var 0) (pd_some ev_int) pd_none)) (fun _ _ _ _ _=>(gv_tup (ix:=[0,1]) rfl (pgs_cons (pg_nameX 0 ng12_1) (pgs_cons (pg_nameX 1 ng12_1) pgs_nil)))) (fun _ _ _ _ _=>tvs_nil) (fun _ _ _ _ _=>(ev_cmp (opd_ltX hr.units0) (ev_slice (ev_var 0) pd_none (pd_some ev_int)) (ev_slice (ev_var 1) pd_none (pd_some ev_int))))) av_nil))))
theorem ng13_1:(["bundle","many"]:List Str).Nodup:=by decide +kernel
theorem d13 (Fu:Fun K "is_ground" "is_ground" s13 f fd) (hm:mg "is_ground"=some (.ref f)) (Bt:BT mg)
    {f9:Addr} {e9:FuncData} (o9:Def Pr w K mg base "is_number_within" 2 ["thing","least","most"] G_is_number_within f9 e9)
    {f10:Addr} {e10:FuncData} (o10:Def Pr w K mg base "is_bundle" 3 ["many","thing"] G_is_bundle f10 e10)
    {f11:Addr} {e11:FuncData} (o11:Def Pr w K mg base "is_joined" 1 ["many","bundles"] G_is_joined f11 e11)
    {f12:Addr} {e12:FuncData} (o12:Def Pr w K mg base "do_rise" 1 ["bundles"] G_do_rise f12 e12)
    (c_MOST_YARDS:∃ t,mg "MOST_YARDS"=some (.int 5 t)) :
    Def Pr w K mg base "is_ground" 4 ["thing"] G_is_ground f fd:=by
  have nd:=t13.nd
  refine ⟨fn_data2 (k:=3) (F:=F_is_ground G_is_number_within G_is_bundle G_is_joined G_do_rise) Fu t13 rfl rfl rfl fun cdv A outer s H E hr=>?_,hm,Fu.kp,Fu.binds (ps:=["thing"]) fun _ _ _ _ _ _ us hl=>match us,hl with | [_],_=>rfl⟩
  exact (svs_cons (sv_if (WV.tv (wv_or (tv_not (tv_val (ev_isinst kits_tuple (ev_var 0) Bt.isinstance Bt.tuple_ bb_tuple))) (wv_or1 (tv_cmp (opd_ne hr.units) (ev_callB cd_len Bt.len_ bb_len (av_cons (ev_var 0) av_nil)) ev_int)))) (svs_one (sv_ret ev_bl)) svs_nil)
    (svs_cons (sv_set (i:=1) nd (ev_ix (ev_var 0) ev_int))
    (svs_cons (sv_set (i:=2) nd (ev_ix (ev_var 0) ev_int))
    (svs_cons (sv_if (WV.tv (wv_or (tv_not (tv_val (ev_cd o9 hr (av_cons (ev_var 1) (av_cons ev_int (av_cons (ev_gint c_MOST_YARDS) av_nil)))))) (wv_or1 (tv_not (tv_val (ev_isinst kits_tuple (ev_var 2) Bt.isinstance Bt.tuple_ bb_tuple)))))) (svs_one (sv_ret ev_bl)) svs_nil)
    (svs_cons (sv_if (tv_not (tv_val (ev_callB (cd_all rfl) Bt.all_ bb_all (av_cons (ev_comp ["bundle","many"] 1 [1] (gN_ok (by decide)) rfl (iv_seq (ev_var 2)) (fun _ _ _ _ _=>(gv_name (i:=0) ng13_1)) (fun _ _ _ _ _=>tvs_nil) (fun _ _ _ _ _=>(ev_cd o10 hr (av_cons (ev_var 1) (av_cons (ev_var 0) av_nil))))) av_nil)))) (svs_one (sv_ret ev_bl)) svs_nil)
    (svs_one (sv_ret (ev_and (ev_cd o12 hr (av_cons (ev_var 2) av_nil)) (ev_one (ev_cd o11 hr (av_cons (ev_var 1) (av_cons (ev_var 2) av_nil))))))))))))
theorem d14 (Fu:Fun K "checked" "checked" s14 f fd) (hm:mg "checked"=some (.ref f)) (Bt:BT mg)
    {f13:Addr} {e13:FuncData} (o13:Def Pr w K mg base "is_ground" 4 ["thing"] G_is_ground f13 e13) :
    Def Pr w K mg base "checked" 5 ["ground"] G_checked f fd:=by
  have nd:=t14.nd
  refine ⟨fn_data2 (k:=4) (F:=F_checked G_is_ground) Fu t14 rfl rfl rfl fun cdv A outer s H E hr=>?_,hm,Fu.kp,Fu.binds (ps:=["ground"]) fun _ _ _ _ _ _ us hl=>match us,hl with | [_],_=>rfl⟩
  exact (svs_cons (sv_if (tv_not (tv_val (ev_cd o13 hr (av_cons (ev_var 0) av_nil)))) svs_bad svs_nil)
    (svs_one (sv_ret (ev_var 0))))
theorem dx14 (Fu:Fun K "checked" "checked" s14 f fd) (hm:mg "checked"=some (.ref f)) (Bt:BT mg) (ex:EX K mg ad EL HLs) (ve:VE K ad EL) (z_VE:mg "ValueError"=none)
    {f13:Addr} {e13:FuncData} (o13:Def Pr w K mg base "is_ground" 4 ["thing"] G_is_ground f13 e13) :
    DefX Pr w K mg base ad "checked" 5 ["ground"] X_checked f fd:=by
  have nd:=t14.nd
  refine ⟨fn_dataX (k:=4) (F:=XF_checked G_is_ground) Fu t14 rfl rfl rfl fun cdv A outer s H E hr x=>?_,hm,Fu.kp,Fu.binds (ps:=["ground"]) fun _ _ _ _ _ _ us hl=>match us,hl with | [_],_=>rfl⟩
  exact (xss_here (xs_if (tv_not (tv_val (ev_cd o13 hr (av_cons (ev_var 0) av_nil)))) (xss_here (xs_raise x (ex.ox "NoGround" (by simp)))) xss_no))
theorem d15 (Fu:Fun K "_law_refused" "_law_refused" s15 f fd) (hm:mg "_law_refused"=some (.ref f)) (Bt:BT mg) (ex:EX K mg ad EL HLs) (ve:VE K ad EL) (z_VE:mg "ValueError"=none)
    {f14:Addr} {e14:FuncData} (q14:DefX Pr w K mg base ad "checked" 5 ["ground"] X_checked f14 e14) :
    Def Pr w K mg base "_law_refused" 6 ["_law_thing"] G__law_refused f fd:=by
  have nd:=t15.nd
  refine ⟨fn_data2 (k:=5) (F:=F__law_refused X_checked) Fu t15 rfl rfl rfl fun cdv A outer s H E hr=>?_,hm,Fu.kp,Fu.binds (ps:=["_law_thing"]) fun _ _ _ _ _ _ us hl=>match us,hl with | [_],_=>rfl⟩
  exact (svs_cons (sv_set (i:=1) nd ev_int)
    (svs_cons (sv_try q14 hr (fun _=>(av_cons (ev_var 0) av_nil)) (hv_own ex (fun _=>(svs_one (sv_set (i:=1) nd (ev_op opd_add (ev_var 1) ev_int)))) hv_nil))
    (svs_cons (sv_try q14 hr (fun _=>(av_cons (ev_var 0) av_nil)) (hv_asI (i:=2) (j:=1) ex ve nd Bt.isinstance z_VE Bt.int_ hv_nil))
    (svs_one (sv_ret (ev_cmp (opd_eq hr.units) (ev_var 1) ev_int))))))
theorem d16 (Fu:Fun K "law" "law" s16 f fd) (hm:mg "law"=some (.ref f)) (Bt:BT mg)
    {f2:Addr} {e2:FuncData} (o2:Def Pr w K mg base "_law_ground" 3 ["_law_script","_law_at","_law_most"] G__law_ground f2 e2)
    {f1:Addr} {e1:FuncData} (o1:Def Pr w K mg base "_law_mixed" 2 ["_law_script","_law_k","_law_many"] G__law_mixed f1 e1)
    {f4:Addr} {e4:FuncData} (o4:Def Pr w K mg base "_law_spoilt" 2 ["_law_ground_here","_law_cell"] G__law_spoilt f4 e4)
    {f7:Addr} {e7:FuncData} (o7:Def Pr w K mg base "_law_is_ground" 3 ["_law_thing"] G__law_is_ground f7 e7)
    {f14:Addr} {e14:FuncData} (o14:Def Pr w K mg base "checked" 5 ["ground"] G_checked f14 e14)
    {f15:Addr} {e15:FuncData} (o15:Def Pr w K mg base "_law_refused" 6 ["_law_thing"] G__law_refused f15 e15) :
    Def Pr w K mg base "law" 7 ["_law_script"] G_law f fd:=by
  have nd:=t16.nd
  refine ⟨fn_data2 (k:=6) (F:=F_law G__law_ground G__law_mixed G__law_spoilt G__law_is_ground G_checked G__law_refused) Fu t16 rfl rfl rfl fun cdv A outer s H E hr=>?_,hm,Fu.kp,Fu.binds (ps:=["_law_script"]) fun _ _ _ _ _ _ us hl=>match us,hl with | [_],_=>rfl⟩
  exact (svs_cons (sv_set (i:=1) nd (ev_cd o2 hr (av_cons (ev_var 0) (av_cons ev_int (av_cons ev_int av_nil)))))
    (svs_cons (sv_if (tv_cmp opd_gt (ev_cd o1 hr (av_cons (ev_var 0) (av_cons ev_int (av_cons ev_int av_nil)))) ev_int) (svs_one (sv_set (i:=1) nd (ev_cd o4 hr (av_cons (ev_var 1) (av_cons (ev_cd o1 hr (av_cons (ev_var 0) (av_cons ev_int (av_cons (ev_op opd_pow ev_int ev_int) av_nil)))) av_nil))))) svs_nil)
    (svs_cons (sv_if (tv_val (ev_cd o7 hr (av_cons (ev_var 1) av_nil))) (svs_one (sv_ret (ev_cmp (opd_eq hr.units) (ev_cd o14 hr (av_cons (ev_var 1) av_nil)) (ev_var 1)))) svs_nil)
    (svs_one (sv_ret (ev_cd o15 hr (av_cons (ev_var 1) av_nil)))))))
def spLaw (K:PySem.W.Frag):Sp:=fun vs H Q _=>∃ (a:Addr) (ns:List Int),vs=[.ref a]/\SqL K H a (ns.map V.int)/\ns.length<=63/\∀ H',Q (.bl true) H'
theorem all_mk {L:PySem.W.OpenLaw} {w:World} {K:PySem.W.Frag} {h:Heap} {mg:Str->Option Value} {fa f:Addr} (X:K.In h) (G:h.Ns mainGlobals mg) (hfa:mg "law"=some (.ref fa)) {od an:Option Addr} {sl:Array (Option Value)} {oc kV dc pm cd ct:Value} {t_MOST_LINES:Tok} {t_MOST_YARDS:Tok} {a_NoGround:Addr} {a_YardError:Addr}
    (h0:FH K "_law_cell_at" s0)
    (h1:FH K "_law_mixed" s1)
    (h2:FH K "_law_ground" s2)
    (h3:FH K "_law_spoilt_join" s3)
    (h4:FH K "_law_spoilt" s4)
    (h5:FH K "_law_whole" s5)
    (h6:FH K "_law_is_join" s6)
    (h7:FH K "_law_is_ground" s7)
    (h8:FH K "is_number" s8)
    (h9:FH K "is_number_within" s9)
    (h10:FH K "is_bundle" s10)
    (h11:FH K "is_joined" s11)
    (h12:FH K "do_rise" s12)
    (h13:FH K "is_ground" s13)
    (h14:FH K "checked" s14)
    (h15:FH K "_law_refused" s15)
    (a:PySem.W.nsIn K mainGlobals "law"=some (some (.ref f))) (l:K.lookup f=some ⟨oc,od,.func (PySem.W.fnOf "law" "law" (defArgs s16) (defBody s16) (defScope s16) .none kV dc pm an cd ct),sl⟩) (c:PySem.W.codeIn K cd "law"=true) (k:PySem.W.keepIn K (.ref f)=true)
    (z_len:PySem.W.nsIn K mainGlobals "len"=some none)
    (z_range:PySem.W.nsIn K mainGlobals "range"=some none)
    (z_sum:PySem.W.nsIn K mainGlobals "sum"=some none)
    (z_all:PySem.W.nsIn K mainGlobals "all"=some none)
    (z_any:PySem.W.nsIn K mainGlobals "any"=some none)
    (z_min:PySem.W.nsIn K mainGlobals "min"=some none)
    (z_max:PySem.W.nsIn K mainGlobals "max"=some none)
    (z_sorted:PySem.W.nsIn K mainGlobals "sorted"=some none)
    (z_zip:PySem.W.nsIn K mainGlobals "zip"=some none)
    (z_enumerate:PySem.W.nsIn K mainGlobals "enumerate"=some none)
    (z_isinstance:PySem.W.nsIn K mainGlobals "isinstance"=some none)
    (z_tuple:PySem.W.nsIn K mainGlobals "tuple"=some none)
    (z_list:PySem.W.nsIn K mainGlobals "list"=some none)
    (z_int:PySem.W.nsIn K mainGlobals "int"=some none)
    (z_bool:PySem.W.nsIn K mainGlobals "bool"=some none)
    (z_set:PySem.W.nsIn K mainGlobals "set"=some none)
    (z_ValueError:PySem.W.nsIn K mainGlobals "ValueError"=some none)
    (y_MOST_LINES:PySem.W.nsIn K mainGlobals "MOST_LINES"=some (some (.int 4 t_MOST_LINES)))
    (y_MOST_YARDS:PySem.W.nsIn K mainGlobals "MOST_YARDS"=some (some (.int 5 t_MOST_YARDS)))
    (v_NoGround:PySem.W.nsIn K mainGlobals "NoGround"=some (some (.ref a_NoGround)))
    (v_YardError:PySem.W.nsIn K mainGlobals "YardError"=some (some (.ref a_YardError)))
    (w_NoGround:PySem.W.excIn K a_NoGround bmVE "ValueError.__new__"=true)
    (w_YardError:PySem.W.excIn K a_YardError bmVE "ValueError.__new__"=true)
    (u_NoGround_NoGround:subIn K a_NoGround (.ref a_NoGround)=true)
    (u_NoGround_YardError:subIn K a_NoGround (.ref a_YardError)=true)
    (t_NoGround:PySem.W.kitCls K (.ref a_NoGround) (.type "ValueError")=some true)
    : ∃ fd:FuncData,(∀ (s:Shared) (v:Value),BindsTo s fd ⟨[v],[]⟩ [("_law_script",v)])/\∀ base:Heap,K.In base->base.Ns mainGlobals mg->FnOk L.prog w K mg base CX0 7 fa fd ["_law_script"] (spLaw K):=by
  have e:=hfa.symm.trans (PySem.W.mg_of X G a)
  cases e
  have Bt:BT mg:=⟨PySem.W.mg_none_of X G z_len,PySem.W.mg_none_of X G z_range,PySem.W.mg_none_of X G z_sum,PySem.W.mg_none_of X G z_all,PySem.W.mg_none_of X G z_any,PySem.W.mg_none_of X G z_min,PySem.W.mg_none_of X G z_max,PySem.W.mg_none_of X G z_sorted,PySem.W.mg_none_of X G z_zip,PySem.W.mg_none_of X G z_enumerate,PySem.W.mg_none_of X G z_isinstance,PySem.W.mg_none_of X G z_tuple,PySem.W.mg_none_of X G z_list,PySem.W.mg_none_of X G z_int,PySem.W.mg_none_of X G z_bool,PySem.W.mg_none_of X G z_set⟩
  obtain ⟨ad,hd⟩:∃ ad:Str->Addr,ad "NoGround"=a_NoGround/\ad "YardError"=a_YardError:=⟨fun x=>if x="NoGround" then a_NoGround else a_YardError,(by show (if _ then _ else _)=_;rw [if_pos rfl]),(by show (if _ then _ else _)=_;rw [if_neg (by decide +kernel)])⟩
  obtain ⟨g_NoGround,g_YardError⟩:=hd
  have ex:EX K mg ad EL HLs:=by
    refine ⟨fun c hc=>?_,fun c hc=>?_,fun c hc h hh=>?_⟩
    · simp only [List.mem_cons,List.mem_nil_iff,or_false] at hc
      rcases hc with rfl
      · rw [g_NoGround];exact ⟨PySem.W.mg_of X G v_NoGround,w_NoGround⟩
    · simp only [List.mem_cons,List.mem_nil_iff,or_false] at hc
      rcases hc with rfl | rfl
      · rw [g_NoGround];exact ⟨PySem.W.mg_of X G v_NoGround,w_NoGround⟩
      · rw [g_YardError];exact ⟨PySem.W.mg_of X G v_YardError,w_YardError⟩
    · simp only [List.mem_cons,List.mem_nil_iff,or_false] at hc hh
      rcases hc with rfl
      · rcases hh with rfl | rfl
        · rw [g_NoGround,u_NoGround_NoGround];decide +kernel
        · rw [g_NoGround,g_YardError,u_NoGround_YardError];decide +kernel
  have ve:VE K ad EL:=by
    intro c hc
    simp only [List.mem_cons,List.mem_nil_iff,or_false] at hc
    rcases hc with rfl
    · rw [g_NoGround];exact t_NoGround
  refine ⟨PySem.W.fnOf "law" "law" (defArgs s16) (defBody s16) (defScope s16) .none kV dc pm an cd ct,fun s v=>.of_eq rfl,fun base _ _=>?_⟩
  obtain ⟨_,_,a0,u0⟩:=h0
  obtain ⟨_,_,a1,u1⟩:=h1
  obtain ⟨_,_,a2,u2⟩:=h2
  obtain ⟨_,_,a3,u3⟩:=h3
  obtain ⟨_,_,a4,u4⟩:=h4
  obtain ⟨_,_,a5,u5⟩:=h5
  obtain ⟨_,_,a6,u6⟩:=h6
  obtain ⟨_,_,a7,u7⟩:=h7
  obtain ⟨_,_,a8,u8⟩:=h8
  obtain ⟨_,_,a9,u9⟩:=h9
  obtain ⟨_,_,a10,u10⟩:=h10
  obtain ⟨_,_,a11,u11⟩:=h11
  obtain ⟨_,_,a12,u12⟩:=h12
  obtain ⟨_,_,a13,u13⟩:=h13
  obtain ⟨_,_,a14,u14⟩:=h14
  obtain ⟨_,_,a15,u15⟩:=h15
  have o0:=d0 (Pr:=L.prog) (w:=w) (base:=base) u0 (PySem.W.mg_of X G a0) Bt
  have o1:=d1 (Pr:=L.prog) (w:=w) (base:=base) u1 (PySem.W.mg_of X G a1) Bt o0
  have o2:=d2 (Pr:=L.prog) (w:=w) (base:=base) u2 (PySem.W.mg_of X G a2) Bt o1
  have o3:=d3 (Pr:=L.prog) (w:=w) (base:=base) u3 (PySem.W.mg_of X G a3) Bt
  have o4:=d4 (Pr:=L.prog) (w:=w) (base:=base) u4 (PySem.W.mg_of X G a4) Bt o3
  have o5:=d5 (Pr:=L.prog) (w:=w) (base:=base) u5 (PySem.W.mg_of X G a5) Bt
  have o6:=d6 (Pr:=L.prog) (w:=w) (base:=base) u6 (PySem.W.mg_of X G a6) Bt o5
  have o7:=d7 (Pr:=L.prog) (w:=w) (base:=base) u7 (PySem.W.mg_of X G a7) Bt o5 o6
  have o8:=d8 (Pr:=L.prog) (w:=w) (base:=base) u8 (PySem.W.mg_of X G a8) Bt
  have o9:=d9 (Pr:=L.prog) (w:=w) (base:=base) u9 (PySem.W.mg_of X G a9) Bt o8
  have o10:=d10 (Pr:=L.prog) (w:=w) (base:=base) u10 (PySem.W.mg_of X G a10) Bt o9 ⟨_,PySem.W.mg_of X G y_MOST_LINES⟩
  have o11:=d11 (Pr:=L.prog) (w:=w) (base:=base) u11 (PySem.W.mg_of X G a11) Bt
  have o12:=d12 (Pr:=L.prog) (w:=w) (base:=base) u12 (PySem.W.mg_of X G a12) Bt
  have o13:=d13 (Pr:=L.prog) (w:=w) (base:=base) u13 (PySem.W.mg_of X G a13) Bt o9 o10 o11 o12 ⟨_,PySem.W.mg_of X G y_MOST_YARDS⟩
  have o14:=d14 (Pr:=L.prog) (w:=w) (base:=base) u14 (PySem.W.mg_of X G a14) Bt o13
  have q14:=dx14 (Pr:=L.prog) (w:=w) (base:=base) u14 (PySem.W.mg_of X G a14) Bt ex ve (PySem.W.mg_none_of X G z_ValueError) o13
  have o15:=d15 (Pr:=L.prog) (w:=w) (base:=base) u15 (PySem.W.mg_of X G a15) Bt ex ve (PySem.W.mg_none_of X G z_ValueError) q14
  have o16:=d16 (Pr:=L.prog) (w:=w) (base:=base) (fun_mk (st:=s16) l c k) (PySem.W.mg_of X G a) Bt o2 o1 o4 o7 o14 o15
  refine o16.ok.imp fun vs H Q E hs=>?_
  obtain ⟨a,ns,rfl,hS,h63,q⟩:=hs
  refine ⟨[],[.scr ns],.bl true,fun a m=>(by cases m),⟨_,_,rfl,⟨a,rfl,by rw [mask_nil];exact hS⟩,rfl⟩,g_law ns,fun v H' s r=>?_⟩
  have:v=.bl true:=r
  subst this
  exact q H'
theorem walk {l:PySem.W.OpenLaw} {q:Program} {loose:List Str} {XP:(Str->Option Value)->Heap->Prop} {YP:World->Heap->Prop} {d:DefRec} {K:Params->PySem.W.Frag} (hn:l.most=some 63) (hdf:d.params.defaults=[])
    (hY:∀ (w:World) (h:Heap),YP w h->(K w.params).In h)
    (F:∀ (w:World) (mg:Str->Option Value) (fa:Addr) (h:Heap),(K w.params).In h->h.Ns mainGlobals mg->mg d.name=some (.ref fa) ->
      ∃ fd:FuncData,(∀ (s:Shared) (u:Value),BindsTo s fd ⟨[u],[]⟩ [("_law_script",u)])/\∀ base:Heap,(K w.params).In base->base.Ns mainGlobals mg->FnOk l.prog w (K w.params) mg base CX0 7 fa fd ["_law_script"] (spLaw (K w.params))) :
    PySem.W.WalkO q loose XP YP l.row.toRowW d [] (fun f vs=>PySem.call f vs) :=
  L2.walk_of (n:=63) (k:=7) (x:="_law_script") (CX:=fun _=>CX0) (sp:=fun w=>spLaw (K w.params)) hn (by decide) hdf ⟨rfl,by decide,by decide⟩ hY F (fun _ _ a ns hl _ hS=>⟨a,ns,rfl,hS,hl,fun _=>rfl⟩) fun _ _ _ _ _ z=>z
end K1

end
-- stand-ins: the head of the last proof goes without these twins, and the built file stays small
def PySem.W.Fast.tw13978785281245770015 : Unit := ()
def PySem.W.Fast.tw5841046685958665321 : Unit := ()
def PySem.W.Fast.tw11194562342444601303 : Unit := ()
def PySem.W.Fast.tw11974807622442306874 : Unit := ()
def PySem.W.Fast.tw16240326825934352476 : Unit := ()
def PySem.W.Fast.tw12412083938883058682 : Unit := ()
def PySem.W.Fast.tw13154753626335533921 : Unit := ()
def PySem.W.Fast.tw15627421117828958479 : Unit := ()
def PySem.W.Fast.tw10017936365857669240 : Unit := ()
def PySem.W.Fast.tw2956607085773760711 : Unit := ()
def PySem.W.Fast.tw9066273291084244731 : Unit := ()
def PySem.W.Fast.tw9511617241840047451 : Unit := ()
def PySem.W.Fast.tw4629629410868952098 : Unit := ()
def PySem.W.Fast.tw4629063056338770588 : Unit := ()
def PySem.W.Fast.tw11996602663856689229 : Unit := ()
def PySem.W.Fast.tw5665853808767448228 : Unit := ()
def PySem.W.Fast.tw6828926270397050028 : Unit := ()
def PySem.W.Fast.tw12537436200784085316 : Unit := ()
def PySem.W.Fast.tw16883538821768186029 : Unit := ()
def PySem.W.Fast.tw50632774201372407 : Unit := ()
def PySem.W.Fast.tw11831448168737403618 : Unit := ()
def PySem.W.Fast.tw8656072511008337878 : Unit := ()
def PySem.W.Fast.tw796817526972918228 : Unit := ()
def PySem.W.Fast.tw17437132849151636573 : Unit := ()
def PySem.W.Fast.tw13864029479927192943 : Unit := ()
def PySem.W.Fast.tw14427092333029667725 : Unit := ()
def PySem.W.Fast.tw11513946463035996564 : Unit := ()
def PySem.W.Fast.tw13919801899763033385 : Unit := ()
def PySem.W.Fast.tw12734518234652658590 : Unit := ()
def PySem.W.Fast.tw3509296227540547928 : Unit := ()
def PySem.W.Fast.tw14615950989739438983 : Unit := ()
def PySem.W.Fast.tw14130559054332423928 : Unit := ()
def PySem.W.Fast.tw12896208715884299898 : Unit := ()
def PySem.W.Fast.tw15959187169147278013 : Unit := ()
def PySem.W.Fast.tw10698899895037478048 : Unit := ()
def PySem.W.Fast.tw2208059482650009411 : Unit := ()
def PySem.W.Fast.tw16800135850935499529 : Unit := ()
def PySem.W.Fast.tw3461598355314828187 : Unit := ()
def PySem.W.Fast.tw12629181219378327770 : Unit := ()
def PySem.W.Fast.tw3777155295135764034 : Unit := ()
def PySem.W.Fast.tw7056810013144596367 : Unit := ()
def PySem.W.Fast.tw6113891134463494458 : Unit := ()
def PySem.W.Fast.tw12898988962786880745 : Unit := ()
def PySem.W.Fast.tw5014544252704239914 : Unit := ()
def PySem.W.Fast.tw15623073139536218414 : Unit := ()
def PySem.W.Fast.tw3656531328559238231 : Unit := ()
def PySem.W.Fast.tw10874899356828202553 : Unit := ()
def PySem.W.Fast.tw8677663213135620842 : Unit := ()
def PySem.W.Fast.tw17227256951779136499 : Unit := ()
def PySem.W.Fast.tw3093044286478374018 : Unit := ()
def PySem.W.Fast.tw7898284890030831150 : Unit := ()
def PySem.W.Fast.tw14066716785413520436 : Unit := ()
def PySem.W.Fast.tw1621593143361805825 : Unit := ()
def PySem.W.Fast.tw10691200710015769458 : Unit := ()
open PySem PySem.W PyProof.Rows
set_option maxRecDepth 100000 in
set_option maxHeartbeats 0 in
theorem PySem.Challenge.cw_chipyard_k01_grounds_holds : PySem.Challenge.rw_chipyard_k01_grounds.Holds := by
  w_on;o_law;k_head;(case hw=>w_witness2)
  k_fill
  refine K1.walk (l:=PySem.Challenge.rw_chipyard_k01_grounds) rfl rfl (fun w h Y=>PySem.W.kIn_of Y) ?F
  case F =>
    intro w mg fa h KX G hmg
    refine' K1.all_mk KX G hmg (L2.fh ?a0 ?l0 ?c0 ?k0) (L2.fh ?a1 ?l1 ?c1 ?k1) (L2.fh ?a2 ?l2 ?c2 ?k2) (L2.fh ?a3 ?l3 ?c3 ?k3) (L2.fh ?a4 ?l4 ?c4 ?k4) (L2.fh ?a5 ?l5 ?c5 ?k5) (L2.fh ?a6 ?l6 ?c6 ?k6) (L2.fh ?a7 ?l7 ?c7 ?k7) (L2.fh ?a8 ?l8 ?c8 ?k8) (L2.fh ?a9 ?l9 ?c9 ?k9) (L2.fh ?a10 ?l10 ?c10 ?k10) (L2.fh ?a11 ?l11 ?c11 ?k11) (L2.fh ?a12 ?l12 ?c12 ?k12) (L2.fh ?a13 ?l13 ?c13 ?k13) (L2.fh ?a14 ?l14 ?c14 ?k14) (L2.fh ?a15 ?l15 ?c15 ?k15) ?a ?l ?c ?k ?z68 ?z69 ?z70 ?z71 ?z72 ?z73 ?z74 ?z75 ?z76 ?z77 ?z78 ?z79 ?z80 ?z81 ?z82 ?z83 ?z84 ?z85 ?z86 ?z87 ?z88 ?z89 ?z90 ?z91 ?z92 ?z93
    (case a0=>k_is)
    (case l0=>k_is)
    (case c0=>k_is)
    (case k0=>k_is)
    (case a1=>k_is)
    (case l1=>k_is)
    (case c1=>k_is)
    (case k1=>k_is)
    (case a2=>k_is)
    (case l2=>k_is)
    (case c2=>k_is)
    (case k2=>k_is)
    (case a3=>k_is)
    (case l3=>k_is)
    (case c3=>k_is)
    (case k3=>k_is)
    (case a4=>k_is)
    (case l4=>k_is)
    (case c4=>k_is)
    (case k4=>k_is)
    (case a5=>k_is)
    (case l5=>k_is)
    (case c5=>k_is)
    (case k5=>k_is)
    (case a6=>k_is)
    (case l6=>k_is)
    (case c6=>k_is)
    (case k6=>k_is)
    (case a7=>k_is)
    (case l7=>k_is)
    (case c7=>k_is)
    (case k7=>k_is)
    (case a8=>k_is)
    (case l8=>k_is)
    (case c8=>k_is)
    (case k8=>k_is)
    (case a9=>k_is)
    (case l9=>k_is)
    (case c9=>k_is)
    (case k9=>k_is)
    (case a10=>k_is)
    (case l10=>k_is)
    (case c10=>k_is)
    (case k10=>k_is)
    (case a11=>k_is)
    (case l11=>k_is)
    (case c11=>k_is)
    (case k11=>k_is)
    (case a12=>k_is)
    (case l12=>k_is)
    (case c12=>k_is)
    (case k12=>k_is)
    (case a13=>k_is)
    (case l13=>k_is)
    (case c13=>k_is)
    (case k13=>k_is)
    (case a14=>k_is)
    (case l14=>k_is)
    (case c14=>k_is)
    (case k14=>k_is)
    (case a15=>k_is)
    (case l15=>k_is)
    (case c15=>k_is)
    (case k15=>k_is)
    (case a=>k_is)
    (case l=>k_is)
    (case c=>k_is)
    (case k=>k_is)
    (case z68=>k_is)
    (case z69=>k_is)
    (case z70=>k_is)
    (case z71=>k_is)
    (case z72=>k_is)
    (case z73=>k_is)
    (case z74=>k_is)
    (case z75=>k_is)
    (case z76=>k_is)
    (case z77=>k_is)
    (case z78=>k_is)
    (case z79=>k_is)
    (case z80=>k_is)
    (case z81=>k_is)
    (case z82=>k_is)
    (case z83=>k_is)
    (case z84=>k_is)
    (case z85=>k_is)
    (case z86=>k_is)
    (case z87=>k_is)
    (case z88=>k_is)
    (case z89=>k_exc)
    (case z90=>k_exc)
    (case z91=>rfl)
    (case z92=>rfl)
    (case z93=>rfl)

